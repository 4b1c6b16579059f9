/- Contract of the reference's Read: it reads what the program reads. -/
import Derived.Test.YtgnmjdcmaahlnaaGreatXQk
import Derived.Test.YtgnmjdcmaahlnaaGreatXm
import Derived.Deep.Cut
namespace Go.Proofs.YtgnmjdcmaahlnaaGreat
open Go.RowKit Go.Sort

theorem isP_of_bytes {p : PageD} (h : bytesD p ≠ []) : isPB p = true := by
  cases hi : isPB p with
  | true => rfl
  | false => exact absurd (by rw [bytesD, hi]; rfl) h
theorem okR_split {l : List UInt8} (h : okR l = true) : isPB (readV l) = true ∧ bytesD (readV l) = l ∧ nS (l, false) = (bodyD (readV l), false) ∧ nV (l, false) = sumN (bodyD (readV l)) := by
  simp only [okR, Bool.and_eq_true, Bool.not_eq_true', decide_eq_true_eq] at h
  obtain ⟨h1, h2⟩ := h
  have hne : l ≠ [] := by rintro rfl; simp at h1
  have hi : isPB (readV l) = true := isP_of_bytes (by rw [h2]; exact hne)
  have hl : l = lowB (sumN (bodyD (readV l))) 8 ++ bodyD (readV l) := by
    conv => lhs; rw [← h2, bytesD, if_pos hi]
  have hs := sumN_lt (bodyD (readV l))
  have e := low_enc (sumN (bodyD (readV l))) (by omega) (by omega) (bodyD (readV l))
  rw [← hl] at e
  exact ⟨hi, h2, e.2, by have := e.1; omega⟩
theorem ref_val {l : List UInt8} (h : okR l = true) : pageR (nS (l, false)) = readV l ∧ pageT (nS (l, false)) = ([], false) := by
  obtain ⟨hi, _, h3, _⟩ := okR_split h
  rw [h3]
  exact pageR_enc _ hi (txnOk_pageV _)
theorem ref_ok (l : List UInt8) : okR l = true ↔ (nS (l, false)).2 = false ∧ nV (l, false) = sumN (nS (l, false)).1 ∧ (pageT (nS (l, false))).2 = false ∧ (pageT (nS (l, false))).1 = [] ∧ isPB (pageR (nS (l, false))) = true ∧ bytesD (pageR (nS (l, false))) = l := by
  constructor
  · intro h
    obtain ⟨hi, h2, h3, h4⟩ := okR_split h
    obtain ⟨h5, h6⟩ := ref_val h
    rw [h5, h6, h3]
    exact ⟨rfl, h4, rfl, rfl, hi, h2⟩
  · rintro ⟨_, _, _, _, h5, h6⟩
    have := (okR_bytes _ h5 (txnOk_pageR _).1).1
    rwa [h6] at this
def readN (l : List UInt8) : Int := if okR l then 0 else 12
set_option maxRecDepth 10000 in
set_option maxHeartbeats 4000000 in
theorem rread_a (l : List UInt8) (w : World) (hl : l.length ≤ maxLen) (h1 : (nS (l, false)).2 = true) :
    Calls Tryz.prog 16 #[.string (bs l)] w fun e w' => ∃ vi vk vd vv vf, e = .returned (.tuple #[.agg (pageCells (readD l) vi vk vd vv vf).toArray, .int .i64 (readN l)]) ∧ Hangs w' (readD l) vi vk vd vv vf ∧ Below w.heap.size w w' := by
  have hok : okR l = false := by
    rw [← Bool.not_eq_true, ref_ok]
    intro hh
    rw [h1] at hh; exact absurd hh.1 (by simp)
  have hRD : readD l = noPage := by rw [readD, hok]; rfl
  have hRN : readN l = 12 := by rw [readN, hok]; rfl
  rw [hRD, hRN]
  clear hRD hRN hok
  have hb0 : Below w.heap.size w ((w.alloc (.cells #[.int .i64 0, .slice none 0 0, .slice none 0 0, .slice none 0 0, .string ⟨#[]⟩, .slice none 0 0, .slice none 0 0, .int .i64 0, .int .u64 0, .int .i64 0, .int .i64 0, .int .i64 0, .int .i64 0, .int .i64 0] 50)).alloc (.cells #[.string (bs l), .bool false] 63)) := ((Below.refl _ _).alloc (Nat.le_refl _) _).alloc (by simp) _
  have hR0 : ((w.alloc (.cells #[.int .i64 0, .slice none 0 0, .slice none 0 0, .slice none 0 0, .string ⟨#[]⟩, .slice none 0 0, .slice none 0 0, .int .i64 0, .int .u64 0, .int .i64 0, .int .i64 0, .int .i64 0, .int .i64 0, .int .i64 0] 50)).alloc (.cells #[.string (bs l), .bool false] 63)).heap[w.heap.size]? = some (.cells #[.int .i64 0, .slice none 0 0, .slice none 0 0, .slice none 0 0, .string ⟨#[]⟩, .slice none 0 0, .slice none 0 0, .int .i64 0, .int .u64 0, .int .i64 0, .int .i64 0, .int .i64 0, .int .i64 0, .int .i64 0] 50 (0, 0)) := (Below.heap_alloc _ _ _ (by simp)).trans (heap_newL w _)
  have hC0 : RSt ((w.alloc (.cells #[.int .i64 0, .slice none 0 0, .slice none 0 0, .slice none 0 0, .string ⟨#[]⟩, .slice none 0 0, .slice none 0 0, .int .i64 0, .int .u64 0, .int .i64 0, .int .i64 0, .int .i64 0, .int .i64 0, .int .i64 0] 50)).alloc (.cells #[.string (bs l), .bool false] 63)) (w.heap.size + 1) (l, false) := by
    refine ⟨?_, hl⟩
    have := heap_newL (w.alloc (.cells #[.int .i64 0, .slice none 0 0, .slice none 0 0, .slice none 0 0, .string ⟨#[]⟩, .slice none 0 0, .slice none 0 0, .int .i64 0, .int .u64 0, .int .i64 0, .int .i64 0, .int .i64 0, .int .i64 0, .int .i64 0] 50)) (.cells #[.string (bs l), .bool false] 63)
    rwa [World.size_alloc] at this
  have HN := hid (fun W (hW : RSt W (w.heap.size + 1) (l, false)) => rnumC_any (w.heap.size + 1) (l, false) W hW)
  have hTX := txnOk_pageR (nS (l, false))
  have HPG := hid (fun W (hW : RSt W (w.heap.size + 1) (nS (l, false))) => rpageC_any (w.heap.size + 1) _ W hW)
  have hlt1 := nV_lt (l, false)
  generalize nV (l, false) = NV at *
  generalize nS (l, false) = s1 at *
  obtain ⟨l1, sh1⟩ := s1
  try simp only at h1
  subst h1
  go_enter Tryz.func16, Tryz.ntmps16
  go_wp2_with fail
  generalize ((w.alloc (.cells #[.int .i64 0, .slice none 0 0, .slice none 0 0, .slice none 0 0, .string ⟨#[]⟩, .slice none 0 0, .slice none 0 0, .int .i64 0, .int .u64 0, .int .i64 0, .int .i64 0, .int .i64 0, .int .i64 0, .int .i64 0] 50)).alloc (.cells #[.string (bs l), .bool false] 63)) = X at *
  refine (HN.out X hC0).mono ?_
  rintro e w1 ⟨rfl, hc1, hg1⟩
  have hXs : w.heap.size < X.heap.size := (Array.getElem?_eq_some_iff.1 hR0).1
  have hR1 : w1.heap[w.heap.size]? = some (.cells #[.int .i64 0, .slice none 0 0, .slice none 0 0, .slice none 0 0, .string ⟨#[]⟩, .slice none 0 0, .slice none 0 0, .int .i64 0, .int .u64 0, .int .i64 0, .int .i64 0, .int .i64 0, .int .i64 0, .int .i64 0] 50 (0, 0)) := (hg1.block w.heap.size hXs (by simp)).trans hR0
  have HB1 := hid (hb0.grown hg1 (by omega) (fun r hr => by cases hr; omega))
  obtain ⟨hc0, hc1', hf0, hf1⟩ := cells_ref hc1.1
  have hbl := hc1.lt
  have hl1 := hc1.2
  try simp only at hl1
  have HC1 := hid hc1
  clear hg1 hR0 hC0 hb0 HN hc1
  have cR := cell_rowL hR1
  have fR := frozen_rowL hR1
  clear HPG hTX HC1
  go_wp2
  refine bodyPost_ret (v := .tuple #[.agg #[.int .i64 0, .slice none 0 0, .slice none 0 0, .slice none 0 0, .string ⟨#[]⟩, .slice none 0 0, .slice none 0 0, .int .i64 0, .int .u64 0, .int .i64 0, .int .i64 0, .int .i64 0, .int .i64 0, .int .i64 0], .int .i64 12]) (by simp [results, Tryz.results16, go_sem, cR]) rfl ⟨.slice none 0 0, .slice none 0 0, .slice none 0 0, .slice none 0 0, .slice none 0 0, rfl, ⟨items_nil _, strs_nil _, ints_nil _, text_nil_le, strs_nil _, frees_nil _⟩, ?_⟩
  repeat (refine Below.setCell ?_ (by simp) _)
  exact HB1.out
set_option maxRecDepth 10000 in
set_option maxHeartbeats 4000000 in
theorem rread_b (l : List UInt8) (w : World) (hl : l.length ≤ maxLen) (h1 : (nS (l, false)).2 = false) (h2 : ¬ nV (l, false) = sumN (nS (l, false)).1) :
    Calls Tryz.prog 16 #[.string (bs l)] w fun e w' => ∃ vi vk vd vv vf, e = .returned (.tuple #[.agg (pageCells (readD l) vi vk vd vv vf).toArray, .int .i64 (readN l)]) ∧ Hangs w' (readD l) vi vk vd vv vf ∧ Below w.heap.size w w' := by
  have hok : okR l = false := by
    rw [← Bool.not_eq_true, ref_ok]
    intro hh
    exact h2 hh.2.1
  have hRD : readD l = noPage := by rw [readD, hok]; rfl
  have hRN : readN l = 12 := by rw [readN, hok]; rfl
  rw [hRD, hRN]
  clear hRD hRN hok
  have hb0 : Below w.heap.size w ((w.alloc (.cells #[.int .i64 0, .slice none 0 0, .slice none 0 0, .slice none 0 0, .string ⟨#[]⟩, .slice none 0 0, .slice none 0 0, .int .i64 0, .int .u64 0, .int .i64 0, .int .i64 0, .int .i64 0, .int .i64 0, .int .i64 0] 50)).alloc (.cells #[.string (bs l), .bool false] 63)) := ((Below.refl _ _).alloc (Nat.le_refl _) _).alloc (by simp) _
  have hR0 : ((w.alloc (.cells #[.int .i64 0, .slice none 0 0, .slice none 0 0, .slice none 0 0, .string ⟨#[]⟩, .slice none 0 0, .slice none 0 0, .int .i64 0, .int .u64 0, .int .i64 0, .int .i64 0, .int .i64 0, .int .i64 0, .int .i64 0] 50)).alloc (.cells #[.string (bs l), .bool false] 63)).heap[w.heap.size]? = some (.cells #[.int .i64 0, .slice none 0 0, .slice none 0 0, .slice none 0 0, .string ⟨#[]⟩, .slice none 0 0, .slice none 0 0, .int .i64 0, .int .u64 0, .int .i64 0, .int .i64 0, .int .i64 0, .int .i64 0, .int .i64 0] 50 (0, 0)) := (Below.heap_alloc _ _ _ (by simp)).trans (heap_newL w _)
  have hC0 : RSt ((w.alloc (.cells #[.int .i64 0, .slice none 0 0, .slice none 0 0, .slice none 0 0, .string ⟨#[]⟩, .slice none 0 0, .slice none 0 0, .int .i64 0, .int .u64 0, .int .i64 0, .int .i64 0, .int .i64 0, .int .i64 0, .int .i64 0] 50)).alloc (.cells #[.string (bs l), .bool false] 63)) (w.heap.size + 1) (l, false) := by
    refine ⟨?_, hl⟩
    have := heap_newL (w.alloc (.cells #[.int .i64 0, .slice none 0 0, .slice none 0 0, .slice none 0 0, .string ⟨#[]⟩, .slice none 0 0, .slice none 0 0, .int .i64 0, .int .u64 0, .int .i64 0, .int .i64 0, .int .i64 0, .int .i64 0, .int .i64 0] 50)) (.cells #[.string (bs l), .bool false] 63)
    rwa [World.size_alloc] at this
  have HN := hid (fun W (hW : RSt W (w.heap.size + 1) (l, false)) => rnumC_any (w.heap.size + 1) (l, false) W hW)
  have hTX := txnOk_pageR (nS (l, false))
  have HPG := hid (fun W (hW : RSt W (w.heap.size + 1) (nS (l, false))) => rpageC_any (w.heap.size + 1) _ W hW)
  have hlt1 := nV_lt (l, false)
  generalize nV (l, false) = NV at *
  generalize nS (l, false) = s1 at *
  obtain ⟨l1, sh1⟩ := s1
  try simp only at h1
  subst h1
  go_enter Tryz.func16, Tryz.ntmps16
  go_wp2_with fail
  generalize ((w.alloc (.cells #[.int .i64 0, .slice none 0 0, .slice none 0 0, .slice none 0 0, .string ⟨#[]⟩, .slice none 0 0, .slice none 0 0, .int .i64 0, .int .u64 0, .int .i64 0, .int .i64 0, .int .i64 0, .int .i64 0, .int .i64 0] 50)).alloc (.cells #[.string (bs l), .bool false] 63)) = X at *
  refine (HN.out X hC0).mono ?_
  rintro e w1 ⟨rfl, hc1, hg1⟩
  have hXs : w.heap.size < X.heap.size := (Array.getElem?_eq_some_iff.1 hR0).1
  have hR1 : w1.heap[w.heap.size]? = some (.cells #[.int .i64 0, .slice none 0 0, .slice none 0 0, .slice none 0 0, .string ⟨#[]⟩, .slice none 0 0, .slice none 0 0, .int .i64 0, .int .u64 0, .int .i64 0, .int .i64 0, .int .i64 0, .int .i64 0, .int .i64 0] 50 (0, 0)) := (hg1.block w.heap.size hXs (by simp)).trans hR0
  have HB1 := hid (hb0.grown hg1 (by omega) (fun r hr => by cases hr; omega))
  obtain ⟨hc0, hc1', hf0, hf1⟩ := cells_ref hc1.1
  have hbl := hc1.lt
  have hl1 := hc1.2
  try simp only at hl1
  have HC1 := hid hc1
  clear hg1 hR0 hC0 hb0 HN hc1
  have cR := cell_rowL hR1
  have fR := frozen_rowL hR1
  try simp only at h2
  have hls : (bs l1).size ≤ maxLen := by rw [bs_size]; exact hl1
  have hsl := bs_list l1
  have hne : ((NV : Int) != (sumN l1 : Int)) = true := bne_iff_ne.2 (by omega)
  clear HPG hTX HC1
  go_wp2_with fail
  refine (refSum_any (bs l1) _ hls).mono ?_
  rintro e w2 ⟨rfl, rfl⟩
  rw [bs_list]
  go_wp2
  refine bodyPost_ret (v := .tuple #[.agg #[.int .i64 0, .slice none 0 0, .slice none 0 0, .slice none 0 0, .string ⟨#[]⟩, .slice none 0 0, .slice none 0 0, .int .i64 0, .int .u64 0, .int .i64 0, .int .i64 0, .int .i64 0, .int .i64 0, .int .i64 0], .int .i64 12]) (by simp [results, Tryz.results16, go_sem, cR]) rfl ⟨.slice none 0 0, .slice none 0 0, .slice none 0 0, .slice none 0 0, .slice none 0 0, rfl, ⟨items_nil _, strs_nil _, ints_nil _, text_nil_le, strs_nil _, frees_nil _⟩, ?_⟩
  repeat (refine Below.setCell ?_ (by simp) _)
  exact HB1.out
set_option maxRecDepth 10000 in
set_option maxHeartbeats 4000000 in
theorem rread_c (l : List UInt8) (w : World) (hl : l.length ≤ maxLen) (h1 : (nS (l, false)).2 = false) (h2 : nV (l, false) = sumN (nS (l, false)).1) (h3 : (pageT (nS (l, false))).2 = true) :
    Calls Tryz.prog 16 #[.string (bs l)] w fun e w' => ∃ vi vk vd vv vf, e = .returned (.tuple #[.agg (pageCells (readD l) vi vk vd vv vf).toArray, .int .i64 (readN l)]) ∧ Hangs w' (readD l) vi vk vd vv vf ∧ Below w.heap.size w w' := by
  have hok : okR l = false := by
    rw [← Bool.not_eq_true, ref_ok]
    intro hh
    rw [h3] at hh; exact absurd hh.2.2.1 (by simp)
  have hRD : readD l = noPage := by rw [readD, hok]; rfl
  have hRN : readN l = 12 := by rw [readN, hok]; rfl
  rw [hRD, hRN]
  clear hRD hRN hok
  have hb0 : Below w.heap.size w ((w.alloc (.cells #[.int .i64 0, .slice none 0 0, .slice none 0 0, .slice none 0 0, .string ⟨#[]⟩, .slice none 0 0, .slice none 0 0, .int .i64 0, .int .u64 0, .int .i64 0, .int .i64 0, .int .i64 0, .int .i64 0, .int .i64 0] 50)).alloc (.cells #[.string (bs l), .bool false] 63)) := ((Below.refl _ _).alloc (Nat.le_refl _) _).alloc (by simp) _
  have hR0 : ((w.alloc (.cells #[.int .i64 0, .slice none 0 0, .slice none 0 0, .slice none 0 0, .string ⟨#[]⟩, .slice none 0 0, .slice none 0 0, .int .i64 0, .int .u64 0, .int .i64 0, .int .i64 0, .int .i64 0, .int .i64 0, .int .i64 0] 50)).alloc (.cells #[.string (bs l), .bool false] 63)).heap[w.heap.size]? = some (.cells #[.int .i64 0, .slice none 0 0, .slice none 0 0, .slice none 0 0, .string ⟨#[]⟩, .slice none 0 0, .slice none 0 0, .int .i64 0, .int .u64 0, .int .i64 0, .int .i64 0, .int .i64 0, .int .i64 0, .int .i64 0] 50 (0, 0)) := (Below.heap_alloc _ _ _ (by simp)).trans (heap_newL w _)
  have hC0 : RSt ((w.alloc (.cells #[.int .i64 0, .slice none 0 0, .slice none 0 0, .slice none 0 0, .string ⟨#[]⟩, .slice none 0 0, .slice none 0 0, .int .i64 0, .int .u64 0, .int .i64 0, .int .i64 0, .int .i64 0, .int .i64 0, .int .i64 0] 50)).alloc (.cells #[.string (bs l), .bool false] 63)) (w.heap.size + 1) (l, false) := by
    refine ⟨?_, hl⟩
    have := heap_newL (w.alloc (.cells #[.int .i64 0, .slice none 0 0, .slice none 0 0, .slice none 0 0, .string ⟨#[]⟩, .slice none 0 0, .slice none 0 0, .int .i64 0, .int .u64 0, .int .i64 0, .int .i64 0, .int .i64 0, .int .i64 0, .int .i64 0] 50)) (.cells #[.string (bs l), .bool false] 63)
    rwa [World.size_alloc] at this
  have HN := hid (fun W (hW : RSt W (w.heap.size + 1) (l, false)) => rnumC_any (w.heap.size + 1) (l, false) W hW)
  have hTX := txnOk_pageR (nS (l, false))
  have HPG := hid (fun W (hW : RSt W (w.heap.size + 1) (nS (l, false))) => rpageC_any (w.heap.size + 1) _ W hW)
  have hlt1 := nV_lt (l, false)
  generalize nV (l, false) = NV at *
  generalize nS (l, false) = s1 at *
  obtain ⟨l1, sh1⟩ := s1
  try simp only at h1
  subst h1
  go_enter Tryz.func16, Tryz.ntmps16
  go_wp2_with fail
  generalize ((w.alloc (.cells #[.int .i64 0, .slice none 0 0, .slice none 0 0, .slice none 0 0, .string ⟨#[]⟩, .slice none 0 0, .slice none 0 0, .int .i64 0, .int .u64 0, .int .i64 0, .int .i64 0, .int .i64 0, .int .i64 0, .int .i64 0] 50)).alloc (.cells #[.string (bs l), .bool false] 63)) = X at *
  refine (HN.out X hC0).mono ?_
  rintro e w1 ⟨rfl, hc1, hg1⟩
  have hXs : w.heap.size < X.heap.size := (Array.getElem?_eq_some_iff.1 hR0).1
  have hR1 : w1.heap[w.heap.size]? = some (.cells #[.int .i64 0, .slice none 0 0, .slice none 0 0, .slice none 0 0, .string ⟨#[]⟩, .slice none 0 0, .slice none 0 0, .int .i64 0, .int .u64 0, .int .i64 0, .int .i64 0, .int .i64 0, .int .i64 0, .int .i64 0] 50 (0, 0)) := (hg1.block w.heap.size hXs (by simp)).trans hR0
  have HB1 := hid (hb0.grown hg1 (by omega) (fun r hr => by cases hr; omega))
  obtain ⟨hc0, hc1', hf0, hf1⟩ := cells_ref hc1.1
  have hbl := hc1.lt
  have hl1 := hc1.2
  try simp only at hl1
  have HC1 := hid hc1
  clear hg1 hR0 hC0 hb0 HN hc1
  try simp only at h2
  have hls : (bs l1).size ≤ maxLen := by rw [bs_size]; exact hl1
  have hne : ((NV : Int) != (sumN l1 : Int)) = false := by rw [h2]; exact bne_self_eq_false _
  go_wp2_with fail
  refine (refSum_any (bs l1) _ hls).mono ?_
  rintro e w2 ⟨rfl, rfl⟩
  rw [bs_list]
  generalize hPR : pageR (l1, false) = PR at *
  replace hPR := hid hPR
  generalize pageT (l1, false) = PT at *
  go_wp2_with fail
  refine (HPG.out w2 HC1.out).mono ?_
  rintro e w3 ⟨vi, vk, vd, vv, vf, rfl, hang, hc3, hg3⟩
  have hR3 : w3.heap[w.heap.size]? = some (.cells #[.int .i64 0, .slice none 0 0, .slice none 0 0, .slice none 0 0, .string ⟨#[]⟩, .slice none 0 0, .slice none 0 0, .int .i64 0, .int .u64 0, .int .i64 0, .int .i64 0, .int .i64 0, .int .i64 0, .int .i64 0] 50 (0, 0)) := (hg3.block w.heap.size (by omega) (by simp)).trans hR1
  have HB3 := HB1.out.grown hg3 (by have := HB1.out.size; omega) (fun r hr => by cases hr; omega)
  have hsz3 : w.heap.size + 1 < w3.heap.size := by have := hg3.size; omega
  have hangw := hang w3 ⟨Nat.le_refl _, fun _ _ _ => rfl⟩
  have HHB : Hid (∀ W, Agree (w.heap.size + 1) w3 W → Hangs W PR vi vk vd vv vf) := hid (fun W hW => hang W ⟨hW.1, fun q h1 h2 => hW.2 q (by omega) h2⟩)
  obtain ⟨ai, mi, ci, rfl⟩ := hangw.items.slice
  obtain ⟨ak, mk, ck, rfl⟩ := hangw.keys.slice
  obtain ⟨ad, md, cd, rfl⟩ := hangw.kids.slice
  obtain ⟨av, mv, cv, rfl⟩ := hangw.vals.slice
  obtain ⟨af, mf, cf, rfl⟩ := hangw.free.slice
  have HIS0 := fun W (hW : Below w3.heap.size w3 W) => refIs_any PR (.slice ai mi ci) (.slice ak mk ck) (.slice ad md cd) (.slice av mv cv) (.slice af mf cf) W (hangw.below hW) (by have := hTX.2; omega) hTX.1
  have HBY0 := fun W (hW : Below w3.heap.size w3 W) => rbytes_any PR (.slice ai mi ci) (.slice ak mk ck) (.slice ad md cd) (.slice av mv cv) (.slice af mf cf) W (hangw.below hW) (by have := hTX.2; omega) hTX.1
  clear hang hangw hg3 HPG HC1 hc0 hc1' hf0 hf1 hbl hl1 hR1 HB1 hls hne hTX
  generalize bytesD PR = BD at *
  generalize hIB : isPB PR = IB at *
  obtain ⟨k1, i1, y1, d1, t1, v1, f1, n1, ⟨x1, ⟨g1, c1, q1⟩, r1, z1⟩⟩ := PR
  have HIS : Hid (∀ W, Below w3.heap.size w3 W → Calls Tryz.prog 25 #[.agg #[.int .i64 k1, .slice ai mi ci, .slice ak mk ck, .slice ad md cd, .string t1, .slice av mv cv, .slice af mf cf, .int .i64 n1, .int .u64 x1, .int .i64 g1, .int .i64 c1, .int .i64 q1, .int .i64 r1, .int .i64 z1]] W fun e w' => e = .returned (.bool IB) ∧ Below W.heap.size W w') := hid HIS0
  have HBY : Hid (∀ W, Below w3.heap.size w3 W → Calls Tryz.prog 18 #[.agg #[.int .i64 k1, .slice ai mi ci, .slice ak mk ck, .slice ad md cd, .string t1, .slice av mv cv, .slice af mf cf, .int .i64 n1, .int .u64 x1, .int .i64 g1, .int .i64 c1, .int .i64 q1, .int .i64 r1, .int .i64 z1]] W fun e w' => e = .returned (.string (bs BD)) ∧ Below W.heap.size W w') := hid HBY0
  clear HIS0 HBY0 hIB
  have hb3P : Below w3.heap.size w3 (w3.alloc (.cells #[.int .i64 k1, .slice ai mi ci, .slice ak mk ck, .slice ad md cd, .string t1, .slice av mv cv, .slice af mf cf, .int .i64 n1, .int .u64 x1, .int .i64 g1, .int .i64 c1, .int .i64 q1, .int .i64 r1, .int .i64 z1] 50)) := (Below.refl _ _).alloc (Nat.le_refl _) _
  have hP4 := heap_newL w3 (.cells #[.int .i64 k1, .slice ai mi ci, .slice ak mk ck, .slice ad md cd, .string t1, .slice av mv cv, .slice af mf cf, .int .i64 n1, .int .u64 x1, .int .i64 g1, .int .i64 c1, .int .i64 q1, .int .i64 r1, .int .i64 z1] 50)
  have hR4 : (w3.alloc (.cells #[.int .i64 k1, .slice ai mi ci, .slice ak mk ck, .slice ad md cd, .string t1, .slice av mv cv, .slice af mf cf, .int .i64 n1, .int .u64 x1, .int .i64 g1, .int .i64 c1, .int .i64 q1, .int .i64 r1, .int .i64 z1] 50)).heap[w.heap.size]? = some (.cells #[.int .i64 0, .slice none 0 0, .slice none 0 0, .slice none 0 0, .string ⟨#[]⟩, .slice none 0 0, .slice none 0 0, .int .i64 0, .int .u64 0, .int .i64 0, .int .i64 0, .int .i64 0, .int .i64 0, .int .i64 0] 50 (0, 0)) := (Below.heap_alloc _ _ _ (by omega)).trans hR3
  have hC4 := hc3.alloc (.cells #[.int .i64 k1, .slice ai mi ci, .slice ak mk ck, .slice ad md cd, .string t1, .slice av mv cv, .slice af mf cf, .int .i64 n1, .int .u64 x1, .int .i64 g1, .int .i64 c1, .int .i64 q1, .int .i64 r1, .int .i64 z1] 50)
  have HB4 := hid (HB3.trans (hb3P.mono (by have := HB3.size; omega)))
  unfold pageCells
  simp only
  go_upto_region 6 with fail
  generalize (w3.alloc (.cells #[.int .i64 k1, .slice ai mi ci, .slice ak mk ck, .slice ad md cd, .string t1, .slice av mv cv, .slice af mf cf, .int .i64 n1, .int .u64 x1, .int .i64 g1, .int .i64 c1, .int .i64 q1, .int .i64 r1, .int .i64 z1] 50)) = W4 at *
  generalize hPe : w3.heap.size = P at *
  replace hPe := hid hPe
  have cP := cell_rowL hP4
  have cR := cell_rowL hR4
  have fR := frozen_rowL hR4
  obtain ⟨hc0, hc1, hf0, hf1⟩ := cells_ref hC4.1
  have hbl := hC4.lt
  obtain ⟨l2, sh2⟩ := PT
  try simp only at h3
  subst h3
  clear HIS HBY HHB hc3 hR3 HB3 hb3P hP4 hR4 hC4
  go_wp2
  refine bodyPost_ret (v := .tuple #[.agg #[.int .i64 0, .slice none 0 0, .slice none 0 0, .slice none 0 0, .string ⟨#[]⟩, .slice none 0 0, .slice none 0 0, .int .i64 0, .int .u64 0, .int .i64 0, .int .i64 0, .int .i64 0, .int .i64 0, .int .i64 0], .int .i64 12]) (by simp [results, Tryz.results16, go_sem, cR]) rfl ⟨.slice none 0 0, .slice none 0 0, .slice none 0 0, .slice none 0 0, .slice none 0 0, rfl, ⟨items_nil _, strs_nil _, ints_nil _, text_nil_le, strs_nil _, frees_nil _⟩, ?_⟩
  repeat (refine Below.setCell ?_ (by simp) _)
  exact HB4.out
set_option maxRecDepth 10000 in
set_option maxHeartbeats 4000000 in
theorem rread_d (l : List UInt8) (w : World) (hl : l.length ≤ maxLen) (h1 : (nS (l, false)).2 = false) (h2 : nV (l, false) = sumN (nS (l, false)).1) (h3 : (pageT (nS (l, false))).2 = false) (h4 : ¬ (pageT (nS (l, false))).1 = []) :
    Calls Tryz.prog 16 #[.string (bs l)] w fun e w' => ∃ vi vk vd vv vf, e = .returned (.tuple #[.agg (pageCells (readD l) vi vk vd vv vf).toArray, .int .i64 (readN l)]) ∧ Hangs w' (readD l) vi vk vd vv vf ∧ Below w.heap.size w w' := by
  have hok : okR l = false := by
    rw [← Bool.not_eq_true, ref_ok]
    intro hh
    exact h4 hh.2.2.2.1
  have hRD : readD l = noPage := by rw [readD, hok]; rfl
  have hRN : readN l = 12 := by rw [readN, hok]; rfl
  rw [hRD, hRN]
  clear hRD hRN hok
  have hb0 : Below w.heap.size w ((w.alloc (.cells #[.int .i64 0, .slice none 0 0, .slice none 0 0, .slice none 0 0, .string ⟨#[]⟩, .slice none 0 0, .slice none 0 0, .int .i64 0, .int .u64 0, .int .i64 0, .int .i64 0, .int .i64 0, .int .i64 0, .int .i64 0] 50)).alloc (.cells #[.string (bs l), .bool false] 63)) := ((Below.refl _ _).alloc (Nat.le_refl _) _).alloc (by simp) _
  have hR0 : ((w.alloc (.cells #[.int .i64 0, .slice none 0 0, .slice none 0 0, .slice none 0 0, .string ⟨#[]⟩, .slice none 0 0, .slice none 0 0, .int .i64 0, .int .u64 0, .int .i64 0, .int .i64 0, .int .i64 0, .int .i64 0, .int .i64 0] 50)).alloc (.cells #[.string (bs l), .bool false] 63)).heap[w.heap.size]? = some (.cells #[.int .i64 0, .slice none 0 0, .slice none 0 0, .slice none 0 0, .string ⟨#[]⟩, .slice none 0 0, .slice none 0 0, .int .i64 0, .int .u64 0, .int .i64 0, .int .i64 0, .int .i64 0, .int .i64 0, .int .i64 0] 50 (0, 0)) := (Below.heap_alloc _ _ _ (by simp)).trans (heap_newL w _)
  have hC0 : RSt ((w.alloc (.cells #[.int .i64 0, .slice none 0 0, .slice none 0 0, .slice none 0 0, .string ⟨#[]⟩, .slice none 0 0, .slice none 0 0, .int .i64 0, .int .u64 0, .int .i64 0, .int .i64 0, .int .i64 0, .int .i64 0, .int .i64 0] 50)).alloc (.cells #[.string (bs l), .bool false] 63)) (w.heap.size + 1) (l, false) := by
    refine ⟨?_, hl⟩
    have := heap_newL (w.alloc (.cells #[.int .i64 0, .slice none 0 0, .slice none 0 0, .slice none 0 0, .string ⟨#[]⟩, .slice none 0 0, .slice none 0 0, .int .i64 0, .int .u64 0, .int .i64 0, .int .i64 0, .int .i64 0, .int .i64 0, .int .i64 0] 50)) (.cells #[.string (bs l), .bool false] 63)
    rwa [World.size_alloc] at this
  have HN := hid (fun W (hW : RSt W (w.heap.size + 1) (l, false)) => rnumC_any (w.heap.size + 1) (l, false) W hW)
  have hTX := txnOk_pageR (nS (l, false))
  have HPG := hid (fun W (hW : RSt W (w.heap.size + 1) (nS (l, false))) => rpageC_any (w.heap.size + 1) _ W hW)
  have hlt1 := nV_lt (l, false)
  generalize nV (l, false) = NV at *
  generalize nS (l, false) = s1 at *
  obtain ⟨l1, sh1⟩ := s1
  try simp only at h1
  subst h1
  go_enter Tryz.func16, Tryz.ntmps16
  go_wp2_with fail
  generalize ((w.alloc (.cells #[.int .i64 0, .slice none 0 0, .slice none 0 0, .slice none 0 0, .string ⟨#[]⟩, .slice none 0 0, .slice none 0 0, .int .i64 0, .int .u64 0, .int .i64 0, .int .i64 0, .int .i64 0, .int .i64 0, .int .i64 0] 50)).alloc (.cells #[.string (bs l), .bool false] 63)) = X at *
  refine (HN.out X hC0).mono ?_
  rintro e w1 ⟨rfl, hc1, hg1⟩
  have hXs : w.heap.size < X.heap.size := (Array.getElem?_eq_some_iff.1 hR0).1
  have hR1 : w1.heap[w.heap.size]? = some (.cells #[.int .i64 0, .slice none 0 0, .slice none 0 0, .slice none 0 0, .string ⟨#[]⟩, .slice none 0 0, .slice none 0 0, .int .i64 0, .int .u64 0, .int .i64 0, .int .i64 0, .int .i64 0, .int .i64 0, .int .i64 0] 50 (0, 0)) := (hg1.block w.heap.size hXs (by simp)).trans hR0
  have HB1 := hid (hb0.grown hg1 (by omega) (fun r hr => by cases hr; omega))
  obtain ⟨hc0, hc1', hf0, hf1⟩ := cells_ref hc1.1
  have hbl := hc1.lt
  have hl1 := hc1.2
  try simp only at hl1
  have HC1 := hid hc1
  clear hg1 hR0 hC0 hb0 HN hc1
  try simp only at h2
  have hls : (bs l1).size ≤ maxLen := by rw [bs_size]; exact hl1
  have hne : ((NV : Int) != (sumN l1 : Int)) = false := by rw [h2]; exact bne_self_eq_false _
  go_wp2_with fail
  refine (refSum_any (bs l1) _ hls).mono ?_
  rintro e w2 ⟨rfl, rfl⟩
  rw [bs_list]
  generalize hPR : pageR (l1, false) = PR at *
  replace hPR := hid hPR
  generalize pageT (l1, false) = PT at *
  go_wp2_with fail
  refine (HPG.out w2 HC1.out).mono ?_
  rintro e w3 ⟨vi, vk, vd, vv, vf, rfl, hang, hc3, hg3⟩
  have hR3 : w3.heap[w.heap.size]? = some (.cells #[.int .i64 0, .slice none 0 0, .slice none 0 0, .slice none 0 0, .string ⟨#[]⟩, .slice none 0 0, .slice none 0 0, .int .i64 0, .int .u64 0, .int .i64 0, .int .i64 0, .int .i64 0, .int .i64 0, .int .i64 0] 50 (0, 0)) := (hg3.block w.heap.size (by omega) (by simp)).trans hR1
  have HB3 := HB1.out.grown hg3 (by have := HB1.out.size; omega) (fun r hr => by cases hr; omega)
  have hsz3 : w.heap.size + 1 < w3.heap.size := by have := hg3.size; omega
  have hangw := hang w3 ⟨Nat.le_refl _, fun _ _ _ => rfl⟩
  have HHB : Hid (∀ W, Agree (w.heap.size + 1) w3 W → Hangs W PR vi vk vd vv vf) := hid (fun W hW => hang W ⟨hW.1, fun q h1 h2 => hW.2 q (by omega) h2⟩)
  obtain ⟨ai, mi, ci, rfl⟩ := hangw.items.slice
  obtain ⟨ak, mk, ck, rfl⟩ := hangw.keys.slice
  obtain ⟨ad, md, cd, rfl⟩ := hangw.kids.slice
  obtain ⟨av, mv, cv, rfl⟩ := hangw.vals.slice
  obtain ⟨af, mf, cf, rfl⟩ := hangw.free.slice
  have HIS0 := fun W (hW : Below w3.heap.size w3 W) => refIs_any PR (.slice ai mi ci) (.slice ak mk ck) (.slice ad md cd) (.slice av mv cv) (.slice af mf cf) W (hangw.below hW) (by have := hTX.2; omega) hTX.1
  have HBY0 := fun W (hW : Below w3.heap.size w3 W) => rbytes_any PR (.slice ai mi ci) (.slice ak mk ck) (.slice ad md cd) (.slice av mv cv) (.slice af mf cf) W (hangw.below hW) (by have := hTX.2; omega) hTX.1
  clear hang hangw hg3 HPG HC1 hc0 hc1' hf0 hf1 hbl hl1 hR1 HB1 hls hne hTX
  generalize bytesD PR = BD at *
  generalize hIB : isPB PR = IB at *
  obtain ⟨k1, i1, y1, d1, t1, v1, f1, n1, ⟨x1, ⟨g1, c1, q1⟩, r1, z1⟩⟩ := PR
  have HIS : Hid (∀ W, Below w3.heap.size w3 W → Calls Tryz.prog 25 #[.agg #[.int .i64 k1, .slice ai mi ci, .slice ak mk ck, .slice ad md cd, .string t1, .slice av mv cv, .slice af mf cf, .int .i64 n1, .int .u64 x1, .int .i64 g1, .int .i64 c1, .int .i64 q1, .int .i64 r1, .int .i64 z1]] W fun e w' => e = .returned (.bool IB) ∧ Below W.heap.size W w') := hid HIS0
  have HBY : Hid (∀ W, Below w3.heap.size w3 W → Calls Tryz.prog 18 #[.agg #[.int .i64 k1, .slice ai mi ci, .slice ak mk ck, .slice ad md cd, .string t1, .slice av mv cv, .slice af mf cf, .int .i64 n1, .int .u64 x1, .int .i64 g1, .int .i64 c1, .int .i64 q1, .int .i64 r1, .int .i64 z1]] W fun e w' => e = .returned (.string (bs BD)) ∧ Below W.heap.size W w') := hid HBY0
  clear HIS0 HBY0 hIB
  have hb3P : Below w3.heap.size w3 (w3.alloc (.cells #[.int .i64 k1, .slice ai mi ci, .slice ak mk ck, .slice ad md cd, .string t1, .slice av mv cv, .slice af mf cf, .int .i64 n1, .int .u64 x1, .int .i64 g1, .int .i64 c1, .int .i64 q1, .int .i64 r1, .int .i64 z1] 50)) := (Below.refl _ _).alloc (Nat.le_refl _) _
  have hP4 := heap_newL w3 (.cells #[.int .i64 k1, .slice ai mi ci, .slice ak mk ck, .slice ad md cd, .string t1, .slice av mv cv, .slice af mf cf, .int .i64 n1, .int .u64 x1, .int .i64 g1, .int .i64 c1, .int .i64 q1, .int .i64 r1, .int .i64 z1] 50)
  have hR4 : (w3.alloc (.cells #[.int .i64 k1, .slice ai mi ci, .slice ak mk ck, .slice ad md cd, .string t1, .slice av mv cv, .slice af mf cf, .int .i64 n1, .int .u64 x1, .int .i64 g1, .int .i64 c1, .int .i64 q1, .int .i64 r1, .int .i64 z1] 50)).heap[w.heap.size]? = some (.cells #[.int .i64 0, .slice none 0 0, .slice none 0 0, .slice none 0 0, .string ⟨#[]⟩, .slice none 0 0, .slice none 0 0, .int .i64 0, .int .u64 0, .int .i64 0, .int .i64 0, .int .i64 0, .int .i64 0, .int .i64 0] 50 (0, 0)) := (Below.heap_alloc _ _ _ (by omega)).trans hR3
  have hC4 := hc3.alloc (.cells #[.int .i64 k1, .slice ai mi ci, .slice ak mk ck, .slice ad md cd, .string t1, .slice av mv cv, .slice af mf cf, .int .i64 n1, .int .u64 x1, .int .i64 g1, .int .i64 c1, .int .i64 q1, .int .i64 r1, .int .i64 z1] 50)
  have HB4 := hid (HB3.trans (hb3P.mono (by have := HB3.size; omega)))
  unfold pageCells
  simp only
  go_upto_region 6 with fail
  generalize (w3.alloc (.cells #[.int .i64 k1, .slice ai mi ci, .slice ak mk ck, .slice ad md cd, .string t1, .slice av mv cv, .slice af mf cf, .int .i64 n1, .int .u64 x1, .int .i64 g1, .int .i64 c1, .int .i64 q1, .int .i64 r1, .int .i64 z1] 50)) = W4 at *
  generalize hPe : w3.heap.size = P at *
  replace hPe := hid hPe
  have cP := cell_rowL hP4
  have cR := cell_rowL hR4
  have fR := frozen_rowL hR4
  obtain ⟨hc0, hc1, hf0, hf1⟩ := cells_ref hC4.1
  have hbl := hC4.lt
  obtain ⟨l2, sh2⟩ := PT
  try simp only at h3
  subst h3
  try simp only at h4
  clear HIS HBY HHB hc3 hR3 HB3 hb3P hP4 hR4 hC4
  go_wp2
  refine bodyPost_ret (v := .tuple #[.agg #[.int .i64 0, .slice none 0 0, .slice none 0 0, .slice none 0 0, .string ⟨#[]⟩, .slice none 0 0, .slice none 0 0, .int .i64 0, .int .u64 0, .int .i64 0, .int .i64 0, .int .i64 0, .int .i64 0, .int .i64 0], .int .i64 12]) (by simp [results, Tryz.results16, go_sem, cR]) rfl ⟨.slice none 0 0, .slice none 0 0, .slice none 0 0, .slice none 0 0, .slice none 0 0, rfl, ⟨items_nil _, strs_nil _, ints_nil _, text_nil_le, strs_nil _, frees_nil _⟩, ?_⟩
  repeat (refine Below.setCell ?_ (by simp) _)
  exact HB4.out
set_option maxRecDepth 10000 in
set_option maxHeartbeats 4000000 in
theorem rread_e (l : List UInt8) (w : World) (hl : l.length ≤ maxLen) (h1 : (nS (l, false)).2 = false) (h2 : nV (l, false) = sumN (nS (l, false)).1) (h3 : (pageT (nS (l, false))).2 = false) (h4 : (pageT (nS (l, false))).1 = []) (h5 : isPB (pageR (nS (l, false))) = false) :
    Calls Tryz.prog 16 #[.string (bs l)] w fun e w' => ∃ vi vk vd vv vf, e = .returned (.tuple #[.agg (pageCells (readD l) vi vk vd vv vf).toArray, .int .i64 (readN l)]) ∧ Hangs w' (readD l) vi vk vd vv vf ∧ Below w.heap.size w w' := by
  have hok : okR l = false := by
    rw [← Bool.not_eq_true, ref_ok]
    intro hh
    rw [h5] at hh; exact absurd hh.2.2.2.2.1 (by simp)
  have hRD : readD l = noPage := by rw [readD, hok]; rfl
  have hRN : readN l = 12 := by rw [readN, hok]; rfl
  rw [hRD, hRN]
  clear hRD hRN hok
  have hb0 : Below w.heap.size w ((w.alloc (.cells #[.int .i64 0, .slice none 0 0, .slice none 0 0, .slice none 0 0, .string ⟨#[]⟩, .slice none 0 0, .slice none 0 0, .int .i64 0, .int .u64 0, .int .i64 0, .int .i64 0, .int .i64 0, .int .i64 0, .int .i64 0] 50)).alloc (.cells #[.string (bs l), .bool false] 63)) := ((Below.refl _ _).alloc (Nat.le_refl _) _).alloc (by simp) _
  have hR0 : ((w.alloc (.cells #[.int .i64 0, .slice none 0 0, .slice none 0 0, .slice none 0 0, .string ⟨#[]⟩, .slice none 0 0, .slice none 0 0, .int .i64 0, .int .u64 0, .int .i64 0, .int .i64 0, .int .i64 0, .int .i64 0, .int .i64 0] 50)).alloc (.cells #[.string (bs l), .bool false] 63)).heap[w.heap.size]? = some (.cells #[.int .i64 0, .slice none 0 0, .slice none 0 0, .slice none 0 0, .string ⟨#[]⟩, .slice none 0 0, .slice none 0 0, .int .i64 0, .int .u64 0, .int .i64 0, .int .i64 0, .int .i64 0, .int .i64 0, .int .i64 0] 50 (0, 0)) := (Below.heap_alloc _ _ _ (by simp)).trans (heap_newL w _)
  have hC0 : RSt ((w.alloc (.cells #[.int .i64 0, .slice none 0 0, .slice none 0 0, .slice none 0 0, .string ⟨#[]⟩, .slice none 0 0, .slice none 0 0, .int .i64 0, .int .u64 0, .int .i64 0, .int .i64 0, .int .i64 0, .int .i64 0, .int .i64 0] 50)).alloc (.cells #[.string (bs l), .bool false] 63)) (w.heap.size + 1) (l, false) := by
    refine ⟨?_, hl⟩
    have := heap_newL (w.alloc (.cells #[.int .i64 0, .slice none 0 0, .slice none 0 0, .slice none 0 0, .string ⟨#[]⟩, .slice none 0 0, .slice none 0 0, .int .i64 0, .int .u64 0, .int .i64 0, .int .i64 0, .int .i64 0, .int .i64 0, .int .i64 0] 50)) (.cells #[.string (bs l), .bool false] 63)
    rwa [World.size_alloc] at this
  have HN := hid (fun W (hW : RSt W (w.heap.size + 1) (l, false)) => rnumC_any (w.heap.size + 1) (l, false) W hW)
  have hTX := txnOk_pageR (nS (l, false))
  have HPG := hid (fun W (hW : RSt W (w.heap.size + 1) (nS (l, false))) => rpageC_any (w.heap.size + 1) _ W hW)
  have hlt1 := nV_lt (l, false)
  generalize nV (l, false) = NV at *
  generalize nS (l, false) = s1 at *
  obtain ⟨l1, sh1⟩ := s1
  try simp only at h1
  subst h1
  go_enter Tryz.func16, Tryz.ntmps16
  go_wp2_with fail
  generalize ((w.alloc (.cells #[.int .i64 0, .slice none 0 0, .slice none 0 0, .slice none 0 0, .string ⟨#[]⟩, .slice none 0 0, .slice none 0 0, .int .i64 0, .int .u64 0, .int .i64 0, .int .i64 0, .int .i64 0, .int .i64 0, .int .i64 0] 50)).alloc (.cells #[.string (bs l), .bool false] 63)) = X at *
  refine (HN.out X hC0).mono ?_
  rintro e w1 ⟨rfl, hc1, hg1⟩
  have hXs : w.heap.size < X.heap.size := (Array.getElem?_eq_some_iff.1 hR0).1
  have hR1 : w1.heap[w.heap.size]? = some (.cells #[.int .i64 0, .slice none 0 0, .slice none 0 0, .slice none 0 0, .string ⟨#[]⟩, .slice none 0 0, .slice none 0 0, .int .i64 0, .int .u64 0, .int .i64 0, .int .i64 0, .int .i64 0, .int .i64 0, .int .i64 0] 50 (0, 0)) := (hg1.block w.heap.size hXs (by simp)).trans hR0
  have HB1 := hid (hb0.grown hg1 (by omega) (fun r hr => by cases hr; omega))
  obtain ⟨hc0, hc1', hf0, hf1⟩ := cells_ref hc1.1
  have hbl := hc1.lt
  have hl1 := hc1.2
  try simp only at hl1
  have HC1 := hid hc1
  clear hg1 hR0 hC0 hb0 HN hc1
  try simp only at h2
  have hls : (bs l1).size ≤ maxLen := by rw [bs_size]; exact hl1
  have hne : ((NV : Int) != (sumN l1 : Int)) = false := by rw [h2]; exact bne_self_eq_false _
  go_wp2_with fail
  refine (refSum_any (bs l1) _ hls).mono ?_
  rintro e w2 ⟨rfl, rfl⟩
  rw [bs_list]
  generalize hPR : pageR (l1, false) = PR at *
  replace hPR := hid hPR
  generalize pageT (l1, false) = PT at *
  go_wp2_with fail
  refine (HPG.out w2 HC1.out).mono ?_
  rintro e w3 ⟨vi, vk, vd, vv, vf, rfl, hang, hc3, hg3⟩
  have hR3 : w3.heap[w.heap.size]? = some (.cells #[.int .i64 0, .slice none 0 0, .slice none 0 0, .slice none 0 0, .string ⟨#[]⟩, .slice none 0 0, .slice none 0 0, .int .i64 0, .int .u64 0, .int .i64 0, .int .i64 0, .int .i64 0, .int .i64 0, .int .i64 0] 50 (0, 0)) := (hg3.block w.heap.size (by omega) (by simp)).trans hR1
  have HB3 := HB1.out.grown hg3 (by have := HB1.out.size; omega) (fun r hr => by cases hr; omega)
  have hsz3 : w.heap.size + 1 < w3.heap.size := by have := hg3.size; omega
  have hangw := hang w3 ⟨Nat.le_refl _, fun _ _ _ => rfl⟩
  have HHB : Hid (∀ W, Agree (w.heap.size + 1) w3 W → Hangs W PR vi vk vd vv vf) := hid (fun W hW => hang W ⟨hW.1, fun q h1 h2 => hW.2 q (by omega) h2⟩)
  obtain ⟨ai, mi, ci, rfl⟩ := hangw.items.slice
  obtain ⟨ak, mk, ck, rfl⟩ := hangw.keys.slice
  obtain ⟨ad, md, cd, rfl⟩ := hangw.kids.slice
  obtain ⟨av, mv, cv, rfl⟩ := hangw.vals.slice
  obtain ⟨af, mf, cf, rfl⟩ := hangw.free.slice
  have HIS0 := fun W (hW : Below w3.heap.size w3 W) => refIs_any PR (.slice ai mi ci) (.slice ak mk ck) (.slice ad md cd) (.slice av mv cv) (.slice af mf cf) W (hangw.below hW) (by have := hTX.2; omega) hTX.1
  have HBY0 := fun W (hW : Below w3.heap.size w3 W) => rbytes_any PR (.slice ai mi ci) (.slice ak mk ck) (.slice ad md cd) (.slice av mv cv) (.slice af mf cf) W (hangw.below hW) (by have := hTX.2; omega) hTX.1
  clear hang hangw hg3 HPG HC1 hc0 hc1' hf0 hf1 hbl hl1 hR1 HB1 hls hne hTX
  generalize bytesD PR = BD at *
  generalize hIB : isPB PR = IB at *
  obtain ⟨k1, i1, y1, d1, t1, v1, f1, n1, ⟨x1, ⟨g1, c1, q1⟩, r1, z1⟩⟩ := PR
  have HIS : Hid (∀ W, Below w3.heap.size w3 W → Calls Tryz.prog 25 #[.agg #[.int .i64 k1, .slice ai mi ci, .slice ak mk ck, .slice ad md cd, .string t1, .slice av mv cv, .slice af mf cf, .int .i64 n1, .int .u64 x1, .int .i64 g1, .int .i64 c1, .int .i64 q1, .int .i64 r1, .int .i64 z1]] W fun e w' => e = .returned (.bool IB) ∧ Below W.heap.size W w') := hid HIS0
  have HBY : Hid (∀ W, Below w3.heap.size w3 W → Calls Tryz.prog 18 #[.agg #[.int .i64 k1, .slice ai mi ci, .slice ak mk ck, .slice ad md cd, .string t1, .slice av mv cv, .slice af mf cf, .int .i64 n1, .int .u64 x1, .int .i64 g1, .int .i64 c1, .int .i64 q1, .int .i64 r1, .int .i64 z1]] W fun e w' => e = .returned (.string (bs BD)) ∧ Below W.heap.size W w') := hid HBY0
  clear HIS0 HBY0 hIB
  have hb3P : Below w3.heap.size w3 (w3.alloc (.cells #[.int .i64 k1, .slice ai mi ci, .slice ak mk ck, .slice ad md cd, .string t1, .slice av mv cv, .slice af mf cf, .int .i64 n1, .int .u64 x1, .int .i64 g1, .int .i64 c1, .int .i64 q1, .int .i64 r1, .int .i64 z1] 50)) := (Below.refl _ _).alloc (Nat.le_refl _) _
  have hP4 := heap_newL w3 (.cells #[.int .i64 k1, .slice ai mi ci, .slice ak mk ck, .slice ad md cd, .string t1, .slice av mv cv, .slice af mf cf, .int .i64 n1, .int .u64 x1, .int .i64 g1, .int .i64 c1, .int .i64 q1, .int .i64 r1, .int .i64 z1] 50)
  have hR4 : (w3.alloc (.cells #[.int .i64 k1, .slice ai mi ci, .slice ak mk ck, .slice ad md cd, .string t1, .slice av mv cv, .slice af mf cf, .int .i64 n1, .int .u64 x1, .int .i64 g1, .int .i64 c1, .int .i64 q1, .int .i64 r1, .int .i64 z1] 50)).heap[w.heap.size]? = some (.cells #[.int .i64 0, .slice none 0 0, .slice none 0 0, .slice none 0 0, .string ⟨#[]⟩, .slice none 0 0, .slice none 0 0, .int .i64 0, .int .u64 0, .int .i64 0, .int .i64 0, .int .i64 0, .int .i64 0, .int .i64 0] 50 (0, 0)) := (Below.heap_alloc _ _ _ (by omega)).trans hR3
  have hC4 := hc3.alloc (.cells #[.int .i64 k1, .slice ai mi ci, .slice ak mk ck, .slice ad md cd, .string t1, .slice av mv cv, .slice af mf cf, .int .i64 n1, .int .u64 x1, .int .i64 g1, .int .i64 c1, .int .i64 q1, .int .i64 r1, .int .i64 z1] 50)
  have HB4 := hid (HB3.trans (hb3P.mono (by have := HB3.size; omega)))
  unfold pageCells
  simp only
  go_upto_region 6 with fail
  generalize (w3.alloc (.cells #[.int .i64 k1, .slice ai mi ci, .slice ak mk ck, .slice ad md cd, .string t1, .slice av mv cv, .slice af mf cf, .int .i64 n1, .int .u64 x1, .int .i64 g1, .int .i64 c1, .int .i64 q1, .int .i64 r1, .int .i64 z1] 50)) = W4 at *
  generalize hPe : w3.heap.size = P at *
  replace hPe := hid hPe
  have cP := cell_rowL hP4
  have cR := cell_rowL hR4
  have fR := frozen_rowL hR4
  obtain ⟨hc0, hc1, hf0, hf1⟩ := cells_ref hC4.1
  have hbl := hC4.lt
  obtain ⟨l2, sh2⟩ := PT
  try simp only at h3
  subst h3
  try simp only at h4
  subst h4
  have hem : (⟨([] : List UInt8).toArray⟩ : ByteArray).toList = [] := by rw [ByteArray.toList_eq]
  subst h5
  go_wp2_with fail
  refine (HIS.out W4 hb3P).mono ?_
  rintro e w5 ⟨rfl, hb5⟩
  have hR5 : w5.heap[w.heap.size]? = some (.cells #[.int .i64 0, .slice none 0 0, .slice none 0 0, .slice none 0 0, .string ⟨#[]⟩, .slice none 0 0, .slice none 0 0, .int .i64 0, .int .u64 0, .int .i64 0, .int .i64 0, .int .i64 0, .int .i64 0, .int .i64 0] 50 (0, 0)) := (hb5.block _ (Array.getElem?_eq_some_iff.1 hR4).1).trans hR4
  have hP5 := (hb5.block _ (Array.getElem?_eq_some_iff.1 hP4).1).trans hP4
  have HB5 := hid (HB4.out.trans (hb5.mono (by have := HB4.out.size; omega)))
  have hb35 := hb3P.trans (hb5.mono (by have := hb3P.size; have := hPe.out; omega))
  clear cR fR cP
  have cR := cell_rowL hR5
  have fR := frozen_rowL hR5
  have cP := cell_rowL hP5
  clear HIS HBY HHB hc3 hR3 HB3 hb3P hP4 hR4 hC4 hb5 hR5 hP5 hb35 HB4
  go_wp2
  refine bodyPost_ret (v := .tuple #[.agg #[.int .i64 0, .slice none 0 0, .slice none 0 0, .slice none 0 0, .string ⟨#[]⟩, .slice none 0 0, .slice none 0 0, .int .i64 0, .int .u64 0, .int .i64 0, .int .i64 0, .int .i64 0, .int .i64 0, .int .i64 0], .int .i64 12]) (by simp [results, Tryz.results16, go_sem, cR]) rfl ⟨.slice none 0 0, .slice none 0 0, .slice none 0 0, .slice none 0 0, .slice none 0 0, rfl, ⟨items_nil _, strs_nil _, ints_nil _, text_nil_le, strs_nil _, frees_nil _⟩, ?_⟩
  repeat (refine Below.setCell ?_ (by simp) _)
  exact HB5.out
set_option maxRecDepth 10000 in
set_option maxHeartbeats 4000000 in
theorem rread_f (l : List UInt8) (w : World) (hl : l.length ≤ maxLen) (h1 : (nS (l, false)).2 = false) (h2 : nV (l, false) = sumN (nS (l, false)).1) (h3 : (pageT (nS (l, false))).2 = false) (h4 : (pageT (nS (l, false))).1 = []) (h5 : isPB (pageR (nS (l, false))) = true) (h6 : ¬ bytesD (pageR (nS (l, false))) = l) :
    Calls Tryz.prog 16 #[.string (bs l)] w fun e w' => ∃ vi vk vd vv vf, e = .returned (.tuple #[.agg (pageCells (readD l) vi vk vd vv vf).toArray, .int .i64 (readN l)]) ∧ Hangs w' (readD l) vi vk vd vv vf ∧ Below w.heap.size w w' := by
  have hok : okR l = false := by
    rw [← Bool.not_eq_true, ref_ok]
    intro hh
    exact h6 hh.2.2.2.2.2
  have hRD : readD l = noPage := by rw [readD, hok]; rfl
  have hRN : readN l = 12 := by rw [readN, hok]; rfl
  rw [hRD, hRN]
  clear hRD hRN hok
  have hb0 : Below w.heap.size w ((w.alloc (.cells #[.int .i64 0, .slice none 0 0, .slice none 0 0, .slice none 0 0, .string ⟨#[]⟩, .slice none 0 0, .slice none 0 0, .int .i64 0, .int .u64 0, .int .i64 0, .int .i64 0, .int .i64 0, .int .i64 0, .int .i64 0] 50)).alloc (.cells #[.string (bs l), .bool false] 63)) := ((Below.refl _ _).alloc (Nat.le_refl _) _).alloc (by simp) _
  have hR0 : ((w.alloc (.cells #[.int .i64 0, .slice none 0 0, .slice none 0 0, .slice none 0 0, .string ⟨#[]⟩, .slice none 0 0, .slice none 0 0, .int .i64 0, .int .u64 0, .int .i64 0, .int .i64 0, .int .i64 0, .int .i64 0, .int .i64 0] 50)).alloc (.cells #[.string (bs l), .bool false] 63)).heap[w.heap.size]? = some (.cells #[.int .i64 0, .slice none 0 0, .slice none 0 0, .slice none 0 0, .string ⟨#[]⟩, .slice none 0 0, .slice none 0 0, .int .i64 0, .int .u64 0, .int .i64 0, .int .i64 0, .int .i64 0, .int .i64 0, .int .i64 0] 50 (0, 0)) := (Below.heap_alloc _ _ _ (by simp)).trans (heap_newL w _)
  have hC0 : RSt ((w.alloc (.cells #[.int .i64 0, .slice none 0 0, .slice none 0 0, .slice none 0 0, .string ⟨#[]⟩, .slice none 0 0, .slice none 0 0, .int .i64 0, .int .u64 0, .int .i64 0, .int .i64 0, .int .i64 0, .int .i64 0, .int .i64 0] 50)).alloc (.cells #[.string (bs l), .bool false] 63)) (w.heap.size + 1) (l, false) := by
    refine ⟨?_, hl⟩
    have := heap_newL (w.alloc (.cells #[.int .i64 0, .slice none 0 0, .slice none 0 0, .slice none 0 0, .string ⟨#[]⟩, .slice none 0 0, .slice none 0 0, .int .i64 0, .int .u64 0, .int .i64 0, .int .i64 0, .int .i64 0, .int .i64 0, .int .i64 0] 50)) (.cells #[.string (bs l), .bool false] 63)
    rwa [World.size_alloc] at this
  have HN := hid (fun W (hW : RSt W (w.heap.size + 1) (l, false)) => rnumC_any (w.heap.size + 1) (l, false) W hW)
  have hTX := txnOk_pageR (nS (l, false))
  have HPG := hid (fun W (hW : RSt W (w.heap.size + 1) (nS (l, false))) => rpageC_any (w.heap.size + 1) _ W hW)
  have hlt1 := nV_lt (l, false)
  generalize nV (l, false) = NV at *
  generalize nS (l, false) = s1 at *
  obtain ⟨l1, sh1⟩ := s1
  try simp only at h1
  subst h1
  go_enter Tryz.func16, Tryz.ntmps16
  go_wp2_with fail
  generalize ((w.alloc (.cells #[.int .i64 0, .slice none 0 0, .slice none 0 0, .slice none 0 0, .string ⟨#[]⟩, .slice none 0 0, .slice none 0 0, .int .i64 0, .int .u64 0, .int .i64 0, .int .i64 0, .int .i64 0, .int .i64 0, .int .i64 0] 50)).alloc (.cells #[.string (bs l), .bool false] 63)) = X at *
  refine (HN.out X hC0).mono ?_
  rintro e w1 ⟨rfl, hc1, hg1⟩
  have hXs : w.heap.size < X.heap.size := (Array.getElem?_eq_some_iff.1 hR0).1
  have hR1 : w1.heap[w.heap.size]? = some (.cells #[.int .i64 0, .slice none 0 0, .slice none 0 0, .slice none 0 0, .string ⟨#[]⟩, .slice none 0 0, .slice none 0 0, .int .i64 0, .int .u64 0, .int .i64 0, .int .i64 0, .int .i64 0, .int .i64 0, .int .i64 0] 50 (0, 0)) := (hg1.block w.heap.size hXs (by simp)).trans hR0
  have HB1 := hid (hb0.grown hg1 (by omega) (fun r hr => by cases hr; omega))
  obtain ⟨hc0, hc1', hf0, hf1⟩ := cells_ref hc1.1
  have hbl := hc1.lt
  have hl1 := hc1.2
  try simp only at hl1
  have HC1 := hid hc1
  clear hg1 hR0 hC0 hb0 HN hc1
  try simp only at h2
  have hls : (bs l1).size ≤ maxLen := by rw [bs_size]; exact hl1
  have hne : ((NV : Int) != (sumN l1 : Int)) = false := by rw [h2]; exact bne_self_eq_false _
  go_wp2_with fail
  refine (refSum_any (bs l1) _ hls).mono ?_
  rintro e w2 ⟨rfl, rfl⟩
  rw [bs_list]
  generalize hPR : pageR (l1, false) = PR at *
  replace hPR := hid hPR
  generalize pageT (l1, false) = PT at *
  go_wp2_with fail
  refine (HPG.out w2 HC1.out).mono ?_
  rintro e w3 ⟨vi, vk, vd, vv, vf, rfl, hang, hc3, hg3⟩
  have hR3 : w3.heap[w.heap.size]? = some (.cells #[.int .i64 0, .slice none 0 0, .slice none 0 0, .slice none 0 0, .string ⟨#[]⟩, .slice none 0 0, .slice none 0 0, .int .i64 0, .int .u64 0, .int .i64 0, .int .i64 0, .int .i64 0, .int .i64 0, .int .i64 0] 50 (0, 0)) := (hg3.block w.heap.size (by omega) (by simp)).trans hR1
  have HB3 := HB1.out.grown hg3 (by have := HB1.out.size; omega) (fun r hr => by cases hr; omega)
  have hsz3 : w.heap.size + 1 < w3.heap.size := by have := hg3.size; omega
  have hangw := hang w3 ⟨Nat.le_refl _, fun _ _ _ => rfl⟩
  have HHB : Hid (∀ W, Agree (w.heap.size + 1) w3 W → Hangs W PR vi vk vd vv vf) := hid (fun W hW => hang W ⟨hW.1, fun q h1 h2 => hW.2 q (by omega) h2⟩)
  obtain ⟨ai, mi, ci, rfl⟩ := hangw.items.slice
  obtain ⟨ak, mk, ck, rfl⟩ := hangw.keys.slice
  obtain ⟨ad, md, cd, rfl⟩ := hangw.kids.slice
  obtain ⟨av, mv, cv, rfl⟩ := hangw.vals.slice
  obtain ⟨af, mf, cf, rfl⟩ := hangw.free.slice
  have HIS0 := fun W (hW : Below w3.heap.size w3 W) => refIs_any PR (.slice ai mi ci) (.slice ak mk ck) (.slice ad md cd) (.slice av mv cv) (.slice af mf cf) W (hangw.below hW) (by have := hTX.2; omega) hTX.1
  have HBY0 := fun W (hW : Below w3.heap.size w3 W) => rbytes_any PR (.slice ai mi ci) (.slice ak mk ck) (.slice ad md cd) (.slice av mv cv) (.slice af mf cf) W (hangw.below hW) (by have := hTX.2; omega) hTX.1
  clear hang hangw hg3 HPG HC1 hc0 hc1' hf0 hf1 hbl hl1 hR1 HB1 hls hne hTX
  generalize bytesD PR = BD at *
  generalize hIB : isPB PR = IB at *
  obtain ⟨k1, i1, y1, d1, t1, v1, f1, n1, ⟨x1, ⟨g1, c1, q1⟩, r1, z1⟩⟩ := PR
  have HIS : Hid (∀ W, Below w3.heap.size w3 W → Calls Tryz.prog 25 #[.agg #[.int .i64 k1, .slice ai mi ci, .slice ak mk ck, .slice ad md cd, .string t1, .slice av mv cv, .slice af mf cf, .int .i64 n1, .int .u64 x1, .int .i64 g1, .int .i64 c1, .int .i64 q1, .int .i64 r1, .int .i64 z1]] W fun e w' => e = .returned (.bool IB) ∧ Below W.heap.size W w') := hid HIS0
  have HBY : Hid (∀ W, Below w3.heap.size w3 W → Calls Tryz.prog 18 #[.agg #[.int .i64 k1, .slice ai mi ci, .slice ak mk ck, .slice ad md cd, .string t1, .slice av mv cv, .slice af mf cf, .int .i64 n1, .int .u64 x1, .int .i64 g1, .int .i64 c1, .int .i64 q1, .int .i64 r1, .int .i64 z1]] W fun e w' => e = .returned (.string (bs BD)) ∧ Below W.heap.size W w') := hid HBY0
  clear HIS0 HBY0 hIB
  have hb3P : Below w3.heap.size w3 (w3.alloc (.cells #[.int .i64 k1, .slice ai mi ci, .slice ak mk ck, .slice ad md cd, .string t1, .slice av mv cv, .slice af mf cf, .int .i64 n1, .int .u64 x1, .int .i64 g1, .int .i64 c1, .int .i64 q1, .int .i64 r1, .int .i64 z1] 50)) := (Below.refl _ _).alloc (Nat.le_refl _) _
  have hP4 := heap_newL w3 (.cells #[.int .i64 k1, .slice ai mi ci, .slice ak mk ck, .slice ad md cd, .string t1, .slice av mv cv, .slice af mf cf, .int .i64 n1, .int .u64 x1, .int .i64 g1, .int .i64 c1, .int .i64 q1, .int .i64 r1, .int .i64 z1] 50)
  have hR4 : (w3.alloc (.cells #[.int .i64 k1, .slice ai mi ci, .slice ak mk ck, .slice ad md cd, .string t1, .slice av mv cv, .slice af mf cf, .int .i64 n1, .int .u64 x1, .int .i64 g1, .int .i64 c1, .int .i64 q1, .int .i64 r1, .int .i64 z1] 50)).heap[w.heap.size]? = some (.cells #[.int .i64 0, .slice none 0 0, .slice none 0 0, .slice none 0 0, .string ⟨#[]⟩, .slice none 0 0, .slice none 0 0, .int .i64 0, .int .u64 0, .int .i64 0, .int .i64 0, .int .i64 0, .int .i64 0, .int .i64 0] 50 (0, 0)) := (Below.heap_alloc _ _ _ (by omega)).trans hR3
  have hC4 := hc3.alloc (.cells #[.int .i64 k1, .slice ai mi ci, .slice ak mk ck, .slice ad md cd, .string t1, .slice av mv cv, .slice af mf cf, .int .i64 n1, .int .u64 x1, .int .i64 g1, .int .i64 c1, .int .i64 q1, .int .i64 r1, .int .i64 z1] 50)
  have HB4 := hid (HB3.trans (hb3P.mono (by have := HB3.size; omega)))
  unfold pageCells
  simp only
  go_upto_region 6 with fail
  generalize (w3.alloc (.cells #[.int .i64 k1, .slice ai mi ci, .slice ak mk ck, .slice ad md cd, .string t1, .slice av mv cv, .slice af mf cf, .int .i64 n1, .int .u64 x1, .int .i64 g1, .int .i64 c1, .int .i64 q1, .int .i64 r1, .int .i64 z1] 50)) = W4 at *
  generalize hPe : w3.heap.size = P at *
  replace hPe := hid hPe
  have cP := cell_rowL hP4
  have cR := cell_rowL hR4
  have fR := frozen_rowL hR4
  obtain ⟨hc0, hc1, hf0, hf1⟩ := cells_ref hC4.1
  have hbl := hC4.lt
  obtain ⟨l2, sh2⟩ := PT
  try simp only at h3
  subst h3
  try simp only at h4
  subst h4
  have hem : (⟨([] : List UInt8).toArray⟩ : ByteArray).toList = [] := by rw [ByteArray.toList_eq]
  subst h5
  go_wp2_with fail
  refine (HIS.out W4 hb3P).mono ?_
  rintro e w5 ⟨rfl, hb5⟩
  have hR5 : w5.heap[w.heap.size]? = some (.cells #[.int .i64 0, .slice none 0 0, .slice none 0 0, .slice none 0 0, .string ⟨#[]⟩, .slice none 0 0, .slice none 0 0, .int .i64 0, .int .u64 0, .int .i64 0, .int .i64 0, .int .i64 0, .int .i64 0, .int .i64 0] 50 (0, 0)) := (hb5.block _ (Array.getElem?_eq_some_iff.1 hR4).1).trans hR4
  have hP5 := (hb5.block _ (Array.getElem?_eq_some_iff.1 hP4).1).trans hP4
  have HB5 := hid (HB4.out.trans (hb5.mono (by have := HB4.out.size; omega)))
  have hb35 := hb3P.trans (hb5.mono (by have := hb3P.size; have := hPe.out; omega))
  clear cR fR cP
  have cR := cell_rowL hR5
  have fR := frozen_rowL hR5
  have cP := cell_rowL hP5
  have hbl2 : (bs BD).toList = BD := by rw [ByteArray.toList_eq, bs_list]
  have hbl3 : (bs l).toList = l := by rw [ByteArray.toList_eq, bs_list]
  go_wp2_with fail
  refine (HBY.out w5 hb35).mono ?_
  rintro e w6 ⟨rfl, hb6⟩
  have hR6 : w6.heap[w.heap.size]? = some (.cells #[.int .i64 0, .slice none 0 0, .slice none 0 0, .slice none 0 0, .string ⟨#[]⟩, .slice none 0 0, .slice none 0 0, .int .i64 0, .int .u64 0, .int .i64 0, .int .i64 0, .int .i64 0, .int .i64 0, .int .i64 0] 50 (0, 0)) := (hb6.block _ (Array.getElem?_eq_some_iff.1 hR5).1).trans hR5
  have hP6 := (hb6.block _ (Array.getElem?_eq_some_iff.1 hP5).1).trans hP5
  have HB6 := hid (HB5.out.trans (hb6.mono (by have := HB5.out.size; omega)))
  have hb36 := hb35.trans (hb6.mono (by have := hb35.size; have := hPe.out; omega))
  clear cR fR cP
  have cR := cell_rowL hR6
  have fR := frozen_rowL hR6
  have cP := cell_rowL hP6
  have hbb : (BD == l) = false := by simpa using h6
  clear HIS HBY HHB hc3 hR3 HB3 hb3P hP4 hR4 hC4 hb5 hR5 hP5 hb35 HB4 hb6 hR6 hP6 hb36 HB5
  go_wp2
  refine bodyPost_ret (v := .tuple #[.agg #[.int .i64 0, .slice none 0 0, .slice none 0 0, .slice none 0 0, .string ⟨#[]⟩, .slice none 0 0, .slice none 0 0, .int .i64 0, .int .u64 0, .int .i64 0, .int .i64 0, .int .i64 0, .int .i64 0, .int .i64 0], .int .i64 12]) (by simp [results, Tryz.results16, go_sem, cR]) rfl ⟨.slice none 0 0, .slice none 0 0, .slice none 0 0, .slice none 0 0, .slice none 0 0, rfl, ⟨items_nil _, strs_nil _, ints_nil _, text_nil_le, strs_nil _, frees_nil _⟩, ?_⟩
  repeat (refine Below.setCell ?_ (by simp) _)
  exact HB6.out
set_option maxRecDepth 10000 in
set_option maxHeartbeats 4000000 in
theorem rread_g (l : List UInt8) (w : World) (hl : l.length ≤ maxLen) (h1 : (nS (l, false)).2 = false) (h2 : nV (l, false) = sumN (nS (l, false)).1) (h3 : (pageT (nS (l, false))).2 = false) (h4 : (pageT (nS (l, false))).1 = []) (h5 : isPB (pageR (nS (l, false))) = true) (h6 : bytesD (pageR (nS (l, false))) = l) :
    Calls Tryz.prog 16 #[.string (bs l)] w fun e w' => ∃ vi vk vd vv vf, e = .returned (.tuple #[.agg (pageCells (readD l) vi vk vd vv vf).toArray, .int .i64 (readN l)]) ∧ Hangs w' (readD l) vi vk vd vv vf ∧ Below w.heap.size w w' := by
  have hok : okR l = true := (ref_ok l).2 ⟨h1, h2, h3, h4, h5, h6⟩
  have hRD : readD l = pageR (nS (l, false)) := by rw [readD, if_pos hok, (ref_val hok).1]
  have hRN : readN l = 0 := by rw [readN, if_pos hok]
  rw [hRD, hRN]
  clear hRD hRN hok
  have hb0 : Below w.heap.size w ((w.alloc (.cells #[.int .i64 0, .slice none 0 0, .slice none 0 0, .slice none 0 0, .string ⟨#[]⟩, .slice none 0 0, .slice none 0 0, .int .i64 0, .int .u64 0, .int .i64 0, .int .i64 0, .int .i64 0, .int .i64 0, .int .i64 0] 50)).alloc (.cells #[.string (bs l), .bool false] 63)) := ((Below.refl _ _).alloc (Nat.le_refl _) _).alloc (by simp) _
  have hR0 : ((w.alloc (.cells #[.int .i64 0, .slice none 0 0, .slice none 0 0, .slice none 0 0, .string ⟨#[]⟩, .slice none 0 0, .slice none 0 0, .int .i64 0, .int .u64 0, .int .i64 0, .int .i64 0, .int .i64 0, .int .i64 0, .int .i64 0] 50)).alloc (.cells #[.string (bs l), .bool false] 63)).heap[w.heap.size]? = some (.cells #[.int .i64 0, .slice none 0 0, .slice none 0 0, .slice none 0 0, .string ⟨#[]⟩, .slice none 0 0, .slice none 0 0, .int .i64 0, .int .u64 0, .int .i64 0, .int .i64 0, .int .i64 0, .int .i64 0, .int .i64 0] 50 (0, 0)) := (Below.heap_alloc _ _ _ (by simp)).trans (heap_newL w _)
  have hC0 : RSt ((w.alloc (.cells #[.int .i64 0, .slice none 0 0, .slice none 0 0, .slice none 0 0, .string ⟨#[]⟩, .slice none 0 0, .slice none 0 0, .int .i64 0, .int .u64 0, .int .i64 0, .int .i64 0, .int .i64 0, .int .i64 0, .int .i64 0] 50)).alloc (.cells #[.string (bs l), .bool false] 63)) (w.heap.size + 1) (l, false) := by
    refine ⟨?_, hl⟩
    have := heap_newL (w.alloc (.cells #[.int .i64 0, .slice none 0 0, .slice none 0 0, .slice none 0 0, .string ⟨#[]⟩, .slice none 0 0, .slice none 0 0, .int .i64 0, .int .u64 0, .int .i64 0, .int .i64 0, .int .i64 0, .int .i64 0, .int .i64 0] 50)) (.cells #[.string (bs l), .bool false] 63)
    rwa [World.size_alloc] at this
  have HN := hid (fun W (hW : RSt W (w.heap.size + 1) (l, false)) => rnumC_any (w.heap.size + 1) (l, false) W hW)
  have hTX := txnOk_pageR (nS (l, false))
  have HPG := hid (fun W (hW : RSt W (w.heap.size + 1) (nS (l, false))) => rpageC_any (w.heap.size + 1) _ W hW)
  have hlt1 := nV_lt (l, false)
  generalize nV (l, false) = NV at *
  generalize nS (l, false) = s1 at *
  obtain ⟨l1, sh1⟩ := s1
  try simp only at h1
  subst h1
  go_enter Tryz.func16, Tryz.ntmps16
  go_wp2_with fail
  generalize ((w.alloc (.cells #[.int .i64 0, .slice none 0 0, .slice none 0 0, .slice none 0 0, .string ⟨#[]⟩, .slice none 0 0, .slice none 0 0, .int .i64 0, .int .u64 0, .int .i64 0, .int .i64 0, .int .i64 0, .int .i64 0, .int .i64 0] 50)).alloc (.cells #[.string (bs l), .bool false] 63)) = X at *
  refine (HN.out X hC0).mono ?_
  rintro e w1 ⟨rfl, hc1, hg1⟩
  have hXs : w.heap.size < X.heap.size := (Array.getElem?_eq_some_iff.1 hR0).1
  have hR1 : w1.heap[w.heap.size]? = some (.cells #[.int .i64 0, .slice none 0 0, .slice none 0 0, .slice none 0 0, .string ⟨#[]⟩, .slice none 0 0, .slice none 0 0, .int .i64 0, .int .u64 0, .int .i64 0, .int .i64 0, .int .i64 0, .int .i64 0, .int .i64 0] 50 (0, 0)) := (hg1.block w.heap.size hXs (by simp)).trans hR0
  have HB1 := hid (hb0.grown hg1 (by omega) (fun r hr => by cases hr; omega))
  obtain ⟨hc0, hc1', hf0, hf1⟩ := cells_ref hc1.1
  have hbl := hc1.lt
  have hl1 := hc1.2
  try simp only at hl1
  have HC1 := hid hc1
  clear hg1 hR0 hC0 hb0 HN hc1
  try simp only at h2
  have hls : (bs l1).size ≤ maxLen := by rw [bs_size]; exact hl1
  have hne : ((NV : Int) != (sumN l1 : Int)) = false := by rw [h2]; exact bne_self_eq_false _
  go_wp2_with fail
  refine (refSum_any (bs l1) _ hls).mono ?_
  rintro e w2 ⟨rfl, rfl⟩
  rw [bs_list]
  generalize hPR : pageR (l1, false) = PR at *
  replace hPR := hid hPR
  generalize pageT (l1, false) = PT at *
  go_wp2_with fail
  refine (HPG.out w2 HC1.out).mono ?_
  rintro e w3 ⟨vi, vk, vd, vv, vf, rfl, hang, hc3, hg3⟩
  have hR3 : w3.heap[w.heap.size]? = some (.cells #[.int .i64 0, .slice none 0 0, .slice none 0 0, .slice none 0 0, .string ⟨#[]⟩, .slice none 0 0, .slice none 0 0, .int .i64 0, .int .u64 0, .int .i64 0, .int .i64 0, .int .i64 0, .int .i64 0, .int .i64 0] 50 (0, 0)) := (hg3.block w.heap.size (by omega) (by simp)).trans hR1
  have HB3 := HB1.out.grown hg3 (by have := HB1.out.size; omega) (fun r hr => by cases hr; omega)
  have hsz3 : w.heap.size + 1 < w3.heap.size := by have := hg3.size; omega
  have hangw := hang w3 ⟨Nat.le_refl _, fun _ _ _ => rfl⟩
  have HHB : Hid (∀ W, Agree (w.heap.size + 1) w3 W → Hangs W PR vi vk vd vv vf) := hid (fun W hW => hang W ⟨hW.1, fun q h1 h2 => hW.2 q (by omega) h2⟩)
  obtain ⟨ai, mi, ci, rfl⟩ := hangw.items.slice
  obtain ⟨ak, mk, ck, rfl⟩ := hangw.keys.slice
  obtain ⟨ad, md, cd, rfl⟩ := hangw.kids.slice
  obtain ⟨av, mv, cv, rfl⟩ := hangw.vals.slice
  obtain ⟨af, mf, cf, rfl⟩ := hangw.free.slice
  have HIS0 := fun W (hW : Below w3.heap.size w3 W) => refIs_any PR (.slice ai mi ci) (.slice ak mk ck) (.slice ad md cd) (.slice av mv cv) (.slice af mf cf) W (hangw.below hW) (by have := hTX.2; omega) hTX.1
  have HBY0 := fun W (hW : Below w3.heap.size w3 W) => rbytes_any PR (.slice ai mi ci) (.slice ak mk ck) (.slice ad md cd) (.slice av mv cv) (.slice af mf cf) W (hangw.below hW) (by have := hTX.2; omega) hTX.1
  clear hang hangw hg3 HPG HC1 hc0 hc1' hf0 hf1 hbl hl1 hR1 HB1 hls hne hTX
  generalize bytesD PR = BD at *
  generalize hIB : isPB PR = IB at *
  obtain ⟨k1, i1, y1, d1, t1, v1, f1, n1, ⟨x1, ⟨g1, c1, q1⟩, r1, z1⟩⟩ := PR
  have HIS : Hid (∀ W, Below w3.heap.size w3 W → Calls Tryz.prog 25 #[.agg #[.int .i64 k1, .slice ai mi ci, .slice ak mk ck, .slice ad md cd, .string t1, .slice av mv cv, .slice af mf cf, .int .i64 n1, .int .u64 x1, .int .i64 g1, .int .i64 c1, .int .i64 q1, .int .i64 r1, .int .i64 z1]] W fun e w' => e = .returned (.bool IB) ∧ Below W.heap.size W w') := hid HIS0
  have HBY : Hid (∀ W, Below w3.heap.size w3 W → Calls Tryz.prog 18 #[.agg #[.int .i64 k1, .slice ai mi ci, .slice ak mk ck, .slice ad md cd, .string t1, .slice av mv cv, .slice af mf cf, .int .i64 n1, .int .u64 x1, .int .i64 g1, .int .i64 c1, .int .i64 q1, .int .i64 r1, .int .i64 z1]] W fun e w' => e = .returned (.string (bs BD)) ∧ Below W.heap.size W w') := hid HBY0
  clear HIS0 HBY0 hIB
  have hb3P : Below w3.heap.size w3 (w3.alloc (.cells #[.int .i64 k1, .slice ai mi ci, .slice ak mk ck, .slice ad md cd, .string t1, .slice av mv cv, .slice af mf cf, .int .i64 n1, .int .u64 x1, .int .i64 g1, .int .i64 c1, .int .i64 q1, .int .i64 r1, .int .i64 z1] 50)) := (Below.refl _ _).alloc (Nat.le_refl _) _
  have hP4 := heap_newL w3 (.cells #[.int .i64 k1, .slice ai mi ci, .slice ak mk ck, .slice ad md cd, .string t1, .slice av mv cv, .slice af mf cf, .int .i64 n1, .int .u64 x1, .int .i64 g1, .int .i64 c1, .int .i64 q1, .int .i64 r1, .int .i64 z1] 50)
  have hR4 : (w3.alloc (.cells #[.int .i64 k1, .slice ai mi ci, .slice ak mk ck, .slice ad md cd, .string t1, .slice av mv cv, .slice af mf cf, .int .i64 n1, .int .u64 x1, .int .i64 g1, .int .i64 c1, .int .i64 q1, .int .i64 r1, .int .i64 z1] 50)).heap[w.heap.size]? = some (.cells #[.int .i64 0, .slice none 0 0, .slice none 0 0, .slice none 0 0, .string ⟨#[]⟩, .slice none 0 0, .slice none 0 0, .int .i64 0, .int .u64 0, .int .i64 0, .int .i64 0, .int .i64 0, .int .i64 0, .int .i64 0] 50 (0, 0)) := (Below.heap_alloc _ _ _ (by omega)).trans hR3
  have hC4 := hc3.alloc (.cells #[.int .i64 k1, .slice ai mi ci, .slice ak mk ck, .slice ad md cd, .string t1, .slice av mv cv, .slice af mf cf, .int .i64 n1, .int .u64 x1, .int .i64 g1, .int .i64 c1, .int .i64 q1, .int .i64 r1, .int .i64 z1] 50)
  have HB4 := hid (HB3.trans (hb3P.mono (by have := HB3.size; omega)))
  unfold pageCells
  simp only
  go_upto_region 6 with fail
  generalize (w3.alloc (.cells #[.int .i64 k1, .slice ai mi ci, .slice ak mk ck, .slice ad md cd, .string t1, .slice av mv cv, .slice af mf cf, .int .i64 n1, .int .u64 x1, .int .i64 g1, .int .i64 c1, .int .i64 q1, .int .i64 r1, .int .i64 z1] 50)) = W4 at *
  generalize hPe : w3.heap.size = P at *
  replace hPe := hid hPe
  have cP := cell_rowL hP4
  have cR := cell_rowL hR4
  have fR := frozen_rowL hR4
  obtain ⟨hc0, hc1, hf0, hf1⟩ := cells_ref hC4.1
  have hbl := hC4.lt
  obtain ⟨l2, sh2⟩ := PT
  try simp only at h3
  subst h3
  try simp only at h4
  subst h4
  have hem : (⟨([] : List UInt8).toArray⟩ : ByteArray).toList = [] := by rw [ByteArray.toList_eq]
  subst h5
  go_wp2_with fail
  refine (HIS.out W4 hb3P).mono ?_
  rintro e w5 ⟨rfl, hb5⟩
  have hR5 : w5.heap[w.heap.size]? = some (.cells #[.int .i64 0, .slice none 0 0, .slice none 0 0, .slice none 0 0, .string ⟨#[]⟩, .slice none 0 0, .slice none 0 0, .int .i64 0, .int .u64 0, .int .i64 0, .int .i64 0, .int .i64 0, .int .i64 0, .int .i64 0] 50 (0, 0)) := (hb5.block _ (Array.getElem?_eq_some_iff.1 hR4).1).trans hR4
  have hP5 := (hb5.block _ (Array.getElem?_eq_some_iff.1 hP4).1).trans hP4
  have HB5 := hid (HB4.out.trans (hb5.mono (by have := HB4.out.size; omega)))
  have hb35 := hb3P.trans (hb5.mono (by have := hb3P.size; have := hPe.out; omega))
  clear cR fR cP
  have cR := cell_rowL hR5
  have fR := frozen_rowL hR5
  have cP := cell_rowL hP5
  have hbl2 : (bs BD).toList = BD := by rw [ByteArray.toList_eq, bs_list]
  have hbl3 : (bs l).toList = l := by rw [ByteArray.toList_eq, bs_list]
  go_wp2_with fail
  refine (HBY.out w5 hb35).mono ?_
  rintro e w6 ⟨rfl, hb6⟩
  have hR6 : w6.heap[w.heap.size]? = some (.cells #[.int .i64 0, .slice none 0 0, .slice none 0 0, .slice none 0 0, .string ⟨#[]⟩, .slice none 0 0, .slice none 0 0, .int .i64 0, .int .u64 0, .int .i64 0, .int .i64 0, .int .i64 0, .int .i64 0, .int .i64 0] 50 (0, 0)) := (hb6.block _ (Array.getElem?_eq_some_iff.1 hR5).1).trans hR5
  have hP6 := (hb6.block _ (Array.getElem?_eq_some_iff.1 hP5).1).trans hP5
  have HB6 := hid (HB5.out.trans (hb6.mono (by have := HB5.out.size; omega)))
  have hb36 := hb35.trans (hb6.mono (by have := hb35.size; have := hPe.out; omega))
  clear cR fR cP
  have cR := cell_rowL hR6
  have fR := frozen_rowL hR6
  have cP := cell_rowL hP6
  have hbb : (BD == l) = true := by simpa using h6
  have HA6 := hid hb36
  clear HIS HBY hc3 hR3 HB3 hb3P hP4 hR4 hC4 hb5 hR5 hP5 hb35 HB4 hb6 hR6 hP6 hb36 HB5
  go_wp2
  refine bodyPost_ret (v := .tuple #[.agg #[.int .i64 k1, .slice ai mi ci, .slice ak mk ck, .slice ad md cd, .string t1, .slice av mv cv, .slice af mf cf, .int .i64 n1, .int .u64 x1, .int .i64 g1, .int .i64 c1, .int .i64 q1, .int .i64 r1, .int .i64 z1], .int .i64 0]) (by simp [results, Tryz.results16, go_sem, cR]) rfl ⟨.slice ai mi ci, .slice ak mk ck, .slice ad md cd, .slice av mv cv, .slice af mf cf, by rw [hPR.out]; rfl, ?_, ?_⟩
  · rw [hPR.out]
    refine HHB.out _ (agree_grown (by rw [hPe.out]; exact HA6.out) ?_)
    repeat (refine grown_trans ?_ (grown_setCell _ _ _ _))
    exact grown_refl _ _
  · repeat (refine Below.setCell ?_ (by simp) _)
    exact HB6.out
theorem rread_any (l : List UInt8) (w : World) (hl : l.length ≤ maxLen) :
    Calls Tryz.prog 16 #[.string (bs l)] w fun e w' => ∃ vi vk vd vv vf, e = .returned (.tuple #[.agg (pageCells (readD l) vi vk vd vv vf).toArray, .int .i64 (readN l)]) ∧ Hangs w' (readD l) vi vk vd vv vf ∧ Below w.heap.size w w' := by
  cases h1 : (nS (l, false)).2 with
  | true => exact rread_a l w hl h1
  | false =>
    by_cases h2 : nV (l, false) = sumN (nS (l, false)).1
    · cases h3 : (pageT (nS (l, false))).2 with
      | true => exact rread_c l w hl h1 h2 h3
      | false =>
        by_cases h4 : (pageT (nS (l, false))).1 = []
        · cases h5 : isPB (pageR (nS (l, false))) with
          | false => exact rread_e l w hl h1 h2 h3 h4 h5
          | true =>
            by_cases h6 : bytesD (pageR (nS (l, false))) = l
            · exact rread_g l w hl h1 h2 h3 h4 h5 h6
            · exact rread_f l w hl h1 h2 h3 h4 h5 h6
        · exact rread_d l w hl h1 h2 h3 h4
    · exact rread_b l w hl h1 h2
end Go.Proofs.YtgnmjdcmaahlnaaGreat

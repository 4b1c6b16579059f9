/- Contracts of package page's kidBytes and partBytes. -/
import Derived.Test.YtgnmjdcmaahlnaaMc
import Derived.Test.YtgnmjdcmaahlnaaMd
namespace Go.Proofs.Ytgnmjdcmaahlnaa
open Go.RowKit Go.Sort

def kidB (x : ByteArray × Int) : List UInt8 := textB x.1 ++ numB x.2

set_option maxHeartbeats 1000000 in
theorem kidBytes_any (l : List ByteArray) (m : List Int) (v u : Value) (w : World) (hv : StrsAt w v l) (hu : IntsAt w u m) (hlen : l.length = m.length) (hs : ∀ x ∈ l, x.size ≤ 65535) (hl : m.length ≤ 1000) :
    Calls Try.prog 28 #[v, u] w fun e w' => e = .returned (.string (bs (numB m.length ++ joinB kidB (l.zip m)))) ∧ Below w.heap.size w w' := by
  obtain ⟨ao, cap, rfl, hlm, hc⟩ := hv
  obtain ⟨ao2, cap2, rfl, hlm2, hc2⟩ := hu
  unfold maxLen at hlm hlm2
  have HC := hid hc
  have HC2 := hid hc2
  have HS := hid hs
  have hzl : (l.zip m).length = m.length := by simp [hlen]
  have HM : Hid (∀ k, k ≤ m.length → (joinB kidB ((l.zip m).take k)).length ≤ 65545 * k) := by
    intro k hk
    have := joinB_le kidB 65545 ((l.zip m).take k) (fun x hx => by
      have h1 := (List.of_mem_zip (List.mem_of_mem_take hx)).1
      have h2 := hs _ h1
      simp only [kidB, List.length_append, textB_length, numB_length]
      omega)
    rw [List.length_take, Nat.min_eq_left (by omega)] at this
    omega
  have HZ := hid hzl
  have HLEN := hid hlen
  clear hc hc2 hs hzl
  have hb0 : Below w.heap.size w (w.alloc (.cells #[.pointer none, .slice none 0 0] 111)) := (Below.refl _ _).alloc (Nat.le_refl _) _
  have HI0 := hid (isB_fresh w)
  clear hlen
  go_enter Try.func28, Try.ntmps28
  go_wp2_with fail
  refine (pnum_any _ _).mono ?_
  rintro e w1 ⟨rfl, hb1⟩
  have HI1 := hid (isB_below HI0.out hb1)
  have hB1 := hb0.trans (hb1.mono hb0.size)
  clear hb1 HI0 hb0
  go_wp2_with fail
  refine (writeString_any w.heap.size w.heap.size [] _ _ HI1.out (by rw [bs_size, numB_length]; simp) hB1.size).mono ?_
  rintro e w2 ⟨rfl, hI2, hb2⟩
  have HI2 : Hid (IsB w.heap.size w.heap.size (numB m.length ++ joinB kidB ((l.zip m).take 0)) w2) := by
    show IsB _ _ _ _
    rw [bs_list] at hI2
    simpa [joinB] using hI2
  have hB2 := hB1.trans hb2
  clear hB1 hb2 hI2 HI1
  go_wp2
  go_loopw [14] (fun i wr => ∃ k : Nat, k ≤ m.length ∧ i = .int .i64 k ∧ Hid (IsB w.heap.size w.heap.size (numB m.length ++ joinB kidB ((l.zip m).take k)) wr) ∧ Below w.heap.size w wr) (fun i _ => m.length - (intOf i).toNat)
  case atStart => exact ⟨0, Nat.zero_le _, rfl, HI2, hB2⟩
  case round =>
    obtain ⟨k, hk, rfl, hI, hbel⟩ := hrel
    clear HI2 hB2
    by_cases hlt : k < m.length
    · have hlt1 : k < l.length := by rw [HLEN.out]; exact hlt
      have HT : Hid (joinB kidB ((l.zip m).take (k + 1)) = joinB kidB ((l.zip m).take k) ++ (textB l[k] ++ numB m[k])) := by
        show _ = _
        rw [joinB_take kidB (l.zip m) k (by rw [HZ.out]; exact hlt)]
        simp [kidB]
      have hMk := HM.out k (by omega)
      have HSK := hid (HS.out l[k] (List.getElem_mem hlt1))
      obtain ⟨a, ha, hce, -⟩ := HC.out k hlt1
      obtain ⟨a2, ha2, hce2⟩ := HC2.out k hlt
      have hcell : wr.cell? (a.add k) = some (.string l[k]) := (hbel.cell (p := a.add k) (World.block_lt_of_cell? w _ hce)).trans hce
      have hcell2 : wr.cell? (a2.add k) = some (.int .i64 m[k]) := (hbel.cell (p := a2.add k) (World.block_lt_of_cell? w _ hce2)).trans hce2
      have hia := atStrs (ao := ao) l.length cap k ha hlt1
      have hia2 := atInts (ao := ao2) m.length cap2 k ha2 hlt
      clear hce ha hce2 ha2
      generalize l[k] = Y at *
      generalize m[k] = Z at *
      go_wp2_with fail
      refine (ptext_any _ _ HSK.out).mono ?_
      rintro e w3 ⟨rfl, hb3⟩
      have HI3 := hid (isB_below hI.out hb3)
      have hB3 := hbel.trans (hb3.mono hbel.size)
      clear hb3
      go_wp2_with fail
      refine (writeString_any w.heap.size w.heap.size _ _ _ HI3.out (by rw [bs_size, List.length_append, numB_length, textB_length]; have := HSK.out; omega) hB3.size).mono ?_
      rintro e w4 ⟨rfl, hI4, hb4⟩
      have hB4 := hB3.trans hb4
      have HI4 := hid hI4
      clear hB3 hb4 hI4 HI3
      go_wp2_with fail
      refine (pnum_any _ _).mono ?_
      rintro e w5 ⟨rfl, hb5⟩
      have HI5 := hid (isB_below HI4.out hb5)
      have hB5 := hB4.trans (hb5.mono hB4.size)
      clear hb5 HI4 hB4
      go_wp2_with fail
      refine (writeString_any w.heap.size w.heap.size _ _ _ HI5.out (by simp only [bs_list, bs_size, List.length_append, numB_length, textB_length]; have := HSK.out; omega) hB5.size).mono ?_
      rintro e w6 ⟨rfl, hI6, hb6⟩
      have HI6 : Hid (IsB w.heap.size w.heap.size (numB m.length ++ joinB kidB ((l.zip m).take (k + 1))) w6) := by
        show IsB _ _ _ _
        rw [HT.out, ← List.append_assoc, ← List.append_assoc]
        rw [bs_list, bs_list] at hI6
        exact hI6
      have hB6 := hB5.trans hb6
      clear hB5 hb6 hI6 HI5
      go_wp2
      go_roundw
      case rel => exact ⟨k + 1, by omega, by go_num, HI6, hB6⟩
      case measure => simp [intOf]; omega
    · go_wp2_with fail
      refine (string_any w.heap.size w.heap.size _ _ hI.out hbel.size).mono ?_
      rintro e w3 ⟨rfl, hb3⟩
      go_wp2
      go_ret
      refine ⟨ret_str ?_, hbel.trans hb3⟩
      rw [List.take_of_length_le (by rw [HZ.out]; omega)]
      rfl

def metaD (m : MetaD) : List UInt8 := lowB m.txn 8 ++ rootBytesD m.main ++ numB m.free ++ numB m.last
def partD (p : PageD) : List UInt8 :=
  if p.kind = 1 then listB itemBytesD p.items
  else if p.kind = 2 then numB p.kids.length ++ joinB kidB (p.keys.zip p.kids)
  else if p.kind = 3 then textB p.text
  else if p.kind = 4 then listB textB p.vals
  else if p.kind = 5 then listB freeBytesD p.free ++ numB p.next
  else metaD p.mt
structure PartOk (p : PageD) : Prop where
  items : p.kind = 1 → p.items.length ≤ 1000 ∧ ∀ x ∈ p.items, ItemOk x
  kids : p.kind = 2 → p.keys.length = p.kids.length ∧ p.kids.length ≤ 1000 ∧ ∀ x ∈ p.keys, x.size ≤ 65535
  text : p.kind = 3 → p.text.size ≤ 65535
  vals : p.kind = 4 → p.vals.length ≤ 1000 ∧ ∀ x ∈ p.vals, x.size ≤ 65535
  free : p.kind = 5 → p.free.length ≤ 1000 ∧ ∀ f ∈ p.free, FreeOk f
  txn : 0 ≤ p.mt.txn ∧ p.mt.txn < 18446744073709551616
theorem partD_le (p : PageD) (h : PartOk p) : (partD p).length ≤ 70000000000 := by
  unfold partD
  by_cases h1 : p.kind = 1
  · have := listB_le itemBytesD 65700000 p.items (fun x hx => itemBytesD_le x ((h.items h1).2 x hx))
    have := (h.items h1).1
    simp only [h1, ↓reduceIte]
    omega
  by_cases h2 : p.kind = 2
  · obtain ⟨e1, e2, e3⟩ := h.kids h2
    have := joinB_le kidB 65545 (p.keys.zip p.kids) (fun x hx => by
      have h2 := e3 _ (List.of_mem_zip hx).1
      simp only [kidB, List.length_append, textB_length, numB_length]
      omega)
    have e4 : (p.keys.zip p.kids).length = p.kids.length := by simp [e1]
    rw [e4] at this
    simp only [h2, ↓reduceIte]
    simp [numB_length]
    omega
  by_cases h3 : p.kind = 3
  · have := h.text h3
    simp only [h3, ↓reduceIte]
    simp [textB_length]
    omega
  by_cases h4 : p.kind = 4
  · have := listTexts_le p.vals (h.vals h4).1 (h.vals h4).2
    simp only [h4, ↓reduceIte]
    simp
    omega
  by_cases h5 : p.kind = 5
  · have := listB_le freeBytesD 8016 p.free (fun x hx => freeBytesD_le x ((h.free h5).2 x hx))
    have := (h.free h5).1
    simp only [h5, ↓reduceIte]
    simp [numB_length]
    omega
  · simp only [h1, h2, h3, h4, h5, ↓reduceIte, metaD, List.length_append, lowB_length, rootBytesD_length, numB_length]
    omega
end Go.Proofs.Ytgnmjdcmaahlnaa

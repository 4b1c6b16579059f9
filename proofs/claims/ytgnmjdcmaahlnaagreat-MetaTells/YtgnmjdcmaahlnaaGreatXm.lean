/- Contract of the reference Cut's page, of every bytes. What is written of a right page the reference takes as that page, and nothing is left. -/
import Derived.Test.YtgnmjdcmaahlnaaGreatXQg
import Derived.Test.YtgnmjdcmaahlnaaGreatXQh
import Derived.Test.YtgnmjdcmaahlnaaGreatXh
namespace Go.Proofs.YtgnmjdcmaahlnaaGreat
open Go.RowKit Go.Sort

def pageR (s : St) : PageD := (partR (iR 6 s) (jS 6 s)).1
def pageT (s : St) : St := (partR (iR 6 s) (jS 6 s)).2
theorem rpageC_any (b : Nat) (s : St) (w : World) (h : RSt w b s) :
    Calls Tryz.prog 24 #[.pointer (some ⟨b, 0, none⟩)] w fun e w' => ∃ vi vk vd vv vf, e = .returned (.agg (pageCells (pageR s) vi vk vd vv vf).toArray) ∧ HangsB w.heap.size w' (pageR s) vi vk vd vv vf ∧ RSt w' b (pageT s) ∧ w.grownBy w' (some b) := by
  have hd := iR_le 6 s
  unfold pageR pageT
  by_cases h0 : iR 6 s = 0
  · rw [h0]; exact rpage_0 b s w h h0
  by_cases h1 : iR 6 s = 1
  · rw [h1]; exact rpage_1 b s w h h1
  by_cases h2 : iR 6 s = 2
  · rw [h2]; exact rpage_2 b s w h h2
  by_cases h3 : iR 6 s = 3
  · rw [h3]; exact rpage_3 b s w h h3
  by_cases h4 : iR 6 s = 4
  · rw [h4]; exact rpage_4 b s w h h4
  by_cases h5 : iR 6 s = 5
  · rw [h5]; exact rpage_5 b s w h h5
  have h6 : iR 6 s = 6 := by omega
  rw [h6]; exact rpage_6 b s w h h6
theorem freesR_txn : ∀ k s, ∀ f ∈ (freesR k s).1, 0 ≤ f.txn ∧ f.txn < 18446744073709551616
  | 0, s, f, h => by simp [freesR] at h
  | k + 1, s, f, h => by
    have hl := nV_lt s
    unfold freesR at h
    split at h
    · simp at h
    · rcases List.mem_cons.1 h with rfl | h
      · exact ⟨by simp, by simp; omega⟩
      · exact freesR_txn k _ f h
theorem freesR_le : ∀ k s, (freesR k s).1.length ≤ k
  | 0, s => by simp [freesR]
  | k + 1, s => by
    unfold freesR
    split
    · simp
    · have := freesR_le k (intsGo (iR 20 (nS s)) (jS 20 (nS s))).2
      simp
      omega
theorem txnOk_pageR (s : St) : TxnOk (pageR s) ∧ (pageR s).free.length ≤ 20 := by
  have hd := iR_le 6 s
  unfold pageR
  generalize jS 6 s = s1
  have hl := nV_lt s1
  have z : (0 : Int) ≤ 0 ∧ (0 : Int) < 18446744073709551616 := by omega
  have hcase : iR 6 s = 0 ∨ iR 6 s = 1 ∨ iR 6 s = 2 ∨ iR 6 s = 3 ∨ iR 6 s = 4 ∨ iR 6 s = 5 ∨ iR 6 s = 6 := by omega
  rcases hcase with h | h | h | h | h | h | h <;> rw [h]
  · exact ⟨⟨z, by simp [partR, noPage]⟩, by simp [partR, noPage]⟩
  · exact ⟨⟨z, by simp [partR, noPage]⟩, by simp [partR, noPage]⟩
  · exact ⟨⟨z, by simp [partR, noPage]⟩, by simp [partR, noPage]⟩
  · exact ⟨⟨z, by simp [partR, noPage]⟩, by simp [partR, noPage]⟩
  · exact ⟨⟨z, by simp [partR, noPage]⟩, by simp [partR, noPage]⟩
  · exact ⟨⟨z, freesR_txn _ _⟩, Nat.le_trans (freesR_le _ _) (iR_le _ _)⟩
  · exact ⟨⟨⟨by simp [partR, metaR], by simp [partR, metaR]; omega⟩, by simp [partR, noPage]⟩, by simp [partR, noPage]⟩
end Go.Proofs.YtgnmjdcmaahlnaaGreat

namespace Go.Proofs.YtgnmjdcmaahlnaaGreat
open Go.RowKit Go.Sort

theorem intR_enc (n : Int) (m : Nat) (h0 : 0 ≤ n) (h1 : n ≤ m) (hm : m ≤ 1000000) (r : List UInt8) : (iR m (numB n ++ r, false) : Int) = n ∧ jS m (numB n ++ r, false) = (r, false) := by
  have e := num_enc n h0 (by omega) r
  have hle : nV (numB n ++ r, false) ≤ m := by rw [e.1]; omega
  refine ⟨?_, ?_⟩
  · unfold iR
    rw [if_pos hle, e.1]
    exact Int.toNat_of_nonneg h0
  · unfold jS
    rw [if_pos hle, e.2.1]
theorem natR_enc (n m : Nat) (h1 : n ≤ m) (hm : m ≤ 1000000) (r : List UInt8) : iR m (numB n ++ r, false) = n ∧ jS m (numB n ++ r, false) = (r, false) := by
  have e := intR_enc n m (by omega) (by omega) hm r
  exact ⟨by have := e.1; omega, e.2⟩
def RootFit (x : RootD) : Prop := (0 ≤ x.page ∧ x.page ≤ 400) ∧ (0 ≤ x.count ∧ x.count ≤ 1000000) ∧ 0 ≤ x.flags ∧ x.flags ≤ 1
theorem page_fit {n : Int} (h : pageB n = true) : 0 ≤ n ∧ n ≤ 400 := by simp [pageB] at h; omega
theorem none_fit {n : Int} (h : noneB n = true) : 0 ≤ n ∧ n ≤ 400 := by
  simp only [noneB, Bool.or_eq_true, beq_iff_eq] at h
  rcases h with rfl | h
  · omega
  · exact page_fit h
theorem root_fit {r : RootD} (h : rootB r = true) : RootFit r := by
  simp only [rootB, Bool.and_eq_true, Bool.or_eq_true, beq_iff_eq, decide_eq_true_eq] at h
  obtain ⟨⟨⟨h1, h2⟩, h3⟩, h4⟩ := h
  have hp : 0 ≤ r.page ∧ r.page ≤ 400 := by
    rcases h1 with h1 | h1
    · omega
    · exact page_fit h1
  unfold RootFit
  omega
theorem noRoot_fit : RootFit ⟨0, 0, 0⟩ := by simp [RootFit]
theorem rootR_enc (x : RootD) (h : RootFit x) (r : List UInt8) : rootR (rootBytesD x ++ r, false) = x ∧ rootT (rootBytesD x ++ r, false) = (r, false) := by
  obtain ⟨⟨a1, a2⟩, ⟨b1, b2⟩, c1, c2⟩ := h
  have e1 := intR_enc x.page 400 a1 a2 (by omega) (numB x.count ++ (numB x.flags ++ r))
  have e2 := intR_enc x.count 1000000 b1 b2 (by omega) (numB x.flags ++ r)
  have e3 := intR_enc x.flags 1 c1 c2 (by omega) r
  have e0 : rootBytesD x ++ r = numB x.page ++ (numB x.count ++ (numB x.flags ++ r)) := by simp [rootBytesD]
  rw [e0]
  refine ⟨?_, ?_⟩
  · unfold rootR
    rw [e1.2, e2.2, e1.1, e2.1, e3.1]
  · unfold rootT
    rw [e1.2, e2.2, e3.2]
theorem textsGo_enc : ∀ (l : List ByteArray) (r : List UInt8), (∀ x ∈ l, x.size ≤ 65535) → textsGo l.length (joinB textB l ++ r, false) = (l, (r, false))
  | [], r, _ => by simp [textsGo, joinB]
  | x :: l, r, h => by
    have e := text_enc x (h x (by simp)) (joinB textB l ++ r)
    have ih := textsGo_enc l r (fun y hy => h y (by simp [hy]))
    have hs : joinB textB (x :: l) ++ r = textB x ++ (joinB textB l ++ r) := by simp [joinB]
    rw [hs, List.length_cons, textsGo]
    simp only [Bool.false_eq_true, ↓reduceIte]
    rw [e.1, e.2, ih]
theorem intsGo_enc : ∀ (l : List Int) (r : List UInt8), (∀ x ∈ l, 0 ≤ x ∧ x ≤ 400) → intsGo l.length (joinB numB l ++ r, false) = (l, (r, false))
  | [], r, _ => by simp [intsGo, joinB]
  | x :: l, r, h => by
    have hx := h x (by simp)
    have e := intR_enc x 400 hx.1 hx.2 (by omega) (joinB numB l ++ r)
    have ih := intsGo_enc l r (fun y hy => h y (by simp [hy]))
    have hs : joinB numB (x :: l) ++ r = numB x ++ (joinB numB l ++ r) := by simp [joinB]
    rw [hs, List.length_cons, intsGo]
    simp only [Bool.false_eq_true, ↓reduceIte]
    rw [e.1, e.2, ih]
theorem freesR_enc : ∀ (l : List FreeD) (r : List UInt8), (∀ f ∈ l, (0 ≤ f.txn ∧ f.txn < 18446744073709551616) ∧ f.ids.length ≤ 20 ∧ ∀ x ∈ f.ids, 0 ≤ x ∧ x ≤ 400) → freesR l.length (joinB freeBytesD l ++ r, false) = (l, (r, false))
  | [], r, _ => by simp [freesR, joinB]
  | f :: l, r, h => by
    obtain ⟨⟨t0, t1⟩, hn, hids⟩ := h f (by simp)
    have e0 : joinB freeBytesD (f :: l) ++ r = lowB f.txn 8 ++ (numB f.ids.length ++ (joinB numB f.ids ++ (joinB freeBytesD l ++ r))) := by simp [joinB, freeBytesD, listB]
    have e1 := low_enc f.txn t0 t1 (numB f.ids.length ++ (joinB numB f.ids ++ (joinB freeBytesD l ++ r)))
    have e2 := natR_enc f.ids.length 20 hn (by omega) (joinB numB f.ids ++ (joinB freeBytesD l ++ r))
    have e3 := intsGo_enc f.ids (joinB freeBytesD l ++ r) hids
    have ih := freesR_enc l r (fun g hg => h g (by simp [hg]))
    rw [e0, List.length_cons, freesR]
    simp only [Bool.false_eq_true, ↓reduceIte]
    rw [e1.1, e1.2, e2.1, e2.2, e3, ih]
theorem kidsGo_enc : ∀ (l : List ByteArray) (m : List Int) (r : List UInt8), l.length = m.length → (∀ x ∈ l, x.size ≤ 65535) → (∀ x ∈ m, 0 ≤ x ∧ x ≤ 400) → kidsGo m.length (joinB kidB (l.zip m) ++ r, false) = ((l, m), (r, false))
  | [], [], r, _, _, _ => by simp [kidsGo, joinB]
  | [], y :: m, r, h, _, _ => by simp at h
  | x :: l, [], r, h, _, _ => by simp at h
  | x :: l, y :: m, r, hl, h1, h2 => by
    have hy := h2 y (by simp)
    have e1 := text_enc x (h1 x (by simp)) (numB y ++ (joinB kidB (l.zip m) ++ r))
    have e2 := intR_enc y 400 hy.1 hy.2 (by omega) (joinB kidB (l.zip m) ++ r)
    have ih := kidsGo_enc l m r (by simpa using hl) (fun z hz => h1 z (by simp [hz])) (fun z hz => h2 z (by simp [hz]))
    have hs : joinB kidB ((x :: l).zip (y :: m)) ++ r = textB x ++ (numB y ++ (joinB kidB (l.zip m) ++ r)) := by simp [joinB, kidB]
    rw [hs, List.length_cons, kidsGo]
    simp only [Bool.false_eq_true, ↓reduceIte]
    rw [e1.1, e1.2, e2.1, e2.2, ih]
/-- The bounds that the reference asks of an item. -/
structure ItemFit2 (x : ItemD) : Prop where
  fit : ItemFit x
  run : 0 ≤ x.run ∧ x.run ≤ 400
  len : 0 ≤ x.len ∧ x.len ≤ 1000
  dup : 0 ≤ x.dup ∧ x.dup ≤ 400
  root : RootFit x.root
theorem goodItem_fit2 {x : ItemD} (h : goodItemB x = true) : ItemFit2 x := by
  have hfit := goodItem_fit h
  simp only [goodItemB, Bool.and_eq_true, sameItem_iff] at h
  obtain ⟨⟨_, h2⟩, h3⟩ := h
  have z : (0 : Int) ≤ 0 ∧ (0 : Int) ≤ 400 := by omega
  have z2 : (0 : Int) ≤ 0 ∧ (0 : Int) ≤ 1000 := by omega
  by_cases c1 : x.kind = 1
  · have e : x.run = 0 ∧ x.len = 0 ∧ x.dup = 0 ∧ x.root = ⟨0, 0, 0⟩ := by rw [h3]; simp [ownItemD, c1, noItem]
    obtain ⟨e1, e2, e4, e5⟩ := e
    exact ⟨hfit, by rw [e1]; exact z, by rw [e2]; exact z2, by rw [e4]; exact z, by rw [e5]; exact noRoot_fit⟩
  by_cases c2 : x.kind = 2
  · have e : x.dup = 0 ∧ x.root = ⟨0, 0, 0⟩ := by rw [h3]; simp [ownItemD, c2, noItem]
    obtain ⟨e4, e5⟩ := e
    simp only [rightItemB, c2] at h2
    simp at h2
    have hl : 0 ≤ x.len ∧ x.len ≤ 1000 := by have := h2.2; simp [withinB] at this; omega
    exact ⟨hfit, page_fit h2.1, hl, by rw [e4]; exact z, by rw [e5]; exact noRoot_fit⟩
  by_cases c3 : x.kind = 3
  · have e : x.run = 0 ∧ x.len = 0 ∧ x.root = ⟨0, 0, 0⟩ := by rw [h3]; simp [ownItemD, c3, noItem]
    obtain ⟨e1, e2, e5⟩ := e
    simp only [rightItemB, c3] at h2
    simp at h2
    by_cases hd : x.dup = 0
    · exact ⟨hfit, by rw [e1]; exact z, by rw [e2]; exact z2, by rw [hd]; exact z, by rw [e5]; exact noRoot_fit⟩
    · simp only [hd, ↓reduceIte] at h2
      exact ⟨hfit, by rw [e1]; exact z, by rw [e2]; exact z2, page_fit (by simpa using h2.1), by rw [e5]; exact noRoot_fit⟩
  by_cases c4 : x.kind = 4
  · have e : x.run = 0 ∧ x.len = 0 ∧ x.dup = 0 := by rw [h3]; simp [ownItemD, c4, noItem]
    obtain ⟨e1, e2, e4⟩ := e
    simp only [rightItemB, c4] at h2
    simp at h2
    exact ⟨hfit, by rw [e1]; exact z, by rw [e2]; exact z2, by rw [e4]; exact z, root_fit h2⟩
  · simp [rightItemB, c1, c2, c3, c4] at h2
theorem itemR_enc (x : ItemD) (h : ItemFit2 x) (r : List UInt8) : itemR (itemBytesD x ++ r, false) = x ∧ itemT (itemBytesD x ++ r, false) = (r, false) := by
  obtain ⟨⟨hown, hkind, ⟨ok1, ok2, ok3, ok4⟩, hfew, _, _, _, _⟩, hrun, hlen, hdup, hroot⟩ := h
  have e0 : itemBytesD x ++ r = textB x.key ++ (numB x.kind ++ (itemTail x ++ r)) := by simp [itemBytesD]
  have e1 := text_enc x.key ok1 (numB x.kind ++ (itemTail x ++ r))
  rw [e0]
  rcases hkind with hk | hk | hk | hk
  · have e2 := natR_enc 1 4 (by omega) (by omega) (itemTail x ++ r)
    have e3 := text_enc x.val ok2 r
    have et : itemTail x = textB x.val := by simp [itemTail, hk]
    have hx : x = { noItem with key := x.key, kind := 1, val := x.val } := by
      refine hown.trans ?_
      simp only [ownItemD, hk, ↓reduceIte]
    rw [hk] at e1 ⊢
    rw [et] at e1 e2 ⊢
    simp only [Int.natCast_one] at e2
    refine ⟨?_, ?_⟩
    · unfold itemR
      rw [e1.2, e1.1, e2.1, e2.2, e3.1]
      simp only [↓reduceIte]
      exact hx.symm
    · unfold itemT
      rw [e1.2, e2.1, e2.2, e3.2]
      simp only [↓reduceIte]
  · have e2 := natR_enc 2 4 (by omega) (by omega) (itemTail x ++ r)
    have e3 := intR_enc x.run 400 hrun.1 hrun.2 (by omega) (numB x.len ++ r)
    have e4 := intR_enc x.len 1000 hlen.1 hlen.2 (by omega) r
    have et : itemTail x ++ r = numB x.run ++ (numB x.len ++ r) := by simp [itemTail, hk]
    have hx : x = { noItem with key := x.key, kind := 2, run := x.run, len := x.len } := by
      refine hown.trans ?_
      simp only [ownItemD, hk]
      simp
    rw [hk] at e1 ⊢
    rw [et] at e1 e2 ⊢
    simp only [Int.cast_ofNat_Int] at e2
    refine ⟨?_, ?_⟩
    · unfold itemR
      rw [e1.2, e1.1, e2.1, e2.2, e3.1, e3.2, e4.1]
      simp
      exact hx.symm
    · unfold itemT
      rw [e1.2, e2.1, e2.2, e3.2, e4.2]
      simp
  · have e2 := natR_enc 3 4 (by omega) (by omega) (itemTail x ++ r)
    have e3 := natR_enc x.vals.length 3 hfew (by omega) (joinB textB x.vals ++ (numB x.dup ++ r))
    have e4 := textsGo_enc x.vals (numB x.dup ++ r) ok4
    have e5 := intR_enc x.dup 400 hdup.1 hdup.2 (by omega) r
    have et : itemTail x ++ r = numB x.vals.length ++ (joinB textB x.vals ++ (numB x.dup ++ r)) := by simp [itemTail, hk, listB]
    have hx : x = { noItem with key := x.key, kind := 3, vals := x.vals, dup := x.dup } := by
      refine hown.trans ?_
      simp only [ownItemD, hk]
      simp
    rw [hk] at e1 ⊢
    rw [et] at e1 e2 ⊢
    simp only [Int.cast_ofNat_Int] at e2
    refine ⟨?_, ?_⟩
    · unfold itemR
      rw [e1.2, e1.1, e2.1, e2.2, e3.1, e3.2, e4, e5.1]
      simp
      exact hx.symm
    · unfold itemT
      rw [e1.2, e2.1, e2.2, e3.1, e3.2, e4, e5.2]
      simp
  · have e2 := natR_enc 4 4 (by omega) (by omega) (itemTail x ++ r)
    have e3 := rootR_enc x.root hroot r
    have et : itemTail x = rootBytesD x.root := by simp [itemTail, hk]
    have hx : x = { noItem with key := x.key, kind := 4, root := x.root } := by
      refine hown.trans ?_
      simp only [ownItemD, hk]
      simp
    rw [hk] at e1 ⊢
    rw [et] at e1 e2 ⊢
    simp only [Int.cast_ofNat_Int] at e2
    refine ⟨?_, ?_⟩
    · unfold itemR
      rw [e1.2, e1.1, e2.1, e2.2, e3.1]
      simp
      exact hx.symm
    · unfold itemT
      rw [e1.2, e2.1, e2.2, e3.2]
      simp
theorem itemsGo_enc : ∀ (l : List ItemD) (r : List UInt8), (∀ x ∈ l, ItemFit2 x) → itemsGo l.length (joinB itemBytesD l ++ r, false) = (l, (r, false))
  | [], r, _ => by simp [itemsGo, joinB]
  | x :: l, r, h => by
    have e := itemR_enc x (h x (by simp)) (joinB itemBytesD l ++ r)
    have ih := itemsGo_enc l r (fun y hy => h y (by simp [hy]))
    have hs : joinB itemBytesD (x :: l) ++ r = itemBytesD x ++ (joinB itemBytesD l ++ r) := by simp [joinB]
    rw [hs, List.length_cons, itemsGo]
    simp only [Bool.false_eq_true, ↓reduceIte]
    rw [e.1, e.2, ih]
theorem rightFreeL_all : ∀ (l : List FreeD) (room txn : Int), rightFreeL room txn l = true → ∀ f ∈ l, ∀ x ∈ f.ids, pageB x = true
  | [], room, txn, _, f, hf => by simp at hf
  | g :: r, room, txn, h, f, hf => by
    simp only [rightFreeL, Bool.and_eq_true, List.all_eq_true] at h
    obtain ⟨⟨⟨⟨h1, _⟩, h3⟩, _⟩, h5⟩ := h
    rcases List.mem_cons.1 hf with rfl | hf
    · exact h3
    · exact rightFreeL_all r _ _ h5 f hf
theorem partR_enc (p : PageD) (hi : isPB p = true) (ht : TxnOk p) (r : List UInt8) : ∃ k : Nat, p.kind = k ∧ k ≤ 6 ∧ partR k (partD p ++ r, false) = (p, (r, false)) := by
  have hok := partOk_of_is hi ht
  simp only [isPB, Bool.and_eq_true, sameP_iff] at hi
  obtain ⟨hr, hown⟩ := hi
  by_cases c1 : p.kind = 1
  · refine ⟨1, by rw [c1]; rfl, by omega, ?_⟩
    have hp : p = { noPage with kind := 1, items := p.items } := by
      refine hown.trans ?_
      simp only [ownD, c1, ↓reduceIte]
    simp only [rightB, c1, ↓reduceIte, rightItemsB, Bool.and_eq_true, List.all_eq_true] at hr
    have hl : p.items.length ≤ 4 := by have := hr.1.1; simp [withinB] at this; omega
    have e0 : partD p ++ r = numB p.items.length ++ (joinB itemBytesD p.items ++ r) := by simp [partD, c1, listB]
    have e1 := natR_enc p.items.length 4 hl (by omega) (joinB itemBytesD p.items ++ r)
    have e2 := itemsGo_enc p.items r (fun x hx => goodItem_fit2 (hr.1.2 x hx))
    rw [e0]
    simp only [partR]
    rw [e1.1, e1.2, e2]
    simp only [Prod.mk.injEq, and_true]
    exact hp.symm
  by_cases c2 : p.kind = 2
  · refine ⟨2, by rw [c2]; rfl, by omega, ?_⟩
    have hp : p = { noPage with kind := 2, keys := p.keys, kids := p.kids } := by
      refine hown.trans ?_
      simp only [ownD, c2]
      simp
    obtain ⟨hkl, hk1, hks⟩ := hok.kids c2
    simp only [rightB, c2] at hr
    simp [rightKidsB] at hr
    obtain ⟨⟨⟨⟨⟨h1, _⟩, _⟩, _⟩, _⟩, h6⟩ := hr
    have hl : p.kids.length ≤ 4 := by simp [withinB] at h1; omega
    have e0 : partD p ++ r = numB p.kids.length ++ (joinB kidB (p.keys.zip p.kids) ++ r) := by simp [partD, c2]
    have e1 := natR_enc p.kids.length 4 hl (by omega) (joinB kidB (p.keys.zip p.kids) ++ r)
    have e2 := kidsGo_enc p.keys p.kids r hkl hks (fun x hx => page_fit (h6 x hx))
    rw [e0]
    simp only [partR]
    rw [e1.1, e1.2, e2]
    simp only [Prod.mk.injEq, and_true]
    exact hp.symm
  by_cases c3 : p.kind = 3
  · refine ⟨3, by rw [c3]; rfl, by omega, ?_⟩
    have hp : p = { noPage with kind := 3, text := p.text } := by
      refine hown.trans ?_
      simp only [ownD, c3]
      simp
    have e0 : partD p = textB p.text := by simp [partD, c3]
    have e1 := text_enc p.text (hok.text c3) r
    rw [e0]
    simp only [partR]
    rw [e1.1, e1.2]
    simp only [Prod.mk.injEq, and_true]
    exact hp.symm
  by_cases c4 : p.kind = 4
  · refine ⟨4, by rw [c4]; rfl, by omega, ?_⟩
    have hp : p = { noPage with kind := 4, vals := p.vals } := by
      refine hown.trans ?_
      simp only [ownD, c4]
      simp
    simp only [rightB, c4] at hr
    simp at hr
    obtain ⟨a, _⟩ := rightVals_ok hr
    have e0 : partD p ++ r = numB p.vals.length ++ (joinB textB p.vals ++ r) := by simp [partD, c4, listB]
    have e1 := natR_enc p.vals.length 12 (by omega) (by omega) (joinB textB p.vals ++ r)
    have e2 := textsGo_enc p.vals r (hok.vals c4).2
    rw [e0]
    simp only [partR]
    rw [e1.1, e1.2, e2]
    simp only [Prod.mk.injEq, and_true]
    exact hp.symm
  by_cases c5 : p.kind = 5
  · refine ⟨5, by rw [c5]; rfl, by omega, ?_⟩
    have hp : p = { noPage with kind := 5, free := p.free, next := p.next } := by
      refine hown.trans ?_
      simp only [ownD, c5]
      simp
    simp only [rightB, c5] at hr
    simp at hr
    obtain ⟨a, a2⟩ := rightFreeL_ok p.free 20 0 hr.1 (by omega)
    have c := rightFreeL_all p.free 20 0 hr.1
    have hn := none_fit hr.2
    have e0 : partD p ++ r = numB p.free.length ++ (joinB freeBytesD p.free ++ (numB p.next ++ r)) := by simp [partD, c5, listB]
    have e1 := natR_enc p.free.length 20 (by omega) (by omega) (joinB freeBytesD p.free ++ (numB p.next ++ r))
    have e2 := freesR_enc p.free (numB p.next ++ r) (fun f hf => ⟨ht.2 f hf, by have := a2 f hf; omega, fun x hx => page_fit (c f hf x hx)⟩)
    have e3 := intR_enc p.next 400 hn.1 hn.2 (by omega) r
    rw [e0]
    simp only [partR]
    rw [e1.1, e1.2, e2]
    simp only
    rw [e3.1, e3.2]
    simp only [Prod.mk.injEq, and_true]
    exact hp.symm
  by_cases c6 : p.kind = 6
  · refine ⟨6, by rw [c6]; rfl, by omega, ?_⟩
    have hp : p = { noPage with kind := 6, mt := p.mt } := by
      refine hown.trans ?_
      simp only [ownD, c6]
      simp
    simp only [rightB, c6] at hr
    simp at hr
    obtain ⟨⟨h1, h2⟩, h3⟩ := hr
    have hl : 0 ≤ p.mt.last ∧ p.mt.last ≤ 400 := by simp [withinB] at h3; omega
    have hf := none_fit h2
    have e0 : partD p ++ r = lowB p.mt.txn 8 ++ (rootBytesD p.mt.main ++ (numB p.mt.free ++ (numB p.mt.last ++ r))) := by simp [partD, c6, metaD]
    have e1 := low_enc p.mt.txn ht.1.1 ht.1.2 (rootBytesD p.mt.main ++ (numB p.mt.free ++ (numB p.mt.last ++ r)))
    have e2 := rootR_enc p.mt.main (root_fit h1) (numB p.mt.free ++ (numB p.mt.last ++ r))
    have e3 := intR_enc p.mt.free 400 hf.1 hf.2 (by omega) (numB p.mt.last ++ r)
    have e4 := intR_enc p.mt.last 400 hl.1 hl.2 (by omega) r
    rw [e0]
    simp only [partR, metaR]
    rw [e1.1, e1.2, e2.1, e2.2, e3.1, e3.2, e4.1, e4.2]
    simp only [Prod.mk.injEq, and_true]
    exact hp.symm
  · simp [rightB, c1, c2, c3, c4, c5, c6] at hr
theorem pageR_enc (p : PageD) (hi : isPB p = true) (ht : TxnOk p) : pageR (bodyD p, false) = p ∧ pageT (bodyD p, false) = ([], false) := by
  obtain ⟨k, hk, hk6, e⟩ := partR_enc p hi ht []
  rw [List.append_nil] at e
  have e1 := natR_enc k 6 hk6 (by omega) (partD p)
  have e0 : bodyD p = numB k ++ partD p := by rw [bodyD, hk]
  unfold pageR pageT
  rw [e0, e1.1, e1.2, e]
  exact ⟨rfl, rfl⟩
end Go.Proofs.YtgnmjdcmaahlnaaGreat

/- What is written is taken again: items, free numbers, pages. -/
import Derived.Test.YtgnmjdcmaahlnaaOa
namespace Go.Proofs.Ytgnmjdcmaahlnaa
open Go.RowKit Go.Sort

def small (n : Int) : Prop := 0 ≤ n ∧ n < 9223372036854775808
theorem count_enc (n most : Nat) (r : List UInt8) (h : n ≤ most) (hm : most ≤ 1000) : min (nV (numB n ++ r, false)) most = n ∧ nS (numB n ++ r, false) = (r, false) := by
  have e := num_enc n (by omega) (by omega) r
  refine ⟨?_, e.2.1⟩
  rw [e.1, Int.toNat_natCast]
  exact Nat.min_eq_left h
/-- An item as it may be written and taken again. -/
structure ItemFit (x : ItemD) : Prop where
  own : x = ownItemD x
  kind : x.kind = 1 ∨ x.kind = 2 ∨ x.kind = 3 ∨ x.kind = 4
  ok : ItemOk x
  few : x.vals.length ≤ 3
  run : small x.run
  len : small x.len
  dup : small x.dup
  root : RootSmall x.root
theorem item_enc (x : ItemD) (h : ItemFit x) (r : List UInt8) : itemV (itemBytesD x ++ r, false) = x ∧ itemS (itemBytesD x ++ r, false) = (r, false) := by
  obtain ⟨hown, hkind, ⟨ok1, ok2, ok3, ok4⟩, hfew, hrun, hlen, hdup, hroot⟩ := h
  have hks : small x.kind := by unfold small; omega
  have e0 : itemBytesD x ++ r = textB x.key ++ (numB x.kind ++ (itemTail x ++ r)) := by simp [itemBytesD]
  have e1 := text_enc x.key ok1 (numB x.kind ++ (itemTail x ++ r))
  have e2 := num_enc x.kind hks.1 hks.2 (itemTail x ++ r)
  rw [e0]
  rcases hkind with hk | hk | hk | hk
  · have e3 := text_enc x.val ok2 r
    have et : itemTail x = textB x.val := by simp [itemTail, hk]
    have hx : x = { noItem with key := x.key, kind := 1, val := x.val } := by
      refine hown.trans ?_
      simp only [ownItemD, hk, ↓reduceIte]
    rw [et] at e1 e2 ⊢
    refine ⟨?_, ?_⟩
    · unfold itemV
      rw [e1.2, e1.1, e2.2.2, e2.2.1, hk, e3.1]
      simp only [↓reduceIte]
      exact hx.symm
    · unfold itemS
      rw [e1.2, e2.2.2, e2.2.1, hk, e3.2]
      simp only [↓reduceIte]
  · have e3 := num_enc x.run hrun.1 hrun.2 (numB x.len ++ r)
    have e4 := num_enc x.len hlen.1 hlen.2 r
    have et : itemTail x ++ r = numB x.run ++ (numB x.len ++ r) := by simp [itemTail, hk]
    have hx : x = { noItem with key := x.key, kind := 2, run := x.run, len := x.len } := by
      refine hown.trans ?_
      simp only [ownItemD, hk]
      simp
    rw [et] at e1 e2 ⊢
    refine ⟨?_, ?_⟩
    · unfold itemV
      rw [e1.2, e1.1, e2.2.2, e2.2.1, hk, e3.2.2, e3.2.1, e4.2.2]
      simp
      exact hx.symm
    · unfold itemS
      rw [e1.2, e2.2.2, e2.2.1, hk, e3.2.1, e4.2.1]
      simp
  · have e3 := count_enc x.vals.length 3 (joinB textB x.vals ++ (numB x.dup ++ r)) hfew (by omega)
    have e4 := texts_enc x.vals (numB x.dup ++ r) ok4
    have e5 := num_enc x.dup hdup.1 hdup.2 r
    have et : itemTail x ++ r = numB x.vals.length ++ (joinB textB x.vals ++ (numB x.dup ++ r)) := by simp [itemTail, hk, listB]
    have hx : x = { noItem with key := x.key, kind := 3, vals := x.vals, dup := x.dup } := by
      refine hown.trans ?_
      simp only [ownItemD, hk]
      simp
    rw [et] at e1 e2 ⊢
    refine ⟨?_, ?_⟩
    · unfold itemV
      rw [e1.2, e1.1, e2.2.2, e2.2.1, hk, e3.1, e3.2, e4.1, e4.2, e5.2.2]
      simp
      exact hx.symm
    · unfold itemS
      rw [e1.2, e2.2.2, e2.2.1, hk, e3.1, e3.2, e4.2, e5.2.1]
      simp
  · have e3 := root_enc x.root hroot r
    have et : itemTail x = rootBytesD x.root := by simp [itemTail, hk]
    have hx : x = { noItem with key := x.key, kind := 4, root := x.root } := by
      refine hown.trans ?_
      simp only [ownItemD, hk]
      simp
    rw [et] at e1 e2 ⊢
    refine ⟨?_, ?_⟩
    · unfold itemV
      rw [e1.2, e1.1, e2.2.2, e2.2.1, hk, e3.1]
      simp
      exact hx.symm
    · unfold itemS
      rw [e1.2, e2.2.2, e2.2.1, hk, e3.2]
      simp
theorem items_enc (l : List ItemD) (r : List UInt8) (h : ∀ x ∈ l, ItemFit x) : itemsV l.length (joinB itemBytesD l ++ r, false) = l ∧ itSn l.length (joinB itemBytesD l ++ r, false) = (r, false) := by
  have key : ∀ k, k ≤ l.length → itemsV k (joinB itemBytesD l ++ r, false) = l.take k ∧ itSn k (joinB itemBytesD l ++ r, false) = (joinB itemBytesD (l.drop k) ++ r, false) := by
    intro k
    induction k with
    | zero => intro _; simp [itemsV, itSn]
    | succ k ih =>
      intro hk
      obtain ⟨i1, i2⟩ := ih (by omega)
      have hd : l.drop k = l[k] :: l.drop (k + 1) := List.drop_eq_getElem_cons (by omega)
      have e := item_enc l[k] (h _ (List.getElem_mem _)) (joinB itemBytesD (l.drop (k + 1)) ++ r)
      have hs : joinB itemBytesD (l.drop k) ++ r = itemBytesD l[k] ++ (joinB itemBytesD (l.drop (k + 1)) ++ r) := by rw [hd]; simp [joinB]
      refine ⟨?_, ?_⟩
      · rw [itemsV, i1, i2, hs, e.1, List.take_succ_eq_append_getElem (by omega)]
      · rw [itSn, i2, hs, e.2]
  have := key l.length (Nat.le_refl _)
  simpa [joinB] using this
/-- How many free numbers there are. -/
def idsN : List FreeD → Nat
  | [] => 0
  | f :: r => f.ids.length + idsN r
theorem frees_enc : ∀ (l : List FreeD) (room : Nat) (r : List UInt8), room ≤ 1000 → idsN l ≤ room → (∀ f ∈ l, (0 ≤ f.txn ∧ f.txn < 18446744073709551616) ∧ ∀ x ∈ f.ids, small x) →
    (freesGo l.length room (joinB freeBytesD l ++ r, false)).1 = l ∧ (freesGo l.length room (joinB freeBytesD l ++ r, false)).2 = (r, false)
  | [], room, r, _, _, _ => by simp [freesGo, joinB]
  | f :: l, room, r, hr, hn, h => by
    obtain ⟨⟨t0, t1⟩, hids⟩ := h f (by simp)
    simp only [idsN] at hn
    have e0 : joinB freeBytesD (f :: l) ++ r = lowB f.txn 8 ++ (numB f.ids.length ++ (joinB numB f.ids ++ (joinB freeBytesD l ++ r))) := by simp [joinB, freeBytesD, listB]
    have e1 := low_enc f.txn t0 t1 (numB f.ids.length ++ (joinB numB f.ids ++ (joinB freeBytesD l ++ r)))
    have e2 := num_enc f.ids.length (by omega) (by omega) (joinB numB f.ids ++ (joinB freeBytesD l ++ r))
    rw [Int.toNat_natCast] at e2
    have e3 := nums_enc f.ids (joinB freeBytesD l ++ r) hids
    have ih := frees_enc l (room - f.ids.length) r (by omega) (by omega) (fun g hg => h g (by simp [hg]))
    rw [e0]
    simp only [List.length_cons, freesGo]
    rw [e1.2, e2.1, e2.2.1, e1.1, e3.1, e3.2, if_pos (by omega)]
    exact ⟨by rw [ih.1], ih.2⟩
end Go.Proofs.Ytgnmjdcmaahlnaa

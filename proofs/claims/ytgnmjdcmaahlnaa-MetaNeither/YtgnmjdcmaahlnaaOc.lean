/- What is written of a right page is read as that page, whatever follows it. -/
import Derived.Test.YtgnmjdcmaahlnaaNj
import Derived.Test.YtgnmjdcmaahlnaaOb
namespace Go.Proofs.Ytgnmjdcmaahlnaa
open Go.RowKit Go.Sort

theorem small_zero : small 0 := by unfold small; omega
theorem page_small {n : Int} (h : pageB n = true) : small n := by simp [pageB] at h; unfold small; omega
theorem none_small {n : Int} (h : noneB n = true) : small n := by
  simp only [noneB, Bool.or_eq_true, beq_iff_eq] at h
  rcases h with rfl | h
  · exact small_zero
  · exact page_small h
theorem root_small {r : RootD} (h : rootB r = true) : RootSmall r := by
  simp only [rootB, Bool.and_eq_true, Bool.or_eq_true, beq_iff_eq, decide_eq_true_eq] at h
  obtain ⟨⟨⟨h1, h2⟩, h3⟩, h4⟩ := h
  have hp : small r.page := by
    rcases h1 with h1 | h1
    · rw [h1]; exact small_zero
    · exact page_small h1
  unfold small at hp
  unfold RootSmall
  omega
theorem noRoot_small : RootSmall ⟨0, 0, 0⟩ := by simp [RootSmall]
theorem goodItem_fit {x : ItemD} (h : goodItemB x = true) : ItemFit x := by
  have hok := goodItem_ok h
  simp only [goodItemB, Bool.and_eq_true, sameItem_iff] at h
  obtain ⟨⟨_, h2⟩, h3⟩ := h
  by_cases c1 : x.kind = 1
  · have e : x.run = 0 ∧ x.len = 0 ∧ x.vals = [] ∧ x.dup = 0 ∧ x.root = ⟨0, 0, 0⟩ := by rw [h3]; simp [ownItemD, c1, noItem]
    obtain ⟨e1, e2, e3, e4, e5⟩ := e
    exact ⟨h3, .inl c1, hok, by simp [e3], by rw [e1]; exact small_zero, by rw [e2]; exact small_zero, by rw [e4]; exact small_zero, by rw [e5]; exact noRoot_small⟩
  by_cases c2 : x.kind = 2
  · have e : x.vals = [] ∧ x.dup = 0 ∧ x.root = ⟨0, 0, 0⟩ := by rw [h3]; simp [ownItemD, c2, noItem]
    obtain ⟨e3, e4, e5⟩ := e
    simp only [rightItemB, c2] at h2
    simp at h2
    have hl : small x.len := by have := h2.2; simp [withinB] at this; unfold small; omega
    exact ⟨h3, .inr (.inl c2), hok, by simp [e3], page_small h2.1, hl, by rw [e4]; exact small_zero, by rw [e5]; exact noRoot_small⟩
  by_cases c3 : x.kind = 3
  · have e : x.run = 0 ∧ x.len = 0 ∧ x.root = ⟨0, 0, 0⟩ := by rw [h3]; simp [ownItemD, c3, noItem]
    obtain ⟨e1, e2, e5⟩ := e
    simp only [rightItemB, c3] at h2
    simp at h2
    by_cases hd : x.dup = 0
    · simp only [hd, ↓reduceIte] at h2
      obtain ⟨a, _⟩ := rightVals_ok h2
      exact ⟨h3, .inr (.inr (.inl c3)), hok, by omega, by rw [e1]; exact small_zero, by rw [e2]; exact small_zero, by rw [hd]; exact small_zero, by rw [e5]; exact noRoot_small⟩
    · simp only [hd, ↓reduceIte] at h2
      have e3 : x.vals = [] := by simpa using h2.2
      exact ⟨h3, .inr (.inr (.inl c3)), hok, by simp [e3], by rw [e1]; exact small_zero, by rw [e2]; exact small_zero, page_small (by simpa using h2.1), by rw [e5]; exact noRoot_small⟩
  by_cases c4 : x.kind = 4
  · have e : x.run = 0 ∧ x.len = 0 ∧ x.vals = [] ∧ x.dup = 0 := by rw [h3]; simp [ownItemD, c4, noItem]
    obtain ⟨e1, e2, e3, e4⟩ := e
    simp only [rightItemB, c4] at h2
    simp at h2
    exact ⟨h3, .inr (.inr (.inr c4)), hok, by simp [e3], by rw [e1]; exact small_zero, by rw [e2]; exact small_zero, by rw [e4]; exact small_zero, root_small h2⟩
  · simp [rightItemB, c1, c2, c3, c4] at h2
theorem rightFreeL_ids : ∀ (l : List FreeD) (room txn : Int), rightFreeL room txn l = true → (idsN l : Int) ≤ max room 0 ∧ ∀ f ∈ l, ∀ x ∈ f.ids, small x
  | [], room, txn, _ => by simp [idsN]; omega
  | f :: r, room, txn, h => by
    simp only [rightFreeL, Bool.and_eq_true, List.all_eq_true] at h
    obtain ⟨⟨⟨⟨h1, _⟩, h3⟩, _⟩, h5⟩ := h
    simp [withinB] at h1
    obtain ⟨a, b⟩ := rightFreeL_ids r _ _ h5
    refine ⟨by simp only [idsN]; omega, fun g hg => ?_⟩
    rcases List.mem_cons.1 hg with rfl | hg
    · exact fun x hx => page_small (h3 x hx)
    · exact b g hg
theorem part_enc (p : PageD) (hi : isPB p = true) (ht : TxnOk p) (r : List UInt8) : partV p.kind (partD p ++ r, false) = p ∧ small p.kind := by
  have hok := partOk_of_is hi ht
  simp only [isPB, Bool.and_eq_true, sameP_iff] at hi
  obtain ⟨hr, hown⟩ := hi
  by_cases c1 : p.kind = 1
  · refine ⟨?_, by rw [c1]; unfold small; omega⟩
    have hp : p = { noPage with kind := 1, items := p.items } := by
      refine hown.trans ?_
      simp only [ownD, c1, ↓reduceIte]
    simp only [rightB, c1, ↓reduceIte, rightItemsB, Bool.and_eq_true, List.all_eq_true] at hr
    have hl : p.items.length ≤ 4 := by have := hr.1.1; simp [withinB] at this; omega
    have e0 : partD p ++ r = numB p.items.length ++ (joinB itemBytesD p.items ++ r) := by simp [partD, c1, listB]
    have e1 := count_enc p.items.length 4 (joinB itemBytesD p.items ++ r) hl (by omega)
    have e2 := items_enc p.items r (fun x hx => goodItem_fit (hr.1.2 x hx))
    rw [e0, c1]
    simp only [partV, ↓reduceIte]
    rw [e1.1, e1.2, e2.1]
    exact hp.symm
  by_cases c2 : p.kind = 2
  · refine ⟨?_, by rw [c2]; unfold small; omega⟩
    have hp : p = { noPage with kind := 2, keys := p.keys, kids := p.kids } := by
      refine hown.trans ?_
      simp only [ownD, c2]
      simp
    obtain ⟨hkl, hk1, hks⟩ := hok.kids c2
    simp only [rightB, c2] at hr
    simp [rightKidsB] at hr
    obtain ⟨⟨⟨⟨⟨h1, _⟩, _⟩, _⟩, _⟩, h6⟩ := hr
    have hl : p.kids.length ≤ 4 := by simp [withinB] at h1; omega
    have e0 : partD p ++ r = numB p.kids.length ++ (joinB kidB (p.keys.zip p.kids) ++ r) := by simp [partD, c2]
    have e1 := count_enc p.kids.length 4 (joinB kidB (p.keys.zip p.kids) ++ r) hl (by omega)
    have e2 := kids_enc p.keys p.kids r hkl hks (fun x hx => page_small (h6 x hx))
    rw [e0, c2]
    simp only [partV]
    simp only [show ¬ (2 : Int) = 1 by omega, ↓reduceIte]
    rw [e1.1, e1.2, e2.1, e2.2.1]
    exact hp.symm
  by_cases c3 : p.kind = 3
  · refine ⟨?_, by rw [c3]; unfold small; omega⟩
    have hp : p = { noPage with kind := 3, text := p.text } := by
      refine hown.trans ?_
      simp only [ownD, c3]
      simp
    have e0 : partD p = textB p.text := by simp [partD, c3]
    have e1 := text_enc p.text (hok.text c3) r
    rw [e0, c3]
    simp only [partV]
    simp only [show ¬ (3 : Int) = 1 by omega, show ¬ (3 : Int) = 2 by omega, ↓reduceIte]
    rw [e1.1]
    exact hp.symm
  by_cases c4 : p.kind = 4
  · refine ⟨?_, by rw [c4]; unfold small; omega⟩
    have hp : p = { noPage with kind := 4, vals := p.vals } := by
      refine hown.trans ?_
      simp only [ownD, c4]
      simp
    simp only [rightB, c4] at hr
    simp at hr
    obtain ⟨a, _⟩ := rightVals_ok hr
    have e0 : partD p ++ r = numB p.vals.length ++ (joinB textB p.vals ++ r) := by simp [partD, c4, listB]
    have e1 := count_enc p.vals.length 12 (joinB textB p.vals ++ r) (by omega) (by omega)
    have e2 := texts_enc p.vals r (hok.vals c4).2
    rw [e0, c4]
    simp only [partV]
    simp only [show ¬ (4 : Int) = 1 by omega, show ¬ (4 : Int) = 2 by omega, show ¬ (4 : Int) = 3 by omega, ↓reduceIte]
    rw [e1.1, e1.2, e2.1]
    exact hp.symm
  by_cases c5 : p.kind = 5
  · refine ⟨?_, by rw [c5]; unfold small; omega⟩
    have hp : p = { noPage with kind := 5, free := p.free, next := p.next } := by
      refine hown.trans ?_
      simp only [ownD, c5]
      simp
    simp only [rightB, c5] at hr
    simp at hr
    obtain ⟨a, _⟩ := rightFreeL_ok p.free 20 0 hr.1 (by omega)
    obtain ⟨b, c⟩ := rightFreeL_ids p.free 20 0 hr.1
    have hn := none_small hr.2
    have e0 : partD p ++ r = numB p.free.length ++ (joinB freeBytesD p.free ++ (numB p.next ++ r)) := by simp [partD, c5, listB]
    have e1 := count_enc p.free.length 20 (joinB freeBytesD p.free ++ (numB p.next ++ r)) (by omega) (by omega)
    have e2 := frees_enc p.free 20 (numB p.next ++ r) (by omega) (by omega) (fun f hf => ⟨ht.2 f hf, c f hf⟩)
    have e3 := num_enc p.next hn.1 hn.2 r
    rw [e0, c5]
    simp only [partV]
    simp only [show ¬ (5 : Int) = 1 by omega, show ¬ (5 : Int) = 2 by omega, show ¬ (5 : Int) = 3 by omega, show ¬ (5 : Int) = 4 by omega, ↓reduceIte]
    rw [e1.1, e1.2, e2.1, e2.2, e3.2.2]
    exact hp.symm
  by_cases c6 : p.kind = 6
  · refine ⟨?_, by rw [c6]; unfold small; omega⟩
    have hp : p = { noPage with kind := 6, mt := p.mt } := by
      refine hown.trans ?_
      simp only [ownD, c6]
      simp
    simp only [rightB, c6] at hr
    simp at hr
    obtain ⟨⟨h1, h2⟩, h3⟩ := hr
    have hl : small p.mt.last := by simp [withinB] at h3; unfold small; omega
    have hf := none_small h2
    have e0 : partD p ++ r = lowB p.mt.txn 8 ++ (rootBytesD p.mt.main ++ (numB p.mt.free ++ (numB p.mt.last ++ r))) := by simp [partD, c6, metaD]
    have e1 := low_enc p.mt.txn ht.1.1 ht.1.2 (rootBytesD p.mt.main ++ (numB p.mt.free ++ (numB p.mt.last ++ r)))
    have e2 := root_enc p.mt.main (root_small h1) (numB p.mt.free ++ (numB p.mt.last ++ r))
    have e3 := num_enc p.mt.free hf.1 hf.2 (numB p.mt.last ++ r)
    have e4 := num_enc p.mt.last hl.1 hl.2 r
    rw [e0, c6]
    simp only [partV]
    simp only [show ¬ (6 : Int) = 1 by omega, show ¬ (6 : Int) = 2 by omega, show ¬ (6 : Int) = 3 by omega, show ¬ (6 : Int) = 4 by omega, show ¬ (6 : Int) = 5 by omega, ↓reduceIte]
    unfold metaV
    rw [e1.1, e1.2, e2.1, e2.2, e3.2.2, e3.2.1, e4.2.2]
    exact hp.symm
  · simp [rightB, c1, c2, c3, c4, c5, c6] at hr
/-- What is written of a right page is read as that page. -/
theorem page_enc (p : PageD) (hi : isPB p = true) (ht : TxnOk p) (r : List UInt8) : pageV (bytesD p ++ r, false) = p := by
  have e0 : bytesD p ++ r = lowB (sumN (bodyD p)) 8 ++ (numB p.kind ++ (partD p ++ r)) := by simp [bytesD, hi, bodyD]
  have hs := sumN_lt (bodyD p)
  have e1 := low_enc (sumN (bodyD p)) (by omega) (by omega) (numB p.kind ++ (partD p ++ r))
  obtain ⟨e3, hk⟩ := part_enc p hi ht r
  have e2 := num_enc p.kind hk.1 hk.2 (partD p ++ r)
  rw [e0]
  unfold pageV
  rw [e1.2, e2.2.2, e2.2.1]
  exact e3
theorem bytes_some (p : PageD) (hi : isPB p = true) : 16 ≤ (bytesD p).length := by
  simp [bytesD, hi, bodyD, lowB_length, numB_length]
  omega
theorem okR_bytes (p : PageD) (hi : isPB p = true) (ht : TxnOk p) : okR (bytesD p) = true ∧ readV (bytesD p) = p := by
  have h := page_enc p hi ht []
  rw [List.append_nil] at h
  have h2 : readV (bytesD p) = p := h
  refine ⟨?_, h2⟩
  have h3 := bytes_some p hi
  have h4 : (bytesD p).isEmpty = false := by
    cases h5 : bytesD p with
    | nil => rw [h5] at h3; simp at h3
    | cons a b => rfl
  unfold okR
  rw [h4, h2]
  simp
end Go.Proofs.Ytgnmjdcmaahlnaa

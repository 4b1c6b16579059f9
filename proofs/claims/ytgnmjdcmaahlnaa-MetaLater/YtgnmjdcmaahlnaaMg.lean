/- Which parts a right page has, and the contract of package page's Bytes. -/
import Derived.Test.YtgnmjdcmaahlnaaMf
namespace Go.Proofs.Ytgnmjdcmaahlnaa
open Go.RowKit Go.Sort

theorem baList_inj {a b : ByteArray} (h : a.toList = b.toList) : a = b := toList_inj' h
theorem sameRoot_iff (a b : RootD) : sameRootB a b = true ↔ a = b := by
  obtain ⟨a1, a2, a3⟩ := a
  obtain ⟨b1, b2, b3⟩ := b
  simp [sameRootB]
theorem sameItem_iff (a b : ItemD) : sameItemB a b = true ↔ a = b := by
  obtain ⟨k1, d1, l1, r1, n1, s1, p1, g1⟩ := a
  obtain ⟨k2, d2, l2, r2, n2, s2, p2, g2⟩ := b
  have hk : k1.toList = k2.toList ↔ k1 = k2 := ⟨baList_inj, fun h => by rw [h]⟩
  have hl : l1.toList = l2.toList ↔ l1 = l2 := ⟨baList_inj, fun h => by rw [h]⟩
  simp only [sameItemB, Bool.and_eq_true, beq_iff_eq, decide_eq_true_eq, sameRoot_iff, hk, hl, ItemD.mk.injEq, and_assoc]
theorem sameFree_iff (a b : FreeD) : sameFreeB a b = true ↔ a = b := by
  obtain ⟨a1, a2⟩ := a
  obtain ⟨b1, b2⟩ := b
  simp [sameFreeB]
theorem list_ext_getD {α : Type} (l m : List α) (d : α) (hl : l.length = m.length) (h : ∀ i, i < l.length → l.getD i d = m.getD i d) : l = m := by
  apply List.ext_getElem hl
  intro i h1 h2
  have := h i h1
  simpa [h1, h2] using this
theorem sameItems_iff (l m : List ItemD) : sameItemsB l m = true ↔ l = m := by
  unfold sameItemsB
  rw [Bool.and_eq_true, decide_eq_true_eq, List.all_eq_true]
  constructor
  · rintro ⟨h1, h2⟩
    refine list_ext_getD l m noItem h1 (fun i hi => ?_)
    exact (sameItem_iff _ _).1 (h2 i (by simpa using hi))
  · rintro rfl
    exact ⟨rfl, fun i _ => (sameItem_iff _ _).2 rfl⟩
theorem sameFrees_iff (l m : List FreeD) : sameFreesB l m = true ↔ l = m := by
  unfold sameFreesB
  rw [Bool.and_eq_true, decide_eq_true_eq, List.all_eq_true]
  constructor
  · rintro ⟨h1, h2⟩
    refine list_ext_getD l m ⟨0, []⟩ h1 (fun i hi => ?_)
    exact (sameFree_iff _ _).1 (h2 i (by simpa using hi))
  · rintro rfl
    exact ⟨rfl, fun i _ => (sameFree_iff _ _).2 rfl⟩
theorem sameMeta_iff (a b : MetaD) : sameMetaB a b = true ↔ a = b := by
  obtain ⟨x1, ⟨g1, c1, q1⟩, r1, l1⟩ := a
  obtain ⟨x2, ⟨g2, c2, q2⟩, r2, l2⟩ := b
  simp [sameMetaB]
theorem sameP_iff (a b : PageD) : samePB a b = true ↔ a = b := by
  obtain ⟨k1, i1, y1, d1, t1, v1, f1, n1, m1⟩ := a
  obtain ⟨k2, i2, y2, d2, t2, v2, f2, n2, m2⟩ := b
  have ht : t1.toList = t2.toList ↔ t1 = t2 := ⟨baList_inj, fun h => by rw [h]⟩
  simp only [samePB, Bool.and_eq_true, beq_iff_eq, decide_eq_true_eq, sameItems_iff, sameFrees_iff, sameMeta_iff, ht, PageD.mk.injEq, and_assoc]

def TxnOk (p : PageD) : Prop := (0 ≤ p.mt.txn ∧ p.mt.txn < 18446744073709551616) ∧ ∀ f ∈ p.free, 0 ≤ f.txn ∧ f.txn < 18446744073709551616
theorem sized_le {s : ByteArray} {a b : Int} (h : sizedB s a b = true) : (s.size : Int) ≤ b := by simp [sizedB, withinB] at h; omega
theorem rightVals_ok {l : List ByteArray} {a b : Int} (h : rightValsB l a b = true) : (l.length : Int) ≤ b ∧ ∀ x ∈ l, x.size ≤ 12 := by
  simp only [rightValsB, Bool.and_eq_true, List.all_eq_true] at h
  refine ⟨by have := h.1.1; simp [withinB] at this; omega, fun x hx => ?_⟩
  have := sized_le (h.1.2 x hx)
  omega
theorem goodItem_ok {x : ItemD} (h : goodItemB x = true) : ItemOk x := by
  simp only [goodItemB, Bool.and_eq_true, sameItem_iff] at h
  obtain ⟨⟨h1, h2⟩, h3⟩ := h
  have hk : x.key.size ≤ 65535 := by simp [shortB] at h1; omega
  have hz : (⟨#[]⟩ : ByteArray).size = 0 := rfl
  by_cases c1 : x.kind = 1
  · have e : x.vals = [] := by rw [h3]; simp [ownItemD, c1, noItem]
    refine ⟨hk, ?_, by simp [e], by simp [e]⟩
    simp only [rightItemB, c1, ↓reduceIte] at h2
    have := sized_le h2
    omega
  by_cases c3 : x.kind = 3
  · have e : x.val = ⟨#[]⟩ := by rw [h3]; simp [ownItemD, c3, noItem]
    have hv : x.val.size ≤ 65535 := by rw [e, hz]; omega
    simp only [rightItemB, c3] at h2
    simp at h2
    by_cases hd : x.dup = 0
    · simp only [hd, ↓reduceIte] at h2
      obtain ⟨a, b⟩ := rightVals_ok h2
      exact ⟨hk, hv, by omega, fun y hy => by have := b y hy; omega⟩
    · simp only [hd, ↓reduceIte] at h2
      have e2 : x.vals = [] := by simpa using h2.2
      exact ⟨hk, hv, by simp [e2], by simp [e2]⟩
  · have e : x.val = ⟨#[]⟩ ∧ x.vals = [] := by
      by_cases c2 : x.kind = 2
      · rw [h3]; simp [ownItemD, c2, noItem]
      by_cases c4 : x.kind = 4
      · rw [h3]; simp [ownItemD, c4, noItem]
      · rw [h3]; simp [ownItemD, c1, c2, c3, c4, noItem]
    exact ⟨hk, by rw [e.1, hz]; omega, by simp [e.2], by simp [e.2]⟩
theorem rightFreeL_ok : ∀ (l : List FreeD) (room txn : Int), rightFreeL room txn l = true → 0 ≤ room → (l.length : Int) ≤ room ∧ ∀ f ∈ l, (f.ids.length : Int) ≤ room
  | [], _, _, _, h => ⟨by simpa using h, by simp⟩
  | f :: r, room, txn, h, h0 => by
    simp only [rightFreeL, Bool.and_eq_true] at h
    obtain ⟨⟨⟨⟨h1, _⟩, _⟩, _⟩, h5⟩ := h
    simp [withinB] at h1
    obtain ⟨a, b⟩ := rightFreeL_ok r _ _ h5 (by omega)
    refine ⟨by simp; omega, fun g hg => ?_⟩
    rcases List.mem_cons.1 hg with rfl | hg
    · omega
    · have := b g hg
      omega
theorem partOk_of_is {p : PageD} (hi : isPB p = true) (ht : TxnOk p) : PartOk p := by
  simp only [isPB, Bool.and_eq_true] at hi
  have hr := hi.1
  refine ⟨fun h => ?_, fun h => ?_, fun h => ?_, fun h => ?_, fun h => ?_, ht.1⟩
  · simp only [rightB, h, ↓reduceIte, rightItemsB, Bool.and_eq_true, List.all_eq_true] at hr
    refine ⟨by have := hr.1.1; simp [withinB] at this; omega, fun x hx => goodItem_ok (hr.1.2 x hx)⟩
  · simp only [rightB, h] at hr
    simp [rightKidsB] at hr
    obtain ⟨⟨⟨⟨⟨h1, h2⟩, h3⟩, h4⟩, _⟩, _⟩ := hr
    refine ⟨h2, by simp [withinB] at h1; omega, fun x hx => ?_⟩
    cases hk : p.keys with
    | nil => rw [hk] at hx; simp at hx
    | cons y r =>
      rw [hk] at hx h3 h4
      rcases List.mem_cons.1 hx with rfl | hx
      · simp at h3
        have e1 : x.data.toList.length = 0 := by rw [← ByteArray.toList_eq, h3]; rfl
        have e2 : x.size = x.data.toList.length := by simp
        omega
      · have := h4 x (by simpa using hx)
        simp [shortB] at this
        omega
  · simp only [rightB, h] at hr
    simp at hr
    have := sized_le hr
    omega
  · simp only [rightB, h] at hr
    simp at hr
    obtain ⟨a, b⟩ := rightVals_ok hr
    exact ⟨by omega, fun y hy => by have := b y hy; omega⟩
  · simp only [rightB, h] at hr
    simp at hr
    obtain ⟨a, b⟩ := rightFreeL_ok p.free 20 0 hr.1 (by omega)
    exact ⟨by omega, fun f hf => ⟨(ht.2 f hf).1, (ht.2 f hf).2, by have := b f hf; omega⟩⟩

def bodyD (p : PageD) : List UInt8 := numB p.kind ++ partD p
def bytesD (p : PageD) : List UInt8 := if isPB p then lowB (sumN (bodyD p)) 8 ++ bodyD p else []
end Go.Proofs.Ytgnmjdcmaahlnaa

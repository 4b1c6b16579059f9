/- Which texts are metas, and what is chosen of them. -/
import Derived.Test.YtgnmjdcmaahlnaaTc
namespace Go.Proofs.Ytgnmjdcmaahlnaa
open Go.RowKit Go.Sort

def isM (m : MetaD) : Bool := rootB m.main && noneB m.free && withinB m.last 2 400
theorem isM_eq (m : MetaD) : isPB (ofM m) = isM m := by
  have h : samePB (ofM m) (ownD (ofM m)) = true := (sameP_iff _ _).2 (by simp [ofM, ownD])
  unfold isPB
  rw [h]
  simp [rightB, ofM, isM]
theorem metaB_none {m : MetaD} (h : isM m = false) : metaB m = [] := by
  unfold metaB bytesD
  rw [isM_eq, h]
  rfl
theorem metaB_len {m : MetaD} (h : isM m = true) : (metaB m).length = 64 := by
  unfold metaB bytesD
  rw [isM_eq, h]
  simp [bodyD, partD, metaD, rootBytesD, ofM, lowB_length, numB_length]
theorem okMt_len {l : List UInt8} (h : okMt l = true) : l.length = 64 := by
  unfold okMt at h
  rw [Bool.and_eq_true, decide_eq_true_eq] at h
  obtain ⟨h1, h2⟩ := h
  obtain ⟨h3, _, h5⟩ := okR_page h1
  have h6 : readD l = readV l := by simp [readD, h1]
  rw [h6] at h2
  have h7 : readV l = ofM (readV l).mt := by
    have := h3
    unfold isPB at this
    rw [Bool.and_eq_true, sameP_iff] at this
    refine this.2.trans ?_
    simp [ownD, h2, ofM]
  rw [h7, isM_eq] at h3
  rw [← h5, h7]
  exact metaB_len h3
/-- What isn't as long as a meta isn't one. -/
theorem sent_not {l : List UInt8} (h : l.length ≠ 64) (k : Int) : sentL l k = [] := by
  unfold sentL
  cases h1 : okMt l
  · simp
  · exact absurd (okMt_len h1) h
theorem read_meta {m : MetaD} (h : isM m = true) (ht : MOk m) : okMt (metaB m) = true ∧ (readD (metaB m)).mt = m := by
  have h1 := okR_bytes (ofM m) (by rw [isM_eq]; exact h) (ofM_txn ht)
  have e : bytesD (ofM m) = metaB m := by unfold metaB; exact Eq.refl _
  rw [e] at h1
  generalize metaB m = l at *
  obtain ⟨h2, h4⟩ := h1
  have h3 : readD l = ofM m := by
    unfold readD
    rw [if_pos h2]
    exact h4
  have h5 : (ofM m).mt = m := by simp [ofM]
  have h6 : (ofM m).kind = 6 := by simp [ofM]
  refine ⟨?_, by rw [h3, h5]⟩
  unfold okMt
  rw [h2, h3, h6]
  simp
theorem sent_meta {m : MetaD} (h : isM m = true) (ht : MOk m) (k : Int) : sentL (metaB m) k = if m.txn % 2 = k then [m] else [] := by
  obtain ⟨h1, h2⟩ := read_meta h ht
  unfold sentL
  rw [h1, h2]
  simp
/-- A meta of this version with this end and nothing else. -/
def plainM (txn last : Int) : MetaD := ⟨txn, ⟨0, 0, 0⟩, 0, last⟩
theorem plainM_is {txn last : Int} (h1 : 2 ≤ last) (h2 : last ≤ 400) : isM (plainM txn last) = true := by
  simp [isM, plainM, rootB, noneB, withinB, h1, h2]
theorem noMeta_none : metaB noMeta = [] := metaB_none (by decide)
theorem pick_two {m n : MetaD} (h : m.txn < n.txn) : pickM [m, n] = (n, true) := by simp [pickM, h]
theorem pick_two' {m n : MetaD} (h : ¬ m.txn < n.txn) : pickM [m, n] = (m, true) := by simp [pickM, h]
end Go.Proofs.Ytgnmjdcmaahlnaa

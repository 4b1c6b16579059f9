/- FilePlays: what ties the program's file to the reference's. -/
import Derived.Test.YtehfhacghfagoaaRi
import Derived.Test.YtehfhacghfagoaaSa
namespace Go.Proofs.Ytehfhacghfagoaa
open Go.RowKit

/-- What the reference has as synced. -/
def Rel (L : List Sh) (D : List ByteArray) : Prop := D.length ≤ L.length ∧ ∀ i (h : i < L.length), atL D (i : Int) = L[i].syn
theorem atL_nat (D : List ByteArray) (i : Nat) : atL D (i : Int) = D.getD i ⟨#[]⟩ := by simp [atL]
theorem rel_new (ss : List ByteArray) : Rel (newL ss) ss := by
  refine ⟨by rw [newL_length]; exact Nat.le_refl _, fun i h => ?_⟩
  rw [newL_length] at h
  rw [atL_nat]
  simp [newL, h]
theorem rel_pad {L : List Sh} {D : List ByteArray} (h : Rel L D) (n : Nat) : Rel (padTo L n) D := by
  refine ⟨by rw [padTo_length]; have := h.1; omega, fun j hj => ?_⟩
  have e : (padTo L n)[j]? = some (if h' : j < L.length then L[j] else emptySh) := by
    rw [padTo_length] at hj
    by_cases h' : j < L.length
    · rw [dif_pos h', padTo, List.getElem?_append_left h', List.getElem?_eq_getElem h']
    · rw [dif_neg h', padTo, List.getElem?_append_right (by omega), List.getElem?_replicate, if_pos (by omega)]
  rw [List.getElem?_eq_getElem hj] at e
  rw [Option.some.inj e]
  by_cases h' : j < L.length
  · rw [dif_pos h']
    exact h.2 j h'
  · rw [dif_neg h', atL_nat, List.getD_eq_getElem?_getD, List.getElem?_eq_none (by have := h.1; omega)]
    rfl
theorem rel_set {P : List Sh} {D : List ByteArray} (h : Rel P D) (k : Nat) (s : ByteArray) (hk : k < P.length) : Rel (P.set k ⟨s, (P.getD k noSh).syn, true⟩) D := by
  refine ⟨by simpa using h.1, fun i hi => ?_⟩
  have hi' : i < P.length := by simpa using hi
  by_cases e : k = i
  · subst e
    rw [List.getElem_set_self, h.2 k hk]
    simp [hk]
  · rw [List.getElem_set_ne e]
    exact h.2 i hi'
theorem rel_write {L : List Sh} {D : List ByteArray} (h : Rel L D) (k : Nat) (s : ByteArray) : Rel (writeL L k s) D :=
  rel_set (rel_pad h (k + 1)) k s (by rw [padTo_length]; omega)
theorem rel_sync (L : List Sh) : Rel (syncL L) (nowL L) := by
  refine ⟨by simp [syncL, nowL], fun i h => ?_⟩
  have hi : i < L.length := by simpa [syncL] using h
  rw [atL_nat]
  simp [nowL, syncL, syS, hi]
theorem nowL_new (ss : List ByteArray) : nowL (newL ss) = ss := by
  induction ss with
  | nil => rfl
  | cons s ss ih => simp only [nowL, newL, List.map_cons] at ih ⊢; rw [ih]
theorem nowL_sync (L : List Sh) : nowL (syncL L) = nowL L := by simp [nowL, syncL, syS]
theorem kept_take : ∀ (L : List Sh) (ks : List Bool) (n : Nat), L.length ≤ n → keptP L (ks.take n) = keptP L ks
  | [], _, _, _ => rfl
  | x :: L, ks, n, h => by
    obtain ⟨m, rfl⟩ : ∃ m, n = m + 1 := ⟨n - 1, by simp at h; omega⟩
    have hm : L.length ≤ m := by simpa using h
    cases ks with
    | nil => simp
    | cons k ks =>
      simp only [keptP, List.take_succ_cons, nextL, List.headD_cons, List.tail_cons]
      rw [kept_take L ks m hm]
      cases hx : x.loose
      · simp only [Bool.false_eq_true, if_false]
        have := kept_take L (k :: ks) (m + 1) (by omega)
        rw [List.take_succ_cons] at this
        rw [this]
      · rfl
theorem power_eq (L : List Sh) (ks : List Bool) : powerL L ks = syncL (cutL (keptP L ks)) := by
  unfold powerL
  rw [kept_take L ks L.length (Nat.le_refl _)]
theorem read_at (L : List Sh) (i : Int) : readL L i = atL (nowL L) i := by
  unfold readL atL
  split
  · simp only [List.getD_eq_getElem?_getD, nowL, List.getElem?_map]
    cases L[i.toNat]? <;> rfl
  · rfl
/-- Both files, side by side. -/
structure Both (w wr : World) (fb rb M : Nat) (L : List Sh) : Prop where
  all : ∃ fv D vV vD vL, FileAt wr fb fb fv L ∧ RfAt wr M rb vV vD vL (nowL L) D (looseL L 0) ∧ Rel L D
  below : Below w.heap.size w wr
theorem Both.next {w wr w' : World} {fb rb M : Nat} {L : List Sh} (h : Both w wr fb rb M L) (hb : Below wr.heap.size wr w') : Both w w' fb rb M L := by
  obtain ⟨fv, D, vV, vD, vL, hF, hR, hr⟩ := h.all
  exact ⟨⟨fv, D, vV, vD, vL, hF.below hb, hR.below hb, hr⟩, h.below.trans (hb.mono h.below.size)⟩
theorem Both.sync {w wr : World} {fb rb M : Nat} {L : List Sh} (h : Both w wr fb rb M L) (h1 : w.heap.size ≤ fb) (h2 : w.heap.size ≤ rb) :
    Calls Try.prog 13 #[.pointer (some ⟨fb, 0, none⟩)] wr fun e w1 => e = .returned (.tuple #[]) ∧
      Calls Try.prog 14 #[.pointer (some ⟨rb, 0, none⟩)] w1 fun e w2 => e = .returned (.tuple #[]) ∧ Both w w2 fb rb M (syncL L) := by
  obtain ⟨fv, D, vV, vD, vL, hF, hR, hr⟩ := h.all
  refine (sync_any _ fb fb _ _ hF).mono ?_
  rintro e w1 ⟨rfl, F1, O1⟩
  have R1 := hR.fo hF O1
  have B1 := h.below.trans ((O1.below hF).mono h1)
  refine ⟨rfl, (rsync_any _ M rb _ _ _ _ _ _ R1).mono ?_⟩
  rintro e w2 ⟨rfl, uV, uD, uL, R2, G2⟩
  refine ⟨rfl, ⟨fv, nowL L, uV, uD, uL, F1.rf R1 G2, ?_, rel_sync L⟩, B1.trans (grown_lt G2 h2 (by have := B1.size; omega))⟩
  rw [nowL_sync, sync_loose]
  exact R2
theorem Both.power {w wr : World} {fb rb M : Nat} {L : List Sh} (h : Both w wr fb rb M L) (h1 : w.heap.size ≤ fb) (h2 : w.heap.size ≤ rb) (kv : Value) (ks : List Bool) (hk : BoolsAt w kv ks) :
    Calls Try.prog 15 #[.pointer (some ⟨fb, 0, none⟩), kv] wr fun e w1 => e = .returned (.tuple #[]) ∧ (∀ (b : Nat) (cs : Array Value), wr.heap[b]? = some (.cells cs 31 (0, 0)) → w1.heap[b]? = some (.cells cs 31 (0, 0))) ∧
      Calls Try.prog 16 #[.pointer (some ⟨rb, 0, none⟩), kv] w1 fun e w2 => e = .returned (.tuple #[]) ∧ Both w w2 fb rb M (powerL L ks) := by
  obtain ⟨fv, D, vV, vD, vL, hF, hR, hr⟩ := h.all
  refine (power_any _ fb fb _ _ kv ks hF (hk.below h.below)).mono ?_
  rintro e w1 ⟨rfl, fv', F1, O1⟩
  have R1 := hR.fo hF O1
  have B1 := h.below.trans ((O1.below hF).mono h1)
  refine ⟨rfl, fun b cs hb => (O1.keeps hF hb (by decide) (by decide)).trans hb, (rpower_any _ M rb _ _ _ L D kv ks R1 (hk.below B1) hr.2).mono ?_⟩
  rintro e w2 ⟨rfl, uV, uD, uL, R2, G2⟩
  rw [power_eq] at F1 ⊢
  refine ⟨rfl, ⟨fv', nowL (cutL (keptP L ks)), uV, uD, uL, F1.rf R1 G2, ?_, rel_sync _⟩, B1.trans (grown_lt G2 h2 (by have := B1.size; omega))⟩
  rw [nowL_sync, sync_loose]
  exact R2
end Go.Proofs.Ytehfhacghfagoaa

/- StoreRuns, as data: where the first run lies, what Run makes, how it is filled. -/
import Derived.Test.YtpionokcabjokaaGreatZEq
namespace Go.Proofs.YtpionokcabjokaaGreat
open Go.RowKit Go.Sort Go.Conc
open H (Up up_ext mergeL dropL Fit RunI RunIs RowAt)

/-- As far as j the bits from i on are set, and there is room for so many. -/
def okU (f : Int) (K i j : Nat) : Bool := decide (i + K ≤ 16) && (List.range j).all fun t => bitB f (i + t)
theorem okU_zero (f : Int) (K i : Nat) : okU f K i 0 = decide (i + K ≤ 16) := by simp [okU]
theorem okU_succ (f : Int) (K i j : Nat) : okU f K i (j + 1) = (okU f K i j && bitB f (i + j)) := by
  simp [okU, List.range_succ, Bool.and_assoc]
theorem okU_false {f : Int} {K i j : Nat} (h : okU f K i j = false) (hj : j ≤ K) : okU f K i K = false := by
  have h2 : ∀ d, okU f K i (j + d) = false := by
    intro d
    induction d with
    | zero => exact h
    | succ d ih => rw [← Nat.add_assoc, okU_succ, ih]; rfl
  have := h2 (K - j)
  rwa [show j + (K - j) = K by omega] at this
theorem okU_iff (f : Int) (K i : Nat) : okU f K i K = true ↔ i + K ≤ 16 ∧ ∀ t, t < K → bitB f (i + t) = true := by
  simp [okU]
/-- Of the places from i on the first good one is told, or 18. -/
def WantI (f : Int) (K i : Nat) (v : Int) : Prop :=
  (v = 18 ∧ ∀ j, i ≤ j → j < 16 → okU f K j K = false) ∨ ∃ j : Nat, i ≤ j ∧ j < 16 ∧ v = 2 + (j : Int) ∧ okU f K j K = true ∧ ∀ j', i ≤ j' → j' < j → okU f K j' K = false
theorem want_start (f : Int) (K : Nat) : WantI f K 16 18 := .inl ⟨rfl, fun j h1 h2 => by omega⟩
theorem want_yes {f : Int} {K i : Nat} (h : okU f K i K = true) (hi : i < 16) : WantI f K i (2 + (i : Int)) :=
  .inr ⟨i, Nat.le_refl _, hi, rfl, h, fun j' h1 h2 => by omega⟩
theorem want_no {f : Int} {K i : Nat} {v : Int} (h : okU f K i K = false) (hw : WantI f K (i + 1) v) : WantI f K i v := by
  rcases hw with ⟨h1, h2⟩ | ⟨j, h1, h2, h3, h4, h5⟩
  · refine .inl ⟨h1, fun j h3 h4 => ?_⟩
    by_cases hj : j = i
    · subst hj; exact h
    · exact h2 j (by omega) h4
  · refine .inr ⟨j, by omega, h2, h3, h4, fun j' h6 h7 => ?_⟩
    by_cases hj : j' = i
    · subst hj; exact h
    · exact h5 j' (by omega) h7
theorem runF_some {l : List Int} {n : Nat} {x : Int} (hu : Up l) (hn : 1 ≤ n) (h1 : H.RunAt l n x) (h2 : ∀ y, y < x → ¬ H.RunAt l n y) : runF l n = some x := by
  obtain ⟨i, hi, hx⟩ := H.runI_of hu hn h1
  cases hr : runF l n with
  | none =>
    exfalso
    unfold runF at hr
    rw [Option.map_eq_none_iff, List.find?_eq_none] at hr
    exact hr i (by have := hi.1; have := hi.2.1; simp; omega) ((runB_iff _ _ _).2 hi)
  | some y =>
    have hy : H.RunAt l n y := runIs_some hr
    have h3 : ¬ y < x := fun h => h2 y h hy
    unfold runF at hr
    rw [Option.map_eq_some_iff] at hr
    obtain ⟨k, hk, rfl⟩ := hr
    rw [List.find?_range_eq_some] at hk
    obtain ⟨k1, k2, k3⟩ := hk
    have hki : k ≤ i := by
      apply Classical.byContradiction
      intro hlt
      have := k3 i (by omega)
      rw [(runB_iff _ _ _).2 hi] at this
      simp at this
    rcases Nat.lt_or_eq_of_le hki with h | h
    · have := H.up_get hu h (by have := hi.1; have := hi.2.1; omega)
      omega
    · subst h; rw [hx]
theorem runF_never {l : List Int} {n : Nat} (h : ∀ y, ¬ H.RunAt l n y) : runF l n = none := by
  cases hr : runF l n with
  | none => rfl
  | some y => exact absurd (runIs_some hr) (h y)
theorem runAt_bits {f : Int} {K : Nat} (hK : 1 ≤ K) (y : Int) : H.RunAt (bitsL f 16) K y ↔ ∃ j : Nat, j < 16 ∧ y = 2 + (j : Int) ∧ okU f K j K = true := by
  constructor
  · intro h
    obtain ⟨j, h1, h2, h3⟩ := (bitsL_mem f _ 16).1 (h 0 (by omega))
    refine ⟨j, h1, by omega, (okU_iff _ _ _).2 ⟨?_, fun t ht => ?_⟩⟩
    · obtain ⟨i, h4, h5, _⟩ := (bitsL_mem f _ 16).1 (h (K - 1) (by omega))
      omega
    · obtain ⟨i, h4, h5, h6⟩ := (bitsL_mem f _ 16).1 (h t ht)
      rwa [show i = j + t by omega] at h6
  · rintro ⟨j, h1, rfl, h2⟩ t ht
    obtain ⟨h3, h4⟩ := (okU_iff _ _ _).1 h2
    exact (bitsL_mem f _ 16).2 ⟨j + t, by omega, by omega, h4 t ht⟩
theorem want_run {f : Int} {K : Nat} (hK : 1 ≤ K) {v : Int} (h : WantI f K 0 v) : (v = 18 ∧ runF (bitsL f 16) K = none) ∨ (2 ≤ v ∧ v + (K : Int) ≤ 18 ∧ runF (bitsL f 16) K = some v) := by
  rcases h with ⟨h1, h2⟩ | ⟨j, h1, h2, rfl, h4, h5⟩
  · refine .inl ⟨h1, runF_never fun y hy => ?_⟩
    obtain ⟨j, h3, _, h4⟩ := (runAt_bits hK y).1 hy
    rw [h2 j (by omega) h3] at h4
    cases h4
  · have h6 := ((okU_iff _ _ _).1 h4).1
    refine .inr ⟨by omega, by omega, runF_some (bitsL_up f 16) hK ((runAt_bits hK _).2 ⟨j, h2, rfl, h4⟩) fun y hy hr => ?_⟩
    obtain ⟨j', h7, h8, h9⟩ := (runAt_bits hK y).1 hr
    rw [h5 j' (by omega) (by omega)] at h9
    cases h9

/-- A run lies from v on; from the i-th on nothing is on it. -/
structure RunsI (s : StD) (v : Int) (K i : Nat) : Prop where
  last : (s.last : Int) = max 18 (v + (K : Int))
  most : s.most = 400
  len : s.dirty.length = K
  mem : ∀ t : Nat, t < K → s.dirty.contains (v + (t : Int)) = true
  blank : ∀ t : Nat, i ≤ t → t < K → s.sh (v + (t : Int)) = ⟨#[]⟩
theorem runs_new {f : Int} {K : Nat} (hK : 1 ≤ K) (hK5 : K ≤ 5) {v : Int} (h : WantI f K 0 v) {s : StD} (hN : NumI s (bitsL f 16) 18 400 0) : ∃ s', runD s (K : Int) = (v, 0, s') ∧ RunsI s' v K 0 ∧ 2 ≤ v ∧ v ≤ 18 := by
  have hd : s.dirty = [] := List.length_eq_zero_iff.1 (by have := hN.few; omega)
  have hr : runD s (K : Int) = takeD s K := by unfold runD; rw [if_neg (by omega), Int.toNat_natCast]
  have hmk : ∀ (s2 : StD) (l : Nat), s2.dirty = [] → s2.most = 400 → s2.last = l → (l : Int) = max 18 (v + (K : Int)) → RunsI (madeD s2 v K) v K 0 := fun s2 l e1 e2 e3 e4 => by
    refine ⟨by simp only [madeD]; rw [e3]; exact e4, e2, ?_, fun t ht => ?_, fun t _ ht => ?_⟩
    · simp only [madeD]
      rw [e1, addRun_length H.up_nil _ _ (fun y hy => absurd hy (by simp))]
      simp
    · have : v + (t : Int) ∈ addRun s2.dirty v K := (addRun_mem _ _ _ _).2 (.inr (by omega))
      simpa [madeD] using this
    · simp only [madeD]
      rw [blank_at, if_pos (by omega)]
  rcases want_run hK h with ⟨rfl, h1⟩ | ⟨h2, h3, h1⟩
  · have ht : takeD s K = (18, 0, madeD { s with last := s.last + K } 18 K) := by
      unfold takeD
      rw [if_neg (by rw [hd]; simp; omega), hN.avail, h1]
      simp only
      rw [if_neg (by have := hN.last; have := hN.most; omega), hN.last, ← hN.avail]
      rfl
    rw [hr, ht]
    exact ⟨_, rfl, hmk _ (s.last + K) hd hN.most rfl (by have := hN.last; omega), by omega, by omega⟩
  · have ht : takeD s K = (v, 0, madeD { s with avail := dropL s.avail v K } v K) := by
      unfold takeD
      rw [if_neg (by rw [hd]; simp; omega), hN.avail, h1]
    rw [hr, ht]
    exact ⟨_, rfl, hmk _ s.last hd hN.most rfl (by have := hN.last; omega), h2, by omega⟩
theorem okR_nil : okR [] = false := by decide +kernel
theorem runs_blank {s : StD} {v : Int} {K i : Nat} {L : List F.Sh} (h : RunsI s v K i) (hi : i < K) (h2 : 2 ≤ v) (h3 : v ≤ 18) (hK5 : K ≤ 5) : readS s L (v + (i : Int)) = (noPage, 12) := by
  have e1 : bytesAt s L (v + (i : Int)) = ⟨#[]⟩ := by
    unfold bytesAt
    rw [if_pos (h.mem i hi), h.blank i (Nat.le_refl _) hi]
  unfold readS
  rw [if_neg (by have := h.most; omega), e1]
  simp only [readD]
  rw [show okR (ByteArray.data ⟨#[]⟩).toList = false from okR_nil]
  rfl
theorem runs_set {s : StD} {v : Int} {K i : Nat} (h : RunsI s v K i) (hi : i < K) : setD s (v + (i : Int)) knK = (0, putB s (v + (i : Int)) (bs (bytesD knK))) ∧ RunsI (putB s (v + (i : Int)) (bs (bytesD knK))) v K (i + 1) := by
  refine ⟨by unfold setD; rw [knK_is, h.mem i hi]; rfl, h.last, h.most, h.len, h.mem, fun t h1 h2 => ?_⟩
  simp only [putB]
  rw [upd_other _ _ (by omega)]
  exact h.blank t (by omega) h2
theorem runs_read {s : StD} {v : Int} {K i : Nat} {L : List F.Sh} (h : RunsI s v K i) (hi : i < K) (h2 : 2 ≤ v) (h3 : v ≤ 18) (hK5 : K ≤ 5) : readS (putB s (v + (i : Int)) (bs (bytesD knK))) L (v + (i : Int)) = (knK, 0) := by
  have e1 : bytesAt (putB s (v + (i : Int)) (bs (bytesD knK))) L (v + (i : Int)) = bs (bytesD knK) := by
    unfold bytesAt
    rw [show (putB s (v + (i : Int)) (bs (bytesD knK))).dirty = s.dirty from rfl, if_pos (h.mem i hi)]
    exact upd_same _ _ _
  unfold readS
  rw [show (putB s (v + (i : Int)) (bs (bytesD knK))).most = s.most from rfl, if_neg (by have := h.most; omega), e1, bs_list]
  obtain ⟨h1, h2⟩ := okR_bytes knK knK_is (leaf_txn _)
  simp only [readD, h1, h2, ↓reduceIte]
end Go.Proofs.YtpionokcabjokaaGreat

/- Contracts of package page's small tests: within, sized, Short, number, numberOrNone, numbers, rising, and slices.Equal. -/
import Derived.Test.YtgnmjdcmaahlnaaPn
namespace Go.Proofs.Ytgnmjdcmaahlnaa
open Go.RowKit Go.Sort

def withinB (n a b : Int) : Bool := decide (a ≤ n) && decide (n ≤ b)
def sizedB (s : ByteArray) (a b : Int) : Bool := withinB s.size a b
def noneB (n : Int) : Bool := n == 0 || pageB n

set_option maxHeartbeats 400000 in
theorem within_any (n a b : Int) (w : World) :
    Calls Try.prog 44 #[.int .i64 n, .int .i64 a, .int .i64 b] w fun e w' => e = .returned (.bool (withinB n a b)) ∧ w' = w := by
  go_enter Try.func44, Try.ntmps44
  go_wp2
  all_goals
    go_ret
    refine ⟨ret_bool ?_, rfl⟩
    rw [Bool.eq_iff_iff]
    simp [withinB]
    omega

set_option maxHeartbeats 400000 in
theorem sized_any (s : ByteArray) (a b : Int) (w : World) (_hs : s.size ≤ maxLen) :
    Calls Try.prog 39 #[.string s, .int .i64 a, .int .i64 b] w fun e w' => e = .returned (.bool (sizedB s a b)) ∧ w' = w := by
  unfold maxLen at _hs
  go_enter Try.func39, Try.ntmps39
  go_wp2_with (go_at_call 44; refine (within_any _ _ _ _).mono ?_; rintro e w' ⟨rfl, rfl⟩)
  go_ret
  exact ⟨rfl, rfl⟩

set_option maxHeartbeats 400000 in
theorem short_any (s : ByteArray) (w : World) (hs : s.size ≤ maxLen) :
    Calls Try.prog 62 #[.string s] w fun e w' => e = .returned (.bool (shortB s)) ∧ w' = w := by
  go_enter Try.func62, Try.ntmps62
  go_wp2_with (go_at_call 39; refine (sized_any _ _ _ _ hs).mono ?_; rintro e w' ⟨rfl, rfl⟩)
  go_ret
  refine ⟨ret_bool ?_, rfl⟩
  rw [Bool.eq_iff_iff]
  simp [sizedB, withinB, shortB]
  omega

set_option maxHeartbeats 400000 in
theorem number_page (n : Int) (w : World) :
    Calls Try.prog 68 #[.int .i64 n] w fun e w' => e = .returned (.bool (pageB n)) ∧ w' = w := by
  go_enter Try.func68, Try.ntmps68
  go_wp2_with (go_at_call 44; refine (within_any _ _ _ _).mono ?_; rintro e w' ⟨rfl, rfl⟩)
  go_ret
  refine ⟨ret_bool ?_, rfl⟩
  rw [Bool.eq_iff_iff]
  simp [withinB, pageB]
  omega

set_option maxHeartbeats 400000 in
theorem orNone_any (n : Int) (w : World) :
    Calls Try.prog 42 #[.int .i64 n] w fun e w' => e = .returned (.bool (noneB n)) ∧ w' = w := by
  go_enter Try.func42, Try.ntmps42
  go_wp2_with (go_at_call 68; refine (number_page _ _).mono ?_; rintro e w' ⟨rfl, rfl⟩)
  all_goals
    go_ret
    refine ⟨ret_bool ?_, rfl⟩
    simp_all [noneB]

set_option maxHeartbeats 1000000 in
theorem numbers_any (l : List Int) (v : Value) (w : World) (hv : IntsAt w v l) :
    Calls Try.prog 66 #[v] w fun e w' => e = .returned (.bool (l.all pageB)) ∧ w' = w := by
  obtain ⟨ao, cap, rfl, hlm, hc⟩ := hv
  unfold maxLen at hlm
  have HC := hid hc
  clear hc
  go_enter Try.func66, Try.ntmps66
  go_wp2
  go_loop [7] (fun i => ∃ k : Nat, k ≤ l.length ∧ i = .int .i64 k ∧ Hid ((l.take k).all pageB = true)) (fun i => l.length - (intOf i).toNat)
  case atStart => exact ⟨0, Nat.zero_le _, rfl, rfl⟩
  case round =>
    obtain ⟨k, hk, rfl, hall⟩ := hrel
    by_cases hlt : k < l.length
    · obtain ⟨a, ha, hce⟩ := HC.out k hlt
      have hia := atInts (ao := ao) l.length cap k ha hlt
      have HT := hid (List.take_succ_eq_append_getElem hlt)
      have HM : Hid (l[k] ∈ l) := List.getElem_mem hlt
      clear ha
      cases hp : pageB l[k]
      all_goals
        go_wp2_with (go_at_call 68; refine (number_page _ _).mono ?_; rintro e w' ⟨rfl, rfl⟩)
      · go_ret
        refine ⟨ret_bool ?_, rfl⟩
        symm
        rw [List.all_eq_false]
        exact ⟨_, HM.out, by simp [hp]⟩
      · go_roundw
        case rel => exact ⟨k + 1, by omega, by go_num, by show _ = _; rw [HT.out, List.all_append, hall.out]; simp [hp]⟩
        case measure => simp [intOf]; omega
    · go_wp2
      go_ret
      refine ⟨ret_bool ?_, rfl⟩
      have h := hall.out
      rw [List.take_of_length_le (by omega)] at h
      exact h.symm

/-- Each of the texts is above the one ahead of it. -/
def goodUpS (l : List ByteArray) (i : Nat) : Bool := i == 0 || ltB (l.getD (i - 1) ⟨#[]⟩) (l.getD i ⟨#[]⟩)
def upS (l : List ByteArray) : Bool := (List.range l.length).all (goodUpS l)
def goodUpI (l : List Int) (i : Nat) : Bool := i == 0 || decide (l.getD (i - 1) 0 < l.getD i 0)
def upI (l : List Int) : Bool := (List.range l.length).all (goodUpI l)
theorem all_range_le (p : Nat → Bool) {m n : Nat} (h : m ≤ n) (ha : (List.range n).all p = true) : (List.range m).all p = true := by
  rw [List.all_eq_true] at ha ⊢
  intro x hx
  exact ha x (by simp at hx ⊢; omega)

set_option maxHeartbeats 1000000 in
theorem risingS_any (l : List ByteArray) (v : Value) (w : World) (hv : StrsAt w v l) :
    Calls Try.prog 65 #[v] w fun e w' => e = .returned (.bool (upS l)) ∧ Below w.heap.size w w' := by
  obtain ⟨ao, cap, rfl, hlm, hc⟩ := hv
  unfold maxLen at hlm
  have HC := hid hc
  clear hc
  go_enter Try.func65, Try.ntmps65
  go_wp2
  go_loopw [3] (fun i wr => ∃ k : Nat, 1 ≤ k ∧ (k ≤ l.length ∨ k ≤ 1) ∧ i = .int .i64 k ∧ Hid ((List.range k).all (goodUpS l) = true) ∧ Below w.heap.size w wr) (fun i _ => l.length - (intOf i).toNat)
  case atStart => exact ⟨1, by omega, .inr (by omega), rfl, by show _ = _; simp [goodUpS], Below.refl _ _⟩
  case round =>
    obtain ⟨k, hk1, hk, rfl, hall, hbel⟩ := hrel
    by_cases hlt : k < l.length
    · obtain ⟨a, ha, hce, hsz⟩ := HC.out k hlt
      have hcell : wr.cell? (a.add k) = some (.string l[k]) := (hbel.cell (p := a.add k) (World.block_lt_of_cell? w _ hce)).trans hce
      have hia := atStrs (ao := ao) l.length cap k ha hlt
      have HSU := hid (all_range_succ (goodUpS l) k)
      have HBD := hid (all_range_bad (goodUpS l) k l.length hlt)
      obtain ⟨j, hj⟩ : ∃ j : Nat, (j : Int) + 1 ≤ (k : Int) ∧ (k : Int) ≤ (j : Int) + 1 := ⟨k - 1, by omega, by omega⟩
      have hjl : j < l.length := by omega
      obtain ⟨a', ha', hce', hsz'⟩ := HC.out j hjl
      have hcell' : wr.cell? (a'.add j) = some (.string l[j]) := (hbel.cell (p := a'.add j) (World.block_lt_of_cell? w _ hce')).trans hce'
      have hia' := atStrs (ao := ao) l.length cap j ha' hjl
      have hkj : (k : Int) - 1 = (j : Int) := by omega
      have HG : Hid (goodUpS l k = ltB l[j] l[k]) := by
        have h1 : k - 1 = j := by omega
        have h2 : (k == 0) = false := by simp; omega
        show _ = _
        rw [goodUpS, h1, h2]
        simp [hjl, hlt]
      clear hce' ha' hsz' hce ha hsz
      cases hlb : ltB l[j] l[k]
      · have hop : Op.bytesLess l[j].toList l[k].toList = false := hlb
        have HGO := hid (HG.out.trans hlb)
        clear hlb
        go_wp2_with fail
        go_quiet (fail)
        go_wp2
        go_ret
        refine ⟨ret_bool ?_, hbel.trans ((below_draws wr nq).mono hbel.size)⟩
        rw [upS, HBD.out HGO.out]
      · have hop : Op.bytesLess l[j].toList l[k].toList = true := hlb
        have HGO := hid (HG.out.trans hlb)
        clear hlb
        go_wp2_with fail
        go_quiet (fail)
        go_wp2
        go_roundw
        case rel => exact ⟨k + 1, by omega, by omega, by go_num, by show _ = _; rw [HSU.out, hall.out, HGO.out]; rfl, hbel.trans ((below_draws wr nq).mono hbel.size)⟩
        case measure => simp [intOf]; omega
    · go_wp2
      go_ret
      refine ⟨ret_bool ?_, hbel⟩
      exact (all_range_le _ (by omega) hall.out).symm

set_option maxHeartbeats 1000000 in
theorem risingI_any (l : List Int) (v : Value) (w : World) (hv : IntsAt w v l) :
    Calls Try.prog 67 #[v] w fun e w' => e = .returned (.bool (upI l)) ∧ Below w.heap.size w w' := by
  obtain ⟨ao, cap, rfl, hlm, hc⟩ := hv
  unfold maxLen at hlm
  have HC := hid hc
  clear hc
  go_enter Try.func67, Try.ntmps67
  go_wp2
  go_loopw [3] (fun i wr => ∃ k : Nat, 1 ≤ k ∧ (k ≤ l.length ∨ k ≤ 1) ∧ i = .int .i64 k ∧ Hid ((List.range k).all (goodUpI l) = true) ∧ Below w.heap.size w wr) (fun i _ => l.length - (intOf i).toNat)
  case atStart => exact ⟨1, by omega, .inr (by omega), rfl, by show _ = _; simp [goodUpI], Below.refl _ _⟩
  case round =>
    obtain ⟨k, hk1, hk, rfl, hall, hbel⟩ := hrel
    by_cases hlt : k < l.length
    · obtain ⟨a, ha, hce⟩ := HC.out k hlt
      have hcell : wr.cell? (a.add k) = some (.int .i64 l[k]) := (hbel.cell (p := a.add k) (World.block_lt_of_cell? w _ hce)).trans hce
      have hia := atInts (ao := ao) l.length cap k ha hlt
      have HSU := hid (all_range_succ (goodUpI l) k)
      have HBD := hid (all_range_bad (goodUpI l) k l.length hlt)
      obtain ⟨j, hj⟩ : ∃ j : Nat, (j : Int) + 1 ≤ (k : Int) ∧ (k : Int) ≤ (j : Int) + 1 := ⟨k - 1, by omega, by omega⟩
      have hjl : j < l.length := by omega
      obtain ⟨a', ha', hce'⟩ := HC.out j hjl
      have hcell' : wr.cell? (a'.add j) = some (.int .i64 l[j]) := (hbel.cell (p := a'.add j) (World.block_lt_of_cell? w _ hce')).trans hce'
      have hia' := atInts (ao := ao) l.length cap j ha' hjl
      have hkj : (k : Int) - 1 = (j : Int) := by omega
      have HG : Hid (goodUpI l k = decide (l[j] < l[k])) := by
        have h1 : k - 1 = j := by omega
        have h2 : (k == 0) = false := by simp; omega
        show _ = _
        rw [goodUpI, h1, h2]
        simp [hjl, hlt]
      clear hce' ha' hce ha
      by_cases hlb : l[j] < l[k]
      · have hop : decide (l[k] ≤ l[j]) = false := by simp; omega
        have HGO : Hid (goodUpI l k = true) := by show _ = _; rw [HG.out]; simpa using hlb
        clear hlb
        go_wp2_with fail
        go_quiet (fail)
        go_wp2
        go_roundw
        case rel => exact ⟨k + 1, by omega, by omega, by go_num, by show _ = _; rw [HSU.out, hall.out, HGO.out]; rfl, hbel.trans ((below_draws wr nq).mono hbel.size)⟩
        case measure => simp [intOf]; omega
      · have hop : decide (l[k] ≤ l[j]) = true := by simp; omega
        have HGO : Hid (goodUpI l k = false) := by show _ = _; rw [HG.out]; simpa using hlb
        clear hlb
        go_wp2_with fail
        go_quiet (fail)
        go_wp2
        go_ret
        refine ⟨ret_bool ?_, hbel.trans ((below_draws wr nq).mono hbel.size)⟩
        rw [upI, HBD.out HGO.out]
    · go_wp2
      go_ret
      refine ⟨ret_bool ?_, hbel⟩
      exact (all_range_le _ (by omega) hall.out).symm

theorem toList_inj' {a b : ByteArray} (h : a.toList = b.toList) : a = b := by
  rw [ByteArray.toList_eq, ByteArray.toList_eq] at h
  exact ByteArray.ext (Array.toList_inj.1 h)

set_option maxHeartbeats 1000000 in
theorem equalS_any (l m : List ByteArray) (v u : Value) (w : World) (hv : StrsAt w v l) (hu : StrsAt w u m) :
    Calls Try.prog 47 #[v, u] w fun e w' => e = .returned (.bool (decide (l = m))) ∧ Below w.heap.size w w' := by
  obtain ⟨ao, cap, rfl, hlm, hc⟩ := hv
  obtain ⟨ao2, cap2, rfl, hlm2, hc2⟩ := hu
  unfold maxLen at hlm hlm2
  have HC := hid hc
  have HC2 := hid hc2
  clear hc hc2
  by_cases hne : l.length = m.length
  · have hneB : ((l.length : Int) != (m.length : Int)) = false := by simp; omega
    have HNE := hid hne
    clear hne
    go_enter Try.func47, Try.ntmps47
    go_wp2
    go_loopw [13] (fun i wr => ∃ k : Nat, k ≤ l.length ∧ i = .int .i64 k ∧ Hid (l.take k = m.take k) ∧ Below w.heap.size w wr) (fun i _ => l.length - (intOf i).toNat)
    case atStart => exact ⟨0, Nat.zero_le _, rfl, rfl, Below.refl _ _⟩
    case round =>
      obtain ⟨k, hk, rfl, hall, hbel⟩ := hrel
      by_cases hlt : k < l.length
      · have hlt2 : k < m.length := by rw [← HNE.out]; exact hlt
        obtain ⟨a, ha, hce, hsz⟩ := HC.out k hlt
        obtain ⟨a2, ha2, hce2, hsz2⟩ := HC2.out k hlt2
        have hcell : wr.cell? (a.add k) = some (Value.string l[k]) := (hbel.cell (p := a.add k) (World.block_lt_of_cell? w _ hce)).trans hce
        have hcell2 : wr.cell? (a2.add k) = some (Value.string m[k]) := (hbel.cell (p := a2.add k) (World.block_lt_of_cell? w _ hce2)).trans hce2
        have hia := atStrs (ao := ao) l.length cap k ha hlt
        have hia2 := atStrs (ao := ao2) m.length cap2 k ha2 hlt2
        clear hce hce2 ha ha2
        have HT1 := hid (List.take_succ_eq_append_getElem hlt)
        have HT2 := hid (List.take_succ_eq_append_getElem hlt2)
        by_cases heq : l[k] = m[k]
        · have hb : (!(l[k].toList == m[k].toList)) = false := by simp [heq]
          have HE := hid heq
          clear heq
          go_wp2_with fail
          go_quiet (fail)
          go_wp2
          go_roundw
          case rel => exact ⟨k + 1, by omega, by go_num, by show _ = _; rw [HT1.out, HT2.out, HE.out, hall.out], hbel.trans ((below_draws wr nq).mono hbel.size)⟩
          case measure => simp [intOf]; omega
        · have hb : (!(l[k].toList == m[k].toList)) = true := by simp; intro h; exact heq (toList_inj' h)
          have HE := hid heq
          clear heq
          go_wp2_with fail
          go_quiet (fail)
          go_wp2
          go_ret
          refine ⟨ret_bool ?_, hbel.trans ((below_draws wr nq).mono hbel.size)⟩
          have : ¬ l = m := by
            intro e
            subst e
            exact HE.out rfl
          simp [this]
      · have hke : k = l.length := by omega
        go_wp2
        go_ret
        refine ⟨ret_bool ?_, hbel⟩
        have h1 := hall.out
        rw [List.take_of_length_le (by omega), List.take_of_length_le (by have := HNE.out; omega)] at h1
        simp [h1]
  · have hneB : ((l.length : Int) != (m.length : Int)) = true := by simp; omega
    have HNE := hid hne
    clear hne
    go_enter Try.func47, Try.ntmps47
    go_wp2
    go_ret
    refine ⟨ret_bool ?_, Below.refl _ _⟩
    have : ¬ l = m := fun e => HNE.out (by rw [e])
    simp [this]

set_option maxHeartbeats 1000000 in
theorem equalI_any (l m : List Int) (v u : Value) (w : World) (hv : IntsAt w v l) (hu : IntsAt w u m) :
    Calls Try.prog 48 #[v, u] w fun e w' => e = .returned (.bool (decide (l = m))) ∧ Below w.heap.size w w' := by
  obtain ⟨ao, cap, rfl, hlm, hc⟩ := hv
  obtain ⟨ao2, cap2, rfl, hlm2, hc2⟩ := hu
  unfold maxLen at hlm hlm2
  have HC := hid hc
  have HC2 := hid hc2
  clear hc hc2
  by_cases hne : l.length = m.length
  · have hneB : ((l.length : Int) != (m.length : Int)) = false := by simp; omega
    have HNE := hid hne
    clear hne
    go_enter Try.func48, Try.ntmps48
    go_wp2
    go_loopw [13] (fun i wr => ∃ k : Nat, k ≤ l.length ∧ i = .int .i64 k ∧ Hid (l.take k = m.take k) ∧ Below w.heap.size w wr) (fun i _ => l.length - (intOf i).toNat)
    case atStart => exact ⟨0, Nat.zero_le _, rfl, rfl, Below.refl _ _⟩
    case round =>
      obtain ⟨k, hk, rfl, hall, hbel⟩ := hrel
      by_cases hlt : k < l.length
      · have hlt2 : k < m.length := by rw [← HNE.out]; exact hlt
        obtain ⟨a, ha, hce⟩ := HC.out k hlt
        obtain ⟨a2, ha2, hce2⟩ := HC2.out k hlt2
        have hcell : wr.cell? (a.add k) = some (Value.int .i64 l[k]) := (hbel.cell (p := a.add k) (World.block_lt_of_cell? w _ hce)).trans hce
        have hcell2 : wr.cell? (a2.add k) = some (Value.int .i64 m[k]) := (hbel.cell (p := a2.add k) (World.block_lt_of_cell? w _ hce2)).trans hce2
        have hia := atInts (ao := ao) l.length cap k ha hlt
        have hia2 := atInts (ao := ao2) m.length cap2 k ha2 hlt2
        clear hce hce2 ha ha2
        have HT1 := hid (List.take_succ_eq_append_getElem hlt)
        have HT2 := hid (List.take_succ_eq_append_getElem hlt2)
        by_cases heq : l[k] = m[k]
        · have hb : (l[k] != m[k]) = false := by simp [heq]
          have HE := hid heq
          clear heq
          go_wp2_with fail
          go_quiet (fail)
          go_wp2
          go_roundw
          case rel => exact ⟨k + 1, by omega, by go_num, by show _ = _; rw [HT1.out, HT2.out, HE.out, hall.out], hbel.trans ((below_draws wr nq).mono hbel.size)⟩
          case measure => simp [intOf]; omega
        · have hb : (l[k] != m[k]) = true := by simpa using heq
          have HE := hid heq
          clear heq
          go_wp2_with fail
          go_quiet (fail)
          go_wp2
          go_ret
          refine ⟨ret_bool ?_, hbel.trans ((below_draws wr nq).mono hbel.size)⟩
          have : ¬ l = m := by
            intro e
            subst e
            exact HE.out rfl
          simp [this]
      · have hke : k = l.length := by omega
        go_wp2
        go_ret
        refine ⟨ret_bool ?_, hbel⟩
        have h1 := hall.out
        rw [List.take_of_length_le (by omega), List.take_of_length_le (by have := HNE.out; omega)] at h1
        simp [h1]
  · have hneB : ((l.length : Int) != (m.length : Int)) = true := by simp; omega
    have HNE := hid hne
    clear hne
    go_enter Try.func48, Try.ntmps48
    go_wp2
    go_ret
    refine ⟨ret_bool ?_, Below.refl _ _⟩
    have : ¬ l = m := fun e => HNE.out (by rw [e])
    simp [this]
end Go.Proofs.Ytgnmjdcmaahlnaa

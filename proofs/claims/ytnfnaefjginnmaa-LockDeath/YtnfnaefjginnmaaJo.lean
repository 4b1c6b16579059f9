/- LockOne: of those that live one has the lock at most, and only it lets go of it. -/
import Derived.Test.YtnfnaefjginnmaaJn
namespace Go.Proofs.Ytnfnaefjginnmaa
open Go.RowKit Go.Conc

/-- The first so many numbers. -/
def upL : Nat → List Int
  | 0 => []
  | k + 1 => upL k ++ [(k : Int) + 1]
theorem upL_length (k : Nat) : (upL k).length = k := by
  induction k with
  | zero => rfl
  | succ k ih => simp [upL, ih]
theorem upL_mem (k : Nat) (x : Int) : x ∈ upL k ↔ 1 ≤ x ∧ x ≤ k := by
  induction k with
  | zero => simp [upL]; omega
  | succ k ih => simp only [upL, List.mem_append, ih, List.mem_singleton]; omega
theorem release_bl {w X : World} {lb cb pb pc : Nat} {W last : Int} {S : List SlotD} {v : Value} {L : List Int} (h : Bl w X lb cb pb pc W S v last L) (pid : Int) :
    Calls Try.prog 21 #[.pointer (some ⟨lb, 0, none⟩), .int .i64 pid] X fun e Y => e = .returned (.bool (relB W pid)) ∧ Bl w Y lb cb pb pc (relW W pid) S v last L :=
  (release_any X _ lb cb W pid S h.l).mono fun _ _ ⟨he, hl, ho⟩ => ⟨he, h.lo hl ho⟩
theorem writer_bl {w X : World} {lb cb pb pc : Nat} {W last : Int} {S : List SlotD} {v : Value} {L : List Int} (h : Bl w X lb cb pb pc W S v last L) :
    Calls Try.prog 22 #[.pointer (some ⟨lb, 0, none⟩)] X fun e Y => e = .returned (.int .i64 W) ∧ Y = X := writer_any X _ lb cb W S h.l
/-- Who asks among four that live. -/
theorem one_take (W pid : Int) (hW : 0 ≤ W ∧ W ≤ 4) (hp : 1 ≤ pid) : takeB W pid ((upL 4).contains W) = decide (W = 0) ∧ takeW W pid ((upL 4).contains W) = if W = 0 then pid else W := by
  by_cases h : W = 0
  · subst h
    have hc : (upL 4).contains 0 = false := rfl
    have h1 : takeB 0 pid ((upL 4).contains 0) = true := by rw [hc, takeB]; simp; omega
    rw [takeW, h1]
    simp
  · have hc : (upL 4).contains W = true := by
      have := (upL_mem 4 W).2 (by omega)
      simpa using this
    have h1 : takeB W pid ((upL 4).contains W) = false := by rw [hc, takeB]; simp [h]
    rw [takeW, h1]
    simp [h]
theorem one_rel (W pid : Int) (hp : 1 ≤ pid) : relB W pid = decide (W = pid) ∧ relW W pid = if W = pid then 0 else W := by
  have h1 : relB W pid = decide (W = pid) := by
    rw [relB]
    by_cases h : W = pid
    · subst h; simp; omega
    · simp [h, Ne.symm h]
  rw [relW, h1]
  refine ⟨rfl, ?_⟩
  by_cases h : W = pid <;> simp [h]

set_option maxRecDepth 100000 in
set_option maxHeartbeats 4000000 in
theorem one_law (l : List Int) (v0 : Value) (w : World) (h0 : BytesAt w v0 l) :
    Calls Try.prog 6 #[v0] w fun e w' => e = .returned (.bool true) ∧ Below w.heap.size w w' := by
  obtain ⟨ao, cap, rfl, hlm, h3⟩ := h0
  unfold maxLen at hlm
  replace h3 := hid h3
  go_enter Try.func6, Try.ntmps6
  go_wp2_with fail
  refine (known_any w).mono ?_
  rintro e w0 ⟨rfl, B0⟩
  replace B0 := hid B0
  by_cases hl : 60 < l.length
  · go_wp2
    go_ret
    exact ⟨rfl, B0.out⟩
  go_wp2_with fail
  refine (lnew_any w0).mono ?_
  rintro e w1 ⟨rfl, L1, B1⟩
  generalize w0.heap.size + 1 = lb at *
  replace L1 := hid L1
  replace B1 := hid B1
  go_wp2_with fail
  refine (pnew_any w1).mono ?_
  rintro e w2 ⟨rfl, P2, B2⟩
  have H2 := hid (bl_new B0.out L1.out B1.out P2 B2)
  clear L1 B1 P2 B2 B0
  generalize w1.heap.size + 1 = pb at *
  generalize w1.heap.size = pc at *
  generalize w0.heap.size = cb at *
  clear w1 w0
  go_wp2
  go_loopg [5] 4 (fun g i wr => ∃ (k : Nat) (v : Value), k + g = 4 ∧ i = .int .i64 (k : Int) ∧ Hid (Bl w wr lb cb pb pc 0 freeS v k (upL k)))
  case atStart => exact ⟨0, _, by omega, rfl, H2⟩
  case round =>
    obtain ⟨k, v, hk, rfl, hf⟩ := hrel
    clear H2
    cases gk with
    | succ g =>
      go_wp2_with fail
      refine (spawn_bl hf.out (by rw [upL_length]; omega) (by omega)).mono ?_
      rw [show upL k ++ [(k : Int) + 1] = upL (k + 1) from rfl]
      rintro e w3 ⟨rfl, v3, H3⟩
      replace H3 := hid H3
      clear hf
      go_wp2
      go_roundg g
      case rel => exact ⟨k + 1, v3, by omega, by go_num, by simpa using H3⟩
      case measure => omega
    | zero =>
      have hke : k = 4 := by omega
      subst hke
      go_wp2
      go_loopg [6, 7] l.length (fun g o i wr => ∃ (k : Nat) (W : Int), k + g = l.length ∧ i = .int .i64 (k : Int) ∧ o = .int .i64 W ∧ Hid (0 ≤ W ∧ W ≤ 4) ∧ Hid (Bl w wr lb cb pb pc W freeS v 4 (upL 4)))
      case atStart => exact ⟨0, 0, by omega, rfl, rfl, hid (by omega), hf⟩
      case round =>
        obtain ⟨k, W, hk, rfl, rfl, hW, hn⟩ := hrel
        clear hf
        cases gk with
        | zero =>
          have hke : k = l.length := by omega
          subst hke
          go_wp2
          go_ret
          exact ⟨rfl, hn.out.bel⟩
        | succ g =>
          have hlk : k < l.length := by omega
          obtain ⟨a, ha, hce, hb0, hb1⟩ := h3.out k hlk
          have hx := index_at (len := l.length) (cap := cap) Try.elemU8s Try.sizeU8s k ha hlk
          obtain ⟨b, hb⟩ : ∃ b : Nat, l[k] = (b : Int) := ⟨l[k].toNat, by omega⟩
          rw [hb] at hce hb0 hb1
          have hc2 := (hn.out.bel.cell (p := a.add k) (World.block_lt_of_cell? w _ hce)).trans hce
          clear ha hb hce
          obtain ⟨m, hm⟩ : ∃ m : Nat, b % 4 = m := ⟨_, rfl⟩
          have hm4 : m < 4 := by omega
          have hmi : (b : Int) % 4 = (m : Int) := by omega
          obtain ⟨q, hq⟩ : ∃ q : Nat, b / 4 % 3 = q := ⟨_, rfl⟩
          have hqi : (b : Int) / 4 % 3 = (q : Int) := by omega
          have hq3 : q = 0 ∨ q = 1 ∨ q = 2 := by omega
          obtain ⟨t1, t2⟩ := one_take W ((m : Int) + 1) hW.out (by omega)
          obtain ⟨r1, r2⟩ := one_rel W ((m : Int) + 1) (by omega)
          replace t1 := hid t1; replace t2 := hid t2; replace r1 := hid r1; replace r2 := hid r2
          clear hm hq
          rcases hq3 with rfl | rfl | rfl
          · by_cases hW0 : W = 0
            · subst hW0
              have HT := take_bl hn.out ((m : Int) + 1) (by omega)
              rw [t1.out, t2.out, show decide ((0 : Int) = 0) = true from rfl, if_pos rfl] at HT
              replace HT := hid HT
              clear t1 t2 r1 r2 hn
              go_wp2_with fail
              refine HT.out.mono ?_
              rintro e w3 ⟨rfl, H3⟩
              replace H3 := hid H3
              clear HT
              go_wp2_with fail
              refine (writer_bl H3.out).mono ?_
              rintro e w4 ⟨rfl, rfl⟩
              go_wp2
              go_roundg g
              case rel => exact ⟨k + 1, (m : Int) + 1, by omega, by go_num, rfl, hid (by omega), H3⟩
              case measure => omega
            · have HT := take_bl hn.out ((m : Int) + 1) (by omega)
              rw [t1.out, t2.out, show decide (W = 0) = false by simpa using hW0, if_neg hW0] at HT
              replace HT := hid HT
              clear t1 t2 r1 r2 hn
              go_wp2_with fail
              refine HT.out.mono ?_
              rintro e w3 ⟨rfl, H3⟩
              replace H3 := hid H3
              clear HT
              go_wp2_with fail
              refine (writer_bl H3.out).mono ?_
              rintro e w4 ⟨rfl, rfl⟩
              go_wp2
              go_roundg g
              case rel => exact ⟨k + 1, W, by omega, by go_num, rfl, hW, H3⟩
              case measure => omega
          · by_cases hW0 : W = 0
            · subst hW0
              have HT := take_bl hn.out ((m : Int) + 1) (by omega)
              rw [t1.out, t2.out, show decide ((0 : Int) = 0) = true from rfl, if_pos rfl] at HT
              replace HT := hid HT
              clear t1 t2 r1 r2 hn
              go_wp2_with fail
              refine HT.out.mono ?_
              rintro e w3 ⟨rfl, H3⟩
              replace H3 := hid H3
              clear HT
              go_wp2_with fail
              refine (writer_bl H3.out).mono ?_
              rintro e w4 ⟨rfl, rfl⟩
              go_wp2
              go_roundg g
              case rel => exact ⟨k + 1, (m : Int) + 1, by omega, by go_num, rfl, hid (by omega), H3⟩
              case measure => omega
            · have HT := take_bl hn.out ((m : Int) + 1) (by omega)
              rw [t1.out, t2.out, show decide (W = 0) = false by simpa using hW0, if_neg hW0] at HT
              replace HT := hid HT
              clear t1 t2 r1 r2 hn
              go_wp2_with fail
              refine HT.out.mono ?_
              rintro e w3 ⟨rfl, H3⟩
              replace H3 := hid H3
              clear HT
              go_wp2_with fail
              refine (writer_bl H3.out).mono ?_
              rintro e w4 ⟨rfl, rfl⟩
              go_wp2
              go_roundg g
              case rel => exact ⟨k + 1, W, by omega, by go_num, rfl, hW, H3⟩
              case measure => omega
          · by_cases hWp : W = (m : Int) + 1
            · have HT := release_bl hn.out ((m : Int) + 1)
              rw [r1.out, r2.out, show decide (W = (m : Int) + 1) = true by simpa using hWp, if_pos hWp] at HT
              replace HT := hid HT
              clear t1 t2 r1 r2 hn
              subst hWp
              go_wp2_with fail
              refine HT.out.mono ?_
              rintro e w3 ⟨rfl, H3⟩
              replace H3 := hid H3
              clear HT
              go_wp2_with fail
              refine (writer_bl H3.out).mono ?_
              rintro e w4 ⟨rfl, rfl⟩
              go_wp2
              go_roundg g
              case rel => exact ⟨k + 1, 0, by omega, by go_num, rfl, hid (by omega), H3⟩
              case measure => omega
            · have HT := release_bl hn.out ((m : Int) + 1)
              rw [r1.out, r2.out, show decide (W = (m : Int) + 1) = false by simpa using hWp, if_neg hWp] at HT
              replace HT := hid HT
              clear t1 t2 r1 r2 hn
              go_wp2_with fail
              refine HT.out.mono ?_
              rintro e w3 ⟨rfl, H3⟩
              replace H3 := hid H3
              clear HT
              go_wp2_with fail
              refine (writer_bl H3.out).mono ?_
              rintro e w4 ⟨rfl, rfl⟩
              go_wp2
              go_roundg g
              case rel => exact ⟨k + 1, W, by omega, by go_num, rfl, hW, H3⟩
              case measure => omega
end Go.Proofs.Ytnfnaefjginnmaa

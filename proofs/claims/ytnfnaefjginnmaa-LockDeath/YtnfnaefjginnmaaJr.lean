/- LockDeath, walked. -/
import Derived.Test.YtnfnaefjginnmaaJp
namespace Go.Proofs.Ytnfnaefjginnmaa
open Go.RowKit Go.Conc Go.Sort

theorem and_small : ∀ x : Nat, x < 256 → bits .and .u8 (x : Int) 1 = ((x % 2 : Nat) : Int) := by decide +kernel
theorem die_bit (d r j : Nat) (hd : d < 256) (hr : (j + 1) % 8 = r) : (bits .and .u8 ((d : Int) / 2 ^ r) 1 == 1) = dieB d (j + 1) := by
  have h1 : ((d : Int) / 2 ^ r) = ((d / 2 ^ r : Nat) : Int) := by simp
  have h2 : d / 2 ^ r < 256 := Nat.lt_of_le_of_lt (Nat.div_le_self _ _) hd
  rw [h1, and_small _ h2, dieB, hr]
  have h3 : d / 2 ^ r % 2 = 0 ∨ d / 2 ^ r % 2 = 1 := by omega
  rcases h3 with h3 | h3 <;> simp [h3]
set_option maxRecDepth 100000 in
set_option maxHeartbeats 4000000 in
theorem death_law (a0 a1 a2 : Int) (w : World) (h0 : 0 ≤ a0) (h0' : a0 ≤ 255) (h1 : 0 ≤ a1) (h1' : a1 ≤ 255) (h2 : 0 ≤ a2) (h2' : a2 ≤ 255) :
    Calls Try.prog 3 #[.int .u8 a0, .int .u8 a1, .int .u8 a2] w fun e w' => e = .returned (.bool true) ∧ Below w.heap.size w w' := by
  obtain ⟨a, rfl⟩ : ∃ a : Nat, a0 = (a : Int) := ⟨a0.toNat, by omega⟩
  obtain ⟨d, rfl⟩ : ∃ d : Nat, a1 = (d : Int) := ⟨a1.toNat, by omega⟩
  obtain ⟨c, rfl⟩ : ∃ c : Nat, a2 = (c : Int) := ⟨a2.toNat, by omega⟩
  have hnn := neqN
  obtain ⟨q, hq⟩ : ∃ q : Nat, c % 8 = q := ⟨_, rfl⟩
  have hq8 : q < 8 := by omega
  have hqi : (c : Int) % 8 = (q : Int) := by omega
  clear hq
  go_enter Try.func3, Try.ntmps3
  go_wp2_with fail
  refine (known_any w).mono ?_
  rintro e w0 ⟨rfl, B0⟩
  replace B0 := hid B0
  go_wp2_with fail
  refine (lnew_any w0).mono ?_
  rintro e w1 ⟨rfl, L1, B1⟩
  generalize w0.heap.size + 1 = lb at *
  replace L1 := hid L1
  replace B1 := hid B1
  go_wp2_with fail
  refine (pnew_any w1).mono ?_
  rintro e w2 ⟨rfl, P2, B2⟩
  have H2 := hid (bl_new B0.out L1.out B1.out P2 B2)
  clear L1 B1 P2 B2 B0
  generalize w1.heap.size + 1 = pb at *
  generalize w1.heap.size = pc at *
  generalize w0.heap.size = cb at *
  clear w1 w0
  go_wp2
  clear hqi
  go_loopg [10] (q + 2) (fun g i wr => ∃ (k : Nat) (v : Value), k + g = q + 2 ∧ i = .int .i64 ((k : Int) + 1) ∧ Hid (Bl w wr lb cb pb pc 0 (pubS vers (min k (q + 1))) v k (upL k)))
  case atStart => exact ⟨0, _, by omega, rfl, H2⟩
  case round =>
    obtain ⟨k, v, hk, rfl, hf⟩ := hrel
    clear H2
    cases gk with
    | succ g =>
      by_cases hkq : k < q + 1
      · rw [show min k (q + 1) = k by omega] at hf
        have hk8 : k < 8 := by omega
        obtain ⟨e1, e2⟩ := pub_claim vers k hk8
        obtain ⟨e3, e4⟩ := pub_held vers k hk8 (10 + ((k : Int) + 1)) (vers_at k hk8)
        replace e1 := hid e1; replace e2 := hid e2; replace e3 := hid e3; replace e4 := hid e4
        have hwk : IntKind.u64.wrap (10 + ((k : Int) + 1)) = 10 + ((k : Int) + 1) := by rw [IntKind.wrap_u64]; omega
        go_wp2_with fail
        refine (spawn_bl hf.out (by rw [upL_length]; omega) (by omega)).mono ?_
        rw [show upL k ++ [(k : Int) + 1] = upL (k + 1) from rfl]
        rintro e w3 ⟨rfl, v3, H3⟩
        replace H3 := hid H3
        clear hf
        go_wp2_with fail
        refine (claim_bl H3.out ((k : Int) + 1) (by omega)).mono ?_
        rw [e1.out, e2.out]
        rintro e w4 ⟨rfl, H4⟩
        replace H4 := hid H4
        clear H3 e1 e2
        go_wp2_with fail
        refine (publish_bl H4.out (k : Int) ((k : Int) + 1) (10 + ((k : Int) + 1)) (by omega) (by omega)).mono ?_
        rw [e4.out, show errE (heldB ((pubS vers k).set k ((k : Int) + 1, 0)) (k : Int) ((k : Int) + 1)) = .returned .nilIface by rw [e3.out]; rfl]
        rintro e w5 ⟨rfl, H5⟩
        replace H5 := hid H5
        clear H4 e3 e4
        go_wp2
        go_roundg g
        case rel => exact ⟨k + 1, v3, by omega, by go_num, by rw [show min (k + 1) (q + 1) = k + 1 by omega]; simpa using H5⟩
        case measure => omega
      · have hke : k = q + 1 := by omega
        subst hke
        rw [Nat.min_self] at hf
        go_wp2_with fail
        refine (spawn_bl hf.out (by rw [upL_length]; omega) (by omega)).mono ?_
        rw [show upL (q + 1) ++ [((q + 1 : Nat) : Int) + 1] = upL (q + 1 + 1) from rfl]
        rintro e w3 ⟨rfl, v3, H3⟩
        replace H3 := hid H3
        clear hf
        go_wp2
        go_roundg g
        case rel => exact ⟨q + 1 + 1, v3, by omega, by go_num, by rw [show min (q + 1 + 1) (q + 1) = q + 1 by omega]; simpa using H3⟩
        case measure => omega
    | zero =>
      have hke : k = q + 2 := by omega
      subst hke
      rw [show min (q + 2) (q + 1) = q + 1 by omega] at hf
      obtain ⟨m, hm⟩ : ∃ m : Nat, a % (q + 1) = m := ⟨_, rfl⟩
      have hmK : m < q + 1 := by rw [← hm]; exact Nat.mod_lt _ (by omega)
      have hmi : (a : Int) % ((q : Int) + 1) = (m : Int) := by rw [← hm]; simp
      have hmt : (a : Int).tmod ((q : Int) + 1) = (m : Int) := by rw [Int.tmod_eq_emod_of_nonneg (by omega)]; exact hmi
      clear hm
      have HT := take_bl hf.out ((m : Int) + 1) (by omega)
      have hc0 : (upL (q + 2)).contains 0 = false := by
        have : ¬ (0 : Int) ∈ upL (q + 2) := by rw [upL_mem]; omega
        simpa using this
      have ht1 : takeB 0 ((m : Int) + 1) false = true := by unfold takeB; simp; omega
      rw [hc0, takeW, ht1, if_pos rfl] at HT
      replace HT := hid HT
      clear hf hc0 ht1
      go_wp2_with fail
      refine HT.out.mono ?_
      rintro e w3 ⟨rfl, H3⟩
      replace H3 := hid H3
      clear HT hmi hmt
      go_wp2
      go_loopg [14, 15] (q + 1) (fun g o i wr => ∃ (j : Nat) (v : Value) (L : List Int), j + g = q + 1 ∧ i = .int .i64 ((j : Int) + 1) ∧ o = .int .i64 (goneN d j : Nat) ∧ Hid (LiveTo d (q + 1) j L) ∧ Hid (Bl w wr lb cb pb pc ((m : Int) + 1) (pubS vers (q + 1)) v (((q + 2 : Nat)) : Int) L))
      case atStart => exact ⟨0, _, _, by omega, rfl, rfl, hid (liveTo_zero d (q + 1)), H3⟩
      case round =>
        obtain ⟨j, v, L, hj, rfl, rfl, hL, hn⟩ := hrel
        clear H3
        cases gk with
        | succ g =>
          obtain ⟨r, hr⟩ : ∃ r : Nat, (j + 1) % 8 = r := ⟨_, rfl⟩
          have hr8 : r < 8 := by omega
          have hri : ((j : Int) + 1) % 8 = (r : Int) := by omega
          have hbit := die_bit d r j (by omega) hr
          have hgs : Hid (goneN d (j + 1) = goneN d j + if dieB d (j + 1) then 1 else 0) := hid rfl
          have hgl := goneN_le d j
          have hwo : IntKind.i64.wrap ((goneN d j : Int) + 1) = (goneN d j : Int) + 1 := by rw [IntKind.wrap_i64]; omega
          generalize goneN d j = o at *
          clear hr
          have hmem := hid (hL.out.mem (j := j) (by omega))
          cases hd : dieB d (j + 1) with
          | true =>
            have hL2 := hid (hL.out.kill (by omega) hd)
            rw [hd] at hbit hgs
            replace hd := hid hd
            go_wp2_with fail
            refine (kill_bl hn.out ((j : Int) + 1) hmem.out).mono ?_
            rintro e w4 ⟨rfl, v4, H4⟩
            replace H4 := hid H4
            clear hn hL hmem
            go_wp2
            go_roundg g
            case rel => exact ⟨j + 1, _, _, by omega, by go_num, by rw [hgs.out]; simp, hL2, H4⟩
            case measure => omega
          | false =>
            have hL2 := hid (hL.out.keep hd)
            rw [hd] at hbit hgs
            replace hd := hid hd
            go_wp2
            go_roundg g
            case rel => exact ⟨j + 1, _, _, by omega, by go_num, by rw [hgs.out]; simp, hL2, hn⟩
            case measure => omega
        | zero =>
          have hje : j = q + 1 := by omega
          subst hje
          have hmL := hid (hL.out.has (m + 1) (by omega) (by omega))
          have hsN := hid (sweepN_pub hL.out (by omega))
          have hsw := hid (fun i hi => swept_pub hL.out (by omega) i hi)
          have hgl := hid (goneN_le d (q + 1))
          have hhas := hid (fun i h0 h1 => hL.out.has i h0 h1)
          rw [show (((m + 1 : Nat)) : Int) = (m : Int) + 1 by omega] at hmL
          have HT := take_bl hn.out ((q : Int) + 1 + 1) (by omega)
          rw [hmL.out] at HT
          have htb : takeB ((m : Int) + 1) ((q : Int) + 1 + 1) (!dieB d (m + 1)) = dieB d (m + 1) := by
            unfold takeB
            have e1 : (0 : Int) < (q : Int) + 1 + 1 := by omega
            have e2 : ¬ ((q : Int) + 1 + 1 = (m : Int) + 1) := by omega
            have e3 : ¬ ((m : Int) + 1 = 0) := by omega
            simp [e1, e2, e3]
          rw [htb] at HT
          replace HT := hid HT
          clear hn hL htb
          generalize dieB d (m + 1) = dm at *
          generalize goneN d (q + 1) = gone at *
          go_wp2_with fail
          refine HT.out.mono ?_
          rintro e w4 ⟨rfl, H4⟩
          replace H4 := hid H4
          clear HT
          go_wp2_with fail
          refine (sweep_bl H4.out).mono ?_
          rw [hsN.out]
          rintro e w5 ⟨rfl, H5⟩
          replace H5 := hid H5
          clear H4 hsN
          go_wp2_with fail
          refine (slots_bl H5.out).mono ?_
          rintro e w6 ⟨u, rfl, OS, H6⟩
          obtain ⟨ug, uc, rfl, hug⟩ := OS.slice
          replace H6 := hid H6; replace OS := hid OS
          clear H5 hug
          generalize hS : sweepS L (pubS vers (q + 1)) = S at *
          generalize takeW ((m : Int) + 1) ((q : Int) + 1 + 1) (!dm) = W at *
          go_wp2
          go_loopg [19] (q + 1) (fun g i wr => ∃ (j : Nat), j + g = q + 1 ∧ i = .int .i64 ((j : Int) + 1) ∧ Hid (OwnSlots wr w.heap.size (.slice (some ⟨ug, 0, none⟩) 8 uc) S) ∧ Hid (Bl w wr lb cb pb pc W S v (((q + 2 : Nat)) : Int) L))
          case atStart => exact ⟨0, by omega, rfl, OS, H6⟩
          case round =>
            obtain ⟨j, hj, rfl, hO, hn⟩ := hrel
            clear OS H6
            cases gk with
            | succ g =>
              have hp := hO.out.pid j (by omega)
              have ht := hO.out.txn j (by omega)
              obtain ⟨s1, s2⟩ := hsw.out j (by omega)
              rw [s1] at hp
              rw [s2] at ht
              have hl := hhas.out (j + 1) (by omega) (by omega)
              rw [show (((j + 1 : Nat)) : Int) = (j : Int) + 1 by omega] at hl
              clear s1 s2
              generalize dieB d (j + 1) = b at *
              have HVr : Hid (∀ d os, Calls Try.prog 17 #[.pointer (some ⟨pb, 0, none⟩), .int .i64 ((j : Int) + 1)] (grow (redrawn wr d) os) fun e w'' => e = .returned (.bool (!b)) ∧ ∃ p : Regrown, w'' = grow (redrawn wr p.d) p.os) := hid (fun d os => Calls.regrown_of (by
                have h1 := hn.out.p.below (below_regrown wr d os)
                have h2 := lives_any _ _ pb pc _ v _ ((j : Int) + 1) L h1
                rw [hl] at h2
                exact h2))
              have hbu : Hid (ug < wr.heap.size) := hid (World.block_lt_of_cell? wr _ hp)
              have hcp : ∀ d os, (grow (redrawn wr d) os).cell? ⟨ug, j * 2, none⟩ = wr.cell? ⟨ug, j * 2, none⟩ := fun d os => (below_regrown wr d os).cell hbu.out
              have hct : ∀ d os, (grow (redrawn wr d) os).cell? ⟨ug, j * 2 + 1, none⟩ = wr.cell? ⟨ug, j * 2 + 1, none⟩ := fun d os => (below_regrown wr d os).cell hbu.out
              have hj8 : j < 8 := by omega
              clear hl
              cases b with
              | true =>
                rw [if_pos rfl] at hp ht
                simp only [hp, ht] at hcp hct
                have hnz : ((0 : Int) == (j : Int) + 1) = false := by simp; omega
                have hnz2 : decide ((0 : Int) = (j : Int) + 1) = false := by simp; omega
                go_wp2_with fail
                refine wp_region_quiet_below (by kernel_rfl) (by kernel_rfl) ?_
                repeat (go_big_quiet_step (exact HVr.out _ _))
                refine wpQuiet_nil ?_
                intro _ hw'
                obtain ⟨⟨dq, osq⟩, hw''⟩ := hw'
                subst hw''
                have hO2 := hid (hO.out.below (below_regrown wr dq osq))
                have hn2 := hid (hn.out.below (below_regrown wr dq osq))
                clear hcp hct HVr hO hn hp ht
                go_wp2
                go_roundg g
                case rel => exact ⟨j + 1, by omega, by go_num, hO2, hn2⟩
                case measure => omega
              | false =>
                rw [if_neg (by simp)] at hp ht
                simp only [hp, ht] at hcp hct
                have hnz : ((j : Int) + 1 == 0) = false := by simp; omega
                have hnz2 : decide ((j : Int) + 1 = 0) = false := by simp; omega
                go_wp2_with fail
                refine wp_region_quiet_below (by kernel_rfl) (by kernel_rfl) ?_
                repeat (go_big_quiet_step (exact HVr.out _ _))
                refine wpQuiet_nil ?_
                intro _ hw'
                obtain ⟨⟨dq, osq⟩, hw''⟩ := hw'
                subst hw''
                have hO2 := hid (hO.out.below (below_regrown wr dq osq))
                have hn2 := hid (hn.out.below (below_regrown wr dq osq))
                clear hcp hct HVr hO hn hp ht
                go_wp2
                go_roundg g
                case rel => exact ⟨j + 1, by omega, by go_num, hO2, hn2⟩
                case measure => omega
            | zero =>
              have hje : j = q + 1 := by omega
              subst hje
              have HV := lives_bl hn.out ((m : Int) + 1)
              rw [hmL.out] at HV
              replace HV := hid HV
              go_wp2_with fail
              refine HV.out.mono ?_
              rintro e w7 ⟨rfl, H7⟩
              replace H7 := hid H7
              go_wp2
              go_ret
              exact ⟨by simp, H7.out.bel⟩
end Go.Proofs.Ytnfnaefjginnmaa

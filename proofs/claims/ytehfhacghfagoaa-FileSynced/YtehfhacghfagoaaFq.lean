/- FileSynced, walked. -/
import Derived.Test.YtehfhacghfagoaaFm
namespace Go.Proofs.Ytehfhacghfagoaa
open Go.RowKit

theorem FileAt.drewN {w : World} {B fb : Nat} {v : Value} {l : List Sh} (h : FileAt w B fb v l) (n : Nat) : FileAt (w.drewN n) B fb v l := h.kept rfl (fun _ _ => rfl)
theorem add_p (s : ByteArray) (h : s.size ≤ 140737488355328) (w : World) : (Op.stringOp .add ⟨#[112]⟩ s).run Try.prog w = .ok (.string (pB s)) w := by
  have h1 : (⟨#[112]⟩ : ByteArray).size = 1 := rfl
  exact run_string_add_sum (P := Try.prog) (w := w) ⟨#[112]⟩ s (by omega)
def wrote (ss : List ByteArray) : List Sh := ss.map fun s => ⟨pB s, ⟨#[]⟩, true⟩
theorem wrote_next (ss : List ByteArray) (k : Nat) (h : k < ss.length) : writeL (wrote (ss.take k)) k (pB ss[k]) = wrote (ss.take (k + 1)) := by
  have hl : (wrote (ss.take k)).length = k := by simp [wrote]; omega
  have := write_next (wrote (ss.take k)) (pB ss[k])
  rw [hl] at this
  rw [this, List.take_succ_eq_append_getElem h]
  unfold wrote
  rw [List.map_append]
  rfl
theorem wrote_sync (ss : List ByteArray) : syncL (wrote ss) = newL (ss.map pB) := by
  simp [syncL, wrote, newL, syS, Function.comp_def]
/-- Where the steps are written: what is known at each step. -/
structure InvS (w : World) (fb : Nat) (L : List Sh) (x : World) : Prop where
  file : ∃ v m, FileAt x fb fb v m ∧ Back L m
  below : Below w.heap.size w x
/-- A world of which so much is known. -/
structure InW (Inv : World → Prop) where
  w : World
  ok : Inv w
theorem InvS.drew {w x : World} {fb : Nat} {L : List Sh} (h : InvS w fb L x) : InvS w fb L x.drew := by
  obtain ⟨⟨v, m, hf, hb⟩, hB⟩ := h
  exact ⟨⟨v, m, hf.drew, hb⟩, ⟨hB.os, hB.tape, hB.output, hB.size, hB.block⟩⟩
theorem InvS.write {w x : World} {fb : Nat} {L : List Sh} (h : InvS w fb L x) (hle : w.heap.size ≤ fb) (i : Int) (s : ByteArray) :
    Calls Try.prog 11 #[.pointer (some ⟨fb, 0, none⟩), .int .i64 i, .string s] x fun e x' => e = .returned (errW i) ∧ ∃ p : InW (InvS w fb L), x' = p.w := by
  obtain ⟨⟨v, m, hf, hb⟩, hB⟩ := h
  refine (write_int x fb fb v m i s hf).mono ?_
  rintro e x' ⟨rfl, v', F', O'⟩
  exact ⟨rfl, ⟨x', ⟨⟨v', _, F', back_writeA hb i s⟩, hB.trans ((O'.below hf).mono hle)⟩⟩, rfl⟩

/-- A region that draws its order, each of whose operations keeps what is known: walked once. -/
theorem wp_region_quiet_in {P : Program} {id : Nat} {Q : Exit → Act → World → Prop} {a : Act} {w : World} {l : List Oper} (Inv : World → Prop) (hm : P.follows .mixedOrders = true) (hB : Region.lexB .any l.toArray = true) (hC : Inv w.drew)
    (h : wpQuiet P l.toArray (fun w' => ∃ p : InW Inv, w' = p.w) (fun a' => ∀ w', (∃ p : InW Inv, w' = p.w) → Q .normal a' w') l a) : (Code.region id l.toArray true).wp P Q a w :=
  wp_region_quiet (C := fun w' => ∃ p : InW Inv, w' = p.w) hm hB ⟨⟨w.drew, hC⟩, rfl⟩ (by simpa using h)

set_option maxRecDepth 100000 in
set_option maxHeartbeats 8000000 in
theorem synced_law (ss : List ByteArray) (ls : List StepD) (v u : Value) (w : World) (hv : StrsAt w v ss) (hu : StepsAt w u ls) (hsz : ∀ i (h : i < ss.length), ss[i].size ≤ 140737488355328) :
    Calls Try.prog 5 #[v, u] w fun e w' => e = .returned (.bool true) ∧ Below w.heap.size w w' := by
  obtain ⟨uo, uc, rfl, hum, hu3⟩ := hu
  obtain ⟨vo, vc, rfl, ⟨hvm, hvc⟩, hv3⟩ := hv
  unfold maxLen at hum hvm
  replace hu3 := hid hu3
  replace hv3 := hid hv3
  replace hsz := hid hsz
  by_cases hbig : 30 < ls.length ∨ 20 < ss.length
  · rcases Nat.lt_or_ge 20 ss.length with h20 | h20
    · clear hbig
      go_enter Try.func5, Try.ntmps5
      go_wp2_with fail
      refine (known_any w).mono ?_
      rintro e w1 ⟨rfl, B1⟩
      replace B1 := hid B1
      go_wp2
      go_ret
      exact ⟨rfl, B1.out⟩
    · have h30 : 30 < ls.length := by omega
      clear hbig
      go_enter Try.func5, Try.ntmps5
      go_wp2_with fail
      refine (known_any w).mono ?_
      rintro e w1 ⟨rfl, B1⟩
      replace B1 := hid B1
      go_wp2
      go_ret
      exact ⟨rfl, B1.out⟩
  have h30 : ls.length ≤ 30 := by omega
  have h20 : ss.length ≤ 20 := by omega
  clear hbig
  go_enter Try.func5, Try.ntmps5
  go_wp2_with fail
  refine (known_any w).mono ?_
  rintro e w1 ⟨rfl, B1⟩
  have hle := B1.size
  replace B1 := hid B1
  go_wp2_with fail
  refine (new_any [] _ w1 (strs_nil w1) (by simp)).mono ?_
  rintro e w2 ⟨rfl, fv, F2, B2⟩
  have HB2 := hid (bel B1.out B2 hle)
  generalize w1.heap.size = fb at *
  replace F2 := hid F2
  clear B2 B1
  go_wp2
  go_loopg [6] ss.length (fun g i wr => ∃ (k : Nat) (v : Value), k + g = ss.length ∧ i = .int .i64 k ∧ Hid (FileAt wr fb fb v (wrote (ss.take k))) ∧ Hid (Below w.heap.size w wr))
  case atStart => exact ⟨0, fv, by omega, rfl, F2, HB2⟩
  case round =>
    obtain ⟨k, v, hk, rfl, hf, hb⟩ := hrel
    clear F2 HB2
    cases gk with
    | succ g =>
      have hkm : k < ss.length := by omega
      obtain ⟨a, ha, hcell, _⟩ := hv3.out k hkm
      have hx := index_at (len := ss.length) (cap := vc) Try.elemStrs Try.sizeStrs k ha hkm
      have hcs : wr.cell? (a.add k) = some (.string ss[k]) := (hb.out.cell (p := a.add k) (World.block_lt_of_cell? w _ hcell)).trans hcell
      have hadd := add_p ss[k] (hsz.out k hkm)
      have HN := hid (wrote_next ss k hkm)
      generalize ss[k] = s at *
      clear hcell ha
      go_wp2_with fail
      refine (write_any _ fb fb _ _ k (pB s) hf.out (by omega)).mono ?_
      rw [HN.out]
      rintro e w3 ⟨rfl, v3, F3, O3⟩
      have HB3 := hid (hb.out.trans ((O3.below hf.out).mono hle))
      replace F3 := hid F3
      clear O3 hf hb
      go_wp2
      go_roundg g
      case rel => exact ⟨k + 1, v3, by omega, by go_num, F3, HB3⟩
      case measure => omega
    | zero =>
      have hke : k = ss.length := by omega
      subst hke
      rw [List.take_length] at hf
      go_wp2_with fail
      refine (sync_any _ fb fb _ _ hf.out).mono ?_
      rw [wrote_sync]
      rintro e w3 ⟨rfl, F3, O3⟩
      have HB3 := hid (hb.out.trans ((O3.below hf.out).mono hle))
      have HI : Hid (InvS w fb (newL (ss.map pB)) w3) := ⟨⟨v, _, F3, back_refl _ (by simp; omega)⟩, HB3.out⟩
      clear O3 hf hb F3 HB3
      go_wp2
      go_loopg [7] ls.length (fun g i wr => ∃ (k : Nat), k + g = ls.length ∧ i = .int .i64 k ∧ Hid (InvS w fb (newL (ss.map pB)) wr))
      case atStart => exact ⟨0, by omega, rfl, HI⟩
      case round =>
        obtain ⟨k, hk, rfl, hI⟩ := hrel
        clear HI
        cases gk with
        | succ g =>
          have hlk : k < ls.length := by omega
          obtain ⟨b, o, xu, ha, hbl, hr, hkp, _⟩ := hu3.out k hlk
          have hx := atSteps (len := ls.length) (cap := uc) (b := b) (o := o) k ha hlk
          have hrr := hid (fun (p : InW (InvS w fb (newL (ss.map pB)))) => range4 (range_below hr p.ok.below hbl))
          obtain ⟨c0, c1, c2, c3⟩ := range4 (range_below hr hI.out.below hbl)
          generalize ls[k] = x at *
          obtain ⟨xw, xp, xs, xk⟩ := x
          clear hr ha hkp
          simp only [] at *
          by_cases hq2 : 60 < xp ∧ xp < 1000000
          · obtain ⟨hq2, hq3⟩ := hq2
            go_wp2
            go_ret
            exact ⟨rfl, hI.out.below⟩
          have hq3 : xp ≤ 60 ∨ 1000000 ≤ xp := by omega
          clear hq2
          have d1 := fun p => (hrr.out p).2.1
          have d2 := fun p => (hrr.out p).2.2.1
          have HW := hid (fun (p : InW (InvS w fb (newL (ss.map pB)))) => p.ok.write hle xp xs)
          haveI : Inhabited (InW (InvS w fb (newL (ss.map pB)))) := ⟨⟨wr.drew, hI.out.drew⟩⟩
          rcases hq3 with hq2 | hq2
          all_goals
            go_wp2_with fail
            refine wp_region_quiet_in (InvS w fb (newL (ss.map pB))) (by kernel_rfl) (by kernel_rfl) hI.out.drew ?_
            repeat (go_big_quiet_step (exact HW.out _))
            refine wpQuiet_nil ?_
            intro _ hw'
            obtain ⟨⟨wq, hq⟩, hw''⟩ := hw'
            subst hw''
            replace hq := hid hq
            clear d1 d2 hrr HW hI
            go_wp2
            go_roundg g
            case rel => exact ⟨k + 1, by omega, by go_num, hq⟩
            case measure => omega
        | zero =>
          have hke : k = ls.length := by omega
          subst hke
          obtain ⟨⟨v5, m5, F5, K5⟩, B5⟩ := hI.out
          have hpow := back_power K5 (fun i hi => by simp only [newL, List.getElem_map]; exact pB_ne _)
          have hmap : (newL (ss.map pB)).map (fun x => (⟨x.now, x.now, false⟩ : Sh)) = newL (ss.map pB) := by simp [newL]
          rw [hmap] at hpow
          replace hpow := hid hpow
          replace F5 := hid F5
          replace B5 := hid B5
          clear hI K5 hmap
          go_wp2_with fail
          refine (power_any _ fb fb _ _ _ [] F5.out (bools_nil _)).mono ?_
          rw [hpow.out]
          rintro e w6 ⟨rfl, v6, F6, O6⟩
          have HB6 := hid (B5.out.trans ((O6.below F5.out).mono hle))
          replace F6 := hid F6
          clear O6 F5 B5 hpow hu3
          go_wp2
          go_loopg [8] ss.length (fun g i wq => ∃ (k : Nat), k + g = ss.length ∧ i = .int .i64 k ∧ Hid (FileAt wq fb fb v6 (newL (ss.map pB))) ∧ Hid (Below w.heap.size w wq))
          case atStart => exact ⟨0, by omega, rfl, F6, HB6⟩
          case round =>
            obtain ⟨k, hk, rfl, hf, hb⟩ := hrel
            clear F6 HB6
            cases gk with
            | succ g =>
              have hkm : k < ss.length := by omega
              obtain ⟨a, ha, hcell, _⟩ := hv3.out k hkm
              have hx := index_at (len := ss.length) (cap := vc) Try.elemStrs Try.sizeStrs k ha hkm
              have hcs : wr.cell? (a.add k) = some (.string ss[k]) := (hb.out.cell (p := a.add k) (World.block_lt_of_cell? w _ hcell)).trans hcell
              have hadd := add_p ss[k] (hsz.out k hkm)
              have hR := hid (fun n => read_any (wr.drewN n) fb fb _ _ (k : Int) (hf.out.drewN n))
              rw [newL_read (ss.map pB) k (by simpa using hkm), List.getElem_map] at hR
              generalize ss[k] = s at *
              clear hcell ha
              go_wp2_with fail
              go_quiet ((go_at_call 20; refine Calls.quiet_of_same (hR.out _)))
              go_wp2
              go_roundg g
              case rel => exact ⟨k + 1, by omega, by go_num, hf.out.drewN nq, hb.out.trans ((below_draws wr nq).mono hb.out.size)⟩
              case measure => omega
            | zero =>
              have hke : k = ss.length := by omega
              subst hke
              go_wp2_with fail
              refine (len_any _ fb fb _ _ hf.out).mono ?_
              rw [newL_length, List.length_map]
              rintro e w7 ⟨rfl, rfl⟩
              go_wp2_with fail
              refine (loose_any _ fb fb _ _ hf.out).mono ?_
              rw [newL_loose]
              rintro e w8 ⟨lv, rfl, OL, B8⟩
              obtain ⟨lo, lc, rfl⟩ := OL.slice
              have HB8 := hid (bel hb.out B8 hb.out.size)
              clear OL B8 hb hf
              go_wp2
              go_ret
              exact ⟨rfl, HB8.out⟩
end Go.Proofs.Ytehfhacghfagoaa

/- FileKept: of what wasn't synced just those pages stay that are kept. -/
import Derived.Test.YtehfhacghfagoaaFj
namespace Go.Proofs.Ytehfhacghfagoaa
open Go.RowKit

def oldB : ByteArray := ⟨#[111, 108, 100]⟩
def newB : ByteArray := ⟨#[110, 101, 119]⟩
def newerB : ByteArray := ⟨#[110, 101, 119, 101, 114]⟩
def nwB (again : Bool) : ByteArray := if again then newerB else newB
/-- Page i written while those ahead of it are there. -/
theorem write_next (l : List Sh) (s : ByteArray) : writeL l l.length s = l ++ [⟨s, ⟨#[]⟩, true⟩] := by
  have e : padTo l (l.length + 1) = l ++ [emptySh] := by simp [padTo]
  unfold writeL
  rw [e]
  simp [emptySh]
theorem write_old (l m : List Sh) (x : Sh) (s : ByteArray) (i : Nat) (h : l.length = i) : writeL (l ++ x :: m) i s = l ++ ⟨s, x.syn, true⟩ :: m := by
  subst h
  unfold writeL
  rw [padTo_le _ _ (by simp)]
  simp
theorem olds_next (k : Nat) (x : Sh) (s : ByteArray) (h : x = ⟨s, ⟨#[]⟩, true⟩) : writeL (List.replicate k x) k s = List.replicate (k + 1) x := by
  subst h
  have := write_next (List.replicate k ⟨s, ⟨#[]⟩, true⟩) s
  rw [List.length_replicate] at this
  rw [this, List.replicate_succ']
/-- A row of truths of the call's own. -/
def OwnBools (w : World) (base : Nat) (v : Value) (l : List Bool) : Prop := w.ownsRow base 4 1 v l.length (l.map Value.bool)
theorem OwnBools.slice {w : World} {base : Nat} {v : Value} {l : List Bool} (h : OwnBools w base v l) : ∃ ao cap, v = .slice ao l.length cap := by
  rcases h.2 with ⟨rfl, h0⟩ | ⟨g, cap, cur, rfl, _⟩
  · exact ⟨none, 0, by rw [h0]⟩
  · exact ⟨_, _, rfl⟩
theorem OwnBools.block {w w' : World} {base : Nat} {u : Value} {l : List Bool} (h : OwnBools w base u l) (hk : ∀ (b : Nat) (cs : Array Value) (fr : Nat × Nat), w.heap[b]? = some (Obj.cells cs 4 fr) → w'.heap[b]? = w.heap[b]?) : OwnBools w' base u l := by
  refine ⟨h.1, ?_⟩
  rcases h.2 with hn | ⟨g, cap, cur, rfl, hb, hgg, rest⟩
  · exact .inl hn
  · exact .inr ⟨g, cap, cur, rfl, hb, (hk g _ _ hgg).trans hgg, rest⟩
theorem OwnBools.fo {w w' : World} {base B fb : Nat} {u v v' : Value} {l : List Bool} {m : List Sh} (h : OwnBools w base u l) (hf : FileAt w B fb v m) (ho : Fo fb w v w' v') : OwnBools w' base u l :=
  h.block fun _ _ _ hb => ho.keeps hf hb (by decide) (by decide)
theorem OwnBools.at {w : World} {base : Nat} {v : Value} {l : List Bool} (h : OwnBools w base v l) (hl : l.length ≤ maxLen) : BoolsAt w v l := by
  rcases h.2 with ⟨rfl, h0⟩ | ⟨g, cap, cur, rfl, hb, hg, hn, hm, _⟩
  · rw [List.length_eq_zero_iff.1 h0]
    exact bools_nil w
  · refine ⟨_, cap, rfl, ⟨hl, hn⟩, fun i hi => ⟨_, rfl, ?_⟩⟩
    have := World.ownsRow.cellAt h i (by omega)
    rw [Addr.add_mid, Nat.zero_add, this]
    simp [hi]
/-- An append to a row of truths leaves the file. -/
theorem FileAt.rowed {w w' : World} {B fb base n : Nat} {v u : Value} {l : List Sh} {xs : List Value} {o : Obj} (h : FileAt w B fb v l) (hg : (w.alloc o).grownBy w' u.ownBlock) (hu : w.ownsRow base 4 1 u n xs) : FileAt w' B fb v l := by
  have hg := grown_alloc hg
  have hk : ∀ (b : Nat) (cs : Array Value) (T : TypeId) (fr : Nat × Nat), w.heap[b]? = some (Obj.cells cs T fr) → T ≠ 4 → w'.heap[b]? = w.heap[b]? := by
    intro b cs T fr hb hT
    refine hg.block b (lt_of_heap hb) (fun e => ?_)
    rcases hu.2 with ⟨rfl, _⟩ | ⟨g, cap, cur, rfl, _, hgg, _⟩
    · simp [Value.ownBlock] at e
    · simp [Value.ownBlock] at e
      subst e
      rw [hgg] at hb
      simp only [Option.some.injEq, Obj.cells.injEq] at hb
      exact hT hb.2.1.symm
  refine h.kept (hk fb _ _ _ h.obj (by decide)) (fun g e => ?_)
  rcases h.row.2 with ⟨rfl, _⟩ | ⟨g', cap, cur, rfl, _, hgg, _⟩
  · simp [Value.ownBlock] at e
  · simp [Value.ownBlock] at e
    subst e
    exact hk _ _ _ _ hgg (by decide)
theorem keptP_all (x y : Sh) (hx : x.loose = true) (hy : y = ⟨x.syn, x.syn, x.loose⟩) : ∀ (bs : List Bool), keptP (List.replicate bs.length x) bs = bs.map fun b => if b then x else y
  | [] => rfl
  | b :: bs => by
    subst hy
    simp only [List.length_cons, List.replicate_succ, keptP, hx, if_true, nextL, List.headD_cons, List.tail_cons, List.map_cons]
    have := keptP_all x ⟨x.syn, x.syn, x.loose⟩ hx rfl bs
    rw [this]
    simp [hx]
theorem cutL_full (l : List Sh) (h : ∀ x ∈ l, ¬ x.now = ⟨#[]⟩) : cutL l = l := by
  have : cutN l l.length = l.length := by
    cases hl : l.length with
    | zero => rfl
    | succ n =>
      have hn : n < l.length := by omega
      rw [cutN, if_neg]
      simpa [hn] using h l[n] (by simp)
  rw [cutL, this, List.take_length]
theorem nw_ne (again : Bool) : ¬ nwB again = ⟨#[]⟩ := by cases again <;> decide
/-- What is there behind the loss of power. -/
def keptR (again : Bool) (bs : List Bool) : List Sh := bs.map fun b => if b then ⟨nwB again, nwB again, false⟩ else ⟨oldB, oldB, false⟩
theorem power_kept (again : Bool) (bs : List Bool) : powerL (List.replicate bs.length ⟨nwB again, oldB, true⟩) bs = keptR again bs := by
  unfold powerL
  rw [List.length_replicate, List.take_length, keptP_all _ ⟨oldB, oldB, true⟩ rfl rfl, cutL_full]
  · simp only [syncL, List.map_map, keptR]
    congr 1
    funext b
    cases b <;> rfl
  · intro x hx
    obtain ⟨b, _, rfl⟩ := List.mem_map.1 hx
    cases b
    · show ¬ oldB = _
      decide
    · exact nw_ne again
theorem Try.infoBool : (Try.prog.info? 4).map (fun i => (i.zero, i.size, i.bytes)) = some (some (.bool false), 1, 1) := by kernel_rfl
theorem read_kept (again : Bool) (bs : List Bool) (i : Nat) (h : i < bs.length) : readL (keptR again bs) (i : Int) = if bs[i] then nwB again else oldB := by
  simp only [readL, keptR]
  rw [if_pos (by omega), Int.toNat_natCast, List.getD_eq_getElem?_getD, List.getElem?_map, List.getElem?_eq_getElem h]
  cases bs[i] <;> rfl

set_option maxRecDepth 100000 in
set_option maxHeartbeats 8000000 in
theorem kept_law (n keep : Int) (again : Bool) (w : World) (hn0 : 0 ≤ n) (_hn1 : n < 256) (_hk0 : 0 ≤ keep) (_hk1 : keep < 65536) :
    Calls Try.prog 6 #[.int .u8 n, .int .u16 keep, .bool again] w fun e w' => e = .returned (.bool true) ∧ Below w.heap.size w w' := by
  obtain ⟨i0, hi, hz0, hz1, hz2⟩ := info_parts Try.infoBool
  obtain ⟨m, hm⟩ : ∃ m : Nat, n % 12 = (m : Int) := ⟨(n % 12).toNat, by omega⟩
  have hm12 : m < 12 := by omega
  have hmt : n.tmod 12 = (m : Int) := by rw [Int.tmod_eq_emod_of_nonneg hn0]; exact hm
  go_enter Try.func6, Try.ntmps6
  go_wp2_with fail
  refine (known_any w).mono ?_
  rintro e w1 ⟨rfl, B1⟩
  replace B1 := hid B1
  go_wp2_with fail
  refine (new_any [] _ w1 (strs_nil w1) (by simp)).mono ?_
  rintro e w2 ⟨rfl, v2, F2, B2⟩
  have hle := B1.out.size
  have HB2 := hid (bel B1.out B2 hle)
  generalize w1.heap.size = fb at *
  replace F2 := hid F2
  replace hm := hid hm
  clear B2 B1
  go_wp2
  go_loopg [9] (m + 1) (fun g i wr => ∃ (k : Nat) (v : Value), k + g = m + 1 ∧ i = .int .i64 k ∧ Hid (FileAt wr fb fb v (List.replicate k ⟨oldB, ⟨#[]⟩, true⟩)) ∧ Hid (Below w.heap.size w wr))
  case atStart => exact ⟨0, v2, by omega, rfl, F2, HB2⟩
  case round =>
    obtain ⟨k, v, hk, rfl, hf, hb⟩ := hrel
    clear F2 HB2
    cases gk with
    | succ g =>
      have hkm : k < m + 1 := by omega
      go_wp2_with fail
      refine (write_any _ fb fb _ _ k oldB hf.out (by omega)).mono ?_
      rw [olds_next k _ oldB rfl]
      rintro e w3 ⟨rfl, v3, F3, O3⟩
      have HB3 := hid (hb.out.trans ((O3.below hf.out).mono hle))
      replace F3 := hid F3
      clear O3 hf hb
      go_wp2
      go_roundg g
      case rel => exact ⟨k + 1, v3, by omega, by go_num, F3, HB3⟩
      case measure => omega
    | zero =>
      have hke : k = m + 1 := by omega
      subst hke
      go_wp2_with fail
      refine (sync_any _ fb fb _ _ hf.out).mono ?_
      rintro e w3 ⟨rfl, F3, O3⟩
      have HB3 := hid (hb.out.trans ((O3.below hf.out).mono hle))
      have e3 : syncL (List.replicate (m + 1) ⟨oldB, ⟨#[]⟩, true⟩) = List.replicate (m + 1) ⟨oldB, oldB, false⟩ := by simp [syncL, syS]
      rw [e3] at F3
      replace F3 := hid F3
      clear O3 hf hb e3
      go_wp2
      go_loopg [10, 11] (m + 1) (fun g b i wr => ∃ (k : Nat) (u : Value) (bs : List Bool), k + g = m + 1 ∧ i = .int .i64 k ∧ Hid (bs.length = k) ∧ Hid (OwnBools wr fb b bs) ∧ Hid (FileAt wr fb fb u (List.replicate k ⟨nwB again, oldB, true⟩ ++ List.replicate g ⟨oldB, oldB, false⟩)) ∧ Hid (Below w.heap.size w wr))
      case atStart => exact ⟨0, v, [], by omega, rfl, hid rfl, World.ownsRow_nil _ _ _ _, F3, HB3⟩
      case round =>
        obtain ⟨k, u, bs, hk, rfl, hbs, hbo, hf, hb⟩ := hrel
        clear F3 HB3
        cases gk with
        | succ g =>
          have hkm : k < m + 1 := by omega
          obtain ⟨ao, cp, rfl⟩ := hbo.out.slice
          have hbl := hbs.out
          rw [hbl] at hbo
          go_wp2_with fail
          refine (write_any _ fb fb _ _ k newB hf.out (by omega)).mono ?_
          rw [List.replicate_succ, write_old _ _ _ _ _ (by simp)]
          rintro e w4 ⟨rfl, v4, F4, O4⟩
          have HB4 := hid (hb.out.trans ((O4.below hf.out).mono hle))
          have BO4 := hid (hbo.out.fo hf.out O4)
          replace F4 := hid F4
          clear O4 hf hb hbo
          have hb4 := F4.out.lt
          cases again
          · have BO := BO4.out
            unfold OwnBools at BO
            rw [hbl] at BO
            replace BO := hid BO
            have FF := F4
            have HB := HB4
            have hlw := HB4.out.size
            clear BO4 F4 HB4
            go_wp2_with (first
            | (at_builtin; refine wpList_append_lies _ rfl (.tmp 43) (.tmp 50) 29 rfl fb 4 i0 (.bool false) 1 1 Try.underlying29 hi hz0 hz1 hz2 rfl (by omega) _ k (bs.map Value.bool) rfl (BO.out.alloc _) ⟨w4.heap.size, 0, none⟩ 1 1 [.bool (bits .and .u16 (keep / 2 ^ k) 1 == 1)] rfl rfl (World.news_of_block (heap_newL w4 _)) (by simp [Value.oneCell']) (by omega) (by unfold maxLen; omega) (by omega) (by simp; omega) (w4.heap.size + 1) (by simp) ?_)
            | fail)
            intro g' cap' w9 hown hgrow hg' hgs
            have hF := hid (FF.out.rowed hgrow BO.out)
            have hB := hid ((HB.out.alloc hlw _).grown hgrow (by simp; omega) (fun r hr => by have := (BO.out.lt r hr).1; omega))
            replace hown := hid hown
            generalize (bits BinOp.and IntKind.u16 (keep / 2 ^ k) 1 == 1) = x at *
            clear hgrow hg' hgs BO FF HB
            go_wp2
            go_roundg g
            case rel => exact ⟨k + 1, _, bs ++ [x], by omega, by go_num, hid (by simp [hbl]), by show World.ownsRow _ _ _ _ _ _ _; simpa [hbl] using hown.out, by show FileAt _ _ _ _ _; rw [List.replicate_succ', List.append_assoc]; exact hF.out, hB⟩
            case measure => omega
          · go_wp2_with fail
            refine (write_any _ fb fb _ _ k newerB F4.out (by omega)).mono ?_
            rw [write_old _ _ _ _ _ (by simp)]
            rintro e w5 ⟨rfl, v5, F5, O5⟩
            have HB := hid (HB4.out.trans ((O5.below F4.out).mono hle))
            have BO := BO4.out.fo F4.out O5
            unfold OwnBools at BO
            rw [hbl] at BO
            replace BO := hid BO
            have FF := hid F5
            have hb5 := F5.lt
            have hlw := HB.out.size
            clear F5 O5 BO4 F4 HB4
            go_wp2_with (first
            | (at_builtin; refine wpList_append_lies _ rfl (.tmp 43) (.tmp 50) 29 rfl fb 4 i0 (.bool false) 1 1 Try.underlying29 hi hz0 hz1 hz2 rfl (by omega) _ k (bs.map Value.bool) rfl (BO.out.alloc _) ⟨w5.heap.size, 0, none⟩ 1 1 [.bool (bits .and .u16 (keep / 2 ^ k) 1 == 1)] rfl rfl (World.news_of_block (heap_newL w5 _)) (by simp [Value.oneCell']) (by omega) (by unfold maxLen; omega) (by omega) (by simp; omega) (w5.heap.size + 1) (by simp) ?_)
            | fail)
            intro g' cap' w9 hown hgrow hg' hgs
            have hF := hid (FF.out.rowed hgrow BO.out)
            have hB := hid ((HB.out.alloc hlw _).grown hgrow (by simp; omega) (fun r hr => by have := (BO.out.lt r hr).1; omega))
            replace hown := hid hown
            generalize (bits BinOp.and IntKind.u16 (keep / 2 ^ k) 1 == 1) = x at *
            clear hgrow hg' hgs BO FF HB
            go_wp2
            go_roundg g
            case rel => exact ⟨k + 1, _, bs ++ [x], by omega, by go_num, hid (by simp [hbl]), by show World.ownsRow _ _ _ _ _ _ _; simpa [hbl] using hown.out, by show FileAt _ _ _ _ _; rw [List.replicate_succ', List.append_assoc]; exact hF.out, hB⟩
            case measure => omega
        | zero =>
          have hke : k = m + 1 := by omega
          subst hke
          have F4 := hf.out
          rw [List.replicate_zero, List.append_nil, ← hbs.out] at F4
          have BA := hbo.out.at (by rw [hbs.out]; unfold maxLen; omega)
          obtain ⟨ao, cp, rfl⟩ := hbo.out.slice
          go_wp2_with fail
          refine (power_any _ fb fb _ _ _ bs F4 BA).mono ?_
          rw [power_kept]
          rintro e w5 ⟨rfl, v5, F5, O5⟩
          have HB5 := hid (hb.out.trans ((O5.below F4).mono hle))
          have BO5 := hid (hbo.out.fo F4 O5)
          have hbl := hbs.out
          rw [hbl] at BO5
          replace F5 := hid F5
          clear F4 BA O5 hf hb hbo
          go_wp2
          go_loopg [12] (m + 1) (fun g i wr => ∃ (k : Nat), k + g = m + 1 ∧ i = .int .i64 k ∧ wr = w5)
          case atStart => exact ⟨0, by omega, rfl, rfl⟩
          case round =>
            obtain ⟨k, hk, rfl, rfl⟩ := hrel
            cases gk with
            | succ g =>
              have hkm : k < bs.length := by omega
              have hkm' : k < m + 1 := by omega
              obtain ⟨ao', cp', hv', ⟨_, _⟩, hcs⟩ := BO5.out.at (by rw [hbl]; unfold maxLen; omega)
              rw [hbl] at hv'
              simp only [Value.slice.injEq, true_and] at hv'
              obtain ⟨rfl, rfl⟩ := hv'
              obtain ⟨a, ha, hcell⟩ := hcs k hkm
              have hx := index_at (len := m + 1) (cap := cp) Try.elemBools Try.sizeBools k ha hkm'
              have hR := hid (read_any _ fb fb _ _ (k : Int) F5.out)
              rw [read_kept again bs k hkm] at hR
              generalize bs[k] = x at *
              clear hcs ha
              cases x <;> cases again
              all_goals
                simp only [nwB, newB, newerB, oldB, if_true, Bool.false_eq_true, if_false] at hR
                go_wp2_with fail
                refine hR.out.mono ?_
                rintro e w6 ⟨rfl, rfl⟩
                go_wp2
                go_roundg g
                case rel => exact ⟨k + 1, by omega, by go_num, rfl⟩
                case measure => omega
            | zero =>
              have hke : k = m + 1 := by omega
              subst hke
              go_wp2_with fail
              refine (len_any _ fb fb _ _ F5.out).mono ?_
              rw [show (keptR again bs).length = m + 1 by rw [keptR, List.length_map, hbl]]
              rintro e w6 ⟨rfl, rfl⟩
              go_wp2
              go_ret
              exact ⟨rfl, HB5.out⟩
end Go.Proofs.Ytehfhacghfagoaa

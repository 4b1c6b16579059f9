/- Contract of package file's New. -/
import Derived.Test.YtehfhacghfagoaaFb
namespace Go.Proofs.Ytehfhacghfagoaa
open Go.RowKit

/-- A slice of texts. -/
def StrsAt (w : World) (v : Value) (l : List ByteArray) : Prop :=
  ∃ ao cap, v = .slice ao l.length cap ∧ (l.length ≤ maxLen ∧ l.length ≤ cap) ∧ ∀ i (h : i < l.length), ∃ a, ao = some a ∧ w.cell? (a.add i) = some (.string l[i]) ∧ l[i].size ≤ maxLen
theorem StrsAt.below {w w' : World} {v : Value} {l : List ByteArray} (h : StrsAt w v l) (hb : Below w.heap.size w w') : StrsAt w' v l := by
  obtain ⟨ao, cap, h1, h2, h3⟩ := h
  refine ⟨ao, cap, h1, h2, fun i hi => ?_⟩
  obtain ⟨a, ha, hc, hs⟩ := h3 i hi
  exact ⟨a, ha, (hb.cell (p := a.add i) (World.block_lt_of_cell? w _ hc)).trans hc, hs⟩
theorem strs_nil (w : World) : StrsAt w (.slice none 0 0) [] := ⟨none, 0, rfl, ⟨by simp, Nat.zero_le _⟩, fun i hi => absurd hi (by simp)⟩
/-- A slice of truths. -/
def BoolsAt (w : World) (v : Value) (l : List Bool) : Prop :=
  ∃ ao cap, v = .slice ao l.length cap ∧ (l.length ≤ maxLen ∧ l.length ≤ cap) ∧ ∀ i (h : i < l.length), ∃ a, ao = some a ∧ w.cell? (a.add i) = some (.bool l[i])
theorem BoolsAt.below {w w' : World} {v : Value} {l : List Bool} (h : BoolsAt w v l) (hb : Below w.heap.size w w') : BoolsAt w' v l := by
  obtain ⟨ao, cap, h1, h2, h3⟩ := h
  refine ⟨ao, cap, h1, h2, fun i hi => ?_⟩
  obtain ⟨a, ha, hc⟩ := h3 i hi
  exact ⟨a, ha, (hb.cell (p := a.add i) (World.block_lt_of_cell? w _ hc)).trans hc⟩
theorem bools_nil (w : World) : BoolsAt w (.slice none 0 0) [] := ⟨none, 0, rfl, ⟨by simp, Nat.zero_le _⟩, fun i hi => absurd hi (by simp)⟩

theorem cut_head {t : TypeId} {ao : Option Addr} {len cap n size : Nat} (ht : Try.prog.underlying t = some (.slice (Try.prog.elem t))) (hs : ∀ w, (Go.sizeOf (Try.prog.elem t)).run Try.prog w = .ok size w) (h : n ≤ cap) (w : World) :
    (Instr.slice t (.slice ao len cap) none (some (.int .i64 (n : Int))) none).run Try.prog w = .ok (.slice ao n cap) w := by
  rw [run_slice_h w t ao len cap ht .i64 (n : Int) (by omega) (by omega), hs]
  simp only [Result.andThen, sliced, Int.toNat_natCast, Nat.zero_mul, Nat.sub_zero]
  cases ao <;> simp [Addr.add]
theorem index_at {t : TypeId} {ao : Option Addr} {a : Addr} (ht : Try.prog.underlying t = some (.slice (Try.prog.elem t))) (hs : ∀ w, (Go.sizeOf (Try.prog.elem t)).run Try.prog w = .ok 1 w) (len cap k : Nat) (ha : ao = some a) (h : k < len) (w : World) :
    (Instr.indexAt t (.slice ao len cap) (.int .i64 (k : Int))).run Try.prog w = .ok (.pointer (some (a.add k))) w := by
  subst ha
  rw [run_indexAt_slice (P := Try.prog) w t a len cap .i64 k ht, if_pos (by omega), hs]
  simp only [Result.andThen, Int.toNat_natCast, Nat.mul_one]
theorem Try.elemStrs : Try.prog.underlying 22 = some (.slice (Try.prog.elem 22)) := by kernel_rfl
theorem Try.sizeStrs (w : World) : (Go.sizeOf (Try.prog.elem 22)).run Try.prog w = .ok 1 w := by kernel_rfl
theorem Try.elemBools : Try.prog.underlying 29 = some (.slice (Try.prog.elem 29)) := by kernel_rfl
theorem Try.sizeBools (w : World) : (Go.sizeOf (Try.prog.elem 29)).run Try.prog w = .ok 1 w := by kernel_rfl
def newL (ss : List ByteArray) : List Sh := ss.map fun s => ⟨s, s, false⟩
theorem newL_take (ss : List ByteArray) (k : Nat) (h : k < ss.length) : newL (ss.take (k + 1)) = newL (ss.take k) ++ [⟨ss[k], ss[k], false⟩] := by
  unfold newL
  rw [List.take_succ_eq_append_getElem h, List.map_append]
  rfl

set_option maxRecDepth 10000 in
set_option maxHeartbeats 4000000 in
theorem new_any (ss : List ByteArray) (v : Value) (w : World) (h : StrsAt w v ss) (hl : ss.length ≤ 400) :
    Calls Try.prog 9 #[v] w fun e w' => e = .returned (.pointer (some ⟨w.heap.size, 0, none⟩)) ∧ ∃ u, FileAt w' w.heap.size w.heap.size u (newL ss) ∧ Below w.heap.size w w' := by
  obtain ⟨i0, hi, hz0, hz1, hz2⟩ := info_parts Try.infoSheet
  obtain ⟨ao, cap, rfl, ⟨_, hcap⟩, h3⟩ := h
  have hcut := cut_head (ao := ao) (len := ss.length) (cap := cap) (n := ss.length) Try.elemStrs Try.sizeStrs hcap
  have h3 := hid h3
  have F0 : FileAt (w.alloc (.cells #[.slice none 0 0] 56)) w.heap.size w.heap.size (.slice none 0 0) (newL (ss.take 0)) :=
    ⟨heap_newL w _, Nat.le_refl _, World.ownsRow_nil _ _ _ _, by simp [newL]⟩
  have F0 := hid F0
  have B0 := hid ((Below.refl w.heap.size w).alloc (Nat.le_refl _) (.cells #[.slice none 0 0] 56))
  have hmin : min ss.length 400 = ss.length := by omega
  go_enter Try.func9, Try.ntmps9
  go_wp2
  clear hcut hmin
  go_loopg [14] ss.length (fun g i wr => ∃ (k : Nat) (u : Value), k + g = ss.length ∧ i = .int .i64 k ∧ Hid (FileAt wr w.heap.size w.heap.size u (newL (ss.take k))) ∧ Hid (Below w.heap.size w wr))
  case atStart => exact ⟨0, _, by omega, rfl, F0, B0⟩
  case round =>
    obtain ⟨k, u, hk, rfl, hf, hb⟩ := hrel
    clear F0 B0
    cases gk with
    | zero =>
      have hke : k = ss.length := by omega
      subst hke
      go_wp2
      go_ret
      rw [List.take_length] at hf
      exact ⟨rfl, u, hf.out, hb.out⟩
    | succ g =>
      have hlk : k < ss.length := by omega
      obtain ⟨a, ha, hcell, _⟩ := h3.out k hlk
      have hx := index_at (len := ss.length) (cap := cap) Try.elemStrs Try.sizeStrs k ha hlk
      have hc := cell_of_one hf.out.obj
      have hfr := free_of_one hf.out.obj
      have hlt := hf.out.lt
      have hcs : wr.cell? (a.add k) = some (.string ss[k]) := (hb.out.cell (p := a.add k) (World.block_lt_of_cell? w _ hcell)).trans hcell
      have hln : (newL (ss.take k)).length = k := by simp [newL]; omega
      have HR := hid hf.out.row
      rw [hln] at HR
      obtain ⟨bo, cp, rfl⟩ := hf.out.slice
      rw [hln] at hc HR hf
      have hsz := hb.out.size
      obtain ⟨s, hs⟩ : ∃ s, ss[k] = s := ⟨_, rfl⟩
      rw [hs] at hcs
      have hs := hid hs
      clear hcell ha
      go_wp2_with (first
        | (at_builtin; refine wpList_append_lies _ rfl (.tmp 22) (.tmp 26) 54 rfl w.heap.size 58 i0 (.agg #[.string ⟨#[]⟩, .string ⟨#[]⟩, .bool false]) 3 40 Try.underlying54 hi hz0 hz1 hz2 rfl (by omega) _ k (rowS (newL (ss.take k))) rfl (HR.out.alloc _) ⟨wr.heap.size, 0, none⟩ 1 1 (shC ⟨s, s, false⟩) rfl rfl (World.news_of_block (heap_newL wr _)) (by simp [shC, Value.oneCell']) (by omega) (by unfold maxLen; omega) (by omega) (by simp; omega) (wr.heap.size + 1) (by simp) ?_)
        | fail)
      intro g' cap' w1 hown hgrow hg hgs
      obtain ⟨hF, hO, ho1⟩ := hf.out.pushed ⟨s, s, false⟩ (by rw [hln]; exact hown) hgrow hg (by omega)
      have hB := hid ((hO.below hf.out))
      have hF := hid hF
      have hc1 := cell_of_one ho1
      have hf1 := free_of_one ho1
      clear hown hgrow hg ho1 HR hO
      go_wp2
      go_roundg g
      case rel => exact ⟨k + 1, _, by omega, by go_num, by show FileAt _ _ _ _ _; rw [newL_take ss k hlk]; rw [hs.out]; exact hF.out, hb.out.trans hB.out⟩
      case measure => omega
end Go.Proofs.Ytehfhacghfagoaa

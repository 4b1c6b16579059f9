/- Contracts of package file's Sync and Loose. -/
import Derived.Test.YtehfhacghfagoaaFc
import Derived.RegionTactic
import Derived.ChangeAlike
namespace Go.Proofs.Ytehfhacghfagoaa
open Go.RowKit

def syS (s : Sh) : Sh := ⟨s.now, s.now, false⟩
def syncL (l : List Sh) : List Sh := l.map syS
def syncTo (l : List Sh) (k : Nat) : List Sh := (l.take k).map syS ++ l.drop k
theorem syncTo_zero (l : List Sh) : syncTo l 0 = l := by simp [syncTo]
theorem syncTo_all (l : List Sh) : syncTo l l.length = syncL l := by simp [syncTo, syncL]
theorem syncTo_length (l : List Sh) (k : Nat) : (syncTo l k).length = l.length := by simp [syncTo]; omega
theorem syncTo_at (l : List Sh) (k : Nat) (h : k < l.length) : (syncTo l k)[k]'(by rw [syncTo_length]; exact h) = l[k] := by
  simp [syncTo, List.getElem_append_right, Nat.min_eq_left (Nat.le_of_lt h)]
theorem syncTo_set (l : List Sh) (k : Nat) (h : k < l.length) : (syncTo l k).set k (syS l[k]) = syncTo l (k + 1) := by
  unfold syncTo
  rw [List.set_append_right _ _ (by simp; omega), List.drop_eq_getElem_cons h, List.take_succ_eq_append_getElem h, List.map_append, List.append_assoc]
  congr 1
  simp only [List.length_map, List.length_take, Nat.min_eq_left (Nat.le_of_lt h), Nat.sub_self, List.set_cons_zero]
  rfl
theorem FileAt.stored3 {w : World} {B fb g n cap : Nat} {l : List Sh} (h : FileAt w B fb (.slice (some ⟨g, 0, none⟩) n cap) l) (hn : n = l.length) (i : Nat) (hi : i < l.length) (t : Sh) :
    FileAt (((w.setCell ⟨g, i * 3, none⟩ (.string t.now)).setCell ⟨g, i * 3 + 1, none⟩ (.string t.syn)).setCell ⟨g, i * 3 + 2, none⟩ (.bool t.loose)) B fb (.slice (some ⟨g, 0, none⟩) n cap) (l.set i t) := by
  have h1 := h.stored hn i hi 0 (by omega) (.string t.now) ⟨t.now, l[i].syn, l[i].loose⟩ rfl
  have h2 := h1.stored (by simpa using hn) i (by simpa using hi) 1 (by omega) (.string t.syn) ⟨t.now, t.syn, l[i].loose⟩ (by simp [shC])
  have h3 := h2.stored (by simpa using hn) i (by simpa using hi) 2 (by omega) (.bool t.loose) ⟨t.now, t.syn, t.loose⟩ (by simp [shC])
  simpa using h3

set_option maxRecDepth 10000 in
set_option maxHeartbeats 4000000 in
theorem sync_any (w : World) (B fb : Nat) (v : Value) (l : List Sh) (h : FileAt w B fb v l) :
    Calls Try.prog 13 #[.pointer (some ⟨fb, 0, none⟩)] w fun e w' => e = .returned (.tuple #[]) ∧ FileAt w' B fb v (syncL l) ∧ Fo fb w v w' v := by
  have hc := cell_of_one h.obj
  rcases h.form with ⟨rfl, rfl⟩ | ⟨g, cap, rfl, h1, h2, hne, h3, h4⟩
  · have h := hid h
    go_enter Try.func13, Try.ntmps13
    go_wp2
    refine wp_loop_rounds 1 ?_
    rw [rounds_succ]
    go_wp2
    go_end0
    exact ⟨rfl, h.out, Fo.refl _ _ _⟩
  · have F0 := hid h
    have hl4 := h.len
    clear h
    go_enter Try.func13, Try.ntmps13
    go_wp2
    go_loopg [9] l.length (fun gk i wr => ∃ (k : Nat), k + gk = l.length ∧ i = .int .i64 k ∧ Hid (FileAt wr B fb (.slice (some ⟨g, 0, none⟩) l.length cap) (syncTo l k)) ∧ Hid (Fo fb w (.slice (some ⟨g, 0, none⟩) l.length cap) wr (.slice (some ⟨g, 0, none⟩) l.length cap)))
    case atStart => exact ⟨0, by omega, rfl, by rw [syncTo_zero]; exact F0, Fo.refl _ _ _⟩
    case round =>
      obtain ⟨k, hk, rfl, hf, hfo⟩ := hrel
      clear F0 hc
      cases gk with
      | zero =>
        have hke : k = l.length := by omega
        subst hke
        go_wp2
        go_end0
        rw [syncTo_all] at hf
        exact ⟨rfl, hf.out, hfo.out⟩
      | succ gg =>
        have hlk : k < l.length := by omega
        have hlk' : k < (syncTo l k).length := by rw [syncTo_length]; exact hlk
        have hx := atSheets g l.length cap k hlk
        have hc := cell_of_one hf.out.obj
        obtain ⟨c0, c1, c2⟩ := hf.out.cell (syncTo_length l k).symm k hlk'
        rw [syncTo_at l k hlk] at c0 c1 c2
        have hfz := hf.out.frozen (syncTo_length l k).symm
        have hlt := hf.out.lt
        have hgl : g < wr.heap.size := World.block_lt_of_cell? wr _ c0
        obtain ⟨x, hxk⟩ : ∃ x, l[k] = x := ⟨_, rfl⟩
        rw [hxk] at c0 c1 c2
        have HN := hid (((hf.out.stored3 (syncTo_length l k).symm k hlk' ⟨x.now, x.now, false⟩).alloc (.cells #[.string x.now, .string x.syn, .bool x.loose] 58)).drew)
        have HO := hid (((hfo.out.trans (((Fo.cell (g := g) (o := k * 3) (n := l.length) (cap := cap) (.string x.now)).trans (Fo.cell (g := g) (o := k * 3 + 1) (n := l.length) (cap := cap) (.string x.now))).trans (Fo.cell (g := g) (o := k * 3 + 2) (n := l.length) (cap := cap) (.bool false)))).alloc (.cells #[.string x.now, .string x.syn, .bool x.loose] 58)).drew)
        have hxk := hid hxk
        obtain ⟨xn, xs, xl⟩ := x
        go_wp2
        go_region
        all_goals go_wp2
        all_goals go_roundg gg
        case rel => exact ⟨k + 1, by omega, by go_num, by show FileAt _ _ _ _ _; rw [← syncTo_set l k hlk, hxk.out]; exact HN.out, HO.out⟩
        case measure => omega

def looseL : List Sh → Nat → List Int
  | [], _ => []
  | x :: l, n => if x.loose then (n : Int) :: looseL l (n + 1) else looseL l (n + 1)
theorem looseL_append : ∀ (l m : List Sh) (n : Nat), looseL (l ++ m) n = looseL l n ++ looseL m (n + l.length)
  | [], m, n => by simp [looseL]
  | x :: l, m, n => by
    simp only [List.cons_append, looseL, looseL_append l m (n + 1), List.length_cons]
    rw [show n + 1 + l.length = n + (l.length + 1) by omega]
    split <;> simp
theorem looseL_take (l : List Sh) (k : Nat) (h : k < l.length) : looseL (l.take (k + 1)) 0 = if l[k].loose then looseL (l.take k) 0 ++ [(k : Int)] else looseL (l.take k) 0 := by
  rw [List.take_succ_eq_append_getElem h, looseL_append]
  simp only [looseL, Nat.zero_add, List.length_take, Nat.min_eq_left (Nat.le_of_lt h)]
  split <;> simp
theorem looseL_le : ∀ (l : List Sh) (n : Nat), (looseL l n).length ≤ l.length
  | [], n => by simp [looseL]
  | x :: l, n => by
    have := looseL_le l (n + 1)
    simp only [looseL, List.length_cons]
    split <;> simp <;> omega
def intCells (l : List Int) : List Value := l.map (Value.int .i64)
/-- A row of numbers of the call's own. -/
def OwnInts (w : World) (base : Nat) (v : Value) (l : List Int) : Prop := w.ownsRow base 3 1 v l.length (intCells l)
theorem OwnInts.slice {w : World} {base : Nat} {v : Value} {l : List Int} (h : OwnInts w base v l) : ∃ ao cap, v = .slice ao l.length cap := by
  rcases h.2 with ⟨rfl, h0⟩ | ⟨g, cap, cur, rfl, _⟩
  · exact ⟨none, 0, by rw [h0]⟩
  · exact ⟨_, _, rfl⟩

set_option maxRecDepth 10000 in
set_option maxHeartbeats 4000000 in
theorem loose_any (w : World) (B fb : Nat) (v : Value) (l : List Sh) (h : FileAt w B fb v l) :
    Calls Try.prog 19 #[.pointer (some ⟨fb, 0, none⟩)] w fun e w' => ∃ u, e = .returned u ∧ OwnInts w' w.heap.size u (looseL l 0) ∧ Below w.heap.size w w' := by
  obtain ⟨i0, hi, hz0, hz1, hz2⟩ := info_parts Try.infoInt
  have hc := cell_of_one h.obj
  rcases h.form with ⟨rfl, rfl⟩ | ⟨g, cap, rfl, h1, h2, hne, h3, h4⟩
  · clear h
    go_enter Try.func19, Try.ntmps19
    go_wp2
    refine wp_loop_rounds 1 ?_
    rw [rounds_succ]
    go_wp2
    go_ret
    exact ⟨_, rfl, World.ownsRow_nil _ _ _ _, Below.refl _ _⟩
  · have F0 := hid h
    have hl4 := h.len
    clear h
    go_enter Try.func19, Try.ntmps19
    go_wp2
    go_loopg [3, 11] l.length (fun gk u i wr => ∃ (k : Nat), k + gk = l.length ∧ i = .int .i64 k ∧ Hid (OwnInts wr w.heap.size u (looseL (l.take k) 0)) ∧ Hid (Below w.heap.size w wr))
    case atStart => exact ⟨0, by omega, rfl, World.ownsRow_nil _ _ _ _, Below.refl _ _⟩
    case round =>
      obtain ⟨k, hk, rfl, hu, hb⟩ := hrel
      clear hc
      cases gk with
      | zero =>
        have hke : k = l.length := by omega
        subst hke
        go_wp2
        go_ret
        rw [List.take_length] at hu
        exact ⟨_, rfl, hu.out, hb.out⟩
      | succ gg =>
        have hlk : k < l.length := by omega
        have hx := atSheets g l.length cap k hlk
        have hf := F0.out.below hb.out
        obtain ⟨c0, c1, c2⟩ := hf.cell rfl k hlk
        have hsz := hb.out.size
        have hgl : g < wr.heap.size := World.block_lt_of_cell? wr _ c0
        have hll := looseL_le (l.take k) 0
        rw [List.length_take] at hll
        have HL := hid (looseL_take l k hlk)
        obtain ⟨x, hxk⟩ : ∃ x, l[k] = x := ⟨_, rfl⟩
        rw [hxk] at c0 c1 c2 HL
        clear hxk hf
        obtain ⟨xn, xs, xl⟩ := x
        obtain ⟨ao, cp, rfl⟩ := hu.out.slice
        have HU := hid (hu.out.alloc (.cells #[.string xn, .string xs, .bool xl] 58))
        have HB := hid (hb.out.alloc (by omega) (.cells #[.string xn, .string xs, .bool xl] 58))
        cases xl
        · go_wp2
          go_roundg gg
          case rel => exact ⟨k + 1, by omega, by go_num, by show OwnInts _ _ _ _; rw [HL.out]; exact HU.out, HB.out⟩
          case measure => omega
        · generalize hL : looseL (l.take k) 0 = L at *
          go_wp2_with (first
            | (at_builtin; refine wpList_append_lies _ rfl (.tmp 18) (.tmp 20) 38 rfl w.heap.size 3 i0 (.int .i64 0) 1 8 Try.underlying38 hi hz0 hz1 hz2 rfl (by omega) _ L.length (intCells L) rfl (HU.out.alloc _) ⟨wr.heap.size + 1, 0, none⟩ 1 1 [.int .i64 k] rfl rfl (by have := World.news_of_block (heap_newL (wr.alloc (.cells #[.string xn, .string xs, .bool true] 58)) (.cells #[.int .i64 k] 3)); simpa only [World.size_alloc] using this) (by simp [Value.oneCell']) (by omega) (by unfold maxLen; omega) (by omega) (by simp; omega) (wr.heap.size + 2) (by simp) ?_)
            | fail)
          intro g' cap' w1 hown hgrow hg hgs
          have hBel := hid ((HB.out.alloc (by simp; omega) _).grown hgrow (by simp; omega) (fun r hr => (HU.out.lt r hr).1))
          have hown := hid hown
          clear hgrow hg hu hb HU HB
          go_wp2
          go_roundg gg
          case rel => exact ⟨k + 1, by omega, by go_num, by show OwnInts _ _ _ _; rw [HL.out]; simpa [OwnInts, intCells] using hown.out, hBel.out⟩
          case measure => omega
end Go.Proofs.Ytehfhacghfagoaa

/- Contracts of package file's Len, Read and Write. -/
import Derived.Test.YtehfhacghfagoaaFa
import Derived.Deep.LoopGhost
namespace Go.Proofs.Ytehfhacghfagoaa
open Go.RowKit

def noSh : Sh := ⟨⟨#[]⟩, ⟨#[]⟩, false⟩
def emptySh : Sh := ⟨⟨#[]⟩, ⟨#[]⟩, true⟩
def readL (l : List Sh) (i : Int) : ByteArray := if 0 ≤ i then (l.getD i.toNat noSh).now else ⟨#[]⟩
/-- With empty loose pages at the end, so many in all. -/
def padTo (l : List Sh) (n : Nat) : List Sh := l ++ List.replicate (n - l.length) emptySh
def writeL (l : List Sh) (i : Nat) (s : ByteArray) : List Sh := (padTo l (i + 1)).set i ⟨s, ((padTo l (i + 1)).getD i noSh).syn, true⟩
theorem padTo_length (l : List Sh) (n : Nat) : (padTo l n).length = max l.length n := by simp [padTo]; omega
theorem padTo_le (l : List Sh) (n : Nat) (h : n ≤ l.length) : padTo l n = l := by simp [padTo, Nat.sub_eq_zero_of_le h]
theorem padTo_snoc (l : List Sh) (n : Nat) (h : l.length < n) : padTo (l ++ [emptySh]) n = padTo l n := by
  obtain ⟨m, rfl⟩ : ∃ m, n = l.length + (m + 1) := ⟨n - l.length - 1, by omega⟩
  simp [padTo, List.append_assoc, List.replicate_succ, Nat.add_sub_cancel_left, show l.length + (m + 1) - (l.length + 1) = m by omega]

theorem len_any (w : World) (B fb : Nat) (v : Value) (l : List Sh) (h : FileAt w B fb v l) :
    Calls Try.prog 17 #[.pointer (some ⟨fb, 0, none⟩)] w fun e w' => e = .returned (.int .i64 l.length) ∧ w' = w := by
  have hc := cell_of_one h.obj
  rcases h.form with ⟨rfl, rfl⟩ | ⟨g, cap, rfl, _⟩
  all_goals
    clear h
    go_enter Try.func17, Try.ntmps17
    go_wp2
    go_ret
    exact ⟨rfl, rfl⟩

theorem read_any (w : World) (B fb : Nat) (v : Value) (l : List Sh) (i : Int) (h : FileAt w B fb v l) :
    Calls Try.prog 20 #[.pointer (some ⟨fb, 0, none⟩), .int .i64 i] w fun e w' => e = .returned (.string (readL l i)) ∧ w' = w := by
  have hc := cell_of_one h.obj
  have hl := h.len
  by_cases h0 : i < 0
  · have hr : readL l i = ⟨#[]⟩ := if_neg (by omega)
    rw [hr]
    clear hr
    go_enter Try.func20, Try.ntmps20
    go_wp2
    go_ret
    exact ⟨rfl, rfl⟩
  · obtain ⟨k, rfl⟩ : ∃ k : Nat, i = (k : Int) := ⟨i.toNat, by omega⟩
    by_cases hk : k < l.length
    · have hr : readL l (k : Int) = l[k].now := by simp [readL, hk]
      rcases h.form with ⟨rfl, rfl⟩ | ⟨g, cap, rfl, _⟩
      · simp at hk
      have hx := atSheets g l.length cap k hk
      have hcc := (h.cell rfl k hk).1
      rw [hr]
      clear hr h h0
      generalize l[k].now = s at *
      go_enter Try.func20, Try.ntmps20
      go_wp2
      go_ret
      exact ⟨rfl, rfl⟩
    · have hr : readL l (k : Int) = ⟨#[]⟩ := by simp [readL, List.getElem?_eq_none (Nat.le_of_not_lt hk), noSh]
      rw [hr]
      clear hr
      rcases h.form with ⟨rfl, rfl⟩ | ⟨g, cap, rfl, _⟩
      all_goals
        clear h
        try simp only [List.length_nil] at *
        go_enter Try.func20, Try.ntmps20
        go_wp2
        go_ret
        exact ⟨rfl, rfl⟩

theorem write_not (w : World) (fb : Nat) (i : Int) (s : ByteArray) (h : i < 0 ∨ 400 ≤ i) :
    Calls Try.prog 11 #[.pointer (some ⟨fb, 0, none⟩), .int .i64 i, .string s] w fun e w' => e = .returned (.iface 53 (.int .i64 14)) ∧ w' = w := by
  by_cases h0 : i < 0
  · clear h
    go_enter Try.func11, Try.ntmps11
    go_wp2
    go_ret
    exact ⟨rfl, rfl⟩
  · have h1 : 400 ≤ i := by omega
    clear h
    go_enter Try.func11, Try.ntmps11
    go_wp2
    go_ret
    exact ⟨rfl, rfl⟩

theorem FileAt.own_ne {w : World} {B fb : Nat} {v : Value} {l : List Sh} (h : FileAt w B fb v l) : some fb ≠ v.ownBlock := by
  intro e
  rcases h.form with ⟨rfl, _⟩ | ⟨g, cap, rfl, _, _, hne, _⟩
  · simp [Value.ownBlock] at e
  · simp [Value.ownBlock] at e; omega
/-- One page more. -/
theorem FileAt.pushed {w w' : World} {B fb g n cap : Nat} {v : Value} {l : List Sh} {o : Obj} (h : FileAt w B fb v l) (x : Sh) (hr : w'.ownsRow B 58 3 (.slice (some ⟨g, 0, none⟩) n cap) (l.length + 1) (rowS l ++ shC x)) (hg : (w.alloc o).grownBy w' v.ownBlock) (hrow : v.ownBlock = some g ∨ g = w.heap.size + 1) (hl : l.length < 400) :
    FileAt (w'.setCell ⟨fb, 0, none⟩ (.slice (some ⟨g, 0, none⟩) n cap)) B fb (.slice (some ⟨g, 0, none⟩) n cap) (l ++ [x]) ∧ Fo fb w v (w'.setCell ⟨fb, 0, none⟩ (.slice (some ⟨g, 0, none⟩) n cap)) (.slice (some ⟨g, 0, none⟩) n cap) ∧ w'.heap[fb]? = some (.cells #[v] 56 (0, 0)) := by
  have hg' := grown_alloc hg
  have ho := hg'.block fb h.lt h.own_ne
  refine ⟨h.put ho (by rw [rowS_snoc]; simpa using hr) (by simp; omega), Fo.trans (Fo.grown hg' (fun k hk => ?_)) (Fo.obj _), ho.trans h.obj⟩
  simp only [Value.ownBlock, Option.some.injEq] at hk
  subst hk
  rcases hrow with e | e
  · exact .inl e
  · exact .inr (by omega)

set_option maxRecDepth 10000 in
set_option maxHeartbeats 4000000 in
theorem write_any (w : World) (B fb : Nat) (v : Value) (l : List Sh) (i : Nat) (s : ByteArray) (h : FileAt w B fb v l) (hi4 : i < 400) :
    Calls Try.prog 11 #[.pointer (some ⟨fb, 0, none⟩), .int .i64 i, .string s] w fun e w' => e = .returned .nilIface ∧ ∃ v', FileAt w' B fb v' (writeL l i s) ∧ Fo fb w v w' v' := by
  obtain ⟨i0, hi, hz0, hz1, hz2⟩ := info_parts Try.infoSheet
  have HW : Hid (writeL l i s = (padTo l (i + 1)).set i ⟨s, ((padTo l (i + 1)).getD i noSh).syn, true⟩) := hid rfl
  generalize writeL l i s = RL at *
  replace h := hid h
  go_enter Try.func11, Try.ntmps11
  go_wp2
  go_loopg [] (i + 1 - l.length) (fun g wr => ∃ (m : List Sh) (u : Value), g = i + 1 - m.length ∧ Hid (padTo m (i + 1) = padTo l (i + 1)) ∧ Hid (FileAt wr B fb u m) ∧ Hid (Fo fb w v wr u))
  case atStart => exact ⟨l, v, rfl, hid rfl, h, Fo.refl _ _ _⟩
  case round =>
    obtain ⟨m, u, hm, hpad, hf, hfo⟩ := hrel
    have hc := cell_of_one hf.out.obj
    have hfr := free_of_one hf.out.obj
    have hlt := hf.out.lt
    by_cases hmi : m.length ≤ i
    · obtain ⟨ao, cap, rfl⟩ := hf.out.slice
      have hb := hf.out.baseLe
      have HR := hid (hf.out.row)
      clear h HW
      go_wp2_with (first
        | (at_builtin; refine wpList_append_lies _ rfl (.tmp 25) (.tmp 27) 54 rfl B 58 i0 (.agg #[.string ⟨#[]⟩, .string ⟨#[]⟩, .bool false]) 3 40 Try.underlying54 hi hz0 hz1 hz2 rfl (by omega) _ m.length (rowS m) rfl (HR.out.alloc _) ⟨wr.heap.size, 0, none⟩ 1 1 (shC emptySh) rfl rfl (World.news_of_block (heap_newL wr _)) (by simp [shC, Value.oneCell']) (by omega) (by unfold maxLen; omega) (by omega) (by simp; omega) (wr.heap.size + 1) (by simp) ?_)
        | fail)
      intro g cap' w1 hown hgrow hg hgs
      obtain ⟨hF, hO, ho1⟩ := hf.out.pushed emptySh hown hgrow hg (by omega)
      have hF := hid hF
      have hO := hid hO
      have hc1 := cell_of_one ho1
      have hf1 := free_of_one ho1
      clear hown hgrow hg ho1 HR
      go_wp2
      go_roundg (i + 1 - (m.length + 1))
      case rel => exact ⟨m ++ [emptySh], _, by simp, by show padTo _ _ = padTo _ _; rw [padTo_snoc m (i + 1) (by omega)]; exact hpad.out, hF, hfo.out.trans hO.out⟩
      case measure => omega
    · have hmi' : i < m.length := by omega
      rcases hf.out.form with ⟨rfl, rfl⟩ | ⟨g, cap, rfl, h1, h2, hne, h3, h4⟩
      · simp at hmi'
      have hx := atSheets g m.length cap i hmi'
      have hcc := (hf.out.cell rfl i hmi').1
      have hcl := (hf.out.cell rfl i hmi').2.2
      have hfz := hf.out.frozen rfl
      have H1 := hf.out.stored rfl i hmi' 0 (by omega) (.string s) ⟨s, m[i].syn, m[i].loose⟩ rfl
      have H2 := hid (H1.stored (by simp) i (by simpa using hmi') 2 (by omega) (.bool true) ⟨s, m[i].syn, true⟩ (by simp [shC]))
      have hfin : (m.set i ⟨s, m[i].syn, m[i].loose⟩).set i ⟨s, m[i].syn, true⟩ = RL := by
        have e := hpad.out
        rw [padTo_le m (i + 1) (by omega)] at e
        rw [HW.out, ← e]
        simp [hmi']
      have hfin := hid hfin
      have HO := hid (hfo.out.trans ((Fo.cell (g := g) (o := i * 3) (n := m.length) (cap := cap) (.string s)).trans (Fo.cell (g := g) (o := i * 3 + 2) (n := m.length) (cap := cap) (.bool true))))
      clear h HW hpad H1 hfo
      generalize m[i].now = mn at *
      generalize m[i].loose = mlo at *
      go_wp2
      go_ret
      refine ⟨rfl, _, ?_, HO.out⟩
      rw [← hfin.out]
      exact H2.out
end Go.Proofs.Ytehfhacghfagoaa

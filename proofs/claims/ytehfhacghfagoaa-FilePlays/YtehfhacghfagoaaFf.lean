/- Contracts of package file's cutEmptyEnd and Power. -/
import Derived.Test.YtehfhacghfagoaaFe
import Derived.Laws.IdiomCopy
namespace Go.Proofs.Ytehfhacghfagoaa
open Go.RowKit Go.Conc

theorem heap_setCells {g : Nat} {e : TypeId} : ∀ (vs : List Value) (o : Nat) (w : World) (cur : Array Value), w.heap[g]? = some (.cells cur e (0, 0)) →
    ∃ cur', (w.setCells g o vs).heap[g]? = some (.cells cur' e (0, 0)) ∧ cur'.size = cur.size ∧ ∀ n, n ≤ o → cur'.toList.take n = cur.toList.take n
  | [], o, w, cur, h => ⟨cur, h, rfl, fun _ _ => rfl⟩
  | v :: r, o, w, cur, h => by
    obtain ⟨cur', h1, h2, h3⟩ := heap_setCells r (o + 1) (w.setCell ⟨g, o, none⟩ v) _ (heap_setCell_same w g o cur e v h)
    refine ⟨cur', h1, by simpa using h2, fun n hn => ?_⟩
    rw [h3 n (by omega), Array.toList_setIfInBounds, List.take_set_of_le hn]
theorem grown_setCells {g : Nat} : ∀ (vs : List Value) (o : Nat) (w : World), w.grownBy (w.setCells g o vs) (some g)
  | [], o, w => World.grownBy.refl _ _
  | v :: r, o, w => by
    have h1 := grown_setCell w g o v
    have h2 := grown_setCells (g := g) r (o + 1) (w.setCell ⟨g, o, none⟩ v)
    exact ⟨h2.os.trans h1.os, h2.tape.trans h1.tape, h2.output.trans h1.output, Nat.le_trans h1.size h2.size, fun k hk hne => (h2.block k (by simpa using hk) hne).trans (h1.block k hk hne)⟩
theorem zeroSheet (w : World) : (zeroValue 58).run Try.prog w = .ok (.agg #[.string ⟨#[]⟩, .string ⟨#[]⟩, .bool false]) w := by
  obtain ⟨i0, hi, hz0, hz1, hz2⟩ := info_parts Try.infoSheet
  simp [zeroValue, typeInfo, hi, hz0]
theorem cells3 : (Value.agg #[.string ⟨#[]⟩, .string ⟨#[]⟩, .bool false]).cells = #[.string ⟨#[]⟩, .string ⟨#[]⟩, .bool false] := rfl
theorem zero3 (m : Nat) : ∀ v ∈ (Builtin.zeroCells (Value.agg #[.string ⟨#[]⟩, .string ⟨#[]⟩, .bool false]).cells m).toList, v.oneCell' = true := by
  intro v hv
  rw [cells3] at hv
  simp only [Builtin.zeroCells, Array.toList_map, List.mem_map, Array.toList_range] at hv
  obtain ⟨i, _, rfl⟩ := hv
  have : i % 3 = 0 ∨ i % 3 = 1 ∨ i % 3 = 2 := by omega
  rcases this with h | h | h <;> simp [h, Value.oneCell']
theorem zero3_length (m : Nat) : (Builtin.zeroCells (Value.agg #[.string ⟨#[]⟩, .string ⟨#[]⟩, .bool false]).cells m).toList.length = m * 3 := by
  rw [cells3]
  simp [Builtin.zeroCells]
/-- The tail of a row of the call's own, cleared. -/
theorem clear_tail {w : World} {B g n cap e : Nat} {xs : List Value} (h : w.ownsRow B 58 3 (.slice (some ⟨g, 0, none⟩) n cap) n xs) (he : e ≤ n) :
    ∃ W1, (∀ ty, (Builtin.clear_ #[54] ty #[.slice (some ⟨g, if cap = e then 0 else e * 3, none⟩) (n - e) (cap - e)]).run Try.prog w = .ok (.tuple #[]) W1) ∧ W1.ownsRow B 58 3 (.slice (some ⟨g, 0, none⟩) e cap) e (xs.take (e * 3)) ∧ w.grownBy W1 (some g) := by
  obtain ⟨h1, h2⟩ := h
  rcases h2 with ⟨hv, _⟩ | ⟨g', cap', cur, hv, hb, hg, hn, hc, hs, ht⟩
  · cases hv
  simp only [Value.slice.injEq, Option.some.injEq, Addr.mk.injEq, true_and, and_true] at hv
  obtain ⟨rfl, rfl⟩ := hv
  have hlen : (xs.take (e * 3)).length = e * 3 := by rw [List.length_take]; omega
  by_cases hne : e = n
  · subst hne
    refine ⟨w, fun ty => ?_, ⟨hlen, .inr ⟨g, cap, cur, rfl, hb, hg, hn, hc, hs, ?_⟩⟩, World.grownBy.refl _ _⟩
    · simp [Builtin.clear_, run_underlying Try.underlying54]
    · rw [← ht, List.take_take, Nat.min_self]
  · have hlt : e < n := by omega
    have hce : ¬ cap = e := by omega
    obtain ⟨cur', k1, k2, k3⟩ := heap_setCells (Builtin.zeroCells (Value.agg #[.string ⟨#[]⟩, .string ⟨#[]⟩, .bool false]).cells (n - e)).toList (e * 3) w cur hg
    have hst := run_storeCells_cells (P := Try.prog) g (e * 3) (Builtin.zeroCells (Value.agg #[.string ⟨#[]⟩, .string ⟨#[]⟩, .bool false]).cells (n - e)).toList 0 w (fun j hj => by
      rw [zero3_length] at hj
      rw [cell_rowL hg, Array.getElem?_eq_getElem (by omega)]
      rfl) (fun j hj => frozen_rowL hg _) (zero3 _)
    refine ⟨_, fun ty => ?_, ⟨hlen, .inr ⟨g, cap, cur', rfl, hb, k1, by omega, hc, by omega, ?_⟩⟩, grown_setCells _ _ _⟩
    · obtain ⟨m, hm⟩ : ∃ m, n - e = m + 1 := ⟨n - e - 1, by omega⟩
      rw [hm] at hst ⊢
      simp only [Nat.add_zero] at hst
      simp [Builtin.clear_, run_underlying Try.underlying54, hst, hce]
    · rw [k3 _ (Nat.le_refl _), ← ht, List.take_take, Nat.min_eq_left (by omega)]
theorem cut_tail {g n cap e : Nat} (he : e ≤ n) (w : World) :
    (Instr.slice 54 (.slice (some ⟨g, 0, none⟩) n cap) (some (.int .i64 (e : Int))) none none).run Try.prog w = .ok (.slice (some ⟨g, if cap = e then 0 else e * 3, none⟩) (n - e) (cap - e)) w := by
  rw [run_slice_l w 54 (some ⟨g, 0, none⟩) n cap Try.elemSheets .i64 (e : Int) (by omega) (by omega), Try.sizeSheets]
  simp only [Result.andThen, sliced, Int.toNat_natCast]
  split <;> simp [Addr.add_mid]

def cutN (l : List Sh) : Nat → Nat
  | 0 => 0
  | n + 1 => if (l.getD n noSh).now = ⟨#[]⟩ then cutN l n else n + 1
theorem cutN_le (l : List Sh) : ∀ n, cutN l n ≤ n
  | 0 => Nat.le_refl _
  | n + 1 => by
    have := cutN_le l n
    unfold cutN
    split <;> omega
/-- Empty pages at the end go. -/
def cutL (l : List Sh) : List Sh := l.take (cutN l l.length)
theorem toList_inj {a b : ByteArray} (h : a.toList = b.toList) : a = b := by
  rw [ByteArray.toList_eq, ByteArray.toList_eq] at h
  exact ByteArray.ext (Array.toList_inj.1 h)
theorem not_empty {s : ByteArray} (h : ¬ s = ⟨#[]⟩) : s.toList.isEmpty = false := by
  rw [Bool.eq_false_iff]
  intro e
  refine h (toList_inj ?_)
  rw [List.isEmpty_iff.1 e, ByteArray.toList_eq]
theorem clear_none (ty : TypeId) (w : World) : (Builtin.clear_ #[54] ty #[.slice none 0 0]).run Try.prog w = .ok (.tuple #[]) w := by
  simp [Builtin.clear_, run_underlying Try.underlying54]

set_option maxRecDepth 10000 in
set_option maxHeartbeats 4000000 in
theorem cut_any (w : World) (B fb : Nat) (v : Value) (l : List Sh) (h : FileAt w B fb v l) :
    Calls Try.prog 27 #[.pointer (some ⟨fb, 0, none⟩)] w fun e w' => e = .returned (.tuple #[]) ∧ ∃ v', FileAt w' B fb v' (cutL l) ∧ Fo fb w v w' v' := by
  have hc := cell_of_one h.obj
  have hfr := free_of_one h.obj
  rcases h.form with ⟨rfl, rfl⟩ | ⟨g, cap, rfl, h1, h2, hne, h3, h4⟩
  · have hcl := clear_none
    have HN := hid (h.put rfl (World.ownsRow_nil w B 58 3) (by simp) : FileAt _ B fb (.slice none 0 0) [])
    clear h
    go_enter Try.func27, Try.ntmps27
    go_wp2
    refine wp_loop_rounds 1 ?_
    rw [rounds_succ]
    go_wp2
    go_end0
    exact ⟨rfl, _, HN.out, Fo.obj _⟩
  · have F0 := hid h
    have hl4 := h.len
    have hlt := h.lt
    clear h
    go_enter Try.func27, Try.ntmps27
    go_wp2
    go_loopg [2] l.length (fun ge en wr => ∃ (e : Nat), ge = e ∧ en = .int .i64 e ∧ e ≤ l.length ∧ Hid (cutN l l.length = cutN l e) ∧ wr = w)
    case atStart => exact ⟨_, rfl, rfl, Nat.le_refl _, hid rfl, rfl⟩
    case round =>
      obtain ⟨e, hge, rfl, hel, hcut, rfl⟩ := hrel
      replace hge := hid hge
      by_cases hgo : 0 < e ∧ (l.getD (e - 1) noSh).now = ⟨#[]⟩
      · obtain ⟨k, rfl⟩ : ∃ k, e = k + 1 := ⟨e - 1, by omega⟩
        have hk : k < l.length := by omega
        have hgo' : l[k].now = ⟨#[]⟩ := by simpa [hk] using hgo.2
        have hx := atSheets g l.length cap k hk
        have hcc := (F0.out.cell rfl k hk).1
        rw [hgo'] at hcc
        have e1 : cutN l (k + 1) = cutN l k := by
          have := hgo.2
          simp only [Nat.add_sub_cancel] at this
          rw [cutN, if_pos this]
        replace e1 := hid e1
        clear hgo hgo'
        go_wp2
        go_roundg k
        case rel => exact ⟨k, rfl, by go_num, by omega, hid (hcut.out.trans e1.out), rfl⟩
        case measure => have := hge.out; omega
      · have e1 : cutN l e = e := by
          cases e with
          | zero => rfl
          | succ k =>
            have : ¬ (l.getD k noSh).now = ⟨#[]⟩ := fun h => hgo ⟨by omega, by simpa using h⟩
            simp only [cutN, if_neg this]
        have hcut2 : cutL l = l.take e := by unfold cutL; rw [hcut.out, e1]
        obtain ⟨W1, hW, hown, hgrow⟩ := clear_tail (e := e) F0.out.row hel
        have hct := fun W => cut_tail (g := g) (cap := cap) hel W
        generalize (if cap = e then 0 else e * 3) = X at hW hct
        have hch := fun W => cut_head (ao := some ⟨g, 0, none⟩) (len := l.length) (cap := cap) (n := e) Try.elemSheets Try.sizeSheets (by omega) W
        have ho1 : W1.heap[fb]? = wr.heap[fb]? := hgrow.block fb hlt (by simp; omega)
        have hobj := ho1.trans F0.out.obj
        have hc1 := cell_of_one hobj
        have hf1 := free_of_one hobj
        rw [rowS_take l e hel] at hown
        have hle : (l.take e).length = e := by rw [List.length_take]; omega
        have HN := hid (F0.out.put (u := .slice (some ⟨g, 0, none⟩) e cap) (m := l.take e) ho1 (by rw [hle]; exact hown) (by omega))
        have HO := hid ((Fo.grown (fb := fb) (v := .slice (some ⟨g, 0, none⟩) l.length cap) (v' := .slice (some ⟨g, 0, none⟩) e cap) hgrow (fun r hr => .inl hr)).trans (Fo.obj (.slice (some ⟨g, 0, none⟩) e cap)))
        replace hcut2 := hid hcut2
        by_cases h0 : 0 < e
        · have hk : e - 1 < l.length := by omega
          have hgo' : ¬ l[e - 1].now = ⟨#[]⟩ := by simpa [hk, h0] using hgo
          have hx := atSheets g l.length cap (e - 1) hk
          rw [show ((e - 1 : Nat) : Int) = (e : Int) - 1 by omega] at hx
          have hcc := (F0.out.cell rfl (e - 1) hk).1
          clear hown hgrow hgo hcut e1 ho1 hobj hle
          generalize l[e - 1].now = s at *
          have hse := not_empty hgo'
          clear hgo'
          go_wp2
          go_end0
          rw [hcut2.out]
          exact ⟨rfl, _, HN.out, HO.out⟩
        · clear hown hgrow hgo hcut e1 ho1 hobj hle
          go_wp2
          go_end0
          rw [hcut2.out]
          exact ⟨rfl, _, HN.out, HO.out⟩
end Go.Proofs.Ytehfhacghfagoaa

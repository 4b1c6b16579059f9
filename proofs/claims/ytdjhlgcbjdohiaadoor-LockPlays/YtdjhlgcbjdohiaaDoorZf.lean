/- Contracts of package procs' Spawn, Kill and Power. -/
import Derived.Test.YtdjhlgcbjdohiaaDoorZe
namespace Go.Proofs.YtdjhlgcbjdohiaaDoor
open Go.RowKit Go.Conc Go.Sort

theorem rises_snoc {l : List Int} {last : Int} (hp : l.Pairwise (· < ·)) (hu : ∀ x ∈ l, x ≤ last) : (l ++ [last + 1]).Pairwise (· < ·) := by
  rw [List.pairwise_append]
  refine ⟨hp, by simp, fun a ha b hb => ?_⟩
  have := hu a ha
  have : b = last + 1 := by simpa using hb
  omega
theorem upto_snoc {l : List Int} {last : Int} (hu : ∀ x ∈ l, x ≤ last) : ∀ x ∈ l ++ [last + 1], x ≤ last + 1 := by
  intro x hx
  rw [List.mem_append] at hx
  rcases hx with hx | hx
  · have := hu x hx; omega
  · have : x = last + 1 := by simpa using hx
    omega
set_option maxRecDepth 10000 in
set_option maxHeartbeats 4000000 in
theorem spawn_any (w : World) (B pb cb : Nat) (v : Value) (last : Int) (l : List Int) (h : ProcsAt w B pb cb v last l l.length) (hl : l.length < 64) (hla : last < 100000) :
    Calls Tryd.prog 20 #[.pointer (some ⟨pb, 0, none⟩)] w fun e w' => e = .returned (.tuple #[.int .i64 (last + 1), .nilIface]) ∧ ∃ v', ProcsAt w' B pb cb v' (last + 1) (l ++ [last + 1]) (l ++ [last + 1]).length ∧ Po pb cb w v w' v' := by
  obtain ⟨i0, hi, hz0, hz1, hz2⟩ := info_parts Tryd.infoInt
  obtain ⟨s, r, hc⟩ := h.ch
  have HT := hid (ptake_any w pb cb v last l.length s r h.obj hc)
  have P1 := h.setc (l.length + 1) (s + 1) r
  have O1 : Po pb cb w v (w.setChan cb 64 (takenV (l.length + 1)) false (s + 1) r false) v := Po.chan _ _ _ _
  generalize hw1 : w.setChan cb 64 (takenV (l.length + 1)) false (s + 1) r false = w1 at *
  have P2 := P1.put0 (last + 1) (by omega) (by omega)
  have O2 : Hid (Po pb cb w v (w1.setCell ⟨pb, 0, none⟩ (.int .i64 (last + 1))) v) := hid (O1.trans (Po.obj _))
  have hx1 := cell_rowL P1.obj
  have hz1' := frozen_rowL P1.obj
  have hlt1 := P1.lt
  obtain ⟨ao, cap, rfl⟩ := h.slice
  have hlo := h.lo
  have hw : IntKind.i64.wrap (last + 1) = last + 1 := by rw [IntKind.wrap_i64]; omega
  have hx2 := cell_rowL P2.obj
  have hz2' := frozen_rowL P2.obj
  have hlt2 := P2.lt
  have HR := hid (rises_snoc h.rises h.upto)
  have HU := hid (upto_snoc h.upto)
  replace P1 := hid P1
  replace P2 := hid P2
  replace hw1 := hid hw1
  clear h hc O1
  generalize hW : w1.setCell ⟨pb, 0, none⟩ (.int .i64 (last + 1)) = W at *
  have hWh : Hid (w1.setCell ⟨pb, 0, none⟩ (.int .i64 (last + 1)) = W) := hid hW
  have bsz := P2.out.baseLe
  have A1 : Hid (∀ X, Below W.heap.size W X → X.heap[W.heap.size]? = some (.cells #[.int .i64 (last + 1)] 3 (0, 0)) → ∀ ty, ∃ v' w', (Builtin.append_ #[36, 36] ty #[.slice ao l.length cap, .slice (some ⟨W.heap.size, 0, none⟩) 1 1]).run Tryd.prog X = .ok v' w' ∧
      (∃ g cap', v' = .slice (some ⟨g, 0, none⟩) (l.length + 1) cap' ∧ pb < w'.heap.size ∧ (∀ j, w'.cell? ⟨pb, j, none⟩ = #[Value.int .i64 (last + 1), .slice ao l.length cap, .chan (some cb)][j]?) ∧ (∀ j, w'.frozen? ⟨pb, j, none⟩ = false) ∧
        Hid (ProcsAt (w'.setCell ⟨pb, 1, none⟩ v') B pb cb v' (last + 1) (l ++ [last + 1]) (l.length + 1) ∧ Po pb cb w (.slice ao l.length cap) (w'.setCell ⟨pb, 1, none⟩ v') v'))) := hid (by
    intro X hX hbk ty
    have hPX := P2.out.below hX
    obtain ⟨g, cap', w', e1, e2, e3, e4⟩ := push_one i0 hi hz0 hz1 hz2 _ l (last + 1) hPX.row ty W.heap.size hbk hPX.baseLe (by omega)
    have hp := e3.block pb hPX.lt hPX.own_ne.1
    have hcc := e3.block cb hPX.clt hPX.own_ne.2
    have hob := hp.trans hPX.obj
    refine ⟨_, w', e1, g, cap', rfl, lt_of_heap hob, cell_rowL hob, frozen_rowL hob, ?_, ?_⟩
    · exact hPX.put1 hp hcc e2 (by simp; omega) HR.out HU.out
    · refine O2.out.trans ((Po.of_below hX).trans ((Po.grown e3 ?_).trans (Po.obj _)))
      intro k hk
      simp only [Value.ownBlock, Option.some.injEq] at hk
      subst hk
      exact e4)
  have b0 : Below W.heap.size W W.drew := ⟨rfl, rfl, rfl, Nat.le_refl _, fun _ _ => rfl⟩
  have bA := hid (b0.alloc (Nat.le_refl _) (.cells #[.int .i64 (last + 1)] 3))
  have hkA := hid (heap_newL W.drew (.cells #[.int .i64 (last + 1)] 3))
  clear b0
  go_enter Tryd.func20, Tryd.ntmps20
  go_wp2_with (go_at_call 41; refine HT.out.mono ?_; rintro e w' ⟨ht, _⟩; obtain ⟨rfl, rfl⟩ := ht hl; clear ht HT)
  go_region_law (first
    | (refine step_append_any rfl (.tmp 19) (.tmp 24) 36 rfl _ _ rfl rfl (A1.out _ bA.out hkA.out _) ?_; rintro v1 w2 ⟨g, cap', rfl, hl2, hx3, hz3, hfin⟩))
  all_goals go_wp2
  all_goals go_ret2
  all_goals exact ⟨rfl, _, by simpa using hfin.out.1, hfin.out.2⟩

set_option maxHeartbeats 1000000 in
theorem spawn_full (w : World) (B pb cb : Nat) (v : Value) (last : Int) (l : List Int) (h : ProcsAt w B pb cb v last l l.length) (hl : l.length = 64) :
    Calls Tryd.prog 20 #[.pointer (some ⟨pb, 0, none⟩)] w fun e w' => e = .returned (.tuple #[.int .i64 0, .iface 69 (.int .i64 26)]) ∧ w' = w := by
  obtain ⟨s, r, hc⟩ := h.ch
  have HT := hid (ptake_any w pb cb v last l.length s r h.obj hc)
  clear h hc
  go_enter Tryd.func20, Tryd.ntmps20
  go_wp2_with (go_at_call 41; refine HT.out.mono ?_; rintro e w' ⟨_, ht⟩; obtain ⟨rfl, rfl⟩ := ht (by omega))
  go_ret2
  exact ⟨rfl, rfl⟩

set_option maxHeartbeats 1000000 in
theorem kill_not (w : World) (B pb cb n : Nat) (v : Value) (last x : Int) (l : List Int) (h : ProcsAt w B pb cb v last l n) (hx : ¬ x ∈ l) :
    Calls Tryd.prog 22 #[.pointer (some ⟨pb, 0, none⟩), .int .i64 x] w fun e w' => e = .returned (.iface 69 (.int .i64 25)) ∧ Below w.heap.size w w' := by
  have hxx := cell_rowL h.obj
  have hlt := h.lt
  have HS := hid (search_any w B v l x h.row h.len h.rises)
  have hcx : l.contains x = false := by simpa using hx
  rw [hcx] at HS
  obtain ⟨ao, cap, rfl⟩ := h.slice
  clear h hx hcx
  generalize l.countP (· < x) = i at *
  go_enter Tryd.func22, Tryd.ntmps22
  go_wp2_with (go_at_call 42; refine HS.out.mono ?_; rintro e w1 ⟨rfl, q, rfl⟩; have hb := hid (below_drewN w q); generalize w.drewN q = X at *)
  go_ret
  exact ⟨rfl, hb.out⟩

/-- Behind slices.Delete, and the store of the row that it gives. -/
theorem killed {w w1 w2 : World} {B pb cb g cap : Nat} {last x : Int} {l : List Int} (h : ProcsAt w B pb cb (.slice (some ⟨g, 0, none⟩) l.length cap) last l l.length) (hx : x ∈ l) (hb : Below w.heap.size w w1)
    (ho : OwnInts w2 B (.slice (some ⟨g, 0, none⟩) (killL l x).length cap) (killL l x)) (hg : w1.grownBy w2 (some g)) :
    w2.heap[pb]? = some (.cells #[.int .i64 last, .slice (some ⟨g, 0, none⟩) l.length cap, .chan (some cb)] 76 (0, 0)) ∧ (∀ j, w2.frozen? ⟨pb, j, none⟩ = false) ∧ True ∧
    ProcsAt (w2.setCell ⟨pb, 1, none⟩ (.slice (some ⟨g, 0, none⟩) (killL l x).length cap)) B pb cb (.slice (some ⟨g, 0, none⟩) (killL l x).length cap) last (killL l x) l.length ∧
    Po pb cb w (.slice (some ⟨g, 0, none⟩) l.length cap) (w2.setCell ⟨pb, 1, none⟩ (.slice (some ⟨g, 0, none⟩) (killL l x).length cap)) (.slice (some ⟨g, 0, none⟩) (killL l x).length cap) := by
  have h1 := h.below hb
  have hp := hg.block pb h1.lt h1.own_ne.1
  have hc := hg.block cb h1.clt h1.own_ne.2
  have hob := hp.trans h1.obj
  have hl := killL_length l x h.rises hx
  have hln := h.len
  refine ⟨hob, frozen_rowL hob, trivial, h1.put1 hp hc ho (by omega) (h.rises.filter _) (fun y hy => h.upto y ((killL_mem l x y).1 hy).1), (Po.of_below hb).trans ((Po.grown (v := .slice (some ⟨g, 0, none⟩) l.length cap) (v' := .slice (some ⟨g, 0, none⟩) (killL l x).length cap) hg (fun k hk => .inl hk)).trans (Po.obj _))⟩

set_option maxRecDepth 10000 in
set_option maxHeartbeats 4000000 in
theorem kill_any (w : World) (B pb cb : Nat) (v : Value) (last x : Int) (l : List Int) (h : ProcsAt w B pb cb v last l l.length) (hx : x ∈ l) :
    Calls Tryd.prog 22 #[.pointer (some ⟨pb, 0, none⟩), .int .i64 x] w fun e w' => e = .returned .nilIface ∧ ∃ v', ProcsAt w' B pb cb v' last (killL l x) (killL l x).length ∧ Po pb cb w v w' v' := by
  have hxx := cell_rowL h.obj
  have hlt := h.lt
  have HS := hid (search_any w B v l x h.row h.len h.rises)
  have hcx : l.contains x = true := by simpa using hx
  rw [hcx] at HS
  have hkl := killL_length l x h.rises hx
  have hnl := h.len
  have hi : l.countP (· < x) ≤ l.length := List.countP_le_length
  obtain ⟨g, cap, rfl⟩ : ∃ g cap, v = .slice (some ⟨g, 0, none⟩) l.length cap := by
    rcases h.row.2 with ⟨_, h0⟩ | ⟨g, cap, cur, rfl, _⟩
    · omega
    · exact ⟨g, cap, rfl⟩
  have HP := hid h
  have HX := hid hx
  clear h hx hcx
  have HD : Hid (∀ X, X.heap = w.heap → Calls Tryd.prog 43 #[.slice (some ⟨g, 0, none⟩) l.length cap, .int .i64 (l.countP (· < x) : Nat), .int .i64 ((l.countP (· < x) : Nat) + 1)] X fun e w' => e = .returned (.slice (some ⟨g, 0, none⟩) (killL l x).length cap) ∧ OwnInts w' B (.slice (some ⟨g, 0, none⟩) (killL l x).length cap) (killL l x) ∧ X.grownBy w' (some g)) :=
    hid (fun X hX => delete_any X B g cap l x (HP.out.row.kept (fun k _ => by rw [hX])) HP.out.rises HX.out)
  generalize l.countP (· < x) = i at *
  have hw : IntKind.i64.wrap ((i : Int) + 1) = (i : Int) + 1 := by rw [IntKind.wrap_i64]; omega
  go_enter Tryd.func22, Tryd.ntmps22
  go_wp2_with (first
    | (go_at_call 42; refine HS.out.mono ?_; rintro e w1 ⟨rfl, q, hq⟩; have hb := hid (show Below w.heap.size w w1 by rw [hq]; exact below_drewN w q); have hh : Hid (w1.heap = w.heap) := hid (by rw [hq]; rfl); have hob := cell_rowL (hb.out.block pb hlt ▸ HP.out.obj : w1.heap[pb]? = _); have hlt1 : pb < w1.heap.size := Nat.lt_of_lt_of_le hlt hb.out.size; clear hq)
    | (go_at_call 43; refine (HD.out _ hh.out).mono ?_; rintro e w2 ⟨rfl, ho2, hg2⟩; obtain ⟨hp1, hp2, hz2, hp3, hp4⟩ := killed HP.out HX.out hb.out ho2 hg2; have hlt2 := lt_of_heap hp1; replace hp1 := cell_rowL hp1; replace hp3 := hid hp3; replace hp4 := hid hp4; clear ho2 hg2)
    | (go_at_call 44; obtain ⟨s, r, hch⟩ := hp3.out.ch; refine (pleave_any _ pb cb _ last l.length s r hp3.out.obj hch).mono ?_; rintro e w3 ⟨_, hlv⟩; obtain ⟨rfl, rfl⟩ := hlv _ hkl.symm; have hp5 := hid (hp3.out.setc (killL l x).length s (r + 1)); have hp6 := hid (hp4.out.trans (Po.chan 64 (takenV (killL l x).length) s (r + 1))); clear hlv hch))
  go_ret
  exact ⟨rfl, _, hp5.out, hp6.out⟩

end Go.Proofs.YtdjhlgcbjdohiaaDoor

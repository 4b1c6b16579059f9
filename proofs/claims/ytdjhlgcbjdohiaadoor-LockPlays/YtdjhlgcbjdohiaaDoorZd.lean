/- Who lives, in memory: the numbers as plain data, what a call may turn; contracts of package procs' New, takePlace and leavePlace. -/
import Derived.Test.YtdjhlgcbjdohiaaDoorZa
import Derived.Test.YtdjhlgcbjdohiaaDoorYc
import Derived.Deep.Cut
namespace Go.Proofs.YtdjhlgcbjdohiaaDoor
open Go.RowKit Go.Conc

/-- So many places that are taken. -/
def takenV (n : Nat) : Array Value := Array.replicate n (.agg #[])
theorem takenV_size (n : Nat) : (takenV n).size = n := by simp [takenV]
theorem takenV_push (n : Nat) : (takenV n).push (.agg #[]) = takenV (n + 1) := by simp [takenV, Array.replicate_succ]
theorem takenV_pop (n : Nat) : (takenV (n + 1)).extract 1 (takenV (n + 1)).size = takenV n := by simp [takenV]
/-- The object in block pb, its channel in block cb with n places taken, the row of those that live v, all of it from block B on. -/
structure ProcsAt (w : World) (B pb cb : Nat) (v : Value) (last : Int) (l : List Int) (n : Nat) : Prop where
  obj : w.heap[pb]? = some (.cells #[.int .i64 last, v, .chan (some cb)] 76 (0, 0))
  base : B ≤ pb
  cbase : B ≤ cb
  ch : ∃ s r, w.heap[cb]? = some (.chan 64 (takenV n) false s r false)
  row : OwnInts w B v l
  len : l.length ≤ 64
  rises : l.Pairwise (· < ·)
  upto : ∀ x ∈ l, x ≤ last
  lo : 0 ≤ last
  hi : last ≤ 100000
theorem ProcsAt.lt {w : World} {B pb cb : Nat} {v : Value} {last : Int} {l : List Int} {n : Nat} (h : ProcsAt w B pb cb v last l n) : pb < w.heap.size := lt_of_heap h.obj
theorem ProcsAt.clt {w : World} {B pb cb : Nat} {v : Value} {last : Int} {l : List Int} {n : Nat} (h : ProcsAt w B pb cb v last l n) : cb < w.heap.size := by
  obtain ⟨s, r, hc⟩ := h.ch
  exact lt_of_heap hc
theorem ProcsAt.baseLe {w : World} {B pb cb : Nat} {v : Value} {last : Int} {l : List Int} {n : Nat} (h : ProcsAt w B pb cb v last l n) : B ≤ w.heap.size := by have := h.lt; have := h.base; omega
theorem ProcsAt.rowLt {w : World} {B pb cb : Nat} {v : Value} {last : Int} {l : List Int} {n : Nat} (h : ProcsAt w B pb cb v last l n) : ∀ g, v.ownBlock = some g → B ≤ g ∧ g < w.heap.size := World.ownsRow.lt h.row
theorem ProcsAt.apart {w : World} {B pb cb : Nat} {v : Value} {last : Int} {l : List Int} {n : Nat} (h : ProcsAt w B pb cb v last l n) : pb ≠ cb := by
  rintro rfl
  obtain ⟨s, r, hc⟩ := h.ch
  have := h.obj
  rw [hc] at this
  simp at this
theorem own_block {w : World} {B : Nat} {v : Value} {l : List Int} (h : OwnInts w B v l) {g : Nat} (hg : v.ownBlock = some g) : ∃ cur, w.heap[g]? = some (.cells cur 3 (0, 0)) := by
  rcases h.2 with ⟨rfl, h0⟩ | ⟨g', cap, cur, rfl, hb, hgg, _⟩
  · simp [Value.ownBlock] at hg
  · simp [Value.ownBlock] at hg
    subst hg
    exact ⟨cur, hgg⟩
theorem ProcsAt.own_ne {w : World} {B pb cb : Nat} {v : Value} {last : Int} {l : List Int} {n : Nat} (h : ProcsAt w B pb cb v last l n) : some pb ≠ v.ownBlock ∧ some cb ≠ v.ownBlock := by
  refine ⟨fun e => ?_, fun e => ?_⟩
  · obtain ⟨cur, hc⟩ := own_block h.row e.symm
    have := h.obj
    rw [hc] at this
    simp at this
  · obtain ⟨cur, hc⟩ := own_block h.row e.symm
    obtain ⟨s, r, h'⟩ := h.ch
    rw [hc] at h'
    simp at h'
theorem OwnInts.kept {w w' : World} {B : Nat} {v : Value} {l : List Int} (h : OwnInts w B v l) (hr : ∀ g, v.ownBlock = some g → w'.heap[g]? = w.heap[g]?) : OwnInts w' B v l := by
  refine ⟨h.1, ?_⟩
  rcases h.2 with hn | ⟨g, cap, cur, rfl, hb, hgg, rest⟩
  · exact .inl hn
  · exact .inr ⟨g, cap, cur, rfl, hb, (hr g rfl).trans hgg, rest⟩
theorem ProcsAt.kept {w w' : World} {B pb cb : Nat} {v : Value} {last : Int} {l : List Int} {n : Nat} (h : ProcsAt w B pb cb v last l n) (hp : w'.heap[pb]? = w.heap[pb]?) (hc : w'.heap[cb]? = w.heap[cb]?) (hr : ∀ g, v.ownBlock = some g → w'.heap[g]? = w.heap[g]?) : ProcsAt w' B pb cb v last l n := by
  obtain ⟨s, r, h'⟩ := h.ch
  exact ⟨hp.trans h.obj, h.base, h.cbase, ⟨s, r, hc.trans h'⟩, h.row.kept hr, h.len, h.rises, h.upto, h.lo, h.hi⟩
theorem ProcsAt.below {w w' : World} {B pb cb : Nat} {v : Value} {last : Int} {l : List Int} {n : Nat} (h : ProcsAt w B pb cb v last l n) (hb : Below w.heap.size w w') : ProcsAt w' B pb cb v last l n :=
  h.kept (hb.block pb h.lt) (hb.block cb h.clt) (fun g hg => hb.block g (h.rowLt g hg).2)
theorem ProcsAt.slice {w : World} {B pb cb : Nat} {v : Value} {last : Int} {l : List Int} {n : Nat} (h : ProcsAt w B pb cb v last l n) : ∃ ao cap, v = .slice ao l.length cap := h.row.slice

/-- What a method of the object may turn: its block, its channel, its row, new memory. -/
structure Po (pb cb : Nat) (w : World) (v : Value) (w' : World) (v' : Value) : Prop where
  os : w'.os = w.os
  tape : w'.tape = w.tape
  output : w'.output = w.output
  size : w.heap.size ≤ w'.heap.size
  block : ∀ k, k < w.heap.size → k ≠ pb → k ≠ cb → v.ownBlock ≠ some k → w'.heap[k]? = w.heap[k]?
  row : ∀ g, v'.ownBlock = some g → v.ownBlock = some g ∨ w.heap.size ≤ g
theorem Po.refl (pb cb : Nat) (w : World) (v : Value) : Po pb cb w v w v := ⟨rfl, rfl, rfl, Nat.le_refl _, fun _ _ _ _ _ => rfl, fun _ h => .inl h⟩
theorem Po.trans {pb cb : Nat} {w w1 w2 : World} {v v1 v2 : Value} (h : Po pb cb w v w1 v1) (k : Po pb cb w1 v1 w2 v2) : Po pb cb w v w2 v2 := by
  refine ⟨k.os.trans h.os, k.tape.trans h.tape, k.output.trans h.output, Nat.le_trans h.size k.size, fun i hi hf hc hv => ?_, fun g hg => ?_⟩
  · refine (k.block i (Nat.lt_of_lt_of_le hi h.size) hf hc (fun e => ?_)).trans (h.block i hi hf hc hv)
    rcases h.row i e with h' | h'
    · exact hv h'
    · omega
  · rcases k.row g hg with h' | h'
    · exact h.row g h'
    · exact .inr (Nat.le_trans h.size h')
theorem Po.below {pb cb B : Nat} {w w' : World} {v v' : Value} {last : Int} {l : List Int} {n : Nat} (h : Po pb cb w v w' v') (hf : ProcsAt w B pb cb v last l n) : Below B w w' :=
  ⟨h.os, h.tape, h.output, h.size, fun k hk => h.block k (by have := hf.baseLe; omega) (by have := hf.base; omega) (by have := hf.cbase; omega) (fun e => by have := (hf.rowLt k e).1; omega)⟩
theorem Po.of_below {pb cb : Nat} {w w' : World} {v : Value} (h : Below w.heap.size w w') : Po pb cb w v w' v :=
  ⟨h.os, h.tape, h.output, h.size, fun k hk _ _ _ => h.block k hk, fun _ h => .inl h⟩
theorem Po.grown {pb cb : Nat} {w w' : World} {v v' : Value} (h : w.grownBy w' v.ownBlock) (hr : ∀ g, v'.ownBlock = some g → v.ownBlock = some g ∨ w.heap.size ≤ g) : Po pb cb w v w' v' :=
  ⟨h.os, h.tape, h.output, h.size, fun k hk _ _ hv => h.block k hk (fun e => hv e.symm), hr⟩
theorem Po.obj {pb cb j : Nat} {w : World} {v : Value} (u : Value) : Po pb cb w v (w.setCell ⟨pb, j, none⟩ u) v :=
  ⟨rfl, rfl, rfl, by simp, fun k _ hf _ _ => by rw [Below.heap_setCell _ _ _ _ (by simpa using hf)], fun _ h => .inl h⟩
theorem Po.chan {pb cb : Nat} {w : World} {v : Value} (cap : Nat) (buf : Array Value) (s r : Nat) : Po pb cb w v (w.setChan cb cap buf false s r false) v :=
  ⟨rfl, rfl, rfl, by simp [World.setChan], fun k _ _ hc _ => setChan_other w cb k cap buf false s r false (Ne.symm hc), fun _ h => .inl h⟩
theorem Po.drew {pb cb : Nat} {w w' : World} {v v' : Value} (h : Po pb cb w v w' v') : Po pb cb w v w'.drew v' := ⟨h.os, h.tape, h.output, h.size, h.block, h.row⟩
theorem Po.as {pb cb : Nat} {w w' : World} {v v' u : Value} (h : Po pb cb w v w' v') (e : ∀ g, u.ownBlock = some g → v'.ownBlock = some g) : Po pb cb w v w' u := ⟨h.os, h.tape, h.output, h.size, h.block, fun g hg => h.row g (e g hg)⟩

/-- Another number of places taken. -/
theorem ProcsAt.setc {w : World} {B pb cb : Nat} {v : Value} {last : Int} {l : List Int} {n : Nat} (h : ProcsAt w B pb cb v last l n) (m s r : Nat) : ProcsAt (w.setChan cb 64 (takenV m) false s r false) B pb cb v last l m :=
  ⟨(setChan_other w cb pb _ _ _ _ _ _ h.apart.symm).trans h.obj, h.base, h.cbase, ⟨s, r, heap_setChan w cb 64 (takenV m) false s r false h.clt⟩,
    h.row.kept (fun g hg => setChan_other w cb g _ _ _ _ _ _ (fun e => h.own_ne.2 (by rw [hg, e]))), h.len, h.rises, h.upto, h.lo, h.hi⟩
/-- Another number given last. -/
theorem ProcsAt.put0 {w : World} {B pb cb : Nat} {v : Value} {last : Int} {l : List Int} {n : Nat} (h : ProcsAt w B pb cb v last l n) (last' : Int) (h1 : last ≤ last') (h2 : last' ≤ 100000) : ProcsAt (w.setCell ⟨pb, 0, none⟩ (.int .i64 last')) B pb cb v last' l n := by
  obtain ⟨s, r, hc⟩ := h.ch
  have := h.lo
  refine ⟨heap_setCell_same w pb 0 _ _ _ h.obj, h.base, h.cbase, ⟨s, r, ?_⟩, h.row.kept (fun g hg => ?_), h.len, h.rises, fun x hx => by have := h.upto x hx; omega, by omega, h2⟩
  · rw [Below.heap_setCell _ _ _ _ (by simpa using h.apart.symm)]
    exact hc
  · rw [Below.heap_setCell _ _ _ _ (by simp only; rintro rfl; exact h.own_ne.1 hg.symm)]
/-- Another row of those that live. -/
theorem ProcsAt.put1 {w w' : World} {B pb cb : Nat} {v u : Value} {last : Int} {l m : List Int} {n : Nat} (h : ProcsAt w B pb cb v last l n) (hp : w'.heap[pb]? = w.heap[pb]?) (hcc : w'.heap[cb]? = w.heap[cb]?) (hr : OwnInts w' B u m) (h1 : m.length ≤ 64) (h2 : m.Pairwise (· < ·)) (h3 : ∀ x ∈ m, x ≤ last) : ProcsAt (w'.setCell ⟨pb, 1, none⟩ u) B pb cb u last m n := by
  obtain ⟨s, r, hc⟩ := h.ch
  have hob := hp.trans h.obj
  refine ⟨heap_setCell_same w' pb 1 _ _ _ hob, h.base, h.cbase, ⟨s, r, ?_⟩, hr.kept (fun g hg => ?_), h1, h2, h3, h.lo, h.hi⟩
  · rw [Below.heap_setCell _ _ _ _ (by simpa using h.apart.symm)]
    exact hcc.trans hc
  · rw [Below.heap_setCell _ _ _ _ ?_]
    simp only
    rintro rfl
    obtain ⟨cur, hcu⟩ := own_block hr hg
    rw [hcu] at hob
    simp at hob

theorem Tryd.bytesUnit : ∃ i, Tryd.prog.info? 77 = some i ∧ i.bytes = 0 := by
  have h : (Tryd.prog.info? 77).map (·.bytes) = some 0 := by kernel_rfl
  obtain ⟨i, hi, hb⟩ := Option.map_eq_some_iff.1 h
  exact ⟨i, hi, hb⟩
theorem mkChan (w : World) : (Instr.makeChan 72 (.int .i64 64)).run Tryd.prog w = .ok (.chan (some w.heap.size)) (w.alloc (.chan 64 #[] false 0 0 false)) := by
  obtain ⟨i, hi, hb⟩ := Tryd.bytesUnit
  exact run_makeChan (P := Tryd.prog) (w := w) Tryd.underlying72 hi .i64 64 (by omega) (by rw [hb]; omega)

set_option maxHeartbeats 1000000 in
theorem pnew_any (w : World) :
    Calls Tryd.prog 6 #[] w fun e w' => e = .returned (.pointer (some ⟨w.heap.size + 1, 0, none⟩)) ∧ ProcsAt w' w.heap.size (w.heap.size + 1) w.heap.size (.slice none 0 0) 0 [] 0 ∧ Below w.heap.size w w' := by
  have hmk := mkChan
  have B1 := (Below.refl w.heap.size w).alloc (Nat.le_refl _) (.chan 64 #[] false 0 0 false)
  have B2 := hid (B1.alloc (by simp) (.cells #[.int .i64 0, .slice none 0 0, .chan (some w.heap.size)] 76))
  have P0 : ProcsAt ((w.alloc (.chan 64 #[] false 0 0 false)).alloc (.cells #[.int .i64 0, .slice none 0 0, .chan (some w.heap.size)] 76)) w.heap.size (w.heap.size + 1) w.heap.size (.slice none 0 0) 0 [] 0 := by
    refine ⟨?_, by omega, Nat.le_refl _, ⟨0, 0, ?_⟩, OwnInts.nil _ _, by simp, by simp, by simp, by omega, by omega⟩
    · have := heap_newL (w.alloc (.chan 64 #[] false 0 0 false)) (.cells #[.int .i64 0, .slice none 0 0, .chan (some w.heap.size)] 76)
      rwa [World.size_alloc] at this
    · rw [Below.heap_alloc _ _ _ (by simp)]
      exact heap_newL w _
  replace P0 := hid P0
  clear B1
  go_enter Tryd.func6, Tryd.ntmps6
  go_wp2
  go_ret
  exact ⟨rfl, P0.out, B2.out⟩

set_option maxHeartbeats 1000000 in
theorem ptake_any (w : World) (pb cb : Nat) (v : Value) (last : Int) (n s r : Nat) (ho : w.heap[pb]? = some (.cells #[.int .i64 last, v, .chan (some cb)] 76 (0, 0))) (hc : w.heap[cb]? = some (.chan 64 (takenV n) false s r false)) :
    Calls Tryd.prog 41 #[.pointer (some ⟨pb, 0, none⟩)] w fun e w' => (n < 64 → e = .returned (.bool true) ∧ w' = w.setChan cb 64 (takenV (n + 1)) false (s + 1) r false) ∧ (64 ≤ n → e = .returned (.bool false) ∧ w' = w) := by
  have hx := cell_rowL ho
  have hlt := lt_of_heap ho
  replace ho := hid ho
  replace hc := hid hc
  go_enter Tryd.func41, Tryd.ntmps41
  by_cases hn : n < 64
  · go_upto_region 3 with fail
    refine wp_put (c := cb) (v := .agg #[]) (z := .agg #[]) ?_ hc.out (by rw [takenV_size]; exact hn) ?_
    · simp [go_sem, execOp, scase, Act.eval]
    rw [takenV_push]
    simp only [goInt]
    go_simp
    generalize hX : w.setChan cb 64 (takenV (n + 1)) false (s + 1) r false = X at *
    go_wp2
    go_ret
    exact ⟨fun _ => ⟨rfl, hX.symm⟩, fun h => absurd hn (by omega)⟩
  · go_upto_region 3 with fail
    refine wp_full (c := cb) (v := .agg #[]) (z := .agg #[]) ?_ hc.out (by rw [takenV_size]; omega) ?_
    · simp [go_sem, execOp, scase, Act.eval]
    simp only [goInt]
    go_simp
    go_wp2
    go_ret
    exact ⟨fun h => absurd h hn, fun _ => ⟨rfl, rfl⟩⟩

set_option maxHeartbeats 1000000 in
theorem pleave_any (w : World) (pb cb : Nat) (v : Value) (last : Int) (n s r : Nat) (ho : w.heap[pb]? = some (.cells #[.int .i64 last, v, .chan (some cb)] 76 (0, 0))) (hc : w.heap[cb]? = some (.chan 64 (takenV n) false s r false)) :
    Calls Tryd.prog 44 #[.pointer (some ⟨pb, 0, none⟩)] w fun e w' => (n = 0 → e = .returned (.bool false) ∧ w' = w) ∧ (∀ m, n = m + 1 → e = .returned (.bool true) ∧ w' = w.setChan cb 64 (takenV m) false s (r + 1) false) := by
  have hx := cell_rowL ho
  have hlt := lt_of_heap ho
  replace ho := hid ho
  replace hc := hid hc
  go_enter Tryd.func44, Tryd.ntmps44
  cases n with
  | zero =>
    go_upto_region 2 with fail
    refine wp_none (c := cb) (z := .agg #[]) ?_ hc.out ?_
    · simp [go_sem, execOp, rcase, Act.eval]
    simp only [goInt]
    go_simp
    go_wp2
    go_ret
    exact ⟨rfl, rfl⟩
  | succ n =>
    go_upto_region 2 with fail
    refine wp_recv (c := cb) (z := .agg #[]) ?_ hc.out (by rw [takenV_size]; omega) ?_
    · simp [go_sem, execOp, rcase, Act.eval]
    rw [takenV_pop]
    simp only [goInt]
    go_simp
    generalize hX : w.setChan cb 64 (takenV n) false s (r + 1) false = X at *
    go_wp2
    go_ret
    exact ⟨fun h => absurd h (by omega), fun m h => ⟨rfl, by rw [← hX, show n = m by omega]⟩⟩
end Go.Proofs.YtdjhlgcbjdohiaaDoor

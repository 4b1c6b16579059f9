/- Contract of package lock's takeSlots, of bytes that slots were written as. -/
import Derived.Test.YtdjhlgcbjdohiaaDoorJg
import Derived.Test.YtdjhlgcbjdohiaaDoorWde
import Derived.Laws.IdiomCopy
namespace Go.Proofs.YtdjhlgcbjdohiaaDoor
open Go.RowKit Go.Conc

/-- A slot that may be read. -/
def GoodSlot (s : SlotD) : Prop := 0 ≤ s.1 ∧ s.1 ≤ 1000000 ∧ 0 ≤ s.2 ∧ s.2 < 18446744073709551616 ∧ (s.1 = 0 → s.2 = 0)
def fillS (S : List SlotD) (k : Nat) : List SlotD := S.take k ++ freeS.drop k
theorem fillS_length (S : List SlotD) (h : S.length = 8) (k : Nat) (hk : k ≤ 8) : (fillS S k).length = 8 := by
  simp [fillS, h, freeS]; omega
theorem fillS_set (S : List SlotD) (h : S.length = 8) (k : Nat) (hk : k < 8) : (fillS S k).set k (pidAt S k, txnAt S k) = fillS S (k + 1) := by
  have h1 : freeS.drop k = (0, 0) :: freeS.drop (k + 1) := by
    rcases lt8 hk with rfl | rfl | rfl | rfl | rfl | rfl | rfl | rfl <;> rfl
  have h2 : (S.take k).length = k := by simp; omega
  rw [fillS, h1, List.set_append_right _ _ (by omega), h2, Nat.sub_self, List.set_cons_zero, fillS, List.take_succ_eq_append_getElem (by omega), atD_get S k (by omega)]
  simp [atD]
theorem fillS_all (S : List SlotD) (h : S.length = 8) : fillS S 8 = S := by
  rw [fillS, List.take_of_length_le (by omega)]
  simp [freeS]
theorem slots_put {w : World} {sb : Nat} {S : List SlotD} {T : TypeId} (h : w.heap[sb]? = some (.cells (slotA S) T (0, 0))) (k : Nat) (p t : Int) :
    ((w.setCell ⟨sb, k * 2, none⟩ (.int .i64 p)).setCell ⟨sb, k * 2 + 1, none⟩ (.int .u64 t)).heap[sb]? = some (.cells (slotA (S.set k (p, t))) T (0, 0)) := by
  have h1 := heap_setCell_same w sb (k * 2) _ _ (.int .i64 p) h
  rw [heap_setCell_same _ sb (k * 2 + 1) _ _ (.int .u64 t) h1, slotA, slotA, ← slotCells_set]
  simp
theorem slots_cells {w : World} {sb : Nat} {S : List SlotD} {T : TypeId} (h : w.heap[sb]? = some (.cells (slotA S) T (0, 0))) (k : Nat) (hk : k < S.length) : w.cell? ⟨sb, k * 2, none⟩ = some (.int .i64 (pidAt S k)) ∧ w.cell? ⟨sb, k * 2 + 1, none⟩ = some (.int .u64 (txnAt S k)) := by
  refine ⟨?_, ?_⟩
  · rw [cell_rowL h, slotA, List.getElem?_toArray]; exact slotCells_pid S k hk
  · rw [cell_rowL h, slotA, List.getElem?_toArray]; exact slotCells_txn S k hk
theorem slots_range {w : World} {sb : Nat} {S : List SlotD} {T : TypeId} (h : w.heap[sb]? = some (.cells (slotA S) T (0, 0))) : w.rangeAt sb 0 (slotCells S) := by
  intro j v hv
  rw [Nat.zero_add, cell_rowL h, slotA, List.getElem?_toArray]
  exact hv
theorem slots_there {w : World} {sb o n : Nat} {cs : Array Value} {T : TypeId} (h : w.heap[sb]? = some (.cells cs T (0, 0))) (hs : o + n ≤ cs.size) : w.there sb o n := by
  intro j hj
  refine ⟨?_, frozen_rowL h _⟩
  rw [cell_rowL h, Array.getElem?_eq_getElem (by omega)]
  rfl
theorem slotA_size (S : List SlotD) : (slotA S).size = S.length * 2 := by rw [slotA, List.size_toArray, slotCells_length]
theorem grown_setCells {g : Nat} : ∀ (vs : List Value) (o : Nat) (w : World), w.grownBy (w.setCells g o vs) (some g)
  | [], o, w => World.grownBy.refl _ _
  | v :: r, o, w => by
    have h1 := grown_setCell w g o v
    have h2 := grown_setCells (g := g) r (o + 1) (w.setCell ⟨g, o, none⟩ v)
    exact ⟨h2.os.trans h1.os, h2.tape.trans h1.tape, h2.output.trans h1.output, Nat.le_trans h1.size h2.size, fun k hk hne => (h2.block k (by simpa using hk) hne).trans (h1.block k hk hne)⟩
theorem slotB_drop (S : List SlotD) (k : Nat) (h : k < S.length) : slotB (S.drop k) = lowB (pidAt S k) 8 ++ (lowB (txnAt S k) 8 ++ slotB (S.drop (k + 1))) := by
  rw [List.drop_eq_getElem_cons h, atD_get S k h]
  simp [slotB, atD]
/-- What takeSlots has while it reads. -/
structure Tks (w X : World) (b rb r s : Nat) (l : List UInt8) (S : List SlotD) : Prop where
  cut : CutAt X b rb l false
  res : X.heap[r]? = some (.cells (slotA freeS) 32 (0, 0))
  row : X.heap[s]? = some (.cells (slotA S) 32 (0, 0))
  grown : w.grownBy X (some b)
  r0 : w.heap.size ≤ r
  s0 : w.heap.size ≤ s
  rs : r ≠ s
  b0 : b < w.heap.size
  rb0 : rb < w.heap.size
theorem Tks.num {w X Y : World} {b rb r s : Nat} {l m : List UInt8} {S : List SlotD} (h : Tks w X b rb r s l S) (hc : CutAt Y b rb m false) (hg : X.grownBy Y (some b)) : Tks w Y b rb r s m S := by
  have := h.r0; have := h.s0; have := h.b0
  refine ⟨hc, (hg.block r (lt_of_heap h.res) (by simp; omega)).trans h.res, (hg.block s (lt_of_heap h.row) (by simp; omega)).trans h.row, ?_, h.r0, h.s0, h.rs, h.b0, h.rb0⟩
  exact ⟨hg.os.trans h.grown.os, hg.tape.trans h.grown.tape, hg.output.trans h.grown.output, Nat.le_trans h.grown.size hg.size, fun k hk hne => (hg.block k (Nat.lt_of_lt_of_le hk h.grown.size) hne).trans (h.grown.block k hk hne)⟩
theorem Tks.put {w X : World} {b rb r s : Nat} {l : List UInt8} {S : List SlotD} (h : Tks w X b rb r s l S) (k : Nat) (p t : Int) : Tks w ((X.setCell ⟨s, k * 2, none⟩ (.int .i64 p)).setCell ⟨s, k * 2 + 1, none⟩ (.int .u64 t)) b rb r s l (S.set k (p, t)) := by
  have := h.r0; have := h.s0; have := h.b0; have := h.rb0
  have hk : ∀ j, j ≠ s → ((X.setCell ⟨s, k * 2, none⟩ (.int .i64 p)).setCell ⟨s, k * 2 + 1, none⟩ (.int .u64 t)).heap[j]? = X.heap[j]? := fun j hj => by
    rw [Below.heap_setCell _ _ _ _ (by simpa using hj), Below.heap_setCell _ _ _ _ (by simpa using hj)]
  refine ⟨h.cut.kept (hk b (by omega)) (hk rb (by omega)) (by simp), (hk r h.rs).trans h.res, slots_put h.row k p t, ?_, h.r0, h.s0, h.rs, h.b0, h.rb0⟩
  exact ⟨h.grown.os, h.grown.tape, h.grown.output, by simpa using h.grown.size, fun j hj hne => (hk j (by omega)).trans (h.grown.block j hj hne)⟩

set_option maxRecDepth 10000 in
set_option maxHeartbeats 4000000 in
theorem takeSlots_good (w : World) (b rb : Nat) (S : List SlotD) (rest : List UInt8) (hcut : CutAt w b rb (slotB S ++ rest) false) (h8 : S.length = 8) (hgo : ∀ s ∈ S, GoodSlot s) :
    Calls Tryd.prog 54 #[.pointer (some ⟨b, 0, none⟩)] w fun e w' => e = .returned (.tuple #[.agg (slotA S), .bool true]) ∧ CutAt w' b rb rest false ∧ w.grownBy w' (some b) := by
  have T0 : Tks w ((w.alloc (.cells (slotA freeS) 32)).alloc (.cells (slotA freeS) 32)) b rb w.heap.size (w.heap.size + 1) (slotB S ++ rest) freeS := by
    have hB : Below w.heap.size w ((w.alloc (.cells (slotA freeS) 32)).alloc (.cells (slotA freeS) 32)) := ((Below.refl _ w).alloc (Nat.le_refl _) _).alloc (by simp) _
    refine ⟨hcut.below hB hcut.lt hcut.2.1, ?_, ?_, ⟨hB.os, hB.tape, hB.output, hB.size, fun k hk _ => hB.block k hk⟩, Nat.le_refl _, by omega, by omega, hcut.lt, hcut.2.1⟩
    · rw [Below.heap_alloc _ _ _ (by simp)]
      exact heap_newL w _
    · have := heap_newL (w.alloc (.cells (slotA freeS) 32)) (.cells (slotA freeS) 32)
      rwa [World.size_alloc] at this
  have hgk : Hid (∀ k, k < 8 → GoodSlot (pidAt S k, txnAt S k)) := hid (fun k hk => by have := atD_get S k (by omega); rw [atD] at this; rw [← this]; exact hgo _ (List.getElem_mem _))
  clear hcut hgo
  rw [show slotA freeS = #[.int .i64 0, .int .u64 0, .int .i64 0, .int .u64 0, .int .i64 0, .int .u64 0, .int .i64 0, .int .u64 0, .int .i64 0, .int .u64 0, .int .i64 0, .int .u64 0, .int .i64 0, .int .u64 0, .int .i64 0, .int .u64 0] from rfl] at T0
  replace T0 := hid T0
  go_enter Tryd.func54, Tryd.ntmps54
  go_wp2
  generalize w.heap.size + 1 = sb at *
  generalize w.heap.size = r at *
  replace h8 := hid h8
  go_loopg [8] 8 (fun g i wr => ∃ k : Nat, k + g = 8 ∧ i = .int .i64 k ∧ Hid (Tks w wr b rb r sb (slotB (S.drop k) ++ rest) (fillS S k)))
  case atStart => exact ⟨0, by omega, rfl, by simpa [fillS] using T0⟩
  case round =>
    obtain ⟨k, hk, rfl, hT⟩ := hrel
    clear T0
    cases gk with
    | succ g =>
      have hk8 : k < 8 := by omega
      have hs := hid (slotB_drop S k (by rw [h8.out]; omega))
      have hfs := hid (fillS_set S h8.out k hk8)
      have hfl := hid (fillS_length S h8.out k (by omega))
      obtain ⟨hp0, hp1, ht0, ht1, hpt⟩ := hgk.out k hk8
      simp only at hp0 hp1 ht0 ht1 hpt
      rw [hs.out, List.append_assoc, List.append_assoc] at hT
      generalize pidAt S k = p at *
      generalize txnAt S k = t at *
      obtain ⟨P, rfl⟩ : ∃ P : Nat, p = (P : Int) := ⟨p.toNat, by omega⟩
      obtain ⟨T, rfl⟩ : ∃ T : Nat, t = (T : Int) := ⟨t.toNat, by omega⟩
      obtain ⟨n1, n2, n3⟩ := num_there (P : Int) (by omega) (by omega) (lowB (T : Int) 8 ++ (slotB (S.drop (k + 1)) ++ rest))
      obtain ⟨m1, m2, m3⟩ := num_there (T : Int) (by omega) (by omega) (slotB (S.drop (k + 1)) ++ rest)
      rw [Int.toNat_natCast] at n1 m1
      replace n1 := hid n1; replace n2 := hid n2; replace n3 := hid n3
      replace m1 := hid m1; replace m2 := hid m2; replace m3 := hid m3
      replace hpt := hid hpt
      have hd1 : Hid (decide ((1000000 : Int) < (P : Int)) = false) := hid (by simp; omega)
      have hw : Hid (IntKind.i64.wrap (P : Int) = (P : Int)) := hid (by rw [IntKind.wrap_i64]; omega)
      clear hs hp0 hp1 ht0 ht1
      go_wp2_with fail
      refine (num_at b rb _ _ _ _ P _ hT.out.cut n1.out n2.out n3.out).mono ?_
      rintro e w1 ⟨rfl, c1, g1⟩
      have T1 := hid (hT.out.num c1 g1)
      clear hT c1 g1 n1 n2 n3
      go_wp2_with fail
      refine (num_at b rb _ _ _ _ T _ T1.out.cut m1.out m2.out m3.out).mono ?_
      rintro e w2 ⟨rfl, c1, g1⟩
      have T2 := hid (T1.out.num c1 g1)
      clear T1 c1 g1 m1 m2 m3
      have T3 := T2.out.put k P T
      rw [hfs.out] at T3
      replace T3 := hid T3
      obtain ⟨hc0, hc1⟩ := slots_cells T2.out.row k (by rw [hfl.out]; omega)
      have hz := frozen_rowL T2.out.row
      have hlt := lt_of_heap T2.out.row
      clear T2
      generalize pidAt (fillS S k) k = p2 at *
      generalize txnAt (fillS S k) k = t2 at *
      replace hd1 := hd1.out
      replace hw := hw.out
      by_cases hP : P = 0
      · have hT0 : T = 0 := by have := hpt.out (by omega); omega
        subst hP hT0
        go_wp2
        go_roundg g
        case rel => exact ⟨k + 1, by omega, by go_num, T3⟩
        case measure => omega
      · go_wp2
        go_roundg g
        case rel => exact ⟨k + 1, by omega, by go_num, T3⟩
        case measure => omega
    | zero =>
      have hke : k = 8 := by omega
      subst hke
      rw [show slotB (S.drop 8) ++ rest = rest by rw [List.drop_of_length_le (by rw [h8.out]; omega)]; rfl, fillS_all S h8.out] at hT
      have hr := hid (slots_range hT.out.row)
      have hth := hid (slots_there (n := (slotA S).size) (o := 0) hT.out.res (by rw [slotA_size, h8.out]; decide))
      have hrange := hid (World.rangeAt_setCells_same wr r 0 (slotCells S) (by have := hth.out; rw [slotA_size] at this; rw [slotCells_length]; exact this))
      have hl16 : Hid ((slotCells S).length = 16) := hid (by rw [slotCells_length, h8.out])
      have hld := hid (run_loadVar_mid (P := Tryd.prog) (wr.setCells r 0 (slotCells S)) r 0 32 (slotCells S) _ hrange.out Tryd.underlying32 rfl (by rw [Tryd.infoSlots, hl16.out]))
      have hone : Hid ((slotA S).all (·.oneCell') = true) := hid (all_oneCell_toArray (slotCells_one S))
      have hgs := hid (grown_setCells (g := r) (slotCells S) 0 wr)
      clear hgk
      go_wp2_with (first
        | (refine wpList_load_mid rfl 32 (.tmp 4) rfl sb 0 rfl (slotCells S) _ hr.out Tryd.underlying32 rfl (by rw [Tryd.infoSlots, hl16.out]) ?_; rw [show (slotCells S).toArray = slotA S from rfl])
        | (refine wpList_store_mid rfl 32 (.tmp 2) (.tmp 33) rfl r 0 (slotA S) rfl rfl hth.out (by rw [Tryd.infoSlots, slotA_size, h8.out]) hone.out ?_; rw [show (slotA S).toList = slotCells S from rfl]))
      generalize wr.setCells r 0 (slotCells S) = Y at *
      refine bodyPost_ret (v := .tuple #[.agg (slotA S), .bool true]) ?_ rfl ⟨rfl, ?_, ?_⟩
      · have := hld.out
        simp [results, Tryd.results54, asAddr, this]
        rfl
      · have h1 := hT.out.r0; have h2 := hT.out.b0; have h3 := hT.out.rb0; have h4 := hT.out.grown.size
        exact hT.out.cut.kept (hgs.out.block b (by omega) (by simp; omega)) (hgs.out.block rb (by omega) (by simp; omega)) hgs.out.size
      · have h1 := hT.out.r0
        have h2 := hT.out.grown
        exact ⟨hgs.out.os.trans h2.os, hgs.out.tape.trans h2.tape, hgs.out.output.trans h2.output, Nat.le_trans h2.size hgs.out.size, fun k hk hne => (hgs.out.block k (by have := h2.size; omega) (by simp; omega)).trans (h2.block k hk hne)⟩
end Go.Proofs.YtdjhlgcbjdohiaaDoor

/- Contracts of the statements' own leaf, and of errors.Is at the errors 10, 14 and 17. -/
import Derived.Test.YtpionokcabjokaaGreatZE5
namespace Go.Proofs.YtpionokcabjokaaGreat
open Go.RowKit Go.Sort Go.Conc

theorem eqE (e : Int) (w : World) : (binOp .eql 45 (.iface 59 (.int .i64 e)) .nilIface).run Tryz.prog w = .ok (.bool false) w := by simp [go_sem, Tryz.underlying45]
theorem Tryz.eqErr10 (w : World) : (binOp .eql 45 (.iface 59 (.int .i64 10)) (.iface 59 (.int .i64 10))).run Tryz.prog w = .ok (.bool true) w := by kernel_rfl
theorem Tryz.callTypeOf10 (w : World) : (callFunc 47 #[.iface 59 (.int .i64 10)]).run Tryz.prog w = .ok (.value (.iface 116 (.agg #[.pointer (some ⟨0, 59, none⟩)]))) w := by kernel_rfl
set_option maxHeartbeats 400000 in
theorem is_same10 (w : World) :
    Calls Tryz.prog 24 #[.iface 59 (.int .i64 10), .iface 59 (.int .i64 10)] w fun e w' => e = .returned (.bool true) ∧ w' = w := by
  have tT := Tryz.callTypeOf10
  have cT := Tryz.callComparable
  have e1 := Tryz.eqErr10
  have e2 := eqE 10
  have mR := Tryz.methodComparable
  go_enter Tryz.func24, Tryz.ntmps24
  go_wp2
  refine wp_loop_rounds 1 ?_
  rw [rounds_succ]
  go_wp2
  go_ret
  exact ⟨rfl, rfl⟩
theorem Tryz.eqErr14 (w : World) : (binOp .eql 45 (.iface 59 (.int .i64 14)) (.iface 59 (.int .i64 14))).run Tryz.prog w = .ok (.bool true) w := by kernel_rfl
theorem Tryz.callTypeOf14 (w : World) : (callFunc 47 #[.iface 59 (.int .i64 14)]).run Tryz.prog w = .ok (.value (.iface 116 (.agg #[.pointer (some ⟨0, 59, none⟩)]))) w := by kernel_rfl
set_option maxHeartbeats 400000 in
theorem is_same14 (w : World) :
    Calls Tryz.prog 24 #[.iface 59 (.int .i64 14), .iface 59 (.int .i64 14)] w fun e w' => e = .returned (.bool true) ∧ w' = w := by
  have tT := Tryz.callTypeOf14
  have cT := Tryz.callComparable
  have e1 := Tryz.eqErr14
  have e2 := eqE 14
  have mR := Tryz.methodComparable
  go_enter Tryz.func24, Tryz.ntmps24
  go_wp2
  refine wp_loop_rounds 1 ?_
  rw [rounds_succ]
  go_wp2
  go_ret
  exact ⟨rfl, rfl⟩
theorem Tryz.eqErr17 (w : World) : (binOp .eql 45 (.iface 59 (.int .i64 17)) (.iface 59 (.int .i64 17))).run Tryz.prog w = .ok (.bool true) w := by kernel_rfl
theorem Tryz.callTypeOf17 (w : World) : (callFunc 47 #[.iface 59 (.int .i64 17)]).run Tryz.prog w = .ok (.value (.iface 116 (.agg #[.pointer (some ⟨0, 59, none⟩)]))) w := by kernel_rfl
set_option maxHeartbeats 400000 in
theorem is_same17 (w : World) :
    Calls Tryz.prog 24 #[.iface 59 (.int .i64 17), .iface 59 (.int .i64 17)] w fun e w' => e = .returned (.bool true) ∧ w' = w := by
  have tT := Tryz.callTypeOf17
  have cT := Tryz.callComparable
  have e1 := Tryz.eqErr17
  have e2 := eqE 17
  have mR := Tryz.methodComparable
  go_enter Tryz.func24, Tryz.ntmps24
  go_wp2
  refine wp_loop_rounds 1 ?_
  rw [rounds_succ]
  go_wp2
  go_ret
  exact ⟨rfl, rfl⟩

/-- A leaf of one key, nothing on it. -/
def leafI (k : ByteArray) : ItemD := { noItem with key := k, kind := 1 }
def leafK1 (k : ByteArray) : PageD := { noPage with kind := 1, items := [leafI k] }
theorem leaf_txn (k : ByteArray) : TxnOk (leafK1 k) := ⟨by simp [leafK1, noPage], by simp [leafK1, noPage]⟩
theorem leaf_free (k : ByteArray) : (leafK1 k).free.length ≤ 140737488355328 := by simp [leafK1, noPage]
/-- A row of items in a block of its own. -/
theorem items_blockS {w : World} {b cap : Nat} {cs : Array Value} {T : TypeId} {fr : Nat × Nat} (l : List ItemD) (us : List Value) (h : w.heap[b]? = some (.cells cs T fr)) (hus : us.length = l.length) (hcs : cs.toList.take (l.length * 10) = itemRows l us) (hl : l.length ≤ 1000) (hz : ∀ x ∈ l, x.key.size ≤ 65535 ∧ x.val.size ≤ 65535) (hv : ∀ i (h : i < l.length) (h' : i < us.length), StrsAt w us[i] l[i].vals) : ItemsAt w (.slice (some ⟨b, 0, none⟩) l.length cap) l := by
  refine ⟨some ⟨b, 0, none⟩, cap, rfl, by unfold maxLen; omega, fun i hi => ⟨b, 0, us[i]'(by omega), rfl, (Array.getElem?_eq_some_iff.1 h).1, ?_, hv i hi (by omega), ?_, ?_⟩⟩
  · intro j u hj
    have hj10 : j < 10 := by
      rcases Nat.lt_or_ge j 10 with h | h
      · exact h
      · rw [List.getElem?_eq_none (by simp [itemCells]; omega)] at hj
        cases hj
    have key : (itemRows l us)[i * 10 + j]? = some u := by
      unfold itemRows
      rw [flatten_at 10 _ i j ?_ (by simp; omega) hj10]
      · simpa using hj
      · intro r hr
        obtain ⟨k, hk, rfl⟩ := List.mem_iff_getElem.1 hr
        simp [itemCells]
    have h2 : w.cell? ⟨b, 0 + i * 10 + j, none⟩ = cs[i * 10 + j]? := by rw [Nat.zero_add]; simp [World.cell?, h]
    rw [h2, ← Array.getElem?_toList]
    rw [← hcs] at key
    rw [List.getElem?_take] at key
    split at key
    · exact key
    · cases key
  · have := (hz _ (List.getElem_mem hi)).1
    unfold maxLen
    omega
  · have := (hz _ (List.getElem_mem hi)).2
    unfold maxLen
    omega
set_option maxRecDepth 10000 in
set_option maxHeartbeats 2000000 in
theorem leaf_any (k : ByteArray) (w : World) (hk : k.size ≤ 65535) :
    Calls Tryz.prog 23 #[.string k] w fun e w' => ∃ vi, e = .returned (.agg (pageCells (leafK1 k) vi (.slice none 0 0) (.slice none 0 0) (.slice none 0 0) (.slice none 0 0)).toArray) ∧ (∀ W, Agree w.heap.size w' W → Hangs W (leafK1 k) vi (.slice none 0 0) (.slice none 0 0) (.slice none 0 0) (.slice none 0 0)) ∧ Below w.heap.size w w' := by
  replace hk := hidS hk
  go_enter Tryz.func23, Tryz.ntmps23
  go_wp2
  refine bodyPost_ret (v := .agg #[.int .i64 1, .slice (some ⟨w.heap.size + 1, 0, none⟩) 1 1, .slice none 0 0, .slice none 0 0, .string ⟨#[]⟩, .slice none 0 0, .slice none 0 0, .int .i64 0, .int .u64 0, .int .i64 0, .int .i64 0, .int .i64 0, .int .i64 0, .int .i64 0]) (by simp [results, Tryz.results23, go_sem]) rfl ⟨.slice (some ⟨w.heap.size + 1, 0, none⟩) 1 1, rfl, ?_, ?_⟩
  · intro W hW
    have h1 : W.heap[w.heap.size + 1]? = some (.cells #[.string k, .int .i64 1, .string ⟨#[]⟩, .int .i64 0, .int .i64 0, .slice none 0 0, .int .i64 0, .int .i64 0, .int .i64 0, .int .i64 0] 67 (0, 0)) := (hW.2 (w.heap.size + 1) (by omega) (by simp)).trans (by
      have := heap_newL (w.alloc (.cells #[.int .i64 1, .slice (some ⟨w.heap.size + 1, 0, none⟩) 1 1, .slice none 0 0, .slice none 0 0, .string ⟨#[]⟩, .slice none 0 0, .slice none 0 0, .int .i64 0, .int .u64 0, .int .i64 0, .int .i64 0, .int .i64 0, .int .i64 0, .int .i64 0] 35)) (.cells #[.string k, .int .i64 1, .string ⟨#[]⟩, .int .i64 0, .int .i64 0, .slice none 0 0, .int .i64 0, .int .i64 0, .int .i64 0, .int .i64 0] 67)
      rwa [show (w.alloc (.cells #[.int .i64 1, .slice (some ⟨w.heap.size + 1, 0, none⟩) 1 1, .slice none 0 0, .slice none 0 0, .string ⟨#[]⟩, .slice none 0 0, .slice none 0 0, .int .i64 0, .int .u64 0, .int .i64 0, .int .i64 0, .int .i64 0, .int .i64 0, .int .i64 0] 35)).heap.size = w.heap.size + 1 by simp] at this)
    refine ⟨items_blockS [leafI k] [.slice none 0 0] h1 rfl rfl (by simp) (fun x hx => ?_) (fun i _ h2 => ?_), strs_nil _, ints_nil _, text_nil_le, strs_nil _, frees_nil _⟩
    · simp only [List.mem_singleton] at hx
      subst hx
      exact ⟨hk.out, by simp [leafI, noItem, ByteArray.size]⟩
    · have : i = 0 := by simp at h2; omega
      subst this
      exact strs_nil _
  · exact ((Below.refl w.heap.size w).alloc (Nat.le_refl _) _).alloc (by simp) _
end Go.Proofs.YtpionokcabjokaaGreat

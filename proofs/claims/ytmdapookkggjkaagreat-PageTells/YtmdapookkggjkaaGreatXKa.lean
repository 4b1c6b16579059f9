/- Contract of the statements own opening test known: it returns true and leaves what was there. -/
import Derived.Test.YtmdapookkggjkaaGreatXh
import Derived.Test.YtmdapookkggjkaaGreatXa
namespace Go.Proofs.YtmdapookkggjkaaGreat
open Go.RowKit Go.Sort

def knA : ItemD := { noItem with key := ⟨#[97]⟩, kind := 1, val := ⟨#[120]⟩ }
def knB : ItemD := { noItem with key := ⟨#[98]⟩, kind := 3, vals := [⟨#[49]⟩, ⟨#[50]⟩] }
def knP : PageD := { noPage with kind := 1, items := [knA, knB] }
theorem knP_is : isPB knP = true := by decide +kernel
theorem noPage_is : isPB noPage = false := by decide +kernel
theorem noPage_bytes : bytesD noPage = [] := by simp [bytesD, noPage_is]
theorem knP_no : samePB knP noPage = false := by decide +kernel
theorem same_self (p : PageD) : samePB p p = true := (sameP_iff p p).2 rfl
theorem txn_noPage : TxnOk noPage := ⟨by simp [noPage], by simp [noPage]⟩
theorem txn_knP : TxnOk knP := ⟨by simp [knP, noPage], by simp [knP, noPage]⟩
theorem hangs_none (w : World) : Hangs w noPage (.slice none 0 0) (.slice none 0 0) (.slice none 0 0) (.slice none 0 0) (.slice none 0 0) := ⟨items_nil _, strs_nil _, ints_nil _, text_nil_le, strs_nil _, frees_nil _⟩
theorem newPage {w X : World} {cs : Array Value} {T : TypeId} (h : Below (w.alloc (.cells cs T)).heap.size (w.alloc (.cells cs T)) X) : X.heap[w.heap.size]? = some (.cells cs T (0, 0)) :=
  (h.block w.heap.size (by simp)).trans (heap_newL w _)
/-- A row of texts in a block of its own. -/
theorem strs_block {w : World} {b cap : Nat} {cs : Array Value} {T : TypeId} {fr : Nat × Nat} (l : List ByteArray) (h : w.heap[b]? = some (.cells cs T fr)) (hcs : cs.toList.take l.length = l.map Value.string) (hl : l.length ≤ 1000) (hcap : l.length ≤ cap) (hz : ∀ x ∈ l, x.size ≤ 65535) : StrsAt w (.slice (some ⟨b, 0, none⟩) l.length cap) l := by
  refine ⟨some ⟨b, 0, none⟩, cap, rfl, ⟨by unfold maxLen; omega, hcap⟩, fun i hi => ⟨⟨b, 0, none⟩, rfl, ?_, ?_⟩⟩
  · rw [Addr.add_mid, Nat.zero_add]
    have h2 : w.cell? ⟨b, i, none⟩ = cs[i]? := by simp [World.cell?, h]
    rw [h2]
    have h3 := congrArg (fun z => z[i]?) hcs
    simp only [List.getElem?_take, hi, ↓reduceIte] at h3
    rw [← Array.getElem?_toList, h3]
    simp [hi]
  · have := hz _ (List.getElem_mem hi)
    unfold maxLen
    omega
/-- A row of items in a block of its own. -/
theorem items_block {w : World} {b cap : Nat} {cs : Array Value} {T : TypeId} {fr : Nat × Nat} (l : List ItemD) (us : List Value) (h : w.heap[b]? = some (.cells cs T fr)) (hus : us.length = l.length) (hcs : cs.toList.take (l.length * 10) = itemRows l us) (hl : l.length ≤ 1000) (hz : ∀ x ∈ l, x.key.size ≤ 65535 ∧ x.val.size ≤ 65535) (hv : ∀ i (h : i < l.length) (h' : i < us.length), StrsAt w us[i] l[i].vals) : ItemsAt w (.slice (some ⟨b, 0, none⟩) l.length cap) l := by
  refine ⟨some ⟨b, 0, none⟩, cap, rfl, by unfold maxLen; omega, fun i hi => ⟨b, 0, us[i]'(by omega), rfl, (Array.getElem?_eq_some_iff.1 h).1, ?_, hv i hi (by omega), ?_, ?_⟩⟩
  · intro j u hj
    have hj10 : j < 10 := by
      rcases Nat.lt_or_ge j 10 with h | h
      · exact h
      · rw [List.getElem?_eq_none (by simp [itemCells]; omega)] at hj
        cases hj
    have key : (itemRows l us)[i * 10 + j]? = some u := by
      unfold itemRows
      rw [flatten_at 10 _ i j ?_ (by simp; omega) hj10]
      · simpa using hj
      · intro r hr
        obtain ⟨k, hk, rfl⟩ := List.mem_iff_getElem.1 hr
        simp [itemCells]
    have h2 : w.cell? ⟨b, 0 + i * 10 + j, none⟩ = cs[i * 10 + j]? := by rw [Nat.zero_add]; simp [World.cell?, h]
    rw [h2, ← Array.getElem?_toList]
    rw [← hcs] at key
    rw [List.getElem?_take] at key
    split at key
    · exact key
    · cases key
  · have := (hz _ (List.getElem_mem hi)).1
    unfold maxLen
    omega
  · have := (hz _ (List.getElem_mem hi)).2
    unfold maxLen
    omega
theorem hangs_kn (w X : World) (h : Below (w.heap.size + 2) ((w.alloc (.cells #[.string ⟨#[49]⟩, .string ⟨#[50]⟩] 9)).alloc (.cells #[.string ⟨#[97]⟩, .int .i64 1, .string ⟨#[120]⟩, .int .i64 0, .int .i64 0, .slice none 0 0, .int .i64 0, .int .i64 0, .int .i64 0, .int .i64 0, .string ⟨#[98]⟩, .int .i64 3, .string ⟨#[]⟩, .int .i64 0, .int .i64 0, .slice (some ⟨w.heap.size, 0, none⟩) 2 2, .int .i64 0, .int .i64 0, .int .i64 0, .int .i64 0] 56)) X) : Hangs X knP (.slice (some ⟨w.heap.size + 1, 0, none⟩) 2 2) (.slice none 0 0) (.slice none 0 0) (.slice none 0 0) (.slice none 0 0) := by
  have h0 : X.heap[w.heap.size]? = some (.cells #[.string ⟨#[49]⟩, .string ⟨#[50]⟩] 9 (0, 0)) := (h.block _ (by omega)).trans ((Below.heap_alloc _ _ _ (by simp)).trans (heap_newL w _))
  have h1 : X.heap[w.heap.size + 1]? = some (.cells #[.string ⟨#[97]⟩, .int .i64 1, .string ⟨#[120]⟩, .int .i64 0, .int .i64 0, .slice none 0 0, .int .i64 0, .int .i64 0, .int .i64 0, .int .i64 0, .string ⟨#[98]⟩, .int .i64 3, .string ⟨#[]⟩, .int .i64 0, .int .i64 0, .slice (some ⟨w.heap.size, 0, none⟩) 2 2, .int .i64 0, .int .i64 0, .int .i64 0, .int .i64 0] 56 (0, 0)) := by
    refine (h.block _ (by omega)).trans ?_
    have := heap_newL (w.alloc (.cells #[.string ⟨#[49]⟩, .string ⟨#[50]⟩] 9)) (.cells #[.string ⟨#[97]⟩, .int .i64 1, .string ⟨#[120]⟩, .int .i64 0, .int .i64 0, .slice none 0 0, .int .i64 0, .int .i64 0, .int .i64 0, .int .i64 0, .string ⟨#[98]⟩, .int .i64 3, .string ⟨#[]⟩, .int .i64 0, .int .i64 0, .slice (some ⟨w.heap.size, 0, none⟩) 2 2, .int .i64 0, .int .i64 0, .int .i64 0, .int .i64 0] 56)
    rwa [show (w.alloc (.cells #[.string ⟨#[49]⟩, .string ⟨#[50]⟩] 9)).heap.size = w.heap.size + 1 by simp] at this
  have hv : StrsAt X (.slice (some ⟨w.heap.size, 0, none⟩) 2 2) [⟨#[49]⟩, ⟨#[50]⟩] := strs_block [⟨#[49]⟩, ⟨#[50]⟩] h0 rfl (by simp) (by simp) (by decide)
  refine ⟨?_, strs_nil _, ints_nil _, text_nil_le, strs_nil _, frees_nil _⟩
  refine items_block [knA, knB] [.slice none 0 0, .slice (some ⟨w.heap.size, 0, none⟩) 2 2] h1 rfl rfl (by simp) (by decide) ?_
  intro i h1 h2
  have : i = 0 ∨ i = 1 := by simp at h1; omega
  rcases this with rfl | rfl
  · exact strs_nil _
  · exact hv

set_option maxHeartbeats 4000000 in
theorem known_any (w : World) :
    Calls Tryz.prog 5 #[] w fun e w' => e = .returned (.bool true) ∧ Below w.heap.size w w' := by
  have hnil := Tryz.eqNilNil
  have HPB := fun X (h : Below (w.heap.size + 2) ((w.alloc (.cells #[.string ⟨#[49]⟩, .string ⟨#[50]⟩] 9)).alloc (.cells #[.string ⟨#[97]⟩, .int .i64 1, .string ⟨#[120]⟩, .int .i64 0, .int .i64 0, .slice none 0 0, .int .i64 0, .int .i64 0, .int .i64 0, .int .i64 0, .string ⟨#[98]⟩, .int .i64 3, .string ⟨#[]⟩, .int .i64 0, .int .i64 0, .slice (some ⟨w.heap.size, 0, none⟩) 2 2, .int .i64 0, .int .i64 0, .int .i64 0, .int .i64 0] 56)) X) => bytes_any knP _ _ _ _ _ X (hangs_kn w X h) txn_knP
  have HPI := fun X (h : Below (w.heap.size + 2) ((w.alloc (.cells #[.string ⟨#[49]⟩, .string ⟨#[50]⟩] 9)).alloc (.cells #[.string ⟨#[97]⟩, .int .i64 1, .string ⟨#[120]⟩, .int .i64 0, .int .i64 0, .slice none 0 0, .int .i64 0, .int .i64 0, .int .i64 0, .int .i64 0, .string ⟨#[98]⟩, .int .i64 3, .string ⟨#[]⟩, .int .i64 0, .int .i64 0, .slice (some ⟨w.heap.size, 0, none⟩) 2 2, .int .i64 0, .int .i64 0, .int .i64 0, .int .i64 0] 56)) X) => is_any knP _ _ _ _ _ X (hangs_kn w X h)
  have hbC : Below (w.heap.size + 3) (((w.alloc (.cells #[.string ⟨#[49]⟩, .string ⟨#[50]⟩] 9)).alloc (.cells #[.string ⟨#[97]⟩, .int .i64 1, .string ⟨#[120]⟩, .int .i64 0, .int .i64 0, .slice none 0 0, .int .i64 0, .int .i64 0, .int .i64 0, .int .i64 0, .string ⟨#[98]⟩, .int .i64 3, .string ⟨#[]⟩, .int .i64 0, .int .i64 0, .slice (some ⟨w.heap.size, 0, none⟩) 2 2, .int .i64 0, .int .i64 0, .int .i64 0, .int .i64 0] 56)).alloc (.cells #[.int .i64 1, .slice (some ⟨w.heap.size + 1, 0, none⟩) 2 2, .slice none 0 0, .slice none 0 0, .string ⟨#[]⟩, .slice none 0 0, .slice none 0 0, .int .i64 0, .int .u64 0, .int .i64 0, .int .i64 0, .int .i64 0, .int .i64 0, .int .i64 0] 32)) (((w.alloc (.cells #[.string ⟨#[49]⟩, .string ⟨#[50]⟩] 9)).alloc (.cells #[.string ⟨#[97]⟩, .int .i64 1, .string ⟨#[120]⟩, .int .i64 0, .int .i64 0, .slice none 0 0, .int .i64 0, .int .i64 0, .int .i64 0, .int .i64 0, .string ⟨#[98]⟩, .int .i64 3, .string ⟨#[]⟩, .int .i64 0, .int .i64 0, .slice (some ⟨w.heap.size, 0, none⟩) 2 2, .int .i64 0, .int .i64 0, .int .i64 0, .int .i64 0] 56)).alloc (.cells #[.int .i64 1, .slice (some ⟨w.heap.size + 1, 0, none⟩) 2 2, .slice none 0 0, .slice none 0 0, .string ⟨#[]⟩, .slice none 0 0, .slice none 0 0, .int .i64 0, .int .u64 0, .int .i64 0, .int .i64 0, .int .i64 0, .int .i64 0, .int .i64 0] 32)) := Below.refl _ _
  have hBC : Below (w.heap.size + 2) ((w.alloc (.cells #[.string ⟨#[49]⟩, .string ⟨#[50]⟩] 9)).alloc (.cells #[.string ⟨#[97]⟩, .int .i64 1, .string ⟨#[120]⟩, .int .i64 0, .int .i64 0, .slice none 0 0, .int .i64 0, .int .i64 0, .int .i64 0, .int .i64 0, .string ⟨#[98]⟩, .int .i64 3, .string ⟨#[]⟩, .int .i64 0, .int .i64 0, .slice (some ⟨w.heap.size, 0, none⟩) 2 2, .int .i64 0, .int .i64 0, .int .i64 0, .int .i64 0] 56)) (((w.alloc (.cells #[.string ⟨#[49]⟩, .string ⟨#[50]⟩] 9)).alloc (.cells #[.string ⟨#[97]⟩, .int .i64 1, .string ⟨#[120]⟩, .int .i64 0, .int .i64 0, .slice none 0 0, .int .i64 0, .int .i64 0, .int .i64 0, .int .i64 0, .string ⟨#[98]⟩, .int .i64 3, .string ⟨#[]⟩, .int .i64 0, .int .i64 0, .slice (some ⟨w.heap.size, 0, none⟩) 2 2, .int .i64 0, .int .i64 0, .int .i64 0, .int .i64 0] 56)).alloc (.cells #[.int .i64 1, .slice (some ⟨w.heap.size + 1, 0, none⟩) 2 2, .slice none 0 0, .slice none 0 0, .string ⟨#[]⟩, .slice none 0 0, .slice none 0 0, .int .i64 0, .int .u64 0, .int .i64 0, .int .i64 0, .int .i64 0, .int .i64 0, .int .i64 0] 32)) := (Below.refl _ _).alloc (by simp) _
  have hsC : (((w.alloc (.cells #[.string ⟨#[49]⟩, .string ⟨#[50]⟩] 9)).alloc (.cells #[.string ⟨#[97]⟩, .int .i64 1, .string ⟨#[120]⟩, .int .i64 0, .int .i64 0, .slice none 0 0, .int .i64 0, .int .i64 0, .int .i64 0, .int .i64 0, .string ⟨#[98]⟩, .int .i64 3, .string ⟨#[]⟩, .int .i64 0, .int .i64 0, .slice (some ⟨w.heap.size, 0, none⟩) 2 2, .int .i64 0, .int .i64 0, .int .i64 0, .int .i64 0] 56)).alloc (.cells #[.int .i64 1, .slice (some ⟨w.heap.size + 1, 0, none⟩) 2 2, .slice none 0 0, .slice none 0 0, .string ⟨#[]⟩, .slice none 0 0, .slice none 0 0, .int .i64 0, .int .u64 0, .int .i64 0, .int .i64 0, .int .i64 0, .int .i64 0, .int .i64 0] 32)).heap.size = w.heap.size + 3 := by simp
  have hwB : Below w.heap.size w ((w.alloc (.cells #[.string ⟨#[49]⟩, .string ⟨#[50]⟩] 9)).alloc (.cells #[.string ⟨#[97]⟩, .int .i64 1, .string ⟨#[120]⟩, .int .i64 0, .int .i64 0, .slice none 0 0, .int .i64 0, .int .i64 0, .int .i64 0, .int .i64 0, .string ⟨#[98]⟩, .int .i64 3, .string ⟨#[]⟩, .int .i64 0, .int .i64 0, .slice (some ⟨w.heap.size, 0, none⟩) 2 2, .int .i64 0, .int .i64 0, .int .i64 0, .int .i64 0] 56)) := ((Below.refl _ _).alloc (Nat.le_refl _) _).alloc (by simp) _
  have HP0 : Hid (∀ X, Below (w.heap.size + 3) (((w.alloc (.cells #[.string ⟨#[49]⟩, .string ⟨#[50]⟩] 9)).alloc (.cells #[.string ⟨#[97]⟩, .int .i64 1, .string ⟨#[120]⟩, .int .i64 0, .int .i64 0, .slice none 0 0, .int .i64 0, .int .i64 0, .int .i64 0, .int .i64 0, .string ⟨#[98]⟩, .int .i64 3, .string ⟨#[]⟩, .int .i64 0, .int .i64 0, .slice (some ⟨w.heap.size, 0, none⟩) 2 2, .int .i64 0, .int .i64 0, .int .i64 0, .int .i64 0] 56)).alloc (.cells #[.int .i64 1, .slice (some ⟨w.heap.size + 1, 0, none⟩) 2 2, .slice none 0 0, .slice none 0 0, .string ⟨#[]⟩, .slice none 0 0, .slice none 0 0, .int .i64 0, .int .u64 0, .int .i64 0, .int .i64 0, .int .i64 0, .int .i64 0, .int .i64 0] 32)) X → X.heap[w.heap.size + 2]? = some (.cells #[.int .i64 1, .slice (some ⟨w.heap.size + 1, 0, none⟩) 2 2, .slice none 0 0, .slice none 0 0, .string ⟨#[]⟩, .slice none 0 0, .slice none 0 0, .int .i64 0, .int .u64 0, .int .i64 0, .int .i64 0, .int .i64 0, .int .i64 0, .int .i64 0] 32 (0, 0))) := fun X hX => by
    have := newPage (w := ((w.alloc (.cells #[.string ⟨#[49]⟩, .string ⟨#[50]⟩] 9)).alloc (.cells #[.string ⟨#[97]⟩, .int .i64 1, .string ⟨#[120]⟩, .int .i64 0, .int .i64 0, .slice none 0 0, .int .i64 0, .int .i64 0, .int .i64 0, .int .i64 0, .string ⟨#[98]⟩, .int .i64 3, .string ⟨#[]⟩, .int .i64 0, .int .i64 0, .slice (some ⟨w.heap.size, 0, none⟩) 2 2, .int .i64 0, .int .i64 0, .int .i64 0, .int .i64 0] 56))) (X := X) (cs := #[.int .i64 1, .slice (some ⟨w.heap.size + 1, 0, none⟩) 2 2, .slice none 0 0, .slice none 0 0, .string ⟨#[]⟩, .slice none 0 0, .slice none 0 0, .int .i64 0, .int .u64 0, .int .i64 0, .int .i64 0, .int .i64 0, .int .i64 0, .int .i64 0]) (T := 32) (hX.mono (by simp))
    rwa [show ((w.alloc (.cells #[.string ⟨#[49]⟩, .string ⟨#[50]⟩] 9)).alloc (.cells #[.string ⟨#[97]⟩, .int .i64 1, .string ⟨#[120]⟩, .int .i64 0, .int .i64 0, .slice none 0 0, .int .i64 0, .int .i64 0, .int .i64 0, .int .i64 0, .string ⟨#[98]⟩, .int .i64 3, .string ⟨#[]⟩, .int .i64 0, .int .i64 0, .slice (some ⟨w.heap.size, 0, none⟩) 2 2, .int .i64 0, .int .i64 0, .int .i64 0, .int .i64 0] 56)).heap.size = w.heap.size + 2 by simp] at this
  have HPBY : Hid (∀ X, Below (w.heap.size + 3) (((w.alloc (.cells #[.string ⟨#[49]⟩, .string ⟨#[50]⟩] 9)).alloc (.cells #[.string ⟨#[97]⟩, .int .i64 1, .string ⟨#[120]⟩, .int .i64 0, .int .i64 0, .slice none 0 0, .int .i64 0, .int .i64 0, .int .i64 0, .int .i64 0, .string ⟨#[98]⟩, .int .i64 3, .string ⟨#[]⟩, .int .i64 0, .int .i64 0, .slice (some ⟨w.heap.size, 0, none⟩) 2 2, .int .i64 0, .int .i64 0, .int .i64 0, .int .i64 0] 56)).alloc (.cells #[.int .i64 1, .slice (some ⟨w.heap.size + 1, 0, none⟩) 2 2, .slice none 0 0, .slice none 0 0, .string ⟨#[]⟩, .slice none 0 0, .slice none 0 0, .int .i64 0, .int .u64 0, .int .i64 0, .int .i64 0, .int .i64 0, .int .i64 0, .int .i64 0] 32)) X → Calls Tryz.prog 12 #[.agg #[.int .i64 1, .slice (some ⟨w.heap.size + 1, 0, none⟩) 2 2, .slice none 0 0, .slice none 0 0, .string ⟨#[]⟩, .slice none 0 0, .slice none 0 0, .int .i64 0, .int .u64 0, .int .i64 0, .int .i64 0, .int .i64 0, .int .i64 0, .int .i64 0]] X fun e w' => e = .returned (.string (bs (bytesD knP))) ∧ Below X.heap.size X w') := fun X hX => HPB X (hBC.trans (hX.mono (by omega)))
  have HPIS : Hid (∀ X, Below (w.heap.size + 3) (((w.alloc (.cells #[.string ⟨#[49]⟩, .string ⟨#[50]⟩] 9)).alloc (.cells #[.string ⟨#[97]⟩, .int .i64 1, .string ⟨#[120]⟩, .int .i64 0, .int .i64 0, .slice none 0 0, .int .i64 0, .int .i64 0, .int .i64 0, .int .i64 0, .string ⟨#[98]⟩, .int .i64 3, .string ⟨#[]⟩, .int .i64 0, .int .i64 0, .slice (some ⟨w.heap.size, 0, none⟩) 2 2, .int .i64 0, .int .i64 0, .int .i64 0, .int .i64 0] 56)).alloc (.cells #[.int .i64 1, .slice (some ⟨w.heap.size + 1, 0, none⟩) 2 2, .slice none 0 0, .slice none 0 0, .string ⟨#[]⟩, .slice none 0 0, .slice none 0 0, .int .i64 0, .int .u64 0, .int .i64 0, .int .i64 0, .int .i64 0, .int .i64 0, .int .i64 0] 32)) X → Calls Tryz.prog 8 #[.agg #[.int .i64 1, .slice (some ⟨w.heap.size + 1, 0, none⟩) 2 2, .slice none 0 0, .slice none 0 0, .string ⟨#[]⟩, .slice none 0 0, .slice none 0 0, .int .i64 0, .int .u64 0, .int .i64 0, .int .i64 0, .int .i64 0, .int .i64 0, .int .i64 0]] X fun e w' => e = .returned (.bool true) ∧ Below X.heap.size X w') := fun X hX => by
    have := HPI X (hBC.trans (hX.mono (by omega)))
    rw [knP_is] at this
    exact this
  have HPH : Hid (∀ X, Below (w.heap.size + 3) (((w.alloc (.cells #[.string ⟨#[49]⟩, .string ⟨#[50]⟩] 9)).alloc (.cells #[.string ⟨#[97]⟩, .int .i64 1, .string ⟨#[120]⟩, .int .i64 0, .int .i64 0, .slice none 0 0, .int .i64 0, .int .i64 0, .int .i64 0, .int .i64 0, .string ⟨#[98]⟩, .int .i64 3, .string ⟨#[]⟩, .int .i64 0, .int .i64 0, .slice (some ⟨w.heap.size, 0, none⟩) 2 2, .int .i64 0, .int .i64 0, .int .i64 0, .int .i64 0] 56)).alloc (.cells #[.int .i64 1, .slice (some ⟨w.heap.size + 1, 0, none⟩) 2 2, .slice none 0 0, .slice none 0 0, .string ⟨#[]⟩, .slice none 0 0, .slice none 0 0, .int .i64 0, .int .u64 0, .int .i64 0, .int .i64 0, .int .i64 0, .int .i64 0, .int .i64 0] 32)) X → Hangs X knP (.slice (some ⟨w.heap.size + 1, 0, none⟩) 2 2) (.slice none 0 0) (.slice none 0 0) (.slice none 0 0) (.slice none 0 0)) := fun X hX => hangs_kn w X (hBC.trans (hX.mono (by omega)))
  have HWC : Hid (∀ X, Below (w.heap.size + 3) (((w.alloc (.cells #[.string ⟨#[49]⟩, .string ⟨#[50]⟩] 9)).alloc (.cells #[.string ⟨#[97]⟩, .int .i64 1, .string ⟨#[120]⟩, .int .i64 0, .int .i64 0, .slice none 0 0, .int .i64 0, .int .i64 0, .int .i64 0, .int .i64 0, .string ⟨#[98]⟩, .int .i64 3, .string ⟨#[]⟩, .int .i64 0, .int .i64 0, .slice (some ⟨w.heap.size, 0, none⟩) 2 2, .int .i64 0, .int .i64 0, .int .i64 0, .int .i64 0] 56)).alloc (.cells #[.int .i64 1, .slice (some ⟨w.heap.size + 1, 0, none⟩) 2 2, .slice none 0 0, .slice none 0 0, .string ⟨#[]⟩, .slice none 0 0, .slice none 0 0, .int .i64 0, .int .u64 0, .int .i64 0, .int .i64 0, .int .i64 0, .int .i64 0, .int .i64 0] 32)) X → Below w.heap.size w X) := fun X hX => hwB.trans ((hBC.trans (hX.mono (by omega))).mono (by omega))
  have HREAD : Hid (∀ X, Calls Tryz.prog 6 #[.string (bs (bytesD knP))] X fun e w' => ∃ vi vk vd vv vf, e = .returned (.tuple #[.agg #[.int .i64 1, vi, vk, vd, .string ⟨#[]⟩, vv, vf, .int .i64 0, .int .u64 0, .int .i64 0, .int .i64 0, .int .i64 0, .int .i64 0, .int .i64 0], .nilIface]) ∧ Hangs w' knP vi vk vd vv vf ∧ Below X.heap.size X w') := fun X => by
    have hz : (bs (bytesD knP)).size ≤ maxLen := by
      rw [bs_size]
      have := partD_le knP (partOk_of_is knP_is txn_knP)
      simp only [bytesD, knP_is, ↓reduceIte, List.length_append, lowB_length, bodyD, numB_length]
      unfold maxLen
      omega
    have := read_any (bs (bytesD knP)) X hz
    obtain ⟨h1, h2⟩ := okR_bytes knP knP_is txn_knP
    rw [bs_list] at this
    simp only [readD, readE, h1, h2, ↓reduceIte] at this
    exact this
  have HNONE : Hid (∀ X, Calls Tryz.prog 6 #[.string ⟨#[]⟩] X fun e w' => ∃ vi vk vd vv vf, e = .returned (.tuple #[.agg #[.int .i64 0, vi, vk, vd, .string ⟨#[]⟩, vv, vf, .int .i64 0, .int .u64 0, .int .i64 0, .int .i64 0, .int .i64 0, .int .i64 0, .int .i64 0], .iface 44 (.int .i64 12)]) ∧ Hangs w' noPage vi vk vd vv vf ∧ Below X.heap.size X w') := fun X => read_any ⟨#[]⟩ X text_nil_le
  have HNI : Hid (∀ X, Calls Tryz.prog 8 #[.agg #[.int .i64 0, .slice none 0 0, .slice none 0 0, .slice none 0 0, .string ⟨#[]⟩, .slice none 0 0, .slice none 0 0, .int .i64 0, .int .u64 0, .int .i64 0, .int .i64 0, .int .i64 0, .int .i64 0, .int .i64 0]] X fun e w' => e = .returned (.bool false) ∧ Below X.heap.size X w') := fun X => by
    have := is_any noPage _ _ _ _ _ X (hangs_none X)
    rw [noPage_is] at this
    exact this
  have HNB : Hid (∀ X, Calls Tryz.prog 12 #[.agg #[.int .i64 0, .slice none 0 0, .slice none 0 0, .slice none 0 0, .string ⟨#[]⟩, .slice none 0 0, .slice none 0 0, .int .i64 0, .int .u64 0, .int .i64 0, .int .i64 0, .int .i64 0, .int .i64 0, .int .i64 0]] X fun e w' => e = .returned (.string ⟨#[]⟩) ∧ Below X.heap.size X w') := fun X => by
    have := bytes_any noPage _ _ _ _ _ X (hangs_none X) txn_noPage
    rw [noPage_bytes] at this
    exact this
  have HSN : Hid (∀ X, Below (w.heap.size + 3) (((w.alloc (.cells #[.string ⟨#[49]⟩, .string ⟨#[50]⟩] 9)).alloc (.cells #[.string ⟨#[97]⟩, .int .i64 1, .string ⟨#[120]⟩, .int .i64 0, .int .i64 0, .slice none 0 0, .int .i64 0, .int .i64 0, .int .i64 0, .int .i64 0, .string ⟨#[98]⟩, .int .i64 3, .string ⟨#[]⟩, .int .i64 0, .int .i64 0, .slice (some ⟨w.heap.size, 0, none⟩) 2 2, .int .i64 0, .int .i64 0, .int .i64 0, .int .i64 0] 56)).alloc (.cells #[.int .i64 1, .slice (some ⟨w.heap.size + 1, 0, none⟩) 2 2, .slice none 0 0, .slice none 0 0, .string ⟨#[]⟩, .slice none 0 0, .slice none 0 0, .int .i64 0, .int .u64 0, .int .i64 0, .int .i64 0, .int .i64 0, .int .i64 0, .int .i64 0] 32)) X → Calls Tryz.prog 10 #[.agg #[.int .i64 1, .slice (some ⟨w.heap.size + 1, 0, none⟩) 2 2, .slice none 0 0, .slice none 0 0, .string ⟨#[]⟩, .slice none 0 0, .slice none 0 0, .int .i64 0, .int .u64 0, .int .i64 0, .int .i64 0, .int .i64 0, .int .i64 0, .int .i64 0], .agg #[.int .i64 0, .slice none 0 0, .slice none 0 0, .slice none 0 0, .string ⟨#[]⟩, .slice none 0 0, .slice none 0 0, .int .i64 0, .int .u64 0, .int .i64 0, .int .i64 0, .int .i64 0, .int .i64 0, .int .i64 0]] X fun e w' => e = .returned (.bool false) ∧ Below X.heap.size X w') := fun X hX => by
    have := same_any knP noPage _ _ _ _ _ _ _ _ _ _ X (HPH.out X hX) (hangs_none X)
    rw [knP_no] at this
    exact this
  generalize bytesD knP = KB at *
  clear HPB HPI hBC hwB
  go_enter Tryz.func5, Tryz.ntmps5
  go_wp2_with fail
  have hs0 : w.heap.size + 3 ≤ (((w.alloc (.cells #[.string ⟨#[49]⟩, .string ⟨#[50]⟩] 9)).alloc (.cells #[.string ⟨#[97]⟩, .int .i64 1, .string ⟨#[120]⟩, .int .i64 0, .int .i64 0, .slice none 0 0, .int .i64 0, .int .i64 0, .int .i64 0, .int .i64 0, .string ⟨#[98]⟩, .int .i64 3, .string ⟨#[]⟩, .int .i64 0, .int .i64 0, .slice (some ⟨w.heap.size, 0, none⟩) 2 2, .int .i64 0, .int .i64 0, .int .i64 0, .int .i64 0] 56)).alloc (.cells #[.int .i64 1, .slice (some ⟨w.heap.size + 1, 0, none⟩) 2 2, .slice none 0 0, .slice none 0 0, .string ⟨#[]⟩, .slice none 0 0, .slice none 0 0, .int .i64 0, .int .u64 0, .int .i64 0, .int .i64 0, .int .i64 0, .int .i64 0, .int .i64 0] 32)).heap.size := by omega
  clear hsC
  generalize (((w.alloc (.cells #[.string ⟨#[49]⟩, .string ⟨#[50]⟩] 9)).alloc (.cells #[.string ⟨#[97]⟩, .int .i64 1, .string ⟨#[120]⟩, .int .i64 0, .int .i64 0, .slice none 0 0, .int .i64 0, .int .i64 0, .int .i64 0, .int .i64 0, .string ⟨#[98]⟩, .int .i64 3, .string ⟨#[]⟩, .int .i64 0, .int .i64 0, .slice (some ⟨w.heap.size, 0, none⟩) 2 2, .int .i64 0, .int .i64 0, .int .i64 0, .int .i64 0] 56)).alloc (.cells #[.int .i64 1, .slice (some ⟨w.heap.size + 1, 0, none⟩) 2 2, .slice none 0 0, .slice none 0 0, .string ⟨#[]⟩, .slice none 0 0, .slice none 0 0, .int .i64 0, .int .u64 0, .int .i64 0, .int .i64 0, .int .i64 0, .int .i64 0, .int .i64 0] 32)) = X0 at *
  refine (HPBY.out _ hbC).mono ?_
  rintro e w1 ⟨rfl, hb⟩
  have hp1 := hbC.trans (hb.mono hs0)
  have hs1 := Nat.le_trans hs0 hb.size
  clear hb hbC HPBY
  go_wp2_with fail
  refine (HREAD.out _).mono ?_
  rintro e w2 ⟨vi, vk, vd, vv, vf, rfl, hq, hb⟩
  obtain ⟨ai, mi, ci, rfl⟩ := hq.items.slice
  obtain ⟨ak, mk, ck, rfl⟩ := hq.keys.slice
  obtain ⟨ad, md, cd, rfl⟩ := hq.kids.slice
  obtain ⟨av, mv, cv, rfl⟩ := hq.vals.slice
  obtain ⟨af, mf, cf, rfl⟩ := hq.free.slice
  have hp2 := (hp1.trans (hb.mono hs1)).alloc (by have := hb.size; omega) (.cells #[.int .i64 1, .slice ai mi ci, .slice ak mk ck, .slice ad md cd, .string ⟨#[]⟩, .slice av mv cv, .slice af mf cf, .int .i64 0, .int .u64 0, .int .i64 0, .int .i64 0, .int .i64 0, .int .i64 0, .int .i64 0] 32)
  have hs2 : w.heap.size + 3 ≤ w2.heap.size := Nat.le_trans hs1 hb.size
  have HQH : Hid (∀ X, Below (w2.heap.size + 1) (w2.alloc (.cells #[.int .i64 1, .slice ai mi ci, .slice ak mk ck, .slice ad md cd, .string ⟨#[]⟩, .slice av mv cv, .slice af mf cf, .int .i64 0, .int .u64 0, .int .i64 0, .int .i64 0, .int .i64 0, .int .i64 0, .int .i64 0] 32)) X → Hangs X knP (.slice ai mi ci) (.slice ak mk ck) (.slice ad md cd) (.slice av mv cv) (.slice af mf cf)) := fun X hX => hq.below (((Below.refl _ _).alloc (Nat.le_refl _) _).trans (hX.mono (by omega)))
  have HQ0 : Hid (∀ X, Below (w2.heap.size + 1) (w2.alloc (.cells #[.int .i64 1, .slice ai mi ci, .slice ak mk ck, .slice ad md cd, .string ⟨#[]⟩, .slice av mv cv, .slice af mf cf, .int .i64 0, .int .u64 0, .int .i64 0, .int .i64 0, .int .i64 0, .int .i64 0, .int .i64 0] 32)) X → X.heap[w2.heap.size]? = some (.cells #[.int .i64 1, .slice ai mi ci, .slice ak mk ck, .slice ad md cd, .string ⟨#[]⟩, .slice av mv cv, .slice af mf cf, .int .i64 0, .int .u64 0, .int .i64 0, .int .i64 0, .int .i64 0, .int .i64 0, .int .i64 0] 32 (0, 0))) := fun X hX => newPage (hX.mono (by simp))
  have hq2 : Below (w2.heap.size + 1) (w2.alloc (.cells #[.int .i64 1, .slice ai mi ci, .slice ak mk ck, .slice ad md cd, .string ⟨#[]⟩, .slice av mv cv, .slice af mf cf, .int .i64 0, .int .u64 0, .int .i64 0, .int .i64 0, .int .i64 0, .int .i64 0, .int .i64 0] 32)) (w2.alloc (.cells #[.int .i64 1, .slice ai mi ci, .slice ak mk ck, .slice ad md cd, .string ⟨#[]⟩, .slice av mv cv, .slice af mf cf, .int .i64 0, .int .u64 0, .int .i64 0, .int .i64 0, .int .i64 0, .int .i64 0, .int .i64 0] 32)) := Below.refl _ _
  have hz2 : w2.heap.size + 1 ≤ (w2.alloc (.cells #[.int .i64 1, .slice ai mi ci, .slice ak mk ck, .slice ad md cd, .string ⟨#[]⟩, .slice av mv cv, .slice af mf cf, .int .i64 0, .int .u64 0, .int .i64 0, .int .i64 0, .int .i64 0, .int .i64 0, .int .i64 0] 32)).heap.size := by simp
  have HSQ : Hid (∀ X, Below (w.heap.size + 3) X0 X → Below (w2.heap.size + 1) (w2.alloc (.cells #[.int .i64 1, .slice ai mi ci, .slice ak mk ck, .slice ad md cd, .string ⟨#[]⟩, .slice av mv cv, .slice af mf cf, .int .i64 0, .int .u64 0, .int .i64 0, .int .i64 0, .int .i64 0, .int .i64 0, .int .i64 0] 32)) X → Calls Tryz.prog 10 #[.agg #[.int .i64 1, .slice (some ⟨w.heap.size + 1, 0, none⟩) 2 2, .slice none 0 0, .slice none 0 0, .string ⟨#[]⟩, .slice none 0 0, .slice none 0 0, .int .i64 0, .int .u64 0, .int .i64 0, .int .i64 0, .int .i64 0, .int .i64 0, .int .i64 0], .agg #[.int .i64 1, .slice ai mi ci, .slice ak mk ck, .slice ad md cd, .string ⟨#[]⟩, .slice av mv cv, .slice af mf cf, .int .i64 0, .int .u64 0, .int .i64 0, .int .i64 0, .int .i64 0, .int .i64 0, .int .i64 0]] X fun e w' => e = .returned (.bool true) ∧ Below X.heap.size X w') := fun X hX hY => by
    have := same_any knP knP _ _ _ _ _ _ _ _ _ _ X (HPH.out X hX) (HQH.out X hY)
    rw [same_self] at this
    exact this
  clear hq hb hp1 hs1 HREAD HQH HPH
  go_wp2_with fail
  generalize (w2.alloc (.cells #[.int .i64 1, .slice ai mi ci, .slice ak mk ck, .slice ad md cd, .string ⟨#[]⟩, .slice av mv cv, .slice af mf cf, .int .i64 0, .int .u64 0, .int .i64 0, .int .i64 0, .int .i64 0, .int .i64 0, .int .i64 0] 32)) = X3 at *
  generalize w2.heap.size = Q at *
  refine (HNONE.out _).mono ?_
  rintro e w4 ⟨vi, vk, vd, vv, vf, rfl, hn, hb⟩
  obtain ⟨bi, oi, ei, rfl⟩ := hn.items.slice
  obtain ⟨bk, ok, ek, rfl⟩ := hn.keys.slice
  obtain ⟨bd, od, ed, rfl⟩ := hn.kids.slice
  obtain ⟨bv, ov, ev, rfl⟩ := hn.vals.slice
  obtain ⟨bf, of, ef, rfl⟩ := hn.free.slice
  have hz4 : Q + 1 ≤ w4.heap.size := Nat.le_trans hz2 hb.size
  have hp4 := (hp2.trans (hb.mono (by omega))).alloc (by omega) (.cells #[.int .i64 0, .slice bi oi ei, .slice bk ok ek, .slice bd od ed, .string ⟨#[]⟩, .slice bv ov ev, .slice bf of ef, .int .i64 0, .int .u64 0, .int .i64 0, .int .i64 0, .int .i64 0, .int .i64 0, .int .i64 0] 32)
  have hq4 := (hq2.trans (hb.mono hz2)).alloc hz4 (.cells #[.int .i64 0, .slice bi oi ei, .slice bk ok ek, .slice bd od ed, .string ⟨#[]⟩, .slice bv ov ev, .slice bf of ef, .int .i64 0, .int .u64 0, .int .i64 0, .int .i64 0, .int .i64 0, .int .i64 0, .int .i64 0] 32)
  have hP4 := HP0.out _ hp4
  have cP4 := cell_rowL hP4
  clear hn hb hp2 hq2 hz2 HNONE hP4
  go_wp2_with fail
  clear cP4
  have hzX : Q + 1 ≤ (w4.alloc (.cells #[.int .i64 0, .slice bi oi ei, .slice bk ok ek, .slice bd od ed, .string ⟨#[]⟩, .slice bv ov ev, .slice bf of ef, .int .i64 0, .int .u64 0, .int .i64 0, .int .i64 0, .int .i64 0, .int .i64 0, .int .i64 0] 32)).heap.size := by simp; omega
  generalize (w4.alloc (.cells #[.int .i64 0, .slice bi oi ei, .slice bk ok ek, .slice bd od ed, .string ⟨#[]⟩, .slice bv ov ev, .slice bf of ef, .int .i64 0, .int .u64 0, .int .i64 0, .int .i64 0, .int .i64 0, .int .i64 0, .int .i64 0] 32)) = X5 at *
  clear hz4
  refine (HPIS.out _ hp4).mono ?_
  rintro e w6 ⟨rfl, hb⟩
  have hp6 := hp4.trans (hb.mono (by omega))
  have hq6 := hq4.trans (hb.mono hzX)
  have hz6 := Nat.le_trans hzX hb.size
  clear hb hp4 hq4 hzX
  go_wp2_with fail
  refine (HNI.out _).mono ?_
  rintro e w7 ⟨rfl, hb⟩
  have hp7 := hp6.trans (hb.mono (by omega))
  have hq7 := hq6.trans (hb.mono hz6)
  have hz7 := Nat.le_trans hz6 hb.size
  have cP7 := cell_rowL (HP0.out _ hp7)
  have cQ7 := cell_rowL (HQ0.out _ hq7)
  clear hb hp6 hq6 hz6
  go_wp2_with fail
  clear cP7 cQ7
  refine (HSQ.out _ hp7 hq7).mono ?_
  rintro e w8 ⟨rfl, hb⟩
  have hp8 := hp7.trans (hb.mono (by omega))
  have hz8 := Nat.le_trans hz7 hb.size
  have cP8 := cell_rowL (HP0.out _ hp8)
  clear hb hp7 hq7 hz7
  go_wp2_with fail
  clear cP8
  refine (HSN.out _ hp8).mono ?_
  rintro e w9 ⟨rfl, hb⟩
  have hp9 := hp8.trans (hb.mono (by omega))
  have hz9 := Nat.le_trans hz8 hb.size
  clear hb hp8 hz8
  go_wp2_with fail
  refine (is_same _).mono ?_
  rintro e wa ⟨rfl, hwa⟩
  subst wa
  go_wp2_with fail
  refine (HNB.out _).mono ?_
  rintro e wb ⟨rfl, hb⟩
  have hpb := hp9.trans (hb.mono (by omega))
  clear hb hp9 hz9
  have hBW := HWC.out _ hpb
  clear HP0 HPIS HWC HNI HNB HSN HSQ HQ0 hpb
  have hsh1 : shortB ⟨#[97]⟩ = true := by decide
  have hsh2 : shortB ⟨#[]⟩ = false := by decide
  have hsh3 : shortB ⟨#[49, 50, 51, 52, 53, 54, 55, 56, 57]⟩ = false := by decide
  go_wp2_with (go_at_call 15; refine (short_any _ _ (by unfold maxLen; decide)).mono ?_; rintro e w' ⟨rfl, hw'⟩; subst hw')
  go_ret
  exact ⟨rfl, hBW⟩
end Go.Proofs.YtmdapookkggjkaaGreat

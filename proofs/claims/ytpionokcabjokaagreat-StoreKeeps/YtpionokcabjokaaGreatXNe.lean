/- Items of the call's own; what takePage takes. -/
import Derived.Test.YtpionokcabjokaaGreatXNd
namespace Go.Proofs.YtpionokcabjokaaGreat
open Go.RowKit Go.Sort

def itemRows (l : List ItemD) (us : List Value) : List Value := (List.zipWith (fun x u => itemCells x u) l us).flatten
/-- A row of items of the call's own. -/
def OwnItems (w : World) (base : Nat) (v : Value) (l : List ItemD) : Prop :=
  l.length ≤ 1000 ∧ (∀ x ∈ l, x.key.size ≤ 65535 ∧ x.val.size ≤ 65535) ∧ ∃ us : List Value, us.length = l.length ∧ w.ownsRow base 67 10 v l.length (itemRows l us) ∧ ∀ i (h : i < l.length) (h' : i < us.length), OwnStrs w base us[i] l[i].vals
theorem itemRows_snoc (l : List ItemD) (us : List Value) (x : ItemD) (u : Value) (h : us.length = l.length) : itemRows (l ++ [x]) (us ++ [u]) = itemRows l us ++ itemCells x u := by
  unfold itemRows
  rw [List.zipWith_append (by omega), List.flatten_append]
  simp
theorem OwnItems.items {w : World} {base : Nat} {v : Value} {l : List ItemD} (h : OwnItems w base v l) : ItemsAt w v l := by
  obtain ⟨hl, hz, us, hus, hown, hv⟩ := h
  rcases hown.2 with ⟨rfl, h0⟩ | ⟨g, cap, cur, rfl, _, hgg, _⟩
  · have : l = [] := List.eq_nil_of_length_eq_zero h0
    subst this
    exact items_nil w
  · have hlt : g < w.heap.size := (Array.getElem?_eq_some_iff.1 hgg).1
    refine ⟨some ⟨g, 0, none⟩, cap, rfl, by unfold maxLen; omega, fun i hi => ⟨g, 0, us[i]'(by omega), rfl, hlt, ?_, (hv i hi (by omega)).strs, ?_, ?_⟩⟩
    · intro j u hj
      have hj10 : j < 10 := by
        rcases Nat.lt_or_ge j 10 with h | h
        · exact h
        · rw [List.getElem?_eq_none (by simp [itemCells]; omega)] at hj
          cases hj
      have key : (itemRows l us)[i * 10 + j]? = some u := by
        unfold itemRows
        rw [flatten_at 10 _ i j ?_ (by simp; omega) hj10]
        · simpa using hj
        · intro r hr
          obtain ⟨k, hk, rfl⟩ := List.mem_iff_getElem.1 hr
          simp [itemCells]
      have := hown.cells (g := g) rfl (i * 10 + j) _ key
      rw [Addr.add_mid] at this
      rwa [Nat.add_assoc]
    · have := (hz _ (List.getElem_mem hi)).1
      unfold maxLen
      omega
    · have := (hz _ (List.getElem_mem hi)).2
      unfold maxLen
      omega
theorem ownItems_nil (w : World) (base : Nat) : OwnItems w base (.slice none 0 0) [] := ⟨by simp, by simp, [], rfl, World.ownsRow_nil _ _ _ _, fun i h => absurd h (by simp)⟩
theorem OwnItems.slice {w : World} {base : Nat} {v : Value} {l : List ItemD} (h : OwnItems w base v l) : ∃ ao n cap, v = .slice ao n cap := by
  obtain ⟨_, _, us, _, h, _⟩ := h
  rcases h.2 with ⟨rfl, _⟩ | ⟨g, cap, cur, rfl, _⟩
  · exact ⟨_, _, _, rfl⟩
  · exact ⟨_, _, _, rfl⟩
theorem OwnStrs.ty {w w' : World} {base : Nat} {v : Value} {l : List ByteArray} {row : Option Nat} (h : OwnStrs w base v l) (hg : w.grownBy w' row) (hr : ∀ k, row = some k → ∃ cs T fr, w.heap[k]? = some (.cells cs T fr) ∧ T ≠ 9) : OwnStrs w' base v l := ⟨owns_kept_ty h.1 hg hr, h.2⟩
theorem OwnStrs.alloc {w : World} {base : Nat} {v : Value} {l : List ByteArray} (h : OwnStrs w base v l) (o : Obj) : OwnStrs (w.alloc o) base v l := ⟨h.1.alloc o, h.2⟩
theorem OwnItems.lt {w w' : World} {base : Nat} {v : Value} {l : List ItemD} {row : Option Nat} (h : OwnItems w base v l) (hg : w.grownBy w' row) (hr : ∀ k, row = some k → k < base) : OwnItems w' base v l := by
  obtain ⟨hl, hz, us, hus, hown, hv⟩ := h
  exact ⟨hl, hz, us, hus, owns_kept_lt hown hg hr, fun i h1 h2 => (hv i h1 h2).kept hg hr⟩
theorem OwnItems.ty {w w' : World} {base : Nat} {v : Value} {l : List ItemD} {row : Option Nat} (h : OwnItems w base v l) (hg : w.grownBy w' row) (hr : ∀ k, row = some k → ∃ cs T fr, w.heap[k]? = some (.cells cs T fr) ∧ T ≠ 9 ∧ T ≠ 67) : OwnItems w' base v l := by
  obtain ⟨hl, hz, us, hus, hown, hv⟩ := h
  refine ⟨hl, hz, us, hus, owns_kept_ty hown hg (fun k hk => ?_), fun i h1 h2 => (hv i h1 h2).ty hg (fun k hk => ?_)⟩
  · obtain ⟨a, b, c, d, e, f⟩ := hr k hk
    exact ⟨a, b, c, d, f⟩
  · obtain ⟨a, b, c, d, e, f⟩ := hr k hk
    exact ⟨a, b, c, d, e⟩
theorem OwnItems.alloc {w : World} {base : Nat} {v : Value} {l : List ItemD} (h : OwnItems w base v l) (o : Obj) : OwnItems (w.alloc o) base v l := by
  obtain ⟨hl, hz, us, hus, hown, hv⟩ := h
  exact ⟨hl, hz, us, hus, hown.alloc o, fun i h1 h2 => (hv i h1 h2).alloc o⟩
theorem OwnFrees.ty {w w' : World} {base : Nat} {v : Value} {l : List FreeD} {row : Option Nat} (h : OwnFrees w base v l) (hg : w.grownBy w' row) (hr : ∀ k, row = some k → ∃ cs T fr, w.heap[k]? = some (.cells cs T fr) ∧ T ≠ 3 ∧ T ≠ 74) : OwnFrees w' base v l := by
  obtain ⟨hl, us, hus, hown, hids⟩ := h
  refine ⟨hl, us, hus, owns_kept_ty hown hg (fun k hk => ?_), fun i h1 h2 => (hids i h1 h2).ty hg (fun k hk => ?_)⟩
  · obtain ⟨a, b, c, d, e, f⟩ := hr k hk
    exact ⟨a, b, c, d, f⟩
  · obtain ⟨a, b, c, d, e, f⟩ := hr k hk
    exact ⟨a, b, c, d, e⟩

def itSn : Nat → St → St
  | 0, s => s
  | k + 1, s => itemS (itSn k s)
def itemsV : Nat → St → List ItemD
  | 0, _ => []
  | k + 1, s => itemsV k s ++ [itemV (itSn k s)]
theorem itemsV_length : ∀ k s, (itemsV k s).length = k
  | 0, _ => rfl
  | k + 1, s => by simp [itemsV, itemsV_length k s]
def kdS (s : St) : St := nS (tS s)
def kdSn : Nat → St → St
  | 0, s => s
  | k + 1, s => kdS (kdSn k s)
def keysV : Nat → St → List ByteArray
  | 0, _ => []
  | k + 1, s => keysV k s ++ [tV (kdSn k s)]
def kidsV : Nat → St → List Int
  | 0, _ => []
  | k + 1, s => kidsV k s ++ [iV (tS (kdSn k s))]
theorem keysV_length : ∀ k s, (keysV k s).length = k
  | 0, _ => rfl
  | k + 1, s => by simp [keysV, keysV_length k s]
theorem kidsV_length : ∀ k s, (kidsV k s).length = k
  | 0, _ => rfl
  | k + 1, s => by simp [kidsV, kidsV_length k s]
theorem keysV_sizes : ∀ k s, ∀ x ∈ keysV k s, x.size ≤ 65535
  | 0, _, x, h => by simp [keysV] at h
  | k + 1, s, x, h => by
    rcases List.mem_append.1 h with h | h
    · exact keysV_sizes k s x h
    · rw [List.mem_singleton.1 h]
      exact tV_size _
theorem item_sizes (s : St) : (itemV s).key.size ≤ 65535 ∧ (itemV s).val.size ≤ 65535 := by
  have h1 := tV_size s
  have h2 := tV_size (nS (tS s))
  have hz : (⟨#[]⟩ : ByteArray).size = 0 := rfl
  unfold itemV
  split
  · exact ⟨h1, h2⟩
  split
  · exact ⟨h1, by rw [noItem, hz]; omega⟩
  split
  · exact ⟨h1, by rw [noItem, hz]; omega⟩
  split
  · exact ⟨h1, by rw [noItem, hz]; omega⟩
  · exact ⟨h1, by rw [noItem, hz]; omega⟩
theorem itemsV_sizes : ∀ k s, ∀ x ∈ itemsV k s, x.key.size ≤ 65535 ∧ x.val.size ≤ 65535
  | 0, _, x, h => by simp [itemsV] at h
  | k + 1, s, x, h => by
    rcases List.mem_append.1 h with h | h
    · exact itemsV_sizes k s x h
    · rw [List.mem_singleton.1 h]
      exact item_sizes _
/-- The blocks from base on are as they were. -/
def Agree (base : Nat) (w w' : World) : Prop := w.heap.size ≤ w'.heap.size ∧ ∀ q, base ≤ q → q < w.heap.size → w'.heap[q]? = w.heap[q]?
theorem owns_agree {w w' : World} {base : Nat} {e : TypeId} {size n : Nat} {v : Value} {xs : List Value} (h : w.ownsRow base e size v n xs) (ha : Agree base w w') : w'.ownsRow base e size v n xs := by
  refine ⟨h.1, ?_⟩
  rcases h.2 with hn | ⟨g, cap, cur, hv, hg, hh, rest⟩
  · exact .inl hn
  · exact .inr ⟨g, cap, cur, hv, hg, (ha.2 g hg (Array.getElem?_eq_some_iff.1 hh).1).trans hh, rest⟩
theorem OwnStrs.agree {w w' : World} {base : Nat} {v : Value} {l : List ByteArray} (h : OwnStrs w base v l) (ha : Agree base w w') : OwnStrs w' base v l := ⟨owns_agree h.1 ha, h.2⟩
theorem OwnInts.agree {w w' : World} {base : Nat} {v : Value} {l : List Int} (h : OwnInts w base v l) (ha : Agree base w w') : OwnInts w' base v l := ⟨owns_agree h.1 ha, h.2⟩
theorem OwnItems.agree {w w' : World} {base : Nat} {v : Value} {l : List ItemD} (h : OwnItems w base v l) (ha : Agree base w w') : OwnItems w' base v l := by
  obtain ⟨hl, hz, us, hus, hown, hv⟩ := h
  exact ⟨hl, hz, us, hus, owns_agree hown ha, fun i h1 h2 => (hv i h1 h2).agree ha⟩
theorem OwnFrees.agree {w w' : World} {base : Nat} {v : Value} {l : List FreeD} (h : OwnFrees w base v l) (ha : Agree base w w') : OwnFrees w' base v l := by
  obtain ⟨hl, us, hus, hown, hids⟩ := h
  exact ⟨hl, us, hus, owns_agree hown ha, fun i h1 h2 => (hids i h1 h2).agree ha⟩
theorem OwnFrees.mono {w : World} {base B : Nat} {v : Value} {l : List FreeD} (h : OwnFrees w base v l) (hB : B ≤ base) : OwnFrees w B v l := by
  obtain ⟨hl, us, hus, hown, hids⟩ := h
  exact ⟨hl, us, hus, owns_mono hown hB, fun i h1 h2 => (hids i h1 h2).mono hB⟩
/-- What hangs on a page, all of it in blocks from base on. -/
def HangsB (base : Nat) (w : World) (p : PageD) (vi vk vd vv vf : Value) : Prop := ∀ w', Agree base w w' → Hangs w' p vi vk vd vv vf
theorem text_nil_le : (⟨#[]⟩ : ByteArray).size ≤ maxLen := Nat.zero_le _
def metaV (s : St) : MetaD := ⟨nV s, rootV (nS s), iV (rootS (nS s)), iV (nS (rootS (nS s)))⟩
/-- What takePage takes behind the sum and the kind. -/
def partV (k : Int) (s : St) : PageD :=
  if k = 1 then { noPage with kind := k, items := itemsV (min (nV s) 4) (nS s) }
  else if k = 2 then { noPage with kind := k, keys := keysV (min (nV s) 4) (nS s), kids := kidsV (min (nV s) 4) (nS s) }
  else if k = 3 then { noPage with kind := k, text := tV s }
  else if k = 4 then { noPage with kind := k, vals := textsV (min (nV s) 12) (nS s) }
  else if k = 5 then { noPage with kind := k, free := (freesGo (min (nV s) 20) 20 (nS s)).1, next := iV (freesGo (min (nV s) 20) 20 (nS s)).2 }
  else if k = 6 then { noPage with kind := k, mt := metaV s }
  else { noPage with kind := k }
def pageV (s : St) : PageD := partV (iV (nS s)) (nS (nS s))
theorem Tryz.infoItem : (Tryz.prog.info? 67).map (fun i => (i.zero, i.size, i.bytes)) = some (some (.agg #[.string ⟨#[]⟩, .int .i64 0, .string ⟨#[]⟩, .int .i64 0, .int .i64 0, .slice none 0 0, .int .i64 0, .int .i64 0, .int .i64 0, .int .i64 0]), 10, 112) := by kernel_rfl
/-- A page in block P, the result's place in block R. -/
def InP (w W : World) (P b : Nat) (cs : Array Value) : Prop :=
  W.heap[P]? = some (.cells cs 35 (0, 0)) ∧ W.heap[w.heap.size]? = some (.cells #[.int .i64 0, .slice none 0 0, .slice none 0 0, .slice none 0 0, .string ⟨#[]⟩, .slice none 0 0, .slice none 0 0, .int .i64 0, .int .u64 0, .int .i64 0, .int .i64 0, .int .i64 0, .int .i64 0, .int .i64 0] 35 (0, 0)) ∧ w.heap.size < P ∧ w.grownBy W (some b)
theorem InP.grown {w W W' : World} {P b : Nat} {cs : Array Value} (h : InP w W P b cs) (hb : b < w.heap.size) (hg : W.grownBy W' (some b)) : InP w W' P b cs := by
  obtain ⟨h1, h2, h3, h4⟩ := h
  exact ⟨(hg.block P (Array.getElem?_eq_some_iff.1 h1).1 (by simp; omega)).trans h1, (hg.block _ (Array.getElem?_eq_some_iff.1 h2).1 (by simp; omega)).trans h2, h3, grown_trans h4 hg⟩
theorem InP.set {w W : World} {P b : Nat} {cs : Array Value} (h : InP w W P b cs) (i : Nat) (v : Value) : InP w (W.setCell ⟨P, i, none⟩ v) P b (cs.setIfInBounds i v) := by
  obtain ⟨h1, h2, h3, h4⟩ := h
  exact ⟨heap_setCell_same W P i _ _ _ h1, (Below.heap_setCell _ _ _ _ (by simp; omega)).trans h2, h3, grown_set h4 P i (by omega) v⟩
theorem InP.alloc {w W : World} {P b : Nat} {cs : Array Value} (h : InP w W P b cs) (o : Obj) : InP w (W.alloc o) P b cs := by
  obtain ⟨h1, h2, h3, h4⟩ := h
  exact ⟨(Below.heap_alloc _ _ _ (Array.getElem?_eq_some_iff.1 h1).1).trans h1, (Below.heap_alloc _ _ _ (Array.getElem?_eq_some_iff.1 h2).1).trans h2, h3, grown_new h4 o⟩
/-- A row of another type grows. -/
theorem InP.row {w W W' : World} {P b : Nat} {cs : Array Value} {row : Option Nat} (h : InP w W P b cs) (hg : W.grownBy W' row) (hr : ∀ k, row = some k → w.heap.size ≤ k ∧ ∃ cs T fr, W.heap[k]? = some (.cells cs T fr) ∧ T ≠ 35) : InP w W' P b cs := by
  obtain ⟨h1, h2, h3, h4⟩ := h
  have key : ∀ (q : Nat) (c : Array Value), W.heap[q]? = some (Obj.cells c 35 (0, 0)) → W'.heap[q]? = some (Obj.cells c 35 (0, 0)) := by
    intro q c hq
    refine (hg.block q (Array.getElem?_eq_some_iff.1 hq).1 (fun e => ?_)).trans hq
    obtain ⟨_, c2, T, fr, hk, hT⟩ := hr q e.symm
    rw [hq] at hk
    simp only [Option.some.injEq, Obj.cells.injEq] at hk
    exact hT hk.2.1.symm
  exact ⟨key _ _ h1, key _ _ h2, h3, grown_step h4 hg (fun k hk => (hr k hk).1)⟩
theorem InP.cell {w W : World} {P b : Nat} {cs : Array Value} (h : InP w W P b cs) (j : Nat) : W.cell? ⟨P, j, none⟩ = cs[j]? := cell_rowL h.1 j
theorem InP.frozen {w W : World} {P b : Nat} {cs : Array Value} (h : InP w W P b cs) (j : Nat) : W.frozen? ⟨P, j, none⟩ = false := frozen_rowL h.1 j
theorem InP.cellR {w W : World} {P b : Nat} {cs : Array Value} (h : InP w W P b cs) (j : Nat) : W.cell? ⟨w.heap.size, j, none⟩ = (#[.int .i64 0, .slice none 0 0, .slice none 0 0, .slice none 0 0, .string ⟨#[]⟩, .slice none 0 0, .slice none 0 0, .int .i64 0, .int .u64 0, .int .i64 0, .int .i64 0, .int .i64 0, .int .i64 0, .int .i64 0] : Array Value)[j]? := cell_rowL h.2.1 j
theorem InP.frozenR {w W : World} {P b : Nat} {cs : Array Value} (h : InP w W P b cs) (j : Nat) : W.frozen? ⟨w.heap.size, j, none⟩ = false := frozen_rowL h.2.1 j
end Go.Proofs.YtpionokcabjokaaGreat

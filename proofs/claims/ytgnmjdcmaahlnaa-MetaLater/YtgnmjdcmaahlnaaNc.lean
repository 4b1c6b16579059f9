/- Rows of structs of the call's own; what takeFree takes. -/
import Derived.Test.YtgnmjdcmaahlnaaNb
import Derived.Deep.LoopGhost
import Derived.Deep.RegionHeld3
import Derived.Deep.AppendLies
namespace Go.Proofs.Ytgnmjdcmaahlnaa
open Go.RowKit Go.Sort

theorem flatten_at {α : Type} (c : Nat) : ∀ (rows : List (List α)) (i j : Nat), (∀ r ∈ rows, r.length = c) → (hi : i < rows.length) → j < c → rows.flatten[i * c + j]? = rows[i][j]?
  | [], i, j, _, hi, _ => absurd hi (by simp)
  | r :: rs, 0, j, h, _, hj => by
    have hr := h r (by simp)
    simp only [List.flatten_cons, Nat.zero_mul, Nat.zero_add, List.getElem_cons_zero]
    rw [List.getElem?_append_left (by omega)]
  | r :: rs, i + 1, j, h, hi, hj => by
    have hr := h r (by simp)
    have ih := flatten_at c rs i j (fun x hx => h x (by simp [hx])) (by simpa using hi) hj
    simp only [List.flatten_cons, List.getElem_cons_succ]
    rw [List.getElem?_append_right (by rw [hr, Nat.add_mul]; omega), hr, ← ih]
    congr 1
    rw [Nat.add_mul]
    omega
theorem flatten_len {α : Type} (c : Nat) : ∀ (rows : List (List α)), (∀ r ∈ rows, r.length = c) → rows.flatten.length = rows.length * c
  | [], _ => by simp
  | r :: rs, h => by
    have ih := flatten_len c rs (fun x hx => h x (by simp [hx]))
    simp only [List.flatten_cons, List.length_append, List.length_cons, h r (by simp), ih, Nat.add_mul]
    omega

def intCells (l : List Int) : List Value := l.map (Value.int .i64)
/-- A row of numbers of the call's own. -/
def OwnInts (w : World) (base : Nat) (v : Value) (l : List Int) : Prop := w.ownsRow base 3 1 v l.length (intCells l) ∧ l.length ≤ 1000
theorem OwnInts.ints {w : World} {base : Nat} {v : Value} {l : List Int} (h : OwnInts w base v l) : IntsAt w v l := by
  obtain ⟨h1, h2⟩ := h
  rcases h1.2 with ⟨rfl, h0⟩ | ⟨g, cap, cur, rfl, _⟩
  · have : l = [] := List.eq_nil_of_length_eq_zero h0
    subst this
    exact ints_nil w
  · refine ⟨some ⟨g, 0, none⟩, cap, rfl, by unfold maxLen; omega, fun i hi => ⟨⟨g, 0, none⟩, rfl, ?_⟩⟩
    exact h1.cells (g := g) rfl i _ (by simp [intCells, hi])
theorem ownInts_nil (w : World) (base : Nat) : OwnInts w base (.slice none 0 0) [] := ⟨World.ownsRow_nil _ _ _ _, by simp⟩
theorem owns_kept_lt {w w' : World} {base : Nat} {e : TypeId} {size n : Nat} {v : Value} {xs : List Value} {row : Option Nat} (h : w.ownsRow base e size v n xs) (hg : w.grownBy w' row) (hr : ∀ k, row = some k → k < base) : w'.ownsRow base e size v n xs := by
  refine h.kept hg ?_
  cases hv : v.ownBlock with
  | none => exact .inl rfl
  | some g =>
    refine .inr (fun e => ?_)
    have h1 := (h.lt g hv).1
    have h2 := hr g e.symm
    omega
/-- Rows of two types lie in two blocks. -/
theorem owns_kept_ty {w w' : World} {base : Nat} {e : TypeId} {size n : Nat} {v : Value} {xs : List Value} {row : Option Nat} (h : w.ownsRow base e size v n xs) (hg : w.grownBy w' row) (hr : ∀ k, row = some k → ∃ cs T fr, w.heap[k]? = some (.cells cs T fr) ∧ T ≠ e) : w'.ownsRow base e size v n xs := by
  refine h.kept hg ?_
  rcases h.2 with ⟨rfl, _⟩ | ⟨g, cap, cur, rfl, _, hgg, _⟩
  · exact .inl rfl
  · refine .inr (fun e2 => ?_)
    obtain ⟨cs, T, fr, h1, h2⟩ := hr g e2.symm
    rw [hgg] at h1
    simp only [Option.some.injEq, Obj.cells.injEq] at h1
    exact h2 h1.2.1.symm
theorem owns_block {w : World} {base : Nat} {e : TypeId} {size n : Nat} {v : Value} {xs : List Value} (h : w.ownsRow base e size v n xs) : ∀ k, v.ownBlock = some k → ∃ cs fr, w.heap[k]? = some (.cells cs e fr) := by
  intro k hk
  rcases h.2 with ⟨rfl, _⟩ | ⟨g, cap, cur, rfl, _, hgg, _⟩
  · simp [Value.ownBlock] at hk
  · simp only [Value.ownBlock, Option.some.injEq] at hk
    subst hk
    exact ⟨_, _, hgg⟩
theorem OwnInts.lt {w w' : World} {base : Nat} {v : Value} {l : List Int} {row : Option Nat} (h : OwnInts w base v l) (hg : w.grownBy w' row) (hr : ∀ k, row = some k → k < base) : OwnInts w' base v l := ⟨owns_kept_lt h.1 hg hr, h.2⟩
theorem OwnInts.ty {w w' : World} {base : Nat} {v : Value} {l : List Int} {row : Option Nat} (h : OwnInts w base v l) (hg : w.grownBy w' row) (hr : ∀ k, row = some k → ∃ cs T fr, w.heap[k]? = some (.cells cs T fr) ∧ T ≠ 3) : OwnInts w' base v l := ⟨owns_kept_ty h.1 hg hr, h.2⟩
theorem OwnInts.alloc {w : World} {base : Nat} {v : Value} {l : List Int} (h : OwnInts w base v l) (o : Obj) : OwnInts (w.alloc o) base v l := ⟨h.1.alloc o, h.2⟩
theorem OwnInts.slice {w : World} {base : Nat} {v : Value} {l : List Int} (h : OwnInts w base v l) : ∃ ao n cap, v = .slice ao n cap := by
  rcases h.1.2 with ⟨rfl, _⟩ | ⟨g, cap, cur, rfl, _⟩
  · exact ⟨_, _, _, rfl⟩
  · exact ⟨_, _, _, rfl⟩

def freeCells (l : List FreeD) (us : List Value) : List Value := (List.zipWith (fun f u => [Value.int .u64 f.txn, u]) l us).flatten
/-- A row of free numbers of the call's own. -/
def OwnFrees (w : World) (base : Nat) (v : Value) (l : List FreeD) : Prop :=
  l.length ≤ 1000 ∧ ∃ us : List Value, us.length = l.length ∧ w.ownsRow base 87 2 v l.length (freeCells l us) ∧ ∀ i (h : i < l.length) (h' : i < us.length), OwnInts w base us[i] l[i].ids
theorem freeCells_snoc (l : List FreeD) (us : List Value) (f : FreeD) (u : Value) (h : us.length = l.length) : freeCells (l ++ [f]) (us ++ [u]) = freeCells l us ++ [.int .u64 f.txn, u] := by
  unfold freeCells
  rw [List.zipWith_append (by omega), List.flatten_append]
  simp
theorem OwnFrees.frees {w : World} {base : Nat} {v : Value} {l : List FreeD} (h : OwnFrees w base v l) : FreesAt w v l := by
  obtain ⟨hl, us, hus, hown, hids⟩ := h
  rcases hown.2 with ⟨rfl, h0⟩ | ⟨g, cap, cur, rfl, _, hgg, _⟩
  · have : l = [] := List.eq_nil_of_length_eq_zero h0
    subst this
    exact frees_nil w
  · have hlt : g < w.heap.size := (Array.getElem?_eq_some_iff.1 hgg).1
    have key : ∀ i (h : i < l.length) (h' : i < us.length) j, j < 2 → (freeCells l us)[i * 2 + j]? = [Value.int .u64 l[i].txn, us[i]][j]? := by
      intro i hi hi' j hj
      unfold freeCells
      rw [flatten_at 2 _ i j ?_ (by simp; omega) hj]
      · simp
      · intro r hr
        obtain ⟨k, hk, rfl⟩ := List.mem_iff_getElem.1 hr
        simp
    refine ⟨some ⟨g, 0, none⟩, cap, rfl, by unfold maxLen; omega, fun i hi => ⟨g, 0, us[i]'(by omega), rfl, hlt, ?_, ?_, (hids i hi (by omega)).ints⟩⟩
    · rw [Nat.zero_add]
      have := hown.cells (g := g) rfl (i * 2) _ ((key i hi (by omega) 0 (by omega)).trans rfl)
      rwa [Addr.add_mid, Nat.zero_add] at this
    · rw [Nat.zero_add]
      have := hown.cells (g := g) rfl (i * 2 + 1) _ ((key i hi (by omega) 1 (by omega)).trans rfl)
      rwa [Addr.add_mid, Nat.zero_add] at this

def nSn : Nat → St → St
  | 0, s => s
  | k + 1, s => nS (nSn k s)
def numsV : Nat → St → List Int
  | 0, _ => []
  | k + 1, s => numsV k s ++ [iV (nSn k s)]
theorem numsV_length : ∀ k s, (numsV k s).length = k
  | 0, _ => rfl
  | k + 1, s => by simp [numsV, numsV_length k s]
/-- So many rows, so many numbers: what is taken, and what is left. -/
def freesGo : Nat → Nat → St → List FreeD × St
  | 0, _, s => ([], s)
  | k + 1, r, s =>
    if nV (nS s) ≤ r then
      (⟨nV s, numsV (nV (nS s)) (nS (nS s))⟩ :: (freesGo k (r - nV (nS s)) (nSn (nV (nS s)) (nS (nS s)))).1, (freesGo k (r - nV (nS s)) (nSn (nV (nS s)) (nS (nS s)))).2)
    else ([], nSn r (nS (nS s)))
theorem Try.infoInt : (Try.prog.info? 3).map (fun i => (i.zero, i.size, i.bytes)) = some (some (.int .i64 0), 1, 8) := by kernel_rfl
theorem Try.infoFree : (Try.prog.info? 87).map (fun i => (i.zero, i.size, i.bytes)) = some (some (.agg #[.int .u64 0, .slice none 0 0]), 2, 32) := by kernel_rfl
end Go.Proofs.Ytgnmjdcmaahlnaa

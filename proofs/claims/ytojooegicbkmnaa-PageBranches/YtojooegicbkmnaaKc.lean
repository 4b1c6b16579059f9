/- PageFrees: pages of free numbers, as they may be and as they may not. -/
import Derived.Test.YtojooegicbkmnaaKa
namespace Go.Proofs.Ytojooegicbkmnaa
open Go.RowKit Go.Sort

/-- A page of free numbers in block B, two rows behind it. -/
structure Fr (w : World) (B : Nat) (W : World) (vf vx vy : Value) (ty : Int) : Prop where
  pg : W.heap[B]? = some (.cells #[.int .i64 5, .slice none 0 0, .slice none 0 0, .slice none 0 0, .string ⟨#[]⟩, .slice none 0 0, vf, .int .i64 0, .int .u64 0, .int .i64 0, .int .i64 0, .int .i64 0, .int .i64 0, .int .i64 0] 33 (0, 0))
  px : W.heap[B + 1]? = some (.cells #[.int .u64 5, vx] 61 (0, 0))
  py : W.heap[B + 1 + 1]? = some (.cells #[.int .u64 ty, vy] 61 (0, 0))
  below : Below B w W
  size : B + 3 ≤ W.heap.size
theorem Fr.alloc {w W : World} {B : Nat} {vf vx vy : Value} {ty : Int} (h : Fr w B W vf vx vy ty) (o : Obj) : Fr w B (W.alloc o) vf vx vy ty := by
  have hs := h.size
  exact ⟨(Below.heap_alloc _ _ _ (by omega)).trans h.pg, (Below.heap_alloc _ _ _ (by omega)).trans h.px, (Below.heap_alloc _ _ _ (by omega)).trans h.py, h.below.alloc (by omega) o, by simp; omega⟩
theorem Fr.row {w W W' : World} {B : Nat} {vf vx vy : Value} {ty : Int} {row : Option Nat} (h : Fr w B W vf vx vy ty) (hg : W.grownBy W' row) (hr : ∀ k, row = some k → B + 3 ≤ k) : Fr w B W' vf vx vy ty := by
  have hs := h.size
  have key : ∀ q, q < B + 3 → W'.heap[q]? = W.heap[q]? := fun q hq => hg.block q (by omega) (fun e => by have := hr q e.symm; omega)
  exact ⟨(key _ (by omega)).trans h.pg, (key _ (by omega)).trans h.px, (key _ (by omega)).trans h.py, h.below.grown hg (by omega) (fun k hk => by have := hr k hk; omega), by have := hg.size; omega⟩
theorem Fr.setX {w W : World} {B : Nat} {vf vx vy : Value} {ty : Int} (h : Fr w B W vf vx vy ty) (v : Value) : Fr w B (W.setCell ⟨B + 1, 1, none⟩ v) vf v vy ty := by
  refine ⟨(Below.heap_setCell _ _ _ _ (by simp <;> omega)).trans h.pg, ?_, (Below.heap_setCell _ _ _ _ (by simp <;> omega)).trans h.py, h.below.setCell (by simp <;> omega) v, by simpa [World.setCell] using h.size⟩
  rw [heap_setCell_same W (B + 1) 1 _ _ _ h.px]
  rfl
theorem Fr.setY {w W : World} {B : Nat} {vf vx vy : Value} {ty : Int} (h : Fr w B W vf vx vy ty) (v : Value) : Fr w B (W.setCell ⟨B + 1 + 1, 1, none⟩ v) vf vx v ty := by
  refine ⟨(Below.heap_setCell _ _ _ _ (by simp <;> omega)).trans h.pg, (Below.heap_setCell _ _ _ _ (by simp <;> omega)).trans h.px, ?_, h.below.setCell (by simp <;> omega) v, by simpa [World.setCell] using h.size⟩
  rw [heap_setCell_same W (B + 1 + 1) 1 _ _ _ h.py]
  rfl
theorem Fr.setT {w W : World} {B : Nat} {vf vx vy : Value} {ty : Int} (h : Fr w B W vf vx vy ty) (t : Int) : Fr w B (W.setCell ⟨B + 1 + 1, 0, none⟩ (.int .u64 t)) vf vx vy t := by
  refine ⟨(Below.heap_setCell _ _ _ _ (by simp <;> omega)).trans h.pg, (Below.heap_setCell _ _ _ _ (by simp <;> omega)).trans h.px, ?_, h.below.setCell (by simp <;> omega) _, by simpa [World.setCell] using h.size⟩
  rw [heap_setCell_same W (B + 1 + 1) 0 _ _ _ h.py]
  rfl
theorem Fr.setP {w W : World} {B : Nat} {vf vx vy : Value} {ty : Int} (h : Fr w B W vf vx vy ty) (v : Value) : Fr w B (W.setCell ⟨B, 6, none⟩ v) v vx vy ty := by
  refine ⟨?_, (Below.heap_setCell _ _ _ _ (by simp <;> omega)).trans h.px, (Below.heap_setCell _ _ _ _ (by simp <;> omega)).trans h.py, h.below.setCell (by simp <;> omega) v, by simpa [World.setCell] using h.size⟩
  rw [heap_setCell_same W B 6 _ _ _ h.pg]
  rfl
theorem OwnInts.ne {w w' : World} {base : Nat} {v : Value} {l : List Int} {row : Option Nat} (h : OwnInts w base v l) (hg : w.grownBy w' row) (hr : v.ownBlock = none ∨ v.ownBlock ≠ row) : OwnInts w' base v l := ⟨h.1.kept hg hr, h.2⟩
/-- k numbers from a on. -/
def upFrom (a : Int) (k : Nat) : List Int := (List.range k).map fun (i : Nat) => a + (i : Int)
theorem upFrom_length (a : Int) (k : Nat) : (upFrom a k).length = k := by simp [upFrom]
theorem upFrom_succ (a : Int) (k : Nat) : upFrom a (k + 1) = upFrom a k ++ [a + k] := by simp [upFrom, List.range_succ]

theorem frees_grow {W w3 : World} {base : Nat} {vf v' vid : Value} {fl : List FreeD} {us : List Value} {t : Int} {ids : List Int} {o : Obj} (hl : fl.length ≤ 900) (hus : us.length = fl.length) (hown : W.ownsRow base 61 2 vf fl.length (freeCells fl us)) (hids : ∀ i (h : i < fl.length) (h' : i < us.length), OwnInts W base us[i] fl[i].ids)
    (hown' : w3.ownsRow base 61 2 v' (fl.length + 1) (freeCells fl us ++ [.int .u64 t, vid])) (hgrow : (W.alloc o).grownBy w3 vf.ownBlock) (hv : OwnInts W base vid ids) : OwnFrees w3 base v' (fl ++ [⟨t, ids⟩]) := by
  have hne : ∀ k, vf.ownBlock = some k → ∃ cs T fr, (W.alloc o).heap[k]? = some (.cells cs T fr) ∧ T ≠ 3 := fun k hk => by
    obtain ⟨cs, fr, h1⟩ := owns_block hown k hk
    exact ⟨cs, _, fr, (Below.heap_alloc _ _ _ (hown.lt k hk).2).trans h1, by decide⟩
  refine ⟨by simp; omega, us ++ [vid], by simp [hus], ?_, fun i h1 h2 => ?_⟩
  · rw [freeCells_snoc fl us _ _ hus]
    simpa using hown'
  · by_cases hi2 : i < fl.length
    · have h3 : i < us.length := by omega
      rw [List.getElem_append_left hi2, List.getElem_append_left h3]
      exact ((hids i hi2 h3).alloc _).ty hgrow hne
    · have hi3 : i = fl.length := by simp at h1; omega
      subst hi3
      rw [List.getElem_append_right (Nat.le_refl _), List.getElem_append_right (by omega)]
      simp only [hus, Nat.sub_self, List.getElem_cons_zero]
      exact (hv.alloc _).ty hgrow hne
def frP (fl : List FreeD) : PageD := { noPage with kind := 5, free := fl }
theorem hangs_fr {W : World} {base : Nat} {vf : Value} {fl : List FreeD} (h : OwnFrees W base vf fl) : Hangs W (frP fl) (.slice none 0 0) (.slice none 0 0) (.slice none 0 0) (.slice none 0 0) vf := ⟨items_nil _, strs_nil _, ints_nil _, text_nil_le, strs_nil _, h.frees⟩
theorem bytes_le (p : PageD) (ht : TxnOk p) : (bs (bytesD p)).size ≤ maxLen := by
  rw [bs_size]
  unfold maxLen bytesD
  split
  · rename_i hi
    have := partD_le p (partOk_of_is hi ht)
    simp only [List.length_append, lowB_length, bodyD, numB_length]
    omega
  · simp
/-- What is read of what was written. -/
theorem read_back (p : PageD) (ht : TxnOk p) (X : World) : Calls Try.prog 7 #[.string (bs (bytesD p))] X fun e w' => ∃ vi vk vd vv vf, e = .returned (.tuple #[.agg (pageCells (if isPB p then p else noPage) vi vk vd vv vf).toArray, if isPB p then .nilIface else .iface 46 (.int .i64 12)]) ∧ Hangs w' (if isPB p then p else noPage) vi vk vd vv vf ∧ Below X.heap.size X w' := by
  have h := read_any (bs (bytesD p)) X (bytes_le p ht)
  rw [bs_list] at h
  cases hi : isPB p
  · have hb : bytesD p = [] := by simp [bytesD, hi]
    rw [hb] at h ⊢
    exact h
  · obtain ⟨h1, h2⟩ := okR_bytes p hi ht
    simp only [readD, readE, h1, h2, ↓reduceIte] at h
    simpa using h
end Go.Proofs.Ytojooegicbkmnaa

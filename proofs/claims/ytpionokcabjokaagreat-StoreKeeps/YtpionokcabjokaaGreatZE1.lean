/- The pages that a store made, in memory: a map of numbers and bytes, as plain data; no function is walked here. A store as plain data and in memory: what its calls do, what they may turn; no function is walked here. -/
import Derived.Test.YtpionokcabjokaaGreatXG
import Derived.Maps.OwnSet
import Derived.Lib.SlKeysI
import Derived.Test.YtpionokcabjokaaGreatXF
namespace Go.Proofs.YtpionokcabjokaaGreat
open Go.RowKit
open H (Up up_ext mergeL dropL Fit)

/-- How a page that the store made reads: by its bytes. -/
def sheetElem : Value → Option (DataW Unit × List MemPlace)
  | .agg cs => match cs.toList with
    | [.string s] => some (.lit (.string s.data.toList), [])
    | _ => none
  | _ => none
theorem sheetElem_mk (s : ByteArray) : sheetElem (.agg #[.string s]) = some (.lit (.string s.data.toList), []) := rfl
theorem sheetElem_inv {v : Value} {z : DataW Unit × List MemPlace} (h : sheetElem v = some z) : ∃ s : ByteArray, v = .agg #[.string s] ∧ z = (.lit (.string s.data.toList), []) := by
  unfold sheetElem at h
  split at h
  · rename_i cs
    split at h
    · rename_i s he
      refine ⟨s, ?_, by simpa using h.symm⟩
      congr 1
      exact Array.toList_inj.1 (by simpa using he)
    · cases h
  · cases h
theorem bytes_ext {a b : ByteArray} (h : a.data.toList = b.data.toList) : a = b := by
  cases a; cases b
  simp only [ByteArray.mk.injEq]
  exact Array.toList_inj.1 h
theorem Tryz.undInt : Tryz.prog.underlying 3 = some (.int .i64) := by kernel_rfl
theorem Tryz.undMap : Tryz.prog.underlying 83 = some (.map 3 90) := by kernel_rfl
theorem Tryz.zeroSheet (w : World) : (zeroValue 90).run Tryz.prog w = .ok (.agg #[.string ⟨#[]⟩]) w := by kernel_rfl
def InI (x : Int) : Prop := -9223372036854775808 ≤ x ∧ x < 9223372036854775808
theorem wf_int {x : Int} (h : InI x) : (Lit.int .i64 x).wf = true := WalkArith.wf_i64 ⟨h.1, by have := h.2; omega⟩
theorem key_int {x : Int} (h : InI x) : keyOf Tryz.prog 3 (.int .i64 x) = some (.int .i64 x) := Maps.keyOf_int_mk Tryz.undInt (wf_int h)
theorem Tryz.keyed : Maps.Keyed Tryz.prog 3 := Maps.int_keyed Tryz.undInt
theorem key_ne {x y : Int} (h : x ≠ y) : (Lit.int .i64 x) ≠ .int .i64 y := by
  intro e
  exact h (by injection e)

/-- One page's bytes another ones. -/
def upd (sh : Int → ByteArray) (x : Int) (s : ByteArray) : Int → ByteArray := fun y => if y = x then s else sh y
theorem upd_same (sh : Int → ByteArray) (x : Int) (s : ByteArray) : upd sh x s x = s := by simp [upd]
theorem upd_other (sh : Int → ByteArray) {x y : Int} (s : ByteArray) (h : y ≠ x) : upd sh x s y = sh y := by simp [upd, h]

/-- The map in block mb: the numbers ks, on each of them its bytes. -/
def DirtyAt (w : World) (mb : Nat) (ks : List Int) (sh : Int → ByteArray) : Prop :=
  ∃ D : DataW Unit, w.ownsMap Tryz.prog 3 sheetElem mb ks.length D ∧ (∀ x, Maps.has D (.int .i64 x) = true ↔ x ∈ ks) ∧ (∀ x ∈ ks, D.atKey (.int .i64 x) (.lit (.string [])) = .lit (.string (sh x).data.toList)) ∧ Maps.size D = ks.length

theorem own_size {w : World} {b n : Nat} {D : DataW Unit} (h : w.ownsMap Tryz.prog 3 sheetElem b n D) : w.ownsMap Tryz.prog 3 sheetElem b (Maps.size D) D := by
  obtain ⟨es, clock, hb, F, hs, rfl⟩ := h
  exact ⟨es, clock, hb, F, by simp [Maps.size, length_sorted], rfl⟩
theorem DirtyAt.lt {w : World} {mb : Nat} {ks : List Int} {sh : Int → ByteArray} (h : DirtyAt w mb ks sh) : mb < w.heap.size := by
  obtain ⟨D, h1, _⟩ := h
  exact h1.lt
theorem DirtyAt.kept {w w' : World} {mb : Nat} {ks : List Int} {sh : Int → ByteArray} (h : DirtyAt w mb ks sh) (hb : w'.heap[mb]? = w.heap[mb]?) : DirtyAt w' mb ks sh := by
  obtain ⟨D, ⟨es, clock, h1, F, hs, hD⟩, h2⟩ := h
  exact ⟨D, ⟨es, clock, hb.trans h1, F, hs, hD⟩, h2⟩
theorem DirtyAt.isMap {w : World} {mb : Nat} {ks : List Int} {sh : Int → ByteArray} (h : DirtyAt w mb ks sh) : ∃ es clock, w.heap[mb]? = some (.map es clock) := by
  obtain ⟨D, ⟨es, clock, h1, _⟩, _⟩ := h
  exact ⟨es, clock, h1⟩
theorem dirty_made (w : World) (sh : Int → ByteArray) : DirtyAt (w.alloc (.map #[] 0)) w.heap.size [] sh :=
  ⟨.map [], World.ownsMap_made _ _ _ _, by simp [Maps.has], by simp, rfl⟩

theorem DirtyAt.look {w : World} {mb : Nat} {ks : List Int} {sh : Int → ByteArray} (h : DirtyAt w mb ks sh) {x : Int} (hx : InI x) :
    (Instr.lookup 83 (.map (some mb)) (.int .i64 x) true).run Tryz.prog w = .ok (.tuple #[.agg #[.string (if ks.contains x then sh x else ⟨#[]⟩)], .bool (ks.contains x)]) w := by
  obtain ⟨D, h1, h2, h3, h4⟩ := h
  obtain ⟨v, ps, hrun, hR⟩ := h1.look_ok Tryz.keyed Tryz.undMap (Tryz.zeroSheet w) (sheetElem_mk _) (key_int hx)
  obtain ⟨s, rfl, hz⟩ := sheetElem_inv hR
  have e1 : Maps.has D (.int .i64 x) = ks.contains x := by
    have := h2 x
    cases hc : ks.contains x
    · cases hh : Maps.has D (.int .i64 x)
      · rfl
      · have := this.1 hh
        simp at hc
        exact absurd this hc
    · simp at hc
      exact this.2 hc
  have e2 : s = if ks.contains x then sh x else ⟨#[]⟩ := by
    apply bytes_ext
    cases hc : ks.contains x
    · rw [hc] at e1
      have := Maps.atKey_of_not_has e1 (.lit (.string ([] : List UInt8)))
      have hz2 : D.atKey (.int .i64 x) (.lit (.string [])) = .lit (.string s.data.toList) := by simpa using congrArg Prod.fst hz
      rw [this] at hz2
      simp at hz2
      simp [← hz2]
    · have hm : x ∈ ks := by simpa using hc
      have hz2 : D.atKey (.int .i64 x) (.lit (.string [])) = .lit (.string s.data.toList) := by simpa using congrArg Prod.fst hz
      rw [h3 x hm] at hz2
      simp at hz2
      simp [hz2]
  rw [hrun, e1, e2]

theorem merge_one_length {ks : List Int} (hu : Up ks) (x : Int) : (mergeL ks [x]).length = if ks.contains x then ks.length else ks.length + 1 := by
  have hp : (mergeL ks [x]).Perm (if ks.contains x then ks else x :: ks) := by
    refine (List.perm_ext_iff_of_nodup ?_ ?_).2 fun y => ?_
    · exact (H.mergeL_up ks [x] hu (by simp [Up])).imp (fun h => Int.ne_of_lt h)
    · split
      · exact List.Pairwise.imp (fun h => Int.ne_of_lt h) hu
      · rename_i hc
        exact List.nodup_cons.2 ⟨by simpa using hc, List.Pairwise.imp (fun h => Int.ne_of_lt h) hu⟩
    · rw [H.mergeL_mem]
      split
      · rename_i hc
        have hc2 : x ∈ ks := by simpa using hc
        simp
        rintro rfl
        exact hc2
      · simp [or_comm]
  rw [hp.length_eq]
  split <;> simp
theorem drop_one_mem {ks : List Int} {x y : Int} : y ∈ dropL ks x 1 ↔ y ∈ ks ∧ y ≠ x := by
  rw [H.dropL_mem]
  constructor
  · rintro ⟨h1, h2⟩
    exact ⟨h1, by omega⟩
  · rintro ⟨h1, h2⟩
    exact ⟨h1, by omega⟩
theorem drop_one_length {ks : List Int} (hu : Up ks) (x : Int) : (dropL ks x 1).length + (if ks.contains x then 1 else 0) = ks.length := by
  have hp : ks.Perm (if ks.contains x then x :: dropL ks x 1 else dropL ks x 1) := by
    refine (List.perm_ext_iff_of_nodup ?_ ?_).2 fun y => ?_
    · exact List.Pairwise.imp (fun h => Int.ne_of_lt h) hu
    · have h1 : (dropL ks x 1).Nodup := (H.dropL_up ks x 1 hu).imp (fun h => Int.ne_of_lt h)
      split
      · exact List.nodup_cons.2 ⟨by simp [drop_one_mem], h1⟩
      · exact h1
    · split
      · rename_i hc
        have hc2 : x ∈ ks := by simpa using hc
        rw [List.mem_cons, drop_one_mem]
        by_cases hy : y = x
        · subst hy; simp [hc2]
        · simp [hy]
      · rename_i hc
        have hc2 : x ∉ ks := by simpa using hc
        rw [drop_one_mem]
        constructor
        · intro h
          exact ⟨h, fun e => hc2 (e ▸ h)⟩
        · exact fun h => h.1
  have := hp.length_eq
  cases hc : ks.contains x
  · rw [hc] at this
    simpa using this.symm
  · rw [hc] at this
    simpa using this.symm

theorem DirtyAt.store {w : World} {mb : Nat} {ks : List Int} {sh : Int → ByteArray} (h : DirtyAt w mb ks sh) (hu : Up ks) (hl : ks.length ≤ 1000) {x : Int} (hx : InI x) (s : ByteArray) :
    ∃ w', (Instr.mapUpdate 83 (.map (some mb)) (.int .i64 x) (.agg #[.string s])).run Tryz.prog w = .ok () w' ∧ DirtyAt w' mb (mergeL ks [x]) (upd sh x s) ∧ w.grownBy w' (some mb) ∧ w'.heap.size = w.heap.size := by
  obtain ⟨D, h1, h2, h3, h4⟩ := h
  obtain ⟨w', hrun, h5, h6⟩ := h1.store Tryz.keyed Tryz.undMap (by unfold maxLen; omega) (key_int hx) (sheetElem_mk s)
  have hT := h1.tidy Tryz.keyed
  have hK : WideAt.IsKeyLit (Lit.int .i64 x) := trivial
  have e1 : Maps.has D (.int .i64 x) = ks.contains x := by
    rw [Bool.eq_iff_iff, h2 x]; simp
  have e2 : Maps.size (D.put (.int .i64 x) (.lit (.string s.data.toList))) = (mergeL ks [x]).length := by
    rw [Maps.size_put hT, merge_one_length hu, e1, h4]
  refine ⟨w', hrun, ⟨_, e2 ▸ own_size h5, fun y => ?_, fun y hy => ?_, e2⟩, h6.grown, ?_⟩
  · rw [H.mergeL_mem]
    by_cases hy : y = x
    · subst hy
      simp [Maps.has_put_same hT.isMap hK]
    · rw [Maps.has_put_other (key_ne hy), h2 y]
      simp [hy]
  · by_cases hyx : y = x
    · subst hyx
      rw [Maps.atKey_put_same hT.isMap hK, upd_same]
    · rw [Maps.atKey_put_other (key_ne hyx), upd_other _ _ hyx]
      refine h3 y ?_
      rw [H.mergeL_mem] at hy
      simpa [hyx] using hy
  · obtain ⟨_, _, _, _, _, rfl⟩ := h6
    simp [ChangeMaps.setBlock]
theorem DirtyAt.drop {w : World} {mb : Nat} {ks : List Int} {sh : Int → ByteArray} (h : DirtyAt w mb ks sh) (hu : Up ks) {x : Int} (hx : InI x) (ty : TypeId) :
    ∃ w', (Builtin.delete_ #[83, 3] ty #[.map (some mb), .int .i64 x]).run Tryz.prog w = .ok (.tuple #[]) w' ∧ DirtyAt w' mb (dropL ks x 1) sh ∧ w.grownBy w' (some mb) ∧ w'.heap.size = w.heap.size := by
  obtain ⟨D, h1, h2, h3, h4⟩ := h
  obtain ⟨w', hrun, h5, h6⟩ := h1.drop Tryz.keyed Tryz.undMap (key_int hx) ty
  have hT := h1.tidy Tryz.keyed
  have e1 : Maps.has D (.int .i64 x) = ks.contains x := by
    rw [Bool.eq_iff_iff, h2 x]; simp
  have e2 : Maps.size (D.del (.int .i64 x)) = (dropL ks x 1).length := by
    have a1 := Maps.size_del (k := .int .i64 x) hT
    have a2 := drop_one_length hu x
    rw [e1, h4] at a1
    omega
  refine ⟨w', hrun, ⟨_, e2 ▸ own_size h5, fun y => ?_, fun y hy => ?_, e2⟩, h6.grown, ?_⟩
  · rw [drop_one_mem]
    by_cases hy : y = x
    · subst hy
      simp [Maps.has_del_same]
    · rw [Maps.has_del_other (key_ne hy), h2 y]
      simp [hy]
  · obtain ⟨hy1, hy2⟩ := drop_one_mem.1 hy
    rw [Maps.atKey_del_other (key_ne hy2)]
    exact h3 y hy1
  · obtain ⟨_, _, _, _, _, rfl⟩ := h6
    simp [ChangeMaps.setBlock]
theorem DirtyAt.len {w : World} {mb : Nat} {ks : List Int} {sh : Int → ByteArray} (h : DirtyAt w mb ks sh) (ty : TypeId) : (Builtin.len_ #[83] ty #[.map (some mb)]).run Tryz.prog w = .ok (.int .i64 (ks.length : Int)) w := by
  obtain ⟨D, h1, h2, h3, h4⟩ := h
  rw [h1.len Tryz.undMap ty, h4]
/-- The keys in whatever order, sorted, are the row. -/
theorem DirtyAt.sorted {w : World} {mb : Nat} {ks : List Int} {sh : Int → ByteArray} (h : DirtyAt w mb ks sh) (hu : Up ks) : ∃ D : DataW Unit, w.ownsMap Tryz.prog 3 sheetElem mb ks.length D ∧ Maps.size D = ks.length ∧ ∀ ss : List Int, ss.Perm (intKeys D) → ss.mergeSort (fun x y => decide (x ≤ y)) = ks ∧ ss.length = ks.length := by
  obtain ⟨D, h1, h2, h3, h4⟩ := h
  refine ⟨D, h1, h4, fun ss hss => ?_⟩
  have hnd : ks.Nodup := List.Pairwise.imp (fun h => Int.ne_of_lt h) hu
  have h5 : ks.Perm (intKeys D) := CollectedI.perm (left := fun _ => false) ⟨hnd, fun x => by simp [h2 x]⟩ h1 Tryz.keyed Tryz.undInt (fun _ => rfl)
  have h6 : ss.Perm ks := hss.trans h5.symm
  refine ⟨?_, h6.length_eq⟩
  have h7 := mergeSort_of_perm_i h6
  have h8 : ks.mergeSort leI = ks := List.mergeSort_of_pairwise (by
    refine List.Pairwise.imp (fun h => ?_) hu
    simp only [leI, decide_eq_true_eq]
    exact Int.le_of_lt h)
  exact h7.trans h8
end Go.Proofs.YtpionokcabjokaaGreat

namespace Go.Proofs.YtpionokcabjokaaGreat
open Go.RowKit
open H (Up up_ext mergeL dropL Fit RunI RunIs OwnInts RowAt)

/-- So many numbers from x on come into the row. -/
def addRun (d : List Int) (x : Int) : Nat → List Int
  | 0 => d
  | n + 1 => mergeL (addRun d x n) [x + (n : Int)]
/-- .. with nothing on them. -/
def blank (sh : Int → ByteArray) (x : Int) : Nat → Int → ByteArray
  | 0 => sh
  | n + 1 => upd (blank sh x n) (x + (n : Int)) ⟨#[]⟩
theorem one_up (x : Int) : Up [x] := by simp [Up]
theorem addRun_up {d : List Int} (h : Up d) (x : Int) : ∀ n, Up (addRun d x n)
  | 0 => h
  | n + 1 => H.mergeL_up _ _ (addRun_up h x n) (one_up _)
theorem addRun_mem (d : List Int) (x y : Int) : ∀ n : Nat, y ∈ addRun d x n ↔ y ∈ d ∨ (x ≤ y ∧ y < x + (n : Int))
  | 0 => by
    simp only [addRun]
    by_cases h : y ∈ d
    · simp [h]
    · simp [h]
  | n + 1 => by
    simp only [addRun]
    rw [H.mergeL_mem, addRun_mem d x y n]
    simp only [List.mem_singleton]
    by_cases h : y ∈ d
    · simp [h]
    · simp only [h, false_or]; omega
theorem addRun_length {d : List Int} (hu : Up d) (x : Int) : ∀ n : Nat, (∀ y ∈ d, y < x ∨ x + (n : Int) ≤ y) → (addRun d x n).length = d.length + n
  | 0, _ => rfl
  | n + 1, h => by
    simp only [addRun]
    rw [merge_one_length (addRun_up hu x n), addRun_length hu x n (fun y hy => by have := h y hy; omega)]
    have : ¬ (x + (n : Int)) ∈ addRun d x n := by
      rw [addRun_mem]
      rintro (h' | h')
      · have := h _ h'; omega
      · omega
    rw [if_neg (by simpa using this)]
    omega
theorem addRun_le {d : List Int} (hu : Up d) (x : Int) : ∀ n : Nat, (addRun d x n).length ≤ d.length + n
  | 0 => Nat.le_refl _
  | n + 1 => by
    simp only [addRun]
    rw [merge_one_length (addRun_up hu x n)]
    have := addRun_le hu x n
    split <;> omega
theorem blank_at (sh : Int → ByteArray) (x y : Int) : ∀ n : Nat, blank sh x n y = if x ≤ y ∧ y < x + (n : Int) then ⟨#[]⟩ else sh y
  | 0 => by simp only [blank]; rw [if_neg (by omega)]
  | n + 1 => by
    simp only [blank, upd]
    rw [blank_at sh x y n]
    by_cases h : y = x + (n : Int)
    · rw [if_pos h, if_pos (by omega)]
    · rw [if_neg h]
      by_cases h2 : x ≤ y ∧ y < x + (n : Int)
      · rw [if_pos h2, if_pos (by omega)]
      · rw [if_neg h2, if_neg (by omega)]

/-- Where the first run of so many begins. -/
def runB (l : List Int) (n i : Nat) : Bool := decide (1 ≤ n) && decide (i + n ≤ l.length) && (List.range n).all fun j => l.getD (i + j) 0 == l.getD i 0 + (j : Int)
theorem runB_iff (l : List Int) (n i : Nat) : runB l n i = true ↔ RunI l n i := by
  simp [runB, RunI, and_assoc]
def runF (l : List Int) (n : Nat) : Option Int := ((List.range l.length).find? (runB l n)).map fun i => l.getD i 0
theorem runF_of {l : List Int} {n : Nat} {x : Int} {ok : Bool} (h : RunIs l n x ok) : runF l n = if ok then some x else none := by
  rcases h with ⟨rfl, i, h1, rfl, h2⟩ | ⟨rfl, rfl, h1⟩
  · have : (List.range l.length).find? (runB l n) = some i := by
      rw [List.find?_range_eq_some]
      refine ⟨(runB_iff _ _ _).2 h1, by have := h1.1; have := h1.2.1; simp; omega, fun j hj => ?_⟩
      have := h2 j hj
      rw [← runB_iff] at this
      simpa using this
    simp [runF, this]
  · have : (List.range l.length).find? (runB l n) = none := by
      rw [List.find?_eq_none]
      intro j hj
      have := h1 j
      rw [← runB_iff] at this
      exact this
    simp [runF, this]

/-- A store: Last, how many it can see, which pages it made, their bytes, which are freed, which available. -/
structure StD where
  last : Nat
  most : Nat
  dirty : List Int
  sh : Int → ByteArray
  freed : List Int
  avail : List Int

structure StOk (s : StD) : Prop where
  last : 2 ≤ s.last ∧ s.last ≤ 400
  most : 2 ≤ s.most ∧ s.most ≤ 400
  upD : Up s.dirty
  upF : Up s.freed
  upA : Up s.avail
  inD : ∀ x ∈ s.dirty, 2 ≤ x ∧ x < (s.last : Int)
  inF : ∀ x ∈ s.freed, 2 ≤ x ∧ x < (s.last : Int)
  inA : ∀ x ∈ s.avail, 2 ≤ x ∧ x < (s.last : Int)
  few : s.dirty.length ≤ 120
  noDA : ∀ x ∈ s.dirty, x ∉ s.avail
  noDF : ∀ x ∈ s.dirty, x ∉ s.freed
  noAF : ∀ x ∈ s.avail, x ∉ s.freed
  small : ∀ x, (s.sh x).size ≤ 100000000000

theorem up_short {l : List Int} {a b : Int} (h : Up l) (hin : ∀ x ∈ l, a ≤ x ∧ x < b) (hab : a ≤ b) : (l.length : Int) ≤ b - a := by
  cases hl : l.length with
  | zero => simp; omega
  | succ n =>
    have h1 := H.up_far h 0 n (by omega)
    have h2 := hin _ (H.get_mem (l := l) (i := 0 + n) (by omega))
    have h3 := hin _ (H.get_mem (l := l) (i := 0) (by omega))
    omega
theorem StOk.lenA {s : StD} (h : StOk s) : s.avail.length ≤ 400 := by have := up_short h.upA h.inA (by have := h.last; omega); have := h.last; omega
theorem StOk.lenF {s : StD} (h : StOk s) : s.freed.length ≤ 400 := by have := up_short h.upF h.inF (by have := h.last; omega); have := h.last; omega
theorem StOk.fitA {s : StD} (h : StOk s) : Fit s.avail := fun x hx => by have := h.inA x hx; have := h.last; omega

/-- The numbers from x on are made, with nothing on them. -/
def madeD (s : StD) (x : Int) (n : Nat) : StD := { s with dirty := addRun s.dirty x n, sh := blank s.sh x n }
/-- So many new numbers side by side: the first, the error, the store behind it. -/
def takeD (s : StD) (n : Nat) : Int × Int × StD :=
  if 120 < s.dirty.length + n then (0, 17, s)
  else match runF s.avail n with
    | some x => (x, 0, madeD { s with avail := dropL s.avail x n } x n)
    | none => if s.most < s.last + n then (0, 14, s) else (s.last, 0, madeD { s with last := s.last + n } s.last n)
def putB (s : StD) (x : Int) (b : ByteArray) : StD := { s with sh := upd s.sh x b }
def dropD (s : StD) (x : Int) : StD :=
  if s.dirty.contains x then { s with dirty := dropL s.dirty x 1, avail := mergeL s.avail [x] }
  else if 2 ≤ x ∧ x < (s.last : Int) ∧ s.avail.contains x = false then { s with freed := mergeL s.freed [x] } else s

theorem runIs_some {l : List Int} {n : Nat} {x : Int} (h : runF l n = some x) : ∀ j, j < n → x + (j : Int) ∈ l := by
  unfold runF at h
  rw [Option.map_eq_some_iff] at h
  obtain ⟨i, h1, rfl⟩ := h
  have h2 := List.find?_some h1
  exact H.runAt_of ((runB_iff _ _ _).1 h2)

theorem StOk.take {s : StD} (h : StOk s) {n : Nat} (hn : 1 ≤ n) : StOk (takeD s n).2.2 := by
  unfold takeD
  split
  · exact h
  rename_i hfew
  cases hr : runF s.avail n with
  | some x =>
    simp only
    have hin := runIs_some hr
    have hmem : ∀ y, x ≤ y → y < x + (n : Int) → y ∈ s.avail := by
      intro y h1 h2
      have := hin (y - x).toNat (by omega)
      rwa [show x + ((y - x).toNat : Int) = y by omega] at this
    refine { last := h.last, most := h.most, upD := addRun_up h.upD x n, upF := h.upF, upA := H.dropL_up _ _ _ h.upA, inD := ?_, inF := h.inF, inA := ?_, few := ?_, noDA := ?_, noDF := ?_, noAF := ?_, small := ?_ }
    · intro y hy
      simp only [madeD, addRun_mem] at hy
      rcases hy with hy | hy
      · exact h.inD y hy
      · exact h.inA y (hmem y hy.1 hy.2)
    · intro y hy
      simp only [madeD, H.dropL_mem] at hy
      exact h.inA y hy.1
    · simp only [madeD]
      have := addRun_le h.upD x n
      omega
    · intro y hy hy2
      simp only [madeD, addRun_mem, H.dropL_mem] at hy hy2
      rcases hy with hy | hy
      · exact h.noDA y hy hy2.1
      · omega
    · intro y hy
      simp only [madeD, addRun_mem] at hy ⊢
      rcases hy with hy | hy
      · exact h.noDF y hy
      · exact h.noAF y (hmem y hy.1 hy.2)
    · intro y hy
      simp only [madeD, H.dropL_mem] at hy ⊢
      exact h.noAF y hy.1
    · intro y
      simp only [madeD, blank_at]
      split
      · simp [ByteArray.size]
      · exact h.small y
  | none =>
    simp only
    split
    · exact h
    rename_i hm
    have hl := h.last
    have hmo := h.most
    refine { last := by simp [madeD]; omega, most := h.most, upD := addRun_up h.upD _ n, upF := h.upF, upA := h.upA, inD := ?_, inF := ?_, inA := ?_, few := ?_, noDA := ?_, noDF := ?_, noAF := h.noAF, small := ?_ }
    · intro y hy
      simp only [madeD, addRun_mem] at hy ⊢
      rcases hy with hy | hy
      · have := h.inD y hy; omega
      · omega
    · intro y hy
      have := h.inF y hy
      simp only [madeD]; omega
    · intro y hy
      have := h.inA y hy
      simp only [madeD]; omega
    · simp only [madeD]
      have := addRun_le h.upD s.last n
      omega
    · intro y hy hy2
      simp only [madeD, addRun_mem] at hy hy2
      rcases hy with hy | hy
      · exact h.noDA y hy hy2
      · have := h.inA y hy2; omega
    · intro y hy hy2
      simp only [madeD, addRun_mem] at hy hy2
      rcases hy with hy | hy
      · exact h.noDF y hy hy2
      · have := h.inF y hy2; omega
    · intro y
      simp only [madeD, blank_at]
      split
      · simp [ByteArray.size]
      · exact h.small y
theorem StOk.put {s : StD} (h : StOk s) (x : Int) {b : ByteArray} (hb : b.size ≤ 100000000000) : StOk (putB s x b) :=
  { h with small := fun y => by simp only [putB, upd]; split; exact hb; exact h.small y }
theorem StOk.drop {s : StD} (h : StOk s) (x : Int) : StOk (dropD s x) := by
  unfold dropD
  split
  · rename_i hc
    have hx : x ∈ s.dirty := by simpa using hc
    refine { h with upD := H.dropL_up _ _ _ h.upD, upA := H.mergeL_up _ _ h.upA (one_up _), inD := fun y hy => h.inD y (drop_one_mem.1 hy).1, inA := fun y hy => ?_, few := Nat.le_trans (H.dropL_length _ _ _) h.few, noDA := fun y hy hy2 => ?_, noDF := fun y hy => h.noDF y (drop_one_mem.1 hy).1, noAF := fun y hy => ?_ }
    · simp only [H.mergeL_mem, List.mem_singleton] at hy
      rcases hy with hy | rfl
      · exact h.inA y hy
      · exact h.inD y hx
    · simp only [H.mergeL_mem, List.mem_singleton] at hy2
      obtain ⟨a, b⟩ := drop_one_mem.1 hy
      rcases hy2 with hy2 | hy2
      · exact h.noDA y a hy2
      · exact b hy2
    · simp only [H.mergeL_mem, List.mem_singleton] at hy
      rcases hy with hy | rfl
      · exact h.noAF y hy
      · exact h.noDF y hx
  split
  · rename_i hc hx
    have hnd : x ∉ s.dirty := by simpa using hc
    have hna : x ∉ s.avail := by simpa using hx.2.2
    refine { h with upF := H.mergeL_up _ _ h.upF (one_up _), inF := fun y hy => ?_, noDF := fun y hy hy2 => ?_, noAF := fun y hy hy2 => ?_ }
    · simp only [H.mergeL_mem, List.mem_singleton] at hy
      rcases hy with hy | rfl
      · exact h.inF y hy
      · exact ⟨hx.1, hx.2.1⟩
    · simp only [H.mergeL_mem, List.mem_singleton] at hy2
      rcases hy2 with hy2 | rfl
      · exact h.noDF y hy hy2
      · exact hnd hy
    · simp only [H.mergeL_mem, List.mem_singleton] at hy2
      rcases hy2 with hy2 | rfl
      · exact h.noAF y hy hy2
      · exact hna hy
  · exact h

/-- An error as a value: none, or its number. -/
def errV (e : Int) : Value := if e = 0 then .nilIface else .iface 59 (.int .i64 e)
theorem errV_0 : errV 0 = .nilIface := rfl

/-- The store's cells. -/
def stCells (fb mb : Nat) (s : StD) (vf va : Value) : Array Value := #[.pointer (some ⟨fb, 0, none⟩), .int .i64 (s.last : Int), .int .i64 (s.most : Int), .map (some mb), vf, va]
/-- The store in block sb, its map in block mb, over the file in block fb. -/
structure StoreAt (w : World) (sb mb fb : Nat) (s : StD) (vf va : Value) : Prop where
  obj : w.heap[sb]? = some (.cells (stCells fb mb s vf va) 86 (0, 0))
  dirty : DirtyAt w mb s.dirty s.sh
  freed : OwnInts w 0 vf s.freed
  avail : OwnInts w 0 va s.avail
  ok : StOk s
/-- What a method of the store may turn: its block, its map, new memory. -/
structure So (sb mb : Nat) (w w' : World) : Prop where
  os : w'.os = w.os
  tape : w'.tape = w.tape
  output : w'.output = w.output
  size : w.heap.size ≤ w'.heap.size
  block : ∀ k, k < w.heap.size → k ≠ sb → k ≠ mb → w'.heap[k]? = w.heap[k]?
theorem So.refl (sb mb : Nat) (w : World) : So sb mb w w := ⟨rfl, rfl, rfl, Nat.le_refl _, fun _ _ _ _ => rfl⟩
theorem So.trans {sb mb : Nat} {w w1 w2 : World} (h : So sb mb w w1) (k : So sb mb w1 w2) : So sb mb w w2 :=
  ⟨k.os.trans h.os, k.tape.trans h.tape, k.output.trans h.output, Nat.le_trans h.size k.size, fun i hi h1 h2 => (k.block i (Nat.lt_of_lt_of_le hi h.size) h1 h2).trans (h.block i hi h1 h2)⟩
theorem So.of_below {sb mb : Nat} {w w' : World} (h : Below w.heap.size w w') : So sb mb w w' := ⟨h.os, h.tape, h.output, h.size, fun k hk _ _ => h.block k hk⟩
theorem So.alloc {sb mb : Nat} {w w' : World} (h : So sb mb w w') (o : Obj) : So sb mb w (w'.alloc o) := h.trans (.of_below ((Below.refl _ w').alloc (Nat.le_refl _) o))
theorem So.cell (sb mb o : Nat) (w : World) (u : Value) : So sb mb w (w.setCell ⟨sb, o, none⟩ u) :=
  ⟨rfl, rfl, rfl, by simp, fun k _ h1 _ => by rw [Below.heap_setCell _ _ _ _ (by simpa using h1)]⟩
theorem So.map {sb mb : Nat} {w w' : World} (h : w.grownBy w' (some mb)) : So sb mb w w' := ⟨h.os, h.tape, h.output, h.size, fun k hk _ h2 => h.block k hk (by simpa using h2)⟩
theorem So.below {sb mb B : Nat} {w w' : World} (h : So sb mb w w') (h1 : B ≤ sb) (h2 : B ≤ mb) (hB : B ≤ w.heap.size) : Below B w w' :=
  ⟨h.os, h.tape, h.output, h.size, fun k hk => h.block k (by omega) (by omega) (by omega)⟩
theorem So.drew {sb mb : Nat} {w w' : World} (h : So sb mb w w') : So sb mb w w'.drew := ⟨h.os, h.tape, h.output, h.size, h.block⟩

section
variable {w w' : World} {sb mb fb : Nat} {s : StD} {vf va : Value}
theorem StoreAt.lt (h : StoreAt w sb mb fb s vf va) : sb < w.heap.size := H.lt_of_heap h.obj
theorem StoreAt.ltM (h : StoreAt w sb mb fb s vf va) : mb < w.heap.size := h.dirty.lt
theorem StoreAt.ne (h : StoreAt w sb mb fb s vf va) : sb ≠ mb := by
  rintro rfl
  obtain ⟨es, c, hm⟩ := h.dirty.isMap
  have := h.obj
  rw [hm] at this
  cases this
theorem own_block {B : Nat} {v : Value} {l : List Int} (h : OwnInts w B v l) : ∀ g, v.ownBlock = some g → g < w.heap.size ∧ ∃ cs, w.heap[g]? = some (.cells cs 3 (0, 0)) := by
  intro g hg
  rcases h.2 with ⟨rfl, _⟩ | ⟨g', cap, cur, rfl, _, hh, _⟩
  · cases hg
  · simp only [Value.ownBlock, Option.some.injEq] at hg
    subst hg
    exact ⟨H.lt_of_heap hh, cur, hh⟩
theorem own_kept {B : Nat} {v : Value} {l : List Int} (h : OwnInts w B v l) (hr : ∀ g, v.ownBlock = some g → w'.heap[g]? = w.heap[g]?) : OwnInts w' B v l := by
  refine ⟨h.1, ?_⟩
  rcases h.2 with hn | ⟨g, cap, cur, rfl, hb, hgg, rest⟩
  · exact .inl hn
  · exact .inr ⟨g, cap, cur, rfl, hb, (hr g rfl).trans hgg, rest⟩
theorem StoreAt.ownNe (h : StoreAt w sb mb fb s vf va) {B : Nat} {v : Value} {l : List Int} (ho : OwnInts w B v l) {g : Nat} (hg : v.ownBlock = some g) : g ≠ sb ∧ g ≠ mb := by
  obtain ⟨_, cs, hc⟩ := own_block ho g hg
  constructor
  · rintro rfl
    have := h.obj
    rw [hc] at this
    simp at this
  · rintro rfl
    obtain ⟨es, c, hm⟩ := h.dirty.isMap
    rw [hc] at hm
    cases hm
/-- A row of numbers stays while the store is turned. -/
theorem StoreAt.row (h : StoreAt w sb mb fb s vf va) {B : Nat} {v : Value} {l : List Int} (ho : OwnInts w B v l) (hs : So sb mb w w') : OwnInts w' B v l :=
  own_kept ho (fun g hg => hs.block g (own_block ho g hg).1 (h.ownNe ho hg).1 (h.ownNe ho hg).2)
theorem own_below {B : Nat} {v : Value} {l : List Int} (ho : OwnInts w B v l) (hb : Below w.heap.size w w') : OwnInts w' B v l :=
  own_kept ho (fun g hg => hb.block g (own_block ho g hg).1)
theorem StoreAt.below (h : StoreAt w sb mb fb s vf va) (hb : Below w.heap.size w w') : StoreAt w' sb mb fb s vf va :=
  ⟨(hb.block sb h.lt).trans h.obj, h.dirty.kept (hb.block mb h.ltM), own_below h.freed hb, own_below h.avail hb, h.ok⟩
theorem StoreAt.alloc (h : StoreAt w sb mb fb s vf va) (o : Obj) : StoreAt (w.alloc o) sb mb fb s vf va := h.below ((Below.refl _ w).alloc (Nat.le_refl _) o)
/-- The file stays while the store is turned. -/
theorem StoreAt.file (h : StoreAt w sb mb fb s vf va) {B : Nat} {fv : Value} {l : List F.Sh} (hf : F.FileAt w B fb fv l) (hs : So sb mb w w') : F.FileAt w' B fb fv l := by
  obtain ⟨es, c, hm⟩ := h.dirty.isMap
  refine hf.kept (hs.block fb hf.lt ?_ ?_) (fun g hg => hs.block g (hf.rowLt g hg).2 ?_ ?_)
  · rintro rfl
    have := h.obj
    rw [hf.obj] at this
    simp at this
  · rintro rfl
    have := hf.obj
    rw [hm] at this
    cases this
  · rintro rfl
    rcases hf.row.2 with ⟨rfl, _⟩ | ⟨g', cap, cur, rfl, _, hh, _⟩
    · cases hg
    · simp only [Value.ownBlock, Option.some.injEq] at hg
      subst hg
      have := h.obj
      rw [hh] at this
      simp at this
  · rintro rfl
    rcases hf.row.2 with ⟨rfl, _⟩ | ⟨g', cap, cur, rfl, _, hh, _⟩
    · cases hg
    · simp only [Value.ownBlock, Option.some.injEq] at hg
      subst hg
      rw [hh] at hm
      cases hm
theorem ownS_setCell {B b o : Nat} {v : Value} {l : List Int} (h : OwnInts w B v l) (hb : ∀ g, v.ownBlock = some g → g ≠ b) (u : Value) : OwnInts (w.setCell ⟨b, o, none⟩ u) B v l :=
  own_kept h (fun g hg => Below.heap_setCell _ _ _ _ (by simpa using hb g hg))
theorem dirty_setCell {b o : Nat} {ks : List Int} {sh : Int → ByteArray} (h : DirtyAt w mb ks sh) (hb : mb ≠ b) (u : Value) : DirtyAt (w.setCell ⟨b, o, none⟩ u) mb ks sh :=
  h.kept (Below.heap_setCell _ _ _ _ (by simpa using hb))
theorem heap_set_cells {b o : Nat} {cs : Array Value} {T : TypeId} (h : w.heap[b]? = some (.cells cs T (0, 0))) (u : Value) : (w.setCell ⟨b, o, none⟩ u).heap[b]? = some (.cells (cs.setIfInBounds o u) T (0, 0)) := heap_setCell_same w b o cs T u h
/-- Another row of available numbers. -/
theorem StoreAt.setAvail (h : StoreAt w sb mb fb s vf va) {u : Value} {l : List Int} {B : Nat} (hu : OwnInts w B u l) (hok : StOk { s with avail := l }) : StoreAt (w.setCell ⟨sb, 5, none⟩ u) sb mb fb { s with avail := l } vf u :=
  ⟨heap_set_cells h.obj u, dirty_setCell h.dirty h.ne.symm u, ownS_setCell h.freed (fun _ hg => (h.ownNe h.freed hg).1) u, ownS_setCell (hu.mono (Nat.zero_le _)) (fun _ hg => (h.ownNe hu hg).1) u, hok⟩
theorem StoreAt.setFreed (h : StoreAt w sb mb fb s vf va) {u : Value} {l : List Int} {B : Nat} (hu : OwnInts w B u l) (hok : StOk { s with freed := l }) : StoreAt (w.setCell ⟨sb, 4, none⟩ u) sb mb fb { s with freed := l } u va :=
  ⟨heap_set_cells h.obj u, dirty_setCell h.dirty h.ne.symm u, ownS_setCell (hu.mono (Nat.zero_le _)) (fun _ hg => (h.ownNe hu hg).1) u, ownS_setCell h.avail (fun _ hg => (h.ownNe h.avail hg).1) u, hok⟩
theorem StoreAt.setLast (h : StoreAt w sb mb fb s vf va) {n : Nat} (hok : StOk { s with last := n }) : StoreAt (w.setCell ⟨sb, 1, none⟩ (.int .i64 (n : Int))) sb mb fb { s with last := n } vf va :=
  ⟨heap_set_cells h.obj _, dirty_setCell h.dirty h.ne.symm _, ownS_setCell h.freed (fun _ hg => (h.ownNe h.freed hg).1) _, ownS_setCell h.avail (fun _ hg => (h.ownNe h.avail hg).1) _, hok⟩
/-- Another map. -/
theorem StoreAt.setMap (h : StoreAt w sb mb fb s vf va) {ks : List Int} {sh : Int → ByteArray} (hd : DirtyAt w' mb ks sh) (hg : w.grownBy w' (some mb)) (hok : StOk { s with dirty := ks, sh := sh }) : StoreAt w' sb mb fb { s with dirty := ks, sh := sh } vf va :=
  ⟨(hg.block sb h.lt (by simpa using h.ne)).trans h.obj, hd, h.row h.freed (.map hg), h.row h.avail (.map hg), hok⟩
theorem StoreAt.cells (h : StoreAt w sb mb fb s vf va) : ∀ j, w.cell? ⟨sb, j, none⟩ = (stCells fb mb s vf va)[j]? := H.cell_rowL h.obj
theorem StoreAt.frozen (h : StoreAt w sb mb fb s vf va) : ∀ j, w.frozen? ⟨sb, j, none⟩ = false := H.frozen_rowL h.obj
theorem StoreAt.availRow (h : StoreAt w sb mb fb s vf va) : ∃ ao cap, va = .slice ao s.avail.length cap ∧ RowAt w ao cap s.avail := RowAt.own h.avail
theorem StoreAt.freedRow (h : StoreAt w sb mb fb s vf va) : ∃ ao cap, vf = .slice ao s.freed.length cap ∧ RowAt w ao cap s.freed := RowAt.own h.freed
end
end Go.Proofs.YtpionokcabjokaaGreat

/- Contracts of package page's takeNum, takeCount, takeRoot and takeTexts. -/
import Derived.Test.YtgnmjdcmaahlnaaMh
import Derived.Test.YtgnmjdcmaahlnaaTakes
namespace Go.Proofs.Ytgnmjdcmaahlnaa
open Go.RowKit Go.Sort

/-- What is left of the bytes, and whether they have lacked. -/
abbrev St := List UInt8 × Bool
def nS (s : St) : St := (numL s.1 s.2, !numOk s.1 s.2)
def nV (s : St) : Nat := numV s.1 s.2
def tS (s : St) : St := (textL s.1 s.2, !textOk s.1 s.2)
def tV (s : St) : ByteArray := bs (textV s.1 s.2)
def iV (s : St) : Int := wrap64 (nV s)
def AtSt (w : World) (b rb : Nat) (s : St) : Prop := CutAt w b rb s.1 s.2
theorem AtSt.lt {w : World} {b rb : Nat} {s : St} (h : AtSt w b rb s) : b < w.heap.size := CutAt.lt h
theorem AtSt.below {w w' : World} {b rb : Nat} {s : St} (h : AtSt w b rb s) (hb : Below w.heap.size w w') : AtSt w' b rb s := CutAt.below h hb (CutAt.lt h) h.2.1
theorem AtSt.alloc {w : World} {b rb : Nat} {s : St} (h : AtSt w b rb s) (o : Obj) : AtSt (w.alloc o) b rb s := CutAt.alloc h o
/-- It stays what it is where another block turns. -/
theorem AtSt.grown {w w' : World} {b rb : Nat} {s : St} {row : Option Nat} (h : AtSt w b rb s) (hg : w.grownBy w' row) (h1 : row ≠ some b) (h2 : row ≠ some rb) : AtSt w' b rb s :=
  CutAt.kept h (hg.block b h.lt (fun e => h1 e.symm)) (hg.block rb h.2.1 (fun e => h2 e.symm)) hg.size
theorem AtSt.set {w : World} {b rb : Nat} {s : St} {p : Nat} (h : AtSt w b rb s) (h1 : p ≠ b) (h2 : p ≠ rb) (o : Nat) (u : Value) : AtSt (w.setCell ⟨p, o, none⟩ u) b rb s :=
  h.grown (grown_setCell w p o u) (by simpa using h1) (by simpa using h2)
theorem nV_lt (s : St) : nV s < 18446744073709551616 := by
  unfold nV numV
  split
  · have h := leN_lt (s.1.take 8)
    have hl : (s.1.take 8).length ≤ 8 := List.length_take_le _ _
    have hp : 256 ^ (s.1.take 8).length ≤ 256 ^ 8 := Nat.pow_le_pow_right (by omega) hl
    omega
  · omega
theorem grown_refl (w : World) (row : Option Nat) : w.grownBy w row := ⟨rfl, rfl, rfl, Nat.le_refl _, fun _ _ _ => rfl⟩
theorem grown_trans {w w1 w2 : World} {b : Nat} (h : w.grownBy w1 (some b)) (g : w1.grownBy w2 (some b)) : w.grownBy w2 (some b) :=
  ⟨g.os.trans h.os, g.tape.trans h.tape, g.output.trans h.output, Nat.le_trans h.size g.size, fun k hk hne => (g.block k (Nat.lt_of_lt_of_le hk h.size) hne).trans (h.block k hk hne)⟩
theorem grown_step {w w1 w2 : World} {b : Nat} {row : Option Nat} (h : w.grownBy w1 (some b)) (g : w1.grownBy w2 row) (hr : ∀ k, row = some k → w.heap.size ≤ k) : w.grownBy w2 (some b) :=
  ⟨g.os.trans h.os, g.tape.trans h.tape, g.output.trans h.output, Nat.le_trans h.size g.size, fun k hk hne => (g.block k (Nat.lt_of_lt_of_le hk h.size) (fun e => by have := hr k e.symm; omega)).trans (h.block k hk hne)⟩
theorem grown_new {w w1 : World} {b : Nat} (h : w.grownBy w1 (some b)) (o : Obj) : w.grownBy (w1.alloc o) (some b) :=
  grown_step h ⟨rfl, rfl, rfl, by simp, fun k hk _ => Below.heap_alloc _ _ _ hk⟩ (row := none) (by simp)
theorem grown_set {w w1 : World} {b : Nat} (h : w.grownBy w1 (some b)) (p o : Nat) (hp : w.heap.size ≤ p) (u : Value) : w.grownBy (w1.setCell ⟨p, o, none⟩ u) (some b) :=
  grown_step h (grown_setCell w1 p o u) (fun k hk => by cases hk; exact hp)
theorem grown_below {w w1 w2 : World} {b : Nat} (h : w.grownBy w1 (some b)) (hb : Below w1.heap.size w1 w2) : w.grownBy w2 (some b) :=
  ⟨hb.os.trans h.os, hb.tape.trans h.tape, hb.output.trans h.output, Nat.le_trans h.size hb.size, fun k hk hne => (hb.block k (Nat.lt_of_lt_of_le hk h.size)).trans (h.block k hk hne)⟩

theorem cnum_any (b rb : Nat) (s : St) (w : World) (h : AtSt w b rb s) :
    Calls Try.prog 54 #[.pointer (some ⟨b, 0, none⟩)] w fun e w' => e = .returned (.int .u64 (nV s)) ∧ AtSt w' b rb (nS s) ∧ w.grownBy w' (some b) := cutNum_any b rb s.1 s.2 w h
theorem ctext_any (b rb : Nat) (s : St) (w : World) (h : AtSt w b rb s) :
    Calls Try.prog 58 #[.pointer (some ⟨b, 0, none⟩)] w fun e w' => e = .returned (.string (tV s)) ∧ AtSt w' b rb (tS s) ∧ w.grownBy w' (some b) := cutText_any b rb s.1 s.2 w h

set_option maxHeartbeats 400000 in
theorem takeNum_any (b rb : Nat) (s : St) (w : World) (h : AtSt w b rb s) :
    Calls Try.prog 55 #[.pointer (some ⟨b, 0, none⟩)] w fun e w' => e = .returned (.int .i64 (iV s)) ∧ AtSt w' b rb (nS s) ∧ w.grownBy w' (some b) := by
  have H := hid h
  clear h
  go_enter Try.func55, Try.ntmps55
  go_wp2_with (go_at_call 54; refine (cnum_any b rb s _ H.out).mono ?_; rintro e w' ⟨rfl, hc, hg⟩)
  go_ret
  exact ⟨rfl, hc, hg⟩

set_option maxHeartbeats 400000 in
theorem takeCount_any (b rb : Nat) (s : St) (most : Nat) (w : World) (h : AtSt w b rb s) (hm : most ≤ 1000) :
    Calls Try.prog 56 #[.pointer (some ⟨b, 0, none⟩), .int .i64 most] w fun e w' => e = .returned (.int .i64 (min (nV s) most : Nat)) ∧ AtSt w' b rb (nS s) ∧ w.grownBy w' (some b) := by
  have H := hid h
  clear h
  have hlt := nV_lt s
  go_enter Try.func56, Try.ntmps56
  go_wp2_with (go_at_call 54; refine (cnum_any b rb s _ H.out).mono ?_; rintro e w' ⟨rfl, hc, hg⟩)
  go_ret
  refine ⟨ret_int ?_, hc, hg⟩
  go_num

def rootV (s : St) : RootD := ⟨iV s, iV (nS s), iV (nS (nS s))⟩
def rootS (s : St) : St := nS (nS (nS s))
set_option maxHeartbeats 400000 in
theorem takeRoot_any (b rb : Nat) (s : St) (w : World) (h : AtSt w b rb s) :
    Calls Try.prog 61 #[.pointer (some ⟨b, 0, none⟩)] w fun e w' => e = .returned (.agg #[.int .i64 (rootV s).page, .int .i64 (rootV s).count, .int .i64 (rootV s).flags]) ∧ AtSt w' b rb (rootS s) ∧ w.grownBy w' (some b) := by
  have H := hid (h.alloc (.cells #[.int .i64 0, .int .i64 0, .int .i64 0] 24))
  have hlt := h.lt
  have hlr := h.2.1
  have HG := hid (grown_new (grown_refl w (some b)) (.cells #[.int .i64 0, .int .i64 0, .int .i64 0] 24))
  clear h
  go_enter Try.func61, Try.ntmps61
  go_wp2_with fail
  refine (takeNum_any b rb s _ H.out).mono ?_
  rintro e w1 ⟨rfl, hc1, hg1⟩
  have HC1 := hid hc1
  have hbk1 : w1.heap[w.heap.size]? = some (.cells #[.int .i64 0, .int .i64 0, .int .i64 0] 24 (0, 0)) := (hg1.block w.heap.size (by simp) (by simp; omega)).trans (heap_newL w _)
  have HG1 := hid (grown_trans HG.out hg1)
  clear hc1 hg1 H HG
  go_wp2_with fail
  refine (takeNum_any b rb _ _ HC1.out).mono ?_
  rintro e w2 ⟨rfl, hc2, hg2⟩
  have HC2 := hid hc2
  have hbk2 := (hg2.block w.heap.size (by have := (Array.getElem?_eq_some_iff.1 hbk1).1; omega) (by simp; omega)).trans hbk1
  have HG2 := hid (grown_trans HG1.out hg2)
  clear hc2 hg2 HC1 HG1 hbk1
  go_wp2_with fail
  refine (takeNum_any b rb _ _ HC2.out).mono ?_
  rintro e w3 ⟨rfl, hc3, hg3⟩
  have HC3 := hid hc3
  have hbk3 := (hg3.block w.heap.size (by have := (Array.getElem?_eq_some_iff.1 hbk2).1; omega) (by simp; omega)).trans hbk2
  have HG3 := hid (grown_trans HG2.out hg3)
  clear hc3 hg3 HC2 HG2 hbk2
  have f0 : ∀ j, w3.frozen? ⟨w.heap.size, j, none⟩ = false := fun j => by simp [World.frozen?, hbk3]
  have c0 : w3.cell? ⟨w.heap.size, 0, none⟩ = some (.int .i64 0) := by rw [cell_rowL hbk3]; rfl
  have c1 : w3.cell? ⟨w.heap.size, 1, none⟩ = some (.int .i64 0) := by rw [cell_rowL hbk3]; rfl
  have c2 : w3.cell? ⟨w.heap.size, 2, none⟩ = some (.int .i64 0) := by rw [cell_rowL hbk3]; rfl
  clear hbk3
  go_wp2
  refine bodyPost_ret (v := .agg #[.int .i64 (iV s), .int .i64 (iV (nS s)), .int .i64 (iV (nS (nS s)))]) (by simp [results, Try.results61, go_sem, c0, c1, c2]) rfl ⟨rfl, ?_, ?_⟩
  · exact ((HC3.out.set (by omega) (by omega) 0 _).set (by omega) (by omega) 1 _).set (by omega) (by omega) 2 _
  · exact grown_set (grown_set (grown_set HG3.out _ _ (Nat.le_refl _) _) _ _ (Nat.le_refl _) _) _ _ (Nat.le_refl _) _

def tSn : Nat → St → St
  | 0, s => s
  | k + 1, s => tS (tSn k s)
def textsV : Nat → St → List ByteArray
  | 0, _ => []
  | k + 1, s => textsV k s ++ [tV (tSn k s)]
theorem textsV_length : ∀ k s, (textsV k s).length = k
  | 0, _ => rfl
  | k + 1, s => by simp [textsV, textsV_length k s]
def strCellsL (l : List ByteArray) : List Value := l.map Value.string
/-- A row of texts of the call's own. -/
def OwnStrs (w : World) (base : Nat) (v : Value) (l : List ByteArray) : Prop := w.ownsRow base 9 1 v l.length (strCellsL l) ∧ l.length ≤ 1000 ∧ ∀ x ∈ l, x.size ≤ 65535
theorem OwnStrs.strs {w : World} {base : Nat} {v : Value} {l : List ByteArray} (h : OwnStrs w base v l) : StrsAt w v l :=
  strs_own h.1 (fun x hx => by have := h.2.2 x hx; unfold maxLen; omega) (by have := h.2.1; unfold maxLen; omega)
theorem owns_mono {w : World} {base B : Nat} {e : TypeId} {size n : Nat} {v : Value} {xs : List Value} (h : w.ownsRow base e size v n xs) (hB : B ≤ base) : w.ownsRow B e size v n xs := by
  refine ⟨h.1, ?_⟩
  rcases h.2 with hn | ⟨g, cap, cur, hv, hg, rest⟩
  · exact .inl hn
  · exact .inr ⟨g, cap, cur, hv, by omega, rest⟩
theorem textV_le (l : List UInt8) (sh : Bool) : (textV l sh).length ≤ 65535 := by
  unfold textV
  split
  · have := leN_two_le l
    simp
    omega
  · simp
theorem tV_size (s : St) : (tV s).size ≤ 65535 := by rw [tV, bs_size]; exact textV_le _ _
theorem textsV_sizes : ∀ k s, ∀ x ∈ textsV k s, x.size ≤ 65535
  | 0, _, x, h => by simp [textsV] at h
  | k + 1, s, x, h => by
    rcases List.mem_append.1 h with h | h
    · exact textsV_sizes k s x h
    · rw [List.mem_singleton.1 h]
      exact tV_size _

set_option maxHeartbeats 1000000 in
theorem takeTexts_any (b rb : Nat) (s : St) (most : Nat) (w : World) (h : AtSt w b rb s) (hm : most ≤ 1000) :
    Calls Try.prog 59 #[.pointer (some ⟨b, 0, none⟩), .int .i64 most] w fun e w' => ∃ v, e = .returned v ∧ OwnStrs w' w.heap.size v (textsV (min (nV s) most) (nS s)) ∧ AtSt w' b rb (tSn (min (nV s) most) (nS s)) ∧ w.grownBy w' (some b) := by
  obtain ⟨i0, hi, hz0, hz1, hz2⟩ := info_parts Try.infoStr
  have H := hid (takeCount_any b rb s most w h hm)
  have hlt := h.lt
  have hlr := h.2.1
  have hn : min (nV s) most ≤ 1000 := Nat.le_trans (Nat.min_le_right _ _) hm
  clear h
  generalize min (nV s) most = n at *
  generalize nS s = s1 at *
  go_enter Try.func59, Try.ntmps59
  go_wp2_with fail
  refine H.out.mono ?_
  rintro e w1 ⟨rfl, hc1, hg1⟩
  have HC1 := hid hc1
  have HG1 := hid hg1
  clear hc1 hg1 H
  go_wp2
  go_loopw [5, 9] (fun v i wr => ∃ k : Nat, k ≤ n ∧ i = .int .i64 k ∧ wr.ownsRow w.heap.size 9 1 v k (strCellsL (textsV k s1)) ∧ Hid (AtSt wr b rb (tSn k s1)) ∧ w.grownBy wr (some b)) (fun _ i _ => n - (intOf i).toNat)
  case atStart => exact ⟨0, Nat.zero_le _, rfl, World.ownsRow_nil _ _ _ _, HC1, HG1.out⟩
  case round =>
    obtain ⟨k, hk, rfl, hown, hat, hgr⟩ := hrel
    clear HC1 HG1
    by_cases hlk : k < n
    · have HT : Hid (strCellsL (textsV (k + 1) s1) = strCellsL (textsV k s1) ++ [.string (tV (tSn k s1))]) := by
        show _ = _
        simp [strCellsL, textsV]
      go_wp2_with fail
      refine (ctext_any b rb _ _ hat.out).mono ?_
      rintro e w2 ⟨rfl, hc2, hg2⟩
      have hown2 := hown.kept hg2 (.inr (fun e => by have := (hown.lt b e).1; omega))
      have HC2 := hid hc2
      have HG2 := hid (grown_trans hgr hg2)
      clear hc2 hg2 hown hat hgr
      generalize tV (tSn k s1) = T at *
      go_wp2_with (at_builtin; refine wpList_append_own _ rfl _ _ 45 rfl w.heap.size 9 i0 (.string ⟨#[]⟩) 1 16 Try.underlying45 hi hz0 hz1 hz2 rfl (by decide) _ _ _ rfl (hown2.alloc _) ⟨w2.heap.size, 0, none⟩ 1 1 [.string T] rfl rfl (cell_one_new _ _ _) (fun x hx => by simp at hx; subst hx; rfl) (by unfold maxLen; omega) (by omega) (by have := HG2.out.size; simp; omega) ?_)
      intro v' w3 hown' hgrow _
      rw [← HT.out] at hown'
      have HG3 := hid (grown_step (grown_new HG2.out _) hgrow (fun q hq => (hown2.lt q hq).1))
      have HC3 := hid (AtSt.grown (HC2.out.alloc _) hgrow (fun e => by have := (hown2.lt _ e).1; omega) (fun e => by have := (hown2.lt _ e).1; omega))
      clear hgrow hown2 HC2 HG2
      go_wp2
      go_roundw
      case rel => exact ⟨k + 1, by omega, by go_num, hown', HC3, HG3.out⟩
      case measure => simp [intOf]; omega
    · have hke : k = n := by omega
      subst hke
      go_wp2
      go_ret
      refine ⟨_, rfl, ⟨?_, ?_, ?_⟩, hat.out, hgr⟩
      · rw [textsV_length]
        exact hown
      · rw [textsV_length]
        exact hn
      · exact textsV_sizes _ _
end Go.Proofs.Ytgnmjdcmaahlnaa

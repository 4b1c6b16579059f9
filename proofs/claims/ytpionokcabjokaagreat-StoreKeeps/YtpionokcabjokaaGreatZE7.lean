/- A store over its file, and what was there before: the calls of a store, lifted; what single new numbers are. The statements' own opening test, as data: what it makes, step by step. -/
import Derived.Test.YtpionokcabjokaaGreatZE6
import Derived.Test.YtpionokcabjokaaGreatZE5
namespace Go.Proofs.YtpionokcabjokaaGreat
open Go.RowKit Go.Sort Go.Conc
open H (Up up_ext mergeL dropL Fit RunI RunIs OwnInts RowAt)

structure Sf (w X : World) (sb mb fb : Nat) (s : StD) (L : List F.Sh) : Prop where
  st : ∃ vf va, StoreAt X sb mb fb s vf va
  file : ∃ fv, F.FileAt X w.heap.size fb fv L
  bel : Below w.heap.size w X
  lo : w.heap.size ≤ sb ∧ w.heap.size ≤ mb
section
variable {w X Y : World} {sb mb fb : Nat} {s s' : StD} {L : List F.Sh}
theorem Sf.ok (h : Sf w X sb mb fb s L) : StOk s := by
  obtain ⟨_, _, h1⟩ := h.st
  exact h1.ok
theorem Sf.lt (h : Sf w X sb mb fb s L) : sb < X.heap.size ∧ mb < X.heap.size := by
  obtain ⟨_, _, h1⟩ := h.st
  exact ⟨h1.lt, h1.ltM⟩
theorem Sf.below (h : Sf w X sb mb fb s L) (hb : Below X.heap.size X Y) : Sf w Y sb mb fb s L := by
  obtain ⟨vf, va, h1⟩ := h.st
  obtain ⟨fv, h2⟩ := h.file
  exact ⟨⟨vf, va, h1.below hb⟩, ⟨fv, h2.below hb⟩, h.bel.trans (hb.mono h.bel.size), h.lo⟩
theorem Sf.alloc (h : Sf w X sb mb fb s L) (o : Obj) : Sf w (X.alloc o) sb mb fb s L := h.below ((Below.refl _ _).alloc (Nat.le_refl _) o)
theorem Sf.so (h : Sf w X sb mb fb s L) (hn : ∃ vf va, StoreAt Y sb mb fb s' vf va) (hs : So sb mb X Y) : Sf w Y sb mb fb s' L := by
  obtain ⟨vf, va, h1⟩ := h.st
  obtain ⟨fv, h2⟩ := h.file
  exact ⟨hn, ⟨fv, h1.file h2 hs⟩, h.bel.trans (hs.below h.lo.1 h.lo.2 h.bel.size), h.lo⟩
theorem add_sf (h : Sf w X sb mb fb s L) {p : PageD} {vi vk vd vv vg : Value} (hp : HangsK X sb mb p vi vk vd vv vg) (ht : TxnOk p) :
    Calls Tryz.prog 12 #[.pointer (some ⟨sb, 0, none⟩), .agg (pageCells p vi vk vd vv vg).toArray] X fun e Y => e = .returned (.tuple #[.int .i64 (addD s p).1, errV (addD s p).2.1]) ∧ Sf w Y sb mb fb (addD s p).2.2 L ∧ So sb mb X Y := by
  obtain ⟨vf, va, h1⟩ := h.st
  refine (add_any h1 p vi vk vd vv vg hp ht).mono ?_
  rintro e Y ⟨va', rfl, h2, h3⟩
  exact ⟨rfl, h.so ⟨vf, va', h2⟩ h3, h3⟩
theorem set_sf (h : Sf w X sb mb fb s L) (x : Int) (hx : InI x) {p : PageD} {vi vk vd vv vg : Value} (hp : HangsK X sb mb p vi vk vd vv vg) (ht : TxnOk p) :
    Calls Tryz.prog 13 #[.pointer (some ⟨sb, 0, none⟩), .int .i64 x, .agg (pageCells p vi vk vd vv vg).toArray] X fun e Y => e = .returned (errV (setD s x p).1) ∧ Sf w Y sb mb fb (setD s x p).2 L ∧ So sb mb X Y := by
  obtain ⟨vf, va, h1⟩ := h.st
  refine (set_any h1 x hx p vi vk vd vv vg hp.here ht).mono ?_
  rintro e Y ⟨rfl, h2, h3⟩
  exact ⟨rfl, h.so ⟨vf, va, h2⟩ h3, h3⟩
theorem touch_sf (h : Sf w X sb mb fb s L) (hL : ShOk L) (x : Int) (hx : InI x) :
    Calls Tryz.prog 14 #[.pointer (some ⟨sb, 0, none⟩), .int .i64 x] X fun e Y => e = .returned (.tuple #[.int .i64 (touchD s L x).1, errV (touchD s L x).2.1]) ∧ Sf w Y sb mb fb (touchD s L x).2.2 L ∧ So sb mb X Y := by
  obtain ⟨vf, va, h1⟩ := h.st
  obtain ⟨fv, hf⟩ := h.file
  cases hd : s.dirty.contains x with
  | true =>
    have e1 : touchD s L x = (x, 0, s) := by unfold touchD; rw [if_pos hd]
    rw [e1]
    refine (touch_made h1 x hx hd).mono ?_
    rintro e Y ⟨rfl, hb⟩
    exact ⟨rfl, h.below hb, So.of_below hb⟩
  | false =>
    refine (touch_new h1 hf hL x hx hd).mono ?_
    rintro e Y ⟨vf', va', rfl, h2, h3⟩
    exact ⟨rfl, h.so ⟨vf', va', h2⟩ h3, h3⟩
theorem drop_sf (h : Sf w X sb mb fb s L) (x : Int) (hx : InI x) :
    Calls Tryz.prog 15 #[.pointer (some ⟨sb, 0, none⟩), .int .i64 x] X fun e Y => e = .returned (.tuple #[]) ∧ Sf w Y sb mb fb (dropD s x) L ∧ So sb mb X Y := by
  obtain ⟨vf, va, h1⟩ := h.st
  refine (drop_any h1 x hx).mono ?_
  rintro e Y ⟨vf', va', rfl, h2, h3⟩
  exact ⟨rfl, h.so ⟨vf', va', h2⟩ h3, h3⟩
theorem run_sf (h : Sf w X sb mb fb s L) (n : Int) (hn : InI n) :
    Calls Tryz.prog 16 #[.pointer (some ⟨sb, 0, none⟩), .int .i64 n] X fun e Y => e = .returned (.tuple #[.int .i64 (runD s n).1, errV (runD s n).2.1]) ∧ Sf w Y sb mb fb (runD s n).2.2 L ∧ So sb mb X Y := by
  obtain ⟨vf, va, h1⟩ := h.st
  refine (run_any h1 n hn).mono ?_
  rintro e Y ⟨va', rfl, h2, h3⟩
  exact ⟨rfl, h.so ⟨vf, va', h2⟩ h3, h3⟩
theorem read_sf (h : Sf w X sb mb fb s L) (hL : ShOk L) (x : Int) (hx : InI x) :
    Calls Tryz.prog 27 #[.pointer (some ⟨sb, 0, none⟩), .int .i64 x] X fun e Y => ∃ vi vk vd vv vg, e = .returned (.tuple #[.agg (pageCells (readS s L x).1 vi vk vd vv vg).toArray, errV (readS s L x).2]) ∧ (∀ W, Agree X.heap.size Y W → Hangs W (readS s L x).1 vi vk vd vv vg) ∧ Sf w Y sb mb fb s L ∧ Below X.heap.size X Y := by
  obtain ⟨vf, va, h1⟩ := h.st
  obtain ⟨fv, hf⟩ := h.file
  refine (read_st h1 hf hL x hx).mono ?_
  rintro e Y ⟨vi, vk, vd, vv, vg, rfl, h2, h3⟩
  exact ⟨vi, vk, vd, vv, vg, rfl, h2, h.below h3, h3⟩
theorem last_sf (h : Sf w X sb mb fb s L) :
    Calls Tryz.prog 25 #[.pointer (some ⟨sb, 0, none⟩)] X fun e Y => e = .returned (.int .i64 (s.last : Int)) ∧ Y = X := by
  obtain ⟨vf, va, h1⟩ := h.st
  exact last_any h1
theorem dirty_sf (h : Sf w X sb mb fb s L) :
    Calls Tryz.prog 17 #[.pointer (some ⟨sb, 0, none⟩)] X fun e Y => ∃ ao cap, e = .returned (.slice ao s.dirty.length cap) ∧ RowAt Y ao cap s.dirty ∧ Below X.heap.size X Y := by
  obtain ⟨vf, va, h1⟩ := h.st
  refine (dirty_any h1).mono ?_
  rintro e Y ⟨u, rfl, h2, h3⟩
  obtain ⟨ao, cap, rfl, h4⟩ := RowAt.own h2
  exact ⟨ao, cap, rfl, h4, h3⟩
theorem freed_sf (h : Sf w X sb mb fb s L) :
    Calls Tryz.prog 18 #[.pointer (some ⟨sb, 0, none⟩)] X fun e Y => ∃ ao cap, e = .returned (.slice ao s.freed.length cap) ∧ RowAt Y ao cap s.freed ∧ Below X.heap.size X Y := by
  obtain ⟨vf, va, h1⟩ := h.st
  refine (freed_any h1).mono ?_
  rintro e Y ⟨u, rfl, h2, h3⟩
  obtain ⟨ao, cap, rfl, h4⟩ := RowAt.own h2
  exact ⟨ao, cap, rfl, h4, h3⟩
theorem avail_sf (h : Sf w X sb mb fb s L) :
    Calls Tryz.prog 11 #[.pointer (some ⟨sb, 0, none⟩)] X fun e Y => ∃ ao cap, e = .returned (.slice ao s.avail.length cap) ∧ RowAt Y ao cap s.avail ∧ Below X.heap.size X Y := by
  obtain ⟨vf, va, h1⟩ := h.st
  refine (avail_any h1).mono ?_
  rintro e Y ⟨u, rfl, h2, h3⟩
  obtain ⟨ao, cap, rfl, h4⟩ := RowAt.own h2
  exact ⟨ao, cap, rfl, h4, h3⟩
/-- A leaf that is newer than the store. -/
theorem leaf_sf (h : Sf w X sb mb fb s L) (k : ByteArray) (hk : k.size ≤ 65535) :
    Calls Tryz.prog 23 #[.string k] X fun e Y => ∃ vi, e = .returned (.agg (pageCells (leafK1 k) vi (.slice none 0 0) (.slice none 0 0) (.slice none 0 0) (.slice none 0 0)).toArray) ∧ HangsK Y sb mb (leafK1 k) vi (.slice none 0 0) (.slice none 0 0) (.slice none 0 0) (.slice none 0 0) ∧ Sf w Y sb mb fb s L ∧ Below X.heap.size X Y := by
  refine (leaf_any k X hk).mono ?_
  rintro e Y ⟨vi, rfl, h2, h3⟩
  exact ⟨vi, rfl, HangsK.new h2 ⟨Nat.le_refl _, fun _ _ _ => rfl⟩ h.lt.1 h.lt.2, h.below h3, h3⟩
theorem new_sf (fb : Nat) (last most : Int) (l : List Int) (ao : Option Addr) (cap n : Nat) (hn : n = l.length) {fv : Value} (hX : Below w.heap.size w X) (hf : F.FileAt X w.heap.size fb fv L) (h : RowAt X ao cap l) (hl : l.length ≤ 1000) :
    Calls Tryz.prog 10 #[.pointer (some ⟨fb, 0, none⟩), .int .i64 last, .int .i64 most, .slice ao n cap] X fun r Y => ∃ sb mb, r = .returned (.pointer (some ⟨sb, 0, none⟩)) ∧ Sf w Y sb mb fb (newD last most l) L := by
  subst hn
  refine (snew_any fb last most l ao cap X h hl).mono ?_
  rintro e Y ⟨sb, mb, va, rfl, h1, h2, h3, h4⟩
  have := hX.size
  exact ⟨sb, mb, rfl, ⟨_, va, h1⟩, ⟨fv, hf.below h4⟩, hX.trans (h4.mono this), by omega, by omega⟩
end

theorem runF_one {x : Int} {r : List Int} : runF (x :: r) 1 = some x := by
  have : (List.range (x :: r).length).find? (runB (x :: r) 1) = some 0 := by
    rw [List.find?_range_eq_some]
    refine ⟨by simp [runB], by simp, fun j hj => absurd hj (by omega)⟩
  unfold runF
  rw [this]
  rfl
theorem runF_nil {n : Nat} : runF [] n = none := by simp [runF]
theorem drop_head {x : Int} {r : List Int} (hu : Up (x :: r)) : dropL (x :: r) x 1 = r :=
  up_ext _ _ (H.dropL_up _ _ _ hu) (H.up_cons.1 hu).2 fun y => by
    have h1 := (H.up_cons.1 hu).1
    rw [drop_one_mem, List.mem_cons]
    constructor
    · rintro ⟨rfl | h, h2⟩
      · exact absurd rfl h2
      · exact h
    · intro h
      have := h1 y h
      exact ⟨.inr h, by omega⟩
theorem take_avail {s : StD} (h : StOk s) {x : Int} {r : List Int} (ha : s.avail = x :: r) (hd : s.dirty.length < 120) : takeD s 1 = (x, 0, madeD { s with avail := r } x 1) := by
  have hu := h.upA
  rw [ha] at hu
  unfold takeD
  rw [if_neg (by omega), ha, runF_one]
  have e := drop_head hu
  simp only
  rw [show ((1 : Nat) : Int) = 1 from rfl, e]
theorem take_last {s : StD} (ha : s.avail = []) (hd : s.dirty.length < 120) (hl : s.last < s.most) : takeD s 1 = ((s.last : Int), 0, madeD { s with last := s.last + 1 } s.last 1) := by
  unfold takeD
  rw [if_neg (by omega), ha, runF_nil]
  simp only
  rw [if_neg (by omega), ← ha]
theorem take_many {s : StD} {n : Nat} (hd : 120 < s.dirty.length + n) : takeD s n = (0, 17, s) := if_pos hd
theorem take_over {s : StD} (ha : s.avail = []) (hd : s.dirty.length < 120) (hl : s.most ≤ s.last) : takeD s 1 = (0, 14, s) := by
  unfold takeD
  rw [if_neg (by omega), ha, runF_nil]
  simp only
  rw [if_pos (by omega)]
theorem addD_of {s s' : StD} {p : PageD} {x : Int} (hi : isPB p = true) (h : takeD s 1 = (x, 0, s')) : addD s p = (x, 0, putB s' x (bs (bytesD p))) := by
  unfold addD
  rw [if_pos hi, h]
  rfl
theorem addD_no {s : StD} {p : PageD} {e : Int} (hi : isPB p = true) (he : e ≠ 0) (h : takeD s 1 = (0, e, s)) : addD s p = (0, e, s) := by
  unfold addD
  rw [if_pos hi, h]
  simp only
  rw [if_neg he]
theorem addD_bad {s : StD} {p : PageD} (hi : isPB p = false) : addD s p = (0, 10, s) := by
  unfold addD
  rw [hi]
  rfl
end Go.Proofs.YtpionokcabjokaaGreat

namespace Go.Proofs.YtpionokcabjokaaGreat
open Go.RowKit Go.Sort Go.Conc
open H (Up up_ext mergeL dropL Fit RunI RunIs OwnInts RowAt)

def knA : PageD := leafK1 ⟨#[97]⟩
def knB : PageD := leafK1 ⟨#[98]⟩
def knC : PageD := leafK1 ⟨#[99]⟩
def knL : List F.Sh := F.newL [⟨#[]⟩, ⟨#[]⟩, bs (bytesD knA), bs (bytesD knB)]
def K0 : StD := ⟨4, 6, [], fun _ => ⟨#[]⟩, [], [3]⟩
def K1 : StD := ⟨4, 6, [3], upd (upd (fun _ => ⟨#[]⟩) (3 + ((0 : Nat) : Int)) ⟨#[]⟩) 3 (bs (bytesD knC)), [], []⟩
def K2 : StD := ⟨5, 6, [3, 4], upd (upd K1.sh (4 + ((0 : Nat) : Int)) ⟨#[]⟩) 4 (bs (bytesD knA)), [2], []⟩
def K3 : StD := ⟨6, 6, [3, 4, 5], upd (upd K2.sh (5 + ((0 : Nat) : Int)) ⟨#[]⟩) 5 (bs (bytesD knA)), [2], []⟩
theorem knA_is : isPB knA = true := by decide +kernel
theorem knC_is : isPB knC = true := by decide +kernel
theorem noPage_not : isPB noPage = false := by decide +kernel
theorem noPage_txn : TxnOk noPage := ⟨by simp [noPage], by simp [noPage]⟩
theorem knL_ok : ShOk knL := by
  intro t ht
  simp only [knL, F.newL, List.map_cons, List.map_nil, List.mem_cons, List.not_mem_nil, or_false] at ht
  rcases ht with rfl | rfl | rfl | rfl
  · simp [ByteArray.size]
  · simp [ByteArray.size]
  · exact bytesD_small _ (leaf_txn _)
  · exact bytesD_small _ (leaf_txn _)
theorem kn0 : newD 4 6 [3] = K0 := by
  have e1 : siftL [3] (min (heldN 4 : Int) (heldN 6 : Int)) = [3] := siftL_of_up (by simp [Up]) (fun x hx => by
    simp only [List.mem_singleton] at hx
    subst hx
    exact ⟨by omega, by decide +kernel⟩)
  unfold newD
  rw [e1]
  rfl
theorem kn0_ok : StOk K0 := kn0 ▸ newD_ok 4 6 [3]
theorem kn1 : addD K0 knC = (3, 0, K1) := addD_of knC_is (take_avail kn0_ok rfl (by simp [K0]))
theorem kn_read {s : StD} (hm : s.most = 6) (hd : s.dirty.contains 2 = false) : readS s knL 2 = (knA, 0) := by
  have e1 : bytesAt s knL 2 = bs (bytesD knA) := by
    unfold bytesAt
    rw [hd]
    rfl
  unfold readS
  rw [hm, if_neg (by omega), e1, bs_list]
  obtain ⟨h1, h2⟩ := okR_bytes knA knA_is (leaf_txn _)
  simp only [readD, h1, h2, ↓reduceIte]
theorem dropD_freed {s : StD} {x : Int} (h1 : s.dirty.contains x = false) (h2 : 2 ≤ x ∧ x < (s.last : Int)) (h3 : s.avail.contains x = false) : dropD s x = { s with freed := mergeL s.freed [x] } := by
  unfold dropD
  rw [h1, if_neg (by simp), if_pos ⟨h2.1, h2.2, h3⟩]
theorem touchD_of {s s' : StD} {L : List F.Sh} {x y : Int} {p : PageD} (hd : s.dirty.contains x = false) (hr : readS s L x = (p, 0)) (ha : addD s p = (y, 0, s')) : touchD s L x = (y, 0, dropD s' x) := by
  unfold touchD
  rw [hd, hr]
  simp only [Bool.false_eq_true, ↓reduceIte]
  rw [ha]
  rfl
theorem kn2 : touchD K1 knL 2 = (4, 0, K2) := by
  have h1 := addD_of (p := knA) knA_is (take_last (s := K1) rfl (by simp [K1]) (by simp [K1]))
  have h2 := touchD_of (x := 2) (L := knL) (by decide +kernel) (kn_read rfl (by decide +kernel)) h1
  rw [h2, dropD_freed (by decide +kernel) (by decide +kernel) (by decide +kernel)]
  rfl
theorem kn3 : touchD K2 knL 2 = (5, 0, K3) := by
  have h1 := addD_of (p := knA) knA_is (take_last (s := K2) rfl (by simp [K2]) (by simp [K2]))
  have h2 := touchD_of (x := 2) (L := knL) (by decide +kernel) (kn_read rfl (by decide +kernel)) h1
  rw [h2, dropD_freed (by decide +kernel) (by decide +kernel) (by decide +kernel)]
  rfl
theorem kn4 : readS K3 knL 4 = (knA, 0) := by
  have e1 : bytesAt K3 knL 4 = bs (bytesD knA) := by
    unfold bytesAt
    rw [if_pos (by decide +kernel)]
    show upd (upd K2.sh (5 + ((0 : Nat) : Int)) ⟨#[]⟩) 5 (bs (bytesD knA)) 4 = _
    rw [upd_other _ _ (by omega), upd_other _ _ (by omega)]
    show upd (upd K1.sh (4 + ((0 : Nat) : Int)) ⟨#[]⟩) 4 (bs (bytesD knA)) 4 = _
    rw [upd_same]
  unfold readS
  rw [if_neg (by simp [K3]), e1, bs_list]
  obtain ⟨h1, h2⟩ := okR_bytes knA knA_is (leaf_txn _)
  simp only [readD, h1, h2, ↓reduceIte]
theorem kn5 : addD K3 noPage = (0, 10, K3) := addD_bad noPage_not
theorem kn6 : readS K3 knL 1 = (noPage, 14) := by
  unfold readS
  rw [if_pos (by simp)]
end Go.Proofs.YtpionokcabjokaaGreat

/- StoreMany: as many pages as may be are dirty, and one more isn't; one dropped there is room. -/
import Derived.Test.YtpionokcabjokaaGreatZE8
namespace Go.Proofs.YtpionokcabjokaaGreat
open Go.RowKit Go.Sort Go.Conc
open H (Up up_ext mergeL dropL Fit RunI RunIs OwnInts RowAt)

theorem agree_so {B sb mb : Nat} {w0 w1 w2 : World} (h : Agree B w0 w1) (hs : So sb mb w1 w2) (h1 : sb < B) (h2 : mb < B) : Agree B w0 w2 :=
  ⟨Nat.le_trans h.1 hs.size, fun q hq hl => (hs.block q (Nat.lt_of_lt_of_le hl h.1) (by omega) (by omega)).trans (h.2 q hq hl)⟩
theorem agree_below {B : Nat} {w0 w1 w2 : World} (h : Agree B w0 w1) (hb : Below w1.heap.size w1 w2) : Agree B w0 w2 :=
  ⟨Nat.le_trans h.1 hb.size, fun q hq hl => (hb.block q (Nat.lt_of_lt_of_le hl h.1)).trans (h.2 q hq hl)⟩
/-- A row of the call's own, as long as its block stays. -/
theorem row_agree {Y : World} {B : Nat} {u : Value} {l : List Int} (h : H.OwnInts Y B u l) : ∃ ao cap, u = .slice ao l.length cap ∧ ∀ W, Agree B Y W → RowAt W ao cap l := by
  obtain ⟨ao, cap, rfl, _⟩ := RowAt.own h
  refine ⟨ao, cap, rfl, fun W hW => ?_⟩
  have hk : H.OwnInts W B (.slice ao l.length cap) l := own_kept h (fun g hg => by
    have h1 := (own_block h g hg).1
    have h2 : B ≤ g := by
      rcases h.2 with ⟨e, _⟩ | ⟨g', c', cu, e, hB, _⟩
      · rw [e] at hg; cases hg
      · rw [e] at hg
        simp only [Value.ownBlock, Option.some.injEq] at hg
        omega
    exact hW.2 g h2 h1)
  obtain ⟨ao', cap', e, hr⟩ := RowAt.own hk
  simp only [Value.slice.injEq, true_and] at e
  obtain ⟨rfl, rfl⟩ := e
  exact hr
theorem avail_sf2 {w X : World} {sb mb fb : Nat} {s : StD} {L : List F.Sh} (h : Sf w X sb mb fb s L) :
    Calls Tryz.prog 11 #[.pointer (some ⟨sb, 0, none⟩)] X fun e Y => ∃ ao cap, e = .returned (.slice ao s.avail.length cap) ∧ (∀ W, Agree X.heap.size Y W → RowAt W ao cap s.avail) ∧ Below X.heap.size X Y := by
  obtain ⟨vf, va, h1⟩ := h.st
  refine (avail_any h1).mono ?_
  rintro e Y ⟨u, rfl, h2, h3⟩
  obtain ⟨ao, cap, rfl, h4⟩ := row_agree h2
  exact ⟨ao, cap, rfl, h4, h3⟩

def knK : PageD := leafK1 ⟨#[107]⟩
theorem knK_is : isPB knK = true := by decide +kernel
/-- So many pages are made, one behind the other, from 2 on. -/
structure ManyI (s : StD) (k : Nat) : Prop where
  last : s.last = 2 + k
  most : s.most = 400
  avail : s.avail = []
  freed : s.freed = []
  len : s.dirty.length = k
  mem : ∀ x, x ∈ s.dirty ↔ 2 ≤ x ∧ x < 2 + (k : Int)
theorem many_new : ManyI (newD 2 400 []) 0 := by
  have e1 : siftL [] (min (heldN 2 : Int) (heldN 400 : Int)) = [] := siftL_of_up (by simp [Up]) (fun x hx => absurd hx (by simp))
  exact ⟨by decide +kernel, by decide +kernel, e1, rfl, rfl, fun x => by
    simp only [newD, List.not_mem_nil, false_iff]
    omega⟩
theorem many_step {s : StD} {k : Nat} (h : ManyI s k) (ok : StOk s) (hk : k < 120) : ∃ s', addD s knK = (2 + (k : Int), 0, s') ∧ ManyI s' (k + 1) := by
  have h1 := take_last h.avail (by have := h.len; omega) (by have := h.last; have := h.most; omega)
  have h2 := addD_of knK_is h1
  have e : (s.last : Int) = 2 + (k : Int) := by have := h.last; omega
  rw [e] at h2
  refine ⟨_, h2, ⟨?_, ?_, ?_, ?_, ?_, ?_⟩⟩
  · have := h.last
    simp only [putB, madeD]
    omega
  · exact h.most
  · exact h.avail
  · exact h.freed
  · simp only [putB, madeD]
    rw [addRun_length ok.upD _ 1 (fun y hy => by have := (h.mem y).1 hy; omega), h.len]
  · intro x
    simp only [putB, madeD]
    rw [addRun_mem, h.mem x]
    omega
theorem many_full {s : StD} (h : ManyI s 120) : addD s knK = (0, 17, s) ∧ runD s 1 = (0, 17, s) := by
  have h1 : takeD s 1 = (0, 17, s) := take_many (by have := h.len; omega)
  exact ⟨addD_no knK_is (by omega) h1, h1⟩
/-- One of them dropped, and made anew. -/
theorem many_drop {s : StD} (h : ManyI s 120) (ok : StOk s) (x : Int) (h1 : 2 ≤ x) (h2 : x < 122) : (dropD s x).avail = [x] ∧ (dropD s x).freed = [] ∧ (addD (dropD s x) knK).1 = x ∧ (addD (dropD s x) knK).2.1 = 0 ∧ (addD (dropD s x) knK).2.2.freed = [] := by
  have hm : s.dirty.contains x = true := by
    have := (h.mem x).2 ⟨h1, by omega⟩
    simpa using this
  have e : dropD s x = { s with dirty := dropL s.dirty x 1, avail := [x] } := by
    unfold dropD
    rw [if_pos hm, h.avail, H.mergeL_nil]
  have hl := drop_one_length ok.upD x
  rw [if_pos hm, h.len] at hl
  have ht := take_avail (ok.drop x) (x := x) (r := []) (by rw [e]) (by rw [e]; show (dropL s.dirty x 1).length < 120; omega)
  have ha := addD_of knK_is ht
  rw [ha]
  refine ⟨by rw [e], by rw [e]; exact h.freed, rfl, rfl, ?_⟩
  rw [e]
  exact h.freed

set_option maxRecDepth 100000 in
set_option maxHeartbeats 4000000 in
theorem many_law (a0 : Int) (w : World) (h0 : 0 ≤ a0) (h1 : a0 ≤ 255) :
    Calls Tryz.prog 6 #[.int .u8 a0] w fun e w' => e = .returned (.bool true) ∧ Below w.heap.size w w' := by
  obtain ⟨a, rfl⟩ : ∃ a : Nat, a0 = (a : Int) := ⟨a0.toNat, by omega⟩
  have hnn := neqNN
  have hnil := Tryz.eqNilNil
  have C0 := hidS (fun W => F.new_any [] (.slice none 0 0) W (F.strs_nil W) (by simp))
  go_enter Tryz.func6, Tryz.ntmps6
  go_wp2_with fail
  refine (known_st w).mono ?_
  rintro e w0 ⟨rfl, B0⟩
  replace B0 := hidS B0
  go_wp2_with fail
  refine (C0.out w0).mono ?_
  rintro e w1 ⟨rfl, u1, hf1, hb1⟩
  have C1 := hidS (new_sf (w := w) (X := w1) (L := []) w0.heap.size 2 400 [] none 0 0 rfl (B0.out.trans (hb1.mono B0.out.size)) (file_mono hf1 B0.out.size) (RowAt.nil _) (by simp))
  have HM0 := hidS many_new
  clear hf1 hb1 B0 C0
  generalize w0.heap.size = fb at *
  generalize newD 2 400 [] = s0 at *
  clear w0
  go_wp2_with fail
  refine C1.out.mono ?_
  rintro e w2 ⟨sb, mb, rfl, S2⟩
  replace S2 := hidS S2
  clear C1 w1
  go_wp2
  go_loopg [4] 120 (fun g i wr => ∃ (k : Nat) (s : StD), k + g = 120 ∧ i = .int .i64 (k : Int) ∧ Hid (ManyI s k) ∧ Hid (Sf w wr sb mb fb s []))
  case atStart => exact ⟨0, s0, by omega, rfl, HM0, S2⟩
  case round =>
    obtain ⟨k, s, hk, rfl, hM, hS⟩ := hrel
    clear S2 HM0
    cases gk with
    | succ g =>
      obtain ⟨s', e1, hM'⟩ := many_step hM.out hS.out.ok (by omega)
      replace hM' := hidS hM'
      replace e1 := hidS e1
      go_wp2_with fail
      refine (leaf_sf hS.out ⟨#[107]⟩ (by decide)).mono ?_
      rintro e w3 ⟨v3, rfl, hK3, S3, -⟩
      have C3 := hidS (add_sf S3 hK3 (leaf_txn _))
      rw [show addD s (leafK1 ⟨#[107]⟩) = (2 + (k : Int), 0, s') from e1.out] at C3
      simp only [errV_0] at C3
      clear hS hM S3 hK3 e1
      go_wp2_with fail
      refine C3.out.mono ?_
      rintro e w4 ⟨rfl, S4, -⟩
      replace S4 := hidS S4
      clear C3
      go_wp2
      go_roundg g
      case rel => exact ⟨k + 1, s', by omega, by go_num, hM', S4⟩
      case measure => omega
    | zero =>
      have hke : k = 120 := by omega
      subst hke
      obtain ⟨q, hq⟩ : ∃ q : Nat, a % 120 = q := ⟨_, rfl⟩
      have hq8 : q < 120 := by omega
      have hqi : (a : Int) % 120 = (q : Int) := by omega
      have hwq : IntKind.i64.wrap (2 + (q : Int)) = 2 + (q : Int) := by rw [IntKind.wrap_i64]; omega
      obtain ⟨ef, er⟩ := many_full hM.out
      have HD := hidS (many_drop hM.out hS.out.ok (2 + (q : Int)) (by omega) (by omega))
      replace ef := hidS ef
      replace er := hidS er
      replace hq8 := hidS hq8
      clear hq hM
      go_wp2_with fail
      refine (leaf_sf hS.out ⟨#[107]⟩ (by decide)).mono ?_
      rintro e w3 ⟨v3, rfl, hK3, S3, -⟩
      have C3 := hidS (add_sf S3 hK3 (leaf_txn _))
      rw [show addD s (leafK1 ⟨#[107]⟩) = (0, 17, s) from ef.out] at C3
      simp only [errV_17] at C3
      clear hS S3 hK3 ef
      go_wp2_with fail
      refine C3.out.mono ?_
      rintro e w4 ⟨rfl, S4, -⟩
      have C4 := hidS (run_sf S4 1 (by unfold InI; omega))
      rw [er.out] at C4
      simp only [errV_17] at C4
      clear C3 S4 er
      go_wp2_with fail
      refine C4.out.mono ?_
      rintro e w5 ⟨rfl, S5, -⟩
      have C5 := hidS (drop_sf S5 (2 + (q : Int)) (by have := hq8.out; unfold InI; omega))
      clear C4 S5
      go_wp2_with fail
      refine C5.out.mono ?_
      rintro e w6 ⟨rfl, S6, -⟩
      have C6 := hidS (avail_sf2 S6)
      have L6 := hidS S6.lt
      rw [HD.out.1] at C6
      replace S6 := hidS S6
      clear C5
      go_wp2_with fail
      refine C6.out.mono ?_
      rintro e w7 ⟨ao7, ca7, rfl, hr7, hb7⟩
      rw [show [2 + (q : Int)].length = 1 from rfl]
      have S7 := S6.out.below hb7
      replace hr7 := hidS hr7
      clear C6 hb7 S6
      go_wp2_with fail
      refine (leaf_sf S7 ⟨#[107]⟩ (by decide)).mono ?_
      rintro e w8 ⟨v8, rfl, hK8, S8, hb8⟩
      have C8 := hidS (add_sf S8 hK8 (leaf_txn _))
      rw [show (addD (dropD s (2 + (q : Int))) (leafK1 ⟨#[107]⟩)).1 = 2 + (q : Int) from HD.out.2.2.1, show (addD (dropD s (2 + (q : Int))) (leafK1 ⟨#[107]⟩)).2.1 = 0 from HD.out.2.2.2.1] at C8
      simp only [errV_0] at C8
      have HR8 := hidS (fun W (h : Agree w6.heap.size w8 W) => hr7.out W ⟨Nat.le_trans hb8.size h.1, fun z h1 h2 => (h.2 z h1 (Nat.lt_of_lt_of_le h2 hb8.size)).trans (hb8.block z h2)⟩)
      clear S7 hr7 hb8 S8 hK8
      go_wp2_with fail
      refine C8.out.mono ?_
      rintro e w9 ⟨rfl, S9, So9⟩
      have HR9 := hidS (fun W (h : Below w9.heap.size w9 W) => HR8.out W (agree_below (agree_so (refl_agree _ _) So9 L6.out.1 L6.out.2) h))
      replace S9 := hidS S9
      clear C8 HR8 So9
      go_wp2_with fail
      refine (is_same17 _).mono ?_
      rintro e w10 ⟨rfl, hw10⟩
      rw [hw10]
      clear hw10
      go_wp2_with fail
      refine (is_same17 _).mono ?_
      rintro e w10 ⟨rfl, hw10⟩
      rw [hw10]
      clear hw10
      have C11 : Hid (Calls Tryz.prog 26 #[.slice ao7 1 ca7, .slice (some ⟨w9.heap.size, 0, none⟩) 1 1] (w9.alloc (.cells #[.int .i64 (2 + (q : Int))] 3)) fun e w' => e = .returned (.bool true) ∧ Below (w9.alloc (.cells #[.int .i64 (2 + (q : Int))] 3)).heap.size (w9.alloc (.cells #[.int .i64 (2 + (q : Int))] 3)) w') := hidS (by
        have hb : Below w9.heap.size w9 (w9.alloc (.cells #[.int .i64 (2 + (q : Int))] 3)) := (Below.refl _ w9).alloc (Nat.le_refl _) _
        have hu : RowAt (w9.alloc (.cells #[.int .i64 (2 + (q : Int))] 3)) (some ⟨w9.heap.size, 0, none⟩) 1 [2 + (q : Int)] := row_lit (cs := [2 + (q : Int)]) (heap_newL w9 _)
        have := H.refSameInts_any [2 + (q : Int)] [2 + (q : Int)] _ _ _ ((HR9.out _ hb).at (by simp)) (hu.at (by simp))
        rw [show decide ([2 + (q : Int)] = [2 + (q : Int)]) = true by simp] at this
        exact this)
      clear HR9
      go_wp2_with fail
      refine C11.out.mono ?_
      rintro e w12 ⟨rfl, hb12⟩
      have S12 := hidS ((S9.out.alloc _).below hb12)
      have HF := HD.out.2.2.2.2
      clear C11 S9 hb12
      go_wp2_with fail
      refine (freed_sf S12.out).mono ?_
      rintro e w13 ⟨ao13, ca13, rfl, -, hb13⟩
      have S13 := hidS (S12.out.below hb13)
      rw [show (addD (dropD s (2 + (q : Int))) (leafK1 ⟨#[107]⟩)).2.2.freed = [] from HF]
      clear HF hb13 S12
      go_wp2
      go_ret
      exact ⟨rfl, S13.out.bel⟩
end Go.Proofs.YtpionokcabjokaaGreat

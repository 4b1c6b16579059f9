/- Contracts of package store's take, Run and Drop. Contracts of package store's take, Run, Drop, sift and New, whole. Contracts of package store's sift and New. -/
import Derived.Test.YtpionokcabjokaaGreatZE2
import Derived.Deep.LoopGhost
import Derived.RegionTactic
namespace Go.Proofs.YtpionokcabjokaaGreat
open Go.RowKit Go.Sort Go.Conc
open H (Up up_ext mergeL dropL Fit RunI RunIs OwnInts RowAt hid)

theorem StOk.lessA {s : StD} (h : StOk s) {l : List Int} (hu : Up l) (hl : ∀ x ∈ l, x ∈ s.avail) : StOk { s with avail := l } :=
  { h with upA := hu, inA := fun x hx => h.inA x (hl x hx), noDA := fun x hx hx2 => h.noDA x hx (hl x hx2), noAF := fun x hx => h.noAF x (hl x hx) }
theorem StOk.moreL {s : StD} (h : StOk s) {n : Nat} (h1 : s.last ≤ n) (h2 : n ≤ 400) : StOk { s with last := n } :=
  { h with last := ⟨Nat.le_trans h.last.1 h1, h2⟩, inD := fun x hx => by have := h.inD x hx; simp only; omega, inF := fun x hx => by have := h.inF x hx; simp only; omega, inA := fun x hx => by have := h.inA x hx; simp only; omega }
theorem grown_tr {a b c : World} {r : Option Nat} (h : a.grownBy b r) (k : b.grownBy c r) : a.grownBy c r :=
  ⟨k.os.trans h.os, k.tape.trans h.tape, k.output.trans h.output, Nat.le_trans h.size k.size, fun i hi hne => (k.block i (Nat.lt_of_lt_of_le hi h.size) hne).trans (h.block i hi hne)⟩

section
variable {w : World} {sb mb fb : Nat} {s : StD} {vf va : Value}
/-- Too many. -/
theorem take_txn (h : StoreAt w sb mb fb s vf va) (n : Nat) (hn : 120 < s.dirty.length + n) (hn2 : (n : Int) < 9223372036854775808) :
    Calls Tryz.prog 40 #[.pointer (some ⟨sb, 0, none⟩), .int .i64 (n : Int)] w fun e w' => e = .returned (.tuple #[.int .i64 0, errV 17]) ∧ w' = w := by
  have hc : ∀ j, w.cell? ⟨sb, j, none⟩ = (#[.pointer (some ⟨fb, 0, none⟩), .int .i64 (s.last : Int), .int .i64 (s.most : Int), .map (some mb), vf, va] : Array Value)[j]? := h.cells
  have hlen := fun ty => h.dirty.len ty
  have hfew := h.ok.few
  have hw : IntKind.i64.wrap (120 - (s.dirty.length : Int)) = 120 - (s.dirty.length : Int) := H.wrap_i _ (by omega) (by omega)
  have hd : decide ((n : Int) > 120 - (s.dirty.length : Int)) = true := by simp; omega
  generalize s.dirty.length = dl at *
  replace hn := hid hn
  replace hn2 := hid hn2
  replace hfew := hid hfew
  clear h
  go_enter Tryz.func40, Tryz.ntmps40
  go_wp2
  go_ret2
  exact ⟨rfl, rfl⟩
set_option maxRecDepth 10000 in
set_option maxHeartbeats 2000000 in
theorem take_some (h : StoreAt w sb mb fb s vf va) (n : Nat) (hn1 : 1 ≤ n) (hn : ¬ 120 < s.dirty.length + n) (x : Int) (hr : runF s.avail n = some x) :
    Calls Tryz.prog 40 #[.pointer (some ⟨sb, 0, none⟩), .int .i64 (n : Int)] w fun e w' => ∃ va', e = .returned (.tuple #[.int .i64 (takeD s n).1, errV (takeD s n).2.1]) ∧ StoreAt w' sb mb fb (takeD s n).2.2 vf va' ∧ So sb mb w w' := by
  have hT : takeD s n = (x, 0, madeD { s with avail := dropL s.avail x n } x n) := by simp [takeD, hn, hr]
  have HOK : Hid (StOk (madeD { s with avail := dropL s.avail x n } x n)) := by have := h.ok.take (n := n) hn1; rw [hT] at this; exact this
  have HT := hid hT
  have hXm := h.ok.inA x (by simpa using runIs_some hr 0 (by omega))
  have HX : Hid (2 ≤ x ∧ x < 400 ∧ (n : Int) ≤ 120) := hid (by have := h.ok.last; omega)
  have HUD := hid h.ok.upD
  have HLD : Hid (s.dirty.length + n ≤ 120) := hid (by omega)
  obtain ⟨ao, cap, rfl, hra⟩ := h.availRow
  have hc : ∀ j, w.cell? ⟨sb, j, none⟩ = (#[.pointer (some ⟨fb, 0, none⟩), .int .i64 (s.last : Int), .int .i64 (s.most : Int), .map (some mb), vf, .slice ao s.avail.length cap] : Array Value)[j]? := h.cells
  have hlen := fun ty => h.dirty.len ty
  have hfew := h.ok.few
  have hw : IntKind.i64.wrap (120 - (s.dirty.length : Int)) = 120 - (s.dirty.length : Int) := H.wrap_i _ (by omega) (by omega)
  have hwn : IntKind.i64.wrap (x + (n : Int)) = x + (n : Int) := H.wrap_i _ (by have := HX.out; omega) (by have := HX.out; omega)
  have hd0 : decide ((n : Int) > 120 - (s.dirty.length : Int)) = false := by simp; omega
  have CA := hid (among_any h n (by omega))
  have HS := hid h
  have Hr := hid hr
  have Hra := hid hra
  generalize takeD s n = TT at *
  clear hr hra hT h hXm hfew hn
  generalize hdl : s.dirty.length = dl at *
  replace hdl := hid hdl
  go_enter Tryz.func40, Tryz.ntmps40
  go_wp2_with fail
  refine CA.out.mono ?_
  rintro e w1 ⟨c, y, ok, rfl, hcs, ⟨cs, cr, hch⟩, hrun, hb1⟩
  have hF := runF_of hrun
  rw [Hr.out] at hF
  cases ok with
  | false => cases hF
  | true =>
  obtain rfl : y = x := by simpa using hF.symm
  clear hF hrun
  replace hch : w1.heap[c]? = some (.chan 1 #[.int .i64 y] false cs cr false) := hch
  have HB := hid (hb1.grown (grown_setChan w1 c 1 #[] false cs (cr + 1) false) hb1.size (fun r hr => by cases hr; exact hcs))
  replace hch := hid hch
  replace hcs := hid hcs
  clear hb1 hc hlen hd0 hw
  go_upto_region 5 with fail
  refine wp_recv (c := c) (z := .int .i64 0) ?_ hch.out (by simp) ?_
  · simp [go_sem, execOp, rcase, Act.eval]
  simp only [goInt]
  go_simp
  generalize w1.setChan c 1 #[] false cs (cr + 1) false = X at *
  have HS1 := hid (HS.out.below HB.out)
  have hcX : ∀ j, X.cell? ⟨sb, j, none⟩ = (#[.pointer (some ⟨fb, 0, none⟩), .int .i64 (s.last : Int), .int .i64 (s.most : Int), .map (some mb), vf, .slice ao s.avail.length cap] : Array Value)[j]? := HS1.out.cells
  have CD := hid (H.drop_any7 s.avail y (n : Int) ao cap s.avail.length rfl X (Hra.out.below HB.out (Nat.le_refl _)) (by have := HS.out.ok.lenA; omega) HS.out.ok.fitA (by have := HX.out; omega) (by have := HX.out; omega))
  clear hch CA
  go_wp2_with fail
  refine CD.out.mono ?_
  rintro e w2 ⟨u, rfl, hu, hb2⟩
  have HS2 := hid (HS1.out.below hb2)
  have hsl := hu.slice
  have H0 := hid (HS2.out.setAvail hu (HS.out.ok.lessA (H.dropL_up _ _ _ HS.out.ok.upA) (fun z hz => ((H.dropL_mem _ _ _ _).1 hz).1)))
  have HSo : Hid (So sb mb w (w2.setCell ⟨sb, 5, none⟩ u)) := hid ((So.of_below HB.out).trans ((So.of_below hb2).trans (So.cell sb mb 5 w2 u)))
  obtain ⟨uo, uc, rfl⟩ := hsl
  have hc2 : ∀ j, w2.cell? ⟨sb, j, none⟩ = (#[.pointer (some ⟨fb, 0, none⟩), .int .i64 (s.last : Int), .int .i64 (s.most : Int), .map (some mb), vf, .slice ao s.avail.length cap] : Array Value)[j]? := HS2.out.cells
  have hf2 := HS2.out.frozen
  clear hu hb2 CD hcX
  have HC0 : Hid (∀ j, (w2.setCell ⟨sb, 5, none⟩ (.slice uo (dropL s.avail y n).length uc)).cell? ⟨sb, j, none⟩ = (#[.pointer (some ⟨fb, 0, none⟩), .int .i64 (s.last : Int), .int .i64 (s.most : Int), .map (some mb), vf, .slice uo (dropL s.avail y n).length uc] : Array Value)[j]?) := hid H0.out.cells
  have HD0 : Hid (DirtyAt (w2.setCell ⟨sb, 5, none⟩ (.slice uo (dropL s.avail y n).length uc)) mb s.dirty s.sh) := hid H0.out.dirty
  go_upto_region 11 with fail
  generalize w2.setCell ⟨sb, 5, none⟩ (.slice uo (dropL s.avail y n).length uc) = W0 at *
  clear hc2 hf2
  go_wp2
  go_loopg [7] n (fun g id wr => ∃ (k : Nat), k + g = n ∧ id = .int .i64 (y + (k : Int)) ∧ Hid (DirtyAt wr mb (addRun s.dirty y k) (blank s.sh y k)) ∧ Hid (W0.grownBy wr (some mb)))
  case atStart => exact ⟨0, by omega, by simp, HD0, hid (World.grownBy.refl _ _)⟩
  case round =>
    obtain ⟨k, hk, rfl, hD, hG⟩ := hrel
    cases gk with
    | zero =>
      have hke : k = n := by omega
      subst hke
      have hd : decide (y + (k : Int) < y + (k : Int)) = false := by simp
      go_wp2
      go_ret2
      rw [HT.out]
      exact ⟨_, rfl, H0.out.setMap hD.out hG.out HOK.out, HSo.out.trans (.map hG.out)⟩
    | succ g =>
      have hd : decide (y + (k : Int) < y + (n : Int)) = true := by simp; omega
      obtain ⟨w2, hst, hD2, hG2, hsz2⟩ := hD.out.store (addRun_up HUD.out y k) (by have := addRun_le HUD.out y k; have := HLD.out; have := hdl.out; omega) (x := y + (k : Int)) (by have := HX.out; unfold InI; omega) ⟨#[]⟩
      have hck : ∀ j, wr.cell? ⟨sb, j, none⟩ = (#[.pointer (some ⟨fb, 0, none⟩), .int .i64 (s.last : Int), .int .i64 (s.most : Int), .map (some mb), vf, .slice uo (dropL s.avail y n).length uc] : Array Value)[j]? := fun j => (World.cell?_of_block (a := ⟨sb, j, none⟩) (hG.out.block sb H0.out.lt (by have := H0.out.ne; simpa using this))).trans (HC0.out j)
      have hwk : IntKind.i64.wrap (y + (k : Int) + 1) = y + (k : Int) + 1 := H.wrap_i _ (by have := HX.out; omega) (by have := HX.out; omega)
      replace hD2 := hid hD2
      replace hG2 := hid (grown_tr hG.out hG2)
      clear hsz2 hD hG
      go_wp2
      go_roundg g
      case rel => exact ⟨k + 1, by omega, by (simp only [Value.int.injEq, true_and]; omega), hD2, hG2⟩
      case measure => omega
set_option maxRecDepth 10000 in
set_option maxHeartbeats 2000000 in
theorem take_map (h : StoreAt w sb mb fb s vf va) (n : Nat) (hn : ¬ 120 < s.dirty.length + n) (hr : runF s.avail n = none) (hm : s.most < s.last + n) :
    Calls Tryz.prog 40 #[.pointer (some ⟨sb, 0, none⟩), .int .i64 (n : Int)] w fun e w' => e = .returned (.tuple #[.int .i64 0, errV 14]) ∧ Below w.heap.size w w' := by
  have hc : ∀ j, w.cell? ⟨sb, j, none⟩ = (#[.pointer (some ⟨fb, 0, none⟩), .int .i64 (s.last : Int), .int .i64 (s.most : Int), .map (some mb), vf, va] : Array Value)[j]? := h.cells
  have hlen := fun ty => h.dirty.len ty
  have hfew := h.ok.few
  have hl := h.ok.last
  have hmo := h.ok.most
  have hw : IntKind.i64.wrap (120 - (s.dirty.length : Int)) = 120 - (s.dirty.length : Int) := H.wrap_i _ (by omega) (by omega)
  have hd0 : decide ((n : Int) > 120 - (s.dirty.length : Int)) = false := by simp; omega
  have hw2 : IntKind.i64.wrap ((s.most : Int) - (s.last : Int)) = (s.most : Int) - (s.last : Int) := H.wrap_i _ (by omega) (by omega)
  have hd1 : decide ((n : Int) > (s.most : Int) - (s.last : Int)) = true := by simp; omega
  have CA := hid (among_any h n (by omega))
  have HS := hid h
  have Hr := hid hr
  clear hr h hfew hl hmo hn hm
  generalize hdl : s.dirty.length = dl at *
  replace hdl := hid hdl
  go_enter Tryz.func40, Tryz.ntmps40
  go_wp2_with fail
  refine CA.out.mono ?_
  rintro e w1 ⟨c, y, ok, rfl, hcs, ⟨cs, cr, hch⟩, hrun, hb1⟩
  have hF := runF_of hrun
  rw [Hr.out] at hF
  cases ok with
  | true => cases hF
  | false =>
  clear hF hrun
  replace hch : w1.heap[c]? = some (.chan 1 #[] false cs cr false) := hch
  have HB := hid hb1
  replace hch := hid hch
  replace hcs := hid hcs
  have hcX : ∀ j, w1.cell? ⟨sb, j, none⟩ = (#[.pointer (some ⟨fb, 0, none⟩), .int .i64 (s.last : Int), .int .i64 (s.most : Int), .map (some mb), vf, va] : Array Value)[j]? := (HS.out.below hb1).cells
  clear hb1 hc hlen hd0 hw
  go_upto_region 5 with fail
  refine wp_none (c := c) (z := .int .i64 0) ?_ hch.out ?_
  · simp [go_sem, execOp, rcase, Act.eval]
  simp only [goInt]
  go_simp
  go_upto_region 6 with fail
  go_region
  all_goals
    go_wp2
    go_ret2
    exact ⟨rfl, H.below_drew HB.out⟩
set_option maxRecDepth 10000 in
set_option maxHeartbeats 2000000 in
theorem take_end (h : StoreAt w sb mb fb s vf va) (n : Nat) (hn1 : 1 ≤ n) (hn : ¬ 120 < s.dirty.length + n) (hr : runF s.avail n = none) (hm : ¬ s.most < s.last + n) :
    Calls Tryz.prog 40 #[.pointer (some ⟨sb, 0, none⟩), .int .i64 (n : Int)] w fun e w' => ∃ va', e = .returned (.tuple #[.int .i64 (takeD s n).1, errV (takeD s n).2.1]) ∧ StoreAt w' sb mb fb (takeD s n).2.2 vf va' ∧ So sb mb w w' := by
  have hT : takeD s n = ((s.last : Int), 0, madeD { s with last := s.last + n } s.last n) := by simp [takeD, hn, hr, hm]
  have HOK : Hid (StOk (madeD { s with last := s.last + n } s.last n)) := by have := h.ok.take (n := n) hn1; rw [hT] at this; exact this
  have HT := hid hT
  have hl := h.ok.last
  have hmo := h.ok.most
  have HX : Hid (2 ≤ (s.last : Int) ∧ (s.last : Int) ≤ 400 ∧ (n : Int) ≤ 400) := hid (by omega)
  have HUD := hid h.ok.upD
  have HLD : Hid (s.dirty.length + n ≤ 120) := hid (by omega)
  have hc : ∀ j, w.cell? ⟨sb, j, none⟩ = (#[.pointer (some ⟨fb, 0, none⟩), .int .i64 (s.last : Int), .int .i64 (s.most : Int), .map (some mb), vf, va] : Array Value)[j]? := h.cells
  have hlen := fun ty => h.dirty.len ty
  have hfew := h.ok.few
  have hw : IntKind.i64.wrap (120 - (s.dirty.length : Int)) = 120 - (s.dirty.length : Int) := H.wrap_i _ (by omega) (by omega)
  have hwn : IntKind.i64.wrap ((s.last : Int) + (n : Int)) = (s.last : Int) + (n : Int) := H.wrap_i _ (by have := HX.out; omega) (by have := HX.out; omega)
  have hd0 : decide ((n : Int) > 120 - (s.dirty.length : Int)) = false := by simp; omega
  have hw2 : IntKind.i64.wrap ((s.most : Int) - (s.last : Int)) = (s.most : Int) - (s.last : Int) := H.wrap_i _ (by omega) (by omega)
  have hd1 : decide ((n : Int) > (s.most : Int) - (s.last : Int)) = false := by simp; omega
  have CA := hid (among_any h n (by omega))
  have HS := hid h
  have Hr := hid hr
  have HM := hid hm
  generalize takeD s n = TT at *
  clear hr hT h hfew hn hl hmo hm
  generalize hdl : s.dirty.length = dl at *
  replace hdl := hid hdl
  go_enter Tryz.func40, Tryz.ntmps40
  go_wp2_with fail
  refine CA.out.mono ?_
  rintro e w1 ⟨c, y, ok, rfl, hcs, ⟨cs, cr, hch⟩, hrun, hb1⟩
  have hF := runF_of hrun
  rw [Hr.out] at hF
  cases ok with
  | true => cases hF
  | false =>
  clear hF hrun
  replace hch : w1.heap[c]? = some (.chan 1 #[] false cs cr false) := hch
  have HB := hid hb1
  replace hch := hid hch
  replace hcs := hid hcs
  have hcX : ∀ j, w1.cell? ⟨sb, j, none⟩ = (#[.pointer (some ⟨fb, 0, none⟩), .int .i64 (s.last : Int), .int .i64 (s.most : Int), .map (some mb), vf, va] : Array Value)[j]? := (HS.out.below hb1).cells
  clear hb1 hc hlen hd0 hw
  go_upto_region 5 with fail
  refine wp_none (c := c) (z := .int .i64 0) ?_ hch.out ?_
  · simp [go_sem, execOp, rcase, Act.eval]
  simp only [goInt]
  go_simp
  go_upto_region 6 with fail
  go_region
  have HBX := hid (H.below_drew HB.out)
  clear hcX
  generalize w1.drew = X at *
  have HS1 := hid (HS.out.below HBX.out)
  have hcY : ∀ j, X.cell? ⟨sb, j, none⟩ = (#[.pointer (some ⟨fb, 0, none⟩), .int .i64 (s.last : Int), .int .i64 (s.most : Int), .map (some mb), vf, va] : Array Value)[j]? := HS1.out.cells
  have hfX := HS1.out.frozen
  have H0 : Hid (StoreAt (X.setCell ⟨sb, 1, none⟩ (.int .i64 ((s.last : Int) + (n : Int)))) sb mb fb { s with last := s.last + n } vf va) := hid (by have := HS1.out.setLast (n := s.last + n) (HS.out.ok.moreL (by omega) (by have := HM.out; have := HS.out.ok.most; omega)); rw [Int.natCast_add] at this; exact this)
  have HSo : Hid (So sb mb w (X.setCell ⟨sb, 1, none⟩ (.int .i64 ((s.last : Int) + (n : Int))))) := hid ((So.of_below HBX.out).trans (So.cell sb mb 1 X _))
  have HC0 : Hid (∀ j, (X.setCell ⟨sb, 1, none⟩ (.int .i64 ((s.last : Int) + (n : Int)))).cell? ⟨sb, j, none⟩ = (#[.pointer (some ⟨fb, 0, none⟩), .int .i64 ((s.last : Int) + (n : Int)), .int .i64 (s.most : Int), .map (some mb), vf, va] : Array Value)[j]?) := hid (by have := H0.out.cells; simp only [stCells, Int.natCast_add] at this; exact this)
  have HD0 : Hid (DirtyAt (X.setCell ⟨sb, 1, none⟩ (.int .i64 ((s.last : Int) + (n : Int)))) mb s.dirty s.sh) := hid H0.out.dirty
  go_upto_region 11 with fail
  generalize X.setCell ⟨sb, 1, none⟩ (.int .i64 ((s.last : Int) + (n : Int))) = W0 at *
  clear hcY hfX hd1 hw2
  go_wp2
  go_loopg [7] n (fun g id wr => ∃ (k : Nat), k + g = n ∧ id = .int .i64 ((s.last : Int) + (k : Int)) ∧ Hid (DirtyAt wr mb (addRun s.dirty (s.last : Int) k) (blank s.sh (s.last : Int) k)) ∧ Hid (W0.grownBy wr (some mb)))
  case atStart => exact ⟨0, by omega, by simp, HD0, hid (World.grownBy.refl _ _)⟩
  case round =>
    obtain ⟨k, hk, rfl, hD, hG⟩ := hrel
    cases gk with
    | zero =>
      have hke : k = n := by omega
      subst hke
      have hd : decide ((s.last : Int) + (k : Int) < (s.last : Int) + (k : Int)) = false := by simp
      go_wp2
      go_ret2
      rw [HT.out]
      exact ⟨_, rfl, H0.out.setMap hD.out hG.out HOK.out, HSo.out.trans (.map hG.out)⟩
    | succ g =>
      have hd : decide ((s.last : Int) + (k : Int) < (s.last : Int) + (n : Int)) = true := by simp; omega
      obtain ⟨w2, hst, hD2, hG2, hsz2⟩ := hD.out.store (addRun_up HUD.out (s.last : Int) k) (by have := addRun_le HUD.out (s.last : Int) k; have := HLD.out; have := hdl.out; omega) (x := (s.last : Int) + (k : Int)) (by have := HX.out; unfold InI; omega) ⟨#[]⟩
      have hck : ∀ j, wr.cell? ⟨sb, j, none⟩ = (#[.pointer (some ⟨fb, 0, none⟩), .int .i64 ((s.last : Int) + (n : Int)), .int .i64 (s.most : Int), .map (some mb), vf, va] : Array Value)[j]? := fun j => (World.cell?_of_block (a := ⟨sb, j, none⟩) (hG.out.block sb H0.out.lt (by have := H0.out.ne; simpa using this))).trans (HC0.out j)
      have hwk : IntKind.i64.wrap ((s.last : Int) + (k : Int) + 1) = (s.last : Int) + (k : Int) + 1 := H.wrap_i _ (by have := HX.out; omega) (by have := HX.out; omega)
      replace hD2 := hid hD2
      replace hG2 := hid (grown_tr hG.out hG2)
      clear hsz2 hD hG
      go_wp2
      go_roundg g
      case rel => exact ⟨k + 1, by omega, by (simp only [Value.int.injEq, true_and]; omega), hD2, hG2⟩
      case measure => omega
end
end Go.Proofs.YtpionokcabjokaaGreat

namespace Go.Proofs.YtpionokcabjokaaGreat
open Go.RowKit Go.Sort Go.Conc
open H (Up up_ext mergeL dropL Fit RunI RunIs OwnInts RowAt hid)

def runD (s : StD) (n : Int) : Int × Int × StD := if n < 1 then (0, 10, s) else takeD s n.toNat
theorem StOk.run {s : StD} (h : StOk s) (n : Int) : StOk (runD s n).2.2 := by
  unfold runD
  split
  · exact h
  · exact h.take (by omega)
theorem StOk.lessD {s : StD} (h : StOk s) (x : Int) : StOk { s with dirty := dropL s.dirty x 1 } :=
  { h with upD := H.dropL_up _ _ _ h.upD, inD := fun y hy => h.inD y (drop_one_mem.1 hy).1, few := Nat.le_trans (H.dropL_length _ _ _) h.few, noDA := fun y hy => h.noDA y (drop_one_mem.1 hy).1, noDF := fun y hy => h.noDF y (drop_one_mem.1 hy).1 }

theorem wpList_delete_dirty {ops : Array Oper} {rest : List Oper} {o : Oper} {a : Act} {w : World} {Q : Exit → Act → World → Prop} (hg : o.guard = none) (m y : Operand) (t k : TypeId) (ht : t = 83) (hk : k = 3) (hop : o.op = Op.call { callee := Callee.builtin Builtin.delete, args := #[m, y], argTypes := #[t, k] })
    {mb : Nat} {ks : List Int} {sh : Int → ByteArray} {x : Int} (h : DirtyAt w mb ks sh) (hu : Up ks) (hx : InI x) (hm : a.eval m = .map (some mb)) (hy : a.eval y = .int .i64 x)
    (hK : ∀ w', DirtyAt w' mb (dropL ks x 1) sh → w.grownBy w' (some mb) → wpList Tryz.prog ops Q rest (a.put o.dst (.tuple #[])) w') :
    wpList Tryz.prog ops Q (o :: rest) a w := by
  subst ht hk
  refine wpList_plain hg fun K' hK' => ?_
  obtain ⟨w', hrun, r1, r2, r3⟩ := h.drop hu hx o.type
  unfold Oper.wp
  simp [execOp, hop, resolve, invoke, builtin, hm, hy, hrun, Result.andThen]
  exact hK' _ _ (hK w' r1 r2)

section
variable {w : World} {sb mb fb : Nat} {s : StD} {vf va : Value}
theorem takeS_any (h : StoreAt w sb mb fb s vf va) (n : Nat) (hn1 : 1 ≤ n) (hn2 : (n : Int) < 9223372036854775808) :
    Calls Tryz.prog 40 #[.pointer (some ⟨sb, 0, none⟩), .int .i64 (n : Int)] w fun e w' => ∃ va', e = .returned (.tuple #[.int .i64 (takeD s n).1, errV (takeD s n).2.1]) ∧ StoreAt w' sb mb fb (takeD s n).2.2 vf va' ∧ So sb mb w w' := by
  by_cases h1 : 120 < s.dirty.length + n
  · have hT : takeD s n = (0, 17, s) := by simp [takeD, h1]
    rw [hT]
    refine (take_txn h n h1 hn2).mono ?_
    rintro e w' ⟨rfl, rfl⟩
    exact ⟨va, rfl, h, So.refl _ _ _⟩
  cases hr : runF s.avail n with
  | some x => exact take_some h n hn1 h1 x hr
  | none =>
    by_cases hm : s.most < s.last + n
    · have hT : takeD s n = (0, 14, s) := by simp [takeD, h1, hr, hm]
      rw [hT]
      refine (take_map h n h1 hr hm).mono ?_
      rintro e w' ⟨rfl, hb⟩
      exact ⟨va, rfl, h.below hb, So.of_below hb⟩
    · exact take_end h n hn1 h1 hr hm
theorem errV_form (e : Int) : errV e = .nilIface ∨ errV e = .iface 59 (.int .i64 e) := by
  unfold errV
  split
  · exact .inl rfl
  · exact .inr rfl
set_option maxHeartbeats 1000000 in
theorem run_any (h : StoreAt w sb mb fb s vf va) (n : Int) (hn : InI n) :
    Calls Tryz.prog 16 #[.pointer (some ⟨sb, 0, none⟩), .int .i64 n] w fun e w' => ∃ va', e = .returned (.tuple #[.int .i64 (runD s n).1, errV (runD s n).2.1]) ∧ StoreAt w' sb mb fb (runD s n).2.2 vf va' ∧ So sb mb w w' := by
  by_cases h1 : n < 1
  · have hT : runD s n = (0, 10, s) := by simp [runD, h1]
    rw [hT]
    have h := hid h
    have hd : decide (n < 1) = true := by simpa using h1
    clear h1 hn
    go_enter Tryz.func16, Tryz.ntmps16
    go_wp2
    go_ret2
    exact ⟨va, rfl, h.out, So.refl _ _ _⟩
  · obtain ⟨k, rfl⟩ : ∃ k : Nat, n = (k : Int) := ⟨n.toNat, by omega⟩
    have hT : runD s (k : Int) = takeD s k := by simp only [runD, if_neg h1, Int.toNat_natCast]
    rw [hT]
    have C1 := hid (takeS_any h k (by omega) hn.2)
    have hd : decide ((k : Int) < 1) = false := by simpa using h1
    clear h1 hn hT h
    generalize takeD s k = TT at *
    obtain ⟨x, er, s'⟩ := TT
    simp only at C1 ⊢
    rcases errV_form er with he | he
    all_goals
      rw [he] at C1 ⊢
      clear he
      go_enter Tryz.func16, Tryz.ntmps16
      go_wp2_with (go_at_call 40; refine C1.out.mono ?_; rintro e w1 ⟨va', rfl, h1, h2⟩; replace h1 := hid h1; replace h2 := hid h2)
      go_ret2
      exact ⟨va', rfl, h1.out, h2.out⟩

set_option maxRecDepth 10000 in
set_option maxHeartbeats 2000000 in
theorem drop_made (h : StoreAt w sb mb fb s vf va) (x : Int) (hx : InI x) (hm : s.dirty.contains x = true) :
    Calls Tryz.prog 15 #[.pointer (some ⟨sb, 0, none⟩), .int .i64 x] w fun e w' => ∃ vf' va', e = .returned (.tuple #[]) ∧ StoreAt w' sb mb fb (dropD s x) vf' va' ∧ So sb mb w w' := by
  have hT : dropD s x = { s with dirty := dropL s.dirty x 1, avail := mergeL s.avail [x] } := by unfold dropD; rw [if_pos hm]
  have HOK := hid (h.ok.drop x)
  rw [hT] at HOK
  have HT := hid hT
  have C1 := hid (made_any h x hx)
  rw [hm] at C1
  obtain ⟨ao, cap, rfl, -⟩ := h.availRow
  have HS := hid h
  have hla := hid h.ok.lenA
  generalize dropD s x = TT at *
  clear hT h hm
  replace hx := hid hx
  go_enter Tryz.func15, Tryz.ntmps15
  go_wp2_with fail
  refine C1.out.mono ?_
  rintro e w1 ⟨rfl, hb1⟩
  have HS1 := hid (HS.out.below hb1)
  have HSo := hid (So.of_below (sb := sb) (mb := mb) hb1)
  have hc1 : ∀ j, w1.cell? ⟨sb, j, none⟩ = (#[.pointer (some ⟨fb, 0, none⟩), .int .i64 (s.last : Int), .int .i64 (s.most : Int), .map (some mb), vf, .slice ao s.avail.length cap] : Array Value)[j]? := HS1.out.cells
  clear hb1 C1
  go_wp2_with (at_delete; refine wpList_delete_dirty rfl _ _ 83 3 rfl rfl rfl HS1.out.dirty HS.out.ok.upD hx.out rfl rfl ?_; intro w2 hD2 hG2; have HS2 := hid (HS1.out.setMap hD2 hG2 (HS.out.ok.lessD x)); have HSo2 := hid (HSo.out.trans (.map hG2)); have hc2 : ∀ j, w2.cell? ⟨sb, j, none⟩ = (#[.pointer (some ⟨fb, 0, none⟩), .int .i64 (s.last : Int), .int .i64 (s.most : Int), .map (some mb), vf, .slice ao s.avail.length cap] : Array Value)[j]? := HS2.out.cells; clear hD2 hG2 hc1)
  obtain ⟨ao', cap', e1, hra⟩ := HS2.out.availRow
  obtain ⟨rfl, rfl⟩ : ao = ao' ∧ cap = cap' := by simpa using e1
  have C2 := hid (H.with_any7 s.avail x ao cap s.avail.length rfl w2 hra (by have := hla.out; omega))
  clear hra e1
  refine C2.out.mono ?_
  rintro e w3 ⟨u, rfl, hu, hb3⟩
  have HS3 := hid (HS2.out.below hb3)
  have hsl := hu.slice
  have H0 := hid (HS3.out.setAvail hu HOK.out)
  have HSo3 := hid (HSo2.out.trans ((So.of_below hb3).trans (So.cell sb mb 5 w3 u)))
  obtain ⟨uo, uc, rfl⟩ := hsl
  have hc3 : ∀ j, w3.cell? ⟨sb, j, none⟩ = (#[.pointer (some ⟨fb, 0, none⟩), .int .i64 (s.last : Int), .int .i64 (s.most : Int), .map (some mb), vf, .slice ao s.avail.length cap] : Array Value)[j]? := HS3.out.cells
  have hf3 := HS3.out.frozen
  clear hu hb3 C2 hc2
  go_wp2
  go_end0
  rw [HT.out]
  exact ⟨_, _, rfl, H0.out, HSo3.out⟩
set_option maxRecDepth 10000 in
set_option maxHeartbeats 2000000 in
theorem drop_freed (h : StoreAt w sb mb fb s vf va) (x : Int) (hx : InI x) (hm : s.dirty.contains x = false) (h2 : 2 ≤ x) (hl : x < (s.last : Int)) (ha : s.avail.contains x = false) :
    Calls Tryz.prog 15 #[.pointer (some ⟨sb, 0, none⟩), .int .i64 x] w fun e w' => ∃ vf' va', e = .returned (.tuple #[]) ∧ StoreAt w' sb mb fb (dropD s x) vf' va' ∧ So sb mb w w' := by
  have hT : dropD s x = { s with freed := mergeL s.freed [x] } := by unfold dropD; rw [if_neg (by rw [hm]; simp), if_pos ⟨h2, hl, ha⟩]
  have HOK := hid (h.ok.drop x)
  rw [hT] at HOK
  have HT := hid hT
  have C1 := hid (made_any h x hx)
  rw [hm] at C1
  obtain ⟨ao, cap, rfl, hra⟩ := h.availRow
  obtain ⟨fo, fcap, rfl, hrf⟩ := h.freedRow
  have HS := hid h
  have hla := hid h.ok.lenA
  have hlf := hid h.ok.lenF
  have hup := hid h.ok.upA
  have d1 : decide (x ≥ 2) = true := by simpa using h2
  have d2 : decide (x < (s.last : Int)) = true := by simpa using hl
  generalize dropD s x = TT at *
  clear hT h hm h2 hl hx
  replace hra := hid hra
  replace hrf := hid hrf
  replace ha := hid ha
  go_enter Tryz.func15, Tryz.ntmps15
  go_wp2_with fail
  refine C1.out.mono ?_
  rintro e w1 ⟨rfl, hb1⟩
  have HS1 := hid (HS.out.below hb1)
  have HSo := hid (So.of_below (sb := sb) (mb := mb) hb1)
  have hc1 : ∀ j, w1.cell? ⟨sb, j, none⟩ = (#[.pointer (some ⟨fb, 0, none⟩), .int .i64 (s.last : Int), .int .i64 (s.most : Int), .map (some mb), .slice fo s.freed.length fcap, .slice ao s.avail.length cap] : Array Value)[j]? := HS1.out.cells
  have CH := hid (H.has_any7 s.avail x ao cap s.avail.length rfl w1 (hra.out.below hb1 (Nat.le_refl _)) (by have := hla.out; omega) hup.out)
  rw [ha.out] at CH
  replace hb1 := hid hb1
  clear C1
  go_wp2_with fail
  refine CH.out.mono ?_
  rintro e w2 ⟨rfl, hb2⟩
  have HB2 := hid (hb1.out.trans (hb2.mono hb1.out.size))
  have HS2 := hid (HS.out.below HB2.out)
  have HSo2 := hid (So.of_below (sb := sb) (mb := mb) HB2.out)
  have hc2 : ∀ j, w2.cell? ⟨sb, j, none⟩ = (#[.pointer (some ⟨fb, 0, none⟩), .int .i64 (s.last : Int), .int .i64 (s.most : Int), .map (some mb), .slice fo s.freed.length fcap, .slice ao s.avail.length cap] : Array Value)[j]? := HS2.out.cells
  have C2 := hid (H.with_any7 s.freed x fo fcap s.freed.length rfl w2 (hrf.out.below HB2.out (Nat.le_refl _)) (by have := hlf.out; omega))
  clear hb2 hc1 CH
  go_wp2_with fail
  refine C2.out.mono ?_
  rintro e w3 ⟨u, rfl, hu, hb3⟩
  have HS3 := hid (HS2.out.below hb3)
  have hsl := hu.slice
  have H0 := hid (HS3.out.setFreed hu HOK.out)
  have HSo3 := hid (HSo2.out.trans ((So.of_below hb3).trans (So.cell sb mb 4 w3 u)))
  obtain ⟨uo, uc, rfl⟩ := hsl
  have hc3 : ∀ j, w3.cell? ⟨sb, j, none⟩ = (#[.pointer (some ⟨fb, 0, none⟩), .int .i64 (s.last : Int), .int .i64 (s.most : Int), .map (some mb), .slice fo s.freed.length fcap, .slice ao s.avail.length cap] : Array Value)[j]? := HS3.out.cells
  have hf3 := HS3.out.frozen
  clear hu hb3 C2 hc2
  go_wp2
  go_end0
  rw [HT.out]
  exact ⟨_, _, rfl, H0.out, HSo3.out⟩
set_option maxRecDepth 10000 in
set_option maxHeartbeats 2000000 in
theorem drop_no (h : StoreAt w sb mb fb s vf va) (x : Int) (hx : InI x) (hm : s.dirty.contains x = false) (hno : ¬ (2 ≤ x ∧ x < (s.last : Int) ∧ s.avail.contains x = false)) :
    Calls Tryz.prog 15 #[.pointer (some ⟨sb, 0, none⟩), .int .i64 x] w fun e w' => ∃ vf' va', e = .returned (.tuple #[]) ∧ StoreAt w' sb mb fb (dropD s x) vf' va' ∧ So sb mb w w' := by
  have hT : dropD s x = s := by unfold dropD; rw [if_neg (by rw [hm]; simp), if_neg hno]
  have C1 := hid (made_any h x hx)
  rw [hm] at C1
  rw [hT]
  obtain ⟨ao, cap, rfl, hra⟩ := h.availRow
  have HS := hid h
  have hla := hid h.ok.lenA
  have hup := hid h.ok.upA
  clear hT h hm hx
  replace hra := hid hra
  replace hno := hid hno
  go_enter Tryz.func15, Tryz.ntmps15
  go_wp2_with fail
  refine C1.out.mono ?_
  rintro e w1 ⟨rfl, hb1⟩
  have HS1 := hid (HS.out.below hb1)
  have HSo := hid (So.of_below (sb := sb) (mb := mb) hb1)
  have hc1 : ∀ j, w1.cell? ⟨sb, j, none⟩ = (#[.pointer (some ⟨fb, 0, none⟩), .int .i64 (s.last : Int), .int .i64 (s.most : Int), .map (some mb), vf, .slice ao s.avail.length cap] : Array Value)[j]? := HS1.out.cells
  have CH := hid (H.has_any7 s.avail x ao cap s.avail.length rfl w1 (hra.out.below hb1 (Nat.le_refl _)) (by have := hla.out; omega) hup.out)
  replace hb1 := hid hb1
  clear C1
  by_cases h2 : 2 ≤ x
  · have d1 : decide (x ≥ 2) = true := by simpa using h2
    by_cases hl : x < (s.last : Int)
    · have d2 : decide (x < (s.last : Int)) = true := by simpa using hl
      have ha : s.avail.contains x = true := by
        cases hc : s.avail.contains x
        · exact absurd ⟨h2, hl, hc⟩ hno.out
        · rfl
      rw [ha] at CH
      clear h2 hl ha
      go_wp2_with fail
      refine CH.out.mono ?_
      rintro e w2 ⟨rfl, hb2⟩
      have HB2 := hid (hb1.out.trans (hb2.mono hb1.out.size))
      clear hb2 hc1 CH
      go_wp2
      go_end0
      exact ⟨_, _, rfl, HS.out.below HB2.out, So.of_below HB2.out⟩
    · have d2 : decide (x < (s.last : Int)) = false := by simpa using hl
      clear h2 hl CH
      go_wp2
      go_end0
      exact ⟨_, _, rfl, HS1.out, HSo.out⟩
  · have d1 : decide (x ≥ 2) = false := by simpa using h2
    clear h2 CH
    go_wp2
    go_end0
    exact ⟨_, _, rfl, HS1.out, HSo.out⟩
theorem drop_any (h : StoreAt w sb mb fb s vf va) (x : Int) (hx : InI x) :
    Calls Tryz.prog 15 #[.pointer (some ⟨sb, 0, none⟩), .int .i64 x] w fun e w' => ∃ vf' va', e = .returned (.tuple #[]) ∧ StoreAt w' sb mb fb (dropD s x) vf' va' ∧ So sb mb w w' := by
  cases hm : s.dirty.contains x with
  | true => exact drop_made h x hx hm
  | false =>
    by_cases hno : 2 ≤ x ∧ x < (s.last : Int) ∧ s.avail.contains x = false
    · exact drop_freed h x hx hm hno.1 hno.2.1 hno.2.2
    · exact drop_no h x hx hm hno
end
end Go.Proofs.YtpionokcabjokaaGreat

namespace Go.Proofs.YtpionokcabjokaaGreat
open Go.RowKit Go.Sort Go.Conc
open H (Up up_ext mergeL dropL Fit RunI RunIs OwnInts RowAt hid)

def inR (e x : Int) : Bool := decide (2 ≤ x ∧ x < e)
theorem siftL_eq (l : List Int) (e : Int) : siftL l e = (sortL l).filter (inR e) := rfl
theorem filter_take {p : Int → Bool} (C : List Int) (k : Nat) (hk : k < C.length) : (C.take (k + 1)).filter p = if p (C.getD k 0) then (C.take k).filter p ++ [C.getD k 0] else (C.take k).filter p := by
  have e1 : C.getD k 0 = C[k] := by simp [List.getD, hk]
  rw [List.take_succ_eq_append_getElem hk, List.filter_append, e1]
  cases hp : p C[k] <;> simp [hp]
theorem filter_end {e : Int} {C : List Int} (hu : Up C) (k : Nat) (hk : k < C.length) (hx : e ≤ C.getD k 0) : (C.take k).filter (inR e) = C.filter (inR e) := by
  have h1 : C.filter (inR e) = (C.take k).filter (inR e) ++ (C.drop k).filter (inR e) := by rw [← List.filter_append, List.take_append_drop]
  have h2 : (C.drop k).filter (inR e) = [] := by
    rw [List.filter_eq_nil_iff]
    intro y hy
    obtain ⟨i, hi, rfl⟩ := List.getElem_of_mem hy
    have hi2 : k + i < C.length := by simp at hi; omega
    have e2 : (C.drop k)[i] = C.getD (k + i) 0 := by simp [List.getD, hi2]
    have h3 : C.getD k 0 ≤ C.getD (k + i) 0 := by
      rcases Nat.eq_zero_or_pos i with h0 | h0
      · subst h0; exact Int.le_refl _
      · exact Int.le_of_lt (H.up_get hu (by omega) hi2)
    rw [e2]
    simp only [inR, decide_eq_true_eq]
    omega
  rw [h1, h2, List.append_nil]

set_option maxRecDepth 10000 in
set_option maxHeartbeats 2000000 in
theorem sift_any (l : List Int) (ao : Option Addr) (cap : Nat) (e : Int) (w : World) (h : RowAt w ao cap l) (hl : l.length ≤ 1000) :
    Calls Tryz.prog 37 #[.slice ao l.length cap, .int .i64 e] w fun r w' => ∃ u, r = .returned u ∧ OwnInts w' w.heap.size u (siftL l e) ∧ Below w.heap.size w w' := by
  obtain ⟨i0, hi, hz0, hz1, hz2⟩ := info_parts H.Tryz.infoInt
  have C1 := hid (clone_row l ao cap w h hl)
  have HCU := hid (sortL_is l).1
  have HCL := hid (sortL_length l)
  have HM : Hid (siftL l e = (sortL l).filter (inR e)) := rfl
  have HSL : Hid (Lib.compact (l.mergeSort fun x y => decide (x ≤ y)) = sortL l) := rfl
  replace hl := hid hl
  clear h
  generalize siftL l e = S at *
  go_enter Tryz.func37, Tryz.ntmps37
  go_wp2
  go_step3
  go_wp2_with fail
  refine C1.out.mono ?_
  rintro r w1 ⟨u1, rfl, h1, b1⟩
  have C2 := hid (sort_row w1 _ u1 l h1 hl.out)
  have hsl := h1.slice
  have B1 := hid b1
  have O1 := hid h1
  clear h1 b1 C1
  obtain ⟨uo, uc, rfl⟩ := hsl
  go_wp2_with fail
  refine C2.out.mono ?_
  rintro r w2 ⟨rfl, h2, g2⟩
  have B2 := hid (O1.out.after B1.out B1.out.size g2)
  have C3 := hid (compact_row w2 _ _ _ h2 (by simpa using hl.out))
  have O2 := hid h2
  clear h2 g2 C2
  rw [HSL.out] at C3
  go_wp2_with fail
  go_step3
  go_wp2_with fail
  refine C3.out.mono ?_
  rintro r w3 ⟨co, cc, rfl, h3, g3⟩
  have B3 := hid (O2.out.after B2.out B2.out.size g3)
  clear g3 C3
  have HC := hid h3
  clear h3
  have hClen : Hid ((sortL l).length ≤ 1000) := hid (by have := HCL.out; have := hl.out; omega)
  clear HCL HSL hl O1 O2
  generalize sortL l = C at *
  go_wp2
  go_loopg [6, 16] C.length (fun g vr j wr => ∃ (k : Nat) (R : List Int) (ro : Option Addr) (cr : Nat), k + g = C.length ∧ vr = .slice ro R.length cr ∧ j = .int .i64 (k : Int) ∧ R.length ≤ k ∧ Hid (OwnInts wr w3.heap.size (.slice ro R.length cr) R) ∧ Hid ((C.take k).filter (inR e) = R) ∧ Hid (Below w3.heap.size w3 wr))
  case atStart => exact ⟨0, [], none, 0, by omega, rfl, rfl, by simp, hid (OwnInts.nil _ _), hid (by simp), hid (Below.refl _ _)⟩
  case round =>
    obtain ⟨k, R, ro, cr, hk, rfl, rfl, hlen, hR, hF, hbel⟩ := hrel
    cases gk with
    | zero =>
      have hke : k = C.length := by omega
      subst hke
      have hF2 := hF.out
      rw [List.take_length, ← HM.out] at hF2
      replace hF2 := hid hF2
      clear hF
      go_wp2
      rw [Exit.noGoto_ret]
      go_ret
      refine ⟨_, rfl, ?_, B3.out.trans (hbel.out.mono B3.out.size)⟩
      rw [hF2.out]
      exact hR.out.mono B3.out.size
    | succ g =>
      have hkl : k < C.length := by omega
      have hkb : k < 1000 := by have := hClen.out; omega
      obtain ⟨pa, hx, hc, hpa⟩ := HC.out.get k hkl
      have hcell : wr.cell? pa = some (Value.int .i64 (C.getD k 0)) := (hbel.out.cell (p := pa) hpa).trans hc
      have hM2 := filter_take (p := inR e) C k hkl
      rw [hF.out] at hM2
      have hE := filter_end HCU.out k hkl (e := e)
      rw [hF.out] at hE
      generalize C.getD k 0 = y at *
      clear hc hpa hF
      have hsz := hbel.out.size
      by_cases h2 : y < 2
      · have hp : inR e y = false := by simp [inR]; omega
        rw [hp] at hM2
        replace hM2 := hid hM2
        have d1 : decide (y < 2) = true := by simpa using h2
        clear hE h2 hp
        go_wp2
        go_roundg g
        case rel => exact ⟨k + 1, R, ro, cr, by omega, rfl, by go_num, by omega, hR, hM2, hbel⟩
        case measure => omega
      · have d1 : decide (y < 2) = false := by simpa using h2
        by_cases he : y ≥ e
        · have d2 : decide (y ≥ e) = true := by simpa using he
          have hE2 := hid ((hE he).trans HM.out.symm)
          clear hE hM2 h2 he
          go_wp2
          rw [Exit.noGoto_ret]
          go_ret
          refine ⟨_, rfl, ?_, B3.out.trans (hbel.out.mono B3.out.size)⟩
          rw [← hE2.out]
          exact hR.out.mono B3.out.size
        · have d2 : decide (y ≥ e) = false := by simpa using he
          have hp : inR e y = true := by simp [inR]; omega
          rw [hp] at hM2
          replace hM2 := hid hM2
          have bA := hid (hbel.out.alloc hsz (.cells #[.int .i64 y] 3))
          have A1 := hid (H.append_one i0 hi hz0 hz1 hz2 (w0 := w3) _ R y (hR.out.alloc (.cells #[.int .i64 y] 3)) _ (H.heap_newL _ _) bA.out (by simp; omega) (by have := hClen.out; omega))
          clear hE h2 he hp
          go_wp2_with (first
            | (at_builtin; refine H.wpList_append_any rfl (.tmp 27) (.tmp 29) 23 rfl _ _ rfl rfl (A1.out _) ?_; rintro v1 w4 ⟨⟨ra, rc, rfl⟩, h1, b1⟩; replace h1 := hid h1; replace b1 := hid b1)
            | fail)
          go_roundg g
          case rel => exact ⟨k + 1, R ++ [y], ra, rc, by omega, by simp, by go_num, by simp; omega, by simpa using h1, hM2, b1⟩
          case measure => omega
/-- Held from 2 to MaxPages. -/
def heldN (x : Int) : Nat := (min (max x 2) 400).toNat
theorem heldN_eq (x : Int) : min (max x 2) 400 = (heldN x : Int) := by unfold heldN; omega
theorem heldN_in (x : Int) : 2 ≤ heldN x ∧ heldN x ≤ 400 := by unfold heldN; omega
def newD (last most : Int) (l : List Int) : StD := ⟨heldN last, heldN most, [], fun _ => ⟨#[]⟩, [], siftL l (min (heldN last : Int) (heldN most : Int))⟩
theorem newD_ok (last most : Int) (l : List Int) : StOk (newD last most l) := by
  have h1 := heldN_in last
  have h2 := heldN_in most
  exact { last := h1, most := h2, upD := H.up_nil, upF := H.up_nil, upA := siftL_up _ _, inD := by simp [newD], inF := by simp [newD], inA := fun x hx => by have := (siftL_mem _ _ _).1 hx; simp only [newD]; omega, few := by simp [newD], noDA := by simp [newD], noDF := by simp [newD], noAF := by simp [newD], small := by simp [newD, ByteArray.size] }
theorem own_nil (w : World) (B : Nat) : OwnInts w B (.slice none 0 0) [] := OwnInts.nil w B
set_option maxRecDepth 10000 in
set_option maxHeartbeats 2000000 in
theorem snew_any (fb : Nat) (last most : Int) (l : List Int) (ao : Option Addr) (cap : Nat) (w : World) (h : RowAt w ao cap l) (hl : l.length ≤ 1000) :
    Calls Tryz.prog 10 #[.pointer (some ⟨fb, 0, none⟩), .int .i64 last, .int .i64 most, .slice ao l.length cap] w fun r w' => ∃ sb mb va, r = .returned (.pointer (some ⟨sb, 0, none⟩)) ∧ StoreAt w' sb mb fb (newD last most l) (.slice none 0 0) va ∧ w.heap.size ≤ sb ∧ w.heap.size ≤ mb ∧ Below w.heap.size w w' := by
  have HO := hid (newD_ok last most l)
  have hN : newD last most l = ⟨heldN last, heldN most, [], fun _ => ⟨#[]⟩, [], siftL l (min (heldN last : Int) (heldN most : Int))⟩ := rfl
  have e1 := heldN_eq last
  have e2 := heldN_eq most
  have C1 := fun W => held_any last W
  have C2 := fun W => held_any most W
  simp only [e1] at C1
  simp only [e2] at C2
  replace C1 := hid C1
  replace C2 := hid C2
  generalize heldN last = L at *
  generalize heldN most = M at *
  have hmin := fun ats ty => minInt ats ty (L : Int) (M : Int)
  generalize min (L : Int) (M : Int) = E at *
  have bA := (Below.refl w.heap.size w).alloc (Nat.le_refl _) (.map #[] 0)
  have C3 := hid (sift_any l ao cap E _ (h.below bA (Nat.le_refl _)) hl)
  have HD := hid (dirty_made w (fun _ => ⟨#[]⟩))
  replace bA := hid bA
  have hsz : w.heap.size < (w.alloc (.map #[] 0)).heap.size := by simp
  replace hsz := hid hsz
  have hmm := @run_makeMap Tryz.prog
  replace hN := hid hN
  generalize newD last most l = N at *
  generalize siftL l E = S at *
  clear e1 e2 h hl
  go_enter Tryz.func10, Tryz.ntmps10
  go_wp2_with fail
  refine (C1.out _).mono ?_
  rintro r w1 ⟨rfl, hw1⟩
  rw [hw1]
  clear hw1
  go_wp2_with fail
  refine (C2.out _).mono ?_
  rintro r w1 ⟨rfl, hw1⟩
  rw [hw1]
  clear hw1
  go_wp2_with fail
  refine C3.out.mono ?_
  rintro r w2 ⟨u, rfl, hu, hb⟩
  have hsl := hu.slice
  have HU := hid hu
  have HD2 := hid (HD.out.kept (hb.block _ hsz.out))
  have HB2 := hid (bA.out.trans (hb.mono (Nat.le_of_lt hsz.out)))
  have hsz2 : Hid (w.heap.size < w2.heap.size) := hid (by have := hb.size; have := hsz.out; omega)
  clear hu hb C3 hmin hmm
  obtain ⟨uo, uc, rfl⟩ := hsl
  go_wp2
  go_ret
  refine ⟨w2.heap.size, w.heap.size, .slice uo S.length uc, rfl, ?_, Nat.le_of_lt hsz2.out, Nat.le_refl _, HB2.out.alloc (Nat.le_of_lt hsz2.out) _⟩
  have hN2 := hN.out
  subst hN2
  exact ⟨H.heap_newL _ _, HD2.out.kept (Below.heap_alloc _ _ _ HD2.out.lt), own_nil _ _, (HU.out.mono (Nat.zero_le _)).alloc _, HO.out⟩
end Go.Proofs.YtpionokcabjokaaGreat

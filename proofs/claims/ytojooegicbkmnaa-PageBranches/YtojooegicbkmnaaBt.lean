/- PageBranches, walked. -/
import Derived.Test.YtojooegicbkmnaaBr
import Derived.Deep.DeepCutAuto
namespace Go.Proofs.Ytojooegicbkmnaa
open Go.RowKit Go.Sort

section
variable {P : Program} {w : World}
theorem wp_append_any {o : Oper} {a : Act} {K : Act → World → Prop} {Q : Exit → Act → World → Prop} (s x : Operand) (t : TypeId) (ho : o.op = .call { callee := .builtin .append, args := #[s, x], argTypes := #[t, t] })
    (v u : Value) (hs : a.eval s = v) (hx : a.eval x = u) {R : Value → World → Prop} (h : ∃ v' w', (Builtin.append_ #[t, t] o.type #[v, u]).run P w = .ok v' w' ∧ R v' w') (hK : ∀ v' w', R v' w' → K (a.put o.dst v') w') : o.wp P a w K Q := by
  obtain ⟨v', w', hrun, hR⟩ := h
  unfold Oper.wp
  simp [execOp, ho, resolve, invoke, builtin, hs, hx, hrun, Result.andThen]
  exact hK _ _ hR
theorem wpList_append_any {ops : Array Oper} {rest : List Oper} {o : Oper} {a : Act} {Q : Exit → Act → World → Prop} (hgd : o.guard = none) (s x : Operand) (t : TypeId) (ho : o.op = .call { callee := .builtin .append, args := #[s, x], argTypes := #[t, t] })
    (v u : Value) (hs : a.eval s = v) (hx : a.eval x = u) {R : Value → World → Prop} (h : ∃ v' w', (Builtin.append_ #[t, t] o.type #[v, u]).run P w = .ok v' w' ∧ R v' w') (hK : ∀ v' w', R v' w' → wpList P ops Q rest (a.put o.dst v') w') : wpList P ops Q (o :: rest) a w :=
  wpList_plain hgd fun _ hh => wp_append_any s x t ho v u hs hx h fun v' w' hR => hh _ _ (hK v' w' hR)
theorem step_append_any {ops : Array Oper} {o : Oper} {a : Act} {K : Act → World → Prop} {Q : Exit → Act → World → Prop} {E : Prop} (hgd : o.guard = none) (s x : Operand) (t : TypeId) (ho : o.op = .call { callee := .builtin .append, args := #[s, x], argTypes := #[t, t] })
    (v u : Value) (hs : a.eval s = v) (hx : a.eval x = u) {R : Value → World → Prop} (h : ∃ v' w', (Builtin.append_ #[t, t] o.type #[v, u]).run P w = .ok v' w' ∧ R v' w') (hK : ∀ v' w', R v' w' → K (a.put o.dst v') w') :
    if Region.wanted o (yielded ops a.tmps) = true then Oper.wp P o a w K Q else E := by
  have hw : Region.wanted o (yielded ops a.tmps) = true := by simp [Region.wanted, hgd]
  rw [if_pos hw]
  exact wp_append_any s x t ho v u hs hx h hK
end
/-- One byte as a string. -/
theorem conv_one (W : World) (g : Nat) (c : UInt8) (h : W.cell? ⟨g, 0, none⟩ = some (.int .u8 (c.toNat : Int))) : (convert 34 9 (.slice (some ⟨g, 0, none⟩) 1 1)).run Try.prog W = .ok (.string (bs [c])) W :=
  run_convert_bytes_back W 34 9 5 ⟨g, 0, none⟩ 1 [c] Try.underlying34 Try.underlying5 Try.underlying9 (fun j hj => by
    have : j = 0 := by simpa using hj
    subst this
    simpa [Addr.add] using h)
theorem keyN_size (k : Nat) : (keyN k).size ≤ 65535 := by simp [keyN, bs_size]
theorem heap_new2 (w : World) (o1 o2 : Obj) : ((w.alloc o1).alloc o2).heap[w.heap.size + 1]? = some o2 := by
  have := heap_newL (w.alloc o1) o2
  simpa only [World.size_alloc] using this
theorem heap_old2 (w : World) (o1 o2 : Obj) : ((w.alloc o1).alloc o2).heap[w.heap.size]? = some o1 :=
  (Below.heap_alloc _ _ _ (by simp)).trans (heap_newL w o1)
theorem Br.forms {w Y : World} {B : Nat} {vk vd uk ud : Value} {ks : List ByteArray} {ds : List Int} (h : Br w B Y vk vd uk ud ks ds) : ∃ ao c bo d, uk = .slice ao ks.length c ∧ ud = .slice bo ds.length d := by
  have f1 : ∃ ao c, uk = .slice ao ks.length c := by
    rcases h.keys.1.2 with ⟨rfl, h0⟩ | ⟨g, cap, cur, rfl, _⟩
    · exact ⟨none, 0, by rw [h0]⟩
    · exact ⟨_, _, rfl⟩
  have f2 : ∃ ao c, ud = .slice ao ds.length c := by
    rcases h.kids.1.2 with ⟨rfl, h0⟩ | ⟨g, cap, cur, rfl, _⟩
    · exact ⟨none, 0, by rw [h0]⟩
    · exact ⟨_, _, rfl⟩
  obtain ⟨a, b, e⟩ := f1
  obtain ⟨c, d, f⟩ := f2
  exact ⟨a, b, c, d, e, f⟩

theorem Br.next {w Y Y' : World} {B : Nat} {vk vd uk ud : Value} {ks : List ByteArray} {ds : List Int} (h : Br w B Y vk vd uk ud ks ds) (hb : Below Y.heap.size Y Y') : Br w B Y' vk vd uk ud ks ds := by
  have hs := h.size
  exact ⟨(hb.block B (by omega)).trans h.pg, h.below.trans (hb.mono (by omega)), by have := hb.size; omega, ⟨ownsB_block h.keys.1 (fun b cs fr hh => hb.block b (ltB_of_heap hh)), h.keys.2⟩, ⟨ownsB_block h.kids.1 (fun b cs fr hh => hb.block b (ltB_of_heap hh)), h.kids.2⟩⟩
def brA (uk ud : Value) : Value := .agg #[.int .i64 2, .slice none 0 0, uk, ud, .string ⟨#[]⟩, .slice none 0 0, .slice none 0 0, .int .i64 0, .int .u64 0, .int .i64 0, .int .i64 0, .int .i64 0, .int .i64 0, .int .i64 0]
theorem br_is {w Y : World} {B : Nat} {uk ud : Value} {ks : List ByteArray} {ds : List Int} (h : Br w B Y uk ud uk ud ks ds) (g : Bool) (hg : isPB (brP ks ds) = g) : Calls Try.prog 5 #[brA uk ud] Y fun e w' => e = .returned (.bool g) ∧ Br w B w' uk ud uk ud ks ds := by
  subst hg
  exact (is_any (brP ks ds) (.slice none 0 0) uk ud (.slice none 0 0) (.slice none 0 0) Y h.hangs).mono fun e w' ⟨he, hb⟩ => ⟨he, h.next hb⟩
theorem br_bytes {w Y : World} {B : Nat} {uk ud : Value} {ks : List ByteArray} {ds : List Int} (h : Br w B Y uk ud uk ud ks ds) (g : Bool) (hg : isPB (brP ks ds) = g) : Calls Try.prog 6 #[brA uk ud] Y fun e w' => ∃ s : ByteArray, e = .returned (.string s) ∧ (s.toList == []) = !g ∧ Br w B w' uk ud uk ud ks ds := by
  refine (bytes_any (brP ks ds) (.slice none 0 0) uk ud (.slice none 0 0) (.slice none 0 0) Y h.hangs (brP_txn _ _)).mono fun e w' ⟨he, hb⟩ => ⟨_, he, ?_, h.next hb⟩
  rw [ByteArray.toList_eq, bs_list]
  cases g
  · simp [bytesD, hg]
  · have := bytes_some _ hg
    cases hq : bytesD (brP ks ds) with
    | nil => rw [hq] at this; simp at this
    | cons x l => rfl

set_option maxRecDepth 100000 in
set_option maxHeartbeats 16000000 in
theorem branches_law (n q : Int) (t : Bool) (w : World) (h0 : 0 ≤ n) (_h1 : n < 256) (h2 : 0 ≤ q) (_h3 : q < 256) :
    Calls Try.prog 3 #[.int .u8 n, .int .u8 q, .bool t] w fun e w' => e = .returned (.bool true) ∧ Below w.heap.size w w' := by
  obtain ⟨a, ha⟩ : ∃ a : Nat, n % 7 = (a : Int) := ⟨(n % 7).toNat, by omega⟩
  obtain ⟨m, hm⟩ : ∃ m : Nat, q % 3 = (m : Int) := ⟨(q % 3).toNat, by omega⟩
  have ha7 : a < 7 := by omega
  have hm3 : m < 3 := by omega
  have hat : n.tmod 7 = (a : Int) := by rw [Int.tmod_eq_emod_of_nonneg h0]; exact ha
  have hmt : q.tmod 3 = (m : Int) := by rw [Int.tmod_eq_emod_of_nonneg h2]; exact hm
  clear ha hm
  go_enter Try.func3, Try.ntmps3
  go_wp2_with fail
  refine (known_any _).mono ?_
  rintro e w1 ⟨rfl, hb1⟩
  have hL0 : Br w1 w1.heap.size (w1.alloc (.cells (brCs (.slice none 0 0) (.slice none 0 0)) 33)) (.slice none 0 0) (.slice none 0 0) (.slice none 0 0) (.slice none 0 0) (keysB 0) (upFrom 2 0) := ⟨heap_newL _ _, (Below.refl _ _).alloc (Nat.le_refl _) _, by simp, ownStrs_nil _ _, ownInts_nil _ _⟩
  unfold brCs at hL0
  replace hL0 := hid hL0
  have hbs := hb1.size
  replace hb1 := hid hb1
  go_wp2
  generalize w1.alloc (.cells #[.int .i64 2, .slice none 0 0, .slice none 0 0, .slice none 0 0, .string ⟨#[]⟩, .slice none 0 0, .slice none 0 0, .int .i64 0, .int .u64 0, .int .i64 0, .int .i64 0, .int .i64 0, .int .i64 0, .int .i64 0] 33) = W1 at *
  generalize hBd : w1.heap.size = B at *
  replace hBd := hid hBd
  go_loopg [9] a (fun g i wr => ∃ (k : Nat) (vk vd : Value), k + g = a ∧ i = .int .i64 k ∧ Hid (Br w1 B wr vk vd vk vd (keysB k) (upFrom 2 k)))
  case atStart => exact ⟨0, _, _, by omega, rfl, hL0⟩
  case round =>
    obtain ⟨k, vk, vd, hk, rfl, hI⟩ := hrel
    clear hL0
    obtain ⟨ko, kc, bo, dc, rfl, rfl⟩ := hI.out.forms
    rw [keysB_length, upFrom_length] at hI
    have hsz := hI.out.size
    cases gk with
    | succ g =>
      have hlk : k < a := by omega
      go_upto_region 8 with fail
      go_cut [] (fun wc => ∃ g5 c5 g7 c7, Hid (Br w1 B wc (.slice (some ⟨g7, 0, none⟩) (k + 1) c7) (.slice (some ⟨g5, 0, none⟩) (k + 1) c5) (.slice (some ⟨g7, 0, none⟩) (k + 1) c7) (.slice (some ⟨g5, 0, none⟩) (k + 1) c5) (keysB k ++ [⟨#[]⟩]) (upFrom 2 (k + 1))))
      case first =>
        have pA := hid (fun o => (hI.out.alloc o).drew)
        have pB := hid (fun o o' => ((hI.out.alloc o).alloc o').drew)
        have cX := cell_rowL hI.out.pg
        unfold brCs at cX
        have cX2 := cX 2
        have cX3 := cX 3
        have cXo : ∀ o, (wr.alloc o).cell? ⟨B, 2, none⟩ = some (.slice ko k kc) ∧ (wr.alloc o).cell? ⟨B, 3, none⟩ = some (.slice bo k dc) := fun o => ⟨cell_rowL (hI.out.alloc o).pg 2, cell_rowL (hI.out.alloc o).pg 3⟩
        have cXoo : ∀ o o', ((wr.alloc o).alloc o').cell? ⟨B, 2, none⟩ = some (.slice ko k kc) ∧ ((wr.alloc o).alloc o').cell? ⟨B, 3, none⟩ = some (.slice bo k dc) := fun o o' => ⟨cell_rowL ((hI.out.alloc o).alloc o').pg 2, cell_rowL ((hI.out.alloc o).alloc o').pg 3⟩
        have hl1 : (upFrom 2 k).length ≤ 999 := by rw [upFrom_length]; omega
        have hl2 : (keysB k).length ≤ 999 := by rw [keysB_length]; omega
        have HU := hid (upFrom_succ 2 k)
        have hw2 : IntKind.i64.wrap (2 + (k : Int)) = 2 + (k : Int) := by rw [IntKind.wrap_i64]; omega
        have hul := hid (upFrom_length 2 k)
        have hkl := hid (keysB_length k)
        simp only [List.getElem?_toArray, List.getElem?_cons_zero, List.getElem?_cons_succ] at cX2 cX3
        clear cX
        go_region_law (first
          | (refine step_append_any rfl (.tmp 23) (.tmp 26) 25 rfl _ _ rfl rfl (Br.kidsApp (by first | exact pA.out _ | exact pB.out _ _) (2 + (k : Int)) _ (by first | exact heap_newL wr _ | exact heap_old2 wr _ _ | exact heap_new2 wr _ _) hl1 _) ?_; rintro v5 w5 ⟨h5, ⟨g5, c5, hv5⟩, kS⟩; rw [hul.out] at hv5; subst hv5; rw [← HU.out] at h5; have d2 := cell_rowL h5.pg 2; have d3 : ∀ o, (w5.alloc o).cell? ⟨B, 2, none⟩ = some (.slice ko k kc) := fun o => cell_rowL (h5.alloc o).pg 2; replace h5 := hid h5; replace kS := hid kS; unfold brCs at d2; simp only [List.getElem?_toArray, List.getElem?_cons_zero, List.getElem?_cons_succ] at d2)
          | (refine step_append_any rfl (.tmp 29) (.tmp 30) 24 rfl _ _ rfl rfl (Br.keysApp (by first | exact h5.out | exact h5.out.alloc _) ⟨#[]⟩ _ (by first | exact heap_newL w5 _ | exact kS.out _ _ _ (heap_old2 wr _ _) | exact kS.out _ _ _ (heap_new2 wr _ _)) hl2 (by decide) _) ?_; rintro v7 w7 ⟨h7, ⟨g7, c7, hv7⟩⟩; rw [hkl.out] at hv7; subst hv7; have e2 := cell_rowL h7.pg 2; have e3 := cell_rowL h7.pg 3; have ef := frozen_rowL h7.pg; replace h7 := hid h7; unfold brCs at e2 e3; simp only [List.getElem?_toArray, List.getElem?_cons_zero, List.getElem?_cons_succ] at e2 e3; clear d2 d3 kS))
        all_goals (try go_wp2_with fail)
        all_goals go_meet
        all_goals exact ⟨g5, c5, g7, c7, hid h7.out.setKids.setKeys⟩
      case rest =>
        obtain ⟨g5, c5, g7, c7, hJ⟩ := hcut
        clear hI
        by_cases hk0 : k = 0
        · subst hk0
          go_wp2
          go_roundg g
          case rel => exact ⟨1, _, _, by omega, by go_num, hJ⟩
          case measure => omega
        · have hk1 : 0 < k := by omega
          have cX2 := cell_rowL hJ.out.pg 2
          unfold brCs at cX2
          simp only [List.getElem?_toArray, List.getElem?_cons_zero, List.getElem?_cons_succ] at cX2
          have hlen : k + 1 = (keysB k ++ [(⟨#[]⟩ : ByteArray)]).length := by rw [List.length_append, keysB_length]; rfl
          have hkey := hJ.out.keys.1
          rw [← hlen] at hkey
          obtain ⟨hgB, cur, hgh⟩ := own_block hkey
          have hcell := hkey.cellAt k (by omega)
          have hgt : (strCellsL (keysB k ++ [(⟨#[]⟩ : ByteArray)]))[k]? = some (Value.string ⟨#[]⟩) := by
            simp only [strCellsL, List.map_append]
            rw [List.getElem?_append_right (by simp [keysB_length])]
            simp [keysB_length]
          rw [hgt] at hcell
          have hfz := hkey.frozenAt k
          have hgne : g7 < wc.heap.size := ltB_of_heap hgh
          have hix := atStrs (a := ⟨g7, 0, none⟩) (k + 1) c7 k rfl (by omega)
          rw [Addr.add_mid, Nat.zero_add] at hix
          have hc8 : ((UInt8.ofNat (97 + k)).toNat : Int) = 97 + (k : Int) := by
            rw [UInt8.toNat_ofNat', Nat.mod_eq_of_lt (by omega)]
            omega
          have hcv : (convert 34 9 (.slice (some ⟨wc.heap.size, 0, none⟩) 1 1)).run Try.prog (wc.alloc (.cells #[.int .u8 (97 + (k : Int))] 5)) = .ok (.string (bs [UInt8.ofNat (97 + k)])) (wc.alloc (.cells #[.int .u8 (97 + (k : Int))] 5)) := by
            refine conv_one _ _ _ ?_
            rw [hc8]
            exact (cell_rowL (heap_newL wc (.cells #[.int .u8 (97 + (k : Int))] 5)) 0).trans rfl
          have hkn : (⟨#[107]⟩ : ByteArray) ++ bs [UInt8.ofNat (97 + k)] = keyN k := bs_append [107] [UInt8.ofNat (97 + k)]
          have hz1' : (bs [UInt8.ofNat (97 + k)]).size = 1 := by rw [bs_size]; rfl
          have HN := ((hJ.out.key hlen k (keyN k) (keyN_size k)).alloc (.cells #[.int .u8 (97 + (k : Int))] 5))
          have hset : (keysB k ++ [(⟨#[]⟩ : ByteArray)]).set k (keyN k) = keysB (k + 1) := by
            rw [keysB_succ, List.set_append_right _ _ (by rw [keysB_length]; exact Nat.le_refl _), keysB_length, Nat.sub_self, List.set_cons_zero, keyB, if_neg hk0]
          rw [hset] at HN
          replace HN := hid HN
          clear hc8 hset hkey hlen hgt hJ
          generalize UInt8.ofNat (97 + k) = ch at *
          generalize bs [ch] = chs at *
          generalize keyN k = KEY at *
          go_wp2
          go_roundg g
          case rel => exact ⟨k + 1, _, _, by omega, by go_num, HN⟩
          case measure => omega
    | zero =>
      have hke : k = a := by omega
      subst hke
      go_upto_region 11 with fail
      go_cut [10] (fun s wc => s = .bool (decide (2 ≤ k) && decide (k ≤ 4)) ∧ wc = wr)
      case first =>
        by_cases g2 : 2 ≤ k
        · by_cases g4 : k ≤ 4
          · have e : (decide (2 ≤ k) && decide (k ≤ 4)) = true := by simp [g2, g4]
            replace e := hid e
            go_wp2_with fail
            go_meet
            case rel => exact ⟨by first | (rw [e.out]; done) | (rw [e.out]; simp; done) | (rw [e.out]; simp; omega), rfl⟩
          · have e : (decide (2 ≤ k) && decide (k ≤ 4)) = false := by simp [g2, g4]
            replace e := hid e
            go_wp2_with fail
            go_meet
            case rel => exact ⟨by first | (rw [e.out]; done) | (rw [e.out]; simp; done) | (rw [e.out]; simp; omega), rfl⟩
        · have e : (decide (2 ≤ k) && decide (k ≤ 4)) = false := by simp [g2]
          replace e := hid e
          go_wp2_with fail
          go_meet
          case rel => exact ⟨by first | (rw [e.out]; done) | (rw [e.out]; simp; done) | (rw [e.out]; simp; omega), rfl⟩
      case rest =>
        obtain ⟨rfl, rfl⟩ := hcut
        go_upto_if 54 with fail
        have hI2 : Hid (Br w1 B wc (.slice ko k kc) (.slice bo k dc) (.slice ko k kc) (.slice bo k dc) (keysB k) (upFrom 2 k)) := hI
        clear hI
        go_cut [10] (fun s wd => ∃ vk vd, s = .bool (G1 k m) ∧ Hid (Br w1 B wd vk vd vk vd (K1 k m) (D1 k m)))
        case first =>
          have cX2 := cell_rowL hI2.out.pg 2
          have cX3 := cell_rowL hI2.out.pg 3
          have fX := frozen_rowL hI2.out.pg
          unfold brCs at cX2 cX3
          simp only [List.getElem?_toArray, List.getElem?_cons_zero, List.getElem?_cons_succ] at cX2 cX3
          have hszc := hI2.out.size
          have hm : m = 0 ∨ m = 1 ∨ m = 2 := by omega
          rcases hm with rfl | rfl | rfl
          · have e1 : G1 k 0 = (decide (2 ≤ k) && decide (k ≤ 4)) := by simp [G1]
            have e2 : K1 k 0 = keysB k := rfl
            have e3 : D1 k 0 = upFrom 2 k := rfl
            rw [← e2, ← e3] at hI2
            replace e1 := hid e1
            go_wp2_with fail
            go_meet
            case rel => exact ⟨_, _, by rw [e1.out], hI2⟩
          · have e1 : G1 k 1 = false := by simp [G1]
            have hl2 : (keysB k).length ≤ 999 := by rw [keysB_length]; omega
            have A := hid (fun ty => (hI2.out.alloc (.cells #[.string zzB] 9)).keysApp zzB wc.heap.size (heap_newL wc _) hl2 (by decide) ty)
            unfold zzB at A
            replace e1 := hid e1
            go_wp2_with (first
              | (at_builtin; refine wpList_append_any rfl (.tmp 56) (.tmp 57) 24 rfl _ _ rfl rfl (A.out _) ?_; rintro v7 w7 ⟨h7, ⟨g7, c7, hv7⟩⟩; rw [keysB_length] at hv7; subst hv7; have e2 := cell_rowL h7.pg 2; have ef := frozen_rowL h7.pg; replace h7 := hid h7; unfold brCs at e2; simp only [List.getElem?_toArray, List.getElem?_cons_zero, List.getElem?_cons_succ] at e2)
              | fail)
            go_meet
            case rel => exact ⟨_, _, by rw [e1.out], hid h7.out.setKeys⟩
          · by_cases hk0 : 0 < k
            · have e1 : G1 k 2 = false := by simp [G1, hk0]
              obtain ⟨g0, rfl⟩ : ∃ g0, bo = some ⟨g0, 0, none⟩ := by
                rcases hI2.out.kids.1.2 with ⟨hv, h0⟩ | ⟨g, cap', cur, hv, _⟩
                · rw [upFrom_length] at h0; omega
                · simp only [Value.slice.injEq] at hv
                  exact ⟨g, hv.1⟩
              have hkid := hI2.out.kids.1
              rw [upFrom_length] at hkid
              have hcell := hkid.cellAt 0 (by omega)
              rw [List.getElem?_eq_getElem (by simp [intCells, upFrom_length]; omega)] at hcell
              have hfz := hkid.frozenAt 0
              have hix := atInts (a := ⟨g0, 0, none⟩) k dc 0 rfl hk0
              rw [Addr.add_mid, Nat.zero_add] at hix
              simp only [Int.natCast_zero] at hix
              have HN := hI2.out.kid (by rw [upFrom_length]) 0 1
              have e3 : D1 k 2 = (upFrom 2 k).set 0 1 := by simp [D1, hk0]
              have e4 : K1 k 2 = keysB k := rfl
              rw [← e3, ← e4] at HN
              replace HN := hid HN
              replace e1 := hid e1
              clear hkid hI2
              generalize (intCells (upFrom 2 k))[0]'(by simp [intCells, upFrom_length]; omega) = y at hcell
              go_wp2_with fail
              go_meet
              case rel => exact ⟨_, _, by rw [e1.out], HN⟩
            · have e1 : G1 k 2 = (decide (2 ≤ k) && decide (k ≤ 4)) := by
                have : ¬ 2 ≤ k := by omega
                simp [G1, this]
              have e3 : D1 k 2 = upFrom 2 k := by simp [D1, hk0]
              have e4 : K1 k 2 = keysB k := rfl
              rw [← e3, ← e4] at hI2
              replace e1 := hid e1
              go_wp2_with fail
              go_meet
              case rel => exact ⟨_, _, by rw [e1.out], hI2⟩
        case rest =>
          obtain ⟨vk, vd, rfl, hI3⟩ := hcut
          clear hI2
          obtain ⟨ao, kn, bo', dn, rfl, rfl⟩ := hI3.out.forms
          obtain ⟨kl, hkl⟩ : ∃ kl, (K1 k m).length = kl := ⟨_, rfl⟩
          rw [hkl] at hI3
          generalize (D1 k m).length = dl at *
          by_cases htk : t = true ∧ 0 < k
          · obtain ⟨rfl, hk0⟩ := htk
            have hkl0 : 0 < kl := by rw [← hkl]; unfold K1; split <;> simp [keysB_length] <;> omega
            have e1 : G2 k m true = false := by simp [G2, hk0]
            have e2 : K2 k m true = (K1 k m).set 0 aB := by simp [K2, hk0]
            have hIS := hid (is_br k ha7 m hm3 true)
            rw [e1] at hIS
            have cX2 := cell_rowL hI3.out.pg 2
            unfold brCs at cX2
            simp only [List.getElem?_toArray, List.getElem?_cons_zero, List.getElem?_cons_succ] at cX2
            obtain ⟨g0, rfl⟩ : ∃ g0, ao = some ⟨g0, 0, none⟩ := by
              rcases hI3.out.keys.1.2 with ⟨hv, h0⟩ | ⟨g, cap', cur, hv, _⟩
              · omega
              · simp only [Value.slice.injEq] at hv
                exact ⟨g, hv.1⟩
            have hkey := hI3.out.keys.1
            rw [hkl] at hkey
            have hcell := hkey.cellAt 0 (by omega)
            rw [List.getElem?_eq_getElem (by simp [strCellsL]; omega)] at hcell
            have hfz := hkey.frozenAt 0
            have hix := atStrs (a := ⟨g0, 0, none⟩) kl kn 0 rfl hkl0
            rw [Addr.add_mid, Nat.zero_add] at hix
            simp only [Int.natCast_zero] at hix
            have HN := hI3.out.key hkl.symm 0 aB (by decide)
            rw [← e2] at HN
            unfold aB at HN
            replace HN := hid HN
            replace hkl := hid hkl
            clear hkey hI3 e2 e1
            obtain ⟨y, hcell⟩ : ∃ y, wc.cell? ⟨g0, 0, none⟩ = some y := ⟨_, hcell⟩
            have hpg := cell_rowL HN.out.pg
            unfold brCs at hpg
            have HA := hid (br_is HN.out _ hIS.out)
            unfold brA at HA
            go_wp2_with fail
            refine HA.out.mono ?_
            rintro e w5 ⟨rfl, h5⟩
            have hp5 := cell_rowL h5.pg
            unfold brCs at hp5
            have HB := hid (br_bytes h5 _ hIS.out)
            unfold brA at HB
            clear h5 hpg HA
            go_wp2_with fail
            refine HB.out.mono ?_
            rintro e w6 ⟨sq, rfl, hsq, h6⟩
            have HE := hid (hb1.out.trans (h6.below.mono (by have := hBd.out; omega)))
            clear h6 HB hp5
            first | rw [Bool.not_true] at hsq | rw [Bool.not_false] at hsq
            go_wp2
            go_ret
            exact ⟨rfl, HE.out⟩
          · have e1 : G2 k m t = G1 k m := by
              cases t
              · simp [G2]
              · have : ¬ 0 < k := fun h => htk ⟨rfl, h⟩
                simp [G2, this]
            have e2 : K2 k m t = K1 k m := by unfold K2; rw [if_neg htk]
            have hIS := hid (is_br k ha7 m hm3 t)
            rw [e1] at hIS
            rw [← e2] at hI3
            have HN := hI3
            replace hkl := hid hkl
            clear e2 hI3 e1
            generalize G1 k m = G at *
            cases t
            · cases G
              all_goals
                have hpg := cell_rowL HN.out.pg
                unfold brCs at hpg
                have HA := hid (br_is HN.out _ hIS.out)
                unfold brA at HA
                go_wp2_with fail
                refine HA.out.mono ?_
                rintro e w5 ⟨rfl, h5⟩
                have hp5 := cell_rowL h5.pg
                unfold brCs at hp5
                have HB := hid (br_bytes h5 _ hIS.out)
                unfold brA at HB
                clear h5 hpg HA
                go_wp2_with fail
                refine HB.out.mono ?_
                rintro e w6 ⟨sq, rfl, hsq, h6⟩
                have HE := hid (hb1.out.trans (h6.below.mono (by have := hBd.out; omega)))
                clear h6 HB hp5
                first | rw [Bool.not_true] at hsq | rw [Bool.not_false] at hsq
                go_wp2
                go_ret
                exact ⟨rfl, HE.out⟩
            · have hk0 : ¬ 0 < k := fun h => htk ⟨rfl, h⟩
              clear htk
              cases G
              all_goals
                have hpg := cell_rowL HN.out.pg
                unfold brCs at hpg
                have HA := hid (br_is HN.out _ hIS.out)
                unfold brA at HA
                go_wp2_with fail
                refine HA.out.mono ?_
                rintro e w5 ⟨rfl, h5⟩
                have hp5 := cell_rowL h5.pg
                unfold brCs at hp5
                have HB := hid (br_bytes h5 _ hIS.out)
                unfold brA at HB
                clear h5 hpg HA
                go_wp2_with fail
                refine HB.out.mono ?_
                rintro e w6 ⟨sq, rfl, hsq, h6⟩
                have HE := hid (hb1.out.trans (h6.below.mono (by have := hBd.out; omega)))
                clear h6 HB hp5
                first | rw [Bool.not_true] at hsq | rw [Bool.not_false] at hsq
                go_wp2
                go_ret
                exact ⟨rfl, HE.out⟩
end Go.Proofs.Ytojooegicbkmnaa

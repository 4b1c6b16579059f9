/- Contract of the inner method take of package pack: fields of given widths are taken from the front of a Cut, all of them or none. -/
import Derived.Test.YtgnmjdcmaahlnaaWb
import Derived.Deep.LoopGhost
namespace Go.Proofs.Ytgnmjdcmaahlnaa
open Go.RowKit
theorem take_succ_cells (l : List UInt8) (a m : Nat) (h : a + m < l.length) : cellsOf ((l.drop a).take (m + 1)) = cellsOf ((l.drop a).take m) ++ [.int .u8 (l[a + m].toNat : Int)] := by
  rw [List.take_succ_eq_append_getElem (by simp; omega)]
  simp [cellsOf]

theorem fieldOf_length (l : List UInt8) (wd : Nat → Nat) (k : Nat) (h : atOf wd k + wd k ≤ l.length) : (fieldOf l wd (k + 1)).length = wd k := by
  simp [fieldOf]
  omega

theorem atOf_mono (wd : Nat → Nat) (i : Nat) : ∀ d, atOf wd i ≤ atOf wd (i + d)
  | 0 => Nat.le_refl _
  | d + 1 => Nat.le_trans (atOf_mono wd i d) (Nat.le_add_right _ _)

/-- Bytes have lacked: it is told. -/
theorem cut_short {w : World} {b rb : Nat} {l : List UInt8} {sh : Bool} (h : CutAt w b rb l sh) : CutAt (w.setCell ⟨b, 1, none⟩ (.bool true)) b rb l true := by
  obtain ⟨h1, h2, ao, cap, h3, h4, h5, h6⟩ := h
  have hr : (w.setCell ⟨b, 1, none⟩ (.bool true)).heap[rb]? = w.heap[rb]? := Below.heap_setCell _ _ _ _ (by simpa using fun e => h1 e.symm)
  refine ⟨h1, by simpa [World.setCell] using h2, ao, cap, ?_, h4, h5, ?_⟩
  · rw [heap_setCell_same w b 1 _ _ _ h3]
    rfl
  · rcases h6 with h6 | ⟨o, ho, hc⟩
    · exact .inl h6
    · exact .inr ⟨o, ho, fun j hj => (World.cell?_of_block (a := ⟨rb, o + j, none⟩) hr).trans (hc j hj)⟩

/-- n bytes are taken. -/
theorem cut_taken {w : World} {b rb n cap : Nat} {l : List UInt8} {sh : Bool} {ao : Option Addr} (hn : n ≤ l.length) (h1 : b ≠ rb) (h2 : rb < w.heap.size)
    (h3 : w.heap[b]? = some (.cells #[.slice ao l.length cap, .bool sh] 124 (0, 0))) (h4 : l.length ≤ cap) (h5 : cap ≤ maxLen)
    (h6 : l = [] ∨ ∃ o, ao = some ⟨rb, o, none⟩ ∧ ∀ j (h : j < l.length), w.cell? ⟨rb, o + j, none⟩ = some (.int .u8 (l[j].toNat : Int))) (ao' : Option Addr) (cap' : Nat) (hcap : cap' = cap - n) (hao : cap ≠ n → ao' = ao.map (·.add n)) :
    CutAt (w.setCell ⟨b, 0, none⟩ (.slice ao' (l.length - n) cap')) b rb (l.drop n) sh := by
  subst hcap
  have hr : (w.setCell ⟨b, 0, none⟩ (.slice ao' (l.length - n) (cap - n))).heap[rb]? = w.heap[rb]? := Below.heap_setCell _ _ _ _ (by simpa using fun e => h1 e.symm)
  refine ⟨h1, by simpa [World.setCell] using h2, ao', cap - n, ?_, by simp; omega, by omega, ?_⟩
  · rw [heap_setCell_same w b 0 _ _ _ h3]
    simp
  · rcases h6 with h6 | ⟨o, ho, hc⟩
    · exact .inl (by simp [h6])
    · by_cases e : cap = n
      · exact .inl (List.drop_eq_nil_of_le (by omega))
      · refine .inr ⟨o + n, by rw [hao e, ho]; simp [Addr.add], fun j hj => ?_⟩
        have hj' : n + j < l.length := by simp at hj; omega
        rw [World.cell?_of_block (a := ⟨rb, o + n + j, none⟩) hr, Nat.add_assoc, hc (n + j) hj']
        simp

/-- What 'take' leaves: the bytes f, and n bytes fewer in the Cut; or nothing, where bytes lack or have lacked. -/
def Took (w w' : World) (b rb : Nat) (l : List UInt8) (sh : Bool) (n : Nat) (f : List UInt8) (e : Ending) : Prop :=
  w.grownBy w' (some b) ∧
    ((n ≤ l.length ∧ sh = false ∧ ∃ v, e = .returned v ∧ w'.ownsRow w.heap.size 5 1 v f.length (cellsOf f) ∧ CutAt w' b rb (l.drop n) false) ∨
     ((l.length < n ∨ sh = true) ∧ e = .returned (.slice none 0 0) ∧ CutAt w' b rb l true))
theorem took_some {w w' : World} {b rb : Nat} {l : List UInt8} {n : Nat} {f : List UInt8} {v : Value} (h : w.grownBy w' (some b)) (hn : n ≤ l.length) (ho : w'.ownsRow w.heap.size 5 1 v f.length (cellsOf f)) (hc : CutAt w' b rb (l.drop n) false) :
    Took w w' b rb l false n f (.returned v) := ⟨h, .inl ⟨hn, rfl, v, rfl, ho, hc⟩⟩
theorem took_none {w w' : World} {b rb : Nat} {l : List UInt8} {sh : Bool} {n : Nat} {f : List UInt8} (h : w.grownBy w' (some b)) (hn : l.length < n ∨ sh = true) (hc : CutAt w' b rb l true) :
    Took w w' b rb l sh n f (.returned (.slice none 0 0)) := ⟨h, .inr ⟨hn, rfl, hc⟩⟩

/-- An owned row stays owned behind a store into another block. -/
theorem own_setCell {w : World} {base b o : Nat} {v u : Value} {n : Nat} {xs : List Value} (h : w.ownsRow base 5 1 v n xs) (hb : b < base) : (w.setCell ⟨b, o, none⟩ u).ownsRow base 5 1 v n xs :=
  ownsRow_setCell_below h hb u

set_option maxHeartbeats 1000000 in
set_option maxRecDepth 10000 in
theorem take_any (b rb wb : Nat) (l : List UInt8) (sh : Bool) (ws : List Int) (wd : Nat → Nat) (w : World)
    (hcut : CutAt w b rb l sh) (hnw : ws.length ≤ 2) (hwb : wb < w.heap.size)
    (hws : ∀ i (h : i < ws.length), w.cell? ⟨wb, i, none⟩ = some (.int .i64 ws[i]))
    (hwd : ∀ i (h : i < ws.length), wd i ≤ 65535 ∧ (ws[i] = wd i ∨ (ws[i] = -1 ∧ (fieldOf l wd i).length ≤ 8 ∧ (atOf wd i ≤ l.length → leN (fieldOf l wd i) = wd i)))) :
    Calls Try.prog 71 #[.pointer (some ⟨b, 0, none⟩), .slice (some ⟨wb, 0, none⟩) ws.length ws.length] w fun e w' => Took w w' b rb l sh (atOf wd ws.length) (fieldOf l wd ws.length) e := by
  have HCUT : Hid (CutAt w b rb l sh) := hcut
  obtain ⟨hne, hrb, ao, cap, hblk, hlc, hcm, hbytes⟩ := hcut
  have hbN := lt_of_heap hblk
  obtain ⟨i0, hi, hz0, hz1, hz2⟩ := info_parts Try.info5
  have HWS : Hid _ := hws
  have HWD : Hid _ := hwd
  have HBY : Hid _ := hbytes
  have HBK : Hid _ := hblk
  have HCM : Hid _ := hcm
  clear hws hwd hbytes hblk
  unfold maxLen at hcm
  go_enter Try.func71, Try.ntmps71
  go_wp2
  go_step3
  go_wp2
  go_step3
  go_wp2
  go_loopg [5, 6, 11] ws.length (fun g v a i wr => ∃ k : Nat, k + g = ws.length ∧ i = .int .i64 k ∧ a = .int .i64 (atOf wd k) ∧ atOf wd k ≤ l.length ∧ wr.ownsRow w.heap.size 5 1 v (fieldOf l wd k).length (cellsOf (fieldOf l wd k)) ∧ Below w.heap.size w wr)
  case atStart => exact ⟨0, by omega, rfl, rfl, Nat.zero_le _, World.ownsRow_nil _ _ _ _, Below.refl _ _⟩
  case round =>
    obtain ⟨k, hk, rfl, rfl, hal, hown, hbel⟩ := hrel
    cases gk with
    | succ g =>
      have hlt : k < ws.length := by omega
      have hcw : wr.cell? ⟨wb, k, none⟩ = some (.int .i64 ws[k]) := (hbel.cell (p := ⟨wb, k, none⟩) hwb).trans (HWS.out k hlt)
      obtain ⟨hw1, hw2⟩ := HWD.out k hlt
      obtain ⟨v0, hsl, hown0, hvb⟩ := own_cut0 hown
      have hown1 : wr.ownsRow w.heap.size 5 1 v0 0 (cellsOf ((l.drop (atOf wd k)).take 0)) := hown0
      have HVB : Hid _ := hvb
      clear hvb hown0
      rcases hw2 with hw2 | ⟨hw2, hw3, hw4⟩
      all_goals (rw [hw2] at hcw; clear hw2)
      focus go_wp2
      rotate_left
      focus
        have HN : Hid (Calls Try.prog 70 #[u5] wr fun e w' => e = .returned (.int .u64 (wd k : Int)) ∧ w' = wr) := by
          have hn := number_any _ _ _ _ hw3 hown
          rw [hw4 hal] at hn
          exact hn
        clear hw4
        go_wp2_with fail
        refine (Calls.mono HN.out) ?_
        rintro e w2 ⟨rfl, rfl⟩
        clear HN
        go_wp2
      all_goals
        clear hcw hsl hown
        go_loopg [5, 6, 23] (wd k) (fun g2 v a i wq => ∃ m : Nat, m + g2 = wd k ∧ i = .int .i64 m ∧ a = .int .i64 ((atOf wd k : Int) + (m : Int)) ∧ atOf wd k + m ≤ l.length ∧ wq.ownsRow w.heap.size 5 1 v m (cellsOf ((l.drop (atOf wd k)).take m)) ∧ Below w.heap.size w wq)
        case atStart => exact ⟨0, by omega, rfl, by go_num, hal, hown1, hbel⟩
        case round =>
          obtain ⟨m, hm, rfl, rfl, ham, hownm, hbelm⟩ := hrel
          clear hown1 hbel
          have hblk1 := (hbelm.block b hbN).trans HBK.out
          obtain ⟨hc0, hc1, hf0, hf1⟩ := cells_cut hblk1
          clear hblk1
          cases gk with
          | zero =>
            have hme : m = wd k := by omega
            subst hme
            go_wp2
            go_roundg g
            case measure => omega
            case rel =>
              have hfl := fieldOf_length l wd k ham
              exact ⟨k + 1, by omega, by go_num, by simp only [atOf]; go_num, ham, by rw [hfl]; exact hownm, hbelm⟩
          | succ g2 =>
            by_cases hend : atOf wd k + m = l.length
            · have HSH : Hid _ := cut_short (HCUT.out.below hbelm hbN hrb)
              go_wp2
              rw [Exit.noGoto_ret]
              go_ret
              refine took_none (grown_of_below hbelm rfl (grown_setCell _ _ _ _)) (.inl ?_) HSH.out
              have h1 := atOf_mono wd (k + 1) (ws.length - (k + 1))
              rw [show k + 1 + (ws.length - (k + 1)) = ws.length by omega] at h1
              simp only [atOf] at h1
              omega
            · have hlt2 : atOf wd k + m < l.length := by omega
              have hnn : ¬ l = [] := by intro e; subst e; simp at hlt2
              obtain ⟨o, hao, hby⟩ := HBY.out.resolve_left hnn
              have hcb : wr.cell? ⟨rb, o + (atOf wd k + m), none⟩ = some (.int .u8 (l[atOf wd k + m].toNat : Int)) := (hbelm.cell (p := ⟨rb, o + (atOf wd k + m), none⟩) hrb).trans (hby _ hlt2)
              rw [hao] at hc0
              have HT : Hid _ := take_succ_cells l (atOf wd k) m hlt2
              clear hao hby hnn
              go_wp2_with (at_builtin; refine wpList_append_own _ rfl _ _ 109 rfl w.heap.size 5 i0 (.int .u8 0) 1 1 Try.underlying109 hi hz0 hz1 hz2 rfl (by decide) _ _ _ rfl (hownm.alloc _) ⟨wr.heap.size, 0, none⟩ 1 1 [.int .u8 (l[atOf wd k + m].toNat : Int)] rfl rfl (cell_one_new _ _ _) (fun x hx => by simp at hx; subst hx; rfl) (by unfold maxLen; omega) (by omega) (by have := hbelm.size; simp; omega) ?_)
              intro v' w3 hown' hgrow _
              rw [← HT.out] at hown'
              have hbel3 : Below w.heap.size w w3 := (hbelm.alloc hbelm.size _).grown hgrow (by have := hbelm.size; simp; omega) (fun q hq => (hownm.lt q hq).1)
              clear hgrow hownm HT hcb hc0 hc1 hf0 hf1
              go_wp2
              go_roundg g2
              case measure => omega
              case rel => exact ⟨m + 1, by omega, by go_num, by go_num, by omega, hown', hbel3⟩
    | zero =>
      have hke : k = ws.length := by omega
      subst hke
      have hblk1 := (hbel.block b hbN).trans HBK.out
      obtain ⟨hc0, hc1, hf0, hf1⟩ := cells_cut hblk1
      have HB1 : Hid _ := hblk1
      clear hblk1
      cases sh with
      | true =>
        go_wp2
        rw [Exit.noGoto_ret]
        go_ret
        exact took_none (grown_of_below hbel rfl ⟨rfl, rfl, rfl, Nat.le_refl _, fun _ _ _ => rfl⟩) (.inr rfl) (HCUT.out.below hbel hbN hrb)
      | false =>
        have HBY1 : Hid (l = [] ∨ ∃ o, ao = some ⟨rb, o, none⟩ ∧ ∀ j (h : j < l.length), wr.cell? ⟨rb, o + j, none⟩ = some (.int .u8 (l[j].toNat : Int))) := by
          rcases HBY.out with h | ⟨o, ho, hc⟩
          · exact .inl h
          · exact .inr ⟨o, ho, fun j hj => (hbel.cell (p := ⟨rb, o + j, none⟩) hrb).trans (hc j hj)⟩
        have hszr := hbel.size
        by_cases hce : cap = atOf wd ws.length
        all_goals
          go_wp2
          rw [Exit.noGoto_ret]
          go_ret
          refine took_some (grown_of_below hbel rfl (grown_setCell _ _ _ _)) hal (own_setCell hown hbN) (cut_taken hal hne (by omega) HB1.out hlc HCM.out HBY1.out _ _ (by omega) (fun h => ?_))
          first | rfl | exact absurd hce h
end Go.Proofs.Ytgnmjdcmaahlnaa

/- MetaLater, all cases together. -/
import Derived.Test.YtgnmjdcmaahlnaaTl
namespace Go.Proofs.Ytgnmjdcmaahlnaa
open Go.RowKit Go.Sort

theorem size_nil : (⟨#[]⟩ : ByteArray).size ≤ maxLen := by decide
theorem sent_nil (k : Int) : sentL (⟨#[]⟩ : ByteArray).data.toList k = [] := sent_not (by simp) k
theorem later_law (m n : MetaD) (k : Int) (w : World) (hm : MOk m) (hn : MOk n) (hk0 : 0 ≤ k) (hk1 : k < 256) :
    Calls Try.prog 3 #[metaA m, metaA n, .int .u8 k] w fun e w' => e = .returned (.bool true) ∧ Below w.heap.size w w' := by
  have HX := fun W => metaBytes_any m W hm
  have HY := fun W => metaBytes_any n W hn
  cases im : isM m
  · refine later_x (metaB m) (metaB n) _ _ _ _ _ _ _ _ _ _ _ _ k w hk0 hk1 hm.1 hm.2 hn.1 hn.2 HX HY ?_
    rw [metaB_none im]
    exact eq_nil
  have lX := metaB_len im
  have eX := ne_nil lX
  cases jn : isM n
  · refine later_y (metaB m) (metaB n) _ _ _ _ _ _ _ _ _ _ _ _ k w hk0 hk1 hm.1 hm.2 hn.1 hn.2 HX HY eX ?_
    rw [metaB_none jn]
    exact eq_nil
  have lY := metaB_len jn
  have eY := ne_nil lY
  have zX := size64 im
  have zY := size64 jn
  have s0 := sent_meta im hm
  have s1 := sent_meta jn hn
  by_cases hp : m.txn % 2 = 0
  · by_cases hq : n.txn % 2 = 1
    · have hmn : ∀ a b : ByteArray, a.data.toList = metaB m → b.data.toList = metaB n → chooseL a.data.toList b.data.toList = [m, n] := by
        intro a b ha hb
        rw [ha, hb, chooseL, s0, s1, if_pos hp, if_pos hq]
        rfl
      have hk3 : k % 3 = 0 ∨ k % 3 = 1 ∨ k % 3 = 2 := by omega
      have e64 : (bs (metaB m)).size = 64 := by rw [bs_size, lX]
      have f64 : (bs (metaB n)).size = 64 := by rw [bs_size, lY]
      have zX1 : ((bs (metaB m)).extract 1 64).size = 63 := by rw [ByteArray.size_extract, e64]; omega
      have sX1 : sentL ((bs (metaB m)).extract 1 64).data.toList 0 = [] := by
        refine sent_not ?_ 0
        have : ((bs (metaB m)).extract 1 64).data.toList.length = ((bs (metaB m)).extract 1 64).size := Array.length_toList
        omega
      have eZ : bs (metaB n) ++ ⟨#[122]⟩ = bs (metaB n ++ [122]) := bs_append (metaB n) [122]
      have sY1 : sentL (bs (metaB n) ++ ⟨#[122]⟩).data.toList 1 = [] := by
        rw [eZ, bs_list]
        exact sent_not (by simp [lY]) 1
      have zY1 : (bs (metaB n) ++ ⟨#[122]⟩).size ≤ maxLen := by rw [eZ, bs_size]; simp [lY]; unfold maxLen; omega
      have zX2 : ((bs (metaB m)).extract 1 64).size ≤ maxLen := by rw [zX1]; unfold maxLen; omega
      have H1 := fun W => chose (l := [n]) (m := n) (t := true) W zX2 zY (by rw [chooseL, sX1, bs_list, s1, if_pos hq]; rfl) rfl
      have H2 := fun W => chose (l := [m]) (m := m) (t := true) W zX zY1 (by rw [chooseL, sY1, bs_list, s0, if_pos hp]; rfl) rfl
      by_cases hlt : m.txn < n.txn
      · have H0 := fun W => chose (l := [m, n]) (m := n) (t := true) W zX zY (hmn _ _ (bs_list _) (bs_list _)) (pick_two hlt)
        rcases hk3 with h | h | h
        · exact later_0a (metaB m) (metaB n) _ _ _ _ _ _ _ _ _ _ _ _ k w hk0 hk1 hm.1 hm.2 hn.1 hn.2 HX HY eX eY e64 f64 hp hq h hlt H0
        · exact later_1a (metaB m) (metaB n) _ _ _ _ _ _ _ _ _ _ _ _ k w hk0 hk1 hm.1 hm.2 hn.1 hn.2 HX HY eX eY e64 f64 hp hq h hlt H1
        · exact later_2a (metaB m) (metaB n) _ _ _ _ _ _ _ _ _ _ _ _ k w hk0 hk1 hm.1 hm.2 hn.1 hn.2 HX HY eX eY e64 f64 hp hq h hlt H2
      · have H0 := fun W => chose (l := [m, n]) (m := m) (t := true) W zX zY (hmn _ _ (bs_list _) (bs_list _)) (pick_two' hlt)
        rcases hk3 with h | h | h
        · exact later_0b (metaB m) (metaB n) _ _ _ _ _ _ _ _ _ _ _ _ k w hk0 hk1 hm.1 hm.2 hn.1 hn.2 HX HY eX eY e64 f64 hp hq h hlt H0
        · exact later_1b (metaB m) (metaB n) _ _ _ _ _ _ _ _ _ _ _ _ k w hk0 hk1 hm.1 hm.2 hn.1 hn.2 HX HY eX eY e64 f64 hp hq h hlt H1
        · exact later_2b (metaB m) (metaB n) _ _ _ _ _ _ _ _ _ _ _ _ k w hk0 hk1 hm.1 hm.2 hn.1 hn.2 HX HY eX eY e64 f64 hp hq h hlt H2
    · exact later_even (metaB m) (metaB n) _ _ _ _ _ _ _ _ _ _ _ _ k w hk0 hk1 hm.1 hm.2 hn.1 hn.2 HX HY eX eY hp hq
        (fun W => chose (l := []) (m := noMeta) (t := false) W size_nil zY (by rw [chooseL, sent_nil, bs_list, s1, if_neg hq]; rfl) rfl)
  · have h1 : m.txn % 2 = 1 := by omega
    exact later_odd (metaB m) (metaB n) _ _ _ _ _ _ _ _ _ _ _ _ k w hk0 hk1 hm.1 hm.2 hn.1 hn.2 HX HY eX eY hp
      (fun W => chose (l := []) (m := noMeta) (t := false) W zX size_nil (by rw [chooseL, sent_nil, bs_list, s0, if_neg hp]; rfl) rfl)
      (fun W => chose (l := [m]) (m := m) (t := true) W size_nil zX (by rw [chooseL, sent_nil, bs_list, s0, if_pos h1]; rfl) rfl)
end Go.Proofs.Ytgnmjdcmaahlnaa

/- Contract of the statements own opening test known: it returns true and leaves what was there. -/
import Derived.Test.YtnnmnadlcejjhaaWe
import Derived.Test.YtnnmnadlcejjhaaWf
namespace Go.Proofs.Ytnnmnadlcejjhaa
open Go.RowKit
def knS : ByteArray := lowS 258 8 ++ (lowS 2 2 ++ ⟨#[97, 98]⟩) ++ ⟨#[120]⟩

theorem kn_L : knS.data.toList = [2, 1, 0, 0, 0, 0, 0, 0, 2, 0, 97, 98, 120] := by decide +kernel
theorem num_at (b rb : Nat) (l l' : List UInt8) (sh sh' : Bool) (n : Nat) (w : World) (h : CutAt w b rb l sh) (h1 : numV l sh = n) (h2 : numL l sh = l') (h3 : (!numOk l sh) = sh') :
    Calls Try.prog 15 #[.pointer (some ⟨b, 0, none⟩)] w fun e w' => e = .returned (.int .u64 n) ∧ CutAt w' b rb l' sh' ∧ w.grownBy w' (some b) := by
  subst h1 h2 h3
  exact cutNum_any b rb l sh w h
theorem text_at (b rb : Nat) (l l' f : List UInt8) (sh sh' : Bool) (w : World) (h : CutAt w b rb l sh) (h1 : textV l sh = f) (h2 : textL l sh = l') (h3 : (!textOk l sh) = sh') :
    Calls Try.prog 17 #[.pointer (some ⟨b, 0, none⟩)] w fun e w' => e = .returned (.string ⟨f.toArray⟩) ∧ CutAt w' b rb l' sh' ∧ w.grownBy w' (some b) := by
  subst h1 h2 h3
  exact cutText_any b rb l sh w h
theorem left_at (b rb : Nat) (l : List UInt8) (sh : Bool) (n : Nat) (w : World) (h : CutAt w b rb l sh) (h1 : l.length = n) :
    Calls Try.prog 19 #[.pointer (some ⟨b, 0, none⟩)] w fun e w' => e = .returned (.int .i64 n) ∧ w' = w := by
  subst h1
  exact cutLeft_any b rb l sh w h
theorem err_at (b rb : Nat) (l : List UInt8) (sh : Bool) (v : Value) (w : World) (h : CutAt w b rb l sh) (h1 : errV sh = v) :
    Calls Try.prog 20 #[.pointer (some ⟨b, 0, none⟩)] w fun e w' => e = .returned v ∧ w' = w := by
  subst h1
  exact cutErr_any b rb l sh w h
theorem one_S : lowS 1 8 = ⟨#[1, 0, 0, 0, 0, 0, 0, 0]⟩ := by decide +kernel

set_option maxHeartbeats 1000000 in
theorem known_any (w : World) :
    Calls Try.prog 7 #[] w fun e w' => e = .returned (.bool true) ∧ Below w.heap.size w w' := by
  have hz := lowS_size
  have hnil := Try.eqNilNil
  go_enter Try.func7, Try.ntmps7
  go_wp2_with fail
  refine (num_any 258 _ (by omega) (by omega)).mono ?_
  rintro e w1 ⟨rfl, hb1⟩
  go_wp2_with fail
  refine (text_short ⟨#[97, 98]⟩ _ (by decide)).mono ?_
  rintro e w2 ⟨rfl, hb2⟩
  go_wp2_with fail
  refine (new_any knS _ (by simp [knS, hz, maxLen]; decide)).mono ?_
  rintro e w3 ⟨rfl, hcut, hsz, hb3⟩
  rw [kn_L] at hcut
  have hw : Below w.heap.size w w3 := (hb1.trans (hb2.mono hb1.size)).trans (hb3.mono (Nat.le_trans hb1.size hb2.size))
  have hge : w.heap.size ≤ w2.heap.size + 1 := by have := hb1.size; have := hb2.size; omega
  generalize w2.heap.size + 1 = b at *
  generalize w2.heap.size = rb at *
  clear hb1 hb2 hb3 hsz
  have HC3 : Hid _ := hcut
  clear hcut
  go_wp2_with fail
  refine (num_at b rb _ [2, 0, 97, 98, 120] _ false 258 _ HC3.out rfl rfl rfl).mono ?_
  rintro e w4 ⟨rfl, hcut, hg4⟩
  have hw4 := hw.grown hg4 hw.size (by intro k hk; simp at hk; omega)
  have HC4 : Hid _ := hcut
  clear hcut hg4 hw HC3
  go_wp2_with fail
  refine (text_at b rb _ [120] [97, 98] _ false _ HC4.out rfl rfl rfl).mono ?_
  rintro e w5 ⟨rfl, hcut, hg5⟩
  have hw5 := hw4.grown hg5 hw4.size (by intro k hk; simp at hk; omega)
  have HC5 : Hid _ := hcut
  clear hcut hg5 hw4 HC4
  go_wp2_with fail
  refine (left_at b rb _ _ 1 _ HC5.out rfl).mono ?_
  rintro e w6 ⟨rfl, rfl⟩
  go_wp2_with fail
  refine (err_at b rb _ _ .nilIface _ HC5.out rfl).mono ?_
  rintro e w7 ⟨rfl, rfl⟩
  go_wp2_with fail
  refine (num_at b rb _ [120] _ true 0 _ HC5.out rfl rfl rfl).mono ?_
  rintro e w8 ⟨rfl, hcut, hg8⟩
  have hw8 := hw5.grown hg8 hw5.size (by intro k hk; simp at hk; omega)
  have HC8 : Hid _ := hcut
  clear hcut hg8 hw5 HC5
  go_wp2_with fail
  refine (text_at b rb _ [120] [] _ true _ HC8.out rfl rfl rfl).mono ?_
  rintro e w9 ⟨rfl, hcut, hg9⟩
  have hw9 := hw8.grown hg9 hw8.size (by intro k hk; simp at hk; omega)
  have HC9 : Hid _ := hcut
  clear hcut hg9 hw8 HC8
  go_wp2_with fail
  refine (err_at b rb _ _ (.iface 46 (.int .i64 11)) _ HC9.out rfl).mono ?_
  rintro e wa ⟨rfl, rfl⟩
  go_wp2_with fail
  refine (is_same _).mono ?_
  rintro e wb ⟨rfl, rfl⟩
  go_wp2_with fail
  refine (left_at b rb _ _ 1 _ HC9.out rfl).mono ?_
  rintro e wc ⟨rfl, rfl⟩
  go_wp2_with fail
  refine (sum_any ⟨#[]⟩ _ (by decide)).mono ?_
  rintro e wd ⟨rfl, rfl⟩
  go_wp2_with fail
  refine (num_any 1 _ (by omega) (by omega)).mono ?_
  rintro e we ⟨rfl, hbe⟩
  rw [one_S]
  go_wp2
  go_ret
  exact ⟨rfl, hw9.trans (hbe.mono hw9.size)⟩
end Go.Proofs.Ytnnmnadlcejjhaa

/- Contracts of the methods Num, Text, Left and Err of a Cut of package pack. -/
import Derived.Test.YtgnmjdcmaahlnaaWc
namespace Go.Proofs.Ytgnmjdcmaahlnaa
open Go.RowKit

/-- What Num takes of the bytes l (sh: they have lacked before): the number; what is left; whether they have lacked. -/
def numOk (l : List UInt8) (sh : Bool) : Bool := !sh && decide (8 ≤ l.length)
def numV (l : List UInt8) (sh : Bool) : Nat := if numOk l sh then leN (l.take 8) else 0
def numL (l : List UInt8) (sh : Bool) : List UInt8 := if numOk l sh then l.drop 8 else l
def textN (l : List UInt8) : Nat := leN (l.take 2)
def textOk (l : List UInt8) (sh : Bool) : Bool := !sh && decide (2 + textN l ≤ l.length)
def textV (l : List UInt8) (sh : Bool) : List UInt8 := if textOk l sh then (l.drop 2).take (textN l) else []
def textL (l : List UInt8) (sh : Bool) : List UInt8 := if textOk l sh then l.drop (2 + textN l) else l

theorem conv_any {w : World} {base : Nat} {v : Value} {l : List UInt8} (h : w.ownsRow base 5 1 v l.length (cellsOf l)) :
    (convert 109 9 v).run Try.prog w = .ok (.string ⟨l.toArray⟩) w := by
  rcases h.2 with ⟨rfl, h0⟩ | ⟨g, cap, cur, rfl, _⟩
  · have : l = [] := List.eq_nil_of_length_eq_zero h0
    subst this
    exact run_convert_bytes_nil w 109 5 Try.underlying109 Try.underlying5 0 0 9 Try.underlying9
  · exact conv_own h

theorem leN_two_le (l : List UInt8) : textN l ≤ 65535 := by
  have h := leN_lt (l.take 2)
  have hl : (l.take 2).length ≤ 2 := List.length_take_le _ _
  have hp : 256 ^ (l.take 2).length ≤ 256 ^ 2 := Nat.pow_le_pow_right (by omega) hl
  unfold textN
  omega

theorem CutAt.alloc {w : World} {b rb : Nat} {l : List UInt8} {sh : Bool} (h : CutAt w b rb l sh) (o : Obj) : CutAt (w.alloc o) b rb l sh :=
  h.below ((Below.refl w.heap.size w).alloc (Nat.le_refl _) o) h.lt h.2.1

theorem grown_alloc {w w' : World} {b : Nat} {o : Obj} (g : (w.alloc o).grownBy w' (some b)) : w.grownBy w' (some b) :=
  grown_of_below ((Below.refl w.heap.size w).alloc (Nat.le_refl _) o) rfl g


theorem take8 (b rb : Nat) (l : List UInt8) (sh : Bool) (w : World) (hcut : CutAt w b rb l sh) :
    Calls Try.prog 71 #[.pointer (some ⟨b, 0, none⟩), .slice (some ⟨w.heap.size, 0, none⟩) 1 1] (w.alloc (.cells #[.int .i64 8] 3)) fun e w' =>
      Took (w.alloc (.cells #[.int .i64 8] 3)) w' b rb l sh 8 (l.take 8) e :=
  take_any b rb w.heap.size l sh [8] (fun _ => 8) _ (hcut.alloc _) (by simp) (by simp)
    (fun i h => by have : i = 0 := by simpa using h
                   subst this; simp)
    (fun i h => by have : i = 0 := by simpa using h
                   subst this; simp)

theorem takeT (b rb : Nat) (l : List UInt8) (sh : Bool) (w : World) (hcut : CutAt w b rb l sh) :
    Calls Try.prog 71 #[.pointer (some ⟨b, 0, none⟩), .slice (some ⟨w.heap.size, 0, none⟩) 2 2] (w.alloc (.cells #[.int .i64 2, .int .i64 (-1)] 3)) fun e w' =>
      Took (w.alloc (.cells #[.int .i64 2, .int .i64 (-1)] 3)) w' b rb l sh (2 + textN l) ((l.drop 2).take (textN l)) e := by
  have h := take_any b rb w.heap.size l sh [2, -1] (fun i => if i = 0 then 2 else textN l) (w.alloc (.cells #[.int .i64 2, .int .i64 (-1)] 3)) (hcut.alloc _) (by simp) (by simp)
    (fun i h => by
      have : i = 0 ∨ i = 1 := by simp at h; omega
      rcases this with rfl | rfl <;> simp)
    (fun i h => by
      have : i = 0 ∨ i = 1 := by simp at h; omega
      rcases this with rfl | rfl
      · exact ⟨by simp, .inl rfl⟩
      · exact ⟨leN_two_le l, .inr ⟨rfl, by simp [fieldOf]; omega, fun _ => rfl⟩⟩)
  exact h

set_option maxHeartbeats 400000 in
theorem cutNum_any (b rb : Nat) (l : List UInt8) (sh : Bool) (w : World) (hcut : CutAt w b rb l sh) :
    Calls Try.prog 54 #[.pointer (some ⟨b, 0, none⟩)] w fun e w' => e = .returned (.int .u64 (numV l sh)) ∧ CutAt w' b rb (numL l sh) (!numOk l sh) ∧ w.grownBy w' (some b) := by
  have HT : Hid _ := take8 b rb l sh w hcut
  clear hcut
  go_enter Try.func54, Try.ntmps54
  go_wp2_with fail
  refine Calls.mono HT.out ?_
  clear HT
  rintro e w1 ⟨hg, ⟨hn, rfl, v, rfl, ho, hc⟩ | ⟨hn, rfl, hc⟩⟩
  · have hok : numOk l false = true := by simp [numOk, hn]
    have H1 : Hid _ := hg
    have H2 : Hid _ := hc
    have H3 : Hid _ := number_any _ _ _ _ (List.length_take_le _ _) ho
    clear hg hc ho
    have H4 : Hid _ := hok
    clear hok
    go_wp2_with fail
    refine Calls.mono H3.out ?_
    rintro e w2 ⟨rfl, rfl⟩
    go_wp2
    go_ret
    exact ⟨by simp [numV, H4.out], by simp [numL, H4.out]; exact H2.out, grown_alloc H1.out⟩
  · have hok : numOk l sh = false := by
      rcases hn with h | h
      · simp [numOk]; omega
      · simp [numOk, h]
    have H1 : Hid _ := hg
    have H2 : Hid _ := hc
    have H4 : Hid _ := hok
    clear hg hc hok hn
    go_wp2_with fail
    refine Calls.mono (number_none _ _ _) ?_
    rintro e w2 ⟨rfl, rfl⟩
    go_wp2
    go_ret
    exact ⟨by simp [numV, H4.out], by simp [numL, H4.out]; exact H2.out, grown_alloc H1.out⟩

set_option maxHeartbeats 400000 in
theorem cutText_any (b rb : Nat) (l : List UInt8) (sh : Bool) (w : World) (hcut : CutAt w b rb l sh) :
    Calls Try.prog 58 #[.pointer (some ⟨b, 0, none⟩)] w fun e w' => e = .returned (.string ⟨(textV l sh).toArray⟩) ∧ CutAt w' b rb (textL l sh) (!textOk l sh) ∧ w.grownBy w' (some b) := by
  have HT : Hid _ := takeT b rb l sh w hcut
  clear hcut
  go_enter Try.func58, Try.ntmps58
  go_wp2_with fail
  refine Calls.mono HT.out ?_
  clear HT
  rintro e w1 ⟨hg, ⟨hn, rfl, v, rfl, ho, hc⟩ | ⟨hn, rfl, hc⟩⟩
  · have hok : textOk l false = true := by simp [textOk, hn]
    have H1 : Hid _ := hg
    have H2 : Hid _ := hc
    have h3 := conv_any ho
    clear hg hc ho
    have H4 : Hid _ := hok
    clear hok
    go_wp2
    go_ret
    exact ⟨by simp [textV, H4.out], by simp [textL, H4.out]; exact H2.out, grown_alloc H1.out⟩
  · have hok : textOk l sh = false := by
      rcases hn with h | h
      · simp [textOk]; omega
      · simp [textOk, h]
    have H1 : Hid _ := hg
    have H2 : Hid _ := hc
    have H4 : Hid _ := hok
    have h3 := run_convert_bytes_nil (P := Try.prog) w1 109 5 Try.underlying109 Try.underlying5 0 0 9 Try.underlying9
    clear hg hc hok hn
    go_wp2
    go_ret
    exact ⟨by simp [textV, H4.out]; rfl, by simp [textL, H4.out]; exact H2.out, grown_alloc H1.out⟩

theorem num_at (b rb : Nat) (l l' : List UInt8) (sh sh' : Bool) (n : Nat) (w : World) (h : CutAt w b rb l sh) (h1 : numV l sh = n) (h2 : numL l sh = l') (h3 : (!numOk l sh) = sh') :
    Calls Try.prog 54 #[.pointer (some ⟨b, 0, none⟩)] w fun e w' => e = .returned (.int .u64 n) ∧ CutAt w' b rb l' sh' ∧ w.grownBy w' (some b) := by
  subst h1 h2 h3
  exact cutNum_any b rb l sh w h
theorem text_at (b rb : Nat) (l l' f : List UInt8) (sh sh' : Bool) (w : World) (h : CutAt w b rb l sh) (h1 : textV l sh = f) (h2 : textL l sh = l') (h3 : (!textOk l sh) = sh') :
    Calls Try.prog 58 #[.pointer (some ⟨b, 0, none⟩)] w fun e w' => e = .returned (.string ⟨f.toArray⟩) ∧ CutAt w' b rb l' sh' ∧ w.grownBy w' (some b) := by
  subst h1 h2 h3
  exact cutText_any b rb l sh w h
end Go.Proofs.Ytgnmjdcmaahlnaa

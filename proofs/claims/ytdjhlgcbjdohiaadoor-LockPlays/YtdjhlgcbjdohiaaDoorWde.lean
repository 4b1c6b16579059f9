/- Contracts of the methods Left and Err of a Cut of package pack. -/
import Derived.Test.YtdjhlgcbjdohiaaDoorWd
namespace Go.Proofs.YtdjhlgcbjdohiaaDoor
open Go.RowKit

set_option maxHeartbeats 400000 in
theorem cutLeft_any (b rb : Nat) (l : List UInt8) (sh : Bool) (w : World) (hcut : CutAt w b rb l sh) :
    Calls Tryd.prog 55 #[.pointer (some ⟨b, 0, none⟩)] w fun e w' => e = .returned (.int .i64 l.length) ∧ w' = w := by
  obtain ⟨_, _, ao, cap, hblk, _⟩ := hcut
  obtain ⟨hc0, _, _, _⟩ := cells_cut hblk
  clear hblk
  go_enter Tryd.func55, Tryd.ntmps55
  go_wp2
  go_ret
  exact ⟨rfl, rfl⟩

/-- What Err tells. -/
def errV (sh : Bool) : Value := if sh then .iface 69 (.int .i64 11) else .nilIface
set_option maxHeartbeats 400000 in
theorem cutErr_any (b rb : Nat) (l : List UInt8) (sh : Bool) (w : World) (hcut : CutAt w b rb l sh) :
    Calls Tryd.prog 53 #[.pointer (some ⟨b, 0, none⟩)] w fun e w' => e = .returned (errV sh) ∧ w' = w := by
  obtain ⟨_, _, ao, cap, hblk, _⟩ := hcut
  obtain ⟨_, hc1, _, _⟩ := cells_cut hblk
  clear hblk
  cases sh
  all_goals
    go_enter Tryd.func53, Tryd.ntmps53
    go_wp2
    go_ret
    exact ⟨rfl, rfl⟩

theorem err_at (b rb : Nat) (l : List UInt8) (sh : Bool) (v : Value) (w : World) (h : CutAt w b rb l sh) (h1 : errV sh = v) :
    Calls Tryd.prog 53 #[.pointer (some ⟨b, 0, none⟩)] w fun e w' => e = .returned v ∧ w' = w := by
  subst h1
  exact cutErr_any b rb l sh w h
theorem left_at (b rb : Nat) (l : List UInt8) (sh : Bool) (n : Nat) (w : World) (h : CutAt w b rb l sh) (h1 : l.length = n) :
    Calls Tryd.prog 55 #[.pointer (some ⟨b, 0, none⟩)] w fun e w' => e = .returned (.int .i64 n) ∧ w' = w := by
  subst h1
  exact cutLeft_any b rb l sh w h
end Go.Proofs.YtdjhlgcbjdohiaaDoor

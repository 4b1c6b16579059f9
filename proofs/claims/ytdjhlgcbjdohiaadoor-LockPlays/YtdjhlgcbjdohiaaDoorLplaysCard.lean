/- The tied card of LockPlays: of every row of steps and every number it returns true, the one listed variable tied to the program's text; no other condition. -/
import Derived.Test.YtdjhlgcbjdohiaaDoorLplaysOwn
import Derived.Test.YtdjhlgcbjdohiaaDoorCards
import Derived.Test.YtdjhlgcbjdohiaaDoorTie
import Derived.SevenTiedAt
namespace Go.Proofs.YtdjhlgcbjdohiaaDoor
open Go

theorem lockPlays_card : Rows.LockPlaysCardSaid :=
  Claim7.holds_tied_plain_at .later [] [.handle] true Rows.lockPlaysCard.stood.harness true
    lockPlays_row (fun _ h => by cases h) (by kernel_rfl) (fun _ h => by cases h) lockPlays_row_tie rfl ⟨rfl, rfl⟩ (by kernel_rfl) rfl
    (fun f fn hf hfn => by
      obtain rfl : f = 3 := Option.some.inj ((show Tryd.prog.funcNamed "copyhold/copyholdlaw6.LockPlays" = some 3 by kernel_rfl).symm.trans hf) |>.symm
      obtain rfl : fn = Tryd.f3 := (Option.some.inj (Tryd.func3.symm.trans hfn)).symm
      exact ⟨by kernel_rfl, fun j t ht => by
        rw [Tryd.params3] at ht
        rcases j with _ | _ | j
        · obtain rfl : t = 22 := by simpa using ht.symm
          exact (show Tryd.prog.wantsStandIn 22 = false by kernel_rfl)
        · obtain rfl : t = 23 := by simpa using ht.symm
          exact (show Tryd.prog.wantsStandIn 23 = false by kernel_rfl)
        · simp at ht⟩)
    (by kernel_rfl)
#print axioms lockPlays_card
end Go.Proofs.YtdjhlgcbjdohiaaDoor

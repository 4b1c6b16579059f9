/- PageFrees whole. -/
import Derived.Test.YtkfhkhjoindcbaaKe
import Derived.Test.YtkfhkhjoindcbaaKf
import Derived.Test.YtkfhkhjoindcbaaKg
import Derived.Test.YtkfhkhjoindcbaaKh
import Derived.Test.YtkfhkhjoindcbaaKj
namespace Go.Proofs.Ytkfhkhjoindcbaa
open Go.RowKit Go.Sort

theorem frees_law (n m : Int) (fall : Bool) (w : World) (h0 : 0 ≤ n) (h1 : n < 256) (h2 : 0 ≤ m) (h3 : m < 256) :
    Calls Try.prog 7 #[.int .u8 n, .int .u8 m, .bool fall] w fun e w' => e = .returned (.bool true) ∧ Below w.heap.size w w' := by
  obtain ⟨a, ha, ha15⟩ : ∃ a : Nat, n % 15 = a ∧ a < 15 := ⟨(n % 15).toNat, by omega, by omega⟩
  obtain ⟨b, hb, hb15⟩ : ∃ b : Nat, m % 15 = b ∧ b < 15 := ⟨(m % 15).toNat, by omega, by omega⟩
  cases fall
  · rcases Nat.eq_zero_or_pos a with ca | ca
    · rcases Nat.eq_zero_or_pos b with cb | cb
      · exact frees_f00 n m w h0 h1 h2 h3 a b ha hb ha15 hb15 ca cb
      · exact frees_f01 n m w h0 h1 h2 h3 a b ha hb ha15 hb15 ca cb
    · rcases Nat.eq_zero_or_pos b with cb | cb
      · exact frees_f10 n m w h0 h1 h2 h3 a b ha hb ha15 hb15 ca cb
      · by_cases ckl : a + b ≤ 20
        · exact frees_f11y n m w h0 h1 h2 h3 a b ha hb ha15 hb15 ca cb ckl
        · exact frees_f11n n m w h0 h1 h2 h3 a b ha hb ha15 hb15 ca cb ckl
  · rcases Nat.eq_zero_or_pos a with ca | ca
    · rcases Nat.eq_zero_or_pos b with cb | cb
      · exact frees_t00 n m w h0 h1 h2 h3 a b ha hb ha15 hb15 ca cb
      · exact frees_t01 n m w h0 h1 h2 h3 a b ha hb ha15 hb15 ca cb
    · rcases Nat.eq_zero_or_pos b with cb | cb
      · exact frees_t10 n m w h0 h1 h2 h3 a b ha hb ha15 hb15 ca cb
      · by_cases ckl : a + b ≤ 20
        · exact frees_t11y n m w h0 h1 h2 h3 a b ha hb ha15 hb15 ca cb ckl
        · exact frees_t11n n m w h0 h1 h2 h3 a b ha hb ha15 hb15 ca cb ckl
end Go.Proofs.Ytkfhkhjoindcbaa

/- PageLeafs, all ways together. -/
import Derived.Test.YtkfhkhjoindcbaaLn
import Derived.Test.YtkfhkhjoindcbaaLo
import Derived.Test.YtkfhkhjoindcbaaLp
namespace Go.Proofs.Ytkfhkhjoindcbaa
open Go.RowKit Go.Sort

theorem leafs_law (n q : Int) (t : Bool) (w : World) (h0 : 0 ≤ n) (h1 : n < 256) (h2 : 0 ≤ q) (h3 : q < 256) :
    Calls Try.prog 4 #[.int .u8 n, .int .u8 q, .bool t] w fun e w' => e = .returned (.bool true) ∧ Below w.heap.size w w' := by
  obtain ⟨a, ha⟩ : ∃ a : Nat, n % 7 = (a : Int) := ⟨(n % 7).toNat, by omega⟩
  obtain ⟨m, hm⟩ : ∃ m : Nat, q % 12 = (m : Int) := ⟨(q % 12).toNat, by omega⟩
  have ha7 : a < 7 := by omega
  have hm12 : m < 12 := by omega
  by_cases e0 : a = 0
  · cases t
    · exact leafs_0f n q w h0 h1 h2 h3 a m ha hm ha7 hm12 e0
    · exact leafs_0t n q w h0 h1 h2 h3 a m ha hm ha7 hm12 e0
  have ep : 0 < a := by omega
  cases t
  · by_cases e4 : a ≤ 4
    · by_cases e1 : 1 ≤ m
      · by_cases e8 : m ≤ 8
        · exact leafs_1fT n q w h0 h1 h2 h3 a m ha hm ha7 hm12 ep e4 e1 e8
        · exact leafs_1fC n q w h0 h1 h2 h3 a m ha hm ha7 hm12 ep e4 (by omega)
      · exact leafs_1fB n q w h0 h1 h2 h3 a m ha hm ha7 hm12 ep e4 (by omega)
    · exact leafs_1fA n q w h0 h1 h2 h3 a m ha hm ha7 hm12 ep (by omega)
  · by_cases e2 : a ≤ 1
    · by_cases e1 : 1 ≤ m
      · by_cases e8 : m ≤ 8
        · exact leafs_1tT n q w h0 h1 h2 h3 a m ha hm ha7 hm12 ep e2 e1 e8
        · exact leafs_1tC n q w h0 h1 h2 h3 a m ha hm ha7 hm12 ep e2 (by omega)
      · exact leafs_1tB n q w h0 h1 h2 h3 a m ha hm ha7 hm12 ep e2 (by omega)
    · have eq : 1 < a := by omega
      by_cases e4 : a ≤ 4
      · by_cases e1 : 1 ≤ m
        · by_cases e8 : m ≤ 8
          · exact leafs_2T n q w h0 h1 h2 h3 a m ha hm ha7 hm12 eq e4 e1 e8
          · exact leafs_2C n q w h0 h1 h2 h3 a m ha hm ha7 hm12 eq e4 (by omega)
        · exact leafs_2B n q w h0 h1 h2 h3 a m ha hm ha7 hm12 eq e4 (by omega)
      · exact leafs_2A n q w h0 h1 h2 h3 a m ha hm ha7 hm12 eq (by omega)
end Go.Proofs.Ytkfhkhjoindcbaa

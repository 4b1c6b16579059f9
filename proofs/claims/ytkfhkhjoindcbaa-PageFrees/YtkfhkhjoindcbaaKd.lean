/- Which pages of free numbers are right. -/
import Derived.Test.YtkfhkhjoindcbaaKc
namespace Go.Proofs.Ytkfhkhjoindcbaa
open Go.RowKit Go.Sort

theorem is_frees_f00 : isPB (frP []) = true := by decide +kernel
theorem is_frees_f01 : ∀ l, l < 15 → 0 < l → isPB (frP ([] ++ [⟨5, (upFrom 50 l)⟩])) = true := by decide +kernel
theorem is_frees_f10 : ∀ k, k < 15 → 0 < k → isPB (frP ([] ++ [⟨5, (upFrom 2 k)⟩])) = true := by decide +kernel
theorem is_frees_f11y : ∀ k, k < 15 → ∀ l, l < 15 → 0 < k → 0 < l → k + l ≤ 20 → isPB (frP (([] ++ [⟨5, (upFrom 2 k)⟩]) ++ [⟨5, (upFrom 50 l)⟩])) = true := by decide +kernel
theorem is_frees_f11n : ∀ k, k < 15 → ∀ l, l < 15 → 0 < k → 0 < l → ¬ k + l ≤ 20 → isPB (frP (([] ++ [⟨5, (upFrom 2 k)⟩]) ++ [⟨5, (upFrom 50 l)⟩])) = false := by decide +kernel
theorem is_frees_t00 : isPB (frP []) = true := by decide +kernel
theorem is_frees_t01 : ∀ l, l < 15 → 0 < l → isPB (frP ([] ++ [⟨4, (upFrom 50 l)⟩])) = true := by decide +kernel
theorem is_frees_t10 : ∀ k, k < 15 → 0 < k → isPB (frP ([] ++ [⟨5, (upFrom 2 k)⟩])) = true := by decide +kernel
theorem is_frees_t11y : ∀ k, k < 15 → ∀ l, l < 15 → 0 < k → 0 < l → k + l ≤ 20 → isPB (frP (([] ++ [⟨5, (upFrom 2 k)⟩]) ++ [⟨4, (upFrom 50 l)⟩])) = false := by decide +kernel
theorem is_frees_t11n : ∀ k, k < 15 → ∀ l, l < 15 → 0 < k → 0 < l → ¬ k + l ≤ 20 → isPB (frP (([] ++ [⟨5, (upFrom 2 k)⟩]) ++ [⟨4, (upFrom 50 l)⟩])) = false := by decide +kernel
end Go.Proofs.Ytkfhkhjoindcbaa

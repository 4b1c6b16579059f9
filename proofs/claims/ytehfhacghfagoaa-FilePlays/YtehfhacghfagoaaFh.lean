/- Contracts of slices.Clone of pages, and of package file's Copy. -/
import Derived.Test.YtehfhacghfagoaaFd
import Derived.Lib.SliceRun
namespace Go.Proofs.Ytehfhacghfagoaa
open Go.RowKit

theorem shC_one (s : Sh) : ∀ u ∈ shC s, u.oneCell' = true := by simp [shC, Value.oneCell']
theorem rowS_one (l : List Sh) : ∀ u ∈ rowS l, u.oneCell' = true := by
  intro u hu
  simp only [rowS, List.mem_flatten, List.mem_map] at hu
  obtain ⟨_, ⟨s, _, rfl⟩, hu⟩ := hu
  exact shC_one s u hu

set_option maxRecDepth 10000 in
set_option maxHeartbeats 4000000 in
theorem clone_any (w : World) (B fb : Nat) (v : Value) (l : List Sh) (h : FileAt w B fb v l) :
    Calls Try.prog 29 #[v] w fun e w' => ∃ u, e = .returned u ∧ w'.ownsRow w.heap.size 58 3 u l.length (rowS l) ∧ Below w.heap.size w w' := by
  obtain ⟨i0, hi, hz0, hz1, hz2⟩ := info_parts Try.infoSheet
  have hl4 := h.len
  rcases h.form with ⟨rfl, rfl⟩ | ⟨g, cap, rfl, h1, h2, hne, h3, h4⟩
  · have heq := fun (W : World) => Lib.run_eql_slice_nil (P := Try.prog) W 54 58 none 0 0 0 0 Try.underlying54
    simp only [Option.isNone_none] at heq
    clear h
    go_enter Try.func29, Try.ntmps29
    go_wp2
    go_ret
    exact ⟨_, rfl, World.ownsRow_nil _ _ _ _, Below.refl _ _⟩
  · have hr := h.row
    have hsrc : ∀ j u, (rowS l)[j]? = some u → (w.alloc (.cells #[] 58)).cell? ((⟨g, 0, none⟩ : Addr).add j) = some u := by
      intro j u hu
      have hj : j < l.length * 3 := by rw [← rowS_length]; exact (List.getElem?_eq_some_iff.1 hu).1
      rw [Addr.add_mid, Nat.zero_add]
      refine Lib.cell?_alloc_some _ ?_
      rw [hr.cellAt j hj, hu]
    have hown : (w.alloc (.cells #[] 58)).ownsRow w.heap.size 58 3 (.slice (some ⟨w.heap.size, 0, none⟩) 0 0) 0 [] := World.ownsRow_made w #[] 0 (Nat.le_refl _) (by simp) (by simp)
    have hb := (Below.refl w.heap.size w).alloc (Nat.le_refl _) (.cells #[] 58)
    replace hsrc := hid hsrc
    replace hown := hid hown
    replace hb := hid hb
    have heq := fun (W : World) => Lib.run_eql_slice_nil (P := Try.prog) W 54 58 (some ⟨g, 0, none⟩) l.length cap 0 0 Try.underlying54
    simp only [Option.isNone_some] at heq
    clear h hr
    go_enter Try.func29, Try.ntmps29
    go_wp2_with (first
      | (at_builtin; refine wpList_append_own _ rfl (.tmp 5) (.tmp 6) 54 rfl w.heap.size 58 i0 (.agg #[.string ⟨#[]⟩, .string ⟨#[]⟩, .bool false]) 3 40 Try.underlying54 hi hz0 hz1 hz2 rfl (by omega) _ 0 [] rfl hown.out ⟨g, 0, none⟩ l.length cap (rowS l) rfl (by rw [rowS_length]) hsrc.out (rowS_one l) (by unfold maxLen; omega) (by omega) (by simp) ?_)
      | fail)
    intro v' w1 hown' hgrow hnil
    have HB := hid (hb.out.grown hgrow (by simp) (fun r hr => (hown.out.lt r hr).1))
    replace hown' := hid hown'
    clear hgrow hnil
    go_wp2
    go_ret
    exact ⟨_, rfl, hown'.out, HB.out⟩

set_option maxRecDepth 10000 in
set_option maxHeartbeats 4000000 in
theorem copy_any (w : World) (B fb : Nat) (v : Value) (l : List Sh) (h : FileAt w B fb v l) :
    Calls Try.prog 22 #[.pointer (some ⟨fb, 0, none⟩)] w fun e w' => ∃ cb u, e = .returned (.pointer (some ⟨cb, 0, none⟩)) ∧ w.heap.size ≤ cb ∧ FileAt w' w.heap.size cb u l ∧ Below w.heap.size w w' := by
  have hc := cell_of_one h.obj
  have HC := hid (clone_any w B fb v l h)
  have hl4 := h.len
  obtain ⟨ao, cap, rfl⟩ := h.slice
  clear h
  go_enter Try.func22, Try.ntmps22
  go_wp2_with fail
  refine HC.out.mono ?_
  rintro e w1 ⟨u, rfl, hown, hb⟩
  have HF : FileAt (w1.alloc (.cells #[u] 56)) w.heap.size w1.heap.size u l := ⟨heap_newL _ _, hb.size, hown.alloc _, hl4⟩
  have HB := hid (hb.alloc hb.size (.cells #[u] 56))
  have hsz := hid hb.size
  obtain ⟨ao', cap', rfl⟩ := HF.slice
  replace HF := hid HF
  clear hown hb
  go_wp2
  go_ret
  exact ⟨_, _, rfl, hsz.out, HF.out, HB.out⟩
end Go.Proofs.Ytehfhacghfagoaa

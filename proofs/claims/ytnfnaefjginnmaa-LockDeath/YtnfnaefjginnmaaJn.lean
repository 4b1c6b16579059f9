/- LockOldest: the least version that a slot has, but no slot's that has none yet, and none above the last. -/
import Derived.Test.YtnfnaefjginnmaaJm
namespace Go.Proofs.Ytnfnaefjginnmaa
open Go.RowKit Go.Conc

/-- A slice of bytes. -/
def BytesAt (w : World) (v : Value) (l : List Int) : Prop :=
  ∃ ao cap, v = .slice ao l.length cap ∧ l.length ≤ maxLen ∧ ∀ i (h : i < l.length), ∃ a, ao = some a ∧ w.cell? (a.add i) = some (.int .u8 l[i]) ∧ 0 ≤ l[i] ∧ l[i] < 256
theorem Try.elemU8s : Try.prog.underlying 48 = some (.slice (Try.prog.elem 48)) := by kernel_rfl
theorem Try.sizeU8s (w : World) : (Go.sizeOf (Try.prog.elem 48)).run Try.prog w = .ok 1 w := by kernel_rfl

/-- The first k slots read the versions of l. -/
def pubA (l : List Int) (k : Nat) : List SlotD := (List.range k).map fun (i : Nat) => ((i : Int) + 1, l.getD i 0)
def pubS (l : List Int) (k : Nat) : List SlotD := pubA l k ++ List.replicate (8 - k) (0, 0)
theorem pubA_length (l : List Int) (k : Nat) : (pubA l k).length = k := by simp [pubA]
theorem pubA_succ (l : List Int) (k : Nat) : pubA l (k + 1) = pubA l k ++ [((k : Int) + 1, l.getD k 0)] := by simp [pubA, List.range_succ]
theorem pub_free (l : List Int) (k : Nat) (hk : k ≤ 8) : freeI (pubS l k) = k := by
  rcases le8 hk with rfl | rfl | rfl | rfl | rfl | rfl | rfl | rfl | rfl <;> simp [freeI, pubS, pubA, List.range_succ, List.replicate_succ, List.findIdx_cons]
theorem pub_set (l : List Int) (k : Nat) (hk : k < 8) (x : SlotD) : (pubS l k).set k x = pubA l k ++ x :: List.replicate (7 - k) (0, 0) := by
  rw [pubS, List.set_append_right _ _ (by rw [pubA_length]; omega), pubA_length, Nat.sub_self, show 8 - k = (7 - k) + 1 by omega, List.replicate_succ, List.set_cons_zero]
theorem pub_claim (l : List Int) (k : Nat) (hk : k < 8) : claimE (pubS l k) ((k : Int) + 1) = .returned (.tuple #[.int .i64 (k : Int), .nilIface]) ∧ claimS (pubS l k) ((k : Int) + 1) = (pubS l k).set k ((k : Int) + 1, 0) := by
  have h := pub_free l k (by omega)
  refine ⟨?_, ?_⟩
  · rw [claimE, claimOk, h]
    simp [hk]
  · rw [claimS, h, if_pos ⟨hk, by omega⟩]
theorem pub_held (l : List Int) (k : Nat) (hk : k < 8) (t : Int) (ht : l.getD k 0 = t) : heldB ((pubS l k).set k ((k : Int) + 1, 0)) (k : Int) ((k : Int) + 1) = true ∧ publishS ((pubS l k).set k ((k : Int) + 1, 0)) (k : Int) ((k : Int) + 1) t = pubS l (k + 1) := by
  have hlen : (pubS l k).length = 8 := by simp [pubS, pubA_length]; omega
  have h1 : heldB ((pubS l k).set k ((k : Int) + 1, 0)) (k : Int) ((k : Int) + 1) = true := by
    rw [heldB, Int.toNat_natCast, pidAt, List.getD, List.getElem?_set_self (by omega)]
    simp
    omega
  refine ⟨h1, ?_⟩
  rw [publishS, h1, if_pos rfl, Int.toNat_natCast, List.set_set, pub_set l k hk, pubS, pubA_succ, ht, List.append_assoc, show 8 - (k + 1) = 7 - k by omega]
  rfl
theorem oldL_zeros (last : Int) (A : List SlotD) (n : Nat) : oldL last (A ++ List.replicate n (0, 0)) = oldL last A := by
  rw [oldL, List.foldl_append]
  have h : ∀ (n : Nat) (b : Int), List.foldl (fun a (s : SlotD) => if 0 < s.2 then min a s.2 else a) b (List.replicate n (0, 0)) = b := by
    intro n
    induction n with
    | zero => intro b; rfl
    | succ n ih => intro b; rw [List.replicate_succ, List.foldl_cons]; exact ih b
  rw [h]
  rfl
theorem old_pub (last : Int) (l : List Int) (k : Nat) (t : Int) (ht : l.getD k 0 = t) : oldL last (pubS l (k + 1)) = if 0 < t then min (oldL last (pubS l k)) t else oldL last (pubS l k) := by
  rw [pubS, pubS, oldL_zeros, oldL_zeros, pubA_succ, oldL, List.foldl_append, ht]
  simp [oldL]

set_option maxRecDepth 100000 in
set_option maxHeartbeats 4000000 in
theorem oldest_law (l : List Int) (a1 : Int) (v0 : Value) (w : World) (h0 : BytesAt w v0 l) (h1 : 0 ≤ a1) (h2 : a1 ≤ 255) :
    Calls Try.prog 5 #[v0, .int .u8 a1] w fun e w' => e = .returned (.bool true) ∧ Below w.heap.size w w' := by
  obtain ⟨ao, cap, rfl, hlm, h3⟩ := h0
  unfold maxLen at hlm
  have hnn := neqN
  have hwl : IntKind.u64.wrap a1 = a1 := by rw [IntKind.wrap_u64]; omega
  replace h3 := hid h3
  go_enter Try.func5, Try.ntmps5
  go_wp2_with fail
  refine (known_any w).mono ?_
  rintro e w0 ⟨rfl, B0⟩
  replace B0 := hid B0
  go_wp2_with fail
  refine (lnew_any w0).mono ?_
  rintro e w1 ⟨rfl, F1, B1⟩
  have H1 := hid (ll_new B0.out F1 B1)
  clear F1 B1 B0
  generalize w0.heap.size + 1 = lb at *
  generalize w0.heap.size = cb at *
  clear w0
  go_wp2
  obtain ⟨N, hN⟩ : ∃ N : Nat, N = min l.length 8 := ⟨_, rfl⟩
  have hN1 : N ≤ 8 := by omega
  have hN2 : N ≤ l.length := by omega
  have hN3 : Hid (N = 8 ∨ N = l.length) := hid (by omega)
  clear hN
  go_loopg [6, 7] N (fun g o i wr => ∃ k : Nat, k + g = N ∧ i = .int .i64 (k : Int) ∧ o = .int .u64 (oldL a1 (pubS l k)) ∧ Hid (Ll w wr lb cb 0 (pubS l k)))
  case atStart => exact ⟨0, by omega, rfl, rfl, H1⟩
  case round =>
    obtain ⟨k, hk, rfl, rfl, hf⟩ := hrel
    clear H1
    cases gk with
    | succ g =>
      have hk8 : k < 8 := by omega
      have hkl : k < l.length := by omega
      obtain ⟨a, ha, hce, hb0, hb1⟩ := h3.out k hkl
      have hx := index_at (len := l.length) (cap := cap) Try.elemU8s Try.sizeU8s k ha hkl
      have hgd : l.getD k 0 = l[k] := by simp [List.getD, hkl]
      obtain ⟨e1, e2⟩ := pub_claim l k hk8
      obtain ⟨e3, e4⟩ := pub_held l k hk8 l[k] hgd
      have e5 := hid (old_pub a1 l k l[k] hgd)
      generalize l[k] = b at *
      have hab : (a.add k).block < w.heap.size := World.block_lt_of_cell? w _ hce
      replace e1 := hid e1; replace e2 := hid e2; replace e3 := hid e3; replace e4 := hid e4; replace hce := hid hce
      have hbw : IntKind.u64.wrap b = b := by rw [IntKind.wrap_u64]; omega
      generalize oldL a1 (pubS l k) = o at *
      clear ha hgd hN1 hN2
      replace hk := hid hk
      replace hb0 := hid hb0
      replace hb1 := hid hb1
      go_wp2_with fail
      refine (claim_ll hf.out ((k : Int) + 1) (by omega)).mono ?_
      rw [e1.out, e2.out]
      rintro e w2 ⟨rfl, H2⟩
      have hc2 := (H2.bel.cell (p := a.add k) hab).trans hce.out
      replace H2 := hid H2
      clear hf e1 e2
      go_wp2_with fail
      refine (publish_ll H2.out (k : Int) ((k : Int) + 1) b hb0.out (by have := hb1.out; omega)).mono ?_
      rw [e4.out, show errE (heldB ((pubS l k).set k ((k : Int) + 1, 0)) (k : Int) ((k : Int) + 1)) = .returned .nilIface by rw [e3.out]; rfl]
      rintro e w3 ⟨rfl, H3⟩
      have hc3 := (H3.bel.cell (p := a.add k) hab).trans hce.out
      replace H3 := hid H3
      clear H2 e3 e4 hc2
      by_cases hb : 0 < b
      · go_wp2
        go_roundg g
        case rel => exact ⟨k + 1, by have := hk.out; omega, by go_num, by rw [e5.out, if_pos hb], H3⟩
        case measure => omega
      · go_wp2
        go_roundg g
        case rel => exact ⟨k + 1, by have := hk.out; omega, by go_num, by rw [e5.out, if_neg (by omega)], H3⟩
        case measure => omega
    | zero =>
      have hke : k = N := by omega
      subst hke
      generalize hS : pubS l k = S at *
      have HO := hid (oldest_any _ _ _ _ _ a1 _ hf.out.l)
      generalize oldL a1 S = o at *
      by_cases h8 : k < l.length
      · have hk8 : k = 8 := by rcases hN3.out with h | h <;> omega
        subst hk8
        go_wp2_with fail
        refine HO.out.mono ?_
        rintro e w2 ⟨rfl, b2⟩
        have H2 := hid (hf.out.below b2)
        clear hf b2 HO
        go_wp2
        go_ret
        exact ⟨by simp, H2.out.bel⟩
      · go_wp2_with fail
        refine HO.out.mono ?_
        rintro e w2 ⟨rfl, b2⟩
        have H2 := hid (hf.out.below b2)
        clear hf b2 HO
        go_wp2
        go_ret
        exact ⟨by simp, H2.out.bel⟩
end Go.Proofs.Ytnfnaefjginnmaa

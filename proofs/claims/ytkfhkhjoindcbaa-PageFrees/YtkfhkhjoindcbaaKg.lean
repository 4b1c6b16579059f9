/- PageFrees, way by way. -/
import Derived.Test.YtkfhkhjoindcbaaKd
namespace Go.Proofs.Ytkfhkhjoindcbaa
open Go.RowKit Go.Sort

set_option maxHeartbeats 4000000 in
set_option maxRecDepth 100000 in
theorem frees_f11n (n m : Int) (w : World) (h0 : 0 ≤ n) (h1 : n < 256) (h2 : 0 ≤ m) (h3 : m < 256) (a b : Nat) (ha : n % 15 = a) (hb : m % 15 = b) (ha15 : a < 15) (hb15 : b < 15) (ca : 0 < a) (cb : 0 < b) (ckl : ¬ a + b ≤ 20) :
    Calls Try.prog 7 #[.int .u8 n, .int .u8 m, .bool false] w fun e w' => e = .returned (.bool true) ∧ Below w.heap.size w w' := by
  have CA := hid ca
  have CB := hid cb
  clear ca cb
  obtain ⟨i0, hi, hz0, hz1, hz2⟩ := info_parts Try.infoInt
  obtain ⟨j0, hj, hy0, hy1, hy2⟩ := info_parts Try.infoFree
  go_enter Try.func7, Try.ntmps7
  go_wp2_with fail
  refine (known_any _).mono ?_
  rintro e w1 ⟨rfl, hb1⟩
  go_wp2
  have hFr0 : Fr w1 w1.heap.size (((w1.alloc (.cells #[.int .i64 5, .slice none 0 0, .slice none 0 0, .slice none 0 0, .string ⟨#[]⟩, .slice none 0 0, .slice none 0 0, .int .i64 0, .int .u64 0, .int .i64 0, .int .i64 0, .int .i64 0, .int .i64 0, .int .i64 0] 32)).alloc (.cells #[.int .u64 5, .slice none 0 0] 53)).alloc (.cells #[.int .u64 5, .slice none 0 0] 53)) (.slice none 0 0) (.slice none 0 0) (.slice none 0 0) 5 := by
    have e1 : (w1.alloc (.cells #[.int .i64 5, .slice none 0 0, .slice none 0 0, .slice none 0 0, .string ⟨#[]⟩, .slice none 0 0, .slice none 0 0, .int .i64 0, .int .u64 0, .int .i64 0, .int .i64 0, .int .i64 0, .int .i64 0, .int .i64 0] 32)).heap.size = w1.heap.size + 1 := by simp
    have e2 : ((w1.alloc (.cells #[.int .i64 5, .slice none 0 0, .slice none 0 0, .slice none 0 0, .string ⟨#[]⟩, .slice none 0 0, .slice none 0 0, .int .i64 0, .int .u64 0, .int .i64 0, .int .i64 0, .int .i64 0, .int .i64 0, .int .i64 0] 32)).alloc (.cells #[.int .u64 5, .slice none 0 0] 53)).heap.size = w1.heap.size + 1 + 1 := by simp
    have p1 := heap_newL w1 (.cells #[.int .i64 5, .slice none 0 0, .slice none 0 0, .slice none 0 0, .string ⟨#[]⟩, .slice none 0 0, .slice none 0 0, .int .i64 0, .int .u64 0, .int .i64 0, .int .i64 0, .int .i64 0, .int .i64 0, .int .i64 0] 32)
    have p2 := heap_newL (w1.alloc (.cells #[.int .i64 5, .slice none 0 0, .slice none 0 0, .slice none 0 0, .string ⟨#[]⟩, .slice none 0 0, .slice none 0 0, .int .i64 0, .int .u64 0, .int .i64 0, .int .i64 0, .int .i64 0, .int .i64 0, .int .i64 0] 32)) (.cells #[.int .u64 5, .slice none 0 0] 53)
    have p3 := heap_newL ((w1.alloc (.cells #[.int .i64 5, .slice none 0 0, .slice none 0 0, .slice none 0 0, .string ⟨#[]⟩, .slice none 0 0, .slice none 0 0, .int .i64 0, .int .u64 0, .int .i64 0, .int .i64 0, .int .i64 0, .int .i64 0, .int .i64 0] 32)).alloc (.cells #[.int .u64 5, .slice none 0 0] 53)) (.cells #[.int .u64 5, .slice none 0 0] 53)
    rw [e1] at p2
    rw [e2] at p3
    exact ⟨(Below.heap_alloc _ _ _ (by simp; omega)).trans ((Below.heap_alloc _ _ _ (by simp)).trans p1), (Below.heap_alloc _ _ _ (by simp)).trans p2, p3, (((Below.refl _ _).alloc (Nat.le_refl _) _).alloc (by simp) _).alloc (by simp; omega) _, by simp⟩
  generalize (((w1.alloc (.cells #[.int .i64 5, .slice none 0 0, .slice none 0 0, .slice none 0 0, .string ⟨#[]⟩, .slice none 0 0, .slice none 0 0, .int .i64 0, .int .u64 0, .int .i64 0, .int .i64 0, .int .i64 0, .int .i64 0, .int .i64 0] 32)).alloc (.cells #[.int .u64 5, .slice none 0 0] 53)).alloc (.cells #[.int .u64 5, .slice none 0 0] 53)) = W0 at *
  generalize hBd : w1.heap.size = B at *
  have HB1 := hid hb1
  clear hb1 ha hb
  go_loopw [12] (fun i wr => ∃ (k : Nat) (vx : Value), k ≤ a ∧ i = .int .i64 k ∧ Hid (Fr w1 B wr (.slice none 0 0) vx (.slice none 0 0) 5) ∧ Hid (OwnInts wr (B + 3) vx (upFrom 2 k))) (fun i _ => a - (intOf i).toNat)
  case atStart => exact ⟨0, _, Nat.zero_le _, rfl, hFr0, ownInts_nil _ _⟩
  case round =>
    obtain ⟨k, vx, hk, rfl, hF, hO⟩ := hrel
    clear hFr0
    obtain ⟨ax, nx, cx, rfl⟩ := hO.out.slice
    have hsz := hF.out.size
    by_cases hlk : k < a
    · have cX : wr.cell? ⟨B + 1, 1, none⟩ = some (.slice ax nx cx) := (cell_rowL hF.out.px 1).trans rfl
      have hown := hO.out.1
      rw [upFrom_length] at hown
      have HU : Hid (intCells (upFrom 2 (k + 1)) = intCells (upFrom 2 k) ++ [.int .i64 (2 + (k : Int))]) := by show _ = _; simp [intCells, upFrom_succ]
      go_wp2_with (at_builtin; refine wpList_append_own _ rfl _ _ 24 rfl (B + 3) 3 i0 (.int .i64 0) 1 8 Try.underlying24 hi hz0 hz1 hz2 rfl (by decide) _ _ _ rfl (hown.alloc _) ⟨wr.heap.size, 0, none⟩ 1 1 [.int .i64 (2 + (k : Int))] rfl rfl (cell_one_new _ _ _) (fun x hx => by simp at hx; subst hx; rfl) (by unfold maxLen; omega) (by omega) (by have := hsz; simp; omega) ?_)
      intro v' w3 hown' hgrow _
      rw [← HU.out] at hown'
      have hrow : ∀ q, (Value.slice ax nx cx).ownBlock = some q → B + 3 ≤ q := fun q hq => (hown.lt q hq).1
      have HF3 := hid ((hF.out.alloc (.cells #[.int .i64 (2 + (k : Int))] 3)).row hgrow hrow)
      have cX3 := cell_rowL HF3.out.px
      have fX3 := frozen_rowL HF3.out.px
      obtain ⟨ay, ny, cy, rfl⟩ : ∃ ao n cap, v' = .slice ao n cap := by
        rcases hown'.2 with ⟨hv, _⟩ | ⟨g, cap, cur, hv, _⟩
        · exact ⟨_, _, _, hv⟩
        · exact ⟨_, _, _, hv⟩
      have HF4 := hid (HF3.out.setX (.slice ay ny cy))
      have HO4 : Hid (OwnInts (w3.setCell ⟨B + 1, 1, none⟩ (.slice ay ny cy)) (B + 3) (.slice ay ny cy) (upFrom 2 (k + 1))) := by
        refine OwnInts.lt ⟨?_, by rw [upFrom_length]; omega⟩ (grown_setCell w3 (B + 1) 1 _) (fun q hq => by cases hq; omega)
        rw [upFrom_length]
        exact hown'
      clear hgrow hown hown' hrow HF3 cX
      go_wp2
      go_roundw
      case rel => exact ⟨k + 1, _, by omega, by go_num, HF4, HO4⟩
      case measure => simp [intOf]; omega
    · have hke : k = a := by omega
      subst hke
      clear hlk hk
      obtain ⟨W1, hW1⟩ : ∃ W1, W1 = wr := ⟨_, rfl⟩
      subst hW1
      have hxlt : ∀ q, (Value.slice ax nx cx).ownBlock = some q → B + 3 ≤ q ∧ q < W1.heap.size := hO.out.1.lt
      go_wp2
      go_loopw [13] (fun i wr => ∃ (l : Nat) (vy : Value), l ≤ b ∧ i = .int .i64 l ∧ Hid (Fr w1 B wr (.slice none 0 0) (.slice ax nx cx) vy 5) ∧ Hid (OwnInts wr (B + 3) (.slice ax nx cx) (upFrom 2 k)) ∧ Hid (OwnInts wr W1.heap.size vy (upFrom 50 l)) ∧ W1.heap.size ≤ wr.heap.size) (fun i _ => b - (intOf i).toNat)
      case atStart => exact ⟨0, _, Nat.zero_le _, rfl, hF, hO, ownInts_nil _ _, Nat.le_refl _⟩
      case round =>
        obtain ⟨l, vy, hl, rfl, hF2, hO2, hQ2, hszw⟩ := hrel
        clear hF hO
        obtain ⟨ay, ny, cy, rfl⟩ := hQ2.out.slice
        by_cases hll : l < b
        · have cY : wr.cell? ⟨B + 1 + 1, 1, none⟩ = some (.slice ay ny cy) := (cell_rowL hF2.out.py 1).trans rfl
          have hown := hQ2.out.1
          rw [upFrom_length] at hown
          have HU : Hid (intCells (upFrom 50 (l + 1)) = intCells (upFrom 50 l) ++ [.int .i64 (50 + (l : Int))]) := by show _ = _; simp [intCells, upFrom_succ]
          go_wp2_with (at_builtin; refine wpList_append_own _ rfl _ _ 24 rfl (W1.heap.size) 3 i0 (.int .i64 0) 1 8 Try.underlying24 hi hz0 hz1 hz2 rfl (by decide) _ _ _ rfl (hown.alloc _) ⟨wr.heap.size, 0, none⟩ 1 1 [.int .i64 (50 + (l : Int))] rfl rfl (cell_one_new _ _ _) (fun x hx => by simp at hx; subst hx; rfl) (by unfold maxLen; omega) (by omega) (by have := hszw; simp; omega) ?_)
          intro v' w3 hown' hgrow _
          rw [← HU.out] at hown'
          have hrow : ∀ q, (Value.slice ay ny cy).ownBlock = some q → W1.heap.size ≤ q := fun q hq => (hown.lt q hq).1
          have HF3 := hid ((hF2.out.alloc (.cells #[.int .i64 (50 + (l : Int))] 3)).row hgrow (fun q hq => by have := hrow q hq; omega))
          have HX3 := hid ((hO2.out.alloc (.cells #[.int .i64 (50 + (l : Int))] 3)).ne hgrow (by
            cases hq : (Value.slice ax nx cx).ownBlock with
            | none => exact .inl rfl
            | some q => exact .inr (fun e => by have h4 := (hxlt q hq).2; have h5 := hrow q e.symm; omega)))
          have cY3 := cell_rowL HF3.out.py
          have fY3 := frozen_rowL HF3.out.py
          have hsz3 : W1.heap.size ≤ w3.heap.size := by have := hgrow.size; simp at this; omega
          obtain ⟨az, nz, cz, rfl⟩ : ∃ ao n cap, v' = .slice ao n cap := by
            rcases hown'.2 with ⟨hv, _⟩ | ⟨g, cap, cur, hv, _⟩
            · exact ⟨_, _, _, hv⟩
            · exact ⟨_, _, _, hv⟩
          have HF4 := hid (HF3.out.setY (.slice az nz cz))
          have HX4 := hid (HX3.out.ty (grown_setCell w3 (B + 1 + 1) 1 (.slice az nz cz)) (fun q hq => by cases hq; exact ⟨_, _, _, HF3.out.py, by decide⟩))
          have HO4 : Hid (OwnInts (w3.setCell ⟨B + 1 + 1, 1, none⟩ (.slice az nz cz)) W1.heap.size (.slice az nz cz) (upFrom 50 (l + 1))) := by
            refine OwnInts.ty ⟨?_, by rw [upFrom_length]; omega⟩ (grown_setCell w3 (B + 1 + 1) 1 _) (fun q hq => by cases hq; exact ⟨_, _, _, HF3.out.py, by decide⟩)
            rw [upFrom_length]
            exact hown'
          clear hgrow hown hown' hrow HF3 HX3 cY
          go_wp2
          go_roundw
          case rel => exact ⟨l + 1, _, by omega, by go_num, HF4, HX4, HO4, by simpa [World.setCell] using hsz3⟩
          case measure => simp [intOf]; omega
        · have hle : l = b := by omega
          subst hle
          clear hll hl
          have HQ := hid (hQ2.out.mono hsz)
          have hkB : decide (0 < k) = true := by have h4 := CA.out; have h5 := CB.out; simp; omega
          have hlB : decide (0 < l) = true := by have h4 := CA.out; have h5 := CB.out; simp; omega
          have hklB : decide ((k : Int) + (l : Int) ≤ 20) = false := by have h4 := CA.out; have h5 := CB.out; simp; omega
          have hk0 : ((k : Int) == 0) = false := by have h4 := CA.out; have h5 := CB.out; simp; omega
          have hl0 : ((l : Int) == 0) = false := by have h4 := CA.out; have h5 := CB.out; simp; omega
          have HFt := hF2
          have HOt := hO2
          have HQt := HQ
          have cPt := cell_rowL HFt.out.pg
          have fPt := frozen_rowL HFt.out.pg
          have cXt := cell_rowL HFt.out.px
          have cYt := cell_rowL HFt.out.py
          have HOF := hid (ownFrees_nil wr (B + 3))
          clear hF2 hO2 hQ2 HQ hszw
          obtain ⟨hal0, us0, hus0, hown0, hids0⟩ := HOF.out
          have HH0 := hid hids0
          clear hids0
          go_wp2_with (at_builtin; refine wpList_append_own _ rfl _ _ 25 rfl (B + 3) 53 j0 (.agg #[.int .u64 0, .slice none 0 0]) 2 32 Try.underlying25 hj hy0 hy1 hy2 rfl (by decide) _ _ _ rfl (hown0.alloc _) ⟨wr.heap.size, 0, none⟩ 1 1 [.int .u64 5, .slice ax nx cx] rfl rfl (World.news_of_block (cs := #[.int .u64 5, .slice ax nx cx]) (t := 53) (fr := (0, 0)) (heap_newL wr _)) (fun x hx => by simp at hx; rcases hx with rfl | rfl <;> rfl) (by unfold maxLen; simp) (by simp) (by have := HFt.out.size; simp; omega) ?_)
          intro v0 W0 hg0 hgr0 _
          have hrw0 : ∀ q, (Value.slice none 0 0).ownBlock = some q → B + 3 ≤ q := fun q hq => (hown0.lt q hq).1
          have HFa := hid ((HFt.out.alloc (.cells #[.int .u64 5, .slice ax nx cx] 53)).row hgr0 hrw0)
          have HOFa := hid (frees_grow (by simp) hus0 hown0 HH0.out hg0 hgr0 HOt.out)
          have HOa := hid ((HOt.out.alloc (.cells #[.int .u64 5, .slice ax nx cx] 53)).ty hgr0 (fun q hq => by obtain ⟨cs, fr, h4⟩ := owns_block hown0 q hq; exact ⟨cs, _, fr, (Below.heap_alloc _ _ _ (hown0.lt q hq).2).trans h4, by decide⟩))
          have HQa := hid ((HQt.out.alloc (.cells #[.int .u64 5, .slice ax nx cx] 53)).ty hgr0 (fun q hq => by obtain ⟨cs, fr, h4⟩ := owns_block hown0 q hq; exact ⟨cs, _, fr, (Below.heap_alloc _ _ _ (hown0.lt q hq).2).trans h4, by decide⟩))
          obtain ⟨af0, nf0, cf0, rfl⟩ : ∃ ao n cap, v0 = .slice ao n cap := by
            rcases hg0.2 with ⟨hv, _⟩ | ⟨g, cap, cur, hv, _⟩
            · exact ⟨_, _, _, hv⟩
            · exact ⟨_, _, _, hv⟩
          have cPa0 := cell_rowL HFa.out.pg
          have fPa0 := frozen_rowL HFa.out.pg
          clear cPt fPt cXt cYt HOF HFt HOt HQt
          have HFt := hid (HFa.out.setP (Value.slice af0 nf0 cf0))
          have hty0 : ∀ q, some B = some q → ∃ cs T fr, W0.heap[q]? = some (.cells cs T fr) ∧ T = 32 := fun q hq => by
            cases hq
            exact ⟨_, _, _, HFa.out.pg, rfl⟩
          have HOF := hid (HOFa.out.ty (grown_setCell W0 B 6 (Value.slice af0 nf0 cf0)) (fun q hq => by obtain ⟨cs, T, fr, h4, h5⟩ := hty0 q hq; exact ⟨cs, T, fr, h4, by rw [h5]; decide, by rw [h5]; decide⟩))
          have HOt := hid (HOa.out.ty (grown_setCell W0 B 6 (Value.slice af0 nf0 cf0)) (fun q hq => by obtain ⟨cs, T, fr, h4, h5⟩ := hty0 q hq; exact ⟨cs, T, fr, h4, by rw [h5]; decide⟩))
          have HQt := hid (HQa.out.ty (grown_setCell W0 B 6 (Value.slice af0 nf0 cf0)) (fun q hq => by obtain ⟨cs, T, fr, h4, h5⟩ := hty0 q hq; exact ⟨cs, T, fr, h4, by rw [h5]; decide⟩))
          have cPt := cell_rowL HFt.out.pg
          have fPt := frozen_rowL HFt.out.pg
          have cXt := cell_rowL HFt.out.px
          have cYt := cell_rowL HFt.out.py
          have hsW0 : (W0.setCell ⟨B, 6, none⟩ (Value.slice af0 nf0 cf0)).heap.size = W0.heap.size := by simp [World.setCell]
          clear HFa HOFa HOa HQa hg0 hgr0 hown0 hrw0 hty0 HH0
          obtain ⟨hal1, us1, hus1, hown1, hids1⟩ := HOF.out
          have HH1 := hid hids1
          clear hids1
          go_wp2_with (at_builtin; refine wpList_append_own _ rfl _ _ 25 rfl (B + 3) 53 j0 (.agg #[.int .u64 0, .slice none 0 0]) 2 32 Try.underlying25 hj hy0 hy1 hy2 rfl (by decide) _ _ _ rfl (hown1.alloc _) ⟨W0.heap.size, 0, none⟩ 1 1 [.int .u64 5, .slice ay ny cy] rfl rfl (World.news_of_block (cs := #[.int .u64 5, .slice ay ny cy]) (t := 53) (fr := (0, 0)) (by rw [← hsW0]; exact heap_newL _ _)) (fun x hx => by simp at hx; rcases hx with rfl | rfl <;> rfl) (by unfold maxLen; simp) (by simp) (by have := HFt.out.size; simp; omega) ?_)
          intro v1 W1 hg1 hgr1 _
          have hrw1 : ∀ q, (Value.slice af0 nf0 cf0).ownBlock = some q → B + 3 ≤ q := fun q hq => (hown1.lt q hq).1
          have HFa := hid ((HFt.out.alloc (.cells #[.int .u64 5, .slice ay ny cy] 53)).row hgr1 hrw1)
          have HOFa := hid (frees_grow (by simp) hus1 hown1 HH1.out hg1 hgr1 HQt.out)
          have HOa := hid ((HOt.out.alloc (.cells #[.int .u64 5, .slice ay ny cy] 53)).ty hgr1 (fun q hq => by obtain ⟨cs, fr, h4⟩ := owns_block hown1 q hq; exact ⟨cs, _, fr, (Below.heap_alloc _ _ _ (hown1.lt q hq).2).trans h4, by decide⟩))
          have HQa := hid ((HQt.out.alloc (.cells #[.int .u64 5, .slice ay ny cy] 53)).ty hgr1 (fun q hq => by obtain ⟨cs, fr, h4⟩ := owns_block hown1 q hq; exact ⟨cs, _, fr, (Below.heap_alloc _ _ _ (hown1.lt q hq).2).trans h4, by decide⟩))
          obtain ⟨af1, nf1, cf1, rfl⟩ : ∃ ao n cap, v1 = .slice ao n cap := by
            rcases hg1.2 with ⟨hv, _⟩ | ⟨g, cap, cur, hv, _⟩
            · exact ⟨_, _, _, hv⟩
            · exact ⟨_, _, _, hv⟩
          have cPa1 := cell_rowL HFa.out.pg
          have fPa1 := frozen_rowL HFa.out.pg
          clear cPt fPt cXt cYt HOF HFt HOt HQt
          have HFt := hid (HFa.out.setP (Value.slice af1 nf1 cf1))
          have hty1 : ∀ q, some B = some q → ∃ cs T fr, W1.heap[q]? = some (.cells cs T fr) ∧ T = 32 := fun q hq => by
            cases hq
            exact ⟨_, _, _, HFa.out.pg, rfl⟩
          have HOF := hid (HOFa.out.ty (grown_setCell W1 B 6 (Value.slice af1 nf1 cf1)) (fun q hq => by obtain ⟨cs, T, fr, h4, h5⟩ := hty1 q hq; exact ⟨cs, T, fr, h4, by rw [h5]; decide, by rw [h5]; decide⟩))
          have HOt := hid (HOa.out.ty (grown_setCell W1 B 6 (Value.slice af1 nf1 cf1)) (fun q hq => by obtain ⟨cs, T, fr, h4, h5⟩ := hty1 q hq; exact ⟨cs, T, fr, h4, by rw [h5]; decide⟩))
          have HQt := hid (HQa.out.ty (grown_setCell W1 B 6 (Value.slice af1 nf1 cf1)) (fun q hq => by obtain ⟨cs, T, fr, h4, h5⟩ := hty1 q hq; exact ⟨cs, T, fr, h4, by rw [h5]; decide⟩))
          have cPt := cell_rowL HFt.out.pg
          have fPt := frozen_rowL HFt.out.pg
          have cXt := cell_rowL HFt.out.px
          have cYt := cell_rowL HFt.out.py
          have hsW1 : (W1.setCell ⟨B, 6, none⟩ (Value.slice af1 nf1 cf1)).heap.size = W1.heap.size := by simp [World.setCell]
          clear HFa HOFa HOa HQa hg1 hgr1 hown1 hrw1 hty1 HH1
          obtain ⟨fl, hfl⟩ : ∃ fl : List FreeD, fl = (([] ++ [⟨5, (upFrom 2 k)⟩]) ++ [⟨5, (upFrom 50 l)⟩]) := ⟨_, rfl⟩
          rw [← hfl] at HOF
          have HPB : Hid (isPB (frP fl) = false) := by
            show _ = _
            rw [hfl]
            exact is_frees_f11n k ha15 l hb15 CA.out CB.out ckl
          have HTX : Hid (TxnOk (frP fl)) := by
            rw [hfl]
            exact ⟨by simp [frP, noPage], by simp [frP]⟩
          have HHG := hid (fun X (hX : Below (W1.setCell ⟨B, 6, none⟩ (Value.slice af1 nf1 cf1)).heap.size (W1.setCell ⟨B, 6, none⟩ (Value.slice af1 nf1 cf1)) X) => (hangs_fr HOF.out).below hX)
          have HBY : Hid (∀ X, Below (W1.setCell ⟨B, 6, none⟩ (Value.slice af1 nf1 cf1)).heap.size (W1.setCell ⟨B, 6, none⟩ (Value.slice af1 nf1 cf1)) X → Calls Try.prog 9 #[.agg #[.int .i64 5, .slice none 0 0, .slice none 0 0, .slice none 0 0, .string ⟨#[]⟩, .slice none 0 0, (Value.slice af1 nf1 cf1), .int .i64 0, .int .u64 0, .int .i64 0, .int .i64 0, .int .i64 0, .int .i64 0, .int .i64 0]] X fun e w' => e = .returned (.string (bs (bytesD (frP fl)))) ∧ Below X.heap.size X w') := fun X hX => bytes_any (frP fl) (.slice none 0 0) (.slice none 0 0) (.slice none 0 0) (.slice none 0 0) (Value.slice af1 nf1 cf1) X (HHG.out X hX) HTX.out
          have HIS : Hid (∀ X, Below (W1.setCell ⟨B, 6, none⟩ (Value.slice af1 nf1 cf1)).heap.size (W1.setCell ⟨B, 6, none⟩ (Value.slice af1 nf1 cf1)) X → Calls Try.prog 10 #[.agg #[.int .i64 5, .slice none 0 0, .slice none 0 0, .slice none 0 0, .string ⟨#[]⟩, .slice none 0 0, (Value.slice af1 nf1 cf1), .int .i64 0, .int .u64 0, .int .i64 0, .int .i64 0, .int .i64 0, .int .i64 0, .int .i64 0]] X fun e w' => e = .returned (.bool false) ∧ Below X.heap.size X w') := fun X hX => by
            have := is_any (frP fl) (.slice none 0 0) (.slice none 0 0) (.slice none 0 0) (.slice none 0 0) (Value.slice af1 nf1 cf1) X (HHG.out X hX)
            rw [HPB.out] at this
            exact this
          have HP0 : Hid (∀ X, Below (W1.setCell ⟨B, 6, none⟩ (Value.slice af1 nf1 cf1)).heap.size (W1.setCell ⟨B, 6, none⟩ (Value.slice af1 nf1 cf1)) X → X.heap[B]? = some (.cells #[.int .i64 5, .slice none 0 0, .slice none 0 0, .slice none 0 0, .string ⟨#[]⟩, .slice none 0 0, (Value.slice af1 nf1 cf1), .int .i64 0, .int .u64 0, .int .i64 0, .int .i64 0, .int .i64 0, .int .i64 0, .int .i64 0] 32 (0, 0))) := fun X hX => (hX.block B (by have := HFt.out.size; omega)).trans HFt.out.pg
          have HBB : Hid (∀ X, Below (W1.setCell ⟨B, 6, none⟩ (Value.slice af1 nf1 cf1)).heap.size (W1.setCell ⟨B, 6, none⟩ (Value.slice af1 nf1 cf1)) X → Below w.heap.size w X) := fun X hX => HB1.out.trans ((HFt.out.below.trans (hX.mono (by have := HFt.out.size; omega))).mono (by have := HB1.out.size; omega))
          have HRB : Hid (∀ X, Calls Try.prog 11 #[.string (bs (bytesD (frP fl)))] X fun e w' => ∃ vi vk vd vv vf, e = .returned (.tuple #[.agg #[.int .i64 0, vi, vk, vd, .string ⟨#[]⟩, vv, vf, .int .i64 0, .int .u64 0, .int .i64 0, .int .i64 0, .int .i64 0, .int .i64 0, .int .i64 0], .iface 44 (.int .i64 12)]) ∧ Hangs w' noPage vi vk vd vv vf ∧ Below X.heap.size X w') := fun X => by
            have := read_back (frP fl) HTX.out X
            rw [HPB.out] at this
            exact this
          clear HOt HQt HOF HPB HTX hfl
          have hnil := Try.eqNilNil
          have hnil2 := Try.eqNil
          go_wp2_with fail
          clear cPt fPt cXt cYt HFt
          clear hsW0 cPa0 fPa0
          clear hsW1 cPa1 fPa1
          generalize (W1.setCell ⟨B, 6, none⟩ (Value.slice af1 nf1 cf1)) = X0 at *
          have hb0 : Below X0.heap.size X0 X0 := Below.refl _ _
          refine (HBY.out _ hb0).mono ?_
          rintro e x1 ⟨rfl, hb⟩
          have hb1 := hb0.trans hb
          clear hb hb0 HBY
          go_wp2_with fail
          refine (HRB.out _).mono ?_
          rintro e x2 ⟨vi, vk, vd, vv, vf, rfl, hq, hb⟩
          obtain ⟨qi, mi, ci, rfl⟩ := hq.items.slice
          obtain ⟨qk, mk, ck, rfl⟩ := hq.keys.slice
          obtain ⟨qd, md, cd, rfl⟩ := hq.kids.slice
          obtain ⟨qv, mv, cv, rfl⟩ := hq.vals.slice
          obtain ⟨qf, mf, cf, rfl⟩ := hq.free.slice
          have hb2 := (hb1.trans (hb.mono hb1.size)).alloc (Nat.le_trans hb1.size hb.size) (.cells #[.int .i64 0, .slice qi mi ci, .slice qk mk ck, .slice qd md cd, .string ⟨#[]⟩, .slice qv mv cv, .slice qf mf cf, .int .i64 0, .int .u64 0, .int .i64 0, .int .i64 0, .int .i64 0, .int .i64 0, .int .i64 0] 32)
          have cP2 := cell_rowL (HP0.out _ hb2)
          have hz2 : x2.heap.size + 1 ≤ (x2.alloc (.cells #[.int .i64 0, .slice qi mi ci, .slice qk mk ck, .slice qd md cd, .string ⟨#[]⟩, .slice qv mv cv, .slice qf mf cf, .int .i64 0, .int .u64 0, .int .i64 0, .int .i64 0, .int .i64 0, .int .i64 0, .int .i64 0] 32)).heap.size := by simp
          clear hq hb hb1 HRB HHG
          go_wp2_with fail
          clear cP2
          generalize (x2.alloc (.cells #[.int .i64 0, .slice qi mi ci, .slice qk mk ck, .slice qd md cd, .string ⟨#[]⟩, .slice qv mv cv, .slice qf mf cf, .int .i64 0, .int .u64 0, .int .i64 0, .int .i64 0, .int .i64 0, .int .i64 0, .int .i64 0] 32)) = X3 at *
          refine (HIS.out _ hb2).mono ?_
          rintro e x4 ⟨rfl, hb⟩
          have hb4 := hb2.trans (hb.mono hb2.size)
          have hb5 := HBB.out _ hb4
          clear hb hb2 HIS HP0 HBB
          go_wp2
          go_ret
          exact ⟨rfl, hb5⟩

set_option maxHeartbeats 4000000 in
set_option maxRecDepth 100000 in
theorem frees_t00 (n m : Int) (w : World) (h0 : 0 ≤ n) (h1 : n < 256) (h2 : 0 ≤ m) (h3 : m < 256) (a b : Nat) (ha : n % 15 = a) (hb : m % 15 = b) (ha15 : a < 15) (hb15 : b < 15) (ca : a = 0) (cb : b = 0) :
    Calls Try.prog 7 #[.int .u8 n, .int .u8 m, .bool true] w fun e w' => e = .returned (.bool true) ∧ Below w.heap.size w w' := by
  have CA := hid ca
  have CB := hid cb
  clear ca cb
  obtain ⟨i0, hi, hz0, hz1, hz2⟩ := info_parts Try.infoInt
  obtain ⟨j0, hj, hy0, hy1, hy2⟩ := info_parts Try.infoFree
  go_enter Try.func7, Try.ntmps7
  go_wp2_with fail
  refine (known_any _).mono ?_
  rintro e w1 ⟨rfl, hb1⟩
  go_wp2
  have hFr0 : Fr w1 w1.heap.size (((w1.alloc (.cells #[.int .i64 5, .slice none 0 0, .slice none 0 0, .slice none 0 0, .string ⟨#[]⟩, .slice none 0 0, .slice none 0 0, .int .i64 0, .int .u64 0, .int .i64 0, .int .i64 0, .int .i64 0, .int .i64 0, .int .i64 0] 32)).alloc (.cells #[.int .u64 5, .slice none 0 0] 53)).alloc (.cells #[.int .u64 5, .slice none 0 0] 53)) (.slice none 0 0) (.slice none 0 0) (.slice none 0 0) 5 := by
    have e1 : (w1.alloc (.cells #[.int .i64 5, .slice none 0 0, .slice none 0 0, .slice none 0 0, .string ⟨#[]⟩, .slice none 0 0, .slice none 0 0, .int .i64 0, .int .u64 0, .int .i64 0, .int .i64 0, .int .i64 0, .int .i64 0, .int .i64 0] 32)).heap.size = w1.heap.size + 1 := by simp
    have e2 : ((w1.alloc (.cells #[.int .i64 5, .slice none 0 0, .slice none 0 0, .slice none 0 0, .string ⟨#[]⟩, .slice none 0 0, .slice none 0 0, .int .i64 0, .int .u64 0, .int .i64 0, .int .i64 0, .int .i64 0, .int .i64 0, .int .i64 0] 32)).alloc (.cells #[.int .u64 5, .slice none 0 0] 53)).heap.size = w1.heap.size + 1 + 1 := by simp
    have p1 := heap_newL w1 (.cells #[.int .i64 5, .slice none 0 0, .slice none 0 0, .slice none 0 0, .string ⟨#[]⟩, .slice none 0 0, .slice none 0 0, .int .i64 0, .int .u64 0, .int .i64 0, .int .i64 0, .int .i64 0, .int .i64 0, .int .i64 0] 32)
    have p2 := heap_newL (w1.alloc (.cells #[.int .i64 5, .slice none 0 0, .slice none 0 0, .slice none 0 0, .string ⟨#[]⟩, .slice none 0 0, .slice none 0 0, .int .i64 0, .int .u64 0, .int .i64 0, .int .i64 0, .int .i64 0, .int .i64 0, .int .i64 0] 32)) (.cells #[.int .u64 5, .slice none 0 0] 53)
    have p3 := heap_newL ((w1.alloc (.cells #[.int .i64 5, .slice none 0 0, .slice none 0 0, .slice none 0 0, .string ⟨#[]⟩, .slice none 0 0, .slice none 0 0, .int .i64 0, .int .u64 0, .int .i64 0, .int .i64 0, .int .i64 0, .int .i64 0, .int .i64 0] 32)).alloc (.cells #[.int .u64 5, .slice none 0 0] 53)) (.cells #[.int .u64 5, .slice none 0 0] 53)
    rw [e1] at p2
    rw [e2] at p3
    exact ⟨(Below.heap_alloc _ _ _ (by simp; omega)).trans ((Below.heap_alloc _ _ _ (by simp)).trans p1), (Below.heap_alloc _ _ _ (by simp)).trans p2, p3, (((Below.refl _ _).alloc (Nat.le_refl _) _).alloc (by simp) _).alloc (by simp; omega) _, by simp⟩
  generalize (((w1.alloc (.cells #[.int .i64 5, .slice none 0 0, .slice none 0 0, .slice none 0 0, .string ⟨#[]⟩, .slice none 0 0, .slice none 0 0, .int .i64 0, .int .u64 0, .int .i64 0, .int .i64 0, .int .i64 0, .int .i64 0, .int .i64 0] 32)).alloc (.cells #[.int .u64 5, .slice none 0 0] 53)).alloc (.cells #[.int .u64 5, .slice none 0 0] 53)) = W0 at *
  generalize hBd : w1.heap.size = B at *
  have HB1 := hid hb1
  clear hb1 ha hb
  go_loopw [12] (fun i wr => ∃ (k : Nat) (vx : Value), k ≤ a ∧ i = .int .i64 k ∧ Hid (Fr w1 B wr (.slice none 0 0) vx (.slice none 0 0) 5) ∧ Hid (OwnInts wr (B + 3) vx (upFrom 2 k))) (fun i _ => a - (intOf i).toNat)
  case atStart => exact ⟨0, _, Nat.zero_le _, rfl, hFr0, ownInts_nil _ _⟩
  case round =>
    obtain ⟨k, vx, hk, rfl, hF, hO⟩ := hrel
    clear hFr0
    obtain ⟨ax, nx, cx, rfl⟩ := hO.out.slice
    have hsz := hF.out.size
    by_cases hlk : k < a
    · have cX : wr.cell? ⟨B + 1, 1, none⟩ = some (.slice ax nx cx) := (cell_rowL hF.out.px 1).trans rfl
      have hown := hO.out.1
      rw [upFrom_length] at hown
      have HU : Hid (intCells (upFrom 2 (k + 1)) = intCells (upFrom 2 k) ++ [.int .i64 (2 + (k : Int))]) := by show _ = _; simp [intCells, upFrom_succ]
      go_wp2_with (at_builtin; refine wpList_append_own _ rfl _ _ 24 rfl (B + 3) 3 i0 (.int .i64 0) 1 8 Try.underlying24 hi hz0 hz1 hz2 rfl (by decide) _ _ _ rfl (hown.alloc _) ⟨wr.heap.size, 0, none⟩ 1 1 [.int .i64 (2 + (k : Int))] rfl rfl (cell_one_new _ _ _) (fun x hx => by simp at hx; subst hx; rfl) (by unfold maxLen; omega) (by omega) (by have := hsz; simp; omega) ?_)
      intro v' w3 hown' hgrow _
      rw [← HU.out] at hown'
      have hrow : ∀ q, (Value.slice ax nx cx).ownBlock = some q → B + 3 ≤ q := fun q hq => (hown.lt q hq).1
      have HF3 := hid ((hF.out.alloc (.cells #[.int .i64 (2 + (k : Int))] 3)).row hgrow hrow)
      have cX3 := cell_rowL HF3.out.px
      have fX3 := frozen_rowL HF3.out.px
      obtain ⟨ay, ny, cy, rfl⟩ : ∃ ao n cap, v' = .slice ao n cap := by
        rcases hown'.2 with ⟨hv, _⟩ | ⟨g, cap, cur, hv, _⟩
        · exact ⟨_, _, _, hv⟩
        · exact ⟨_, _, _, hv⟩
      have HF4 := hid (HF3.out.setX (.slice ay ny cy))
      have HO4 : Hid (OwnInts (w3.setCell ⟨B + 1, 1, none⟩ (.slice ay ny cy)) (B + 3) (.slice ay ny cy) (upFrom 2 (k + 1))) := by
        refine OwnInts.lt ⟨?_, by rw [upFrom_length]; omega⟩ (grown_setCell w3 (B + 1) 1 _) (fun q hq => by cases hq; omega)
        rw [upFrom_length]
        exact hown'
      clear hgrow hown hown' hrow HF3 cX
      go_wp2
      go_roundw
      case rel => exact ⟨k + 1, _, by omega, by go_num, HF4, HO4⟩
      case measure => simp [intOf]; omega
    · have hke : k = a := by omega
      subst hke
      clear hlk hk
      obtain ⟨W1, hW1⟩ : ∃ W1, W1 = wr := ⟨_, rfl⟩
      subst hW1
      have hxlt : ∀ q, (Value.slice ax nx cx).ownBlock = some q → B + 3 ≤ q ∧ q < W1.heap.size := hO.out.1.lt
      go_wp2
      go_loopw [13] (fun i wr => ∃ (l : Nat) (vy : Value), l ≤ b ∧ i = .int .i64 l ∧ Hid (Fr w1 B wr (.slice none 0 0) (.slice ax nx cx) vy 5) ∧ Hid (OwnInts wr (B + 3) (.slice ax nx cx) (upFrom 2 k)) ∧ Hid (OwnInts wr W1.heap.size vy (upFrom 50 l)) ∧ W1.heap.size ≤ wr.heap.size) (fun i _ => b - (intOf i).toNat)
      case atStart => exact ⟨0, _, Nat.zero_le _, rfl, hF, hO, ownInts_nil _ _, Nat.le_refl _⟩
      case round =>
        obtain ⟨l, vy, hl, rfl, hF2, hO2, hQ2, hszw⟩ := hrel
        clear hF hO
        obtain ⟨ay, ny, cy, rfl⟩ := hQ2.out.slice
        by_cases hll : l < b
        · have cY : wr.cell? ⟨B + 1 + 1, 1, none⟩ = some (.slice ay ny cy) := (cell_rowL hF2.out.py 1).trans rfl
          have hown := hQ2.out.1
          rw [upFrom_length] at hown
          have HU : Hid (intCells (upFrom 50 (l + 1)) = intCells (upFrom 50 l) ++ [.int .i64 (50 + (l : Int))]) := by show _ = _; simp [intCells, upFrom_succ]
          go_wp2_with (at_builtin; refine wpList_append_own _ rfl _ _ 24 rfl (W1.heap.size) 3 i0 (.int .i64 0) 1 8 Try.underlying24 hi hz0 hz1 hz2 rfl (by decide) _ _ _ rfl (hown.alloc _) ⟨wr.heap.size, 0, none⟩ 1 1 [.int .i64 (50 + (l : Int))] rfl rfl (cell_one_new _ _ _) (fun x hx => by simp at hx; subst hx; rfl) (by unfold maxLen; omega) (by omega) (by have := hszw; simp; omega) ?_)
          intro v' w3 hown' hgrow _
          rw [← HU.out] at hown'
          have hrow : ∀ q, (Value.slice ay ny cy).ownBlock = some q → W1.heap.size ≤ q := fun q hq => (hown.lt q hq).1
          have HF3 := hid ((hF2.out.alloc (.cells #[.int .i64 (50 + (l : Int))] 3)).row hgrow (fun q hq => by have := hrow q hq; omega))
          have HX3 := hid ((hO2.out.alloc (.cells #[.int .i64 (50 + (l : Int))] 3)).ne hgrow (by
            cases hq : (Value.slice ax nx cx).ownBlock with
            | none => exact .inl rfl
            | some q => exact .inr (fun e => by have h4 := (hxlt q hq).2; have h5 := hrow q e.symm; omega)))
          have cY3 := cell_rowL HF3.out.py
          have fY3 := frozen_rowL HF3.out.py
          have hsz3 : W1.heap.size ≤ w3.heap.size := by have := hgrow.size; simp at this; omega
          obtain ⟨az, nz, cz, rfl⟩ : ∃ ao n cap, v' = .slice ao n cap := by
            rcases hown'.2 with ⟨hv, _⟩ | ⟨g, cap, cur, hv, _⟩
            · exact ⟨_, _, _, hv⟩
            · exact ⟨_, _, _, hv⟩
          have HF4 := hid (HF3.out.setY (.slice az nz cz))
          have HX4 := hid (HX3.out.ty (grown_setCell w3 (B + 1 + 1) 1 (.slice az nz cz)) (fun q hq => by cases hq; exact ⟨_, _, _, HF3.out.py, by decide⟩))
          have HO4 : Hid (OwnInts (w3.setCell ⟨B + 1 + 1, 1, none⟩ (.slice az nz cz)) W1.heap.size (.slice az nz cz) (upFrom 50 (l + 1))) := by
            refine OwnInts.ty ⟨?_, by rw [upFrom_length]; omega⟩ (grown_setCell w3 (B + 1 + 1) 1 _) (fun q hq => by cases hq; exact ⟨_, _, _, HF3.out.py, by decide⟩)
            rw [upFrom_length]
            exact hown'
          clear hgrow hown hown' hrow HF3 HX3 cY
          go_wp2
          go_roundw
          case rel => exact ⟨l + 1, _, by omega, by go_num, HF4, HX4, HO4, by simpa [World.setCell] using hsz3⟩
          case measure => simp [intOf]; omega
        · have hle : l = b := by omega
          subst hle
          clear hll hl
          have HQ := hid (hQ2.out.mono hsz)
          have hkB : decide (0 < k) = false := by have h4 := CA.out; have h5 := CB.out; simp; omega
          have hlB : decide (0 < l) = false := by have h4 := CA.out; have h5 := CB.out; simp; omega
          have hklB : decide ((k : Int) + (l : Int) ≤ 20) = true := by have h4 := CA.out; have h5 := CB.out; simp; omega
          have hk0 : ((k : Int) == 0) = true := by have h4 := CA.out; have h5 := CB.out; simp; omega
          have hl0 : ((l : Int) == 0) = true := by have h4 := CA.out; have h5 := CB.out; simp; omega
          have HFt := hid (hF2.out.setT 4)
          have HOt := hid (hO2.out.ty (grown_setCell wr (B + 1 + 1) 0 (.int .u64 4)) (fun q hq => by cases hq; exact ⟨_, _, _, hF2.out.py, by decide⟩))
          have HQt := hid (HQ.out.ty (grown_setCell wr (B + 1 + 1) 0 (.int .u64 4)) (fun q hq => by cases hq; exact ⟨_, _, _, hF2.out.py, by decide⟩))
          have cY := cell_rowL hF2.out.py
          have fY := frozen_rowL hF2.out.py
          have hszT : (wr.setCell ⟨B + 1 + 1, 0, none⟩ (.int .u64 4)).heap.size = wr.heap.size := by simp [World.setCell]
          have cPt := cell_rowL HFt.out.pg
          have fPt := frozen_rowL HFt.out.pg
          have cXt := cell_rowL HFt.out.px
          have cYt := cell_rowL HFt.out.py
          have HOF := hid (ownFrees_nil (wr.setCell ⟨B + 1 + 1, 0, none⟩ (.int .u64 4)) (B + 3))
          clear hF2 hO2 hQ2 HQ hszw
          obtain ⟨fl, hfl⟩ : ∃ fl : List FreeD, fl = [] := ⟨_, rfl⟩
          rw [← hfl] at HOF
          have HPB : Hid (isPB (frP fl) = true) := by
            show _ = _
            rw [hfl]
            exact is_frees_t00 
          have HTX : Hid (TxnOk (frP fl)) := by
            rw [hfl]
            exact ⟨by simp [frP, noPage], by simp [frP]⟩
          have HHG := hid (fun X (hX : Below (wr.setCell ⟨B + 1 + 1, 0, none⟩ (.int .u64 4)).heap.size (wr.setCell ⟨B + 1 + 1, 0, none⟩ (.int .u64 4)) X) => (hangs_fr HOF.out).below hX)
          have HBY : Hid (∀ X, Below (wr.setCell ⟨B + 1 + 1, 0, none⟩ (.int .u64 4)).heap.size (wr.setCell ⟨B + 1 + 1, 0, none⟩ (.int .u64 4)) X → Calls Try.prog 9 #[.agg #[.int .i64 5, .slice none 0 0, .slice none 0 0, .slice none 0 0, .string ⟨#[]⟩, .slice none 0 0, (Value.slice none 0 0), .int .i64 0, .int .u64 0, .int .i64 0, .int .i64 0, .int .i64 0, .int .i64 0, .int .i64 0]] X fun e w' => e = .returned (.string (bs (bytesD (frP fl)))) ∧ Below X.heap.size X w') := fun X hX => bytes_any (frP fl) (.slice none 0 0) (.slice none 0 0) (.slice none 0 0) (.slice none 0 0) (Value.slice none 0 0) X (HHG.out X hX) HTX.out
          have HIS : Hid (∀ X, Below (wr.setCell ⟨B + 1 + 1, 0, none⟩ (.int .u64 4)).heap.size (wr.setCell ⟨B + 1 + 1, 0, none⟩ (.int .u64 4)) X → Calls Try.prog 10 #[.agg #[.int .i64 5, .slice none 0 0, .slice none 0 0, .slice none 0 0, .string ⟨#[]⟩, .slice none 0 0, (Value.slice none 0 0), .int .i64 0, .int .u64 0, .int .i64 0, .int .i64 0, .int .i64 0, .int .i64 0, .int .i64 0]] X fun e w' => e = .returned (.bool true) ∧ Below X.heap.size X w') := fun X hX => by
            have := is_any (frP fl) (.slice none 0 0) (.slice none 0 0) (.slice none 0 0) (.slice none 0 0) (Value.slice none 0 0) X (HHG.out X hX)
            rw [HPB.out] at this
            exact this
          have HP0 : Hid (∀ X, Below (wr.setCell ⟨B + 1 + 1, 0, none⟩ (.int .u64 4)).heap.size (wr.setCell ⟨B + 1 + 1, 0, none⟩ (.int .u64 4)) X → X.heap[B]? = some (.cells #[.int .i64 5, .slice none 0 0, .slice none 0 0, .slice none 0 0, .string ⟨#[]⟩, .slice none 0 0, (Value.slice none 0 0), .int .i64 0, .int .u64 0, .int .i64 0, .int .i64 0, .int .i64 0, .int .i64 0, .int .i64 0] 32 (0, 0))) := fun X hX => (hX.block B (by have := HFt.out.size; omega)).trans HFt.out.pg
          have HBB : Hid (∀ X, Below (wr.setCell ⟨B + 1 + 1, 0, none⟩ (.int .u64 4)).heap.size (wr.setCell ⟨B + 1 + 1, 0, none⟩ (.int .u64 4)) X → Below w.heap.size w X) := fun X hX => HB1.out.trans ((HFt.out.below.trans (hX.mono (by have := HFt.out.size; omega))).mono (by have := HB1.out.size; omega))
          have HRB : Hid (∀ X, Calls Try.prog 11 #[.string (bs (bytesD (frP fl)))] X fun e w' => ∃ vi vk vd vv vf, e = .returned (.tuple #[.agg #[.int .i64 5, vi, vk, vd, .string ⟨#[]⟩, vv, vf, .int .i64 0, .int .u64 0, .int .i64 0, .int .i64 0, .int .i64 0, .int .i64 0, .int .i64 0], .nilIface]) ∧ Hangs w' (frP fl) vi vk vd vv vf ∧ Below X.heap.size X w') := fun X => by
            have := read_back (frP fl) HTX.out X
            rw [HPB.out] at this
            exact this
          clear HOt HQt HOF HPB HTX hfl
          have hnil := Try.eqNilNil
          have hnil2 := Try.eqNil
          go_wp2_with fail
          clear cPt fPt cXt cYt HFt
          clear hszT cY fY
          generalize (wr.setCell ⟨B + 1 + 1, 0, none⟩ (.int .u64 4)) = X0 at *
          have hb0 : Below X0.heap.size X0 X0 := Below.refl _ _
          refine (HBY.out _ hb0).mono ?_
          rintro e x1 ⟨rfl, hb⟩
          have hb1 := hb0.trans hb
          clear hb hb0 HBY
          go_wp2_with fail
          refine (HRB.out _).mono ?_
          rintro e x2 ⟨vi, vk, vd, vv, vf, rfl, hq, hb⟩
          obtain ⟨qi, mi, ci, rfl⟩ := hq.items.slice
          obtain ⟨qk, mk, ck, rfl⟩ := hq.keys.slice
          obtain ⟨qd, md, cd, rfl⟩ := hq.kids.slice
          obtain ⟨qv, mv, cv, rfl⟩ := hq.vals.slice
          obtain ⟨qf, mf, cf, rfl⟩ := hq.free.slice
          have hb2 := (hb1.trans (hb.mono hb1.size)).alloc (Nat.le_trans hb1.size hb.size) (.cells #[.int .i64 5, .slice qi mi ci, .slice qk mk ck, .slice qd md cd, .string ⟨#[]⟩, .slice qv mv cv, .slice qf mf cf, .int .i64 0, .int .u64 0, .int .i64 0, .int .i64 0, .int .i64 0, .int .i64 0, .int .i64 0] 32)
          have cP2 := cell_rowL (HP0.out _ hb2)
          have HSQ : Hid (∀ X, Below X0.heap.size X0 X → Below (x2.heap.size + 1) (x2.alloc (.cells #[.int .i64 5, .slice qi mi ci, .slice qk mk ck, .slice qd md cd, .string ⟨#[]⟩, .slice qv mv cv, .slice qf mf cf, .int .i64 0, .int .u64 0, .int .i64 0, .int .i64 0, .int .i64 0, .int .i64 0, .int .i64 0] 32)) X → Calls Try.prog 12 #[.agg #[.int .i64 5, .slice none 0 0, .slice none 0 0, .slice none 0 0, .string ⟨#[]⟩, .slice none 0 0, (Value.slice none 0 0), .int .i64 0, .int .u64 0, .int .i64 0, .int .i64 0, .int .i64 0, .int .i64 0, .int .i64 0], .agg #[.int .i64 5, .slice qi mi ci, .slice qk mk ck, .slice qd md cd, .string ⟨#[]⟩, .slice qv mv cv, .slice qf mf cf, .int .i64 0, .int .u64 0, .int .i64 0, .int .i64 0, .int .i64 0, .int .i64 0, .int .i64 0]] X fun e w' => e = .returned (.bool true) ∧ Below X.heap.size X w') := fun X hX hY => by
            have := same_any (frP fl) (frP fl) (.slice none 0 0) (.slice none 0 0) (.slice none 0 0) (.slice none 0 0) (Value.slice none 0 0) _ _ _ _ _ X (HHG.out X hX) (hq.below (((Below.refl _ _).alloc (Nat.le_refl _) _).trans (hY.mono (by omega))))
            rw [same_self] at this
            exact this
          have HQ0 : Hid (∀ X, Below (x2.heap.size + 1) (x2.alloc (.cells #[.int .i64 5, .slice qi mi ci, .slice qk mk ck, .slice qd md cd, .string ⟨#[]⟩, .slice qv mv cv, .slice qf mf cf, .int .i64 0, .int .u64 0, .int .i64 0, .int .i64 0, .int .i64 0, .int .i64 0, .int .i64 0] 32)) X → X.heap[x2.heap.size]? = some (.cells #[.int .i64 5, .slice qi mi ci, .slice qk mk ck, .slice qd md cd, .string ⟨#[]⟩, .slice qv mv cv, .slice qf mf cf, .int .i64 0, .int .u64 0, .int .i64 0, .int .i64 0, .int .i64 0, .int .i64 0, .int .i64 0] 32 (0, 0))) := fun X hX => newPage (hX.mono (by simp))
          have hy2 : Below (x2.heap.size + 1) (x2.alloc (.cells #[.int .i64 5, .slice qi mi ci, .slice qk mk ck, .slice qd md cd, .string ⟨#[]⟩, .slice qv mv cv, .slice qf mf cf, .int .i64 0, .int .u64 0, .int .i64 0, .int .i64 0, .int .i64 0, .int .i64 0, .int .i64 0] 32)) (x2.alloc (.cells #[.int .i64 5, .slice qi mi ci, .slice qk mk ck, .slice qd md cd, .string ⟨#[]⟩, .slice qv mv cv, .slice qf mf cf, .int .i64 0, .int .u64 0, .int .i64 0, .int .i64 0, .int .i64 0, .int .i64 0, .int .i64 0] 32)) := Below.refl _ _
          have hz2 : x2.heap.size + 1 ≤ (x2.alloc (.cells #[.int .i64 5, .slice qi mi ci, .slice qk mk ck, .slice qd md cd, .string ⟨#[]⟩, .slice qv mv cv, .slice qf mf cf, .int .i64 0, .int .u64 0, .int .i64 0, .int .i64 0, .int .i64 0, .int .i64 0, .int .i64 0] 32)).heap.size := by simp
          clear hq hb hb1 HRB HHG
          go_wp2_with fail
          clear cP2
          generalize (x2.alloc (.cells #[.int .i64 5, .slice qi mi ci, .slice qk mk ck, .slice qd md cd, .string ⟨#[]⟩, .slice qv mv cv, .slice qf mf cf, .int .i64 0, .int .u64 0, .int .i64 0, .int .i64 0, .int .i64 0, .int .i64 0, .int .i64 0] 32)) = X3 at *
          refine (HIS.out _ hb2).mono ?_
          rintro e x4 ⟨rfl, hb⟩
          have hb4 := hb2.trans (hb.mono hb2.size)
          have hy4 := hy2.trans (hb.mono hz2)
          have cP4 := cell_rowL (HP0.out _ hb4)
          have cQ4 := cell_rowL (HQ0.out _ hy4)
          clear hb hb2 hy2 HIS
          go_wp2_with fail
          clear cP4 cQ4
          refine (HSQ.out _ hb4 hy4).mono ?_
          rintro e x5 ⟨rfl, hb⟩
          have hb5 := HBB.out _ (hb4.trans (hb.mono hb4.size))
          clear hb HSQ HP0 HQ0 HBB
          go_wp2
          go_ret
          exact ⟨rfl, hb5⟩

end Go.Proofs.Ytkfhkhjoindcbaa

/- Contract of PackRows: it returns true and leaves what was there. -/
import Derived.Test.YtnnmnadlcejjhaaLists
import Derived.Deep.QuietTactic
import Derived.BigQuiet
import Derived.Deep.RegionWith
namespace Go.Proofs.Ytnnmnadlcejjhaa
open Go.RowKit
theorem Try.elem40 : Try.prog.underlying 40 = some (.slice (Try.prog.elem 40)) := by kernel_rfl
theorem Try.elem41 : Try.prog.underlying 41 = some (.slice (Try.prog.elem 41)) := by kernel_rfl
theorem Try.size40 (w : World) : (Go.sizeOf (Try.prog.elem 40)).run Try.prog w = .ok 1 w := by kernel_rfl
theorem Try.size41 (w : World) : (Go.sizeOf (Try.prog.elem 41)).run Try.prog w = .ok 1 w := by kernel_rfl
theorem at40 (a : Addr) (len cap k : Nat) (h : k < len) (w : World) : (Instr.indexAt 40 (.slice (some a) len cap) (.int .i64 (k : Int))).run Try.prog w = .ok (.pointer (some (a.add k))) w := by
  rw [run_indexAt_slice (P := Try.prog) w 40 a len cap .i64 k Try.elem40, if_pos (by omega), Try.size40]
  simp [Result.andThen]
theorem at41 (a : Addr) (len cap k : Nat) (h : k < len) (w : World) : (Instr.indexAt 41 (.slice (some a) len cap) (.int .i64 (k : Int))).run Try.prog w = .ok (.pointer (some (a.add k))) w := by
  rw [run_indexAt_slice (P := Try.prog) w 41 a len cap .i64 k Try.elem41, if_pos (by omega), Try.size41]
  simp [Result.andThen]
theorem add_block (a : Addr) (k n : Nat) (h : a.block < n) : (a.add k).block < n := by unfold Addr.add; split <;> exact h

theorem CutAt.drew {w : World} {b rb : Nat} {l : List UInt8} {sh : Bool} (h : CutAt w b rb l sh) : CutAt w.drew b rb l sh :=
  h.below (Below.drew (Below.refl w.heap.size w)) h.lt h.2.1

theorem below_cut {w wr w3 : World} {cb : Nat} (h : Below w.heap.size w wr) (g : wr.grownBy w3 (some cb)) (hge : w.heap.size ≤ cb) : Below w.heap.size w w3 :=
  h.grown g h.size (fun q hq => by simp at hq; omega)

theorem Try.neqNilNil (w : World) : (binOp .neq 37 .nilIface .nilIface).run Try.prog w = .ok (.bool false) w := by kernel_rfl

/-- The block that '[]byte(b)' lays. -/
theorem bytes_block (w : World) (b : ByteArray) (cap : Nat) (_h : b.size ≤ cap) :
    (∀ j (hj : j < b.size), ((w.alloc (Obj.cells (bytesRow b cap) 5 ((bytesRow b cap).size, (bytesRow b cap).size + 1))).drew).cell? ⟨w.heap.size, j, none⟩ = some (.int .u8 (b[j].toNat : Int))) ∧
    (∀ j, j < b.size → ((w.alloc (Obj.cells (bytesRow b cap) 5 ((bytesRow b cap).size, (bytesRow b cap).size + 1))).drew).frozen? ⟨w.heap.size, j, none⟩ = false) := by
  refine ⟨fun j hj => ?_, fun j hj => ?_⟩
  · show (w.alloc _).cell? _ = _
    rw [World.cell?_alloc_mark, bytesRow_at b cap j hj]
    rfl
  · show (w.alloc _).frozen? _ = _
    rw [World.frozen?_alloc_mark]
    have hs : b.size ≤ (bytesRow b cap).size := by simp [bytesRow]
    have : ¬ (bytesRow b cap).size ≤ j := by omega
    simp [this]
/-- The byte that is changed. -/
def flipB (c : UInt8) (q : Int) : UInt8 := c ^^^ UInt8.ofNat q.toNat
theorem flipB_nat (c : UInt8) (q : Int) (hq0 : 0 ≤ q) (hq : q < 256) : ((flipB c q).toNat : Int) = bits .xor .u8 (c.toNat : Int) q := by
  have h := c.toNat_lt
  rw [u8_xor _ _ (by omega) (by omega) hq0 hq]
  unfold flipB
  rw [UInt8.toNat_xor, UInt8.toNat_ofNat', Nat.mod_eq_of_lt (by omega)]
  simp
theorem flipB_same (c : UInt8) (q : Int) (hq0 : 0 ≤ q) (hq : q < 256) : flipB c q = c ↔ q = 0 := by
  constructor
  · intro h
    have h1 := congrArg UInt8.toNat h
    unfold flipB at h1
    rw [UInt8.toNat_xor, UInt8.toNat_ofNat', Nat.mod_eq_of_lt (by omega)] at h1
    have h2 := congrArg (c.toNat ^^^ ·) h1
    simp only [← Nat.xor_assoc, Nat.xor_self, Nat.zero_xor] at h2
    omega
  · intro h
    subst h
    simp [flipB]
/-- 'string(d)' behind the change. -/
theorem changed_back (W : World) (g : Nat) (b : ByteArray) (k : Nat) (q : Int) (cap : Nat) (hk : k < b.size) (hq0 : 0 ≤ q) (hq : q < 256) (hc : ∀ j (hj : j < b.size), W.cell? ⟨g, j, none⟩ = some (.int .u8 (b[j].toNat : Int))) :
    (convert 42 9 (.slice (some ⟨g, 0, none⟩) b.size cap)).run Try.prog (W.setCell ⟨g, k, none⟩ (.int .u8 (bits .xor .u8 (b[k].toNat : Int) q))).drew =
      .ok (.string ⟨(b.data.toList.set k (flipB b[k] q)).toArray⟩) (W.setCell ⟨g, k, none⟩ (.int .u8 (bits .xor .u8 (b[k].toNat : Int) q))).drew := by
  have hl : (b.data.toList.set k (flipB b[k] q)).length = b.size := by simp
  have := run_convert_bytes_back (P := Try.prog) (W.setCell ⟨g, k, none⟩ (.int .u8 (bits .xor .u8 (b[k].toNat : Int) q))).drew 42 9 5 ⟨g, 0, none⟩ cap (b.data.toList.set k (flipB b[k] q)) Try.underlying42 Try.underlying5 Try.underlying9 (fun j hj => ?_)
  · rw [hl] at this
    exact this
  · have hj' : j < b.size := by rw [← hl]; exact hj
    rw [← flipB_nat _ _ hq0 hq]
    show (W.setCell _ _).cell? _ = _
    rw [show (⟨g, 0, none⟩ : Addr).add j = ⟨g, j, none⟩ by unfold Addr.add; split <;> simp_all]
    by_cases e : k = j
    · subst e
      rw [World.cell?_setCell_same' _ _ _ (by rw [hc k hk]; rfl)]
      simp
    · rw [World.cell?_setCell_other _ _ _ _ (fun h => e (congrArg Addr.off h)), hc j hj']
      simp [e]
      rfl

theorem sum_bool (x y : Nat) (q : Int) (h : x = y ↔ q = 0) : (((x : Int) == (y : Int)) == (q == 0)) = true := by
  by_cases hq : q = 0
  · have := h.2 hq
    simp [hq, this]
  · have : ¬ x = y := fun e => hq (h.1 e)
    have h2 : ((x : Int) == (y : Int)) = false := by simp; omega
    have h3 : (q == 0) = false := by simpa using hq
    rw [h2, h3]
    rfl
theorem arr_sz (l : List UInt8) : (⟨l.toArray⟩ : ByteArray).size = l.length := by simp [ByteArray.size]
theorem sum_same (b : ByteArray) (k : Nat) (q : Int) (hk : k < b.size) (hq0 : 0 ≤ q) (hq : q < 256) : sumN (b.data.toList.set k (flipB b[k] q)) = sumN b.data.toList ↔ q = 0 := by
  rw [sumN_set _ _ _ (by simpa using hk)]
  exact flipB_same _ _ hq0 hq

set_option maxHeartbeats 400000 in
theorem rows_long (aN aS : Option Addr) (ln cn ls cs : Nat) (p q : Int) (w : World) (hn : ln ≤ maxLen) (hs : ls ≤ maxLen) (h : 20 < ln ∨ 20 < ls) :
    Calls Try.prog 4 #[.slice aN ln cn, .slice aS ls cs, .int .u8 p, .int .u8 q] w fun e w' => e = .returned (.bool true) ∧ Below w.heap.size w w' := by
  unfold maxLen at hn hs
  by_cases h1 : 20 < ln
  all_goals by_cases h2 : 20 < ls
  all_goals try omega
  all_goals
    clear h
    go_enter Try.func4, Try.ntmps4
    go_wp2_with fail
    refine (known_any _).mono ?_
    rintro e w1 ⟨rfl, hb1⟩
    go_wp2
    go_ret
    exact ⟨rfl, hb1⟩

set_option maxHeartbeats 2000000 in
theorem rows_main (aN aS : Option Addr) (ln cn ls cs : Nat) (p q : Int) (z : Nat → Int) (t : Nat → ByteArray) (w : World) (hn : ln ≤ 20) (hs : ls ≤ 20) (hp0 : 0 ≤ p) (hp : p < 256) (hq0 : 0 ≤ q) (hq : q < 256)
    (hz : ∀ i, i < ln → ∃ a, aN = some a ∧ w.cell? (a.add i) = some (.int .u64 (z i)) ∧ 0 ≤ z i ∧ z i < 18446744073709551616)
    (ht : ∀ i, i < ls → ∃ a, aS = some a ∧ w.cell? (a.add i) = some (.string (t i)) ∧ (t i).size ≤ maxLen) :
    Calls Try.prog 4 #[.slice aN ln cn, .slice aS ls cs, .int .u8 p, .int .u8 q] w fun e w' => e = .returned (.bool true) ∧ Below w.heap.size w w' := by
  have HZ := hidL hz
  have HT := hidL ht
  clear hz ht
  have hlz := lowS_size
  go_enter Try.func4, Try.ntmps4
  go_wp2_with fail
  refine (known_any _).mono ?_
  rintro e w1 ⟨rfl, hb1⟩
  go_wp2
  go_loopw [9, 10] (fun b i wr => ∃ k : Nat, k ≤ ln ∧ i = .int .i64 k ∧ b = .string (numsS z k) ∧ Below w.heap.size w wr) (fun _ i _ => ln - (intOf i).toNat)
  case atStart => exact ⟨0, Nat.zero_le _, rfl, rfl, hb1⟩
  case round =>
    obtain ⟨k, hk, rfl, rfl, hbel⟩ := hrel
    have hnsz := numsS_size z k
    by_cases hlt : k < ln
    · obtain ⟨a, ha, hc, hz0, hz1⟩ := HZ.out k hlt
      have hcell : wr.cell? (a.add k) = some (.int .u64 (z k)) := (hbel.cell (p := a.add k) (World.block_lt_of_cell? w _ hc)).trans hc
      have hia := at40 a ln cn k hlt
      rw [← ha] at hia
      have HA := hidL ha
      clear hc ha
      go_wp2_with fail
      refine (num_any (z k) _ hz0 hz1).mono ?_
      rintro e w2 ⟨rfl, hb2⟩
      clear hcell hia
      go_wp2
      go_roundw
      case rel => exact ⟨k + 1, by omega, by go_num, rfl, hbel.trans (hb2.mono hbel.size)⟩
      case measure => simp [intOf]; omega
    · have hke : k = ln := by omega
      rw [hke] at hnsz ⊢
      clear hke hk hlt k
      go_wp2
      go_loopw [9, 11] (fun b i wr => ∃ k : Nat, k ≤ ls ∧ i = .int .i64 k ∧ b = .string (textsS (numsS z ln) t k) ∧ Hid (∀ i, i < k → (t i).size ≤ 200) ∧ Below w.heap.size w wr) (fun _ i _ => ls - (intOf i).toNat)
      case atStart => exact ⟨0, Nat.zero_le _, rfl, rfl, fun i hi => absurd hi (Nat.not_lt_zero i), hbel⟩
      case round =>
        obtain ⟨k, hk, rfl, rfl, hall, hbel⟩ := hrel
        have htsz := textsS_size (numsS z ln) t k hall.out
        rw [hnsz] at htsz
        by_cases hlt : k < ls
        · obtain ⟨a, ha, hc, htm⟩ := HT.out k hlt
          unfold maxLen at htm
          have hcell : wr.cell? (a.add k) = some (.string (t k)) := (hbel.cell (p := a.add k) (World.block_lt_of_cell? w _ hc)).trans hc
          have hia := at41 a ls cs k hlt
          rw [← ha] at hia
          have HA := hidL ha
          clear hc ha
          by_cases h200 : 200 < (t k).size
          · go_wp2
            go_ret
            exact ⟨rfl, hbel⟩
          · go_wp2_with fail
            refine (text_short (t k) _ (by omega)).mono ?_
            rintro e w2 ⟨rfl, hb2⟩
            clear hcell hia
            go_wp2
            go_roundw
            case rel =>
              refine ⟨k + 1, by omega, by go_num, rfl, ?_, hbel.trans (hb2.mono hbel.size)⟩
              intro i hi
              by_cases e : i = k
              · subst e; omega
              · exact hall.out i (by omega)
            case measure => simp [intOf]; omega
        · have hke : k = ls := by omega
          rw [hke] at htsz hall ⊢
          clear hke hk hlt k
          have HL := hidL (textsS_list (numsS z ln) t ls)
          rw [numsS_list] at HL
          obtain ⟨b, hbeq⟩ : ∃ b, b = textsS (numsS z ln) t ls := ⟨_, rfl⟩
          rw [← hbeq] at HL htsz ⊢
          clear hbeq
          go_wp2_with fail
          refine (new_any b _ (by unfold maxLen; omega)).mono ?_
          rintro e w2 ⟨rfl, hcut, hsz, hb2⟩
          rw [HL.out] at hcut
          have hbel2 := hbel.trans (hb2.mono hbel.size)
          have hge : w.heap.size ≤ wr.heap.size + 1 := by have := hbel.size; omega
          have hge' : w.heap.size ≤ wr.heap.size := hbel.size
          generalize wr.heap.size + 1 = cb at *
          generalize wr.heap.size = rb at *
          have HC := hidL hcut
          clear hcut hb2 hsz hbel
          go_wp2
          go_loopw [13] (fun i wr => ∃ k : Nat, k ≤ ln ∧ i = .int .i64 k ∧ CutAt wr cb rb (numsL z k (ln - k) ++ textsL t 0 ls) false ∧ Below w.heap.size w wr) (fun i _ => ln - (intOf i).toNat)
          case atStart => exact ⟨0, Nat.zero_le _, rfl, HC.out, hbel2⟩
          case round =>
            obtain ⟨k, hk, rfl, hcut, hbel⟩ := hrel
            by_cases hlt : k < ln
            · obtain ⟨a, ha, hc, hz0, hz1⟩ := HZ.out k hlt
              have hab := World.block_lt_of_cell? w _ hc
              have hcell : wr.cell? (a.add k) = some (.int .u64 (z k)) := (hbel.cell (p := a.add k) hab).trans hc
              have HCE := hidL hc
              have hia := at40 a ln cn k hlt
              rw [← ha] at hia
              rw [numsL_at z k ln hlt, List.append_assoc] at hcut
              have hnt := num_there (z k) hz0 hz1 (numsL z (k + 1) (ln - (k + 1)) ++ textsL t 0 ls)
              have HN := hidL (num_at cb rb _ _ _ _ _ wr.drew (hcut.drew) hnt.1 hnt.2.1 hnt.2.2)
              have hzz : (((z k).toNat : Nat) : Int) = z k := by omega
              clear hnt ha hc hcut
              go_wp2_with fail
              go_region_with (go_at_call 15; refine Calls.mono HN.out ?_; rintro e w3 ⟨rfl, hcut3, hg3⟩; have hbel3 := below_cut hbel.drew hg3 hge; have hcell3 := (hbel3.cell (p := a.add k) hab).trans HCE.out)
              all_goals
                have HC3 := hidL hcut3
                clear hcut3 hg3 hcell hcell3 hia
                go_wp2
                go_roundw
                case rel => exact ⟨k + 1, by omega, by go_num, HC3.out, hbel3⟩
                case measure => simp [intOf]; omega
            · have hke : k = ln := by omega
              rw [hke] at hcut ⊢
              clear hke hk hlt k HC hbel2
              rw [show ln - ln = 0 by omega] at hcut
              have HC0 : Hid (CutAt wr cb rb (textsL t 0 ls) false) := hcut
              clear hcut
              go_wp2
              go_loopw [14] (fun i wr => ∃ k : Nat, k ≤ ls ∧ i = .int .i64 k ∧ CutAt wr cb rb (textsL t k (ls - k)) false ∧ Below w.heap.size w wr) (fun i _ => ls - (intOf i).toNat)
              case atStart => exact ⟨0, Nat.zero_le _, rfl, HC0.out, hbel⟩
              case round =>
                obtain ⟨k, hk, rfl, hcut, hbel⟩ := hrel
                by_cases hlt : k < ls
                · obtain ⟨a, ha, hc, htm⟩ := HT.out k hlt
                  have hab := World.block_lt_of_cell? w _ hc
                  have h200 := hall.out k hlt
                  have hcell : wr.cell? (a.add k) = some (.string (t k)) := (hbel.cell (p := a.add k) hab).trans hc
                  have HCE := hidL hc
                  have hia := at41 a ls cs k hlt
                  rw [← ha] at hia
                  rw [textsL_at t k ls hlt] at hcut
                  have hfl : (t k).data.toList.length = (t k).size := by simp
                  have hnt := text_there (t k).data.toList (textsL t (k + 1) (ls - (k + 1))) (by omega)
                  rw [hfl] at hnt
                  have htt : (⟨(t k).data.toList.toArray⟩ : ByteArray) = t k := by cases t k; simp
                  have HN := hidL (text_at cb rb _ _ _ _ _ wr.drew (hcut.drew) hnt.1 hnt.2.1 hnt.2.2)
                  rw [htt] at HN
                  clear hnt ha hc hcut htt hfl htm
                  go_wp2_with fail
                  go_region_with (go_at_call 17; refine Calls.mono HN.out ?_; rintro e w3 ⟨rfl, hcut3, hg3⟩; have hbel3 := below_cut hbel.drew hg3 hge; have hcell3 := (hbel3.cell (p := a.add k) hab).trans HCE.out)
                  all_goals
                    have HC3 := hidL hcut3
                    clear hcut3 hg3 hcell hcell3 hia
                    go_wp2
                    go_roundw
                    case rel => exact ⟨k + 1, by omega, by go_num, HC3.out, hbel3⟩
                    case measure => simp [intOf]; omega
                · have hke : k = ls := by omega
                  rw [hke] at hcut ⊢
                  clear hke hk hlt k HC0
                  rw [show ls - ls = 0 by omega] at hcut
                  have HC1 : Hid (CutAt wr cb rb [] false) := hcut
                  clear hcut
                  have e1 := Try.eqNilNil
                  have e2 := Try.neqNilNil
                  clear HZ HT HL hall
                  by_cases hb0 : b.size = 0
                  · have hbe : b = ⟨#[]⟩ := by
                      apply ByteArray.ext
                      exact Array.eq_empty_of_size_eq_zero hb0
                    rw [hbe]
                    clear hbe hb0 htsz
                    go_wp2_with fail
                    refine (left_at cb rb _ _ 0 _ HC1.out rfl).mono ?_
                    rintro e w3 ⟨rfl, rfl⟩
                    go_wp2_with fail
                    refine (err_at cb rb _ _ .nilIface _ HC1.out rfl).mono ?_
                    rintro e w4 ⟨rfl, rfl⟩
                    go_wp2_with fail
                    refine (left_at cb rb _ _ 0 _ HC1.out rfl).mono ?_
                    rintro e w5 ⟨rfl, rfl⟩
                    go_wp2_with fail
                    refine (err_at cb rb _ _ .nilIface _ HC1.out rfl).mono ?_
                    rintro e w6 ⟨rfl, rfl⟩
                    go_wp2
                    go_ret
                    exact ⟨rfl, hbel⟩
                  · have hne : (b.toList.isEmpty) = false := by
                      rw [ByteArray.toList_eq]
                      cases h : b.data.toList with
                      | nil => exact absurd (by simpa using congrArg List.length h) hb0
                      | cons _ _ => rfl
                    go_wp2_with fail
                    refine (left_at cb rb _ _ 0 _ HC1.out rfl).mono ?_
                    rintro e w3 ⟨rfl, rfl⟩
                    go_wp2_with fail
                    refine (err_at cb rb _ _ .nilIface _ HC1.out rfl).mono ?_
                    rintro e w4 ⟨rfl, rfl⟩
                    have hcv := run_bytes_of_string (P := Try.prog) w4 9 42 5 b Try.underlying9 Try.underlying42 Try.underlying5
                    obtain ⟨k, hkp⟩ := Int.eq_ofNat_of_zero_le (Int.emod_nonneg p (show (b.size : Int) ≠ 0 by omega))
                    have hkb : k < b.size := by have := Int.emod_lt_of_pos p (show 0 < (b.size : Int) by omega); omega
                    have hca := grownCap_ge w4 b.size 0 5
                    have HBL := hidL (bytes_block w4 b (grownCap w4 b.size 0 5) hca)
                    clear hca
                    have hge4 : w.heap.size ≤ w4.heap.size := hbel.size
                    have HBE := hidL ((hbel.alloc hbel.size (Obj.cells (bytesRow b (grownCap w4 b.size 0 5)) 5 ((bytesRow b (grownCap w4 b.size 0 5)).size, (bytesRow b (grownCap w4 b.size 0 5)).size + 1))).drew)
                    go_wp2
                    clear hcv hbel HC1 hnsz hlz e1 e2 hne
                    generalize (w4.alloc (Obj.cells (bytesRow b (grownCap w4 b.size 0 5)) 5 ((bytesRow b (grownCap w4 b.size 0 5)).size, (bytesRow b (grownCap w4 b.size 0 5)).size + 1))).drew = W at *
                    generalize grownCap w4 b.size 0 5 = cap at *
                    generalize w4.heap.size = g at *
                    have hck := HBL.out.1 k hkb
                    have hfk := HBL.out.2 k hkb
                    have hx0 := b[k].toNat_lt
                    have HX := hidL (changed_back W g b k q cap hkb hq0 hq HBL.out.1)
                    go_region
                    all_goals
                      have hcv := HX.out
                      clear HX hck hfk
                      have HBZ := hidL ((HBE.out.setCell (p := ⟨g, k, none⟩) hge4 (.int .u8 (bits .xor .u8 (b[k].toNat : Int) q))).drew)
                      clear HBE HBL
                      have HSU := hidL (sum_same b k q hkb hq0 hq)
                      go_wp2_with fail
                      refine (sum_any _ _ (by unfold maxLen; rw [arr_sz]; simp; omega)).mono ?_
                      rintro e w5 ⟨rfl, rfl⟩
                      go_wp2_with fail
                      refine (sum_any b _ (by unfold maxLen; omega)).mono ?_
                      rintro e w6 ⟨rfl, rfl⟩
                      go_wp2
                      go_ret
                      exact ⟨ret_trueL (sum_bool _ _ q HSU.out), HBZ.out⟩
end Go.Proofs.Ytnnmnadlcejjhaa

/- Contract of the reference's Bytes: pieces of values, values, metas; leaves. -/
import Derived.Test.YtpionokcabjokaaGreatZn
import Derived.Test.YtpionokcabjokaaGreatXk
import Derived.Deep.LoopGhost
import Derived.Deep.Cut
namespace Go.Proofs.YtpionokcabjokaaGreat
open Go.RowKit Go.Sort

set_option maxRecDepth 100000 in
set_option maxHeartbeats 4000000 in
theorem rbytes_3 (p : PageD) (vi vk vd vv vf : Value) (w : World) (ha : Hangs w p vi vk vd vv vf) (hfl : p.free.length ≤ 140737488355328) (ht : TxnOk p) (hi : isPB p = true) (hk : p.kind = 3) :
    Calls Tryz.prog 8 #[.agg (pageCells p vi vk vd vv vf).toArray] w fun e w' => e = .returned (.string (bs (bytesD p))) ∧ Below w.heap.size w w' := by
  have hok := partOk_of_is hi ht
  have hpl := partD_le p hok
  have hby : bytesD p = lowB (sumN (bodyD p)) 8 ++ bodyD p := by rw [bytesD, if_pos hi]
  have HIS : Hid (∀ W, Below w.heap.size w W → Calls Tryz.prog 28 #[.agg (pageCells p vi vk vd vv vf).toArray] W fun e w' => e = .returned (.bool true) ∧ Below W.heap.size W w') := hid (fun W hW => hi ▸ refIs_any p _ _ _ _ _ W (ha.below hW) hfl ht)
  have hbd : bodyD p = numB 3 ++ partD p := by rw [bodyD, hk]
  rw [hby, hbd]
  obtain ⟨k1, i1, y1, d1, t1, v1, f1, n1, ⟨x1, ⟨g1, c1, q1⟩, r1, l1⟩⟩ := p
  simp only at hk
  subst hk
  have HH : Hid (∀ W, Below w.heap.size w W → Hangs W _ vi vk vd vv vf) := hid (fun W hW => ha.below hW)
  obtain ⟨aoI, capI, rfl, him, hitI⟩ := ha.items
  obtain ⟨aoK, capK, rfl, hkm, hitK⟩ := ha.keys
  obtain ⟨aoD, capD, rfl, hdm, hitD⟩ := ha.kids
  obtain ⟨aoV, capV, rfl, hvm, hitV⟩ := ha.vals
  obtain ⟨aoF, capF, rfl, hfm, hitF⟩ := ha.free
  have htm := ha.text
  simp only at him hkm hdm hvm hfm htm hitI hitK hitD hitV hitF hfl
  unfold maxLen at him hkm hdm hvm hfm htm
  have htx := hok.text rfl
  simp only at htx
  have hpd : partD ⟨3, i1, y1, d1, t1, v1, f1, n1, ⟨x1, ⟨g1, c1, q1⟩, r1, l1⟩⟩ = textB t1 := rfl
  rw [hpd] at hpl ⊢
  clear hpd
  have hB : numB 3 ++ textB t1 = numB 3 ++ textB t1 := rfl
  generalize hBB : numB 3 ++ textB t1 = B at hB ⊢
  have hBl : B.length ≤ 70000000008 := by rw [← hBB, List.length_append, numB_length]; omega
  replace hBB := hid hBB
  clear hB
  replace hitI := hid hitI
  replace hitK := hid hitK
  replace hitD := hid hitD
  replace hitF := hid hitF
  clear ha hok ht hi hby hbd hitV
  have hb0 : Below w.heap.size w (w.alloc (.cells #[.int .i64 3, .slice aoI i1.length capI, .slice aoK y1.length capK, .slice aoD d1.length capD, .string t1, .slice aoV v1.length capV, .slice aoF f1.length capF, .int .i64 n1, .int .u64 x1, .int .i64 g1, .int .i64 c1, .int .i64 q1, .int .i64 r1, .int .i64 l1] 35)) := (Below.refl _ _).alloc (Nat.le_refl _) _
  have hs0 : (w.alloc (.cells #[.int .i64 3, .slice aoI i1.length capI, .slice aoK y1.length capK, .slice aoD d1.length capD, .string t1, .slice aoV v1.length capV, .slice aoF f1.length capF, .int .i64 n1, .int .u64 x1, .int .i64 g1, .int .i64 c1, .int .i64 q1, .int .i64 r1, .int .i64 l1] 35)).heap.size = w.heap.size + 1 := by simp
  have HCE : Hid (∀ W, Below (w.alloc (.cells #[.int .i64 3, .slice aoI i1.length capI, .slice aoK y1.length capK, .slice aoD d1.length capD, .string t1, .slice aoV v1.length capV, .slice aoF f1.length capF, .int .i64 n1, .int .u64 x1, .int .i64 g1, .int .i64 c1, .int .i64 q1, .int .i64 r1, .int .i64 l1] 35)).heap.size (w.alloc (.cells #[.int .i64 3, .slice aoI i1.length capI, .slice aoK y1.length capK, .slice aoD d1.length capD, .string t1, .slice aoV v1.length capV, .slice aoF f1.length capF, .int .i64 n1, .int .u64 x1, .int .i64 g1, .int .i64 c1, .int .i64 q1, .int .i64 r1, .int .i64 l1] 35)) W → ∀ j, W.cell? ⟨w.heap.size, j, none⟩ = #[.int .i64 3, .slice aoI i1.length capI, .slice aoK y1.length capK, .slice aoD d1.length capD, .string t1, .slice aoV v1.length capV, .slice aoF f1.length capF, .int .i64 n1, .int .u64 x1, .int .i64 g1, .int .i64 c1, .int .i64 q1, .int .i64 r1, .int .i64 l1][j]?) := hid (fun W hW => cell_rowL ((hW.block w.heap.size (by simp)).trans (heap_newL w _)))
  show Calls Tryz.prog _ #[.agg #[.int .i64 3, .slice aoI i1.length capI, .slice aoK y1.length capK, .slice aoD d1.length capD, .string t1, .slice aoV v1.length capV, .slice aoF f1.length capF, .int .i64 n1, .int .u64 x1, .int .i64 g1, .int .i64 c1, .int .i64 q1, .int .i64 r1, .int .i64 l1]] w _
  go_enter Tryz.func8, Tryz.ntmps8
  go_wp2_with fail
  generalize (w.alloc (.cells #[.int .i64 3, .slice aoI i1.length capI, .slice aoK y1.length capK, .slice aoD d1.length capD, .string t1, .slice aoV v1.length capV, .slice aoF f1.length capF, .int .i64 n1, .int .u64 x1, .int .i64 g1, .int .i64 c1, .int .i64 q1, .int .i64 r1, .int .i64 l1] 35)) = X at *
  refine (HIS.out X hb0).mono ?_
  rintro e w1 ⟨rfl, hb1⟩
  have cj := HCE.out w1 hb1
  clear HIS
  go_wp2_with fail
  refine (rnum_any _ _).mono ?_
  rintro e w2 ⟨rfl, hb2⟩
  have B2 := hb1.trans (hb2.mono hb1.size)
  have z0 := (bs_size (numB 3)).trans (numB_length 3)
  clear hb1 hb2 cj
  have cj := HCE.out w2 B2
  replace B2 := hid B2
  have z1 := (bs_size (textB t1)).trans (textB_length t1)
  go_wp2_with fail
  refine (rtext_any _ _ htx).mono ?_
  rintro e w3 ⟨rfl, hb3⟩
  have B3 := hid (B2.out.trans (hb3.mono B2.out.size))
  clear hb3 cj
  go_upto_region 34 with fail
  rw [bs_append, hBB.out]
  have zB := bs_size B
  go_wp2_with fail
  refine (refSum_any (bs B) _ (by rw [zB]; unfold maxLen; omega)).mono ?_
  rintro e w8 ⟨rfl, rfl⟩
  rw [bs_list]
  have hsum := sumN_lt B
  go_wp2_with fail
  refine (rnumS_any _ _ (by omega) (by omega)).mono ?_
  rintro e w9 ⟨rfl, hb9⟩
  have zL := (bs_size (lowB (sumN B) 8)).trans (lowB_length _ 8)
  go_wp2
  go_ret
  refine ⟨ret_str ?_, hb0.trans ((B3.out.trans (hb9.mono B3.out.size)).mono hb0.size)⟩
  rw [bs_append]

set_option maxRecDepth 100000 in
set_option maxHeartbeats 4000000 in
theorem rbytes_4 (p : PageD) (vi vk vd vv vf : Value) (w : World) (ha : Hangs w p vi vk vd vv vf) (hfl : p.free.length ≤ 140737488355328) (ht : TxnOk p) (hi : isPB p = true) (hk : p.kind = 4) :
    Calls Tryz.prog 8 #[.agg (pageCells p vi vk vd vv vf).toArray] w fun e w' => e = .returned (.string (bs (bytesD p))) ∧ Below w.heap.size w w' := by
  have hok := partOk_of_is hi ht
  have hpl := partD_le p hok
  have hby : bytesD p = lowB (sumN (bodyD p)) 8 ++ bodyD p := by rw [bytesD, if_pos hi]
  have HIS : Hid (∀ W, Below w.heap.size w W → Calls Tryz.prog 28 #[.agg (pageCells p vi vk vd vv vf).toArray] W fun e w' => e = .returned (.bool true) ∧ Below W.heap.size W w') := hid (fun W hW => hi ▸ refIs_any p _ _ _ _ _ W (ha.below hW) hfl ht)
  have hbd : bodyD p = numB 4 ++ partD p := by rw [bodyD, hk]
  rw [hby, hbd]
  obtain ⟨k1, i1, y1, d1, t1, v1, f1, n1, ⟨x1, ⟨g1, c1, q1⟩, r1, l1⟩⟩ := p
  simp only at hk
  subst hk
  have HH : Hid (∀ W, Below w.heap.size w W → Hangs W _ vi vk vd vv vf) := hid (fun W hW => ha.below hW)
  obtain ⟨aoI, capI, rfl, him, hitI⟩ := ha.items
  obtain ⟨aoK, capK, rfl, hkm, hitK⟩ := ha.keys
  obtain ⟨aoD, capD, rfl, hdm, hitD⟩ := ha.kids
  obtain ⟨aoV, capV, rfl, hvm, hitV⟩ := ha.vals
  obtain ⟨aoF, capF, rfl, hfm, hitF⟩ := ha.free
  have htm := ha.text
  simp only at him hkm hdm hvm hfm htm hitI hitK hitD hitV hitF hfl
  unfold maxLen at him hkm hdm hvm hfm htm
  obtain ⟨hvl, hvs⟩ := hok.vals rfl
  simp only at hvl hvs
  have hpd : partD ⟨4, i1, y1, d1, t1, v1, f1, n1, ⟨x1, ⟨g1, c1, q1⟩, r1, l1⟩⟩ = listB textB v1 := rfl
  rw [hpd] at hpl ⊢
  clear hpd
  generalize hBB : numB 4 ++ listB textB v1 = B
  have hBl : B.length ≤ 70000000008 := by rw [← hBB, List.length_append, numB_length]; omega
  replace hBB := hid hBB
  replace hitI := hid hitI
  replace hitK := hid hitK
  replace hitD := hid hitD
  replace hitF := hid hitF
  clear ha hok ht hi hby hbd hitV
  have hb0 : Below w.heap.size w (w.alloc (.cells #[.int .i64 4, .slice aoI i1.length capI, .slice aoK y1.length capK, .slice aoD d1.length capD, .string t1, .slice aoV v1.length capV, .slice aoF f1.length capF, .int .i64 n1, .int .u64 x1, .int .i64 g1, .int .i64 c1, .int .i64 q1, .int .i64 r1, .int .i64 l1] 35)) := (Below.refl _ _).alloc (Nat.le_refl _) _
  have hs0 : (w.alloc (.cells #[.int .i64 4, .slice aoI i1.length capI, .slice aoK y1.length capK, .slice aoD d1.length capD, .string t1, .slice aoV v1.length capV, .slice aoF f1.length capF, .int .i64 n1, .int .u64 x1, .int .i64 g1, .int .i64 c1, .int .i64 q1, .int .i64 r1, .int .i64 l1] 35)).heap.size = w.heap.size + 1 := by simp
  have HCE : Hid (∀ W, Below (w.alloc (.cells #[.int .i64 4, .slice aoI i1.length capI, .slice aoK y1.length capK, .slice aoD d1.length capD, .string t1, .slice aoV v1.length capV, .slice aoF f1.length capF, .int .i64 n1, .int .u64 x1, .int .i64 g1, .int .i64 c1, .int .i64 q1, .int .i64 r1, .int .i64 l1] 35)).heap.size (w.alloc (.cells #[.int .i64 4, .slice aoI i1.length capI, .slice aoK y1.length capK, .slice aoD d1.length capD, .string t1, .slice aoV v1.length capV, .slice aoF f1.length capF, .int .i64 n1, .int .u64 x1, .int .i64 g1, .int .i64 c1, .int .i64 q1, .int .i64 r1, .int .i64 l1] 35)) W → ∀ j, W.cell? ⟨w.heap.size, j, none⟩ = #[.int .i64 4, .slice aoI i1.length capI, .slice aoK y1.length capK, .slice aoD d1.length capD, .string t1, .slice aoV v1.length capV, .slice aoF f1.length capF, .int .i64 n1, .int .u64 x1, .int .i64 g1, .int .i64 c1, .int .i64 q1, .int .i64 r1, .int .i64 l1][j]?) := hid (fun W hW => cell_rowL ((hW.block w.heap.size (by simp)).trans (heap_newL w _)))
  show Calls Tryz.prog _ #[.agg #[.int .i64 4, .slice aoI i1.length capI, .slice aoK y1.length capK, .slice aoD d1.length capD, .string t1, .slice aoV v1.length capV, .slice aoF f1.length capF, .int .i64 n1, .int .u64 x1, .int .i64 g1, .int .i64 c1, .int .i64 q1, .int .i64 r1, .int .i64 l1]] w _
  go_enter Tryz.func8, Tryz.ntmps8
  go_wp2_with fail
  generalize (w.alloc (.cells #[.int .i64 4, .slice aoI i1.length capI, .slice aoK y1.length capK, .slice aoD d1.length capD, .string t1, .slice aoV v1.length capV, .slice aoF f1.length capF, .int .i64 n1, .int .u64 x1, .int .i64 g1, .int .i64 c1, .int .i64 q1, .int .i64 r1, .int .i64 l1] 35)) = X at *
  refine (HIS.out X hb0).mono ?_
  rintro e w1 ⟨rfl, hb1⟩
  have cj := HCE.out w1 hb1
  clear HIS
  go_wp2_with fail
  refine (rnum_any _ _).mono ?_
  rintro e w2 ⟨rfl, hb2⟩
  have B2 := hb1.trans (hb2.mono hb1.size)
  have z0 := (bs_size (numB 4)).trans (numB_length 4)
  clear hb1 hb2 cj
  have cj := HCE.out w2 B2
  replace B2 := hid B2
  have z1 := bs_size (listB textB v1)
  go_wp2_with fail
  refine (rtexts_any v1 _ _ (HH.out w2 (hb0.trans (B2.out.mono hb0.size))).vals hvs hvl).mono ?_
  rintro e w3 ⟨rfl, hb3⟩
  have B3 := hid (B2.out.trans (hb3.mono B2.out.size))
  clear hb3 cj
  go_upto_region 34 with fail
  rw [bs_append, hBB.out]
  have zB := bs_size B
  go_wp2_with fail
  refine (refSum_any (bs B) _ (by rw [zB]; unfold maxLen; omega)).mono ?_
  rintro e w8 ⟨rfl, rfl⟩
  rw [bs_list]
  have hsum := sumN_lt B
  go_wp2_with fail
  refine (rnumS_any _ _ (by omega) (by omega)).mono ?_
  rintro e w9 ⟨rfl, hb9⟩
  have zL := (bs_size (lowB (sumN B) 8)).trans (lowB_length _ 8)
  go_wp2
  go_ret
  refine ⟨ret_str ?_, hb0.trans ((B3.out.trans (hb9.mono B3.out.size)).mono hb0.size)⟩
  rw [bs_append]

set_option maxRecDepth 100000 in
set_option maxHeartbeats 4000000 in
theorem rbytes_6 (p : PageD) (vi vk vd vv vf : Value) (w : World) (ha : Hangs w p vi vk vd vv vf) (hfl : p.free.length ≤ 140737488355328) (ht : TxnOk p) (hi : isPB p = true) (hk : p.kind = 6) :
    Calls Tryz.prog 8 #[.agg (pageCells p vi vk vd vv vf).toArray] w fun e w' => e = .returned (.string (bs (bytesD p))) ∧ Below w.heap.size w w' := by
  have hok := partOk_of_is hi ht
  have hpl := partD_le p hok
  have hby : bytesD p = lowB (sumN (bodyD p)) 8 ++ bodyD p := by rw [bytesD, if_pos hi]
  have HIS : Hid (∀ W, Below w.heap.size w W → Calls Tryz.prog 28 #[.agg (pageCells p vi vk vd vv vf).toArray] W fun e w' => e = .returned (.bool true) ∧ Below W.heap.size W w') := hid (fun W hW => hi ▸ refIs_any p _ _ _ _ _ W (ha.below hW) hfl ht)
  have hbd : bodyD p = numB 6 ++ partD p := by rw [bodyD, hk]
  rw [hby, hbd]
  obtain ⟨k1, i1, y1, d1, t1, v1, f1, n1, ⟨x1, ⟨g1, c1, q1⟩, r1, l1⟩⟩ := p
  simp only at hk
  subst hk
  have HH : Hid (∀ W, Below w.heap.size w W → Hangs W _ vi vk vd vv vf) := hid (fun W hW => ha.below hW)
  obtain ⟨aoI, capI, rfl, him, hitI⟩ := ha.items
  obtain ⟨aoK, capK, rfl, hkm, hitK⟩ := ha.keys
  obtain ⟨aoD, capD, rfl, hdm, hitD⟩ := ha.kids
  obtain ⟨aoV, capV, rfl, hvm, hitV⟩ := ha.vals
  obtain ⟨aoF, capF, rfl, hfm, hitF⟩ := ha.free
  have htm := ha.text
  simp only at him hkm hdm hvm hfm htm hitI hitK hitD hitV hitF hfl
  unfold maxLen at him hkm hdm hvm hfm htm
  have hx := hok.txn
  simp only at hx
  have hpd : partD ⟨6, i1, y1, d1, t1, v1, f1, n1, ⟨x1, ⟨g1, c1, q1⟩, r1, l1⟩⟩ = lowB x1 8 ++ rootBytesD ⟨g1, c1, q1⟩ ++ numB r1 ++ numB l1 := rfl
  rw [hpd] at hpl ⊢
  clear hpd
  generalize hBB : numB 6 ++ (lowB x1 8 ++ rootBytesD ⟨g1, c1, q1⟩ ++ numB r1 ++ numB l1) = B
  have hBl : B.length ≤ 70000000008 := by rw [← hBB, List.length_append, numB_length]; omega
  replace hBB := hid hBB
  replace hitI := hid hitI
  replace hitK := hid hitK
  replace hitD := hid hitD
  replace hitF := hid hitF
  clear ha hok ht hi hby hbd hitV
  have hb0 : Below w.heap.size w (w.alloc (.cells #[.int .i64 6, .slice aoI i1.length capI, .slice aoK y1.length capK, .slice aoD d1.length capD, .string t1, .slice aoV v1.length capV, .slice aoF f1.length capF, .int .i64 n1, .int .u64 x1, .int .i64 g1, .int .i64 c1, .int .i64 q1, .int .i64 r1, .int .i64 l1] 35)) := (Below.refl _ _).alloc (Nat.le_refl _) _
  have hs0 : (w.alloc (.cells #[.int .i64 6, .slice aoI i1.length capI, .slice aoK y1.length capK, .slice aoD d1.length capD, .string t1, .slice aoV v1.length capV, .slice aoF f1.length capF, .int .i64 n1, .int .u64 x1, .int .i64 g1, .int .i64 c1, .int .i64 q1, .int .i64 r1, .int .i64 l1] 35)).heap.size = w.heap.size + 1 := by simp
  have HCE : Hid (∀ W, Below (w.alloc (.cells #[.int .i64 6, .slice aoI i1.length capI, .slice aoK y1.length capK, .slice aoD d1.length capD, .string t1, .slice aoV v1.length capV, .slice aoF f1.length capF, .int .i64 n1, .int .u64 x1, .int .i64 g1, .int .i64 c1, .int .i64 q1, .int .i64 r1, .int .i64 l1] 35)).heap.size (w.alloc (.cells #[.int .i64 6, .slice aoI i1.length capI, .slice aoK y1.length capK, .slice aoD d1.length capD, .string t1, .slice aoV v1.length capV, .slice aoF f1.length capF, .int .i64 n1, .int .u64 x1, .int .i64 g1, .int .i64 c1, .int .i64 q1, .int .i64 r1, .int .i64 l1] 35)) W → ∀ j, W.cell? ⟨w.heap.size, j, none⟩ = #[.int .i64 6, .slice aoI i1.length capI, .slice aoK y1.length capK, .slice aoD d1.length capD, .string t1, .slice aoV v1.length capV, .slice aoF f1.length capF, .int .i64 n1, .int .u64 x1, .int .i64 g1, .int .i64 c1, .int .i64 q1, .int .i64 r1, .int .i64 l1][j]?) := hid (fun W hW => cell_rowL ((hW.block w.heap.size (by simp)).trans (heap_newL w _)))
  show Calls Tryz.prog _ #[.agg #[.int .i64 6, .slice aoI i1.length capI, .slice aoK y1.length capK, .slice aoD d1.length capD, .string t1, .slice aoV v1.length capV, .slice aoF f1.length capF, .int .i64 n1, .int .u64 x1, .int .i64 g1, .int .i64 c1, .int .i64 q1, .int .i64 r1, .int .i64 l1]] w _
  go_enter Tryz.func8, Tryz.ntmps8
  go_wp2_with fail
  generalize (w.alloc (.cells #[.int .i64 6, .slice aoI i1.length capI, .slice aoK y1.length capK, .slice aoD d1.length capD, .string t1, .slice aoV v1.length capV, .slice aoF f1.length capF, .int .i64 n1, .int .u64 x1, .int .i64 g1, .int .i64 c1, .int .i64 q1, .int .i64 r1, .int .i64 l1] 35)) = X at *
  refine (HIS.out X hb0).mono ?_
  rintro e w1 ⟨rfl, hb1⟩
  have cj := HCE.out w1 hb1
  clear HIS
  go_wp2_with fail
  refine (rnum_any _ _).mono ?_
  rintro e w2 ⟨rfl, hb2⟩
  have B2 := hb1.trans (hb2.mono hb1.size)
  have z0 := (bs_size (numB 6)).trans (numB_length 6)
  clear hb1 hb2 cj
  have cj := HCE.out w2 B2
  replace B2 := hid B2
  have z1 := (bs_size (lowB x1 8)).trans (lowB_length x1 8)
  have z2 := (bs_size (rootBytesD ⟨g1, c1, q1⟩)).trans (rootBytesD_length ⟨g1, c1, q1⟩)
  have z3 := (bs_size (numB r1)).trans (numB_length r1)
  have z4 := (bs_size (numB l1)).trans (numB_length l1)
  have hw2 : w.heap.size < w2.heap.size := by have := B2.out.size; omega
  have e8 := cell_regrown ((cj 8).trans rfl : w2.cell? ⟨w.heap.size, 8, none⟩ = some (.int .u64 x1))
  have e9 := cell_regrown ((cj 9).trans rfl : w2.cell? ⟨w.heap.size, 9, none⟩ = some (.int .i64 g1))
  have e10 := cell_regrown ((cj 10).trans rfl : w2.cell? ⟨w.heap.size, 10, none⟩ = some (.int .i64 c1))
  have e11 := cell_regrown ((cj 11).trans rfl : w2.cell? ⟨w.heap.size, 11, none⟩ = some (.int .i64 q1))
  have e12 := cell_regrown ((cj 12).trans rfl : w2.cell? ⟨w.heap.size, 12, none⟩ = some (.int .i64 r1))
  have e13 := cell_regrown ((cj 13).trans rfl : w2.cell? ⟨w.heap.size, 13, none⟩ = some (.int .i64 l1))
  have HN := hid (rnum_regrown w2)
  have HNS : Hid (∀ d os, Calls Tryz.prog 33 #[.int .u64 x1] (grow (redrawn w2 d) os) fun e w'' => e = .returned (.string (bs (lowB x1 8))) ∧ ∃ p : Regrown, w'' = grow (redrawn w2 p.d) p.os) := hid (fun _ _ => Calls.regrown_of (rnumS_any x1 _ hx.1 hx.2))
  have HRB : Hid (∀ d os, Calls Tryz.prog 34 #[.agg #[.int .i64 g1, .int .i64 c1, .int .i64 q1]] (grow (redrawn w2 d) os) fun e w'' => e = .returned (.string (bs (rootBytesD ⟨g1, c1, q1⟩))) ∧ ∃ p : Regrown, w'' = grow (redrawn w2 p.d) p.os) := hid (fun _ _ => Calls.regrown_of (rrootBytes_any ⟨g1, c1, q1⟩ _))
  go_wp2_with fail
  clear cj
  refine wp_region_quiet_below (by kernel_rfl) (by kernel_rfl) ?_
  repeat (go_big_quiet_step (first | exact HNS.out _ _ | exact HRB.out _ _ | exact HN.out _ _ _))
  refine wpQuiet_nil ?_
  intro _ hw'
  obtain ⟨⟨dq, osq⟩, hw''⟩ := hw'
  subst hw''
  have B3 := hid (B2.out.trans ((below_regrown w2 dq osq).mono B2.out.size))
  clear e8 e9 e10 e11 e12 e13
  generalize grow (redrawn w2 dq) osq = w3 at *
  go_upto_region 34 with fail
  rw [bs_append, bs_append, bs_append, bs_append, show numB 6 ++ lowB x1 8 ++ rootBytesD ⟨g1, c1, q1⟩ ++ numB r1 ++ numB l1 = B by rw [← hBB.out]; simp]
  have zB := bs_size B
  go_wp2_with fail
  refine (refSum_any (bs B) _ (by rw [zB]; unfold maxLen; omega)).mono ?_
  rintro e w8 ⟨rfl, rfl⟩
  rw [bs_list]
  have hsum := sumN_lt B
  go_wp2_with fail
  refine (rnumS_any _ _ (by omega) (by omega)).mono ?_
  rintro e w9 ⟨rfl, hb9⟩
  have zL := (bs_size (lowB (sumN B) 8)).trans (lowB_length _ 8)
  go_wp2
  go_ret
  refine ⟨ret_str ?_, hb0.trans ((B3.out.trans (hb9.mono B3.out.size)).mono hb0.size)⟩
  rw [bs_append]

set_option maxRecDepth 100000 in
set_option maxHeartbeats 4000000 in
theorem rbytes_1 (p : PageD) (vi vk vd vv vf : Value) (w : World) (ha : Hangs w p vi vk vd vv vf) (hfl : p.free.length ≤ 140737488355328) (ht : TxnOk p) (hi : isPB p = true) (hk : p.kind = 1) :
    Calls Tryz.prog 8 #[.agg (pageCells p vi vk vd vv vf).toArray] w fun e w' => e = .returned (.string (bs (bytesD p))) ∧ Below w.heap.size w w' := by
  have hok := partOk_of_is hi ht
  have hpl := partD_le p hok
  have hby : bytesD p = lowB (sumN (bodyD p)) 8 ++ bodyD p := by rw [bytesD, if_pos hi]
  have HIS : Hid (∀ W, Below w.heap.size w W → Calls Tryz.prog 28 #[.agg (pageCells p vi vk vd vv vf).toArray] W fun e w' => e = .returned (.bool true) ∧ Below W.heap.size W w') := hid (fun W hW => hi ▸ refIs_any p _ _ _ _ _ W (ha.below hW) hfl ht)
  have hbd : bodyD p = numB 1 ++ partD p := by rw [bodyD, hk]
  rw [hby, hbd]
  obtain ⟨k1, i1, y1, d1, t1, v1, f1, n1, ⟨x1, ⟨g1, c1, q1⟩, r1, l1⟩⟩ := p
  simp only at hk
  subst hk
  have HH : Hid (∀ W, Below w.heap.size w W → Hangs W _ vi vk vd vv vf) := hid (fun W hW => ha.below hW)
  obtain ⟨aoI, capI, rfl, him, hitI⟩ := ha.items
  obtain ⟨aoK, capK, rfl, hkm, hitK⟩ := ha.keys
  obtain ⟨aoD, capD, rfl, hdm, hitD⟩ := ha.kids
  obtain ⟨aoV, capV, rfl, hvm, hitV⟩ := ha.vals
  obtain ⟨aoF, capF, rfl, hfm, hitF⟩ := ha.free
  have htm := ha.text
  simp only at him hkm hdm hvm hfm htm hitI hitK hitD hitV hitF hfl
  unfold maxLen at him hkm hdm hvm hfm htm
  obtain ⟨hil, his⟩ := hok.items rfl
  simp only at hil his
  have hpd : partD ⟨1, i1, y1, d1, t1, v1, f1, n1, ⟨x1, ⟨g1, c1, q1⟩, r1, l1⟩⟩ = listB itemBytesD i1 := rfl
  rw [hpd] at hpl ⊢
  clear hpd
  generalize hBB : numB 1 ++ listB itemBytesD i1 = B
  have hBl : B.length ≤ 70000000008 := by rw [← hBB, List.length_append, numB_length]; omega
  replace hBB := hid hBB
  have HM : Hid (∀ k, k ≤ i1.length → (joinB itemBytesD (i1.take k)).length ≤ 65700000 * k) := by
    intro k hk
    have := joinB_le itemBytesD 65700000 (i1.take k) (fun x hx => itemBytesD_le x (his x (List.mem_of_mem_take hx)))
    rw [List.length_take, Nat.min_eq_left hk] at this
    omega
  replace his := hid his
  replace hitI := hid hitI
  replace hitK := hid hitK
  replace hitD := hid hitD
  replace hitF := hid hitF
  clear ha hok ht hi hby hbd hitV
  have hb0 : Below w.heap.size w (w.alloc (.cells #[.int .i64 1, .slice aoI i1.length capI, .slice aoK y1.length capK, .slice aoD d1.length capD, .string t1, .slice aoV v1.length capV, .slice aoF f1.length capF, .int .i64 n1, .int .u64 x1, .int .i64 g1, .int .i64 c1, .int .i64 q1, .int .i64 r1, .int .i64 l1] 35)) := (Below.refl _ _).alloc (Nat.le_refl _) _
  have hs0 : (w.alloc (.cells #[.int .i64 1, .slice aoI i1.length capI, .slice aoK y1.length capK, .slice aoD d1.length capD, .string t1, .slice aoV v1.length capV, .slice aoF f1.length capF, .int .i64 n1, .int .u64 x1, .int .i64 g1, .int .i64 c1, .int .i64 q1, .int .i64 r1, .int .i64 l1] 35)).heap.size = w.heap.size + 1 := by simp
  have HCE : Hid (∀ W, Below (w.alloc (.cells #[.int .i64 1, .slice aoI i1.length capI, .slice aoK y1.length capK, .slice aoD d1.length capD, .string t1, .slice aoV v1.length capV, .slice aoF f1.length capF, .int .i64 n1, .int .u64 x1, .int .i64 g1, .int .i64 c1, .int .i64 q1, .int .i64 r1, .int .i64 l1] 35)).heap.size (w.alloc (.cells #[.int .i64 1, .slice aoI i1.length capI, .slice aoK y1.length capK, .slice aoD d1.length capD, .string t1, .slice aoV v1.length capV, .slice aoF f1.length capF, .int .i64 n1, .int .u64 x1, .int .i64 g1, .int .i64 c1, .int .i64 q1, .int .i64 r1, .int .i64 l1] 35)) W → ∀ j, W.cell? ⟨w.heap.size, j, none⟩ = #[.int .i64 1, .slice aoI i1.length capI, .slice aoK y1.length capK, .slice aoD d1.length capD, .string t1, .slice aoV v1.length capV, .slice aoF f1.length capF, .int .i64 n1, .int .u64 x1, .int .i64 g1, .int .i64 c1, .int .i64 q1, .int .i64 r1, .int .i64 l1][j]?) := hid (fun W hW => cell_rowL ((hW.block w.heap.size (by simp)).trans (heap_newL w _)))
  show Calls Tryz.prog _ #[.agg #[.int .i64 1, .slice aoI i1.length capI, .slice aoK y1.length capK, .slice aoD d1.length capD, .string t1, .slice aoV v1.length capV, .slice aoF f1.length capF, .int .i64 n1, .int .u64 x1, .int .i64 g1, .int .i64 c1, .int .i64 q1, .int .i64 r1, .int .i64 l1]] w _
  go_enter Tryz.func8, Tryz.ntmps8
  go_wp2_with fail
  generalize (w.alloc (.cells #[.int .i64 1, .slice aoI i1.length capI, .slice aoK y1.length capK, .slice aoD d1.length capD, .string t1, .slice aoV v1.length capV, .slice aoF f1.length capF, .int .i64 n1, .int .u64 x1, .int .i64 g1, .int .i64 c1, .int .i64 q1, .int .i64 r1, .int .i64 l1] 35)) = X at *
  refine (HIS.out X hb0).mono ?_
  rintro e w1 ⟨rfl, hb1⟩
  have cj := HCE.out w1 hb1
  clear HIS
  go_wp2_with fail
  refine (rnum_any _ _).mono ?_
  rintro e w2 ⟨rfl, hb2⟩
  have B2 := hb1.trans (hb2.mono hb1.size)
  have z0 := (bs_size (numB 1)).trans (numB_length 1)
  clear hb1 hb2 cj
  have cj := HCE.out w2 B2
  replace B2 := hid B2
  have z1 := (bs_size (numB i1.length)).trans (numB_length i1.length)
  obtain ⟨H, hH⟩ : ∃ H, numB 1 ++ numB i1.length = H := ⟨_, rfl⟩
  have hHl : H.length = 16 := by rw [← hH, List.length_append, numB_length, numB_length]
  replace hH := hid hH
  go_wp2_with fail
  refine (rnum_any _ _).mono ?_
  rintro e w3 ⟨rfl, hb3⟩
  have B3 := hid (B2.out.trans (hb3.mono B2.out.size))
  clear hb3 cj
  go_wp2
  go_loopg [3, 4] i1.length (fun g s i wr => ∃ k : Nat, k + g = i1.length ∧ i = .int .i64 k ∧ s = .string (bs (H ++ joinB itemBytesD (i1.take k))) ∧ Hid (Below X.heap.size X wr))
  case atStart => exact ⟨0, by omega, rfl, by rw [bs_append, hH.out]; simp [joinB], B3⟩
  case round =>
    obtain ⟨k, hk, rfl, rfl, hbel⟩ := hrel
    clear B3 B2
    have cj : wr.cell? ⟨w.heap.size, 1, none⟩ = some (.slice aoI i1.length capI) := (HCE.out wr hbel.out 1).trans rfl
    cases gk with
    | succ g =>
      have hlt : k < i1.length := by omega
      have HT := hid (joinB_take itemBytesD i1 k hlt)
      have hMk := HM.out k (by omega)
      have hsk := his.out i1[k] (List.getElem_mem hlt)
      obtain ⟨b, o, x, hao, hbl, hr, hx, _, _⟩ := hitI.out k hlt
      have hia := atItems (ao := aoI) i1.length capI k hao hlt
      have hbw := hb0.trans (hbel.out.mono hb0.size)
      have hl1 := range10 (range_below hr hbw hbl)
      have HX := hid (hx.below hbw)
      obtain ⟨ax, cx, hxe, -, -⟩ := hx
      subst hxe
      have HSK := hid hsk
      have hisz := itemBytesD_le _ hsk
      have zj : (bs (H ++ joinB itemBytesD (i1.take k))).size = 16 + (joinB itemBytesD (i1.take k)).length := by rw [bs_size, List.length_append, hHl]
      have zi := bs_size (itemBytesD i1[k])
      clear hr hao hbl hsk hbw
      generalize joinB itemBytesD (i1.take k) = J at *
      generalize i1[k] = Y at *
      obtain ⟨k1, e1, m1, s1, u1, a1, p1, ⟨h1, j1, o1⟩⟩ := Y
      go_wp2_with fail
      refine (ritemBytes_any _ _ _ HX.out HSK.out).mono ?_
      rintro e w4 ⟨rfl, hb4⟩
      have B4 := hid (hbel.out.trans (hb4.mono hbel.out.size))
      clear hb4
      go_wp2
      go_roundg g
      case rel => exact ⟨k + 1, by omega, by go_num, by rw [HT.out, bs_append, List.append_assoc], B4⟩
      case measure => omega
    | zero =>
      have hke : k = i1.length := by omega
      subst hke
      rw [List.take_length, show H ++ joinB itemBytesD i1 = B by rw [← hBB.out, ← hH.out]; simp [listB]]
      clear HM
      go_upto_region 34 with fail
      have zB := bs_size B
      go_wp2_with fail
      refine (refSum_any (bs B) _ (by rw [zB]; unfold maxLen; omega)).mono ?_
      rintro e w8 ⟨rfl, rfl⟩
      rw [bs_list]
      have hsum := sumN_lt B
      go_wp2_with fail
      refine (rnumS_any _ _ (by omega) (by omega)).mono ?_
      rintro e w9 ⟨rfl, hb9⟩
      have zL := (bs_size (lowB (sumN B) 8)).trans (lowB_length _ 8)
      go_wp2
      go_ret
      refine ⟨ret_str ?_, hb0.trans ((hbel.out.trans (hb9.mono hbel.out.size)).mono hb0.size)⟩
      rw [bs_append]
end Go.Proofs.YtpionokcabjokaaGreat

import Derived.Test.YtdihdchfigemnaaGreatC61
namespace Go.Proofs.YtdihdchfigemnaaGreat
open Go.RowKit Go.Sort Go.Conc
theorem ten_cells {w:World} {b:Nat} {T:TypeId} {u0 u1 u2 u3 u4 u5 u6 u7 u8 u9:Value} (v0 v1 v2 v3 v4 v5 v6 v7 v8 v9:Value) (h:w.heap[b]? = some (.cells #[u0,u1,u2,u3,u4,u5,u6,u7,u8,u9] T (0,0))):((((((((((w.setCell ⟨b,0,none⟩ v0).setCell ⟨b,1,none⟩ v1).setCell ⟨b,2,none⟩ v2).setCell ⟨b,3,none⟩ v3).setCell ⟨b,4,none⟩ v4).setCell ⟨b,5,none⟩ v5).setCell ⟨b,6,none⟩ v6).setCell ⟨b,7,none⟩ v7).setCell ⟨b,8,none⟩ v8).setCell ⟨b,9,none⟩ v9).heap[b]? = some (.cells #[v0,v1,v2,v3,v4,v5,v6,v7,v8,v9] T (0,0)):=by
  have h0:=heap_setCell_same w b 0 _ _ v0 h
  simp only [List.setIfInBounds_toArray,List.set_cons_zero] at h0
  have h1:=heap_setCell_same (w.setCell ⟨b,0,none⟩ v0) b 1 _ _ v1 h0
  simp only [List.setIfInBounds_toArray,List.set_cons_zero,List.set_cons_succ] at h1
  have h2:=heap_setCell_same ((w.setCell ⟨b,0,none⟩ v0).setCell ⟨b,1,none⟩ v1) b 2 _ _ v2 h1
  simp only [List.setIfInBounds_toArray,List.set_cons_zero,List.set_cons_succ] at h2
  have h3:=heap_setCell_same (((w.setCell ⟨b,0,none⟩ v0).setCell ⟨b,1,none⟩ v1).setCell ⟨b,2,none⟩ v2) b 3 _ _ v3 h2
  simp only [List.setIfInBounds_toArray,List.set_cons_zero,List.set_cons_succ] at h3
  have h4:=heap_setCell_same ((((w.setCell ⟨b,0,none⟩ v0).setCell ⟨b,1,none⟩ v1).setCell ⟨b,2,none⟩ v2).setCell ⟨b,3,none⟩ v3) b 4 _ _ v4 h3
  simp only [List.setIfInBounds_toArray,List.set_cons_zero,List.set_cons_succ] at h4
  have h5:=heap_setCell_same (((((w.setCell ⟨b,0,none⟩ v0).setCell ⟨b,1,none⟩ v1).setCell ⟨b,2,none⟩ v2).setCell ⟨b,3,none⟩ v3).setCell ⟨b,4,none⟩ v4) b 5 _ _ v5 h4
  simp only [List.setIfInBounds_toArray,List.set_cons_zero,List.set_cons_succ] at h5
  have h6:=heap_setCell_same ((((((w.setCell ⟨b,0,none⟩ v0).setCell ⟨b,1,none⟩ v1).setCell ⟨b,2,none⟩ v2).setCell ⟨b,3,none⟩ v3).setCell ⟨b,4,none⟩ v4).setCell ⟨b,5,none⟩ v5) b 6 _ _ v6 h5
  simp only [List.setIfInBounds_toArray,List.set_cons_zero,List.set_cons_succ] at h6
  have h7:=heap_setCell_same (((((((w.setCell ⟨b,0,none⟩ v0).setCell ⟨b,1,none⟩ v1).setCell ⟨b,2,none⟩ v2).setCell ⟨b,3,none⟩ v3).setCell ⟨b,4,none⟩ v4).setCell ⟨b,5,none⟩ v5).setCell ⟨b,6,none⟩ v6) b 7 _ _ v7 h6
  simp only [List.setIfInBounds_toArray,List.set_cons_zero,List.set_cons_succ] at h7
  have h8:=heap_setCell_same ((((((((w.setCell ⟨b,0,none⟩ v0).setCell ⟨b,1,none⟩ v1).setCell ⟨b,2,none⟩ v2).setCell ⟨b,3,none⟩ v3).setCell ⟨b,4,none⟩ v4).setCell ⟨b,5,none⟩ v5).setCell ⟨b,6,none⟩ v6).setCell ⟨b,7,none⟩ v7) b 8 _ _ v8 h7
  simp only [List.setIfInBounds_toArray,List.set_cons_zero,List.set_cons_succ] at h8
  have h9:=heap_setCell_same (((((((((w.setCell ⟨b,0,none⟩ v0).setCell ⟨b,1,none⟩ v1).setCell ⟨b,2,none⟩ v2).setCell ⟨b,3,none⟩ v3).setCell ⟨b,4,none⟩ v4).setCell ⟨b,5,none⟩ v5).setCell ⟨b,6,none⟩ v6).setCell ⟨b,7,none⟩ v7).setCell ⟨b,8,none⟩ v8) b 9 _ _ v9 h8
  simp only [List.setIfInBounds_toArray,List.set_cons_zero,List.set_cons_succ] at h9
  exact h9
theorem ten_below {w w':World} {B b:Nat} (h:Below B w w') (hb:B ≤ b) (v0 v1 v2 v3 v4 v5 v6 v7 v8 v9:Value):Below B w ((((((((((w'.setCell ⟨b,0,none⟩ v0).setCell ⟨b,1,none⟩ v1).setCell ⟨b,2,none⟩ v2).setCell ⟨b,3,none⟩ v3).setCell ⟨b,4,none⟩ v4).setCell ⟨b,5,none⟩ v5).setCell ⟨b,6,none⟩ v6).setCell ⟨b,7,none⟩ v7).setCell ⟨b,8,none⟩ v8).setCell ⟨b,9,none⟩ v9):=by
  repeat (refine Below.setCell ?_ hb _)
  exact h
theorem ten_other {w:World} {b k:Nat} (hk:k ≠ b) (v0 v1 v2 v3 v4 v5 v6 v7 v8 v9:Value):((((((((((w.setCell ⟨b,0,none⟩ v0).setCell ⟨b,1,none⟩ v1).setCell ⟨b,2,none⟩ v2).setCell ⟨b,3,none⟩ v3).setCell ⟨b,4,none⟩ v4).setCell ⟨b,5,none⟩ v5).setCell ⟨b,6,none⟩ v6).setCell ⟨b,7,none⟩ v7).setCell ⟨b,8,none⟩ v8).setCell ⟨b,9,none⟩ v9).heap[k]? = w.heap[k]?:=by
  rw [Below.heap_setCell _ _ _ _ (show k ≠ b from hk)]
  rw [Below.heap_setCell _ _ _ _ (show k ≠ b from hk)]
  rw [Below.heap_setCell _ _ _ _ (show k ≠ b from hk)]
  rw [Below.heap_setCell _ _ _ _ (show k ≠ b from hk)]
  rw [Below.heap_setCell _ _ _ _ (show k ≠ b from hk)]
  rw [Below.heap_setCell _ _ _ _ (show k ≠ b from hk)]
  rw [Below.heap_setCell _ _ _ _ (show k ≠ b from hk)]
  rw [Below.heap_setCell _ _ _ _ (show k ≠ b from hk)]
  rw [Below.heap_setCell _ _ _ _ (show k ≠ b from hk)]
  rw [Below.heap_setCell _ _ _ _ (show k ≠ b from hk)]
set_option maxRecDepth 100000 in
set_option maxHeartbeats 4000000 in
theorem walks_law (l:List Nat) (v:Value) (w:World) (h:KeysOk w v l) :
    Calls Tryz.prog 6 #[v] w fun e w' => e = .returned (.bool true) ∧ Below w.heap.size w w':=by
  obtain ⟨hk0,h256⟩:=h
  obtain ⟨ao,cap,rfl,hlm,hcl⟩:=hk0
  have HK:Hid (∀ k,k < l.length → ∃ a,(∀ W,(Instr.indexAt 22 (.slice ao l.length cap) (.int .i64 (k:Int))).run Tryz.prog W = .ok (.pointer (some a)) W) ∧ ∀ W,Below w.heap.size w W → W.cell? a = some (.int .u8 ((l.getD k 0:Nat):Int))):=hidA (fun k hk => KeysAt.get ⟨ao,cap,rfl,hlm,hcl⟩ hk)
  have hk0:=hidA (show KeysAt w (.slice ao l.length cap) l from ⟨ao,cap,rfl,hlm,hcl⟩)
  have h256':Hid (∀ y ∈ l,y < 256):=hidA h256
  have hx256:Hid (∀ k,k < l.length → l.getD k 0 < 256):=hidA (fun k hk => by
    have:=h256 _ (List.getElem_mem hk)
    simpa [List.getD,hk] using this)
  clear hlm hcl h256
  go_enter Tryz.func6,Tryz.ntmps6
  go_wp2_with fail
  refine (known_find w).mono ?_
  rintro e w0 ⟨rfl,hb0⟩
  replace hb0:=hidA hb0
  by_cases hl:100 < l.length
  · have hd:decide ((100:Int) < (l.length:Int)) = true:=by simp; omega
    go_wp2
    go_ret
    exact ⟨rfl,hb0.out⟩
  have hd:decide ((100:Int) < (l.length:Int)) = false:=by simp; omega
  have hll:=hidA (show l.length ≤ 120 by omega)
  clear hl
  have hkW:Hid (KeysAt w0 (.slice ao l.length cap) l):=hidA (by
    obtain ⟨ao',cap',e,h1,h2⟩:=hk0.out
    refine ⟨ao',cap',e,h1,fun i hi => ?_⟩
    obtain ⟨a,ha,hc⟩:=h2 i hi
    exact ⟨a,ha,(hb0.out.cell (World.block_lt_of_cell? _ _ hc)).trans hc⟩)
  have C0:=hidA (tree_any w0 _ l hkW.out h256'.out hll.out)
  go_wp2_with fail
  refine C0.out.mono ?_
  rintro e w1 ⟨BT,fb,ps,root,uV,uD,uL,rfl,hRt,hBT,hF,hb1⟩
  have hsl:(setN l l.length).length ≤ 120:=by have:=setN_length l l.length; have:=hll.out; omega
  have hmL:Hid (∀ y,y ∈ setN l l.length ↔ y ∈ l.take l.length):=hidA (mem_setN l l.length (Nat.le_refl _))
  have hriL:Hid (Ri (setN l l.length)):=hidA (setN_ri l l.length)
  generalize setN l l.length = L at *
  have hlp:ps.length ≤ 120:=by have:=hRt.fits.2.2; omega
  have hnp:∀ i (h:i < ps.length),NumP ps[i]:=fun i h => hRt.page hsl h
  have hL256:Hid (∀ y ∈ L,y < 256):=hidA hRt.fits.2.1
  have hRt:=hidA hRt
  have hsl:=hidA hsl
  have CN:=hidA (grown_file hF hnp hlp)
  have c0:=cell_rowL hF.obj
  have hbT:=hidA (hb0.out.trans (hb1.mono hb0.out.size))
  clear C0 hb0 hb1 hF hkW
  go_wp2_with fail
  refine CN.out.mono ?_
  rintro e w2 ⟨rfl,u2,hf2,hb2⟩
  have CS:=hidA (grown_store hf2 hb2 hnp hlp)
  have hsz:=hidA hbT.out.size
  clear CN c0 hf2 hb2
  generalize w1.heap.size = fp at *
  go_wp2_with fail
  refine CS.out.mono ?_
  rintro e Y ⟨sb,rfl,hRd,hbY⟩
  have hRd:=hidA hRd
  have hbW:=hidA (hbT.out.trans (hbY.mono hsz.out))
  clear CS hnp hlp hbT hbY hd hsz
  go_upto_region 7 with fail
  refine alloc256 ?_
  rw [show thereA [] 0 = thereA l 0 from (there_zero _).trans (there_zero l).symm]
  have hbn:=(Below.refl Y.heap.size Y).alloc (Nat.le_refl _) (.cells (thereA l 0) 35)
  have hA0:=hidA (heap_newL Y (.cells (thereA l 0) 35))
  have hbY1:=hidA hbn
  have hbW1:=hidA (hbW.out.trans (hbn.mono hbW.out.size))
  have hWY:=hidA hbW.out.size
  clear hbn hbW
  generalize Y.alloc (.cells (thereA l 0) 35) = Y1 at *
  obtain ⟨tb,htb⟩:∃ tb,Y.heap.size = tb:=⟨_,rfl⟩
  rw [htb] at hA0 hWY ⊢
  simp only [Act.put,List.setIfInBounds_toArray,List.set_cons_zero,List.set_cons_succ]
  go_wp2
  go_loopg [8] l.length (fun g v8 wr => ∃ k:Nat,k + g = l.length ∧ v8 = .int .i64 (k:Int) ∧ Hid (wr.heap[tb]? = some (.cells (thereA l k) 35 (0,0))) ∧ Hid (Below Y.heap.size Y wr) ∧ Hid (Below w.heap.size w wr))
  case atStart => exact ⟨0,by omega,rfl,hA0,hbY1,hbW1⟩
  case round =>
    obtain ⟨k,hk,rfl,hA,hbY,hbW⟩:=hrel
    clear hA0 hbY1 hbW1
    have hk120:k ≤ 120:=by have:=hll.out; omega
    cases gk with
    | succ g =>
      have hlk:k < l.length:=by omega
      obtain ⟨a,hix,hcell⟩:=HK.out k hlk
      have hc:=hcell wr hbW.out
      have hx:=hx256.out k hlk
      have hst:=hidA (there_set hlk)
      clear hcell
      generalize l.getD k 0 = x at *
      have c7:=(cell_rowL hA.out x).trans (there_get l k hx)
      have f7:=frozen_rowL hA.out x
      have hi256:=at256 tb .u8 x hx
      have hA2:=heap_setCell_same wr tb x _ _ (.bool true) hA.out
      rw [hst.out] at hA2
      have hA2:=hidA hA2
      clear hst
      go_wp2
      go_roundg g
      case rel => exact ⟨k + 1,by omega,by go_num,hA2,hidA (hbY.out.setCell (by simp [htb]) _),hidA (hbW.out.setCell (by simpa using hWY.out) _)⟩
      case measure => omega
    | zero =>
      obtain rfl:k = l.length:=by omega
      clear HK hx256
      go_wp2_with fail
      refine (above_first hRd.out hRt.out hsl.out wr hbY.out).mono ?_
      rintro e w3 ⟨⟨ya,yn,yc,rfl⟩,hb3⟩
      have hb3Y:=hidA (hbY.out.trans (hb3.mono hbY.out.size))
      have hb3W:=hidA (hbW.out.trans (hb3.mono hbW.out.size))
      have hA3:=hidA ((hb3.block _ (F.lt_of_heap hA.out)).trans hA.out)
      obtain ⟨x,hx⟩:∃ x,Hid (x = foundI (geN L 0)):=⟨_,hidA rfl⟩
      rw [← hx.out]
      rw [show (itemCells x (.slice ya yn yc)).toArray = #[.string x.key,.int .i64 x.kind,.string x.val,.int .i64 x.run,.int .i64 x.len,.slice ya yn yc,.int .i64 x.dup,.int .i64 x.root.page,.int .i64 x.root.count,.int .i64 x.root.flags] from rfl]
      have hX:=hidA (heap_newL w3 (.cells #[.string x.key,.int .i64 x.kind,.string x.val,.int .i64 x.run,.int .i64 x.len,.slice ya yn yc,.int .i64 x.dup,.int .i64 x.root.page,.int .i64 x.root.count,.int .i64 x.root.flags] 45))
      have hbn:=(Below.refl w3.heap.size w3).alloc (Nat.le_refl _) (.cells #[.string x.key,.int .i64 x.kind,.string x.val,.int .i64 x.run,.int .i64 x.len,.slice ya yn yc,.int .i64 x.dup,.int .i64 x.root.page,.int .i64 x.root.count,.int .i64 x.root.flags] 45)
      have hA4:=hidA ((hbn.block _ (F.lt_of_heap hA3.out)).trans hA3.out)
      have hb4Y:=hidA (hb3Y.out.trans (hbn.mono hb3Y.out.size))
      have hb4W:=hidA (hb3W.out.trans (hbn.mono hb3W.out.size))
      have hxb:=hidA (show Y.heap.size ≤ w3.heap.size ∧ w.heap.size ≤ w3.heap.size from ⟨hb3Y.out.size,hb3W.out.size⟩)
      have hne:=hidA (show tb ≠ w3.heap.size by have:=F.lt_of_heap hA3.out; omega)
      clear hb3 hbn hA hbY hbW hA3 hb3Y hb3W
      go_wp2
      generalize w3.alloc (.cells #[.string x.key,.int .i64 x.kind,.string x.val,.int .i64 x.run,.int .i64 x.len,.slice ya yn yc,.int .i64 x.dup,.int .i64 x.root.page,.int .i64 x.root.count,.int .i64 x.root.flags] 45) = W4 at *
      generalize w3.heap.size = xb at *
      go_loopg [10,11] 256 (fun g v10 v11 wr => ∃ i:Nat,i + g = 256 ∧ v11 = .int .i64 (i:Int) ∧ v10 = foundE (geN L i) ∧ Hid (∃ x ya yn yc,x = foundI (geN L i) ∧ wr.heap[xb]? = some (.cells #[.string x.key,.int .i64 x.kind,.string x.val,.int .i64 x.run,.int .i64 x.len,.slice ya yn yc,.int .i64 x.dup,.int .i64 x.root.page,.int .i64 x.root.count,.int .i64 x.root.flags] 45 (0,0))) ∧ Hid (wr.heap[tb]? = some (.cells (thereA l l.length) 35 (0,0))) ∧ Hid (Below Y.heap.size Y wr) ∧ Hid (Below w.heap.size w wr))
      case atStart => exact ⟨0,by omega,rfl,rfl,hidA ⟨x,ya,yn,yc,hx.out,hX.out⟩,hA4,hb4Y,hb4W⟩
      case round =>
        obtain ⟨i,hi,rfl,rfl,hX5,hA5,hbY,hbW⟩:=hrel
        clear hX hA4 hb4Y hb4W hx
        cases gk with
        | succ g =>
          have hi256:i < 256:=by omega
          have hat:=at256 tb .i64 i hi256
          have c7:=(cell_rowL hA5.out i).trans (there_get l l.length hi256)
          by_cases hiL:i ∈ L
          · rw [show decide (i ∈ l.take l.length) = true from decide_eq_true ((hmL.out i).1 hiL)] at c7
            have hg:=ge_hit hriL.out hiL
            obtain ⟨x,ya,yn,yc,hxx,hXX⟩:=hX5.out
            rw [hg] at hxx ⊢
            have hkx:x.key = key2 i:=by rw [hxx]; rfl
            rw [show foundE (some i) = .nilIface from rfl]
            have hlx:=F.lt_of_heap hXX
            have hcx:∀ d os,(grow (redrawn wr d) os).cell? ⟨xb,0,none⟩ = some (.string (key2 i)):=fun d os => by
              rw [(below_regrown wr d os).cell (p:=⟨xb,0,none⟩) hlx,cell_rowL hXX 0,hkx]
              rfl
            have HKy:Hid (∀ d os,Calls Tryz.prog 15 #[.int .i64 (i:Int)] (grow (redrawn wr d) os) fun e w'' => e = .returned (.string (key2 i)) ∧ ∃ p:Regrown,w'' = grow (redrawn wr p.d) p.os):=hidA (fun d os => Calls.regrown_of (key_any i hi256 _))
            have hXX':=hidA hXX
            have hnn:=neqNil10
            have HB:=hidA (behind_num hRd.out hRt.out hsl.out i hi256)
            have hkx':=hidA hkx
            clear hXX hxx hkx hX5 hlx
            go_upto_region 17 with fail
            refine wp_region_quiet_below (by kernel_rfl) (by kernel_rfl) ?_
            repeat (go_big_quiet_step (exact HKy.out _ _))
            refine wpQuiet_nil ?_
            intro _ hw'
            obtain ⟨⟨dq,osq⟩,hw''⟩:=hw'
            subst hw''
            dsimp only
            have hbZ:=below_regrown wr dq osq
            generalize grow (redrawn wr dq) osq = Z at *
            have hXZ:=hidA ((hbZ.block _ (F.lt_of_heap hXX'.out)).trans hXX'.out)
            have hAZ:=hidA ((hbZ.block _ (F.lt_of_heap hA5.out)).trans hA5.out)
            have hYZ:=hidA (hbY.out.trans (hbZ.mono hbY.out.size))
            have hWZ:=hidA (hbW.out.trans (hbZ.mono hbW.out.size))
            have cZ:=(cell_rowL hXZ.out 0).trans (show _ = some (.string (key2 i)) by rw [← hkx'.out]; rfl)
            clear hcx HKy hbZ hXX' hA5 hbY hbW
            go_wp2_with fail
            refine (HB.out Z hYZ.out).mono ?_
            rintro e w6 ⟨⟨za,zn,zc,rfl⟩,hb6⟩
            obtain ⟨x2,hx2⟩:∃ x2,Hid (x2 = foundI (geN L (i + 1))):=⟨_,hidA rfl⟩
            rw [← hx2.out]
            rw [show (itemCells x2 (.slice za zn zc)).toArray = #[.string x2.key,.int .i64 x2.kind,.string x2.val,.int .i64 x2.run,.int .i64 x2.len,.slice za zn zc,.int .i64 x2.dup,.int .i64 x2.root.page,.int .i64 x2.root.count,.int .i64 x2.root.flags] from rfl]
            have hX6:=hidA ((hb6.block _ (F.lt_of_heap hXZ.out)).trans hXZ.out)
            have hA6:=hidA ((hb6.block _ (F.lt_of_heap hAZ.out)).trans hAZ.out)
            have hY6:=hidA (hYZ.out.trans (hb6.mono hYZ.out.size))
            have hW6:=hidA (hWZ.out.trans (hb6.mono hWZ.out.size))
            have c6:=cell_rowL hX6.out
            have f6:=frozen_rowL hX6.out
            clear cZ hXZ hAZ hYZ hWZ hb6 HB
            go_wp2
            go_roundg g
            case rel => exact ⟨i + 1,by omega,by go_num,rfl,hidA ⟨x2,za,zn,zc,hx2.out,ten_cells _ _ _ _ _ _ _ _ _ _ hX6.out⟩,hidA ((ten_other hne.out _ _ _ _ _ _ _ _ _ _).trans hA6.out),hidA (ten_below hY6.out hxb.out.1 _ _ _ _ _ _ _ _ _ _),hidA (ten_below hW6.out hxb.out.2 _ _ _ _ _ _ _ _ _ _)⟩
            case measure => omega
          · rw [show decide (i ∈ l.take l.length) = false from decide_eq_false (fun h => hiL ((hmL.out i).2 h))] at c7
            have hg:=ge_skip hiL
            have hX6:Hid (∃ x ya yn yc,x = foundI (geN L (i + 1)) ∧ wr.heap[xb]? = some (.cells #[.string x.key,.int .i64 x.kind,.string x.val,.int .i64 x.run,.int .i64 x.len,.slice ya yn yc,.int .i64 x.dup,.int .i64 x.root.page,.int .i64 x.root.count,.int .i64 x.root.flags] 45 (0,0))):=by rw [← hg]; exact hX5
            clear hX5
            go_wp2
            go_roundg g
            case rel => exact ⟨i + 1,by omega,by go_num,by rw [hg],hX6,hA5,hbY,hbW⟩
            case measure => omega
        | zero =>
          obtain rfl:i = 256:=by omega
          have hg:geN L 256 = none:=ge_none hL256.out
          rw [show foundE (geN L 256) = .iface 64 (.int .i64 21) by rw [hg]; rfl]
          go_wp2_with fail
          refine (is_same21 _).mono ?_
          rintro e w6 ⟨rfl,rfl⟩
          go_wp2
          go_ret
          exact ⟨rfl,hbW.out⟩
end Go.Proofs.YtdihdchfigemnaaGreat

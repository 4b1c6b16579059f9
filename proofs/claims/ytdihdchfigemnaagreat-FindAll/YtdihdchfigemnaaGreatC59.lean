import Derived.Test.YtdihdchfigemnaaGreatC61
namespace Go.Proofs.YtdihdchfigemnaaGreat
open Go.RowKit Go.Sort Go.Conc
set_option maxRecDepth 100000 in
set_option maxHeartbeats 4000000 in
theorem all_law (l:List Nat) (v:Value) (w:World) (h:KeysOk w v l) :
    Calls Tryz.prog 8 #[v] w fun e w' => e = .returned (.bool true) ∧ Below w.heap.size w w':=by
  obtain ⟨hk0,h256⟩:=h
  obtain ⟨ao,cap,rfl,hlm,hcl⟩:=hk0
  have HK:Hid (∀ k,k < l.length → ∃ a,(∀ W,(Instr.indexAt 22 (.slice ao l.length cap) (.int .i64 (k:Int))).run Tryz.prog W = .ok (.pointer (some a)) W) ∧ ∀ W,Below w.heap.size w W → W.cell? a = some (.int .u8 ((l.getD k 0:Nat):Int))):=hidA (fun k hk => KeysAt.get ⟨ao,cap,rfl,hlm,hcl⟩ hk)
  have hk0:=hidA (show KeysAt w (.slice ao l.length cap) l from ⟨ao,cap,rfl,hlm,hcl⟩)
  have h256':Hid (∀ y ∈ l,y < 256):=hidA h256
  have hx256:Hid (∀ k,k < l.length → l.getD k 0 < 256):=hidA (fun k hk => by
    have:=h256 _ (List.getElem_mem hk)
    simpa [List.getD,hk] using this)
  clear hlm hcl h256
  go_enter Tryz.func8,Tryz.ntmps8
  go_wp2_with fail
  refine (known_find w).mono ?_
  rintro e w0 ⟨rfl,hb0⟩
  replace hb0:=hidA hb0
  by_cases hl:60 < l.length
  · have hd:decide ((60:Int) < (l.length:Int)) = true:=by simp; omega
    go_wp2
    go_ret
    exact ⟨rfl,hb0.out⟩
  have hd:decide ((60:Int) < (l.length:Int)) = false:=by simp; omega
  have hll:=hidA (show l.length ≤ 120 by omega)
  clear hl
  have hkW:Hid (KeysAt w0 (.slice ao l.length cap) l):=hidA (by
    obtain ⟨ao',cap',e,h1,h2⟩:=hk0.out
    refine ⟨ao',cap',e,h1,fun i hi => ?_⟩
    obtain ⟨a,ha,hc⟩:=h2 i hi
    exact ⟨a,ha,(hb0.out.cell (World.block_lt_of_cell? _ _ hc)).trans hc⟩)
  have C0:=hidA (tree_any w0 _ l hkW.out h256'.out hll.out)
  go_wp2_with fail
  refine C0.out.mono ?_
  rintro e w1 ⟨BT,fb,ps,root,uV,uD,uL,rfl,hRt,hBT,hF,hb1⟩
  have hsl:(setN l l.length).length ≤ 120:=by have:=setN_length l l.length; have:=hll.out; omega
  have hmL:Hid (∀ y,y ∈ setN l l.length ↔ y ∈ l.take l.length):=hidA (mem_setN l l.length (Nat.le_refl _))
  have hriL:Hid (Ri (setN l l.length)):=hidA (setN_ri l l.length)
  generalize setN l l.length = L at *
  have hlp:ps.length ≤ 120:=by have:=hRt.fits.2.2; omega
  have hnp:∀ i (h:i < ps.length),NumP ps[i]:=fun i h => hRt.page hsl h
  have hL256:Hid (∀ y ∈ L,y < 256):=hidA hRt.fits.2.1
  have hRt:=hidA hRt
  have hsl:=hidA hsl
  have CN:=hidA (grown_file hF hnp hlp)
  have c0:=cell_rowL hF.obj
  have hbT:=hidA (hb0.out.trans (hb1.mono hb0.out.size))
  clear C0 hb0 hb1 hF hkW
  go_wp2_with fail
  refine CN.out.mono ?_
  rintro e w2 ⟨rfl,u2,hf2,hb2⟩
  have CS:=hidA (grown_store hf2 hb2 hnp hlp)
  have hsz:=hidA hbT.out.size
  clear CN c0 hf2 hb2
  generalize w1.heap.size = fp at *
  go_wp2_with fail
  refine CS.out.mono ?_
  rintro e Y ⟨sb,rfl,hRd,hbY⟩
  have hRd:=hidA hRd
  have hbW:=hidA (hbT.out.trans (hbY.mono hsz.out))
  clear CS hnp hlp hbT hbY hd hsz
  go_upto_region 7 with fail
  refine alloc256 ?_
  rw [show thereA [] 0 = thereA l 0 from (there_zero _).trans (there_zero l).symm]
  have hbn:=(Below.refl Y.heap.size Y).alloc (Nat.le_refl _) (.cells (thereA l 0) 35)
  have hA0:=hidA (heap_newL Y (.cells (thereA l 0) 35))
  have hbY1:=hidA hbn
  have hbW1:=hidA (hbW.out.trans (hbn.mono hbW.out.size))
  have hWY:=hidA hbW.out.size
  clear hbn hbW
  generalize Y.alloc (.cells (thereA l 0) 35) = Y1 at *
  obtain ⟨tb,htb⟩:∃ tb,Y.heap.size = tb:=⟨_,rfl⟩
  rw [htb] at hA0 hWY ⊢
  simp only [Act.put,List.setIfInBounds_toArray,List.set_cons_zero,List.set_cons_succ]
  go_wp2
  go_loopg [8] l.length (fun g v8 wr => ∃ k:Nat,k + g = l.length ∧ v8 = .int .i64 (k:Int) ∧ Hid (wr.heap[tb]? = some (.cells (thereA l k) 35 (0,0))) ∧ Hid (Below Y.heap.size Y wr) ∧ Hid (Below w.heap.size w wr))
  case atStart => exact ⟨0,by omega,rfl,hA0,hbY1,hbW1⟩
  case round =>
    obtain ⟨k,hk,rfl,hA,hbY,hbW⟩:=hrel
    clear hA0 hbY1 hbW1
    have hk120:k ≤ 120:=by have:=hll.out; omega
    cases gk with
    | succ g =>
      have hlk:k < l.length:=by omega
      obtain ⟨a,hix,hcell⟩:=HK.out k hlk
      have hc:=hcell wr hbW.out
      have hx:=hx256.out k hlk
      have hst:=hidA (there_set hlk)
      clear hcell
      generalize l.getD k 0 = x at *
      have c7:=(cell_rowL hA.out x).trans (there_get l k hx)
      have f7:=frozen_rowL hA.out x
      have hi256:=at256 tb .u8 x hx
      have hA2:=heap_setCell_same wr tb x _ _ (.bool true) hA.out
      rw [hst.out] at hA2
      have hA2:=hidA hA2
      clear hst
      go_wp2
      go_roundg g
      case rel => exact ⟨k + 1,by omega,by go_num,hA2,hidA (hbY.out.setCell (by simp [htb]) _),hidA (hbW.out.setCell (by simpa using hWY.out) _)⟩
      case measure => omega
    | zero =>
      obtain rfl:k = l.length:=by omega
      clear HK hx256
      go_wp2
      go_loopg [9] 256 (fun g v9 wr => ∃ i:Nat,i + g = 256 ∧ v9 = .int .i64 (i:Int) ∧ Hid (wr.heap[tb]? = some (.cells (thereA l l.length) 35 (0,0))) ∧ Hid (Below Y.heap.size Y wr) ∧ Hid (Below w.heap.size w wr))
      case atStart => exact ⟨0,by omega,rfl,hA,hbY,hbW⟩
      case round =>
        obtain ⟨i,hi,rfl,hA5,hbY5,hbW5⟩:=hrel
        clear hA hbY hbW
        cases gk with
        | succ g =>
          have hi256:i < 256:=by omega
          have hat:=at256 tb .i64 i hi256
          have HG:=hidA (get_num hRd.out hRt.out hsl.out i hi256)
          go_wp2_with fail
          refine (key_any i hi256 _).mono ?_
          rintro e w2 ⟨rfl,hb2⟩
          have hYa:=hidA (hbY5.out.trans (hb2.mono hbY5.out.size))
          have hWa:=hidA (hbW5.out.trans (hb2.mono hbW5.out.size))
          have hAa:=hidA ((hb2.block _ (F.lt_of_heap hA5.out)).trans hA5.out)
          clear hb2 hA5 hbY5 hbW5
          go_wp2_with fail
          refine (HG.out w2 hYa.out).mono ?_
          rintro e w3 ⟨⟨ya,yn,yc,rfl⟩,hb3⟩
          rw [find_is]
          obtain ⟨x,hx⟩:∃ x,Hid (x = foundI (if i ∈ L then some i else none)):=⟨_,hidA rfl⟩
          rw [← hx.out]
          rw [show (itemCells x (.slice ya yn yc)).toArray = #[.string x.key,.int .i64 x.kind,.string x.val,.int .i64 x.run,.int .i64 x.len,.slice ya yn yc,.int .i64 x.dup,.int .i64 x.root.page,.int .i64 x.root.count,.int .i64 x.root.flags] from rfl]
          have hbn:=(Below.refl w3.heap.size w3).alloc (Nat.le_refl _) (.cells #[.string x.key,.int .i64 x.kind,.string x.val,.int .i64 x.run,.int .i64 x.len,.slice ya yn yc,.int .i64 x.dup,.int .i64 x.root.page,.int .i64 x.root.count,.int .i64 x.root.flags] 45)
          have hX:=hidA (heap_newL w3 (.cells #[.string x.key,.int .i64 x.kind,.string x.val,.int .i64 x.run,.int .i64 x.len,.slice ya yn yc,.int .i64 x.dup,.int .i64 x.root.page,.int .i64 x.root.count,.int .i64 x.root.flags] 45))
          have hb4:=hb3.trans (hbn.mono hb3.size)
          have hYb:=hidA (hYa.out.trans (hb4.mono hYa.out.size))
          have hWb:=hidA (hWa.out.trans (hb4.mono hWa.out.size))
          have hAb:=hidA ((hb4.block _ (F.lt_of_heap hAa.out)).trans hAa.out)
          clear hb3 hb4 hbn hYa hWa hAa HG
          by_cases hiL:i ∈ L
          · rw [if_pos hiL] at hx ⊢
            rw [show foundE (some i) = .nilIface from rfl]
            go_upto_region 16 with fail
            generalize w3.alloc (.cells #[.string x.key,.int .i64 x.kind,.string x.val,.int .i64 x.run,.int .i64 x.len,.slice ya yn yc,.int .i64 x.dup,.int .i64 x.root.page,.int .i64 x.root.count,.int .i64 x.root.flags] 45) = wr at *
            generalize w3.heap.size = xb at *
            have hcx:∀ d os,(grow (redrawn wr d) os).cell? ⟨xb,0,none⟩ = some (.string (key2 i)):=fun d os => by
              rw [(below_regrown wr d os).cell (p:=⟨xb,0,none⟩) (F.lt_of_heap hX.out),cell_rowL hX.out 0,hx.out]
              rfl
            have hcv:∀ d os,(grow (redrawn wr d) os).cell? ⟨xb,2,none⟩ = some (.string ⟨#[118]⟩):=fun d os => by
              rw [(below_regrown wr d os).cell (p:=⟨xb,2,none⟩) (F.lt_of_heap hX.out),cell_rowL hX.out 2,hx.out]
              rfl
            have hct:∀ d os,(grow (redrawn wr d) os).cell? ⟨tb,i,none⟩ = some (.bool true):=fun d os => by
              rw [(below_regrown wr d os).cell (p:=⟨tb,i,none⟩) (F.lt_of_heap hAb.out),cell_rowL hAb.out i,there_get l l.length hi256,show decide (i ∈ l.take l.length) = true from decide_eq_true ((hmL.out i).1 hiL)]
            have HKy:Hid (∀ d os,Calls Tryz.prog 15 #[.int .i64 (i:Int)] (grow (redrawn wr d) os) fun e w'' => e = .returned (.string (key2 i)) ∧ ∃ p:Regrown,w'' = grow (redrawn wr p.d) p.os):=hidA (fun d os => Calls.regrown_of (key_any i hi256 _))
            have hnn:=eqNil10
            clear hx
            refine wp_region_quiet_below (by kernel_rfl) (by kernel_rfl) ?_
            repeat (go_big_quiet_step (exact HKy.out _ _))
            refine wpQuiet_nil ?_
            intro _ hw'
            obtain ⟨⟨dq,osq⟩,hw''⟩:=hw'
            subst hw''
            dsimp only
            have hbZ:=below_regrown wr dq osq
            generalize grow (redrawn wr dq) osq = Z at *
            have hAZ:=hidA ((hbZ.block _ (F.lt_of_heap hAb.out)).trans hAb.out)
            have hYZ:=hidA (hYb.out.trans (hbZ.mono hYb.out.size))
            have hWZ:=hidA (hWb.out.trans (hbZ.mono hWb.out.size))
            clear hcx hcv hct HKy hbZ hAb hYb hWb
            go_wp2
            go_roundg g
            case rel => exact ⟨i + 1,by omega,by go_num,hAZ,hYZ,hWZ⟩
            case measure => omega
          · rw [if_neg hiL] at hx ⊢
            rw [show foundE none = .iface 64 (.int .i64 21) from rfl]
            go_upto_region 16 with fail
            generalize w3.alloc (.cells #[.string x.key,.int .i64 x.kind,.string x.val,.int .i64 x.run,.int .i64 x.len,.slice ya yn yc,.int .i64 x.dup,.int .i64 x.root.page,.int .i64 x.root.count,.int .i64 x.root.flags] 45) = wr at *
            generalize w3.heap.size = xb at *
            have hct:∀ d os,(grow (redrawn wr d) os).cell? ⟨tb,i,none⟩ = some (.bool false):=fun d os => by
              rw [(below_regrown wr d os).cell (p:=⟨tb,i,none⟩) (F.lt_of_heap hAb.out),cell_rowL hAb.out i,there_get l l.length hi256,show decide (i ∈ l.take l.length) = false from decide_eq_false (fun h => hiL ((hmL.out i).2 h))]
            have hnn:=eqE 21
            clear hx
            refine wp_region_quiet_below (by kernel_rfl) (by kernel_rfl) ?_
            repeat (go_big_quiet_step (fail))
            refine wpQuiet_nil ?_
            intro _ hw'
            obtain ⟨⟨dq,osq⟩,hw''⟩:=hw'
            subst hw''
            dsimp only
            have hbZ:=below_regrown wr dq osq
            generalize grow (redrawn wr dq) osq = Z at *
            have hAZ:=hidA ((hbZ.block _ (F.lt_of_heap hAb.out)).trans hAb.out)
            have hYZ:=hidA (hYb.out.trans (hbZ.mono hYb.out.size))
            have hWZ:=hidA (hWb.out.trans (hbZ.mono hWb.out.size))
            clear hct hbZ hAb hYb hWb
            go_wp2
            go_roundg g
            case rel => exact ⟨i + 1,by omega,by go_num,hAZ,hYZ,hWZ⟩
            case measure => omega
        | zero =>
          go_wp2
          go_ret
          exact ⟨rfl,hbW5.out⟩
end Go.Proofs.YtdihdchfigemnaaGreat

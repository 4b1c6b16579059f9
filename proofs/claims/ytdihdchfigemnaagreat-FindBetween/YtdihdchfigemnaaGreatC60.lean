import Derived.Test.YtdihdchfigemnaaGreatC61
namespace Go.Proofs.YtdihdchfigemnaaGreat
open Go.RowKit Go.Sort Go.Conc
set_option maxRecDepth 100000 in
set_option maxHeartbeats 4000000 in
theorem between_law (l:List Nat) (c:Int) (v:Value) (w:World) (h:KeysOk w v l) (hc0:0 ≤ c) (hc1:c ≤ 255) :
    Calls Tryz.prog 7 #[v,.int .u8 c] w fun e w' => e = .returned (.bool true) ∧ Below w.heap.size w w':=by
  obtain ⟨K,rfl⟩:∃ K:Nat,c = (K:Int):=⟨c.toNat,by omega⟩
  have hK:K < 256:=by omega
  clear hc0 hc1
  obtain ⟨hk0,h256⟩:=h
  obtain ⟨ao,cap,rfl,hlm,hcl⟩:=hk0
  have HK:Hid (∀ k,k < l.length → ∃ a,(∀ W,(Instr.indexAt 22 (.slice ao l.length cap) (.int .i64 (k:Int))).run Tryz.prog W = .ok (.pointer (some a)) W) ∧ ∀ W,Below w.heap.size w W → W.cell? a = some (.int .u8 ((l.getD k 0:Nat):Int))):=hidA (fun k hk => KeysAt.get ⟨ao,cap,rfl,hlm,hcl⟩ hk)
  have hk0:=hidA (show KeysAt w (.slice ao l.length cap) l from ⟨ao,cap,rfl,hlm,hcl⟩)
  have h256':Hid (∀ y ∈ l,y < 256):=hidA h256
  have hx256:Hid (∀ k,k < l.length → l.getD k 0 < 256):=hidA (fun k hk => by
    have:=h256 _ (List.getElem_mem hk)
    simpa [List.getD,hk] using this)
  clear hlm hcl h256
  go_enter Tryz.func7,Tryz.ntmps7
  go_wp2_with fail
  refine (known_find w).mono ?_
  rintro e w0 ⟨rfl,hb0⟩
  replace hb0:=hidA hb0
  by_cases hl:100 < l.length
  · have hd:decide ((100:Int) < (l.length:Int)) = true:=by simp; omega
    go_wp2
    go_ret
    exact ⟨rfl,hb0.out⟩
  have hd:decide ((100:Int) < (l.length:Int)) = false:=by simp; omega
  have hll:=hidA (show l.length ≤ 120 by omega)
  clear hl
  have hkW:Hid (KeysAt w0 (.slice ao l.length cap) l):=hidA (by
    obtain ⟨ao',cap',e,h1,h2⟩:=hk0.out
    refine ⟨ao',cap',e,h1,fun i hi => ?_⟩
    obtain ⟨a,ha,hc⟩:=h2 i hi
    exact ⟨a,ha,(hb0.out.cell (World.block_lt_of_cell? _ _ hc)).trans hc⟩)
  have C0:=hidA (tree_any w0 _ l hkW.out h256'.out hll.out)
  go_wp2_with fail
  refine C0.out.mono ?_
  rintro e w1 ⟨BT,fb,ps,root,uV,uD,uL,rfl,hRt,hBT,hF,hb1⟩
  have hsl:(setN l l.length).length ≤ 120:=by have:=setN_length l l.length; have:=hll.out; omega
  have hmL:Hid (∀ y,y ∈ setN l l.length ↔ y ∈ l.take l.length):=hidA (mem_setN l l.length (Nat.le_refl _))
  have hriL:Hid (Ri (setN l l.length)):=hidA (setN_ri l l.length)
  generalize setN l l.length = L at *
  have hlp:ps.length ≤ 120:=by have:=hRt.fits.2.2; omega
  have hnp:∀ i (h:i < ps.length),NumP ps[i]:=fun i h => hRt.page hsl h
  have hL256:Hid (∀ y ∈ L,y < 256):=hidA hRt.fits.2.1
  have hRt:=hidA hRt
  have hsl:=hidA hsl
  have CN:=hidA (grown_file hF hnp hlp)
  have c0:=cell_rowL hF.obj
  have hbT:=hidA (hb0.out.trans (hb1.mono hb0.out.size))
  clear C0 hb0 hb1 hF hkW
  go_wp2_with fail
  refine CN.out.mono ?_
  rintro e w2 ⟨rfl,u2,hf2,hb2⟩
  have CS:=hidA (grown_store hf2 hb2 hnp hlp)
  have hsz:=hidA hbT.out.size
  clear CN c0 hf2 hb2
  generalize w1.heap.size = fp at *
  go_wp2_with fail
  refine CS.out.mono ?_
  rintro e Y ⟨sb,rfl,hRd,hbY⟩
  have hRd:=hidA hRd
  have hbW:=hidA (hbT.out.trans (hbY.mono hsz.out))
  clear CS hnp hlp hbT hbY hd hsz
  go_wp2
  go_loopg [9,10,11] l.length (fun g v9 v10 v11 wr => ∃ k:Nat,k + g = l.length ∧ v11 = .int .i64 (k:Int) ∧ v9 = .int .i64 ((leastN l K k:Nat):Int) ∧ v10 = .int .i64 ((leastN l (K + 1) k:Nat):Int) ∧ wr = Y)
  case atStart => exact ⟨0,by omega,rfl,rfl,rfl,rfl⟩
  case round =>
    obtain ⟨k,hk,rfl,rfl,rfl,rfl⟩:=hrel
    have hk120:k ≤ 120:=by have:=hll.out; omega
    cases gk with
    | succ g =>
      have hlk:k < l.length:=by omega
      obtain ⟨a,hix,hcell⟩:=HK.out k hlk
      have hc:=hcell wr hbW.out
      have hx:=hx256.out k hlk
      have hs1:Hid (leastN l K (k + 1) = if K ≤ l.getD k 0 then min (leastN l K k) (l.getD k 0) else leastN l K k):=hidA rfl
      have hs2:Hid (leastN l (K + 1) (k + 1) = if K + 1 ≤ l.getD k 0 then min (leastN l (K + 1) k) (l.getD k 0) else leastN l (K + 1) k):=hidA rfl
      clear hcell
      generalize l.getD k 0 = x at *
      generalize leastN l K k = A at *
      generalize leastN l (K + 1) k = Ab at *
      have em1:min (A:Int) (x:Int) = ((min A x:Nat):Int):=by omega
      have em2:min (Ab:Int) (x:Int) = ((min Ab x:Nat):Int):=by omega
      have hx0:(0:Int) ≤ (x:Int):=by omega
      have hx1:(x:Int) ≤ 255:=by omega
      have hK0:(0:Int) ≤ (K:Int):=by omega
      have hK1:(K:Int) ≤ 255:=by omega
      by_cases h1:K ≤ x
      · have d1:decide ((K:Int) ≤ (x:Int)) = true:=by simp; omega
        rw [if_pos h1] at hs1
        by_cases h2:K + 1 ≤ x
        · have d2:decide ((K:Int) < (x:Int)) = true:=by simp; omega
          rw [if_pos h2] at hs2
          go_wp2
          go_roundg g
          case rel => exact ⟨k + 1,by omega,by go_num,by rw [hs1.out],by rw [hs2.out],rfl⟩
          case measure => omega
        · have d2:decide ((K:Int) < (x:Int)) = false:=by simp; omega
          rw [if_neg h2] at hs2
          go_wp2
          go_roundg g
          case rel => exact ⟨k + 1,by omega,by go_num,by rw [hs1.out],by rw [hs2.out],rfl⟩
          case measure => omega
      · have d1:decide ((K:Int) ≤ (x:Int)) = false:=by simp; omega
        have d2:decide ((K:Int) < (x:Int)) = false:=by simp; omega
        rw [if_neg h1] at hs1
        rw [if_neg (by omega)] at hs2
        go_wp2
        go_roundg g
        case rel => exact ⟨k + 1,by omega,by go_num,by rw [hs1.out],by rw [hs2.out],rfl⟩
        case measure => omega
    | zero =>
      obtain rfl:k = l.length:=by omega
      clear HK hx256 hk120
      have hm:∀ y,y ∈ L ↔ y ∈ l:=fun y => by rw [hmL.out,List.take_length]
      rw [ge_least hriL.out hm h256'.out K,ge_least hriL.out hm h256'.out (K + 1)]
      have hgm:Hid (∀ m y,geN L m = some y → y ∈ L ∧ m ≤ y):=hidA (fun m y h => ⟨(ge_some hriL.out h).1,(ge_some hriL.out h).2.1⟩)
      have hhit:Hid (K ∈ L → geN L K = some K):=hidA (ge_hit hriL.out)
      clear hm hmL hriL hll
      have hK0:(0:Int) ≤ (K:Int):=by omega
      have hK1:(K:Int) ≤ 255:=by omega
      have hYY:=hidA (Below.refl wr.heap.size wr)
      go_wp2_with fail
      refine (key_any K hK _).mono ?_
      rintro e w2 ⟨rfl,hb2⟩
      have hY2:=hidA hb2
      have hW2:=hidA (hbW.out.trans (hb2.mono hbW.out.size))
      clear hb2 hYY hbW
      go_wp2_with fail
      refine (above_num hRd.out hRt.out hsl.out K hK w2 hY2.out).mono ?_
      rintro e v0 ⟨⟨y0a,y0n,y0c,rfl⟩,hb0⟩
      obtain ⟨x0,hx0⟩:∃ x,Hid (x = foundI (geN L K)):=⟨_,hidA rfl⟩
      rw [← hx0.out]
      rw [show (itemCells x0 (.slice y0a y0n y0c)).toArray = #[.string x0.key,.int .i64 x0.kind,.string x0.val,.int .i64 x0.run,.int .i64 x0.len,.slice y0a y0n y0c,.int .i64 x0.dup,.int .i64 x0.root.page,.int .i64 x0.root.count,.int .i64 x0.root.flags] from rfl]
      have hbn0:=hb0.trans (((Below.refl v0.heap.size v0).alloc (Nat.le_refl _) (.cells #[.string x0.key,.int .i64 x0.kind,.string x0.val,.int .i64 x0.run,.int .i64 x0.len,.slice y0a y0n y0c,.int .i64 x0.dup,.int .i64 x0.root.page,.int .i64 x0.root.count,.int .i64 x0.root.flags] 45)).mono hb0.size)
      have hY3:=hidA (hY2.out.trans (hbn0.mono hY2.out.size))
      have hW3:=hidA (hW2.out.trans (hbn0.mono hW2.out.size))
      have hT0:=hidA (heap_newL v0 (.cells #[.string x0.key,.int .i64 x0.kind,.string x0.val,.int .i64 x0.run,.int .i64 x0.len,.slice y0a y0n y0c,.int .i64 x0.dup,.int .i64 x0.root.page,.int .i64 x0.root.count,.int .i64 x0.root.flags] 45))
      clear hb0 hbn0 hY2 hW2
      go_wp2_with fail
      generalize v0.alloc (.cells #[.string x0.key,.int .i64 x0.kind,.string x0.val,.int .i64 x0.run,.int .i64 x0.len,.slice y0a y0n y0c,.int .i64 x0.dup,.int .i64 x0.root.page,.int .i64 x0.root.count,.int .i64 x0.root.flags] 45) = X0 at *
      generalize v0.heap.size = p0 at *
      refine (behind_num hRd.out hRt.out hsl.out K hK X0 hY3.out).mono ?_
      rintro e v1 ⟨⟨y1a,y1n,y1c,rfl⟩,hb1⟩
      obtain ⟨x1,hx1⟩:∃ x,Hid (x = foundI (geN L (K + 1))):=⟨_,hidA rfl⟩
      rw [← hx1.out]
      rw [show (itemCells x1 (.slice y1a y1n y1c)).toArray = #[.string x1.key,.int .i64 x1.kind,.string x1.val,.int .i64 x1.run,.int .i64 x1.len,.slice y1a y1n y1c,.int .i64 x1.dup,.int .i64 x1.root.page,.int .i64 x1.root.count,.int .i64 x1.root.flags] from rfl]
      have hbn1:=hb1.trans (((Below.refl v1.heap.size v1).alloc (Nat.le_refl _) (.cells #[.string x1.key,.int .i64 x1.kind,.string x1.val,.int .i64 x1.run,.int .i64 x1.len,.slice y1a y1n y1c,.int .i64 x1.dup,.int .i64 x1.root.page,.int .i64 x1.root.count,.int .i64 x1.root.flags] 45)).mono hb1.size)
      have hY4:=hidA (hY3.out.trans (hbn1.mono hY3.out.size))
      have hW4:=hidA (hW3.out.trans (hbn1.mono hW3.out.size))
      have hT0':=hidA ((hbn1.block _ (F.lt_of_heap hT0.out)).trans hT0.out)
      clear hT0
      have hT0:=hT0'
      clear hT0'
      have hT1:=hidA (heap_newL v1 (.cells #[.string x1.key,.int .i64 x1.kind,.string x1.val,.int .i64 x1.run,.int .i64 x1.len,.slice y1a y1n y1c,.int .i64 x1.dup,.int .i64 x1.root.page,.int .i64 x1.root.count,.int .i64 x1.root.flags] 45))
      clear hb1 hbn1 hY3 hW3
      go_wp2_with fail
      generalize v1.alloc (.cells #[.string x1.key,.int .i64 x1.kind,.string x1.val,.int .i64 x1.run,.int .i64 x1.len,.slice y1a y1n y1c,.int .i64 x1.dup,.int .i64 x1.root.page,.int .i64 x1.root.count,.int .i64 x1.root.flags] 45) = X1 at *
      generalize v1.heap.size = p1 at *
      refine (get_num hRd.out hRt.out hsl.out K hK X1 hY4.out).mono ?_
      rintro e v2 ⟨⟨y2a,y2n,y2c,rfl⟩,hb2⟩
      rw [find_is]
      obtain ⟨x2,hx2⟩:∃ x,Hid (x = foundI ((if K ∈ L then some K else none))):=⟨_,hidA rfl⟩
      rw [← hx2.out]
      rw [show (itemCells x2 (.slice y2a y2n y2c)).toArray = #[.string x2.key,.int .i64 x2.kind,.string x2.val,.int .i64 x2.run,.int .i64 x2.len,.slice y2a y2n y2c,.int .i64 x2.dup,.int .i64 x2.root.page,.int .i64 x2.root.count,.int .i64 x2.root.flags] from rfl]
      have hbn2:=hb2.trans (((Below.refl v2.heap.size v2).alloc (Nat.le_refl _) (.cells #[.string x2.key,.int .i64 x2.kind,.string x2.val,.int .i64 x2.run,.int .i64 x2.len,.slice y2a y2n y2c,.int .i64 x2.dup,.int .i64 x2.root.page,.int .i64 x2.root.count,.int .i64 x2.root.flags] 45)).mono hb2.size)
      have hY5:=hidA (hY4.out.trans (hbn2.mono hY4.out.size))
      have hW5:=hidA (hW4.out.trans (hbn2.mono hW4.out.size))
      have hT0':=hidA ((hbn2.block _ (F.lt_of_heap hT0.out)).trans hT0.out)
      clear hT0
      have hT0:=hT0'
      clear hT0'
      have hT1':=hidA ((hbn2.block _ (F.lt_of_heap hT1.out)).trans hT1.out)
      clear hT1
      have hT1:=hT1'
      clear hT1'
      clear hb2 hbn2 hY4 hW4
      go_upto_region 19 with fail
      generalize v2.alloc (.cells #[.string x2.key,.int .i64 x2.kind,.string x2.val,.int .i64 x2.run,.int .i64 x2.len,.slice y2a y2n y2c,.int .i64 x2.dup,.int .i64 x2.root.page,.int .i64 x2.root.count,.int .i64 x2.root.flags] 45) = Z0 at *
      have hW:=hW5
      have hlM:Hid (∀ y ∈ L,y < 256):=hL256
      clear hY5 hW5 hx2 hRd hRt
      obtain ⟨o0,ho0⟩:∃ o,Hid (o = geN L K):=⟨_,hidA rfl⟩
      obtain ⟨o1,ho1⟩:∃ o,Hid (o = geN L (K + 1)):=⟨_,hidA rfl⟩
      rw [← ho0.out] at hx0 ⊢
      rw [← ho1.out] at hx1 ⊢
      cases o0 with
      | none =>
        simp only [Option.getD_none]
        rw [show foundE none = .iface 64 (.int .i64 21) from rfl]
        rw [show ((256:Nat):Int) = 256 from rfl]
        have HIs:Hid (∀ d os,Calls Tryz.prog 22 #[.iface 64 (.int .i64 21),.iface 64 (.int .i64 21)] (grow (redrawn Z0 d) os) fun e w'' => e = .returned (.bool true) ∧ ∃ p:Regrown,w'' = grow (redrawn Z0 p.d) p.os):=hidA (fun d os => Calls.regrown_of ((is_same21 _).mono fun e w' h => by
          obtain ⟨rfl,rfl⟩:=h
          exact ⟨rfl,Below.refl _ _⟩))
        refine wp_region_quiet_below (by kernel_rfl) (by kernel_rfl) ?_
        repeat (go_big_quiet_step (exact HIs.out _ _))
        refine wpQuiet_nil ?_
        intro _ hw'
        obtain ⟨⟨dq,osq⟩,hw''⟩:=hw'
        subst hw''
        dsimp only
        have hbZ:=below_regrown Z0 dq osq
        generalize grow (redrawn Z0 dq) osq = Z1 at *
        have hT1n:=hidA ((hbZ.block _ (F.lt_of_heap hT1.out)).trans hT1.out)
        have hWn:=hidA (hW.out.trans (hbZ.mono hW.out.size))
        clear HIs hbZ hW hT0 hT1
        have hW:=hWn
        have hT1:=hT1n
        cases o1 with
        | none =>
          simp only [Option.getD_none]
          rw [show foundE none = .iface 64 (.int .i64 21) from rfl]
          rw [show ((256:Nat):Int) = 256 from rfl]
          go_upto_region 21 with fail
          have HIs:Hid (∀ d os,Calls Tryz.prog 22 #[.iface 64 (.int .i64 21),.iface 64 (.int .i64 21)] (grow (redrawn Z1 d) os) fun e w'' => e = .returned (.bool true) ∧ ∃ p:Regrown,w'' = grow (redrawn Z1 p.d) p.os):=hidA (fun d os => Calls.regrown_of ((is_same21 _).mono fun e w' h => by
            obtain ⟨rfl,rfl⟩:=h
            exact ⟨rfl,Below.refl _ _⟩))
          refine wp_region_quiet_below (by kernel_rfl) (by kernel_rfl) ?_
          repeat (go_big_quiet_step (exact HIs.out _ _))
          refine wpQuiet_nil ?_
          intro _ hw'
          obtain ⟨⟨dq,osq⟩,hw''⟩:=hw'
          subst hw''
          dsimp only
          have hbZ:=below_regrown Z1 dq osq
          generalize grow (redrawn Z1 dq) osq = Z2 at *
          have hWn:=hidA (hW.out.trans (hbZ.mono hW.out.size))
          clear HIs hbZ hW hT1
          have hW:=hWn
          have hKL:K ∉ L:=fun h => by
            have:=hhit.out h
            rw [← ho0.out] at this
            cases this
          rw [if_neg hKL]
          rw [show foundE none = .iface 64 (.int .i64 21) from rfl]
          have hq:=eqE 21
          have d5:decide ((256:Int) = (K:Int)) = false:=by simp; omega
          have d6:((256:Int) == (K:Int)) = false:=by simp; omega
          go_wp2
          go_ret
          exact ⟨rfl,hW.out⟩
        | some y1 =>
          have hy1:=hgm.out _ y1 ho1.out.symm
          have hyl1:=hlM.out _ hy1.1
          simp only [Option.getD_some]
          rw [show foundE (some y1) = .nilIface from rfl]
          have e1:(((y1:Nat):Int) == 256) = false:=by simp; omega
          have e2:decide (((y1:Nat):Int) = 256) = false:=by simp; omega
          have e3:decide (((y1:Nat):Int) < 256) = true:=by simp; omega
          have hnn:=neqNil10
          go_upto_region 21 with fail
          have hcx:∀ d os,(grow (redrawn Z1 d) os).cell? ⟨p1,0,none⟩ = some (.string (key2 y1)):=fun d os => by
            rw [(below_regrown Z1 d os).cell (p:=⟨p1,0,none⟩) (F.lt_of_heap hT1.out),cell_rowL hT1.out 0,hx1.out]
            rfl
          have HKy:Hid (∀ d os,Calls Tryz.prog 15 #[.int .i64 (y1:Int)] (grow (redrawn Z1 d) os) fun e w'' => e = .returned (.string (key2 y1)) ∧ ∃ p:Regrown,w'' = grow (redrawn Z1 p.d) p.os):=hidA (fun d os => Calls.regrown_of (key_any y1 hyl1 _))
          refine wp_region_quiet_below (by kernel_rfl) (by kernel_rfl) ?_
          repeat (go_big_quiet_step (exact HKy.out _ _))
          refine wpQuiet_nil ?_
          intro _ hw'
          obtain ⟨⟨dq,osq⟩,hw''⟩:=hw'
          subst hw''
          dsimp only
          have hbZ:=below_regrown Z1 dq osq
          generalize grow (redrawn Z1 dq) osq = Z2 at *
          have hWn:=hidA (hW.out.trans (hbZ.mono hW.out.size))
          clear HKy hcx hbZ hW e1 e2 e3 hnn hT1
          have hW:=hWn
          have hKL:K ∉ L:=fun h => by
            have:=hhit.out h
            rw [← ho0.out] at this
            cases this
          rw [if_neg hKL]
          rw [show foundE none = .iface 64 (.int .i64 21) from rfl]
          have hq:=eqE 21
          have d5:decide ((256:Int) = (K:Int)) = false:=by simp; omega
          have d6:((256:Int) == (K:Int)) = false:=by simp; omega
          go_wp2
          go_ret
          exact ⟨rfl,hW.out⟩
      | some y0 =>
        have hy0:=hgm.out _ y0 ho0.out.symm
        have hyl0:=hlM.out _ hy0.1
        simp only [Option.getD_some]
        rw [show foundE (some y0) = .nilIface from rfl]
        have e1:(((y0:Nat):Int) == 256) = false:=by simp; omega
        have e2:decide (((y0:Nat):Int) = 256) = false:=by simp; omega
        have e3:decide (((y0:Nat):Int) < 256) = true:=by simp; omega
        have hnn:=neqNil10
        have hcx:∀ d os,(grow (redrawn Z0 d) os).cell? ⟨p0,0,none⟩ = some (.string (key2 y0)):=fun d os => by
          rw [(below_regrown Z0 d os).cell (p:=⟨p0,0,none⟩) (F.lt_of_heap hT0.out),cell_rowL hT0.out 0,hx0.out]
          rfl
        have HKy:Hid (∀ d os,Calls Tryz.prog 15 #[.int .i64 (y0:Int)] (grow (redrawn Z0 d) os) fun e w'' => e = .returned (.string (key2 y0)) ∧ ∃ p:Regrown,w'' = grow (redrawn Z0 p.d) p.os):=hidA (fun d os => Calls.regrown_of (key_any y0 hyl0 _))
        refine wp_region_quiet_below (by kernel_rfl) (by kernel_rfl) ?_
        repeat (go_big_quiet_step (exact HKy.out _ _))
        refine wpQuiet_nil ?_
        intro _ hw'
        obtain ⟨⟨dq,osq⟩,hw''⟩:=hw'
        subst hw''
        dsimp only
        have hbZ:=below_regrown Z0 dq osq
        generalize grow (redrawn Z0 dq) osq = Z1 at *
        have hT1n:=hidA ((hbZ.block _ (F.lt_of_heap hT1.out)).trans hT1.out)
        have hWn:=hidA (hW.out.trans (hbZ.mono hW.out.size))
        clear HKy hcx hbZ hW e1 e2 e3 hnn hT0 hT1
        have hW:=hWn
        have hT1:=hT1n
        cases o1 with
        | none =>
          simp only [Option.getD_none]
          rw [show foundE none = .iface 64 (.int .i64 21) from rfl]
          rw [show ((256:Nat):Int) = 256 from rfl]
          go_upto_region 21 with fail
          have HIs:Hid (∀ d os,Calls Tryz.prog 22 #[.iface 64 (.int .i64 21),.iface 64 (.int .i64 21)] (grow (redrawn Z1 d) os) fun e w'' => e = .returned (.bool true) ∧ ∃ p:Regrown,w'' = grow (redrawn Z1 p.d) p.os):=hidA (fun d os => Calls.regrown_of ((is_same21 _).mono fun e w' h => by
            obtain ⟨rfl,rfl⟩:=h
            exact ⟨rfl,Below.refl _ _⟩))
          refine wp_region_quiet_below (by kernel_rfl) (by kernel_rfl) ?_
          repeat (go_big_quiet_step (exact HIs.out _ _))
          refine wpQuiet_nil ?_
          intro _ hw'
          obtain ⟨⟨dq,osq⟩,hw''⟩:=hw'
          subst hw''
          dsimp only
          have hbZ:=below_regrown Z1 dq osq
          generalize grow (redrawn Z1 dq) osq = Z2 at *
          have hWn:=hidA (hW.out.trans (hbZ.mono hW.out.size))
          clear HIs hbZ hW hT1
          have hW:=hWn
          by_cases hKL:K ∈ L
          · have hyk:y0 = K:=by
              have:=hhit.out hKL
              rw [← ho0.out] at this
              cases this
              rfl
            subst hyk
            rw [if_pos hKL]
            rw [show foundE (some y0) = .nilIface from rfl]
            have hq:=eqNil10
            go_wp2
            go_ret
            exact ⟨rfl,hW.out⟩
          · have hyk:y0 ≠ K:=fun e => hKL (e ▸ hy0.1)
            rw [if_neg hKL]
            rw [show foundE none = .iface 64 (.int .i64 21) from rfl]
            have hq:=eqE 21
            have d5:decide ((y0:Int) = (K:Int)) = false:=by simp; omega
            have d6:((y0:Int) == (K:Int)) = false:=by simp; omega
            go_wp2
            go_ret
            exact ⟨rfl,hW.out⟩
        | some y1 =>
          have hy1:=hgm.out _ y1 ho1.out.symm
          have hyl1:=hlM.out _ hy1.1
          simp only [Option.getD_some]
          rw [show foundE (some y1) = .nilIface from rfl]
          have e1:(((y1:Nat):Int) == 256) = false:=by simp; omega
          have e2:decide (((y1:Nat):Int) = 256) = false:=by simp; omega
          have e3:decide (((y1:Nat):Int) < 256) = true:=by simp; omega
          have hnn:=neqNil10
          go_upto_region 21 with fail
          have hcx:∀ d os,(grow (redrawn Z1 d) os).cell? ⟨p1,0,none⟩ = some (.string (key2 y1)):=fun d os => by
            rw [(below_regrown Z1 d os).cell (p:=⟨p1,0,none⟩) (F.lt_of_heap hT1.out),cell_rowL hT1.out 0,hx1.out]
            rfl
          have HKy:Hid (∀ d os,Calls Tryz.prog 15 #[.int .i64 (y1:Int)] (grow (redrawn Z1 d) os) fun e w'' => e = .returned (.string (key2 y1)) ∧ ∃ p:Regrown,w'' = grow (redrawn Z1 p.d) p.os):=hidA (fun d os => Calls.regrown_of (key_any y1 hyl1 _))
          refine wp_region_quiet_below (by kernel_rfl) (by kernel_rfl) ?_
          repeat (go_big_quiet_step (exact HKy.out _ _))
          refine wpQuiet_nil ?_
          intro _ hw'
          obtain ⟨⟨dq,osq⟩,hw''⟩:=hw'
          subst hw''
          dsimp only
          have hbZ:=below_regrown Z1 dq osq
          generalize grow (redrawn Z1 dq) osq = Z2 at *
          have hWn:=hidA (hW.out.trans (hbZ.mono hW.out.size))
          clear HKy hcx hbZ hW e1 e2 e3 hnn hT1
          have hW:=hWn
          by_cases hKL:K ∈ L
          · have hyk:y0 = K:=by
              have:=hhit.out hKL
              rw [← ho0.out] at this
              cases this
              rfl
            subst hyk
            rw [if_pos hKL]
            rw [show foundE (some y0) = .nilIface from rfl]
            have hq:=eqNil10
            go_wp2
            go_ret
            exact ⟨rfl,hW.out⟩
          · have hyk:y0 ≠ K:=fun e => hKL (e ▸ hy0.1)
            rw [if_neg hKL]
            rw [show foundE none = .iface 64 (.int .i64 21) from rfl]
            have hq:=eqE 21
            have d5:decide ((y0:Int) = (K:Int)) = false:=by simp; omega
            have d6:((y0:Int) == (K:Int)) = false:=by simp; omega
            go_wp2
            go_ret
            exact ⟨rfl,hW.out⟩
end Go.Proofs.YtdihdchfigemnaaGreat

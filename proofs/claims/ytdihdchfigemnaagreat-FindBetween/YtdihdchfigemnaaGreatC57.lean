import Derived.Test.YtdihdchfigemnaaGreatC56
namespace Go.Proofs.YtdihdchfigemnaaGreat
open Go.RowKit Go.Sort Go.Conc
open H (RowAt)
theorem Tryz.eqErr21 (w:World):(binOp .eql 38 (.iface 64 (.int .i64 21)) (.iface 64 (.int .i64 21))).run Tryz.prog w = .ok (.bool true) w:=by kernel_rfl
theorem Tryz.callTypeOf21 (w:World):(callFunc 58 #[.iface 64 (.int .i64 21)]).run Tryz.prog w = .ok (.value (.iface 149 (.agg #[.pointer (some ⟨1,64,none⟩)]))) w:=by kernel_rfl
set_option maxHeartbeats 400000 in
theorem is_same21 (w:World) :
    Calls Tryz.prog 22 #[.iface 64 (.int .i64 21),.iface 64 (.int .i64 21)] w fun e w' => e = .returned (.bool true) ∧ w' = w:=by
  have tT:=Tryz.callTypeOf21
  have cT:=Tryz.callComparable
  have e1:=Tryz.eqErr21
  have e2:=eqE 21
  have mR:=Tryz.methodComparable
  go_enter Tryz.func22,Tryz.ntmps22
  go_wp2
  refine wp_loop_rounds 1 ?_
  rw [rounds_succ]
  go_wp2
  go_ret
  exact ⟨rfl,rfl⟩
theorem fileV_small {ps:List PageD} (hn:∀ i (h:i < ps.length),NumP ps[i]):∀ x ∈ fileV ps,x.size ≤ maxLen:=by
  intro x hx
  simp only [fileV,List.mem_cons,List.mem_map] at hx
  rcases hx with rfl | rfl | ⟨p,hp,rfl⟩
  · simp [ByteArray.size,maxLen]
  · simp [ByteArray.size,maxLen]
  · obtain ⟨j,hj,rfl⟩:=List.getElem_of_mem hp
    have:=bytesD_small _ (hn j hj).txn
    unfold maxLen
    omega
theorem grown_file {w:World} {B fb:Nat} {uV uD uL:Value} {ps:List PageD} (hF:F.RfAt w B fb uV uD uL (fileV ps) (fileV ps) []) (hn:∀ i (h:i < ps.length),NumP ps[i]) (hl:ps.length ≤ 120) :
    Calls Tryz.prog 12 #[uV] w fun e w' => e = .returned (.pointer (some ⟨w.heap.size,0,none⟩)) ∧ ∃ u,F.FileAt w' w.heap.size w.heap.size u (F.newL (fileV ps)) ∧ Below w.heap.size w w':=by
  have hlen:=fileV_len ps
  exact F.new_any (fileV ps) uV w (hF.rowV.at (fileV_small hn) (by rw [hlen]; unfold maxLen; omega)) (by omega)
theorem grown_store {w X:World} {u:Value} {ps:List PageD} (hf:F.FileAt X w.heap.size w.heap.size u (F.newL (fileV ps))) (hX:Below w.heap.size w X) (hn:∀ i (h:i < ps.length),NumP ps[i]) (hl:ps.length ≤ 120) :
    Calls Tryz.prog 11 #[.pointer (some ⟨w.heap.size,0,none⟩),.int .i64 (num ps.length),.int .i64 400,.slice none 0 0] X fun r Y => ∃ sb,r = .returned (.pointer (some ⟨sb,0,none⟩)) ∧ Rd Y sb ps ∧ Below w.heap.size w Y:=by
  refine (new_sf (w:=w) (X:=X) (L:=F.newL (fileV ps)) w.heap.size (num ps.length) 400 [] none 0 0 rfl hX hf (RowAt.nil _) (by simp)).mono ?_
  rintro r Y ⟨sb,mb,rfl,S⟩
  exact ⟨sb,rfl,rd_of hn hl S,S.bel⟩
theorem eqPtrS10 (b:Nat) (w:World):(binOp .eql 27 (.pointer (some ⟨b,0,none⟩)) (.pointer none)).run Tryz.prog w = .ok (.bool false) w:=by
  simp [go_sem,Tryz.underlying27]
theorem eqNil10 (w:World):(binOp .eql 38 .nilIface .nilIface).run Tryz.prog w = .ok (.bool true) w:=by kernel_rfl
theorem keys3 (w:World):KeysAt (w.alloc (.cells #[.int .u8 2,.int .u8 4,.int .u8 6] 5)) (.slice (some ⟨w.heap.size,0,none⟩) 3 3) [2,4,6]:=by
  refine ⟨_,_,rfl,by simp [maxLen],fun i hi => ⟨_,rfl,?_⟩⟩
  rw [Addr.add_mid,Nat.zero_add,cell_rowL (heap_newL w _)]
  have:i = 0 ∨ i = 1 ∨ i = 2:=by simp at hi; omega
  rcases this with rfl | rfl | rfl <;> rfl
theorem setN_3:setN [2,4,6] 3 = [2,4,6]:=by decide
theorem key_a:KeyIs ⟨#[97]⟩ (fun _ => false):=⟨fun m hm => by
  have h0:¬ (UInt8.ofNat (97 + m / 26) < 97):=by
    rw [show (97:UInt8) = UInt8.ofNat 97 from rfl,u8_lt (by omega) (by omega)]
    omega
  unfold leB
  rw [key2_list,show (⟨#[97]⟩:ByteArray).toList = [97] by rw [ByteArray.toList_eq]]
  generalize UInt8.ofNat (97 + m / 26) = x at *
  simp [Op.bytesLess,h0],fun _ _ _ _ h => h⟩
theorem get_num {X:World} {sb:Nat} {ps:List PageD} {root:Int} {L:List Nat} (hR:Rd X sb ps) (hRt:RootAt ps root L) (hl:L.length ≤ 120) (k:Nat) (hk:k < 256) (W:World) (hW:Below X.heap.size X W) :
    Calls Tryz.prog 23 #[.pointer (some ⟨sb,0,none⟩),.int .i64 root,.string (key2 k)] W fun e W' => Fnd (L.find? fun y => decide (y = k)) e ∧ Below W.heap.size W W':=
  get_way hR hRt hl (key2 k) (key_num hk) (fun y hy => beq_key2 hy hk) (fun y _ h => decide_eq_false (by have:=of_decide_eq_false h; omega)) (fun y m h1 _ h => decide_eq_false (by have:=of_decide_eq_true h; omega)) W hW
theorem get_zero {X:World} {sb:Nat} (key:ByteArray) {le:Nat → Bool} (hk:KeyIs key le) (hpr:∀ y,y < 256 → ((key2 y).toList == key.toList) = false) (W:World) (hW:Below X.heap.size X W) :
    Calls Tryz.prog 23 #[.pointer (some ⟨sb,0,none⟩),.int .i64 0,.string key] W fun e W' => Fnd none e ∧ Below W.heap.size W W':=
  get_way (X:=X) (sb:=sb) (ps:=[]) (L:=[]) (gr:=fun _ => false) (fun i h => absurd h (by simp)) (.inl ⟨rfl,rfl,rfl⟩) (by simp) key hk hpr (fun _ _ _ => rfl) (fun _ _ _ _ _ => rfl) W hW
set_option maxRecDepth 100000 in
set_option maxHeartbeats 4000000 in
theorem known_find (w:World):Calls Tryz.prog 19 #[] w fun e w' => e = .returned (.bool true) ∧ Below w.heap.size w w':=by
  have hq:=eqPtrS10
  have hnil:=eqNil10
  have hb0:=hidA ((Below.refl w.heap.size w).alloc (Nat.le_refl _) (.cells #[.int .u8 2,.int .u8 4,.int .u8 6] 5))
  have C0:=hidA (tree_any _ _ [2,4,6] (keys3 w) (by simp) (by simp))
  rw [show setN [2,4,6] ([2,4,6]:List Nat).length = [2,4,6] from setN_3] at C0
  go_enter Tryz.func19,Tryz.ntmps19
  go_wp2_with fail
  refine C0.out.mono ?_
  rintro e w1 ⟨BT,fb,ps,root,uV,uD,uL,rfl,hRt,hBT,hF,hb1⟩
  have hlp:ps.length ≤ 120:=by have:=hRt.fits.2.2; simp at this; omega
  have hnp:∀ i (h:i < ps.length),NumP ps[i]:=fun i h => hRt.page (by simp) h
  have hRt:=hidA hRt
  have CN:=hidA (grown_file hF hnp hlp)
  have c0:=cell_rowL hF.obj
  have hbT:=hidA (hb0.out.trans (hb1.mono hb0.out.size))
  clear C0 hb0 hb1 hF
  go_wp2_with fail
  refine CN.out.mono ?_
  rintro e w2 ⟨rfl,u2,hf2,hb2⟩
  have CS:=hidA (grown_store hf2 hb2 hnp hlp)
  have hsz:=hidA hbT.out.size
  clear CN c0 hf2 hb2
  generalize w1.heap.size = fp at *
  go_wp2_with fail
  refine CS.out.mono ?_
  rintro e Y ⟨sb,rfl,hRd,hbY⟩
  have hRd:=hidA hRd
  have hbW:=hidA (hbT.out.trans (hbY.mono hsz.out))
  have hbR:=hidA (Below.refl Y.heap.size Y)
  clear CS hnp hlp hbT hbY
  have D0:=hidA (show Calls Tryz.prog 23 #[.pointer (some ⟨sb,0,none⟩),.int .i64 root,.string ⟨#[97,101]⟩] Y fun e W' => ∃ ya yn yc,e = .returned (.tuple #[.agg #[.string ⟨#[97,101]⟩,.int .i64 1,.string ⟨#[118]⟩,.int .i64 0,.int .i64 0,.slice ya yn yc,.int .i64 0,.int .i64 0,.int .i64 0,.int .i64 0],.nilIface]) ∧ Below Y.heap.size Y W' from (get_num hRd.out hRt.out (by decide) 4 (by decide) Y (hbR.out)).mono fun e W' h => by
    obtain ⟨⟨a,n,c,h⟩,hb⟩:=h
    exact ⟨a,n,c,h,hb⟩)
  go_wp2_with fail
  refine D0.out.mono ?_
  rintro e v0 ⟨y0a,y0n,y0c,rfl,hv0⟩
  have hT0:=hidA (heap_newL v0 (.cells #[.string ⟨#[97,101]⟩,.int .i64 1,.string ⟨#[118]⟩,.int .i64 0,.int .i64 0,.slice y0a y0n y0c,.int .i64 0,.int .i64 0,.int .i64 0,.int .i64 0] 45))
  have hu0:=hv0.alloc hv0.size (.cells #[.string ⟨#[97,101]⟩,.int .i64 1,.string ⟨#[118]⟩,.int .i64 0,.int .i64 0,.slice y0a y0n y0c,.int .i64 0,.int .i64 0,.int .i64 0,.int .i64 0] 45)
  have hw0:=hidA (hbW.out.trans (hu0.mono hbW.out.size))
  have hr0:=hidA (hbR.out.trans (hu0.mono hbR.out.size))
  clear D0 hv0 hu0 hbW hbR
  have hbW:=hw0
  have hbR:=hr0
  clear hw0 hr0
  go_wp2_with fail
  generalize v0.alloc (.cells #[.string ⟨#[97,101]⟩,.int .i64 1,.string ⟨#[118]⟩,.int .i64 0,.int .i64 0,.slice y0a y0n y0c,.int .i64 0,.int .i64 0,.int .i64 0,.int .i64 0] 45) = X0 at *
  generalize v0.heap.size = p0 at *
  have D1:=hidA (show Calls Tryz.prog 23 #[.pointer (some ⟨sb,0,none⟩),.int .i64 root,.string ⟨#[97,102]⟩] X0 fun e W' => ∃ ya yn yc,e = .returned (.tuple #[.agg #[.string ⟨#[]⟩,.int .i64 0,.string ⟨#[]⟩,.int .i64 0,.int .i64 0,.slice ya yn yc,.int .i64 0,.int .i64 0,.int .i64 0,.int .i64 0],.iface 64 (.int .i64 21)]) ∧ Below X0.heap.size X0 W' from (get_num hRd.out hRt.out (by decide) 5 (by decide) X0 (hbR.out)).mono fun e W' h => by
    obtain ⟨⟨a,n,c,h⟩,hb⟩:=h
    exact ⟨a,n,c,h,hb⟩)
  refine D1.out.mono ?_
  rintro e v1 ⟨y1a,y1n,y1c,rfl,hv1⟩
  have hT1:=hidA (heap_newL v1 (.cells #[.string ⟨#[]⟩,.int .i64 0,.string ⟨#[]⟩,.int .i64 0,.int .i64 0,.slice y1a y1n y1c,.int .i64 0,.int .i64 0,.int .i64 0,.int .i64 0] 45))
  have hu1:=hv1.alloc hv1.size (.cells #[.string ⟨#[]⟩,.int .i64 0,.string ⟨#[]⟩,.int .i64 0,.int .i64 0,.slice y1a y1n y1c,.int .i64 0,.int .i64 0,.int .i64 0,.int .i64 0] 45)
  have hw1:=hidA (hbW.out.trans (hu1.mono hbW.out.size))
  have hr1:=hidA (hbR.out.trans (hu1.mono hbR.out.size))
  have hT0':=hidA ((hu1.block _ (F.lt_of_heap hT0.out)).trans hT0.out)
  clear hT0
  have hT0:=hT0'
  clear hT0'
  clear D1 hv1 hu1 hbW hbR
  have hbW:=hw1
  have hbR:=hr1
  clear hw1 hr1
  go_wp2_with fail
  generalize v1.alloc (.cells #[.string ⟨#[]⟩,.int .i64 0,.string ⟨#[]⟩,.int .i64 0,.int .i64 0,.slice y1a y1n y1c,.int .i64 0,.int .i64 0,.int .i64 0,.int .i64 0] 45) = X1 at *
  generalize v1.heap.size = p1 at *
  have D2:=hidA (show Calls Tryz.prog 20 #[.pointer (some ⟨sb,0,none⟩),.int .i64 root,.string ⟨#[97,102]⟩] X1 fun e W' => ∃ ya yn yc,e = .returned (.tuple #[.agg #[.string ⟨#[97,103]⟩,.int .i64 1,.string ⟨#[118]⟩,.int .i64 0,.int .i64 0,.slice ya yn yc,.int .i64 0,.int .i64 0,.int .i64 0,.int .i64 0],.nilIface]) ∧ Below X1.heap.size X1 W' from (above_num hRd.out hRt.out (by decide) 5 (by decide) X1 (hbR.out)).mono fun e W' h => by
    obtain ⟨⟨a,n,c,h⟩,hb⟩:=h
    exact ⟨a,n,c,h,hb⟩)
  refine D2.out.mono ?_
  rintro e v2 ⟨y2a,y2n,y2c,rfl,hv2⟩
  have hT2:=hidA (heap_newL v2 (.cells #[.string ⟨#[97,103]⟩,.int .i64 1,.string ⟨#[118]⟩,.int .i64 0,.int .i64 0,.slice y2a y2n y2c,.int .i64 0,.int .i64 0,.int .i64 0,.int .i64 0] 45))
  have hu2:=hv2.alloc hv2.size (.cells #[.string ⟨#[97,103]⟩,.int .i64 1,.string ⟨#[118]⟩,.int .i64 0,.int .i64 0,.slice y2a y2n y2c,.int .i64 0,.int .i64 0,.int .i64 0,.int .i64 0] 45)
  have hw2:=hidA (hbW.out.trans (hu2.mono hbW.out.size))
  have hr2:=hidA (hbR.out.trans (hu2.mono hbR.out.size))
  have hT0':=hidA ((hu2.block _ (F.lt_of_heap hT0.out)).trans hT0.out)
  clear hT0
  have hT0:=hT0'
  clear hT0'
  clear D2 hv2 hu2 hbW hbR
  have hbW:=hw2
  have hbR:=hr2
  clear hw2 hr2
  go_wp2_with fail
  generalize v2.alloc (.cells #[.string ⟨#[97,103]⟩,.int .i64 1,.string ⟨#[118]⟩,.int .i64 0,.int .i64 0,.slice y2a y2n y2c,.int .i64 0,.int .i64 0,.int .i64 0,.int .i64 0] 45) = X2 at *
  generalize v2.heap.size = p2 at *
  have D3:=hidA (show Calls Tryz.prog 21 #[.pointer (some ⟨sb,0,none⟩),.int .i64 root,.string ⟨#[97,101]⟩] X2 fun e W' => ∃ ya yn yc,e = .returned (.tuple #[.agg #[.string ⟨#[97,103]⟩,.int .i64 1,.string ⟨#[118]⟩,.int .i64 0,.int .i64 0,.slice ya yn yc,.int .i64 0,.int .i64 0,.int .i64 0,.int .i64 0],.nilIface]) ∧ Below X2.heap.size X2 W' from (behind_num hRd.out hRt.out (by decide) 4 (by decide) X2 (hbR.out)).mono fun e W' h => by
    obtain ⟨⟨a,n,c,h⟩,hb⟩:=h
    exact ⟨a,n,c,h,hb⟩)
  refine D3.out.mono ?_
  rintro e v3 ⟨y3a,y3n,y3c,rfl,hv3⟩
  have hT3:=hidA (heap_newL v3 (.cells #[.string ⟨#[97,103]⟩,.int .i64 1,.string ⟨#[118]⟩,.int .i64 0,.int .i64 0,.slice y3a y3n y3c,.int .i64 0,.int .i64 0,.int .i64 0,.int .i64 0] 45))
  have hu3:=hv3.alloc hv3.size (.cells #[.string ⟨#[97,103]⟩,.int .i64 1,.string ⟨#[118]⟩,.int .i64 0,.int .i64 0,.slice y3a y3n y3c,.int .i64 0,.int .i64 0,.int .i64 0,.int .i64 0] 45)
  have hw3:=hidA (hbW.out.trans (hu3.mono hbW.out.size))
  have hr3:=hidA (hbR.out.trans (hu3.mono hbR.out.size))
  have hT0':=hidA ((hu3.block _ (F.lt_of_heap hT0.out)).trans hT0.out)
  clear hT0
  have hT0:=hT0'
  clear hT0'
  have hT2':=hidA ((hu3.block _ (F.lt_of_heap hT2.out)).trans hT2.out)
  clear hT2
  have hT2:=hT2'
  clear hT2'
  clear D3 hv3 hu3 hbW hbR
  have hbW:=hw3
  have hbR:=hr3
  clear hw3 hr3
  go_wp2_with fail
  generalize v3.alloc (.cells #[.string ⟨#[97,103]⟩,.int .i64 1,.string ⟨#[118]⟩,.int .i64 0,.int .i64 0,.slice y3a y3n y3c,.int .i64 0,.int .i64 0,.int .i64 0,.int .i64 0] 45) = X3 at *
  generalize v3.heap.size = p3 at *
  have D4:=hidA (show Calls Tryz.prog 21 #[.pointer (some ⟨sb,0,none⟩),.int .i64 root,.string ⟨#[97,103]⟩] X3 fun e W' => ∃ ya yn yc,e = .returned (.tuple #[.agg #[.string ⟨#[]⟩,.int .i64 0,.string ⟨#[]⟩,.int .i64 0,.int .i64 0,.slice ya yn yc,.int .i64 0,.int .i64 0,.int .i64 0,.int .i64 0],.iface 64 (.int .i64 21)]) ∧ Below X3.heap.size X3 W' from (behind_num hRd.out hRt.out (by decide) 6 (by decide) X3 (hbR.out)).mono fun e W' h => by
    obtain ⟨⟨a,n,c,h⟩,hb⟩:=h
    exact ⟨a,n,c,h,hb⟩)
  refine D4.out.mono ?_
  rintro e v4 ⟨y4a,y4n,y4c,rfl,hv4⟩
  have hT4:=hidA (heap_newL v4 (.cells #[.string ⟨#[]⟩,.int .i64 0,.string ⟨#[]⟩,.int .i64 0,.int .i64 0,.slice y4a y4n y4c,.int .i64 0,.int .i64 0,.int .i64 0,.int .i64 0] 45))
  have hu4:=hv4.alloc hv4.size (.cells #[.string ⟨#[]⟩,.int .i64 0,.string ⟨#[]⟩,.int .i64 0,.int .i64 0,.slice y4a y4n y4c,.int .i64 0,.int .i64 0,.int .i64 0,.int .i64 0] 45)
  have hw4:=hidA (hbW.out.trans (hu4.mono hbW.out.size))
  have hr4:=hidA (hbR.out.trans (hu4.mono hbR.out.size))
  have hT0':=hidA ((hu4.block _ (F.lt_of_heap hT0.out)).trans hT0.out)
  clear hT0
  have hT0:=hT0'
  clear hT0'
  have hT2':=hidA ((hu4.block _ (F.lt_of_heap hT2.out)).trans hT2.out)
  clear hT2
  have hT2:=hT2'
  clear hT2'
  have hT3':=hidA ((hu4.block _ (F.lt_of_heap hT3.out)).trans hT3.out)
  clear hT3
  have hT3:=hT3'
  clear hT3'
  clear D4 hv4 hu4 hbW hbR
  have hbW:=hw4
  have hbR:=hr4
  clear hw4 hr4
  go_wp2_with fail
  generalize v4.alloc (.cells #[.string ⟨#[]⟩,.int .i64 0,.string ⟨#[]⟩,.int .i64 0,.int .i64 0,.slice y4a y4n y4c,.int .i64 0,.int .i64 0,.int .i64 0,.int .i64 0] 45) = X4 at *
  generalize v4.heap.size = p4 at *
  have D5:=hidA (show Calls Tryz.prog 23 #[.pointer (some ⟨sb,0,none⟩),.int .i64 (0:Int),.string ⟨#[97]⟩] X4 fun e W' => ∃ ya yn yc,e = .returned (.tuple #[.agg #[.string ⟨#[]⟩,.int .i64 0,.string ⟨#[]⟩,.int .i64 0,.int .i64 0,.slice ya yn yc,.int .i64 0,.int .i64 0,.int .i64 0,.int .i64 0],.iface 64 (.int .i64 21)]) ∧ Below X4.heap.size X4 W' from (get_zero (X:=Y) (sb:=sb) ⟨#[97]⟩ key_a (fun y hy => by rw [key2_list,show (⟨#[97]⟩:ByteArray).toList = [97] by rw [ByteArray.toList_eq]]; simp) X4 (hbR.out)).mono fun e W' h => by
    obtain ⟨⟨a,n,c,h⟩,hb⟩:=h
    exact ⟨a,n,c,h,hb⟩)
  refine D5.out.mono ?_
  rintro e v5 ⟨y5a,y5n,y5c,rfl,hv5⟩
  have hT5:=hidA (heap_newL v5 (.cells #[.string ⟨#[]⟩,.int .i64 0,.string ⟨#[]⟩,.int .i64 0,.int .i64 0,.slice y5a y5n y5c,.int .i64 0,.int .i64 0,.int .i64 0,.int .i64 0] 45))
  have hu5:=hv5.alloc hv5.size (.cells #[.string ⟨#[]⟩,.int .i64 0,.string ⟨#[]⟩,.int .i64 0,.int .i64 0,.slice y5a y5n y5c,.int .i64 0,.int .i64 0,.int .i64 0,.int .i64 0] 45)
  have hw5:=hidA (hbW.out.trans (hu5.mono hbW.out.size))
  have hr5:=hidA (hbR.out.trans (hu5.mono hbR.out.size))
  have hT0':=hidA ((hu5.block _ (F.lt_of_heap hT0.out)).trans hT0.out)
  clear hT0
  have hT0:=hT0'
  clear hT0'
  have hT2':=hidA ((hu5.block _ (F.lt_of_heap hT2.out)).trans hT2.out)
  clear hT2
  have hT2:=hT2'
  clear hT2'
  have hT3':=hidA ((hu5.block _ (F.lt_of_heap hT3.out)).trans hT3.out)
  clear hT3
  have hT3:=hT3'
  clear hT3'
  clear D5 hv5 hu5 hbW hbR
  have hbW:=hw5
  have hbR:=hr5
  clear hw5 hr5
  have c0:=cell_rowL hT0.out
  have c2:=cell_rowL hT2.out
  have c3:=cell_rowL hT3.out
  go_wp2_with fail
  refine (is_same21 _).mono ?_
  rintro e w ⟨rfl,rfl⟩
  go_wp2_with fail
  refine (is_same21 _).mono ?_
  rintro e w ⟨rfl,rfl⟩
  go_wp2_with fail
  refine (is_same21 _).mono ?_
  rintro e w ⟨rfl,rfl⟩
  go_wp2_with fail
  go_ret
  exact ⟨rfl,hbW.out⟩
end Go.Proofs.YtdihdchfigemnaaGreat

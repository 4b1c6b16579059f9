import Derived.OrdersIn
import Derived.RangeFuncCalls
import Derived.Shelf.RegionOpen
import Derived.Test.YtbghhklbfnplbaaGreatC00
import Derived.Test.YtbghhklbfnplbaaGreatT01
import Derived.Test.YtbghhklbfnplbaaGreatT02
import Derived.Test.YtbghhklbfnplbaaGreatC27
import Derived.Test.YtbghhklbfnplbaaGreatT05
import Derived.Test.YtbghhklbfnplbaaGreatC16
import Derived.Test.YtbghhklbfnplbaaGreatT04
set_option maxHeartbeats 4000000
set_option maxRecDepth 100000
namespace Go.Proofs.YtbghhklbfnplbaaGreat
section
open Go.RowKit
theorem numbers_spot (n:Near) (p:PageD) (u:PV) (W:World) (hg:Hangs W p u.i u.k u.d u.v u.f) (hm:p.items.length≤1000) (hv:∀ it∈p.items,it.kind=1) :
  Calls Tryz.prog 29 #[.agg (spotCells n p u).toArray] W fun e w'=>∃ g,e=.returned (.slice (some ⟨g,0,none⟩) 1 1)∧W.heap.size≤g∧w'.heap[g]?=some (.cells #[.int .i64 n.id] 3 (0,0))∧Below W.heap.size W w':=by
 have hu:=hg.slices
 have hIA:=hidT hg.items
 obtain⟨aq,cq,e0,-⟩:=hg.items
 obtain⟨ui,uk,ud,uv,uf⟩:=u
 obtain⟨⟨ai,ni,ci,e1⟩,⟨ak,nk,ck,rfl⟩,⟨ad,nd,cd,rfl⟩,⟨av,nv,cv,rfl⟩,⟨af,nf,cf,rfl⟩⟩:=hu
 simp only at e0 e1 hIA
 subst e1
 simp only[qR] at e0
 obtain⟨e2,e3,e4⟩:=e0
 subst aq
 subst ni
 subst cq
 show Calls Tryz.prog 29 #[.agg #[.int .i64 n.id,.int .i64 (n.depth:Int),.string n.low,.string n.high,.int .i64 p.kind,.slice ai p.items.length ci,.slice ak nk ck,.slice ad nd cd,.string p.text,.slice av nv cv,.slice af nf cf,.int .i64 p.next,.int .u64 p.mt.txn,.int .i64 p.mt.main.page,.int .i64 p.mt.main.count,.int .i64 p.mt.main.flags,.int .i64 p.mt.free,.int .i64 p.mt.last]] W _
 have hW1:=hidT (belowBox W (.cells #[.int .i64 n.id,.int .i64 (n.depth:Int),.string n.low,.string n.high,.int .i64 p.kind,.slice ai p.items.length ci,.slice ak nk ck,.slice ad nd cd,.string p.text,.slice av nv cv,.slice af nf cf,.int .i64 p.next,.int .u64 p.mt.txn,.int .i64 p.mt.main.page,.int .i64 p.mt.main.count,.int .i64 p.mt.main.flags,.int .i64 p.mt.free,.int .i64 p.mt.last] 86))
 have cB:=cell_rowL (heap_newL W (.cells #[.int .i64 n.id,.int .i64 (n.depth:Int),.string n.low,.string n.high,.int .i64 p.kind,.slice ai p.items.length ci,.slice ak nk ck,.slice ad nd cd,.string p.text,.slice av nv cv,.slice af nf cf,.int .i64 p.next,.int .u64 p.mt.txn,.int .i64 p.mt.main.page,.int .i64 p.mt.main.count,.int .i64 p.mt.main.flags,.int .i64 p.mt.free,.int .i64 p.mt.last] 86))
 have hsz:Hid ((W.alloc (.cells #[.int .i64 n.id,.int .i64 (n.depth:Int),.string n.low,.string n.high,.int .i64 p.kind,.slice ai p.items.length ci,.slice ak nk ck,.slice ad nd cd,.string p.text,.slice av nv cv,.slice af nf cf,.int .i64 p.next,.int .u64 p.mt.txn,.int .i64 p.mt.main.page,.int .i64 p.mt.main.count,.int .i64 p.mt.main.flags,.int .i64 p.mt.free,.int .i64 p.mt.last] 86)).heap.size=W.heap.size+1):=hidT (by simp)
 have HG:=hidT (fun k (hk:k<p.items.length)=>ItemsAt.get hIA.out rfl hk)
 have HV:=hidT (fun k (hk:k<p.items.length)=>show (p.items.getD k noItem).kind=1 by
  have:=hv _ (List.getElem_mem hk)
  simpa[List.getD,hk] using this)
 have hmH:=hidT hm
 clear hg hIA hm hv
 go_enter Tryz.func29,Tryz.ntmps29
 go_wp2
 obtain⟨X,hX⟩:∃ X,W.alloc (.cells #[.int .i64 n.id,.int .i64 (n.depth:Int),.string n.low,.string n.high,.int .i64 p.kind,.slice ai p.items.length ci,.slice ak nk ck,.slice ad nd cd,.string p.text,.slice av nv cv,.slice af nf cf,.int .i64 p.next,.int .u64 p.mt.txn,.int .i64 p.mt.main.page,.int .i64 p.mt.main.count,.int .i64 p.mt.main.flags,.int .i64 p.mt.free,.int .i64 p.mt.last] 86)=X:=⟨_,rfl⟩
 rw[hX] at cB hW1 hsz ⊢
 clear hX
 have hN:=hidT (heap_newL X (.cells #[.int .i64 n.id] 3))
 have hbX:=hidT (hW1.out.trans (((qB X.heap.size X).alloc qL (.cells #[.int .i64 n.id] 3)).mono hW1.out.size))
 have hXs:=hidT hW1.out.size
 rw[hsz.out] at hN hXs
 clear hsz
 obtain⟨gb,hgb⟩:∃ gb,W.heap.size+1=gb:=⟨_,rfl⟩
 rw[hgb] at hN hXs ⊢
 clear hgb
 go_loopg [3,14] p.items.length (fun g v3 v14 wr=>∃ k:Nat,k+g=p.items.length∧v14=.int .i64 (k:Int)∧v3=.slice (some ⟨gb,0,none⟩) 1 1∧Hid (wr.heap[gb]?=some (.cells #[.int .i64 n.id] 3 (0,0)))∧Hid (Below W.heap.size W wr))
 case atStart=>exact⟨0,by omega,rfl,rfl,hN,hbX⟩
 case round=>
  obtain⟨k,hk,rfl,rfl,hN,hB⟩:=hrel
  clear cB
  cases gk with
  | zero=>
    obtain rfl:k=p.items.length:=by omega
    clear HG HV
    go_wp2
    go_ret
    exact⟨gb,rfl,hXs.out,hN.out,hB.out⟩
  | succ g=>
    have hlk:k<p.items.length:=by omega
    have hkb:k≤1000:=by have:=hmH.out;omega
    obtain⟨b,o,hix,hR⟩:=HG.out k hlk
    obtain⟨ya,yn,yc,hrg,_⟩:=hR wr hB.out
    have hkd:=HV.out k hlk
    clear hR HG HV
    generalize p.items.getD k noItem=it at *
    obtain⟨r0,r1,r2,r3,r4,r5,r6,r7,r8,r9⟩:=range10 hrg
    clear hrg
    rw[hkd] at r1
    clear hkd
    have hbn:=(qB wr.heap.size wr).alloc qL (.cells #[.string it.key,.int .i64 1,.string it.val,.int .i64 it.run,.int .i64 it.len,.slice ya yn yc,.int .i64 it.dup,.int .i64 it.root.page,.int .i64 it.root.count,.int .i64 it.root.flags] 45)
    have hN2:=hidT ((hbn.block _ (qA hN.out)).trans hN.out)
    have hB2:=hidT (hB.out.trans (hbn.mono hB.out.size))
    clear hbn
    go_wp2
    go_roundg g
    case rel=>exact⟨k+1,by omega,by go_num,rfl,hN2,hB2⟩
    case measure=>omega
end
section
open Go
section
variable {P:Program} {ops:Array Oper} {Q:Exit→Act→World→Prop} {n:Nat}
theorem opWp_in (l:Nat) {o:Oper} (hd:∀ c,o.op≠.defer c) {a:Act} {w:World} {K K':Act→World→Prop} (hK:∀ a w,K a w→K' a w) (h:o.wp P a w K Q):o.wpIn (Fence.wide.inRound l) n P a w K' Q:=by
 refine⟨fun _ _=>trivial,?_⟩
 have h:=Oper.wp_mono hK h
 unfold Oper.wp at h
 rw[Fence.inRound_round,Oper.semAt_some l _ o hd]
 generalize (execOp a.eval o).run P w=r at *
 cases r with
 | ok x w'=>
   cases x with
   | value v=>exact h
   | skip=>exact h
   | defer d=>exact h
   | enter f args=>exact⟨fun e=>(by cases e),CallsIn.inRound l (callsIn_wide.2 h)⟩
   | row row args=>exact⟨fun e=>(by cases e),fun c cs _=>let ⟨v,w'',r,s⟩:=h c cs;⟨v,w'',r,stepsIn_wide.2 s⟩⟩
   | _=>exact h.elim
 | halt s w'=>
   cases s with
   | panic v=>exact h
   | _=>exact h.elim
theorem wpAny_in (l:Nat) {md:Region.Mode} (hd:∀ o∈ops,∀ c,o.op≠.defer c) (hL:¬ LetsOut Q):∀ (fuel:Nat) (listed:Array Bool) (a:Act) (w:World),wpAny P md ops Q fuel listed a w→wpAnyIn (Fence.wide.inRound l) n P md ops Q fuel listed a w
 | 0,_,_,_,h=>h
 | fuel+1,listed,a,w,h=>by
   refine⟨h.1,fun i hi=>?_⟩
   have h2:=h.2 i hi
   have ih:=wpAny_in (md:=md) l hd hL fuel (listed.setIfInBounds i true)
   unfold wpOp at h2
   unfold wpOpIn
   cases ho:ops[i]? with
   | none=>
     rw[ho] at h2
     exact ih _ _ h2
   | some o=>
     rw[ho] at h2
     simp only at h2 ⊢
     have hmem:o∈ops:=Array.mem_of_getElem? ho
     by_cases hw:Region.wanted o (yielded ops a.tmps)=true
     ·rw[if_pos hw] at h2 ⊢
      rcases h2 with h2|⟨_,h2⟩
      ·exact opWp_in l (hd o hmem) ih h2
      ·exact absurd h2 hL
     ·rw[if_neg hw] at h2 ⊢
      exact⟨fun _ _=>trivial,ih _ _ h2⟩
def noDeferB (ops:Array Oper):Bool:=ops.toList.all fun o=>match o.op with|.defer _=>false|_=>true
theorem noDefer_of (h:noDeferB ops=true):∀ o∈ops,∀ c,o.op≠.defer c:=fun o ho c e=>by
 have:=List.all_eq_true.1 h o (by simpa using ho)
 rw[e] at this
 cases this
variable {a0:Act}
theorem wpIn_region_facts (l:Nat) {id:Nat} {w:World} (todo xs:List Nat) (dead:Nat→Nat→Bool) (pred:Nat→List Nat) (slots:Nat→List Tmp) (B:World→Prop) (R:Nat→World→World→Prop) (G:Nat→(Operand→Value)→World→Prop) (hm:P.follows .mixedOrders=true)
  (hk:hkB ops todo xs dead pred slots=true) (hnd:noDeferB ops=true) (hL:¬ LetsOut Q)
  (hB0:B w.drew) (hB:∀ j∈todo,∀ w w',B w→R j w w'→B w')
  (hst:∀ i∈todo,∀ j∈todo,i≠j→j ∉ pred i→dead i j=false→∀ ρ w w',B w→R j w w'→G i ρ w→G i ρ w')
  (hcg:∀ j∈todo,∀ ρ ρ':Operand→Value,∀ w,(∀ t∈slots j,ρ (.tmp t)=ρ' (.tmp t))→G j ρ w→G j ρ' w)
  (hop:∀ j∈todo,OpDoes P ops Q B R (fun j a w=>G j a.eval w) todo a0 pred j)
  (hend:Ends P ops Q B (fun j a w=>G j a.eval w) todo xs dead a0):(Code.region id ops true).wpIn (Fence.wide.inRound l) n P Q a0 w:=by
 have hA:=asks_of (P:=P) (a0:=a0) (B:=B) (R:=R) (F:=fun j a w=>G j a.eval w) (Q:=Q) todo xs dead pred slots hk hB (fun i hi j hj hne hp hd a w w'=>hst i hi j hj hne hp hd a.eval w w') (fun j hj a a' w=>hcg j hj a.eval a'.eval w) hop hend
 exact wpIn_region_any hm (wpAny_in l (noDefer_of hnd) hL _ _ _ _ (region_any_facts hA hB0))
end
end
section
open Go.RowKit
theorem Tryz.infoIntT:(Tryz.prog.info? 3).map (fun i=>(i.zero,i.size,i.bytes))=some (some (.int .i64 0),1,8):=by kernel_rfl
theorem step_append_two {P:Program} {w:World} {ops:Array Oper} {o:Oper} {a:Act} {K:Act→World→Prop} {Q:Exit→Act→World→Prop} {E:Prop} (hgd:o.guard=none) (s x:Operand) (t:TypeId) (ho:o.op=.call { callee:=.builtin .append,args:=#[s,x],argTypes:=#[t,t] })
  (v u:Value) (hs:a.eval s=v) (hx:a.eval x=u) {R:Value→World→Prop} (h:∃ v' w',(Builtin.append_ #[t,t] o.type #[v,u]).run P w=.ok v' w'∧R v' w') (hK:∀ v' w',R v' w'→K (a.put o.dst v') w') :
  if Region.wanted o (yielded ops a.tmps)=true then Oper.wp P o a w K Q else E:=by
 have hw:Region.wanted o (yielded ops a.tmps)=true:=by simp[Region.wanted,hgd]
 rw[if_pos hw]
 obtain⟨v',w',hrun,hR⟩:=h
 unfold Oper.wp
 simp[execOp,ho,resolve,invoke,builtin,hs,hx,hrun,Result.andThen]
 exact hK _ _ hR
theorem pg7 (l0 n:Nat) {W:World} {b6 pb B:Nat} {v:Value} {l:List Int} {id:Int} {v0 v1 v2 v3 v4 v5 v6 v7 v8 v9 v10 v11 v12 v13 v14 v15 v16 v17:Value}
  (hc6:W.heap[b6]?=some (.cells #[v] 32 (0,0))) (hrP:W.rangeAt pb 0 [v0,v1,v2,v3,v4,v5,v6,v7,v8,v9,v10,v11,v12,v13,v14,v15,v16,v17]) (ho:W.ownsRow B 3 1 v l.length (H.intCells l)) (hB:B≤W.heap.size) (hne:∀ g,v.ownBlock=some g→g≠b6∧g≠pb) (hlen:l.length≤99000)
  (hN:∀ V,Below W.heap.size W V→Calls Tryz.prog 29 #[.agg #[v0,v1,v2,v3,v4,v5,v6,v7,v8,v9,v10,v11,v12,v13,v14,v15,v16,v17]] V fun e V'=>∃ g,e=.returned (.slice (some ⟨g,0,none⟩) 1 1)∧V.heap.size≤g∧V'.heap[g]?=some (.cells #[.int .i64 id] 3 (0,0))∧Below V.heap.size V V')
  {Q:Exit→Act→World→Prop} (hL:¬ LetsOut Q) (hP:∀ c a b w,Q (.panic c) a w→Q (.panic c) b w) (u0 u1 u2 u3 u4 u5 u8 u9 u10 u11 u12 u13 u14 u15 u16 u17 u18 u19 u20 u21 u22 u23 u24:Value)
  (hQ:∀ (x17 x18 x19 x20:Value) (a:Option Addr) (c:Nat) (w':World),W.grownBy w' v.ownBlock→w'.ownsRow B 3 1 (.slice a (l.length+1) c) (l.length+1) (H.intCells (l++[id]))→Q .normal ⟨#[u0,u1,u2,u3,u4,u5,.pointer (some ⟨b6,0,none⟩),.pointer (some ⟨pb,0,none⟩),u8,u9,u10,u11,u12,u13,u14,u15,u16,x17,x18,x19,x20,u21,u22,u23,u24],[]⟩ (w'.setCell ⟨b6,0,none⟩ (.slice a (l.length+1) c))) :
  (atC Tryz.f14 [1,1,0,1,2,2,2,1]).wpIn (Fence.wide.inRound l0) n Tryz.prog Q ⟨#[u0,u1,u2,u3,u4,u5,.pointer (some ⟨b6,0,none⟩),.pointer (some ⟨pb,0,none⟩),u8,u9,u10,u11,u12,u13,u14,u15,u16,u17,u18,u19,u20,u21,u22,u23,u24],[]⟩ W:=by
 conv=>arg 4;whnf
 replace hQ:=hidT hQ
 replace hN:=hidT hN
 replace ho:=hidT ho
 have hlt6:=(qA hc6)
 refine wpIn_region_any (by kernel_rfl) (wpAny_in l0 (noDefer_of (by kernel_rfl)) hL _ _ _ _ ?_)
 refine any_of_X (S:=fun V=>V.heap[b6]?=some (.cells #[v] 32 (0,0))∧V.rangeAt pb 0 [v0,v1,v2,v3,v4,v5,v6,v7,v8,v9,v10,v11,v12,v13,v14,v15,v16,v17]) (x:=4) _ _ _ _ ?_
 have hHeld:(fun V:World=>V.heap[b6]?=some (.cells #[v] 32 (0,0))∧V.rangeAt pb 0 [v0,v1,v2,v3,v4,v5,v6,v7,v8,v9,v10,v11,v12,v13,v14,v15,v16,v17]) W.drew:=⟨hc6,hrP⟩
 refine anyX_take (i:=0) (v:=v) rfl (by kernel_rfl) (by kernel_rfl) (by kernel_rfl) (by kernel_rfl) (by kernel_rfl) (fun c a w h=>hP c _ _ w h) (Or.inl ⟨by rfl,?_⟩) (by assumption) ?_
 ·intro w' hSw
  have c6:=cell_rowL hSw.1
  simp[execOp,c6,go_sem]
 try simp only[Act.put,qG,qH,qS,qZ,qC]
 refine anyX_take (i:=1) (v:=.agg #[v0,v1,v2,v3,v4,v5,v6,v7,v8,v9,v10,v11,v12,v13,v14,v15,v16,v17]) rfl (by kernel_rfl) (by kernel_rfl) (by kernel_rfl) (by kernel_rfl) (by kernel_rfl) (fun c a w h=>hP c _ _ w h) (yieldsIf_load_mid (by rfl) 86 (.tmp 7) rfl pb 0 rfl [v0,v1,v2,v3,v4,v5,v6,v7,v8,v9,v10,v11,v12,v13,v14,v15,v16,v17] _ (fun w h=>h.2) Tryz.underlying86 rfl Tryz.infoSpotG) (by assumption) ?_
 try simp only[Act.put,qG,qH,qI,qS,qZ,qC]
 refine anyX_ready (rs:=[2]) (by kernel_rfl) (by simp) ?_
 refine AllX.cons rfl (fun K hK=>?_) AllX.nil
 go_simp
 refine (hN.out W.drew ((qB _ W).drew)).mono ?_
 rintro e w1 ⟨g,rfl,hg,hh,hb1⟩
 have hbW:Below W.heap.size W w1:=((qB _ W).drew).trans hb1
 have h61:=(hbW.block _ hlt6).trans hc6
 have hrP1:w1.rangeAt pb 0 [v0,v1,v2,v3,v4,v5,v6,v7,v8,v9,v10,v11,v12,v13,v14,v15,v16,v17]:=fun j u hu=>(World.cell?_of_block (a:=⟨pb,0+j,none⟩) (hbW.block _ (qF _ _ (hrP j u hu)))).trans (hrP j u hu)
 refine hK.out _ _ ⟨h61,hrP1⟩ (fun hHeld=>?_)
 clear hK
 try simp only[Act.put,qG,qH,qI,qS,qZ,qC]
 have HA:=hidT (fun ty=>app_formG (n:=1) (cap:=1) (SlAt.ofBlock hh (by rfl) (by simp[Value.oneCell'])) (by omega) Tryz.underlying32 Tryz.infoIntT rfl (owns_agree ho.out ⟨hbW.size,fun q _ hq=>hbW.block q hq⟩:w1.ownsRow B 3 1 v l.length (H.intCells l)) (Nat.le_trans hB hbW.size) (by omega) (by omega) (Below.refl B w1) ty)
 refine anyX_ready (rs:=[3]) (by kernel_rfl) (by simp) ?_
 refine AllX.cons rfl (fun K hK=>?_) AllX.nil
 refine step_append_two rfl (.tmp 17) (.tmp 19) 32 rfl _ _ rfl rfl (HA.out _) ?_
 rintro v2 w2 ⟨⟨a2,c2,rfl⟩,ho2,-,hg2⟩
 have hgW:W.grownBy w2 v.ownBlock:=grown_then ⟨hbW.os,hbW.tape,hbW.output,hbW.size,fun k hk _=>hbW.block k hk⟩ hg2
 have h62:=(hg2.block b6 (qM hlt6 hbW.size) (fun e=>(hne _ e.symm).1 rfl)).trans h61
 have hrP2:w2.rangeAt pb 0 [v0,v1,v2,v3,v4,v5,v6,v7,v8,v9,v10,v11,v12,v13,v14,v15,v16,v17]:=fun j u hu=>(World.cell?_of_block (a:=⟨pb,0+j,none⟩) (hg2.block _ (qF _ _ (hrP1 j u hu)) (fun e=>(hne _ e.symm).2 rfl))).trans (hrP1 j u hu)
 refine hK.out _ _ ⟨h62,hrP2⟩ (fun hHeld=>?_)
 clear hK
 try simp only[Act.put,qG,qH,qI,qS,qZ,qC]
 refine anyX_ready (rs:=[4]) (by kernel_rfl) (by simp) ?_
 refine AllX.last rfl (fun K hK=>?_)
 have c62:=cell_rowL h62
 have f62:=frozen_rowL h62
 go_simp
 refine hK.out _ _ ?_
 clear hK
 try simp only[Act.put,qG,qH,qI,qS,qZ,qC]
 refine anyX_done (by kernel_rfl) ?_ _
 exact hQ.out _ _ _ _ a2 c2 w2 hgW (by simpa[H.intCells] using ho2)
end
section
open Go.RowKit Go.Shelf
open H (Up RowAt)
attribute [local go_sem] Oper.semAt_some
theorem visit_few {s:StD} {L:List F.Sh}:∀ (f:Nat) (n:Near),∀ x∈visit (readS s L) f n,x.page.items.length≤4
 | 0,n,x,h=>by
   obtain rfl:=List.mem_singleton.1 h
   exact (seen_small n).2.1
 | f+1,n,x,h=>by
   rcases List.mem_cons.1 h with rfl|h
   ·exact (seen_small n).2.1
   ·obtain⟨m,_,h2⟩:=List.mem_flatMap.1 h
    exact visit_few f m x h2
theorem spots_few {s:StD} {L:List F.Sh} {r:Int} {x:SpotD} (h:x∈spotsD (readS s L) r):x.page.items.length≤4:=by
 unfold spotsD at h
 split at h
 ·cases h
 ·exact visit_few 8 _ x h
def idsOf (pre:List SpotD):List Int:=pre.map fun x=>x.near.id
structure PagesI (X:World) (pre:List SpotD) (W:World):Prop where
 a4:W.heap[X.heap.size]?=some (.cells #[.slice none 0 0] 32 (0,0))
 a5:W.heap[X.heap.size+1]?=some (.cells #[.nilIface] 38 (0,0))
 a6:∃ v,W.heap[X.heap.size+2]?=some (.cells #[v] 32 (0,0))∧W.ownsRow (X.heap.size+5) 3 1 v (idsOf pre).length (H.intCells (idsOf pre))
 ok:∀ x∈pre,x.err=0
 bel:Below X.heap.size X W
 big:X.heap.size+5≤W.heap.size
structure PagesX (X:World) (pre:List SpotD) (W:World):Prop where
 a4:W.heap[X.heap.size]?=some (.cells #[.slice none 0 0] 32 (0,0))
 a5:∃ p x,pre=p++[x]∧x.err≠0∧W.heap[X.heap.size+1]?=some (.cells #[errV x.err] 38 (0,0))
 bel:Below X.heap.size X W
theorem PagesI.turn {X:World} {pre:List SpotD} {W W':World} (h:PagesI X pre W) {lo:Nat} (ht:Turn lo W W') (hl:X.heap.size≤lo):PagesI X pre W':=by
 obtain⟨v,h1,h4⟩:=h.a6
 exact⟨ht.cells h.a4,ht.cells h.a5,⟨v,ht.cells h1,owns_kept h4 ht⟩,h.ok,ht.bel h.bel hl h.bel.size,qN h.big ht.size⟩
theorem PagesX.turn {X:World} {pre:List SpotD} {W W':World} (h:PagesX X pre W) {lo:Nat} (ht:Turn lo W W') (hl:X.heap.size≤lo):PagesX X pre W':=by
 obtain⟨p,x,h1,h2,h3⟩:=h.a5
 exact⟨ht.cells h.a4,⟨p,x,h1,h2,ht.cells h3⟩,ht.bel h.bel hl h.bel.size⟩
theorem pages_any {w0 X:World} {sb mb fb:Nat} {s:StD} {L:List F.Sh} (hSf:Sf w0 X sb mb fb s L) (hL:ShOk L) (root:Int) (hr:InI root) (hsh:(spotsD (readS s L) root).length≤1000) (hv:∀ x∈spotsD (readS s L) root,∀ it∈x.page.items,it.kind=1) :
  Calls Tryz.prog 14 #[.pointer (some ⟨sb,0,none⟩),.int .i64 root] X fun e Y=>Below X.heap.size X Y ∧
   ((∃ ao cap,e=.returned (.tuple #[.slice ao (sortL (idsOf (spotsD (readS s L) root))).length cap,.nilIface])∧(∀ x∈spotsD (readS s L) root,x.err=0)) ∨
    (∃ x∈spotsD (readS s L) root,x.err≠0∧e=.returned (.tuple #[.slice none 0 0,errV x.err]))):=by
 have hT:=hidT (fun b1 b2 w hw h1 h2=>spots_tells hSf hL root hr b1 b2 8 w hw h1 h2)
 obtain⟨S,hS⟩:∃ S,S=spotsD (readS s L) root:=⟨_,rfl⟩
 have hfew:Hid (∀ x∈spotsD (readS s L) root,x.page.items.length≤4):=hidT (fun x hx=>spots_few hx)
 rw[← hS] at hT hsh hv hfew ⊢
 clear hS
 replace hsh:=hidT hsh
 replace hv:=hidT hv
 refine (callsIn_wide (n:=9)).1 ?_
 refine callsIn_of_wp_marks Tryz.func14 rfl trivial ?_ rfl
 simp only[Tryz.ntmps14,List.size_toArray,qV,List.length_nil,Nat.reduceAdd,Nat.reduceSub,Array.replicate_succ,Array.replicate_zero,List.push_toArray,List.append_toArray,List.nil_append,List.cons_append]
 refine wpIn_wide.2 ?_
 go_wp2_with fail
 refine (spots_any sb root _).mono ?_
 rintro e W1 ⟨rfl,hW1⟩
 have h5:=five X (.cells #[.slice none 0 0] 32) (.cells #[.nilIface] 38) (.cells #[.slice none 0 0] 32) (.cells #[.pointer (some ⟨sb,0,none⟩)] 27) (.cells #[.int .i64 root] 3)
 rw[← hW1] at h5
 obtain⟨p1,p2,p3,p4,p5,p6,p7⟩:=h5
 have hI0:Hid (PagesI X [] W1):=hidT ⟨p1,p2,⟨.slice none 0 0,p3,World.ownsRow_nil _ _ _ _⟩,by simp,p7,by rw[p6];exact Nat.le_refl _⟩
 have hTW:=hidT (hT.out (X.heap.size+4) (X.heap.size+3) W1 p7 p5 p4)
 have hW1s:=hidT p6
 clear p1 p2 p3 p4 p5 p6 p7 hW1 hT
 simp only[World.size_alloc,Nat.add_assoc,Nat.reduceAdd]
 go_wp2
 refine (wpIn_wide (n:=9)).1 ?_
 refine range_tells (At:=AtS) (n0:=Own2 X.heap.size (X.heap.size+4) (X.heap.size+3)) (S:=S) (w0:=W1) rfl (by omega) (gf:=54) (lb:=#[.pointer (some ⟨X.heap.size+4,0,none⟩),.pointer (some ⟨X.heap.size+3,0,none⟩)]) rfl trivial (enters_of Tryz.func54 (by kernel_rfl) rfl) hTW.out (qB _ _) (PagesI X) (fun c pre W=>c=.ret∧PagesX X pre W)
  (fun xs W W' h ht=>h.turn ht (by have:=hW1s.out;omega)) (fun c xs W W' h ht=>⟨h.1,h.2.turn ht (by have:=hW1s.out;omega)⟩) hI0.out
  (fun x args a' W'=>∃ (pb:Nat) (cs:Array Value) (E:Value),args=#[.agg cs,E]∧a'={ tmps:=#[.pointer (some ⟨sb,0,none⟩),.int .i64 root,undef,undef,.pointer (some ⟨X.heap.size,0,none⟩),.pointer (some ⟨X.heap.size+1,0,none⟩),.pointer (some ⟨X.heap.size+2,0,none⟩),.pointer (some ⟨pb,0,none⟩),E,.pointer (some ⟨sb,0,none⟩),.int .i64 root,.func (.func 54) #[] #[.pointer (some ⟨X.heap.size+4,0,none⟩),.pointer (some ⟨X.heap.size+3,0,none⟩)],.agg cs,E,undef,undef,undef,undef,undef,undef,undef,undef,undef,undef,undef],defers:=[] }∧W'.heap[pb]?=some (.cells cs 86 (0,0))) ?assign ?body ?done ?stop
 case assign=>
  intro l pre x args B W K hI hAt hK
  obtain⟨u,rfl,hH⟩:=hAt
  have hu:=(hH W ⟨Nat.le_refl _,fun _ _ _=>rfl⟩).slices
  replace hH:=hidT hH
  obtain⟨nr,p,ec⟩:=x
  obtain⟨ui,uk,ud,uv,uf⟩:=u
  obtain⟨⟨ai,ni,ci,rfl⟩,⟨ak,nk,ck,rfl⟩,⟨ad,nd,cd,rfl⟩,⟨av,nv,cv,rfl⟩,⟨af,nf,cf,rfl⟩⟩:=hu
  have hbX:=(qB W.heap.size W).alloc qL (.cells #[.int .i64 nr.id,.int .i64 (nr.depth:Int),.string nr.low,.string nr.high,.int .i64 p.kind,.slice ai ni ci,.slice ak nk ck,.slice ad nd cd,.string p.text,.slice av nv cv,.slice af nf cf,.int .i64 p.next,.int .u64 p.mt.txn,.int .i64 p.mt.main.page,.int .i64 p.mt.main.count,.int .i64 p.mt.main.flags,.int .i64 p.mt.free,.int .i64 p.mt.last] 86)
  have hK2:=hK { tmps:=#[.pointer (some ⟨sb,0,none⟩),.int .i64 root,undef,undef,.pointer (some ⟨X.heap.size,0,none⟩),.pointer (some ⟨X.heap.size+1,0,none⟩),.pointer (some ⟨X.heap.size+2,0,none⟩),.pointer (some ⟨W.heap.size,0,none⟩),errV ec,.pointer (some ⟨sb,0,none⟩),.int .i64 root,.func (.func 54) #[] #[.pointer (some ⟨X.heap.size+4,0,none⟩),.pointer (some ⟨X.heap.size+3,0,none⟩)],.agg #[.int .i64 nr.id,.int .i64 (nr.depth:Int),.string nr.low,.string nr.high,.int .i64 p.kind,.slice ai ni ci,.slice ak nk ck,.slice ad nd cd,.string p.text,.slice av nv cv,.slice af nf cf,.int .i64 p.next,.int .u64 p.mt.txn,.int .i64 p.mt.main.page,.int .i64 p.mt.main.count,.int .i64 p.mt.main.flags,.int .i64 p.mt.free,.int .i64 p.mt.last],errV ec,undef,undef,undef,undef,undef,undef,undef,undef,undef,undef,undef],defers:=[] } _ hbX ⟨W.heap.size,_,_,rfl,rfl,heap_newL W _⟩
  clear hK
  rw[show (spotCells nr p ⟨.slice ai ni ci,.slice ak nk ck,.slice ad nd cd,.slice av nv cv,.slice af nf cf⟩).toArray=#[.int .i64 nr.id,.int .i64 (nr.depth:Int),.string nr.low,.string nr.high,.int .i64 p.kind,.slice ai ni ci,.slice ak nk ck,.slice ad nd cd,.string p.text,.slice av nv cv,.slice af nf cf,.int .i64 p.next,.int .u64 p.mt.txn,.int .i64 p.mt.main.page,.int .i64 p.mt.main.count,.int .i64 p.mt.main.flags,.int .i64 p.mt.free,.int .i64 p.mt.last] from rfl]
  gi_wp2
  exact hK2
 case body=>
  intro l pre x args a' W0 W1' Wa W hl hpre hIa hsz hb1 hAt hba hAx hWs hoth hI ht
  obtain⟨pb,cs,E,rfl,rfl,hbox⟩:=hAx
  obtain⟨u,e1,hH⟩:=hAt
  have e2:cs=(spotCells x.near x.page u).toArray∧E=errV x.err:=by simpa using e1
  obtain⟨rfl,rfl⟩:=e2
  have hbW:=box_kept hb1 hba hoth ht hbox
  have hHW:=hH W ⟨by have:=hba.size;omega,fun k h1 h2=>(hoth k (.inr h1)).trans (hba.block k h2)⟩
  have hu:=hHW.slices
  obtain⟨v,h6,ho⟩:=hI.a6
  obtain⟨ra,rc,rfl⟩:=owns_slice ho
  have hrow:∀ g,(Value.slice ra (idsOf pre).length rc).ownBlock=some g→X.heap.size+5≤g∧g<W0.heap.size∧∃ cs T fr,W.heap[g]?=some (.cells cs T fr):=fun g hg=>by
   obtain⟨v0,k6,ko⟩:=hIa.a6
   have e3:=(ht.cells k6).symm.trans h6
   simp only[qQ,qX,Array.mk.injEq,List.cons.injEq,and_true] at e3
   rw[e3] at ko
   exact⟨(owns_cells ho hg).1,(owns_cells ko hg).2.1,(owns_cells ho hg).2.2⟩
  have hlen:(idsOf pre).length+1≤1000:=by
   have h1:=hsh.out
   obtain⟨r,hr⟩:=hpre
   rw[← hr] at h1
   simp only[idsOf,List.length_map,qO,qV,List.length_nil] at h1 ⊢
   omega
  have hsm:x.page.items.length≤4:=hfew.out x (by obtain⟨r,hr⟩:=hpre;rw[← hr];simp)
  have hvx:∀ it∈x.page.items,it.kind=1:=hv.out x (by obtain⟨r,hr⟩:=hpre;rw[← hr];simp)
  have c6:=cell_rowL h6
  have f4:=frozen_rowL hI.a4
  have f5:=frozen_rowL hI.a5
  have c4:=cell_rowL hI.a4
  have c5:=cell_rowL hI.a5
  have hB5:X.heap.size+5≤W0.heap.size:=hIa.big
  replace hI:=hidT hI
  replace hrow:=hidT hrow
  replace hH:=hidT hH
  replace hbox:=hidT hbox
  have hHW':=hidT hHW
  clear hHW
  by_cases he:x.err=0
  ·have eE:errV x.err=.nilIface:=by rw[he];rfl
   rw[eE]
   have hn:=neqNilT
   have hbWH:=hidT hbW
   have rP:=hidT (range_box (cs:=spotCells x.near x.page u) hbW)
   have CN:=hidT (fun V (hV:W.heap.size≤V.heap.size) (hg:Hangs V x.page u.i u.k u.d u.v u.f)=>numbers_spot x.near x.page u V hg (by have:=hsm;omega) hvx)
   replace ho:=hidT ho
   replace h6:=hidT h6
   replace hn:=hn
   have hE0:=hidT he
   clear he hu
   gi_wp2
   refine pg7 l 7 (W:=W) (b6:=X.heap.size+2) (pb:=pb) (B:=X.heap.size+5) (l:=idsOf pre) (id:=x.near.id) (v0:=.int .i64 x.near.id) (v1:=.int .i64 (x.near.depth:Int)) (v2:=.string x.near.low) (v3:=.string x.near.high) (v4:=.int .i64 x.page.kind) (v5:=u.i) (v6:=u.k) (v7:=u.d) (v8:=.string x.page.text) (v9:=u.v) (v10:=u.f) (v11:=.int .i64 x.page.next) (v12:=.int .u64 x.page.mt.txn) (v13:=.int .i64 x.page.mt.main.page) (v14:=.int .i64 x.page.mt.main.count) (v15:=.int .i64 x.page.mt.main.flags) (v16:=.int .i64 x.page.mt.free) (v17:=.int .i64 x.page.mt.last) h6.out rP.out (by simpa[idsOf] using ho.out) hI.out.big ?hne (by omega) ?hN (fun ⟨_,_,h⟩=>h) (fun _ _ _ _ h=>h) _ _ _ _ _ _ _ _ _ _ _ _ _ _ _ _ _ _ _ _ _ _ _ ?hQ
   case hne=>
    intro g hg
    obtain⟨h1,h2,h3⟩:=hrow.out g (by simpa[idsOf] using hg)
    refine⟨by omega,fun e=>?_⟩
    subst e
    rcases ho.out.2 with ⟨e1,_⟩|⟨g',c',cur,e1,_,e3,_⟩
    ·rw[e1] at hg
     cases hg
    ·rw[e1] at hg
     simp only[Value.ownBlock,qQ] at hg
     subst hg
     have e4:=e3.symm.trans hbWH.out
     simp at e4
   case hN=>
    intro V hV
    exact CN.out V hV.size (hHW'.out.below hV)
   case hQ=>
    intro x17 x18 x19 x20 a2 c2 w2 hg2 ho2
    have hbig:=hI.out.big
    have hrw:∀ k,k<X.heap.size+5→some k≠(Value.slice ra (idsOf pre).length rc).ownBlock:=fun k hk e=>by have:=(hrow.out k e.symm).1;omega
    have h62:=(hg2.block (X.heap.size+2) (by omega) (hrw _ (by omega))).trans h6.out
    have hb5:∀ k,k<X.heap.size+5→k≠X.heap.size+2→(w2.setCell ⟨X.heap.size+2,0,none⟩ (.slice a2 ((idsOf pre).length+1) c2)).heap[k]?=W.heap[k]?:=fun k h1 h2=>(qD _ _ _ _ (show k≠X.heap.size+2 from h2)).trans (hg2.block k (by omega) (hrw k h1))
    have s6:=heap_setCell_same w2 (X.heap.size+2) 0 _ _ (.slice a2 ((idsOf pre).length+1) c2) h62
    simp only[qS,qZ] at s6
    have hsz2:=hg2.size
    have hsnoc:idsOf (pre++[x])=idsOf pre++[x.near.id]:=by simp[idsOf]
    refine⟨(BodyKeeps.grown hg2 fun g hg=>?_).cell' _ ⟨by omega,by omega,by omega⟩ (by omega),(hb5 _ (by omega) (by omega)).trans hI.out.a4,(hb5 _ (by omega) (by omega)).trans hI.out.a5,⟨_,s6,?_⟩,?_,?_,?_⟩
    ·obtain⟨h1,h2,h3⟩:=hrow.out g hg
     exact⟨.inl ⟨⟨by omega,by omega,by omega⟩,h2⟩,h3⟩
    ·rw[hsnoc,qO]
     exact owns_move ho2 fun g cs T fr h1 _=>qD _ _ _ _ (show g≠X.heap.size+2 by omega)
    ·intro y hy
     rcases List.mem_append.1 hy with hy|hy
     ·exact hI.out.ok y hy
     ·rw[List.mem_singleton.1 hy];exact hE0.out
    ·exact ((hI.out.bel.grown hg2 hI.out.bel.size (fun g hg=>qN (Nat.le_add_right _ 5) (hrow.out g hg).1))).setCell (by simp) _
    ·simp
     omega
  ·have eE:errV x.err=.iface 62 (.int .i64 x.err):=if_neg he
   have hE:=hidT eE
   rw[eE]
   clear eE
   have hn:=neqErrT
   clear hu
   gi_wp2
   have s4:=heap_setCell_same W X.heap.size 0 _ _ (.slice none 0 0) hI.out.a4
   have s5:=heap_setCell_same (W.setCell ⟨X.heap.size,0,none⟩ (.slice none 0 0)) (X.heap.size+1) 0 _ _ (.iface 62 (.int .i64 x.err)) ((qD _ _ _ _ (show X.heap.size+1≠X.heap.size by omega)).trans hI.out.a5)
   simp only[qS,qZ] at s4 s5
   refine⟨(BodyKeeps.setCell W _ ⟨by omega,by omega,by omega⟩ (by omega)).cell' _ ⟨by omega,by omega,by omega⟩ (by omega),rfl,(qD _ _ _ _ (show X.heap.size≠X.heap.size+1 by omega)).trans s4,⟨pre,x,rfl,he,by rw[hE.out];exact s5⟩,(hI.out.bel.setCell qL _).setCell (by simp) _⟩
 case done=>
  intro D W hD hI hm
  obtain⟨v,h6,ho⟩:=hI.a6
  have c6:=cell_rowL h6
  replace hI:=hidT hI
  replace ho:=hidT ho
  replace h6:=hidT h6
  replace hm:=hidT hm
  have CSo:=hidT (sort_row W (X.heap.size+5) v (idsOf S) ho.out (by have:=hsh.out;simp[idsOf];omega))
  go_wp2_with fail
  refine CSo.out.mono ?_
  rintro e w1 ⟨rfl,ho1,hg1⟩
  have hrw:∀ k,k<X.heap.size+5→some k≠v.ownBlock:=fun k hk e=>by have:=(owns_cells ho.out e.symm).1;omega
  have hbig:=hI.out.big
  have h61:=(hg1.block (X.heap.size+2) (by omega) (hrw _ (by omega))).trans h6.out
  have c61:=cell_rowL h61
  replace hg1:=hidT hg1
  have hl1:((idsOf S).mergeSort fun x y=>decide (x≤y)).length=(idsOf S).length:=by simp
  have hls:(idsOf S).length≤1000:=by have:=hsh.out;simp[idsOf];omega
  have CCo:=hidT (compact_row w1 (X.heap.size+5) v _ ho1 (by rw[hl1];exact hls))
  clear CSo c6
  replace hrw:=hidT hrw
  go_wp2_with fail
  refine CCo.out.mono ?_
  rintro e w2 ⟨ao,cap,rfl,hro,hg2⟩
  have hDs:=hW1s.out
  have hk2:∀ k,k<X.heap.size+5→w2.heap[k]?=W.heap[k]?:=fun k hk=>(hg2.block k (by have:=hg1.out.size;omega) (hrw.out k hk)).trans (hg1.out.block k (by omega) (hrw.out k hk))
  have hDr:some D≠v.ownBlock:=fun e=>by
   obtain⟨_,_,cs,T,fr,h⟩:=owns_cells ho.out e.symm
   rw[hm.out] at h
   cases h
  have hDl:=(qA hm.out)
  have hm2:=hidT (((hg2.block D (by have:=hg1.out.size;omega) hDr).trans (hg1.out.block D hDl hDr)).trans hm.out)
  have k4:=(hk2 X.heap.size (by omega)).trans hI.out.a4
  have k5:=(hk2 (X.heap.size+1) (by omega)).trans hI.out.a5
  have hrow0:∀ g,v.ownBlock=some g→X.heap.size≤g:=fun g hg=>qN (Nat.le_add_right _ 5) (owns_cells ho.out hg).1
  have hbl:Below X.heap.size X w2:=((hI.out.bel.grown hg1.out hI.out.bel.size hrow0)).grown hg2 (by have:=hg1.out.size;omega) hrow0
  have c4:=cell_rowL k4
  have f4:=frozen_rowL k4
  have c5:=cell_rowL k5
  have f5:=frozen_rowL k5
  replace hk2:=hidT hk2
  replace k4:=hidT k4
  replace k5:=hidT k5
  replace hbl:=hidT hbl
  clear CCo c61 hg2 hro hDr
  go_wp2
  have s4:=heap_setCell_same w2 X.heap.size 0 _ _ (.slice ao (Lib.compact ((idsOf S).mergeSort fun x y=>decide (x≤y))).length cap) k4.out
  have s5:=heap_setCell_same (w2.setCell ⟨X.heap.size,0,none⟩ (.slice ao (Lib.compact ((idsOf S).mergeSort fun x y=>decide (x≤y))).length cap)) (X.heap.size+1) 0 _ _ .nilIface ((qD _ _ _ _ (show X.heap.size+1≠X.heap.size by omega)).trans k5.out)
  simp only[qS,qZ] at s4 s5
  refine leave_mark (B:=X.heap.size) (by omega) (((qD _ _ _ _ (show D≠X.heap.size+1 by omega)).trans (qD _ _ _ _ (show D≠X.heap.size by omega))).trans hm2.out) ?_
  intro w' hk hb
  have c4':=cell_rowL ((hk X.heap.size (by omega)).trans ((qD _ _ _ _ (show X.heap.size≠X.heap.size+1 by omega)).trans s4))
  have c5':=cell_rowL ((hk (X.heap.size+1) (by omega)).trans s5)
  exact⟨.tuple #[.slice ao (Lib.compact ((idsOf S).mergeSort fun x y=>decide (x≤y))).length cap,.nilIface],by simp[results,Tryz.results14,go_sem,c4',c5'],((hbl.out.setCell qL _).setCell (by simp) _).trans hb,.inl ⟨ao,cap,rfl,hI.out.ok⟩⟩
 case stop=>
  intro D c pre x W hD hpre hX hm
  obtain⟨rfl,hX⟩:=hX
  replace hX:=hidT hX
  replace hm:=hidT hm
  replace hpre:=hidT hpre
  refine wpIn_wide.2 ?_
  go_wp2
  refine leave_mark (B:=X.heap.size) (by have:=hW1s.out;omega) hm.out ?_
  intro w' hk hb
  obtain⟨q,y,e1,e2,e3⟩:=hX.out.a5
  obtain⟨e4,e5⟩:=List.append_inj' e1 rfl
  simp only[List.cons.injEq,and_true] at e5
  subst e5
  have hDs:=hW1s.out
  have c4:=cell_rowL ((hk X.heap.size (by omega)).trans hX.out.a4)
  have c5:=cell_rowL ((hk (X.heap.size+1) (by omega)).trans e3)
  refine⟨.tuple #[.slice none 0 0,errV x.err],by simp[results,Tryz.results14,go_sem,c4,c5],hX.out.bel.trans hb,.inr ⟨x,?_,e2,rfl⟩⟩
  obtain⟨r,hr⟩:=hpre.out
  rw[← hr]
  simp
end
end Go.Proofs.YtbghhklbfnplbaaGreat

import Derived.WalkKit
import Derived.Deep.Cut
import Derived.Deep.MidRow
import Derived.OwnWalkIn
import Derived.Test.YtbghhklbfnplbaaGreatC00
import Derived.Test.YtbghhklbfnplbaaGreatT01
import Derived.Test.YtbghhklbfnplbaaGreatT02
import Derived.Test.YtbghhklbfnplbaaGreatC27
set_option maxHeartbeats 4000000
set_option maxRecDepth 100000
namespace Go.Proofs.YtbghhklbfnplbaaGreat
section
open Go
def stepC:Nat→Code→Code
 | 0,.seq a _=>a
 | 1,.seq _ b=>b
 | 2,.loop c=>c
 | 2,.block _ c=>c
 | 2,.scope c=>c
 | 0,.rangeFunc _ _ a _=>a
 | 2,.rangeFunc _ _ _ b=>b
 | _,c=>c
def pathC:List Nat→Code→Code
 | [],c=>c
 | k::l,c=>pathC l (stepC k c)
def atC (f:Func) (l:List Nat):Code:=pathC l (f.body.getD .skip)
end
section
open Go.RowKit
theorem within_rest {w2:World} {b m c:Nat} {a:Option Addr} {a0 a1:Addr} {k0 k1 low high:ByteArray} (c2:w2.cell? ⟨b,2,none⟩=some (.string low)) (c3:w2.cell? ⟨b,3,none⟩=some (.string high))
  (i0:∀ W,(Instr.indexAt 31 (.slice a m c) (.int .i64 0)).run Tryz.prog W=.ok (.pointer (some a0)) W) (i1:∀ W,(Instr.indexAt 31 (.slice a m c) (.int .i64 ((m:Int) - 1))).run Tryz.prog W=.ok (.pointer (some a1)) W) (c0:w2.cell? a0=some (.string k0)) (c1:w2.cell? a1=some (.string k1)) (hm:1≤m) (hm2:m≤1000)
  (Q0:Exit→Act→World→Prop) (hend:∀ (x:Act) (n:Nat),x.defers=[]→x.eval (.tmp 2)=.bool (geB k0 low&&(emptyB high||lessB k1 high))→Q0 .ret x (w2.drewN n))
  (u0 u2 u4 u5 u6 u7 u8 u9 u10 u11 u12 u13 u14 u15 u16 u17 u18 u19 u20 u21 u22 u23 u24 u25 u26 u27 u28 u29 u30:Value):(atC Tryz.f27 [1,1,1]).wp Tryz.prog Q0 ⟨#[u0,.pointer (some ⟨b,0,none⟩),u2,.slice a m c,u4,u5,u6,u7,u8,u9,u10,u11,u12,u13,u14,u15,u16,u17,u18,u19,u20,u21,u22,u23,u24,u25,u26,u27,u28,u29,u30],[]⟩ w2:=by
 conv=>arg 2;whnf
 replace hend:=hidG hend
 go_upto_region 4 with fail
 unfold geB emptyB at hend
 generalize hL:lessB k1 high=bL at *
 have hL2:Op.bytesLess k1.toList high.toList=bL:=hL
 clear hL
 cases hA:lessB k0 low<;>cases hE:(high.toList==(⟨#[]⟩:ByteArray).toList)
 all_goals
  rw[hA,hE] at hend
  have hA2:Op.bytesLess k0.toList low.toList=_:=hA
  have hE2:=hE
  rw[nil_listG] at hE2
  clear hA
  go_quiet (fail)
  go_wp2
  exact hend.out _ nq rfl rfl
end
section
open Go.RowKit
theorem range_box {w:World} {b:Nat} {cs:List Value} {T:TypeId} {fr:Nat × Nat} (h:w.heap[b]?=some (.cells cs.toArray T fr)):w.rangeAt b 0 cs:=fun j u hj=>by
 rw[Nat.zero_add,cell_rowL h]
 simpa using hj
theorem Tryz.infoSpotG:(Tryz.prog.info? 86).map (·.size)=some 18:=by kernel_rfl
theorem within_mid {X:World} {b m:Nat} {l:List ByteArray} {low high:ByteArray} {v0 v1 v4 v5 v6 v7 v8 v9 v10 v11 v12 v13 v14 v15 v16 v17:Value} {bk:Bool} (hX:X.heap[b]?=some (.cells #[v0,v1,.string low,.string high,v4,v5,v6,v7,v8,v9,v10,v11,v12,v13,v14,v15,v16,v17] 86 (0,0)))
  (hCL:∀ V,Calls Tryz.prog 25 #[.agg #[v0,v1,.string low,.string high,v4,v5,v6,v7,v8,v9,v10,v11,v12,v13,v14,v15,v16,v17]] V fun e w'=>e=.returned (.bool bk)∧Below V.heap.size V w')
  (hCK:∀ V,Below X.heap.size X V→Calls Tryz.prog 36 #[.agg #[v0,v1,.string low,.string high,v4,v5,v6,v7,v8,v9,v10,v11,v12,v13,v14,v15,v16,v17]] V fun e w'=>∃ a c,e=.returned (.slice a m c)∧w'.ownsRow (V.heap.size+1) 9 1 (.slice a m c) m (strsC l)∧Below V.heap.size V w') (hm:m=l.length) (hm1:bk=true→1≤m) (hm2:m≤1000)
  (Q0:Exit→Act→World→Prop) (hend:∀ (x:Act) (w':World),x.defers=[]→x.eval (.tmp 2)=.bool (!bk||(geB (l.getD 0 ⟨#[]⟩) low&&(emptyB high||lessB (l.getD (m - 1) ⟨#[]⟩) high)))→Below X.heap.size X w'→Q0 .ret x w')
  (u0 u2 u4 u5 u6 u7 u8 u9 u10 u11 u12 u13 u14 u15 u16 u17 u18 u19 u20 u21 u22 u23 u24 u25 u26 u27 u28 u29 u30:Value):(atC Tryz.f27 [1]).wp Tryz.prog Q0 ⟨#[u0,.pointer (some ⟨b,0,none⟩),u2,undef,u4,u5,u6,u7,u8,u9,u10,u11,u12,u13,u14,u15,u16,u17,u18,u19,u20,u21,u22,u23,u24,u25,u26,u27,u28,u29,u30],[]⟩ X:=by
 conv=>arg 2;whnf
 have rX:=hidG (range_box (cs:=[v0,v1,.string low,.string high,v4,v5,v6,v7,v8,v9,v10,v11,v12,v13,v14,v15,v16,v17]) hX)
 replace hX:=hidG hX
 replace hCL:=hidG hCL
 replace hCK:=hidG hCK
 replace hend:=hidG hend
 replace hm:=hidG hm
 cases bk with
 | false=>
   clear hCK hm1
   go_wp2_with (refine wpList_load_mid rfl 86 (.tmp 1) rfl b 0 rfl [v0,v1,.string low,.string high,v4,v5,v6,v7,v8,v9,v10,v11,v12,v13,v14,v15,v16,v17] _ rX.out Tryz.underlying86 rfl Tryz.infoSpotG ?_)
   refine (hCL.out _).mono ?_
   rintro e w1 ⟨rfl,hb1⟩
   replace hb1:=hidG hb1
   clear hCL rX
   go_wp2
   exact hend.out _ w1 rfl (by rw[Bool.not_false,Bool.true_or];rfl) hb1.out
 | true=>
   have hp1:=hm1 rfl
   clear hm1
   go_wp2_with (refine wpList_load_mid rfl 86 (.tmp 1) rfl b 0 rfl [v0,v1,.string low,.string high,v4,v5,v6,v7,v8,v9,v10,v11,v12,v13,v14,v15,v16,v17] _ rX.out Tryz.underlying86 rfl Tryz.infoSpotG ?_)
   refine (hCL.out _).mono ?_
   rintro e w1 ⟨rfl,hb1⟩
   have hX1:=hidG ((hb1.block _ (qA hX.out)).trans hX.out)
   have rX1:=hidG (range_box (cs:=[v0,v1,.string low,.string high,v4,v5,v6,v7,v8,v9,v10,v11,v12,v13,v14,v15,v16,v17]) hX1.out)
   replace hb1:=hidG hb1
   clear hCL rX
   go_wp2_with (refine wpList_load_mid rfl 86 (.tmp 1) rfl b 0 rfl [v0,v1,.string low,.string high,v4,v5,v6,v7,v8,v9,v10,v11,v12,v13,v14,v15,v16,v17] _ rX1.out Tryz.underlying86 rfl Tryz.infoSpotG ?_)
   refine (hCK.out _ hb1.out).mono ?_
   rintro e w2 ⟨a,c,rfl,ho,hb2⟩
   have hbW:=hidG (hb1.out.trans (hb2.mono hb1.out.size))
   have cX2:=cell_rowL ((hb2.block _ (qA hX1.out)).trans hX1.out)
   obtain⟨a0,i0,c0⟩:=own_text ho hm.out (k:=0) (by have:=hm.out;omega)
   obtain⟨a1,i1,c1⟩:=own_text ho hm.out (k:=m - 1) (by have:=hm.out;omega)
   have e1:((m - 1:Nat):Int)=(m:Int) - 1:=by omega
   rw[e1] at i1
   have e0:((0:Nat):Int)=0:=rfl
   rw[e0] at i0
   clear hb2 hCK rX1 e1 e0 ho
   dsimp only
   repeat ((fail_if_success (apply wp_seq_k));go_step)
   refine within_rest (cX2 2) (cX2 3) i0 i1 c0 c1 hp1 hm2 _ (fun x n hx hv=>?_) _ _ _ _ _ _ _ _ _ _ _ _ _ _ _ _ _ _ _ _ _ _ _ _ _ _ _ _ _
   exact hend.out _ _ hx (by rw[hv,Bool.not_true,Bool.false_or]) (hbW.out.trans ((below_draws w2 n).mono hbW.out.size))
theorem within_spot (n:Near) (p:PageD) (u:PV) (W:World) (hg:Hangs W p u.i u.k u.d u.v u.f) (hm:p.items.length≤1000) (h1:p.kind=1→1≤p.items.length) :
  Calls Tryz.prog 27 #[.agg (spotCells n p u).toArray] W fun e w'=>e=.returned (.bool (withinD n p))∧Below W.heap.size W w':=by
 have hu:=hg.slices
 have CL:=hidG (fun V=>leaf_spot n p u V hu)
 have CK:=hidG (fun V (hV:Below W.heap.size W V)=>keys_spot n p u V (hg.below hV) hm)
 obtain⟨ui,uk,ud,uv,uf⟩:=u
 obtain⟨⟨ai,ni,ci,rfl⟩,⟨ak,nk,ck,rfl⟩,⟨ad,nd,cd,rfl⟩,⟨av,nv,cv,rfl⟩,⟨af,nf,cf,rfl⟩⟩:=hu
 show Calls Tryz.prog 27 #[.agg #[.int .i64 n.id,.int .i64 (n.depth:Int),.string n.low,.string n.high,.int .i64 p.kind,.slice ai ni ci,.slice ak nk ck,.slice ad nd cd,.string p.text,.slice av nv cv,.slice af nf cf,.int .i64 p.next,.int .u64 p.mt.txn,.int .i64 p.mt.main.page,.int .i64 p.mt.main.count,.int .i64 p.mt.main.flags,.int .i64 p.mt.free,.int .i64 p.mt.last]] W _
 have hb0:=hidG (belowBox W (.cells #[.int .i64 n.id,.int .i64 (n.depth:Int),.string n.low,.string n.high,.int .i64 p.kind,.slice ai ni ci,.slice ak nk ck,.slice ad nd cd,.string p.text,.slice av nv cv,.slice af nf cf,.int .i64 p.next,.int .u64 p.mt.txn,.int .i64 p.mt.main.page,.int .i64 p.mt.main.count,.int .i64 p.mt.main.flags,.int .i64 p.mt.free,.int .i64 p.mt.last] 86))
 have hbs:=hidG (heap_newL W (.cells #[.int .i64 n.id,.int .i64 (n.depth:Int),.string n.low,.string n.high,.int .i64 p.kind,.slice ai ni ci,.slice ak nk ck,.slice ad nd cd,.string p.text,.slice av nv cv,.slice af nf cf,.int .i64 p.next,.int .u64 p.mt.txn,.int .i64 p.mt.main.page,.int .i64 p.mt.main.count,.int .i64 p.mt.main.flags,.int .i64 p.mt.free,.int .i64 p.mt.last] 86))
 replace hm:=hidG hm
 replace h1:=hidG h1
 clear hg
 go_enter Tryz.func27,Tryz.ntmps27
 apply wp_seq_k
 intro _ _
 repeat ((fail_if_success (apply wp_seq_k));go_step)
 refine within_mid (l:=keysOf p.items) (m:=p.items.length) (bk:=p.kind==1) hbs.out (fun V=>CL.out V) (fun V hV=>CK.out V (hb0.out.trans (hV.mono hb0.out.size))) (by simp[keysOf]) (fun h=>h1.out (by simpa using h)) hm.out _ (fun x w' hx hv hb=>?_) _ _ _ _ _ _ _ _ _ _ _ _ _ _ _ _ _ _ _ _ _ _ _ _ _ _ _ _ _
 exact bodyPost_ret (results_tmp rfl _ _ _) hx ⟨congrArg Ending.returned hv,hb0.out.trans (hb.mono hb0.out.size)⟩
end
section
open Go.RowKit
section
variable {P:Program} {ops:Array Oper} {Q:Exit→Act→World→Prop} {B:World→Prop} {G:Nat→(Operand→Value)→World→Prop} {a0:Act}
theorem ends_val {todo:List Nat} {dead:Nat→Nat→Bool} {x:Nat} (ds:List Tmp) (hds:dstsOf ops todo=ds) (d:Nat) (op:Op) (hx:(ops[x]?).map (fun o=>(o.dst,o.op,o.guard))=some (some d,op,none))
  (h:∀ ρ w,(∀ v,ρ (.const v)=v)→(∀ t,outB ops todo t=true→ρ (.tmp t)=a0.eval (.tmp t))→B w→(∀ k∈todo,(todo.all fun j=>!dead k j)=true→G k ρ w)→∃ v,(∀ ty pos af,(execOp ρ ⟨some d,op,ty,pos,af,none⟩).run P w=.ok (.value v) w)∧Q .normal ((ds.foldl (fun b d=>b.put (some d) (ρ (.tmp d))) a0).put (some d) v) w):Ends P ops Q B (fun j a w=>G j a.eval w) todo [x] dead a0:=by
 intro a w hB hF ha o ho K hK
 have hout:∀ t,outB ops todo t=true→a.eval (.tmp t)=a0.eval (.tmp t):=fun t ht=>by
  have hne:∀ d∈dstsOf ops todo,d≠t:=fun d hd e=>by
   obtain⟨k,hk,hk2⟩:=List.mem_filterMap.1 hd
   have h1:=List.all_eq_true.1 ht k hk
   cases hok:ops[k]? with
   | none=>rw[hok] at hk2;cases hk2
   | some o'=>
     rw[hok] at h1 hk2
     simp only[Option.bind_some] at hk2
     simp[hk2,e] at h1
  have hf:∀ (l:List Tmp) (b:Act),(∀ d∈l,d≠t)→(l.foldl (fun b d=>b.put (some d) (a.eval (.tmp d))) b).eval (.tmp t)=b.eval (.tmp t):=by
   intro l
   induction l with
   | nil=>intro b _;rfl
   | cons d l ih=>
     intro b hl
     rw[List.foldl_cons,ih _ (fun d' hd'=>hl d' (by simp[hd'])),Act.eval_other (hl d (by simp))]
  have h2:a.eval (.tmp t)=((dstsOf ops todo).foldl (fun b d=>b.put (some d) (a.eval (.tmp d))) a0).eval (.tmp t):=congrArg (fun b:Act=>b.eval (.tmp t)) ha
  exact h2.trans (hf _ _ hne)
 obtain⟨v,hr,hq⟩:=h a.eval w (fun _=>rfl) hout hB (fun k hk hd=>hF k hk fun j hj=>by simpa using List.all_eq_true.1 hd j hj)
 rw[← hds,← ha] at hq
 rw[ho] at hx
 obtain⟨d',op',ty',pos,af,g⟩:=o
 simp only[Option.map_some,qQ,Prod.mk.injEq] at hx
 obtain⟨rfl,rfl,rfl⟩:=hx
 rw[if_pos (by rfl)]
 unfold Oper.wp
 rw[hr]
 exact hK.out v w hq
end
def pred_sp7:Nat→List Nat|1=>[0]|3=>[2]|4=>[1,3]|5=>[4]|_=>[]
def slots_sp7:Nat→List Tmp|0=>[25]|1=>[26]|2=>[27]|3=>[28]|4=>[29]|5=>[30]|_=>[]
def dead_sp7:Nat→Nat→Bool|_,_=>false
def G_sp7 (w0:World) (m:Nat) (n1:Nat) (cap:Nat) (ao:Option Addr) (bo:Option Addr) (cs1:List Value) (cs2:List Value) (v0:Value) (v1:Value) (v2:Value) (v3:Value) (v4:Value) (v5:Value) (v6:Value) (v7:Value) (v8:Value) (v9:Value) (v10:Value) (v11:Value) (v12:Value) (v13:Value) (v14:Value) (v15:Value) (v16:Value) (v17:Value):Nat→(Operand→Value)→World→Prop
 | 0,ρ,_=>ρ (.tmp 25)=.agg #[v0,v1,v2,v3,v4,v5,v6,v7,v8,v9,v10,v11,v12,v13,v14,v15,v16,v17]
 | 1,ρ,w=>∃ ac cc,ρ (.tmp 26)=.slice ac m cc∧SlAt 18 w ac cc m cs1
 | 2,ρ,_=>ρ (.tmp 27)=.slice ao n1 cap
 | 3,ρ,_=>ρ (.tmp 28)=.slice bo (n1 - 1) (cap - 1)
 | 4,ρ,w=>∃ nb ac cc,ρ (.tmp 29)=.slice (some ⟨nb,0,none⟩) 2 2∧w.heap[nb]?=some (.cells #[.slice ac m cc,.slice bo (n1 - 1) (cap - 1)] 119 (0,0))∧SlAt 18 w ac cc m cs1
 | 5,ρ,w=>∃ a c,ρ (.tmp 30)=.slice a (m+(n1 - 1)) c∧w.ownsRow w0.heap.size 86 18 (.slice a (m+(n1 - 1)) c) (m+(n1 - 1)) (cs1++cs2)
 | _,_,_=>True
theorem hk_sp7:hkB (opsOf Tryz.f54 7) [0,1,2,3,4,5] [6] dead_sp7 pred_sp7 slots_sp7=true:=by kernel_rfl
theorem sp7 (w0:World) (b m n1 cap:Nat) (ao bo:Option Addr) (cs1 cs2:List Value) (v0 v1 v2 v3 v4 v5 v6 v7 v8 v9 v10 v11 v12 v13 v14 v15 v16 v17:Value) {ops:Array Oper} (hops:ops=opsOf Tryz.f54 7) {a0:Act} {Q:Exit→Act→World→Prop} (hsz:a0.tmps.size=31) (h5:a0.eval (.tmp 5)=.pointer (some ⟨b,0,none⟩)) (h4:a0.eval (.tmp 4)=.slice ao n1 cap) (hC:∀ W,Below w0.heap.size w0 W→W.rangeAt b 0 [v0,v1,v2,v3,v4,v5,v6,v7,v8,v9,v10,v11,v12,v13,v14,v15,v16,v17])
  (hCh:∀ W,Below w0.heap.size w0 W→Calls Tryz.prog 57 #[.agg #[v0,v1,v2,v3,v4,v5,v6,v7,v8,v9,v10,v11,v12,v13,v14,v15,v16,v17]] W fun e W'=>∃ a c,e=.returned (.slice a m c)∧W'.ownsRow (W.heap.size+1) 86 18 (.slice a m c) m cs1∧Below W.heap.size W W') (h1:∀ u∈cs1,u.oneCell'=true)
  (hT:∀ W,(Instr.slice 119 (.slice ao n1 cap) (some (.int .i64 1)) none none).run Tryz.prog W=.ok (.slice bo (n1 - 1) (cap - 1)) W) (h2:∀ W,Below w0.heap.size w0 W→SlAt 18 W bo (cap - 1) (n1 - 1) cs2) (hN:m+(n1 - 1)≤100000)
  (hQ:∀ v25 v26 v27 v28 v29 v30 a c w',Below w0.heap.size w0 w'→w'.ownsRow w0.heap.size 86 18 (.slice a (m+(n1 - 1)) c) (m+(n1 - 1)) (cs1++cs2)→Q .normal ([(25,v25),(26,v26),(27,v27),(28,v28),(29,v29),(30,v30),(4,.slice a (m+(n1 - 1)) c)].foldl (fun b (x:Nat × Value)=>b.put (some x.1) x.2) a0) w'):(Code.region 7 ops true).wp Tryz.prog Q a0 w0:=by
 subst hops
 refine wp_region_facts [0,1,2,3,4,5] [6] dead_sp7 pred_sp7 slots_sp7 (fun W=>Below w0.heap.size w0 W) (fun _ w w'=>Below w.heap.size w w') (G_sp7 w0 m n1 cap ao bo cs1 cs2 v0 v1 v2 v3 v4 v5 v6 v7 v8 v9 v10 v11 v12 v13 v14 v15 v16 v17) (by kernel_rfl) hk_sp7 ?_ ?_ ?_ ?_ ?_ ?_
 ·exact⟨qB _ _,(qB _ _).drew⟩
 ·intro j hj w w' hB hR
  exact hB.trans (hR.mono hB.size)
 ·intro i hi j hj hne hnp hdd ρ w w' hB hR hG
  rcases (by simpa using hi:i=0∨i=1∨i=2∨i=3∨i=4∨i=5) with rfl|rfl|rfl|rfl|rfl|rfl
  ·exact hG
  ·obtain⟨ac,cc,e,hs⟩:=hG
   exact⟨ac,cc,e,hs.below hR⟩
  ·exact hG
  ·exact hG
  ·obtain⟨nb,ac,cc,e,hh,hs⟩:=hG
   exact⟨nb,ac,cc,e,(hR.block _ (qA hh)).trans hh,hs.below hR⟩
  ·obtain⟨a,c,e,ho⟩:=hG
   exact⟨a,c,e,owns_agree ho ⟨hR.size,fun q _ hq=>hR.block q hq⟩⟩
 ·intro i hi ρ ρ' w h hG
  rcases (by simpa using hi:i=0∨i=1∨i=2∨i=3∨i=4∨i=5) with rfl|rfl|rfl|rfl|rfl|rfl
  ·have e25:=h 25 (by simp[slots_sp7]);simp only[G_sp7] at hG ⊢;rw[← e25];exact hG
  ·have e26:=h 26 (by simp[slots_sp7]);simp only[G_sp7] at hG ⊢;rw[← e26];exact hG
  ·have e27:=h 27 (by simp[slots_sp7]);simp only[G_sp7] at hG ⊢;rw[← e27];exact hG
  ·have e28:=h 28 (by simp[slots_sp7]);simp only[G_sp7] at hG ⊢;rw[← e28];exact hG
  ·have e29:=h 29 (by simp[slots_sp7]);simp only[G_sp7] at hG ⊢;rw[← e29];exact hG
  ·have e30:=h 30 (by simp[slots_sp7]);simp only[G_sp7] at hG ⊢;rw[← e30];exact hG
 ·intro i hi
  rcases (by simpa using hi:i=0∨i=1∨i=2∨i=3∨i=4∨i=5) with rfl|rfl|rfl|rfl|rfl|rfl
  ·refine opDoes_val 25 (.load 86 (.tmp 5)) (by kernel_rfl) (by rw[hsz];decide) (fun w=>qB _ _) fun ρ w ty pos af hb=>?_
   have h5:=(hb.out 5 (by kernel_rfl)).trans h5
   have hB:=hb.base
   have c:=run_loadVar_mid (P:=Tryz.prog) w b 0 86 [v0,v1,v2,v3,v4,v5,v6,v7,v8,v9,v10,v11,v12,v13,v14,v15,v16,v17] _ (hC w hB) Tryz.underlying86 rfl Tryz.infoSpotG
   exact⟨.agg #[v0,v1,v2,v3,v4,v5,v6,v7,v8,v9,v10,v11,v12,v13,v14,v15,v16,v17],by simp only[execOp,h5,Instr.loadAt,Instr.sureAddr,Sem.run_bind,Sem.run_pure,Result.andThen_ok,c],fun ρ_ e1 _=>e1⟩
  ·refine opDoes_call 26 57 #[(.tmp 25)] #[86] (by kernel_rfl) (by rw[hsz];decide) (fun _ _=>by go_simp) fun ρ w hb=>?_
   have g0:=hb.pre 0 (by simp[pred_sp7])
   simp only[G_sp7] at g0
   have hB:=hb.base
   simp only[List.map_toArray,List.map_cons,List.map_nil,g0]
   refine (hCh w hB).mono ?_
   rintro e w' ⟨ac,cc,rfl,ho,hb1⟩
   obtain⟨ao',cap',e2,hs,_⟩:=SlAt.own ho h1
   cases e2
   exact⟨_,rfl,hb1,fun ρ_ e1 _=>⟨_,_,e1,hs⟩⟩
  ·refine opDoes_val 27 (.move (.tmp 4)) (by kernel_rfl) (by rw[hsz];decide) (fun w=>qB _ _) fun ρ w ty pos af hb=>?_
   have h4:=(hb.out 4 (by kernel_rfl)).trans h4
   exact⟨.slice ao n1 cap,by simp[execOp,go_sem,h4],fun ρ_ e1 _=>e1⟩
  ·refine opDoes_val 28 (.slice 119 (.tmp 27) (some (.const (.int .i64 1))) none none) (by kernel_rfl) (by rw[hsz];decide) (fun w=>qB _ _) fun ρ w ty pos af hb=>?_
   have g2:=hb.pre 2 (by simp[pred_sp7])
   simp only[G_sp7] at g2
   have hc:=hb.const
   exact⟨.slice bo (n1 - 1) (cap - 1),by simp[execOp,hc,g2,hT,go_sem],fun ρ_ e1 _=>e1⟩
  ·refine opDoes_run 29 (.buildSlice 159 2 #[(0,.tmp 26),(1,.tmp 28)]) (by kernel_rfl) (by rw[hsz];decide) fun ρ w ty pos af hb=>?_
   have g1:=hb.pre 1 (by simp[pred_sp7])
   simp only[G_sp7] at g1
   have g3:=hb.pre 3 (by simp[pred_sp7])
   simp only[G_sp7] at g3
   obtain⟨ac,cc,e1,hs⟩:=g1
   refine⟨.slice (some ⟨w.heap.size,0,none⟩) 2 2,w.alloc (.cells #[.slice ac m cc,.slice bo (n1 - 1) (cap - 1)] 119),by simp[execOp,e1,g3,go_sem],(Below.refl _ _).alloc qL _,fun ρ_ e2 _=>⟨_,ac,cc,e2,heap_newL w _,hs.below ((Below.refl _ _).alloc qL _)⟩⟩
  ·refine opDoes_call 30 56 #[(.tmp 29)] #[159] (by kernel_rfl) (by rw[hsz];decide) (fun _ _=>by go_simp) fun ρ w hb=>?_
   have g4:=hb.pre 4 (by simp[pred_sp7])
   simp only[G_sp7] at g4
   have hB:=hb.base
   obtain⟨nb,ac,cc,e4,hh,hs⟩:=g4
   simp only[List.map_toArray,List.map_cons,List.map_nil,e4]
   refine (concat_spots nb m (n1 - 1) cc (cap - 1) ac bo cs1 cs2 w hh hs (h2 w hB) hN).mono ?_
   rintro e w' ⟨a,c,rfl,ho,hb1⟩
   exact⟨_,rfl,hb1,fun ρ_ e1 _=>⟨a,c,e1,owns_mono ho hB.size⟩⟩
 ·refine ends_val [25,26,27,28,29,30] (by kernel_rfl) 4 (.assign (.tmp 30)) (by kernel_rfl) fun ρ w hc hout hB hG=>?_
  have g0:=hG 0 (by simp) (by kernel_rfl)
  simp only[G_sp7] at g0
  have g1:=hG 1 (by simp) (by kernel_rfl)
  simp only[G_sp7] at g1
  have g2:=hG 2 (by simp) (by kernel_rfl)
  simp only[G_sp7] at g2
  have g3:=hG 3 (by simp) (by kernel_rfl)
  simp only[G_sp7] at g3
  have g4:=hG 4 (by simp) (by kernel_rfl)
  simp only[G_sp7] at g4
  have g5:=hG 5 (by simp) (by kernel_rfl)
  simp only[G_sp7] at g5
  obtain⟨a,c,e5,ho⟩:=g5
  refine⟨.slice a (m+(n1 - 1)) c,fun ty pos af=>by simp[execOp,e5,go_sem],?_⟩
  simp only[List.foldl_cons,List.foldl_nil]
  exact hQ _ _ _ _ _ _ a c w hB ho
end
section
open Go.RowKit
attribute [local go_sem] Oper.semAt_some
theorem wpListIn_load_mid {F:Fence} {n:Nat} {P:Program} {ops:Array Oper} {rest:List Oper} {op:Oper} {a:Act} {w:World} {Q:Exit→Act→World→Prop} (hgd:op.guard=none) (ty:TypeId) (x:Operand) (ho:op.op=.load ty x)
  (b o:Nat) (hx:a.eval x=.pointer (some ⟨b,o,none⟩)) (cs:List Value) (d:TypeDesc) (hc:w.rangeAt b o cs)
  (hu:P.underlying ty=some d) (hd:d.isRow=true) (hi:(P.info? ty).map (·.size)=some cs.length)
  (h:wpListIn F n P ops Q rest (a.put op.dst (.agg cs.toArray)) w):wpListIn F n P ops Q (op::rest) a w:=by
 refine wpListIn_plain hgd fun K hK'=>?_
 unfold Oper.wpIn
 refine⟨?_,?_⟩
 ·simp[Oper.about,ho]
 ·rw[Oper.semAt_plain F _ _ (by rw[ho];intro c hc';cases hc')]
  unfold execOp
  simp only[ho,hx,Instr.loadAt,Instr.sureAddr,Sem.run_bind,Sem.run_pure,Result.andThen_ok,run_loadVar_mid w b o ty cs d hc hu hd hi]
  exact hK' _ _ h
theorem sp_rest {l n b m n1 cap:Nat} {ao bo:Option Addr} {cs1 cs2:List Value} {v0 v1 v2 v3 v4 v5 v6 v7 v8 v9 v10 v11 v12 v13 v14 v15 v16 v17 E:Value} {Y:World} {A B:World→Prop}
  (cY:Y.rangeAt b 0 [v0,v1,v2,v3,v4,v5,v6,v7,v8,v9,v10,v11,v12,v13,v14,v15,v16,v17])
  (hY:YieldAt Fence.wide n Tryz.prog l #[.agg #[v0,v1,v2,v3,v4,v5,v6,v7,v8,v9,v10,v11,v12,v13,v14,v15,v16,v17],E] Y fun e W'=>(e=.returned (.bool true)∧A W')∨(e=.returned (.bool false)∧B W'))
  (hC:∀ V,A V→∀ W,Below V.heap.size V W→W.rangeAt b 0 [v0,v1,v2,v3,v4,v5,v6,v7,v8,v9,v10,v11,v12,v13,v14,v15,v16,v17])
  (hCh:∀ V,A V→∀ W,Below V.heap.size V W→Calls Tryz.prog 57 #[.agg #[v0,v1,v2,v3,v4,v5,v6,v7,v8,v9,v10,v11,v12,v13,v14,v15,v16,v17]] W fun e W'=>∃ a c,e=.returned (.slice a m c)∧W'.ownsRow (W.heap.size+1) 86 18 (.slice a m c) m cs1∧Below W.heap.size W W') (h1:∀ u∈cs1,u.oneCell'=true)
  (hT:∀ W,(Instr.slice 119 (.slice ao n1 cap) (some (.int .i64 1)) none none).run Tryz.prog W=.ok (.slice bo (n1 - 1) (cap - 1)) W) (h2:∀ V,A V→∀ W,Below V.heap.size V W→SlAt 18 W bo (cap - 1) (n1 - 1) cs2) (hN:m+(n1 - 1)≤100000)
  (Q0:Exit→Act→World→Prop) (hret:∀ (x:Act) (W':World),B W'→x.defers=[]→Q0 .ret x W')
  (u1 u2 u3 u7 u8 u9 u10 u11 u12 u13 u14 u15 u16 u17 u18 u19 u20 u21 u22 u23 u24 u25 u26 u27 u28 u29 u30:Value)
  (hnext:∀ V,A V→∀ (x20 x21 x22 x23 x24 x25 x26 x27 x28 x29 x30:Value) (a:Option Addr) (c:Nat) (w':World),Below V.heap.size V w'→w'.ownsRow V.heap.size 86 18 (.slice a (m+(n1 - 1)) c) (m+(n1 - 1)) (cs1++cs2)→Q0 .normal ⟨#[.func (.yield l) #[] #[],u1,u2,u3,.slice a (m+(n1 - 1)) c,.pointer (some ⟨b,0,none⟩),E,u7,u8,u9,u10,u11,u12,u13,u14,u15,u16,u17,u18,u19,x20,x21,x22,x23,x24,x25,x26,x27,x28,x29,x30],[]⟩ w') :
  (atC Tryz.f54 [1,1,2,2,1,2,1,1]).wp Tryz.prog Q0 ⟨#[.func (.yield l) #[] #[],u1,u2,u3,.slice ao n1 cap,.pointer (some ⟨b,0,none⟩),E,u7,u8,u9,u10,u11,u12,u13,u14,u15,u16,u17,u18,u19,u20,u21,u22,u23,u24,u25,u26,u27,u28,u29,u30],[]⟩ Y:=by
 conv=>arg 2;whnf
 replace hC:=hidT hC
 replace hCh:=hidT hCh
 replace h1:=hidT h1
 replace hT:=hidT hT
 replace h2:=hidT h2
 replace hN:=hidT hN
 replace hret:=hidT hret
 replace hnext:=hidT hnext
 obtain⟨fn,tmps,assign,body,hy,hR⟩:=hY
 replace cY:=hidT cY
 refine (wpIn_wide (n:=n+1)).1 ?_
 gi_wp2_with (refine wpListIn_load_mid rfl 86 (.tmp 5) rfl b 0 rfl [v0,v1,v2,v3,v4,v5,v6,v7,v8,v9,v10,v11,v12,v13,v14,v15,v16,v17] _ cY.out Tryz.underlying86 rfl Tryz.infoSpotG ?_)
 refine hR.mono ?_
 rintro e V (⟨rfl,hA⟩|⟨rfl,hB⟩)
 ·replace hA:=hidT hA
  clear cY
  gi_wp2
  refine wpIn_wide.2 ?_
  refine sp7 V b m n1 cap ao bo cs1 cs2 v0 v1 v2 v3 v4 v5 v6 v7 v8 v9 v10 v11 v12 v13 v14 v15 v16 v17 (by kernel_rfl) rfl rfl rfl (hC.out V hA.out) (hCh.out V hA.out) h1.out hT.out (h2.out V hA.out) hN.out ?_
  intro v25 v26 v27 v28 v29 v30 a c w' hb ho
  simp only[List.foldl_cons,List.foldl_nil,Act.put,qS,qZ,qC]
  exact hnext.out V hA.out _ _ _ _ _ _ _ _ _ _ _ a c w' hb ho
 ·replace hB:=hidT hB
  gi_wp2
  exact hret.out _ V hB.out rfl
end
end Go.Proofs.YtbghhklbfnplbaaGreat

import Derived.Test.YtbghhklbfnplbaaGreatC00
import Derived.Test.YtbghhklbfnplbaaGreatC28
set_option maxRecDepth 100000
namespace Go.Proofs.YtbghhklbfnplbaaGreat
section
open Go.RowKit
def pred_r15:Nat→List Nat|1=>[0]|2=>[1]|4=>[3]|5=>[4]|6=>[2,5]|_=>[]
def slots_r15:Nat→List Tmp|0=>[74]|1=>[75]|2=>[76]|3=>[77]|4=>[78]|5=>[79]|6=>[80,76,79]|7=>[16]|_=>[]
def dead_r15:Nat→Nat→Bool|_,_=>false
def G_r15 (w0:World) (pb:Nat) (ks:List ByteArray) (ds:List Int) (ak:Option Addr) (ck:Nat) (ad:Option Addr) (cd:Nat):Nat→(Operand→Value)→World→Prop
 | 0,ρ,_=>ρ (.tmp 74)=.pointer (some ⟨pb,2,none⟩)
 | 1,ρ,_=>ρ (.tmp 75)=.slice ak ks.length ck
 | 2,ρ,w=>∃ a c,ρ (.tmp 76)=.slice a (ks.length) c∧w.ownsRow w0.heap.size 9 1 (ρ (.tmp 76)) (ks.length) (strsC ks)
 | 3,ρ,_=>ρ (.tmp 77)=.pointer (some ⟨pb,3,none⟩)
 | 4,ρ,_=>ρ (.tmp 78)=.slice ad ds.length cd
 | 5,ρ,w=>∃ a c,ρ (.tmp 79)=.slice a (ds.length) c∧w.ownsRow w0.heap.size 3 1 (ρ (.tmp 79)) (ds.length) (intsC ds)
 | 6,ρ,_=>ρ (.tmp 80)=.agg (brA (ρ (.tmp 76)) (ρ (.tmp 79)))
 | 7,ρ,w=>∃ qb,ρ (.tmp 16)=.pointer (some ⟨qb,0,none⟩)∧w0.heap.size≤qb∧∃ cur:Array Value,cur.size=14∧w.heap[qb]?=some (.cells cur 59 (0,0))
 | _,_,_=>True
theorem hk_r15:hkB (opsOf Tryz.f52 15) [0,1,2,3,4,5,6,7] [8] dead_r15 pred_r15 slots_r15=true:=by kernel_rfl
theorem r15 (w0:World) (pb:Nat) (ks:List ByteArray) (ds:List Int) (ak:Option Addr) (ck:Nat) (ad:Option Addr) (cd:Nat) {ops:Array Oper} (hops:ops=opsOf Tryz.f52 15) {a0:Act} {Q:Exit→Act→World→Prop} (hsz:a0.tmps.size=175) (h11:a0.eval (.tmp 11)=.pointer (some ⟨pb,0,none⟩)) (hkn:ks.length≤1000) (hdn:ds.length≤1000) (hC2:∀ W,Below w0.heap.size w0 W→W.cell? ⟨pb,2,none⟩=some (.slice ak ks.length ck)) (hC3:∀ W,Below w0.heap.size w0 W→W.cell? ⟨pb,3,none⟩=some (.slice ad ds.length cd)) (hKS:∀ W,Below w0.heap.size w0 W→SlAt 1 W ak ck ks.length (strsC ks)) (hDS:∀ W,Below w0.heap.size w0 W→SlAt 1 W ad cd ds.length (intsC ds))
  (hQ:∀ qb a6 c6 a7 c7 w',Qb w0.heap.size w0 w' qb ks ds (.slice a6 ks.length c6) (.slice a7 ds.length c7)→w'.ownsRow w0.heap.size 3 1 (.slice a7 ds.length c7) ds.length (intsC ds)→Q .normal ([(74,.pointer (some ⟨pb,2,none⟩)),(75,.slice ak ks.length ck),(76,.slice a6 ks.length c6),(77,.pointer (some ⟨pb,3,none⟩)),(78,.slice ad ds.length cd),(79,.slice a7 ds.length c7),(80,.agg (brA (.slice a6 ks.length c6) (.slice a7 ds.length c7))),(16,.pointer (some ⟨qb,0,none⟩))].foldl (fun b (x:Nat × Value)=>b.put (some x.1) x.2) a0) w'):(Code.region 15 ops true).wp Tryz.prog Q a0 w0:=by
 subst hops
 refine wp_region_facts [0,1,2,3,4,5,6,7] [8] dead_r15 pred_r15 slots_r15 (fun W=>Below w0.heap.size w0 W) (fun _ w w'=>Below w.heap.size w w') (G_r15 w0 pb ks ds ak ck ad cd) (by kernel_rfl) hk_r15 ?_ ?_ ?_ ?_ ?_ ?_
 ·exact⟨qB _ _,(qB _ _).drew⟩
 ·intro j hj w w' hB hR
  exact hB.trans (hR.mono hB.size)
 ·intro i hi j hj hne hnp hdd ρ w w' hB hR hG
  rcases (by simpa using hi:i=0∨i=1∨i=2∨i=3∨i=4∨i=5∨i=6∨i=7) with rfl|rfl|rfl|rfl|rfl|rfl|rfl|rfl
  ·exact hG
  ·exact hG
  ·obtain⟨a,c,e,ho⟩:=hG
   exact⟨a,c,e,own_belowA ho hR⟩
  ·exact hG
  ·exact hG
  ·obtain⟨a,c,e,ho⟩:=hG
   exact⟨a,c,e,own_belowA ho hR⟩
  ·exact hG
  ·obtain⟨qb,e,hq,cur,hs,hcur⟩:=hG
   exact⟨qb,e,hq,cur,hs,(hR.block _ (qA hcur)).trans hcur⟩
 ·intro i hi ρ ρ' w h hG
  rcases (by simpa using hi:i=0∨i=1∨i=2∨i=3∨i=4∨i=5∨i=6∨i=7) with rfl|rfl|rfl|rfl|rfl|rfl|rfl|rfl
  ·have e74:=h 74 (by simp[slots_r15]);simp only[G_r15] at hG ⊢;rw[← e74];exact hG
  ·have e75:=h 75 (by simp[slots_r15]);simp only[G_r15] at hG ⊢;rw[← e75];exact hG
  ·have e76:=h 76 (by simp[slots_r15]);simp only[G_r15] at hG ⊢;rw[← e76];exact hG
  ·have e77:=h 77 (by simp[slots_r15]);simp only[G_r15] at hG ⊢;rw[← e77];exact hG
  ·have e78:=h 78 (by simp[slots_r15]);simp only[G_r15] at hG ⊢;rw[← e78];exact hG
  ·have e79:=h 79 (by simp[slots_r15]);simp only[G_r15] at hG ⊢;rw[← e79];exact hG
  ·have e80:=h 80 (by simp[slots_r15]);have e76:=h 76 (by simp[slots_r15]);have e79:=h 79 (by simp[slots_r15]);simp only[G_r15] at hG ⊢;rw[← e80,← e76,← e79];exact hG
  ·have e16:=h 16 (by simp[slots_r15]);simp only[G_r15] at hG ⊢;rw[← e16];exact hG
 ·intro i hi
  rcases (by simpa using hi:i=0∨i=1∨i=2∨i=3∨i=4∨i=5∨i=6∨i=7) with rfl|rfl|rfl|rfl|rfl|rfl|rfl|rfl
  ·refine opDoes_val 74 (.fieldAddr 59 (.tmp 11) 2) (by kernel_rfl) (by rw[hsz];decide) (fun w=>qB _ _) fun ρ w ty pos af hb=>?_
   have h11:=(hb.out 11 (by kernel_rfl)).trans h11
   exact⟨.pointer (some ⟨pb,2,none⟩),by simp[execOp,go_sem,h11],fun ρ_ e1 _=>e1⟩
  ·refine opDoes_val 75 (.load 31 (.tmp 74)) (by kernel_rfl) (by rw[hsz];decide) (fun w=>qB _ _) fun ρ w ty pos af hb=>?_
   have g0:=hb.pre 0 (by simp[pred_r15])
   simp only[G_r15] at g0
   have hB:=hb.base
   have hcell:=hC2 w hB
   exact⟨.slice ak ks.length ck,by simp[execOp,g0,hcell,go_sem],fun ρ_ e1 _=>e1⟩
  ·refine opDoes_append 76 (.const (.slice none 0 0)) (.tmp 75) 31 (by kernel_rfl) (by rw[hsz];decide) fun ρ w ty hb=>?_
   have g1:=hb.pre 1 (by simp[pred_r15])
   simp only[G_r15] at g1
   have hc:=hb.const
   have hB:=hb.base
   obtain⟨a,c,w',hr,ho,hb2⟩:=own_app0 (B0:=w0.heap.size) (hKS w hB) Tryz.underlying31 Tryz.infoStrA rfl hB.size (by omega) (by omega) ty
   exact⟨_,w',by rw[hc,g1];exact hr,hb2,fun ρ_ e1 _=>⟨a,c,e1,by rw[e1];exact ho⟩⟩
  ·refine opDoes_val 77 (.fieldAddr 59 (.tmp 11) 3) (by kernel_rfl) (by rw[hsz];decide) (fun w=>qB _ _) fun ρ w ty pos af hb=>?_
   have h11:=(hb.out 11 (by kernel_rfl)).trans h11
   exact⟨.pointer (some ⟨pb,3,none⟩),by simp[execOp,go_sem,h11],fun ρ_ e1 _=>e1⟩
  ·refine opDoes_val 78 (.load 32 (.tmp 77)) (by kernel_rfl) (by rw[hsz];decide) (fun w=>qB _ _) fun ρ w ty pos af hb=>?_
   have g3:=hb.pre 3 (by simp[pred_r15])
   simp only[G_r15] at g3
   have hB:=hb.base
   have hcell:=hC3 w hB
   exact⟨.slice ad ds.length cd,by simp[execOp,g3,hcell,go_sem],fun ρ_ e1 _=>e1⟩
  ·refine opDoes_append 79 (.const (.slice none 0 0)) (.tmp 78) 32 (by kernel_rfl) (by rw[hsz];decide) fun ρ w ty hb=>?_
   have g4:=hb.pre 4 (by simp[pred_r15])
   simp only[G_r15] at g4
   have hc:=hb.const
   have hB:=hb.base
   obtain⟨a,c,w',hr,ho,hb2⟩:=own_app0 (B0:=w0.heap.size) (hDS w hB) Tryz.underlying32 Tryz.infoIntB rfl hB.size (by omega) (by omega) ty
   exact⟨_,w',by rw[hc,g4];exact hr,hb2,fun ρ_ e1 _=>⟨a,c,e1,by rw[e1];exact ho⟩⟩
  ·refine opDoes_val 80 (.build 59 #[(0,.const (.int .i64 2)),(2,.tmp 76),(3,.tmp 79)]) (by kernel_rfl) (by rw[hsz];decide) (fun w=>qB _ _) fun ρ w ty pos af hb=>?_
   have g2:=hb.pre 2 (by simp[pred_r15])
   simp only[G_r15] at g2
   have g5:=hb.pre 5 (by simp[pred_r15])
   simp only[G_r15] at g5
   have hc:=hb.const
   obtain⟨a2,c2,e2,-⟩:=g2
   obtain⟨a5,c5,e5,-⟩:=g5
   exact⟨.agg (brA (ρ (.tmp 76)) (ρ (.tmp 79))),by simp[execOp,hc,e2,e5,go_sem,brA],fun ρ_ e1 e2=>by show ρ_ (.tmp 80)=.agg (brA (ρ_ (.tmp 76)) (ρ_ (.tmp 79)));rw[e1,e2 76 (by decide),e2 79 (by decide)]⟩
  ·refine opDoes_run 16 (.alloc 59) (by kernel_rfl) (by rw[hsz];decide) fun ρ w ty pos af hb=>?_
   have hB:=hb.base
   refine⟨_,_,by simp[execOp,go_sem];rfl,(Below.refl _ _).alloc qL _,fun ρ_ e1 _=>⟨_,e1,hB.size,_,?_,heap_newL w _⟩⟩
   rfl
 ·refine ends_store [74,75,76,77,78,79,80,16] (by kernel_rfl) 59 (.tmp 16) (.tmp 80) (by kernel_rfl) fun ρ w hc hout hB hG=>?_
  have g0:=hG 0 (by simp) (by kernel_rfl)
  simp only[G_r15] at g0
  have g1:=hG 1 (by simp) (by kernel_rfl)
  simp only[G_r15] at g1
  have g2:=hG 2 (by simp) (by kernel_rfl)
  simp only[G_r15] at g2
  have g3:=hG 3 (by simp) (by kernel_rfl)
  simp only[G_r15] at g3
  have g4:=hG 4 (by simp) (by kernel_rfl)
  simp only[G_r15] at g4
  have g5:=hG 5 (by simp) (by kernel_rfl)
  simp only[G_r15] at g5
  have g6:=hG 6 (by simp) (by kernel_rfl)
  simp only[G_r15] at g6
  have g7:=hG 7 (by simp) (by kernel_rfl)
  simp only[G_r15] at g7
  obtain⟨a2,c2,e2,ho2⟩:=g2
  obtain⟨a5,c5,e5,ho5⟩:=g5
  obtain⟨qb,e7,hq,cur,hs,hcur⟩:=g7
  rw[e2,e5] at g6
  rw[e2] at ho2
  rw[e5] at ho5
  have hst:=run_storeVar_mid (P:=Tryz.prog) w qb 0 59 (brA (.slice a2 ks.length c2) (.slice a5 ds.length c5)) (there_objA hcur (by rw[hs];simp[brA])) Tryz.sizePg (by simp[brA,Value.oneCell'])
  refine⟨w.setCells qb 0 (brA (.slice a2 ks.length c2) (.slice a5 ds.length c5)).toList,by unfold execOp;simp only[e7,g6,Instr.storeAt,Instr.sureAddr,Sem.run_bind,Sem.run_pure,Result.andThen_ok,hst],?_⟩
  have hob:=heap_whole (vs:=(brA (.slice a2 ks.length c2) (.slice a5 ds.length c5)).toList) hcur (by rw[hs];simp[brA])
  have hgr:=grown_cellsB (g:=qb) (brA (.slice a2 ks.length c2) (.slice a5 ds.length c5)).toList 0 w
  have hkp:∀ (k:Nat) (cells:Array Value) (E:TypeId) (fr:Nat × Nat),E≠59→w.heap[k]?=some (.cells cells E fr)→(w.setCells qb 0 (brA (.slice a2 ks.length c2) (.slice a5 ds.length c5)).toList).heap[k]?=w.heap[k]?:=fun k cells E fr hne e=>hgr.block k (qA e) (fun e2=>by cases e2;rw[hcur] at e;simp only[qQ,qX] at e;exact hne e.2.1.symm)
  simp only[List.foldl_cons,List.foldl_nil,g0,g1,e2,g3,g4,e5,g6,e7]
  refine hQ qb a2 c2 a5 c5 _ ⟨by simpa using hob,hq,(NewT.own ho2 (strsC_one _) qL).keep fun k cells fr _ e=>hkp k _ _ _ (by decide) e,(NewT.own ho5 (intsC_one _) qL).keep fun k cells fr _ e=>hkp k _ _ _ (by decide) e,hB.grown hgr hB.size (fun k e=>by cases e;exact hq)⟩ ?_
  exact⟨ho5.1,ho5.2.imp id fun ⟨b,cap,c0,h1,h2,h3,h4⟩=>⟨b,cap,c0,h1,h2,(hkp b _ _ _ (by decide) h3).trans h3,h4⟩⟩
end
section
open Go.RowKit
def pred_r16:Nat→List Nat|1=>[0]|4=>[1,2]|_=>[]
def slots_r16:Nat→List Tmp|0=>[81]|1=>[82]|2=>[83]|3=>[84]|4=>[85]|_=>[]
def dead_r16:Nat→Nat→Bool|_,_=>false
def G_r16 (qb:Nat) (g:Nat) (c7:Nat) (k:Nat) (ds:List Int) (kid:Int):Nat→(Operand→Value)→World→Prop
 | 0,ρ,_=>ρ (.tmp 81)=.pointer (some ⟨qb,3,none⟩)
 | 1,ρ,_=>ρ (.tmp 82)=.slice (some ⟨g,0,none⟩) ds.length c7
 | 2,ρ,_=>ρ (.tmp 83)=.int .i64 (k:Int)
 | 3,ρ,_=>ρ (.tmp 84)=.int .i64 kid
 | 4,ρ,_=>ρ (.tmp 85)=.pointer (some ⟨g,k,none⟩)
 | _,_,_=>True
theorem hk_r16:hkB (opsOf Tryz.f52 16) [0,1,2,3,4] [5] dead_r16 pred_r16 slots_r16=true:=by kernel_rfl
theorem r16 (w0 wz:World) (C qb g c7 k:Nat) (ks:List ByteArray) (ds:List Int) (vk:Value) (kid:Int) {ops:Array Oper} (hops:ops=opsOf Tryz.f52 16) {a0:Act} {Q:Exit→Act→World→Prop} (hsz:a0.tmps.size=175) (h16:a0.eval (.tmp 16)=.pointer (some ⟨qb,0,none⟩)) (h12:a0.eval (.tmp 12)=.int .i64 (k:Int)) (h13:a0.eval (.tmp 13)=.int .i64 kid) (hq:Qb C wz w0 qb ks ds vk (.slice (some ⟨g,0,none⟩) ds.length c7)) (hC:C≤wz.heap.size) (ho:w0.ownsRow C 3 1 (.slice (some ⟨g,0,none⟩) ds.length c7) ds.length (intsC ds)) (hk:k<ds.length)
  (hQ:∀ w',Qb C wz w' qb ks (ds.set k kid) vk (.slice (some ⟨g,0,none⟩) ds.length c7)→Ks (fun _=>False) w0 w0→w0.grownBy w' (some g)→Q .normal ([(81,.pointer (some ⟨qb,3,none⟩)),(82,.slice (some ⟨g,0,none⟩) ds.length c7),(83,.int .i64 (k:Int)),(84,.int .i64 kid),(85,.pointer (some ⟨g,k,none⟩))].foldl (fun b (x:Nat × Value)=>b.put (some x.1) x.2) a0) w'):(Code.region 16 ops false).wp Tryz.prog Q a0 w0:=by
 subst hops
 have hC3:∀ W,Below w0.heap.size w0 W→W.cell? ⟨qb,3,none⟩=some (.slice (some ⟨g,0,none⟩) ds.length c7):=fun W hW=>(hW.cell (p:=⟨qb,3,none⟩) (qA hq.obj)).trans (cell_rowL hq.obj 3)
 obtain⟨a0',c0',e0',hsl,_⟩:=hq.kids
 simp only[qR,true_and] at e0'
 obtain⟨rfl,rfl⟩:=e0'
 obtain⟨b1,o1,e1',_,hix,_⟩:=hsl.get (by omega) Tryz.underlying32 Tryz.szIntB k hk
 simp only[qQ,Addr.mk.injEq,and_true] at e1'
 obtain⟨rfl,rfl⟩:=e1'
 simp only[Nat.mul_one,Nat.zero_add] at hix
 refine wp_region_facts [0,1,2,3,4] [5] dead_r16 pred_r16 slots_r16 (fun W=>Below w0.heap.size w0 W) (fun _ w w'=>Below w.heap.size w w') (G_r16 qb g c7 k ds kid) (by kernel_rfl) hk_r16 ?_ ?_ ?_ ?_ ?_ ?_
 ·exact⟨qB _ _,(qB _ _).drew⟩
 ·intro j hj w w' hB hR
  exact hB.trans (hR.mono hB.size)
 ·intro i hi j hj hne hnp hdd ρ w w' hB hR hG
  rcases (by simpa using hi:i=0∨i=1∨i=2∨i=3∨i=4) with rfl|rfl|rfl|rfl|rfl
  ·exact hG
  ·exact hG
  ·exact hG
  ·exact hG
  ·exact hG
 ·intro i hi ρ ρ' w h hG
  rcases (by simpa using hi:i=0∨i=1∨i=2∨i=3∨i=4) with rfl|rfl|rfl|rfl|rfl
  ·have e81:=h 81 (by simp[slots_r16]);simp only[G_r16] at hG ⊢;rw[← e81];exact hG
  ·have e82:=h 82 (by simp[slots_r16]);simp only[G_r16] at hG ⊢;rw[← e82];exact hG
  ·have e83:=h 83 (by simp[slots_r16]);simp only[G_r16] at hG ⊢;rw[← e83];exact hG
  ·have e84:=h 84 (by simp[slots_r16]);simp only[G_r16] at hG ⊢;rw[← e84];exact hG
  ·have e85:=h 85 (by simp[slots_r16]);simp only[G_r16] at hG ⊢;rw[← e85];exact hG
 ·intro i hi
  rcases (by simpa using hi:i=0∨i=1∨i=2∨i=3∨i=4) with rfl|rfl|rfl|rfl|rfl
  ·refine opDoes_val 81 (.fieldAddr 59 (.tmp 16) 3) (by kernel_rfl) (by rw[hsz];decide) (fun w=>qB _ _) fun ρ w ty pos af hb=>?_
   have h16:=(hb.out 16 (by kernel_rfl)).trans h16
   exact⟨.pointer (some ⟨qb,3,none⟩),by simp[execOp,go_sem,h16],fun ρ_ e1 _=>e1⟩
  ·refine opDoes_val 82 (.load 32 (.tmp 81)) (by kernel_rfl) (by rw[hsz];decide) (fun w=>qB _ _) fun ρ w ty pos af hb=>?_
   have g0:=hb.pre 0 (by simp[pred_r16])
   simp only[G_r16] at g0
   have hB:=hb.base
   have hcell:=hC3 w hB
   exact⟨.slice (some ⟨g,0,none⟩) ds.length c7,by simp[execOp,g0,hcell,go_sem],fun ρ_ e1 _=>e1⟩
  ·refine opDoes_val 83 (.move (.tmp 12)) (by kernel_rfl) (by rw[hsz];decide) (fun w=>qB _ _) fun ρ w ty pos af hb=>?_
   have h12:=(hb.out 12 (by kernel_rfl)).trans h12
   exact⟨.int .i64 (k:Int),by simp[execOp,go_sem,h12],fun ρ_ e1 _=>e1⟩
  ·refine opDoes_val 84 (.move (.tmp 13)) (by kernel_rfl) (by rw[hsz];decide) (fun w=>qB _ _) fun ρ w ty pos af hb=>?_
   have h13:=(hb.out 13 (by kernel_rfl)).trans h13
   exact⟨.int .i64 kid,by simp[execOp,go_sem,h13],fun ρ_ e1 _=>e1⟩
  ·refine opDoes_val 85 (.indexAddr 32 (.tmp 82) (.tmp 83)) (by kernel_rfl) (by rw[hsz];decide) (fun w=>qB _ _) fun ρ w ty pos af hb=>?_
   have g1:=hb.pre 1 (by simp[pred_r16])
   simp only[G_r16] at g1
   have g2:=hb.pre 2 (by simp[pred_r16])
   simp only[G_r16] at g2
   exact⟨.pointer (some ⟨g,k,none⟩),by simp[execOp,g1,g2,hix,go_sem],fun ρ_ e1 _=>e1⟩
 ·refine ends_store [81,82,83,84,85] (by kernel_rfl) 3 (.tmp 85) (.tmp 84) (by kernel_rfl) fun ρ w hc hout hB hG=>?_
  have g0:=hG 0 (by simp) (by kernel_rfl)
  simp only[G_r16] at g0
  have g1:=hG 1 (by simp) (by kernel_rfl)
  simp only[G_r16] at g1
  have g2:=hG 2 (by simp) (by kernel_rfl)
  simp only[G_r16] at g2
  have g3:=hG 3 (by simp) (by kernel_rfl)
  simp only[G_r16] at g3
  have g4:=hG 4 (by simp) (by kernel_rfl)
  simp only[G_r16] at g4
  have hgC:C≤g:=by
   rcases ho.2 with ⟨e,_⟩|⟨g',_,_,e,h5,_⟩
   ·cases e
   ·simp only[qR,qQ,Addr.mk.injEq,and_true] at e
    obtain⟨rfl,_⟩:=e
    exact h5
  have how:=own_belowA ho hB
  have hcg:w.cell? ⟨g,k,none⟩=(intsC ds)[k]?:=World.ownsRow.cellAt how k (by simpa using hk)
  have hfz:w.frozen? ⟨g,k,none⟩=false:=World.ownsRow.frozenAt how _
  have hcs:(intsC ds)[k]?=some (.int .i64 ds[k]):=by simp[intsC,hk]
  rw[hcs] at hcg
  refine⟨w.setCell ⟨g,k,none⟩ (.int .i64 kid),by simp[execOp,g3,g4,hcg,hfz,go_sem],?_⟩
  simp only[List.foldl_cons,List.foldl_nil,g0,g1,g2,g3,g4]
  have hst:=own_set1 (k:=k) (u:=.int .i64 kid) how rfl
  have hgt:∃ cur fr,w.heap[g]?=some (.cells cur 3 fr):=by
   rcases how.2 with ⟨e,_⟩|⟨g',cp,cur,e,_,h6,_⟩
   ·cases e
   ·simp only[qR,qQ,Addr.mk.injEq,and_true] at e
    obtain⟨rfl,_⟩:=e
    exact⟨_,_,h6⟩
  have hqw:=hq.below hB (qN hC hq.bel.size)
  have hkp:∀ (j:Nat) (cells:Array Value) (E:TypeId) (fr:Nat × Nat),E≠3→w.heap[j]?=some (.cells cells E fr)→(w.setCell ⟨g,k,none⟩ (.int .i64 kid)).heap[j]?=w.heap[j]?:=fun j cells E fr hne e=>qD _ _ _ _ (fun e2=>by have e3:j=g:=e2;subst e3;obtain⟨_,_,h6⟩:=hgt;rw[h6] at e;simp only[qQ,qX] at e;exact hne e.2.1.symm)
  have hset:intsC (ds.set k kid)=(intsC ds).set k (.int .i64 kid):=by simp[intsC,List.map_set]
  refine hQ _ ⟨(hkp qb _ _ _ (by decide) hqw.obj).trans hqw.obj,hqw.new,hqw.keys.keep fun j cells fr _ e=>hkp j _ _ _ (by decide) e,?_,?_⟩ (Ks.refl _ _) ⟨hB.os,hB.tape,hB.output,by simpa using hB.size,fun j hj hne=>(Below.heap_setCell _ _ _ _ (show j≠g by simpa using hne)).trans (hB.block j hj)⟩
  ·rw[hset,List.length_set]
   exact NewT.own hst (by rw[← hset];exact intsC_one _) qL
  ·exact hqw.bel.trans ⟨rfl,rfl,rfl,by simp,fun j hj=>qD _ _ _ _ (show j≠g by omega)⟩
end
section
open Go.RowKit
def pred_r18:Nat→List Nat|1=>[0]|3=>[2]|4=>[1,3]|5=>[4]|7=>[6]|8=>[5,7]|10=>[9]|12=>[11]|13=>[10,12]|14=>[8,13]|_=>[]
def slots_r18:Nat→List Tmp|0=>[88]|1=>[89]|2=>[90]|3=>[91]|4=>[92]|5=>[93]|6=>[94]|7=>[95]|8=>[96]|9=>[97]|10=>[98]|11=>[99]|12=>[100]|13=>[101]|14=>[102]|15=>[103]|_=>[]
def dead_r18:Nat→Nat→Bool|5,8=>true|5,14=>true|7,8=>true|7,14=>true|8,14=>true|_,_=>false
def G_r18 (w0:World) (qb:Nat) (k:Nat) (ks:List ByteArray) (ar:Option Addr) (cr:Nat) (key:ByteArray) (bo:Option Addr):Nat→(Operand→Value)→World→Prop
 | 0,ρ,_=>ρ (.tmp 88)=.pointer (some ⟨qb,2,none⟩)
 | 1,ρ,_=>ρ (.tmp 89)=.slice ar ks.length cr
 | 2,ρ,_=>ρ (.tmp 90)=.int .i64 (k:Int)
 | 3,ρ,_=>ρ (.tmp 91)=.int .i64 ((k:Int)+1)
 | 4,ρ,_=>ρ (.tmp 92)=.slice ar (k+1) cr
 | 5,ρ,w=>∃ a c,ρ (.tmp 93)=.slice a (k+1) c∧w.ownsRow w0.heap.size 9 1 (ρ (.tmp 93)) (k+1) (strsC (ks.take (k+1)))
 | 6,ρ,_=>ρ (.tmp 94)=.string key
 | 7,ρ,w=>∃ sb,ρ (.tmp 95)=.slice (some ⟨sb,0,none⟩) 1 1∧w0.heap.size≤sb∧w.heap[sb]?=some (.cells #[.string key] 9 (0,0))
 | 8,ρ,w=>∃ a c,ρ (.tmp 96)=.slice a (k+1+1) c∧w.ownsRow w0.heap.size 9 1 (ρ (.tmp 96)) (k+1+1) (strsC (ks.take (k+1))++[.string key])
 | 9,ρ,_=>ρ (.tmp 97)=.pointer (some ⟨qb,2,none⟩)
 | 10,ρ,_=>ρ (.tmp 98)=.slice ar ks.length cr
 | 11,ρ,_=>ρ (.tmp 99)=.int .i64 (k:Int)
 | 12,ρ,_=>ρ (.tmp 100)=.int .i64 ((k:Int)+1)
 | 13,ρ,_=>ρ (.tmp 101)=.slice bo (ks.length - (k+1)) (cr - (k+1))
 | 14,ρ,w=>∃ a c,ρ (.tmp 102)=.slice a (ks.length+1) c∧w.ownsRow w0.heap.size 9 1 (ρ (.tmp 102)) (ks.length+1) (strsC (insAt ks (k+1) key))
 | 15,ρ,_=>ρ (.tmp 103)=.pointer (some ⟨qb,2,none⟩)
 | _,_,_=>True
theorem hk_r18:hkB (opsOf Tryz.f52 18) [0,1,2,3,4,5,6,7,8,9,10,11,12,13,14,15] [16] dead_r18 pred_r18 slots_r18=true:=by kernel_rfl
theorem r18 (w0 wz:World) (C qb k:Nat) (ks:List ByteArray) (ds:List Int) (ar:Option Addr) (cr:Nat) (vd:Value) (key:ByteArray) {ops:Array Oper} (hops:ops=opsOf Tryz.f52 18) {a0:Act} {Q:Exit→Act→World→Prop} (hsz:a0.tmps.size=175) (h16:a0.eval (.tmp 16)=.pointer (some ⟨qb,0,none⟩)) (h12:a0.eval (.tmp 12)=.int .i64 (k:Int)) (h15:a0.eval (.tmp 15)=.string key) (hq:Qb C wz w0 qb ks ds (.slice ar ks.length cr) vd) (hC:C≤wz.heap.size) (hk:k<ks.length) (hn:ks.length≤1000)
  (hQ:∀ v5 v7 v8 bo a14 c14 w',Qb C wz w' qb (insAt ks (k+1) key) ds (.slice a14 (ks.length+1) c14) vd→w0.grownBy w' (some qb)→Q .normal ([(88,.pointer (some ⟨qb,2,none⟩)),(89,.slice ar ks.length cr),(90,.int .i64 (k:Int)),(91,.int .i64 ((k:Int)+1)),(92,.slice ar (k+1) cr),(93,v5),(94,.string key),(95,v7),(96,v8),(97,.pointer (some ⟨qb,2,none⟩)),(98,.slice ar ks.length cr),(99,.int .i64 (k:Int)),(100,.int .i64 ((k:Int)+1)),(101,.slice bo (ks.length - (k+1)) (cr - (k+1))),(102,.slice a14 (ks.length+1) c14),(103,.pointer (some ⟨qb,2,none⟩))].foldl (fun b (x:Nat × Value)=>b.put (some x.1) x.2) a0) w'):(Code.region 18 ops true).wp Tryz.prog Q a0 w0:=by
 subst hops
 have hw1:IntKind.i64.wrap ((k:Int)+1)=(k:Int)+1:=by rw[IntKind.wrap_i64];omega
 have hCf:∀ W,Below w0.heap.size w0 W→W.cell? ⟨qb,2,none⟩=some (.slice ar ks.length cr):=fun W hW=>(hW.cell (p:=⟨qb,2,none⟩) (qA hq.obj)).trans (cell_rowL hq.obj 2)
 obtain⟨a0',c0',e0',hsl,_⟩:=hq.keys
 simp only[qR,true_and] at e0'
 obtain⟨rfl,rfl⟩:=e0'
 have hS:∀ W,Below w0.heap.size w0 W→SlAt 1 W ar cr ks.length (strsC ks):=fun W hW=>hsl.below hW
 have hrun1:=hsl.headRun Tryz.underlying31 Tryz.szStrB (k+1) (by omega)
 rw[Int.natCast_succ] at hrun1
 have hHead:∀ W,Below w0.heap.size w0 W→SlAt 1 W ar cr (k+1) (strsC (ks.take (k+1))):=fun W hW=>by
  have:=(hS W hW).head (k+1) (by omega)
  rwa [strsC_take] at this
 obtain⟨bo,hrun2,_,htl⟩:=hsl.tail Tryz.underlying31 Tryz.szStrB (k+1) (by omega)
 rw[Int.natCast_succ] at hrun2
 have hTail:∀ W,Below w0.heap.size w0 W→SlAt 1 W bo (cr - (k+1)) (ks.length - (k+1)) (strsC (ks.drop (k+1))):=fun W hW=>by
  have:=htl W (hS W hW)
  rwa [strsC_drop] at this
 have hins:strsC (ks.take (k+1))++[.string key]++strsC (ks.drop (k+1))=strsC (insAt ks (k+1) key):=by simp[strsC,insAt]
 refine wp_region_facts [0,1,2,3,4,5,6,7,8,9,10,11,12,13,14,15] [16] dead_r18 pred_r18 slots_r18 (fun W=>Below w0.heap.size w0 W) (RAt [8,14] w0.heap.size 9) (G_r18 w0 qb k ks ar cr key bo) (by kernel_rfl) hk_r18 ?_ ?_ ?_ ?_ ?_ ?_
 ·exact⟨qB _ _,(qB _ _).drew⟩
 ·intro j hj w w' hB hR
  exact RAt.step hR hB qL
 ·intro i hi j hj hne hnp hdd ρ w w' hB hR hG
  rcases (by simpa using hi:i=0∨i=1∨i=2∨i=3∨i=4∨i=5∨i=6∨i=7∨i=8∨i=9∨i=10∨i=11∨i=12∨i=13∨i=14∨i=15) with rfl|rfl|rfl|rfl|rfl|rfl|rfl|rfl|rfl|rfl|rfl|rfl|rfl|rfl|rfl|rfl
  ·exact hG
  ·exact hG
  ·exact hG
  ·exact hG
  ·exact hG
  ·obtain⟨a,c,e,ho⟩:=hG
   exact⟨a,c,e,own_belowA ho (hR.new (by intro hx;simp at hx;rcases hx with rfl|rfl<;>first|exact absurd rfl hne|exact absurd hdd (by decide)|exact absurd (by decide) hnp))⟩
  ·exact hG
  ·obtain⟨sb,e,hq,hs⟩:=hG
   have hn:=hR.new (by intro hx;simp at hx;rcases hx with rfl|rfl<;>first|exact absurd rfl hne|exact absurd hdd (by decide)|exact absurd (by decide) hnp)
   exact⟨sb,e,hq,(hn.block _ (qA hs)).trans hs⟩
  ·obtain⟨a,c,e,ho⟩:=hG
   exact⟨a,c,e,own_belowA ho (hR.new (by intro hx;simp at hx;rcases hx with rfl|rfl<;>first|exact absurd rfl hne|exact absurd hdd (by decide)|exact absurd (by decide) hnp))⟩
  ·exact hG
  ·exact hG
  ·exact hG
  ·exact hG
  ·exact hG
  ·obtain⟨a,c,e,ho⟩:=hG
   exact⟨a,c,e,own_belowA ho (hR.new (by intro hx;simp at hx;rcases hx with rfl|rfl<;>first|exact absurd rfl hne|exact absurd hdd (by decide)|exact absurd (by decide) hnp))⟩
  ·exact hG
 ·intro i hi ρ ρ' w h hG
  rcases (by simpa using hi:i=0∨i=1∨i=2∨i=3∨i=4∨i=5∨i=6∨i=7∨i=8∨i=9∨i=10∨i=11∨i=12∨i=13∨i=14∨i=15) with rfl|rfl|rfl|rfl|rfl|rfl|rfl|rfl|rfl|rfl|rfl|rfl|rfl|rfl|rfl|rfl
  ·have e88:=h 88 (by simp[slots_r18]);simp only[G_r18] at hG ⊢;rw[← e88];exact hG
  ·have e89:=h 89 (by simp[slots_r18]);simp only[G_r18] at hG ⊢;rw[← e89];exact hG
  ·have e90:=h 90 (by simp[slots_r18]);simp only[G_r18] at hG ⊢;rw[← e90];exact hG
  ·have e91:=h 91 (by simp[slots_r18]);simp only[G_r18] at hG ⊢;rw[← e91];exact hG
  ·have e92:=h 92 (by simp[slots_r18]);simp only[G_r18] at hG ⊢;rw[← e92];exact hG
  ·have e93:=h 93 (by simp[slots_r18]);simp only[G_r18] at hG ⊢;rw[← e93];exact hG
  ·have e94:=h 94 (by simp[slots_r18]);simp only[G_r18] at hG ⊢;rw[← e94];exact hG
  ·have e95:=h 95 (by simp[slots_r18]);simp only[G_r18] at hG ⊢;rw[← e95];exact hG
  ·have e96:=h 96 (by simp[slots_r18]);simp only[G_r18] at hG ⊢;rw[← e96];exact hG
  ·have e97:=h 97 (by simp[slots_r18]);simp only[G_r18] at hG ⊢;rw[← e97];exact hG
  ·have e98:=h 98 (by simp[slots_r18]);simp only[G_r18] at hG ⊢;rw[← e98];exact hG
  ·have e99:=h 99 (by simp[slots_r18]);simp only[G_r18] at hG ⊢;rw[← e99];exact hG
  ·have e100:=h 100 (by simp[slots_r18]);simp only[G_r18] at hG ⊢;rw[← e100];exact hG
  ·have e101:=h 101 (by simp[slots_r18]);simp only[G_r18] at hG ⊢;rw[← e101];exact hG
  ·have e102:=h 102 (by simp[slots_r18]);simp only[G_r18] at hG ⊢;rw[← e102];exact hG
  ·have e103:=h 103 (by simp[slots_r18]);simp only[G_r18] at hG ⊢;rw[← e103];exact hG
 ·intro i hi
  rcases (by simpa using hi:i=0∨i=1∨i=2∨i=3∨i=4∨i=5∨i=6∨i=7∨i=8∨i=9∨i=10∨i=11∨i=12∨i=13∨i=14∨i=15) with rfl|rfl|rfl|rfl|rfl|rfl|rfl|rfl|rfl|rfl|rfl|rfl|rfl|rfl|rfl|rfl
  ·refine opDoes_val 88 (.fieldAddr 59 (.tmp 16) 2) (by kernel_rfl) (by rw[hsz];decide) (fun w=>qB _ _) fun ρ w ty pos af hb=>?_
   have h16:=(hb.out 16 (by kernel_rfl)).trans h16
   exact⟨.pointer (some ⟨qb,2,none⟩),by simp[execOp,go_sem,h16],fun ρ_ e1 _=>e1⟩
  ·refine opDoes_val 89 (.load 31 (.tmp 88)) (by kernel_rfl) (by rw[hsz];decide) (fun w=>qB _ _) fun ρ w ty pos af hb=>?_
   have g0:=hb.pre 0 (by simp[pred_r18])
   simp only[G_r18] at g0
   have hB:=hb.base
   have hcell:=hCf w hB
   exact⟨.slice ar ks.length cr,by simp[execOp,g0,hcell,go_sem],fun ρ_ e1 _=>e1⟩
  ·refine opDoes_val 90 (.move (.tmp 12)) (by kernel_rfl) (by rw[hsz];decide) (fun w=>qB _ _) fun ρ w ty pos af hb=>?_
   have h12:=(hb.out 12 (by kernel_rfl)).trans h12
   exact⟨.int .i64 (k:Int),by simp[execOp,go_sem,h12],fun ρ_ e1 _=>e1⟩
  ·refine opDoes_val 91 (.binOp .add 3 (.tmp 90) (.const (.int .i64 1)) 3) (by kernel_rfl) (by rw[hsz];decide) (fun w=>qB _ _) fun ρ w ty pos af hb=>?_
   have g2:=hb.pre 2 (by simp[pred_r18])
   simp only[G_r18] at g2
   have hc:=hb.const
   exact⟨.int .i64 ((k:Int)+1),by simp[execOp,hc,g2,go_sem,hw1],fun ρ_ e1 _=>e1⟩
  ·refine opDoes_val 92 (.slice 31 (.tmp 89) none (some (.tmp 91)) none) (by kernel_rfl) (by rw[hsz];decide) (fun w=>qB _ _) fun ρ w ty pos af hb=>?_
   have g1:=hb.pre 1 (by simp[pred_r18])
   simp only[G_r18] at g1
   have g3:=hb.pre 3 (by simp[pred_r18])
   simp only[G_r18] at g3
   exact⟨.slice ar (k+1) cr,by simp[execOp,g1,g3,hrun1,go_sem],fun ρ_ e1 _=>e1⟩
  ·refine opDoes_append 93 (.const (.slice none 0 0)) (.tmp 92) 31 (by kernel_rfl) (by rw[hsz];decide) fun ρ w ty hb=>?_
   have g4:=hb.pre 4 (by simp[pred_r18])
   simp only[G_r18] at g4
   have hc:=hb.const
   have hB:=hb.base
   obtain⟨a,c,w',hr,ho,hb2⟩:=own_app0 (B0:=w0.heap.size) (hHead w hB) Tryz.underlying31 Tryz.infoStrA rfl hB.size (by omega) (by omega) ty
   exact⟨_,w',by rw[hc,g4];exact hr,by unfold RAt;exact hb2,fun ρ_ e1 _=>⟨a,c,e1,by rw[e1];exact ho⟩⟩
  ·refine opDoes_val 94 (.move (.tmp 15)) (by kernel_rfl) (by rw[hsz];decide) (fun w=>qB _ _) fun ρ w ty pos af hb=>?_
   have h15:=(hb.out 15 (by kernel_rfl)).trans h15
   exact⟨.string key,by simp[execOp,go_sem,h15],fun ρ_ e1 _=>e1⟩
  ·refine opDoes_run 95 (.buildSlice 31 1 #[(0,.tmp 94)]) (by kernel_rfl) (by rw[hsz];decide) fun ρ w ty pos af hb=>?_
   have g6:=hb.pre 6 (by simp[pred_r18])
   simp only[G_r18] at g6
   have hB:=hb.base
   refine⟨_,_,by simp[execOp,g6,go_sem],?_,fun ρ_ e1 _=>⟨_,e1,hB.size,heap_newL w _⟩⟩
   unfold RAt;exact (qB _ _).alloc qL _
  ·refine opDoes_append 96 (.tmp 93) (.tmp 95) 31 (by kernel_rfl) (by rw[hsz];decide) fun ρ w ty hb=>?_
   have g5:=hb.pre 5 (by simp[pred_r18])
   simp only[G_r18] at g5
   have g7:=hb.pre 7 (by simp[pred_r18])
   simp only[G_r18] at g7
   have hB:=hb.base
   obtain⟨a5,c5,e5,ho5⟩:=g5
   obtain⟨sb,e7,hsb,h7⟩:=g7
   obtain⟨v',w',hr,⟨a,c,e8⟩,ho,hb2⟩:=own_app ho5 (SlAt.ofBlock (n:=1) (sz:=1) (cs:=[.string key]) (by simpa using h7) rfl (by simp[Value.oneCell'])) Tryz.underlying31 Tryz.infoStrA rfl hB.size (by omega) (by omega) ty
   exact⟨v',w',by rw[e7];exact hr,by unfold RAt;exact hb2,fun ρ_ e1 _=>⟨a,c,e1.trans e8,by rw[e1];exact ho⟩⟩
  ·refine opDoes_val 97 (.fieldAddr 59 (.tmp 16) 2) (by kernel_rfl) (by rw[hsz];decide) (fun w=>qB _ _) fun ρ w ty pos af hb=>?_
   have h16:=(hb.out 16 (by kernel_rfl)).trans h16
   exact⟨.pointer (some ⟨qb,2,none⟩),by simp[execOp,go_sem,h16],fun ρ_ e1 _=>e1⟩
  ·refine opDoes_val 98 (.load 31 (.tmp 97)) (by kernel_rfl) (by rw[hsz];decide) (fun w=>qB _ _) fun ρ w ty pos af hb=>?_
   have g9:=hb.pre 9 (by simp[pred_r18])
   simp only[G_r18] at g9
   have hB:=hb.base
   have hcell:=hCf w hB
   exact⟨.slice ar ks.length cr,by simp[execOp,g9,hcell,go_sem],fun ρ_ e1 _=>e1⟩
  ·refine opDoes_val 99 (.move (.tmp 12)) (by kernel_rfl) (by rw[hsz];decide) (fun w=>qB _ _) fun ρ w ty pos af hb=>?_
   have h12:=(hb.out 12 (by kernel_rfl)).trans h12
   exact⟨.int .i64 (k:Int),by simp[execOp,go_sem,h12],fun ρ_ e1 _=>e1⟩
  ·refine opDoes_val 100 (.binOp .add 3 (.tmp 99) (.const (.int .i64 1)) 3) (by kernel_rfl) (by rw[hsz];decide) (fun w=>qB _ _) fun ρ w ty pos af hb=>?_
   have g11:=hb.pre 11 (by simp[pred_r18])
   simp only[G_r18] at g11
   have hc:=hb.const
   exact⟨.int .i64 ((k:Int)+1),by simp[execOp,hc,g11,go_sem,hw1],fun ρ_ e1 _=>e1⟩
  ·refine opDoes_val 101 (.slice 31 (.tmp 98) (some (.tmp 100)) none none) (by kernel_rfl) (by rw[hsz];decide) (fun w=>qB _ _) fun ρ w ty pos af hb=>?_
   have g10:=hb.pre 10 (by simp[pred_r18])
   simp only[G_r18] at g10
   have g12:=hb.pre 12 (by simp[pred_r18])
   simp only[G_r18] at g12
   exact⟨.slice bo (ks.length - (k+1)) (cr - (k+1)),by simp[execOp,g10,g12,hrun2,go_sem],fun ρ_ e1 _=>e1⟩
  ·refine opDoes_append 102 (.tmp 96) (.tmp 101) 31 (by kernel_rfl) (by rw[hsz];decide) fun ρ w ty hb=>?_
   have g8:=hb.pre 8 (by simp[pred_r18])
   simp only[G_r18] at g8
   have g13:=hb.pre 13 (by simp[pred_r18])
   simp only[G_r18] at g13
   have hB:=hb.base
   obtain⟨a8,c8,e8,ho8⟩:=g8
   obtain⟨v',w',hr,⟨a,c,e14⟩,ho,hb2⟩:=own_app ho8 (hTail w hB) Tryz.underlying31 Tryz.infoStrA rfl hB.size (by omega) (by omega) ty
   rw[show k+1+1+(ks.length - (k+1))=ks.length+1 by omega] at e14 ho
   rw[hins] at ho
   exact⟨v',w',by rw[g13];exact hr,by unfold RAt;exact hb2,fun ρ_ e1 _=>⟨a,c,e1.trans e14,by rw[e1];exact ho⟩⟩
  ·refine opDoes_val 103 (.fieldAddr 59 (.tmp 16) 2) (by kernel_rfl) (by rw[hsz];decide) (fun w=>qB _ _) fun ρ w ty pos af hb=>?_
   have h16:=(hb.out 16 (by kernel_rfl)).trans h16
   exact⟨.pointer (some ⟨qb,2,none⟩),by simp[execOp,go_sem,h16],fun ρ_ e1 _=>e1⟩
 ·refine ends_store [88,89,90,91,92,93,94,95,96,97,98,99,100,101,102,103] (by kernel_rfl) 31 (.tmp 103) (.tmp 102) (by kernel_rfl) fun ρ w hc hout hB hG=>?_
  have g0:=hG 0 (by simp) (by kernel_rfl)
  simp only[G_r18] at g0
  have g1:=hG 1 (by simp) (by kernel_rfl)
  simp only[G_r18] at g1
  have g2:=hG 2 (by simp) (by kernel_rfl)
  simp only[G_r18] at g2
  have g3:=hG 3 (by simp) (by kernel_rfl)
  simp only[G_r18] at g3
  have g4:=hG 4 (by simp) (by kernel_rfl)
  simp only[G_r18] at g4
  have g6:=hG 6 (by simp) (by kernel_rfl)
  simp only[G_r18] at g6
  have g9:=hG 9 (by simp) (by kernel_rfl)
  simp only[G_r18] at g9
  have g10:=hG 10 (by simp) (by kernel_rfl)
  simp only[G_r18] at g10
  have g11:=hG 11 (by simp) (by kernel_rfl)
  simp only[G_r18] at g11
  have g12:=hG 12 (by simp) (by kernel_rfl)
  simp only[G_r18] at g12
  have g13:=hG 13 (by simp) (by kernel_rfl)
  simp only[G_r18] at g13
  have g14:=hG 14 (by simp) (by kernel_rfl)
  simp only[G_r18] at g14
  have g15:=hG 15 (by simp) (by kernel_rfl)
  simp only[G_r18] at g15
  obtain⟨a14,c14,e14,ho14⟩:=g14
  rw[e14] at ho14
  have hqw:=hq.below hB (qN hC hq.bel.size)
  have hc16:w.cell? ⟨qb,2,none⟩=some (.slice ar ks.length cr):=hCf w hB
  have hz16:w.frozen? ⟨qb,2,none⟩=false:=frozen_rowL hqw.obj 2
  refine⟨w.setCell ⟨qb,2,none⟩ (.slice a14 (ks.length+1) c14),by simp[execOp,g15,e14,hc16,hz16,go_sem],?_⟩
  simp only[List.foldl_cons,List.foldl_nil,g0,g1,g2,g3,g4,g6,g9,g10,g11,g12,g13,e14,g15]
  have hkp:∀ (j:Nat) (cells:Array Value) (E:TypeId) (fr:Nat × Nat),E≠59→w.heap[j]?=some (.cells cells E fr)→(w.setCell ⟨qb,2,none⟩ (.slice a14 (ks.length+1) c14)).heap[j]?=w.heap[j]?:=fun j cells E fr hne e=>qD _ _ _ _ (fun e2=>by have e3:j=qb:=e2;subst e3;rw[hqw.obj] at e;simp only[qQ,qX] at e;exact hne e.2.1.symm)
  have hob:=heap_setCell_same w qb 2 _ _ (.slice a14 (ks.length+1) c14) hqw.obj
  have hN:NewT C 9 w (.slice a14 (ks.length+1) c14) (ks.length+1) (strsC (insAt ks (k+1) key)):=NewT.own ho14 (strsC_one _) (qN hC hq.bel.size)
  have hN2:=hN.keep fun j cells fr _ e=>hkp j _ _ _ (by decide) e
  refine hQ _ _ _ _ _ _ _ ⟨by rw[hob];simp[brA],hqw.new,by rw[insAt_len];exact hN2,hqw.kids.keep fun j cells fr _ e=>hkp j _ _ _ (by decide) e,hqw.bel.trans ⟨rfl,rfl,rfl,by simp,fun j hj=>Below.heap_setCell _ _ _ _ (show j≠qb by have:=hqw.new;omega)⟩⟩ ⟨hB.os,hB.tape,hB.output,by simpa using hB.size,fun j hj hne=>(Below.heap_setCell _ _ _ _ (show j≠qb by simpa using hne)).trans (hB.block j hj)⟩
end
section
open Go.RowKit
def pred_r19:Nat→List Nat|1=>[0]|3=>[2]|4=>[1,3]|5=>[4]|7=>[6]|8=>[5,7]|10=>[9]|12=>[11]|13=>[10,12]|14=>[8,13]|_=>[]
def slots_r19:Nat→List Tmp|0=>[104]|1=>[105]|2=>[106]|3=>[107]|4=>[108]|5=>[109]|6=>[110]|7=>[111]|8=>[112]|9=>[113]|10=>[114]|11=>[115]|12=>[116]|13=>[117]|14=>[118]|15=>[119]|_=>[]
def dead_r19:Nat→Nat→Bool|5,8=>true|5,14=>true|7,8=>true|7,14=>true|8,14=>true|_,_=>false
def G_r19 (w0:World) (qb:Nat) (k:Nat) (ds:List Int) (ar:Option Addr) (cr:Nat) (more:Int) (bo:Option Addr):Nat→(Operand→Value)→World→Prop
 | 0,ρ,_=>ρ (.tmp 104)=.pointer (some ⟨qb,3,none⟩)
 | 1,ρ,_=>ρ (.tmp 105)=.slice ar ds.length cr
 | 2,ρ,_=>ρ (.tmp 106)=.int .i64 (k:Int)
 | 3,ρ,_=>ρ (.tmp 107)=.int .i64 ((k:Int)+1)
 | 4,ρ,_=>ρ (.tmp 108)=.slice ar (k+1) cr
 | 5,ρ,w=>∃ a c,ρ (.tmp 109)=.slice a (k+1) c∧w.ownsRow w0.heap.size 3 1 (ρ (.tmp 109)) (k+1) (intsC (ds.take (k+1)))
 | 6,ρ,_=>ρ (.tmp 110)=.int .i64 more
 | 7,ρ,w=>∃ sb,ρ (.tmp 111)=.slice (some ⟨sb,0,none⟩) 1 1∧w0.heap.size≤sb∧w.heap[sb]?=some (.cells #[.int .i64 more] 3 (0,0))
 | 8,ρ,w=>∃ a c,ρ (.tmp 112)=.slice a (k+1+1) c∧w.ownsRow w0.heap.size 3 1 (ρ (.tmp 112)) (k+1+1) (intsC (ds.take (k+1))++[.int .i64 more])
 | 9,ρ,_=>ρ (.tmp 113)=.pointer (some ⟨qb,3,none⟩)
 | 10,ρ,_=>ρ (.tmp 114)=.slice ar ds.length cr
 | 11,ρ,_=>ρ (.tmp 115)=.int .i64 (k:Int)
 | 12,ρ,_=>ρ (.tmp 116)=.int .i64 ((k:Int)+1)
 | 13,ρ,_=>ρ (.tmp 117)=.slice bo (ds.length - (k+1)) (cr - (k+1))
 | 14,ρ,w=>∃ a c,ρ (.tmp 118)=.slice a (ds.length+1) c∧w.ownsRow w0.heap.size 3 1 (ρ (.tmp 118)) (ds.length+1) (intsC (insAt ds (k+1) more))
 | 15,ρ,_=>ρ (.tmp 119)=.pointer (some ⟨qb,3,none⟩)
 | _,_,_=>True
theorem hk_r19:hkB (opsOf Tryz.f52 19) [0,1,2,3,4,5,6,7,8,9,10,11,12,13,14,15] [16] dead_r19 pred_r19 slots_r19=true:=by kernel_rfl
theorem r19 (w0 wz:World) (C qb k:Nat) (ks:List ByteArray) (ds:List Int) (ar:Option Addr) (cr:Nat) (vk:Value) (more:Int) {ops:Array Oper} (hops:ops=opsOf Tryz.f52 19) {a0:Act} {Q:Exit→Act→World→Prop} (hsz:a0.tmps.size=175) (h16:a0.eval (.tmp 16)=.pointer (some ⟨qb,0,none⟩)) (h12:a0.eval (.tmp 12)=.int .i64 (k:Int)) (h14:a0.eval (.tmp 14)=.int .i64 more) (hq:Qb C wz w0 qb ks ds vk (.slice ar ds.length cr)) (hC:C≤wz.heap.size) (hk:k<ds.length) (hn:ds.length≤1000)
  (hQ:∀ v5 v7 v8 bo a14 c14 w',Qb C wz w' qb ks (insAt ds (k+1) more) vk (.slice a14 (ds.length+1) c14)→w0.grownBy w' (some qb)→Q .normal ([(104,.pointer (some ⟨qb,3,none⟩)),(105,.slice ar ds.length cr),(106,.int .i64 (k:Int)),(107,.int .i64 ((k:Int)+1)),(108,.slice ar (k+1) cr),(109,v5),(110,.int .i64 more),(111,v7),(112,v8),(113,.pointer (some ⟨qb,3,none⟩)),(114,.slice ar ds.length cr),(115,.int .i64 (k:Int)),(116,.int .i64 ((k:Int)+1)),(117,.slice bo (ds.length - (k+1)) (cr - (k+1))),(118,.slice a14 (ds.length+1) c14),(119,.pointer (some ⟨qb,3,none⟩))].foldl (fun b (x:Nat × Value)=>b.put (some x.1) x.2) a0) w'):(Code.region 19 ops true).wp Tryz.prog Q a0 w0:=by
 subst hops
 have hw1:IntKind.i64.wrap ((k:Int)+1)=(k:Int)+1:=by rw[IntKind.wrap_i64];omega
 have hCf:∀ W,Below w0.heap.size w0 W→W.cell? ⟨qb,3,none⟩=some (.slice ar ds.length cr):=fun W hW=>(hW.cell (p:=⟨qb,3,none⟩) (qA hq.obj)).trans (cell_rowL hq.obj 3)
 obtain⟨a0',c0',e0',hsl,_⟩:=hq.kids
 simp only[qR,true_and] at e0'
 obtain⟨rfl,rfl⟩:=e0'
 have hS:∀ W,Below w0.heap.size w0 W→SlAt 1 W ar cr ds.length (intsC ds):=fun W hW=>hsl.below hW
 have hrun1:=hsl.headRun Tryz.underlying32 Tryz.szIntB (k+1) (by omega)
 rw[Int.natCast_succ] at hrun1
 have hHead:∀ W,Below w0.heap.size w0 W→SlAt 1 W ar cr (k+1) (intsC (ds.take (k+1))):=fun W hW=>by
  have:=(hS W hW).head (k+1) (by omega)
  rwa [intsC_take] at this
 obtain⟨bo,hrun2,_,htl⟩:=hsl.tail Tryz.underlying32 Tryz.szIntB (k+1) (by omega)
 rw[Int.natCast_succ] at hrun2
 have hTail:∀ W,Below w0.heap.size w0 W→SlAt 1 W bo (cr - (k+1)) (ds.length - (k+1)) (intsC (ds.drop (k+1))):=fun W hW=>by
  have:=htl W (hS W hW)
  rwa [intsC_drop] at this
 have hins:intsC (ds.take (k+1))++[.int .i64 more]++intsC (ds.drop (k+1))=intsC (insAt ds (k+1) more):=by simp[intsC,insAt]
 refine wp_region_facts [0,1,2,3,4,5,6,7,8,9,10,11,12,13,14,15] [16] dead_r19 pred_r19 slots_r19 (fun W=>Below w0.heap.size w0 W) (RAt [8,14] w0.heap.size 3) (G_r19 w0 qb k ds ar cr more bo) (by kernel_rfl) hk_r19 ?_ ?_ ?_ ?_ ?_ ?_
 ·exact⟨qB _ _,(qB _ _).drew⟩
 ·intro j hj w w' hB hR
  exact RAt.step hR hB qL
 ·intro i hi j hj hne hnp hdd ρ w w' hB hR hG
  rcases (by simpa using hi:i=0∨i=1∨i=2∨i=3∨i=4∨i=5∨i=6∨i=7∨i=8∨i=9∨i=10∨i=11∨i=12∨i=13∨i=14∨i=15) with rfl|rfl|rfl|rfl|rfl|rfl|rfl|rfl|rfl|rfl|rfl|rfl|rfl|rfl|rfl|rfl
  ·exact hG
  ·exact hG
  ·exact hG
  ·exact hG
  ·exact hG
  ·obtain⟨a,c,e,ho⟩:=hG
   exact⟨a,c,e,own_belowA ho (hR.new (by intro hx;simp at hx;rcases hx with rfl|rfl<;>first|exact absurd rfl hne|exact absurd hdd (by decide)|exact absurd (by decide) hnp))⟩
  ·exact hG
  ·obtain⟨sb,e,hq,hs⟩:=hG
   have hn:=hR.new (by intro hx;simp at hx;rcases hx with rfl|rfl<;>first|exact absurd rfl hne|exact absurd hdd (by decide)|exact absurd (by decide) hnp)
   exact⟨sb,e,hq,(hn.block _ (qA hs)).trans hs⟩
  ·obtain⟨a,c,e,ho⟩:=hG
   exact⟨a,c,e,own_belowA ho (hR.new (by intro hx;simp at hx;rcases hx with rfl|rfl<;>first|exact absurd rfl hne|exact absurd hdd (by decide)|exact absurd (by decide) hnp))⟩
  ·exact hG
  ·exact hG
  ·exact hG
  ·exact hG
  ·exact hG
  ·obtain⟨a,c,e,ho⟩:=hG
   exact⟨a,c,e,own_belowA ho (hR.new (by intro hx;simp at hx;rcases hx with rfl|rfl<;>first|exact absurd rfl hne|exact absurd hdd (by decide)|exact absurd (by decide) hnp))⟩
  ·exact hG
 ·intro i hi ρ ρ' w h hG
  rcases (by simpa using hi:i=0∨i=1∨i=2∨i=3∨i=4∨i=5∨i=6∨i=7∨i=8∨i=9∨i=10∨i=11∨i=12∨i=13∨i=14∨i=15) with rfl|rfl|rfl|rfl|rfl|rfl|rfl|rfl|rfl|rfl|rfl|rfl|rfl|rfl|rfl|rfl
  ·have e104:=h 104 (by simp[slots_r19]);simp only[G_r19] at hG ⊢;rw[← e104];exact hG
  ·have e105:=h 105 (by simp[slots_r19]);simp only[G_r19] at hG ⊢;rw[← e105];exact hG
  ·have e106:=h 106 (by simp[slots_r19]);simp only[G_r19] at hG ⊢;rw[← e106];exact hG
  ·have e107:=h 107 (by simp[slots_r19]);simp only[G_r19] at hG ⊢;rw[← e107];exact hG
  ·have e108:=h 108 (by simp[slots_r19]);simp only[G_r19] at hG ⊢;rw[← e108];exact hG
  ·have e109:=h 109 (by simp[slots_r19]);simp only[G_r19] at hG ⊢;rw[← e109];exact hG
  ·have e110:=h 110 (by simp[slots_r19]);simp only[G_r19] at hG ⊢;rw[← e110];exact hG
  ·have e111:=h 111 (by simp[slots_r19]);simp only[G_r19] at hG ⊢;rw[← e111];exact hG
  ·have e112:=h 112 (by simp[slots_r19]);simp only[G_r19] at hG ⊢;rw[← e112];exact hG
  ·have e113:=h 113 (by simp[slots_r19]);simp only[G_r19] at hG ⊢;rw[← e113];exact hG
  ·have e114:=h 114 (by simp[slots_r19]);simp only[G_r19] at hG ⊢;rw[← e114];exact hG
  ·have e115:=h 115 (by simp[slots_r19]);simp only[G_r19] at hG ⊢;rw[← e115];exact hG
  ·have e116:=h 116 (by simp[slots_r19]);simp only[G_r19] at hG ⊢;rw[← e116];exact hG
  ·have e117:=h 117 (by simp[slots_r19]);simp only[G_r19] at hG ⊢;rw[← e117];exact hG
  ·have e118:=h 118 (by simp[slots_r19]);simp only[G_r19] at hG ⊢;rw[← e118];exact hG
  ·have e119:=h 119 (by simp[slots_r19]);simp only[G_r19] at hG ⊢;rw[← e119];exact hG
 ·intro i hi
  rcases (by simpa using hi:i=0∨i=1∨i=2∨i=3∨i=4∨i=5∨i=6∨i=7∨i=8∨i=9∨i=10∨i=11∨i=12∨i=13∨i=14∨i=15) with rfl|rfl|rfl|rfl|rfl|rfl|rfl|rfl|rfl|rfl|rfl|rfl|rfl|rfl|rfl|rfl
  ·refine opDoes_val 104 (.fieldAddr 59 (.tmp 16) 3) (by kernel_rfl) (by rw[hsz];decide) (fun w=>qB _ _) fun ρ w ty pos af hb=>?_
   have h16:=(hb.out 16 (by kernel_rfl)).trans h16
   exact⟨.pointer (some ⟨qb,3,none⟩),by simp[execOp,go_sem,h16],fun ρ_ e1 _=>e1⟩
  ·refine opDoes_val 105 (.load 32 (.tmp 104)) (by kernel_rfl) (by rw[hsz];decide) (fun w=>qB _ _) fun ρ w ty pos af hb=>?_
   have g0:=hb.pre 0 (by simp[pred_r19])
   simp only[G_r19] at g0
   have hB:=hb.base
   have hcell:=hCf w hB
   exact⟨.slice ar ds.length cr,by simp[execOp,g0,hcell,go_sem],fun ρ_ e1 _=>e1⟩
  ·refine opDoes_val 106 (.move (.tmp 12)) (by kernel_rfl) (by rw[hsz];decide) (fun w=>qB _ _) fun ρ w ty pos af hb=>?_
   have h12:=(hb.out 12 (by kernel_rfl)).trans h12
   exact⟨.int .i64 (k:Int),by simp[execOp,go_sem,h12],fun ρ_ e1 _=>e1⟩
  ·refine opDoes_val 107 (.binOp .add 3 (.tmp 106) (.const (.int .i64 1)) 3) (by kernel_rfl) (by rw[hsz];decide) (fun w=>qB _ _) fun ρ w ty pos af hb=>?_
   have g2:=hb.pre 2 (by simp[pred_r19])
   simp only[G_r19] at g2
   have hc:=hb.const
   exact⟨.int .i64 ((k:Int)+1),by simp[execOp,hc,g2,go_sem,hw1],fun ρ_ e1 _=>e1⟩
  ·refine opDoes_val 108 (.slice 32 (.tmp 105) none (some (.tmp 107)) none) (by kernel_rfl) (by rw[hsz];decide) (fun w=>qB _ _) fun ρ w ty pos af hb=>?_
   have g1:=hb.pre 1 (by simp[pred_r19])
   simp only[G_r19] at g1
   have g3:=hb.pre 3 (by simp[pred_r19])
   simp only[G_r19] at g3
   exact⟨.slice ar (k+1) cr,by simp[execOp,g1,g3,hrun1,go_sem],fun ρ_ e1 _=>e1⟩
  ·refine opDoes_append 109 (.const (.slice none 0 0)) (.tmp 108) 32 (by kernel_rfl) (by rw[hsz];decide) fun ρ w ty hb=>?_
   have g4:=hb.pre 4 (by simp[pred_r19])
   simp only[G_r19] at g4
   have hc:=hb.const
   have hB:=hb.base
   obtain⟨a,c,w',hr,ho,hb2⟩:=own_app0 (B0:=w0.heap.size) (hHead w hB) Tryz.underlying32 Tryz.infoIntB rfl hB.size (by omega) (by omega) ty
   exact⟨_,w',by rw[hc,g4];exact hr,by unfold RAt;exact hb2,fun ρ_ e1 _=>⟨a,c,e1,by rw[e1];exact ho⟩⟩
  ·refine opDoes_val 110 (.move (.tmp 14)) (by kernel_rfl) (by rw[hsz];decide) (fun w=>qB _ _) fun ρ w ty pos af hb=>?_
   have h14:=(hb.out 14 (by kernel_rfl)).trans h14
   exact⟨.int .i64 more,by simp[execOp,go_sem,h14],fun ρ_ e1 _=>e1⟩
  ·refine opDoes_run 111 (.buildSlice 32 1 #[(0,.tmp 110)]) (by kernel_rfl) (by rw[hsz];decide) fun ρ w ty pos af hb=>?_
   have g6:=hb.pre 6 (by simp[pred_r19])
   simp only[G_r19] at g6
   have hB:=hb.base
   refine⟨_,_,by simp[execOp,g6,go_sem],?_,fun ρ_ e1 _=>⟨_,e1,hB.size,heap_newL w _⟩⟩
   unfold RAt;exact (qB _ _).alloc qL _
  ·refine opDoes_append 112 (.tmp 109) (.tmp 111) 32 (by kernel_rfl) (by rw[hsz];decide) fun ρ w ty hb=>?_
   have g5:=hb.pre 5 (by simp[pred_r19])
   simp only[G_r19] at g5
   have g7:=hb.pre 7 (by simp[pred_r19])
   simp only[G_r19] at g7
   have hB:=hb.base
   obtain⟨a5,c5,e5,ho5⟩:=g5
   obtain⟨sb,e7,hsb,h7⟩:=g7
   obtain⟨v',w',hr,⟨a,c,e8⟩,ho,hb2⟩:=own_app ho5 (SlAt.ofBlock (n:=1) (sz:=1) (cs:=[.int .i64 more]) (by simpa using h7) rfl (by simp[Value.oneCell'])) Tryz.underlying32 Tryz.infoIntB rfl hB.size (by omega) (by omega) ty
   exact⟨v',w',by rw[e7];exact hr,by unfold RAt;exact hb2,fun ρ_ e1 _=>⟨a,c,e1.trans e8,by rw[e1];exact ho⟩⟩
  ·refine opDoes_val 113 (.fieldAddr 59 (.tmp 16) 3) (by kernel_rfl) (by rw[hsz];decide) (fun w=>qB _ _) fun ρ w ty pos af hb=>?_
   have h16:=(hb.out 16 (by kernel_rfl)).trans h16
   exact⟨.pointer (some ⟨qb,3,none⟩),by simp[execOp,go_sem,h16],fun ρ_ e1 _=>e1⟩
  ·refine opDoes_val 114 (.load 32 (.tmp 113)) (by kernel_rfl) (by rw[hsz];decide) (fun w=>qB _ _) fun ρ w ty pos af hb=>?_
   have g9:=hb.pre 9 (by simp[pred_r19])
   simp only[G_r19] at g9
   have hB:=hb.base
   have hcell:=hCf w hB
   exact⟨.slice ar ds.length cr,by simp[execOp,g9,hcell,go_sem],fun ρ_ e1 _=>e1⟩
  ·refine opDoes_val 115 (.move (.tmp 12)) (by kernel_rfl) (by rw[hsz];decide) (fun w=>qB _ _) fun ρ w ty pos af hb=>?_
   have h12:=(hb.out 12 (by kernel_rfl)).trans h12
   exact⟨.int .i64 (k:Int),by simp[execOp,go_sem,h12],fun ρ_ e1 _=>e1⟩
  ·refine opDoes_val 116 (.binOp .add 3 (.tmp 115) (.const (.int .i64 1)) 3) (by kernel_rfl) (by rw[hsz];decide) (fun w=>qB _ _) fun ρ w ty pos af hb=>?_
   have g11:=hb.pre 11 (by simp[pred_r19])
   simp only[G_r19] at g11
   have hc:=hb.const
   exact⟨.int .i64 ((k:Int)+1),by simp[execOp,hc,g11,go_sem,hw1],fun ρ_ e1 _=>e1⟩
  ·refine opDoes_val 117 (.slice 32 (.tmp 114) (some (.tmp 116)) none none) (by kernel_rfl) (by rw[hsz];decide) (fun w=>qB _ _) fun ρ w ty pos af hb=>?_
   have g10:=hb.pre 10 (by simp[pred_r19])
   simp only[G_r19] at g10
   have g12:=hb.pre 12 (by simp[pred_r19])
   simp only[G_r19] at g12
   exact⟨.slice bo (ds.length - (k+1)) (cr - (k+1)),by simp[execOp,g10,g12,hrun2,go_sem],fun ρ_ e1 _=>e1⟩
  ·refine opDoes_append 118 (.tmp 112) (.tmp 117) 32 (by kernel_rfl) (by rw[hsz];decide) fun ρ w ty hb=>?_
   have g8:=hb.pre 8 (by simp[pred_r19])
   simp only[G_r19] at g8
   have g13:=hb.pre 13 (by simp[pred_r19])
   simp only[G_r19] at g13
   have hB:=hb.base
   obtain⟨a8,c8,e8,ho8⟩:=g8
   obtain⟨v',w',hr,⟨a,c,e14⟩,ho,hb2⟩:=own_app ho8 (hTail w hB) Tryz.underlying32 Tryz.infoIntB rfl hB.size (by omega) (by omega) ty
   rw[show k+1+1+(ds.length - (k+1))=ds.length+1 by omega] at e14 ho
   rw[hins] at ho
   exact⟨v',w',by rw[g13];exact hr,by unfold RAt;exact hb2,fun ρ_ e1 _=>⟨a,c,e1.trans e14,by rw[e1];exact ho⟩⟩
  ·refine opDoes_val 119 (.fieldAddr 59 (.tmp 16) 3) (by kernel_rfl) (by rw[hsz];decide) (fun w=>qB _ _) fun ρ w ty pos af hb=>?_
   have h16:=(hb.out 16 (by kernel_rfl)).trans h16
   exact⟨.pointer (some ⟨qb,3,none⟩),by simp[execOp,go_sem,h16],fun ρ_ e1 _=>e1⟩
 ·refine ends_store [104,105,106,107,108,109,110,111,112,113,114,115,116,117,118,119] (by kernel_rfl) 32 (.tmp 119) (.tmp 118) (by kernel_rfl) fun ρ w hc hout hB hG=>?_
  have g0:=hG 0 (by simp) (by kernel_rfl)
  simp only[G_r19] at g0
  have g1:=hG 1 (by simp) (by kernel_rfl)
  simp only[G_r19] at g1
  have g2:=hG 2 (by simp) (by kernel_rfl)
  simp only[G_r19] at g2
  have g3:=hG 3 (by simp) (by kernel_rfl)
  simp only[G_r19] at g3
  have g4:=hG 4 (by simp) (by kernel_rfl)
  simp only[G_r19] at g4
  have g6:=hG 6 (by simp) (by kernel_rfl)
  simp only[G_r19] at g6
  have g9:=hG 9 (by simp) (by kernel_rfl)
  simp only[G_r19] at g9
  have g10:=hG 10 (by simp) (by kernel_rfl)
  simp only[G_r19] at g10
  have g11:=hG 11 (by simp) (by kernel_rfl)
  simp only[G_r19] at g11
  have g12:=hG 12 (by simp) (by kernel_rfl)
  simp only[G_r19] at g12
  have g13:=hG 13 (by simp) (by kernel_rfl)
  simp only[G_r19] at g13
  have g14:=hG 14 (by simp) (by kernel_rfl)
  simp only[G_r19] at g14
  have g15:=hG 15 (by simp) (by kernel_rfl)
  simp only[G_r19] at g15
  obtain⟨a14,c14,e14,ho14⟩:=g14
  rw[e14] at ho14
  have hqw:=hq.below hB (qN hC hq.bel.size)
  have hc16:w.cell? ⟨qb,3,none⟩=some (.slice ar ds.length cr):=hCf w hB
  have hz16:w.frozen? ⟨qb,3,none⟩=false:=frozen_rowL hqw.obj 3
  refine⟨w.setCell ⟨qb,3,none⟩ (.slice a14 (ds.length+1) c14),by simp[execOp,g15,e14,hc16,hz16,go_sem],?_⟩
  simp only[List.foldl_cons,List.foldl_nil,g0,g1,g2,g3,g4,g6,g9,g10,g11,g12,g13,e14,g15]
  have hkp:∀ (j:Nat) (cells:Array Value) (E:TypeId) (fr:Nat × Nat),E≠59→w.heap[j]?=some (.cells cells E fr)→(w.setCell ⟨qb,3,none⟩ (.slice a14 (ds.length+1) c14)).heap[j]?=w.heap[j]?:=fun j cells E fr hne e=>qD _ _ _ _ (fun e2=>by have e3:j=qb:=e2;subst e3;rw[hqw.obj] at e;simp only[qQ,qX] at e;exact hne e.2.1.symm)
  have hob:=heap_setCell_same w qb 3 _ _ (.slice a14 (ds.length+1) c14) hqw.obj
  have hN:NewT C 3 w (.slice a14 (ds.length+1) c14) (ds.length+1) (intsC (insAt ds (k+1) more)):=NewT.own ho14 (intsC_one _) (qN hC hq.bel.size)
  have hN2:=hN.keep fun j cells fr _ e=>hkp j _ _ _ (by decide) e
  refine hQ _ _ _ _ _ _ _ ⟨by rw[hob];simp[brA],hqw.new,hqw.keys.keep fun j cells fr _ e=>hkp j _ _ _ (by decide) e,by rw[insAt_len];exact hN2,hqw.bel.trans ⟨rfl,rfl,rfl,by simp,fun j hj=>Below.heap_setCell _ _ _ _ (show j≠qb by have:=hqw.new;omega)⟩⟩ ⟨hB.os,hB.tape,hB.output,by simpa using hB.size,fun j hj hne=>(Below.heap_setCell _ _ _ _ (show j≠qb by simpa using hne)).trans (hB.block j hj)⟩
end
end Go.Proofs.YtbghhklbfnplbaaGreat

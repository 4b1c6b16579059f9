import Derived.Test.YtbghhklbfnplbaaGreatC00
import Derived.Test.YtbghhklbfnplbaaGreatC28
set_option maxRecDepth 100000
namespace Go.Proofs.YtbghhklbfnplbaaGreat
section
open Go.RowKit
def pred_r23:Nat→List Nat|1=>[0]|3=>[1,2]|5=>[4]|7=>[5,6]|8=>[3,7]|_=>[]
def slots_r23:Nat→List Tmp|0=>[133]|1=>[134]|2=>[135]|3=>[136]|4=>[137]|5=>[138]|6=>[139]|7=>[140]|8=>[141]|9=>[18]|_=>[]
def dead_r23:Nat→Nat→Bool|_,_=>false
def G_r23 (w0:World) (qb:Nat) (h:Nat) (ks:List ByteArray) (ds:List Int) (ar:Option Addr) (cr:Nat) (ad:Option Addr) (cd:Nat):Nat→(Operand→Value)→World→Prop
 | 0,ρ,_=>ρ (.tmp 133)=.pointer (some ⟨qb,2,none⟩)
 | 1,ρ,_=>ρ (.tmp 134)=.slice ar ks.length cr
 | 2,ρ,_=>ρ (.tmp 135)=.int .i64 (h:Int)
 | 3,ρ,_=>ρ (.tmp 136)=.slice ar h cr
 | 4,ρ,_=>ρ (.tmp 137)=.pointer (some ⟨qb,3,none⟩)
 | 5,ρ,_=>ρ (.tmp 138)=.slice ad ds.length cd
 | 6,ρ,_=>ρ (.tmp 139)=.int .i64 (h:Int)
 | 7,ρ,_=>ρ (.tmp 140)=.slice ad h cd
 | 8,ρ,_=>ρ (.tmp 141)=.agg (brA (.slice ar h cr) (.slice ad h cd))
 | 9,ρ,w=>∃ nb,ρ (.tmp 18)=.pointer (some ⟨nb,0,none⟩)∧w0.heap.size≤nb∧∃ cur:Array Value,cur.size=14∧w.heap[nb]?=some (.cells cur 59 (0,0))
 | _,_,_=>True
theorem hk_r23:hkB (opsOf Tryz.f52 23) [0,1,2,3,4,5,6,7,8,9] [10] dead_r23 pred_r23 slots_r23=true:=by kernel_rfl
theorem r23 (w0 wz:World) (C qb h:Nat) (ks:List ByteArray) (ds:List Int) (ar:Option Addr) (cr:Nat) (ad:Option Addr) (cd:Nat) {ops:Array Oper} (hops:ops=opsOf Tryz.f52 23) {a0:Act} {Q:Exit→Act→World→Prop} (hsz:a0.tmps.size=175) (h16:a0.eval (.tmp 16)=.pointer (some ⟨qb,0,none⟩)) (h17:a0.eval (.tmp 17)=.int .i64 (h:Int)) (hq:Qb C wz w0 qb ks ds (.slice ar ks.length cr) (.slice ad ds.length cd)) (hC:C≤wz.heap.size) (hk:h≤ks.length) (hd:h≤ds.length)
  (hQ:∀ ab w',Qb C wz w' qb ks ds (.slice ar ks.length cr) (.slice ad ds.length cd)→Qb C wz w' ab (ks.take h) (ds.take h) (.slice ar h cr) (.slice ad h cd)→Below w0.heap.size w0 w'→Q .normal ([(133,.pointer (some ⟨qb,2,none⟩)),(134,.slice ar ks.length cr),(135,.int .i64 (h:Int)),(136,.slice ar h cr),(137,.pointer (some ⟨qb,3,none⟩)),(138,.slice ad ds.length cd),(139,.int .i64 (h:Int)),(140,.slice ad h cd),(141,.agg (brA (.slice ar h cr) (.slice ad h cd))),(18,.pointer (some ⟨ab,0,none⟩))].foldl (fun b (x:Nat × Value)=>b.put (some x.1) x.2) a0) w'):(Code.region 23 ops true).wp Tryz.prog Q a0 w0:=by
 subst hops
 have hCk:∀ W,Below w0.heap.size w0 W→W.cell? ⟨qb,2,none⟩=some (.slice ar ks.length cr):=fun W hW=>(hW.cell (p:=⟨qb,2,none⟩) (qA hq.obj)).trans (cell_rowL hq.obj 2)
 have hCd:∀ W,Below w0.heap.size w0 W→W.cell? ⟨qb,3,none⟩=some (.slice ad ds.length cd):=fun W hW=>(hW.cell (p:=⟨qb,3,none⟩) (qA hq.obj)).trans (cell_rowL hq.obj 3)
 have hqk0:=hq.keys
 obtain⟨a1',c1',e1',hsk,hbk⟩:=hqk0
 simp only[qR,true_and] at e1'
 obtain⟨rfl,rfl⟩:=e1'
 have hqd0:=hq.kids
 obtain⟨a2',c2',e2',hsd,hbd⟩:=hqd0
 simp only[qR,true_and] at e2'
 obtain⟨rfl,rfl⟩:=e2'
 have hrun1:=hsk.headRun Tryz.underlying31 Tryz.szStrB h hk
 have hrun2:=hsd.headRun Tryz.underlying32 Tryz.szIntB h hd
 refine wp_region_facts [0,1,2,3,4,5,6,7,8,9] [10] dead_r23 pred_r23 slots_r23 (fun W=>Below w0.heap.size w0 W) (RAt [] w0.heap.size 9) (G_r23 w0 qb h ks ds ar cr ad cd) (by kernel_rfl) hk_r23 ?_ ?_ ?_ ?_ ?_ ?_
 ·exact⟨qB _ _,(qB _ _).drew⟩
 ·intro j hj w w' hB hR
  exact RAt.step hR hB qL
 ·intro i hi j hj hne hnp hdd ρ w w' hB hR hG
  rcases (by simpa using hi:i=0∨i=1∨i=2∨i=3∨i=4∨i=5∨i=6∨i=7∨i=8∨i=9) with rfl|rfl|rfl|rfl|rfl|rfl|rfl|rfl|rfl|rfl
  ·exact hG
  ·exact hG
  ·exact hG
  ·exact hG
  ·exact hG
  ·exact hG
  ·exact hG
  ·exact hG
  ·exact hG
  ·obtain⟨nb,e,hq',cur,hs,hcur⟩:=hG
   exact⟨nb,e,hq',cur,hs,(hR.box hB.size).far' hcur⟩
 ·intro i hi ρ ρ' w h hG
  rcases (by simpa using hi:i=0∨i=1∨i=2∨i=3∨i=4∨i=5∨i=6∨i=7∨i=8∨i=9) with rfl|rfl|rfl|rfl|rfl|rfl|rfl|rfl|rfl|rfl
  ·have e133:=h 133 (by simp[slots_r23]);simp only[G_r23] at hG ⊢;rw[← e133];exact hG
  ·have e134:=h 134 (by simp[slots_r23]);simp only[G_r23] at hG ⊢;rw[← e134];exact hG
  ·have e135:=h 135 (by simp[slots_r23]);simp only[G_r23] at hG ⊢;rw[← e135];exact hG
  ·have e136:=h 136 (by simp[slots_r23]);simp only[G_r23] at hG ⊢;rw[← e136];exact hG
  ·have e137:=h 137 (by simp[slots_r23]);simp only[G_r23] at hG ⊢;rw[← e137];exact hG
  ·have e138:=h 138 (by simp[slots_r23]);simp only[G_r23] at hG ⊢;rw[← e138];exact hG
  ·have e139:=h 139 (by simp[slots_r23]);simp only[G_r23] at hG ⊢;rw[← e139];exact hG
  ·have e140:=h 140 (by simp[slots_r23]);simp only[G_r23] at hG ⊢;rw[← e140];exact hG
  ·have e141:=h 141 (by simp[slots_r23]);simp only[G_r23] at hG ⊢;rw[← e141];exact hG
  ·have e18:=h 18 (by simp[slots_r23]);simp only[G_r23] at hG ⊢;rw[← e18];exact hG
 ·intro i hi
  rcases (by simpa using hi:i=0∨i=1∨i=2∨i=3∨i=4∨i=5∨i=6∨i=7∨i=8∨i=9) with rfl|rfl|rfl|rfl|rfl|rfl|rfl|rfl|rfl|rfl
  ·refine opDoes_val 133 (.fieldAddr 59 (.tmp 16) 2) (by kernel_rfl) (by rw[hsz];decide) (fun w=>qB _ _) fun ρ w ty pos af hb=>?_
   have h16:=(hb.out 16 (by kernel_rfl)).trans h16
   exact⟨.pointer (some ⟨qb,2,none⟩),by simp[execOp,go_sem,h16],fun ρ_ e1 _=>e1⟩
  ·refine opDoes_val 134 (.load 31 (.tmp 133)) (by kernel_rfl) (by rw[hsz];decide) (fun w=>qB _ _) fun ρ w ty pos af hb=>?_
   have g0:=hb.pre 0 (by simp[pred_r23])
   simp only[G_r23] at g0
   have hB:=hb.base
   have hcell:=hCk w hB
   exact⟨.slice ar ks.length cr,by simp[execOp,g0,hcell,go_sem],fun ρ_ e1 _=>e1⟩
  ·refine opDoes_val 135 (.move (.tmp 17)) (by kernel_rfl) (by rw[hsz];decide) (fun w=>qB _ _) fun ρ w ty pos af hb=>?_
   have h17:=(hb.out 17 (by kernel_rfl)).trans h17
   exact⟨.int .i64 (h:Int),by simp[execOp,go_sem,h17],fun ρ_ e1 _=>e1⟩
  ·refine opDoes_val 136 (.slice 31 (.tmp 134) none (some (.tmp 135)) none) (by kernel_rfl) (by rw[hsz];decide) (fun w=>qB _ _) fun ρ w ty pos af hb=>?_
   have g1:=hb.pre 1 (by simp[pred_r23])
   simp only[G_r23] at g1
   have g2:=hb.pre 2 (by simp[pred_r23])
   simp only[G_r23] at g2
   exact⟨.slice ar h cr,by simp[execOp,g1,g2,hrun1,go_sem],fun ρ_ e1 _=>e1⟩
  ·refine opDoes_val 137 (.fieldAddr 59 (.tmp 16) 3) (by kernel_rfl) (by rw[hsz];decide) (fun w=>qB _ _) fun ρ w ty pos af hb=>?_
   have h16:=(hb.out 16 (by kernel_rfl)).trans h16
   exact⟨.pointer (some ⟨qb,3,none⟩),by simp[execOp,go_sem,h16],fun ρ_ e1 _=>e1⟩
  ·refine opDoes_val 138 (.load 32 (.tmp 137)) (by kernel_rfl) (by rw[hsz];decide) (fun w=>qB _ _) fun ρ w ty pos af hb=>?_
   have g4:=hb.pre 4 (by simp[pred_r23])
   simp only[G_r23] at g4
   have hB:=hb.base
   have hcell:=hCd w hB
   exact⟨.slice ad ds.length cd,by simp[execOp,g4,hcell,go_sem],fun ρ_ e1 _=>e1⟩
  ·refine opDoes_val 139 (.move (.tmp 17)) (by kernel_rfl) (by rw[hsz];decide) (fun w=>qB _ _) fun ρ w ty pos af hb=>?_
   have h17:=(hb.out 17 (by kernel_rfl)).trans h17
   exact⟨.int .i64 (h:Int),by simp[execOp,go_sem,h17],fun ρ_ e1 _=>e1⟩
  ·refine opDoes_val 140 (.slice 32 (.tmp 138) none (some (.tmp 139)) none) (by kernel_rfl) (by rw[hsz];decide) (fun w=>qB _ _) fun ρ w ty pos af hb=>?_
   have g5:=hb.pre 5 (by simp[pred_r23])
   simp only[G_r23] at g5
   have g6:=hb.pre 6 (by simp[pred_r23])
   simp only[G_r23] at g6
   exact⟨.slice ad h cd,by simp[execOp,g5,g6,hrun2,go_sem],fun ρ_ e1 _=>e1⟩
  ·refine opDoes_val 141 (.build 59 #[(0,.const (.int .i64 2)),(2,.tmp 136),(3,.tmp 140)]) (by kernel_rfl) (by rw[hsz];decide) (fun w=>qB _ _) fun ρ w ty pos af hb=>?_
   have g3:=hb.pre 3 (by simp[pred_r23])
   simp only[G_r23] at g3
   have g7:=hb.pre 7 (by simp[pred_r23])
   simp only[G_r23] at g7
   have hc:=hb.const
   exact⟨.agg (brA (.slice ar h cr) (.slice ad h cd)),by simp[execOp,hc,g3,g7,go_sem,brA],fun ρ_ e1 _=>e1⟩
  ·refine opDoes_run 18 (.alloc 59) (by kernel_rfl) (by rw[hsz];decide) fun ρ w ty pos af hb=>?_
   have hB:=hb.base
   refine⟨_,_,by simp[execOp,go_sem];rfl,by unfold RAt;exact (Below.refl _ _).alloc qL _,fun ρ_ e1 _=>⟨_,e1,hB.size,_,?_,heap_newL w _⟩⟩
   rfl
 ·refine ends_store [133,134,135,136,137,138,139,140,141,18] (by kernel_rfl) 59 (.tmp 18) (.tmp 141) (by kernel_rfl) fun ρ w hc hout hB hG=>?_
  have g0:=hG 0 (by simp) (by kernel_rfl)
  simp only[G_r23] at g0
  have g1:=hG 1 (by simp) (by kernel_rfl)
  simp only[G_r23] at g1
  have g2:=hG 2 (by simp) (by kernel_rfl)
  simp only[G_r23] at g2
  have g3:=hG 3 (by simp) (by kernel_rfl)
  simp only[G_r23] at g3
  have g4:=hG 4 (by simp) (by kernel_rfl)
  simp only[G_r23] at g4
  have g5:=hG 5 (by simp) (by kernel_rfl)
  simp only[G_r23] at g5
  have g6:=hG 6 (by simp) (by kernel_rfl)
  simp only[G_r23] at g6
  have g7:=hG 7 (by simp) (by kernel_rfl)
  simp only[G_r23] at g7
  have g8:=hG 8 (by simp) (by kernel_rfl)
  simp only[G_r23] at g8
  have g9:=hG 9 (by simp) (by kernel_rfl)
  simp only[G_r23] at g9
  obtain⟨nb,e7,hnb,cur,hs,hcur⟩:=g9
  have hst:=run_storeVar_mid (P:=Tryz.prog) w nb 0 59 (brA (.slice ar h cr) (.slice ad h cd)) (there_objA hcur (by rw[hs];simp[brA])) Tryz.sizePg (by simp[brA,Value.oneCell'])
  refine⟨w.setCells nb 0 (brA (.slice ar h cr) (.slice ad h cd)).toList,by unfold execOp;simp only[e7,g8,Instr.storeAt,Instr.sureAddr,Sem.run_bind,Sem.run_pure,Result.andThen_ok,hst],?_⟩
  have hob:=heap_whole (vs:=(brA (.slice ar h cr) (.slice ad h cd)).toList) hcur (by rw[hs];simp[brA])
  have hgr:=grown_cellsB (g:=nb) (brA (.slice ar h cr) (.slice ad h cd)).toList 0 w
  have hkp:∀ (j:Nat) (cells:Array Value) (E:TypeId) (fr:Nat × Nat),E≠59→w.heap[j]?=some (.cells cells E fr)→(w.setCells nb 0 (brA (.slice ar h cr) (.slice ad h cd)).toList).heap[j]?=w.heap[j]?:=fun j cells E fr hne e=>hgr.block j (qA e) (fun e2=>by cases e2;rw[hcur] at e;simp only[qQ,qX] at e;exact hne e.2.1.symm)
  have hqb:qb<w0.heap.size:=(qA hq.obj)
  have hqo:=(hgr.block qb (by have:=hB.size;omega) (by simp;omega)).trans ((hB.block qb hqb).trans hq.obj)
  have hbel:=hB.grown hgr hB.size (fun j e=>by cases e;exact hnb)
  have hC0:C≤w0.heap.size:=qN hC hq.bel.size
  have hbz:=hq.bel.trans (hbel.mono hC0)
  generalize w.setCells nb 0 (brA (.slice ar h cr) (.slice ad h cd)).toList=Z at *
  simp only[List.foldl_cons,List.foldl_nil,g0,g1,g2,g3,g4,g5,g6,g7,g8,e7]
  have hN1:NewT C 9 Z (.slice ar (ks.take h).length cr) (ks.take h).length (strsC (ks.take h)):=by
   rw[List.length_take,Nat.min_eq_left hk]
   have h5:=(NewT.head (C:=C) (E:=9) ⟨ar,cr,rfl,hsk,hbk⟩ h hk).below hbel
   rwa [strsC_take] at h5
  have hN2:NewT C 3 Z (.slice ad (ds.take h).length cd) (ds.take h).length (intsC (ds.take h)):=by
   rw[List.length_take,Nat.min_eq_left hd]
   have h5:=(NewT.head (C:=C) (E:=3) ⟨ad,cd,rfl,hsd,hbd⟩ h hd).below hbel
   rwa [intsC_take] at h5
  rw[List.length_take,Nat.min_eq_left hk] at hN1
  rw[List.length_take,Nat.min_eq_left hd] at hN2
  exact hQ nb Z ⟨hqo,hq.new,hq.keys.below hbel,hq.kids.below hbel,hbz⟩ ⟨by simpa using hob,Nat.le_trans hC0 hnb,by rw[List.length_take,Nat.min_eq_left hk];exact hN1,by rw[List.length_take,Nat.min_eq_left hd];exact hN2,hbz⟩ hbel
end
section
open Go.RowKit
def pred_r24:Nat→List Nat|2=>[1]|4=>[3]|5=>[2,4]|6=>[0,5]|8=>[7]|10=>[8,9]|11=>[6,10]|_=>[]
def slots_r24:Nat→List Tmp|0=>[142]|1=>[143]|2=>[144]|3=>[145]|4=>[146]|5=>[147]|6=>[148]|7=>[149]|8=>[150]|9=>[151]|10=>[152]|11=>[153,148]|12=>[19]|_=>[]
def dead_r24:Nat→Nat→Bool|0,6=>true|_,_=>false
def G_r24 (w0:World) (qb:Nat) (h:Nat) (ks:List ByteArray) (ds:List Int) (ar:Option Addr) (cr:Nat) (ad:Option Addr) (cd:Nat) (bo:Option Addr) (bd:Option Addr):Nat→(Operand→Value)→World→Prop
 | 0,ρ,w=>∃ a c,ρ (.tmp 142)=.slice a (1) c∧w.ownsRow w0.heap.size 9 1 (ρ (.tmp 142)) (1) ([.string ⟨#[]⟩])
 | 1,ρ,_=>ρ (.tmp 143)=.pointer (some ⟨qb,2,none⟩)
 | 2,ρ,_=>ρ (.tmp 144)=.slice ar ks.length cr
 | 3,ρ,_=>ρ (.tmp 145)=.int .i64 (h:Int)
 | 4,ρ,_=>ρ (.tmp 146)=.int .i64 ((h:Int)+1)
 | 5,ρ,_=>ρ (.tmp 147)=.slice bo (ks.length - (h+1)) (cr - (h+1))
 | 6,ρ,w=>∃ a c,ρ (.tmp 148)=.slice a (1+(ks.length - (h+1))) c∧w.ownsRow w0.heap.size 9 1 (ρ (.tmp 148)) (1+(ks.length - (h+1))) ([.string ⟨#[]⟩]++strsC (ks.drop (h+1)))
 | 7,ρ,_=>ρ (.tmp 149)=.pointer (some ⟨qb,3,none⟩)
 | 8,ρ,_=>ρ (.tmp 150)=.slice ad ds.length cd
 | 9,ρ,_=>ρ (.tmp 151)=.int .i64 (h:Int)
 | 10,ρ,_=>ρ (.tmp 152)=.slice bd (ds.length - h) (cd - h)
 | 11,ρ,_=>ρ (.tmp 153)=.agg (brA (ρ (.tmp 148)) (.slice bd (ds.length - h) (cd - h)))
 | 12,ρ,w=>∃ nb,ρ (.tmp 19)=.pointer (some ⟨nb,0,none⟩)∧w0.heap.size≤nb∧∃ cur:Array Value,cur.size=14∧w.heap[nb]?=some (.cells cur 59 (0,0))
 | _,_,_=>True
theorem hk_r24:hkB (opsOf Tryz.f52 24) [0,1,2,3,4,5,6,7,8,9,10,11,12] [13] dead_r24 pred_r24 slots_r24=true:=by kernel_rfl
theorem r24 (w0 wz:World) (C qb h:Nat) (ks:List ByteArray) (ds:List Int) (ar:Option Addr) (cr:Nat) (ad:Option Addr) (cd:Nat) {ops:Array Oper} (hops:ops=opsOf Tryz.f52 24) {a0:Act} {Q:Exit→Act→World→Prop} (hsz:a0.tmps.size=175) (h16:a0.eval (.tmp 16)=.pointer (some ⟨qb,0,none⟩)) (h17:a0.eval (.tmp 17)=.int .i64 (h:Int)) (hq:Qb C wz w0 qb ks ds (.slice ar ks.length cr) (.slice ad ds.length cd)) (hC:C≤wz.heap.size) (hk:h+1≤ks.length) (hkn:ks.length≤1000) (hd:h≤ds.length)
  (hQ:∀ v0 bo bd a6 c6 ab w',Qb C wz w' qb ks ds (.slice ar ks.length cr) (.slice ad ds.length cd)→Qb C wz w' ab (⟨#[]⟩::ks.drop (h+1)) (ds.drop h) (.slice a6 (1+(ks.length - (h+1))) c6) (.slice bd (ds.length - h) (cd - h))→Below w0.heap.size w0 w'→Q .normal ([(142,v0),(143,.pointer (some ⟨qb,2,none⟩)),(144,.slice ar ks.length cr),(145,.int .i64 (h:Int)),(146,.int .i64 ((h:Int)+1)),(147,.slice bo (ks.length - (h+1)) (cr - (h+1))),(148,.slice a6 (1+(ks.length - (h+1))) c6),(149,.pointer (some ⟨qb,3,none⟩)),(150,.slice ad ds.length cd),(151,.int .i64 (h:Int)),(152,.slice bd (ds.length - h) (cd - h)),(153,.agg (brA (.slice a6 (1+(ks.length - (h+1))) c6) (.slice bd (ds.length - h) (cd - h)))),(19,.pointer (some ⟨ab,0,none⟩))].foldl (fun b (x:Nat × Value)=>b.put (some x.1) x.2) a0) w'):(Code.region 24 ops true).wp Tryz.prog Q a0 w0:=by
 subst hops
 have hCk:∀ W,Below w0.heap.size w0 W→W.cell? ⟨qb,2,none⟩=some (.slice ar ks.length cr):=fun W hW=>(hW.cell (p:=⟨qb,2,none⟩) (qA hq.obj)).trans (cell_rowL hq.obj 2)
 have hCd:∀ W,Below w0.heap.size w0 W→W.cell? ⟨qb,3,none⟩=some (.slice ad ds.length cd):=fun W hW=>(hW.cell (p:=⟨qb,3,none⟩) (qA hq.obj)).trans (cell_rowL hq.obj 3)
 have hqk0:=hq.keys
 obtain⟨a1',c1',e1',hsk,hbk⟩:=hqk0
 simp only[qR,true_and] at e1'
 obtain⟨rfl,rfl⟩:=e1'
 have hqd0:=hq.kids
 obtain⟨a2',c2',e2',hsd,hbd⟩:=hqd0
 simp only[qR,true_and] at e2'
 obtain⟨rfl,rfl⟩:=e2'
 have hw1:IntKind.i64.wrap ((h:Int)+1)=(h:Int)+1:=by rw[IntKind.wrap_i64];omega
 obtain⟨bo,hrun1,hbo,htl⟩:=hsk.tail Tryz.underlying31 Tryz.szStrB (h+1) hk
 rw[Int.natCast_succ] at hrun1
 obtain⟨bd,hrun2,hbd2,htd⟩:=hsd.tail Tryz.underlying32 Tryz.szIntB h hd
 have hTail:∀ W,Below w0.heap.size w0 W→SlAt 1 W bo (cr - (h+1)) (ks.length - (h+1)) (strsC (ks.drop (h+1))):=fun W hW=>by
  have:=htl W (hsk.below hW)
  rwa [strsC_drop] at this
 refine wp_region_facts [0,1,2,3,4,5,6,7,8,9,10,11,12] [13] dead_r24 pred_r24 slots_r24 (fun W=>Below w0.heap.size w0 W) (RAt [6] w0.heap.size 9) (G_r24 w0 qb h ks ds ar cr ad cd bo bd) (by kernel_rfl) hk_r24 ?_ ?_ ?_ ?_ ?_ ?_
 ·exact⟨qB _ _,(qB _ _).drew⟩
 ·intro j hj w w' hB hR
  exact RAt.step hR hB qL
 ·intro i hi j hj hne hnp hdd ρ w w' hB hR hG
  rcases (by simpa using hi:i=0∨i=1∨i=2∨i=3∨i=4∨i=5∨i=6∨i=7∨i=8∨i=9∨i=10∨i=11∨i=12) with rfl|rfl|rfl|rfl|rfl|rfl|rfl|rfl|rfl|rfl|rfl|rfl|rfl
  ·obtain⟨a,c,e,ho⟩:=hG
   exact⟨a,c,e,own_belowA ho (hR.new (by intro hx;simp at hx;rcases hx with rfl<;>first|exact absurd rfl hne|exact absurd hdd (by decide)|exact absurd (by decide) hnp))⟩
  ·exact hG
  ·exact hG
  ·exact hG
  ·exact hG
  ·exact hG
  ·obtain⟨a,c,e,ho⟩:=hG
   exact⟨a,c,e,own_belowA ho (hR.new (by intro hx;simp at hx;rcases hx with rfl<;>first|exact absurd rfl hne|exact absurd hdd (by decide)|exact absurd (by decide) hnp))⟩
  ·exact hG
  ·exact hG
  ·exact hG
  ·exact hG
  ·exact hG
  ·obtain⟨nb,e,hq',cur,hs,hcur⟩:=hG
   exact⟨nb,e,hq',cur,hs,(hR.box hB.size).far' hcur⟩
 ·intro i hi ρ ρ' w h hG
  rcases (by simpa using hi:i=0∨i=1∨i=2∨i=3∨i=4∨i=5∨i=6∨i=7∨i=8∨i=9∨i=10∨i=11∨i=12) with rfl|rfl|rfl|rfl|rfl|rfl|rfl|rfl|rfl|rfl|rfl|rfl|rfl
  ·have e142:=h 142 (by simp[slots_r24]);simp only[G_r24] at hG ⊢;rw[← e142];exact hG
  ·have e143:=h 143 (by simp[slots_r24]);simp only[G_r24] at hG ⊢;rw[← e143];exact hG
  ·have e144:=h 144 (by simp[slots_r24]);simp only[G_r24] at hG ⊢;rw[← e144];exact hG
  ·have e145:=h 145 (by simp[slots_r24]);simp only[G_r24] at hG ⊢;rw[← e145];exact hG
  ·have e146:=h 146 (by simp[slots_r24]);simp only[G_r24] at hG ⊢;rw[← e146];exact hG
  ·have e147:=h 147 (by simp[slots_r24]);simp only[G_r24] at hG ⊢;rw[← e147];exact hG
  ·have e148:=h 148 (by simp[slots_r24]);simp only[G_r24] at hG ⊢;rw[← e148];exact hG
  ·have e149:=h 149 (by simp[slots_r24]);simp only[G_r24] at hG ⊢;rw[← e149];exact hG
  ·have e150:=h 150 (by simp[slots_r24]);simp only[G_r24] at hG ⊢;rw[← e150];exact hG
  ·have e151:=h 151 (by simp[slots_r24]);simp only[G_r24] at hG ⊢;rw[← e151];exact hG
  ·have e152:=h 152 (by simp[slots_r24]);simp only[G_r24] at hG ⊢;rw[← e152];exact hG
  ·have e153:=h 153 (by simp[slots_r24]);have e148:=h 148 (by simp[slots_r24]);simp only[G_r24] at hG ⊢;rw[← e153,← e148];exact hG
  ·have e19:=h 19 (by simp[slots_r24]);simp only[G_r24] at hG ⊢;rw[← e19];exact hG
 ·intro i hi
  rcases (by simpa using hi:i=0∨i=1∨i=2∨i=3∨i=4∨i=5∨i=6∨i=7∨i=8∨i=9∨i=10∨i=11∨i=12) with rfl|rfl|rfl|rfl|rfl|rfl|rfl|rfl|rfl|rfl|rfl|rfl|rfl
  ·refine opDoes_run 142 (.buildSlice 31 1 #[(0,.const (.string ⟨#[]⟩))]) (by kernel_rfl) (by rw[hsz];decide) fun ρ w ty pos af hb=>?_
   have hc:=hb.const
   have hB:=hb.base
   refine⟨.slice (some ⟨w.heap.size,0,none⟩) 1 1,w.alloc (.cells #[.string ⟨#[]⟩] 9),by simp[execOp,hc,go_sem],?_,fun ρ_ e1 _=>⟨_,_,e1,by rw[e1];exact own_lit1 hB.size⟩⟩
   unfold RAt;exact (qB _ _).alloc qL _
  ·refine opDoes_val 143 (.fieldAddr 59 (.tmp 16) 2) (by kernel_rfl) (by rw[hsz];decide) (fun w=>qB _ _) fun ρ w ty pos af hb=>?_
   have h16:=(hb.out 16 (by kernel_rfl)).trans h16
   exact⟨.pointer (some ⟨qb,2,none⟩),by simp[execOp,go_sem,h16],fun ρ_ e1 _=>e1⟩
  ·refine opDoes_val 144 (.load 31 (.tmp 143)) (by kernel_rfl) (by rw[hsz];decide) (fun w=>qB _ _) fun ρ w ty pos af hb=>?_
   have g1:=hb.pre 1 (by simp[pred_r24])
   simp only[G_r24] at g1
   have hB:=hb.base
   have hcell:=hCk w hB
   exact⟨.slice ar ks.length cr,by simp[execOp,g1,hcell,go_sem],fun ρ_ e1 _=>e1⟩
  ·refine opDoes_val 145 (.move (.tmp 17)) (by kernel_rfl) (by rw[hsz];decide) (fun w=>qB _ _) fun ρ w ty pos af hb=>?_
   have h17:=(hb.out 17 (by kernel_rfl)).trans h17
   exact⟨.int .i64 (h:Int),by simp[execOp,go_sem,h17],fun ρ_ e1 _=>e1⟩
  ·refine opDoes_val 146 (.binOp .add 3 (.tmp 145) (.const (.int .i64 1)) 3) (by kernel_rfl) (by rw[hsz];decide) (fun w=>qB _ _) fun ρ w ty pos af hb=>?_
   have g3:=hb.pre 3 (by simp[pred_r24])
   simp only[G_r24] at g3
   have hc:=hb.const
   exact⟨.int .i64 ((h:Int)+1),by simp[execOp,hc,g3,go_sem,hw1],fun ρ_ e1 _=>e1⟩
  ·refine opDoes_val 147 (.slice 31 (.tmp 144) (some (.tmp 146)) none none) (by kernel_rfl) (by rw[hsz];decide) (fun w=>qB _ _) fun ρ w ty pos af hb=>?_
   have g2:=hb.pre 2 (by simp[pred_r24])
   simp only[G_r24] at g2
   have g4:=hb.pre 4 (by simp[pred_r24])
   simp only[G_r24] at g4
   exact⟨.slice bo (ks.length - (h+1)) (cr - (h+1)),by simp[execOp,g2,g4,hrun1,go_sem],fun ρ_ e1 _=>e1⟩
  ·refine opDoes_append 148 (.tmp 142) (.tmp 147) 31 (by kernel_rfl) (by rw[hsz];decide) fun ρ w ty hb=>?_
   have g0:=hb.pre 0 (by simp[pred_r24])
   simp only[G_r24] at g0
   have g5:=hb.pre 5 (by simp[pred_r24])
   simp only[G_r24] at g5
   have hB:=hb.base
   obtain⟨a0_,c0_,e0_,ho0⟩:=g0
   obtain⟨v',w',hr,⟨a,c,e6⟩,ho,hb2⟩:=own_app ho0 (hTail w hB) Tryz.underlying31 Tryz.infoStrA rfl hB.size (by omega) (by omega) ty
   exact⟨v',w',by rw[g5];exact hr,by unfold RAt;exact hb2,fun ρ_ e1 _=>⟨a,c,e1.trans e6,by rw[e1];exact ho⟩⟩
  ·refine opDoes_val 149 (.fieldAddr 59 (.tmp 16) 3) (by kernel_rfl) (by rw[hsz];decide) (fun w=>qB _ _) fun ρ w ty pos af hb=>?_
   have h16:=(hb.out 16 (by kernel_rfl)).trans h16
   exact⟨.pointer (some ⟨qb,3,none⟩),by simp[execOp,go_sem,h16],fun ρ_ e1 _=>e1⟩
  ·refine opDoes_val 150 (.load 32 (.tmp 149)) (by kernel_rfl) (by rw[hsz];decide) (fun w=>qB _ _) fun ρ w ty pos af hb=>?_
   have g7:=hb.pre 7 (by simp[pred_r24])
   simp only[G_r24] at g7
   have hB:=hb.base
   have hcell:=hCd w hB
   exact⟨.slice ad ds.length cd,by simp[execOp,g7,hcell,go_sem],fun ρ_ e1 _=>e1⟩
  ·refine opDoes_val 151 (.move (.tmp 17)) (by kernel_rfl) (by rw[hsz];decide) (fun w=>qB _ _) fun ρ w ty pos af hb=>?_
   have h17:=(hb.out 17 (by kernel_rfl)).trans h17
   exact⟨.int .i64 (h:Int),by simp[execOp,go_sem,h17],fun ρ_ e1 _=>e1⟩
  ·refine opDoes_val 152 (.slice 32 (.tmp 150) (some (.tmp 151)) none none) (by kernel_rfl) (by rw[hsz];decide) (fun w=>qB _ _) fun ρ w ty pos af hb=>?_
   have g8:=hb.pre 8 (by simp[pred_r24])
   simp only[G_r24] at g8
   have g9:=hb.pre 9 (by simp[pred_r24])
   simp only[G_r24] at g9
   exact⟨.slice bd (ds.length - h) (cd - h),by simp[execOp,g8,g9,hrun2,go_sem],fun ρ_ e1 _=>e1⟩
  ·refine opDoes_val 153 (.build 59 #[(0,.const (.int .i64 2)),(2,.tmp 148),(3,.tmp 152)]) (by kernel_rfl) (by rw[hsz];decide) (fun w=>qB _ _) fun ρ w ty pos af hb=>?_
   have g6:=hb.pre 6 (by simp[pred_r24])
   simp only[G_r24] at g6
   have g10:=hb.pre 10 (by simp[pred_r24])
   simp only[G_r24] at g10
   have hc:=hb.const
   obtain⟨a6,c6,e6,-⟩:=g6
   exact⟨.agg (brA (ρ (.tmp 148)) (.slice bd (ds.length - h) (cd - h))),by simp[execOp,hc,e6,g10,go_sem,brA],fun ρ_ e1 e2=>by show ρ_ (.tmp 153)=.agg (brA (ρ_ (.tmp 148)) (.slice bd (ds.length - h) (cd - h)));rw[e1,e2 148 (by decide)]⟩
  ·refine opDoes_run 19 (.alloc 59) (by kernel_rfl) (by rw[hsz];decide) fun ρ w ty pos af hb=>?_
   have hB:=hb.base
   refine⟨_,_,by simp[execOp,go_sem];rfl,by unfold RAt;exact (Below.refl _ _).alloc qL _,fun ρ_ e1 _=>⟨_,e1,hB.size,_,?_,heap_newL w _⟩⟩
   rfl
 ·refine ends_store [142,143,144,145,146,147,148,149,150,151,152,153,19] (by kernel_rfl) 59 (.tmp 19) (.tmp 153) (by kernel_rfl) fun ρ w hc hout hB hG=>?_
  have g1:=hG 1 (by simp) (by kernel_rfl)
  simp only[G_r24] at g1
  have g2:=hG 2 (by simp) (by kernel_rfl)
  simp only[G_r24] at g2
  have g3:=hG 3 (by simp) (by kernel_rfl)
  simp only[G_r24] at g3
  have g4:=hG 4 (by simp) (by kernel_rfl)
  simp only[G_r24] at g4
  have g5:=hG 5 (by simp) (by kernel_rfl)
  simp only[G_r24] at g5
  have g6:=hG 6 (by simp) (by kernel_rfl)
  simp only[G_r24] at g6
  have g7:=hG 7 (by simp) (by kernel_rfl)
  simp only[G_r24] at g7
  have g8:=hG 8 (by simp) (by kernel_rfl)
  simp only[G_r24] at g8
  have g9:=hG 9 (by simp) (by kernel_rfl)
  simp only[G_r24] at g9
  have g10:=hG 10 (by simp) (by kernel_rfl)
  simp only[G_r24] at g10
  have g11:=hG 11 (by simp) (by kernel_rfl)
  simp only[G_r24] at g11
  have g12:=hG 12 (by simp) (by kernel_rfl)
  simp only[G_r24] at g12
  obtain⟨a6,c6,e6,ho6⟩:=g6
  rw[e6] at ho6 g11
  obtain⟨nb,e7,hnb,cur,hs,hcur⟩:=g12
  have hst:=run_storeVar_mid (P:=Tryz.prog) w nb 0 59 (brA (.slice a6 (1+(ks.length - (h+1))) c6) (.slice bd (ds.length - h) (cd - h))) (there_objA hcur (by rw[hs];simp[brA])) Tryz.sizePg (by simp[brA,Value.oneCell'])
  refine⟨w.setCells nb 0 (brA (.slice a6 (1+(ks.length - (h+1))) c6) (.slice bd (ds.length - h) (cd - h))).toList,by unfold execOp;simp only[e7,g11,Instr.storeAt,Instr.sureAddr,Sem.run_bind,Sem.run_pure,Result.andThen_ok,hst],?_⟩
  have hob:=heap_whole (vs:=(brA (.slice a6 (1+(ks.length - (h+1))) c6) (.slice bd (ds.length - h) (cd - h))).toList) hcur (by rw[hs];simp[brA])
  have hgr:=grown_cellsB (g:=nb) (brA (.slice a6 (1+(ks.length - (h+1))) c6) (.slice bd (ds.length - h) (cd - h))).toList 0 w
  have hkp:∀ (j:Nat) (cells:Array Value) (E:TypeId) (fr:Nat × Nat),E≠59→w.heap[j]?=some (.cells cells E fr)→(w.setCells nb 0 (brA (.slice a6 (1+(ks.length - (h+1))) c6) (.slice bd (ds.length - h) (cd - h))).toList).heap[j]?=w.heap[j]?:=fun j cells E fr hne e=>hgr.block j (qA e) (fun e2=>by cases e2;rw[hcur] at e;simp only[qQ,qX] at e;exact hne e.2.1.symm)
  have hqb:qb<w0.heap.size:=(qA hq.obj)
  have hqo:=(hgr.block qb (by have:=hB.size;omega) (by simp;omega)).trans ((hB.block qb hqb).trans hq.obj)
  have hbel:=hB.grown hgr hB.size (fun j e=>by cases e;exact hnb)
  have hC0:C≤w0.heap.size:=qN hC hq.bel.size
  have hbz:=hq.bel.trans (hbel.mono hC0)
  have hN0:NewT C 9 w (.slice a6 (1+(ks.length - (h+1))) c6) (1+(ks.length - (h+1))) ([.string ⟨#[]⟩]++strsC (ks.drop (h+1))):=NewT.own ho6 (fun u hu=>by
   rcases List.mem_append.1 hu with h|h
   ·simp at h;subst h;rfl
   ·exact strsC_one _ _ h) (qN hC hq.bel.size)
  have hN1:=hN0.keep fun j cells fr _ e=>hkp j _ _ _ (by decide) e
  generalize w.setCells nb 0 (brA (.slice a6 (1+(ks.length - (h+1))) c6) (.slice bd (ds.length - h) (cd - h))).toList=Z at *
  simp only[List.foldl_cons,List.foldl_nil,g1,g2,g3,g4,g5,e6,g7,g8,g9,g10,g11,e7]
  have hl1:((⟨#[]⟩:ByteArray)::ks.drop (h+1)).length=1+(ks.length - (h+1)):=by simp;omega
  have hl2:(ds.drop h).length=ds.length - h:=by simp
  have hN2:NewT C 3 Z (.slice bd (ds.length - h) (cd - h)) (ds.length - h) (intsC (ds.drop h)):=by
   have h5:=(NewT.ofTail (C:=C) (E:=3) ⟨ad,cd,rfl,hsd,hbd⟩ hbd2 (htd w0 hsd)).below hbel
   rwa [intsC_drop] at h5
  exact hQ _ bo bd a6 c6 nb Z ⟨hqo,hq.new,hq.keys.below hbel,hq.kids.below hbel,hbz⟩ ⟨by simpa using hob,Nat.le_trans hC0 hnb,by rw[hl1];exact hN1,by rw[hl2];exact hN2,hbz⟩ hbel
end
section
open Go.RowKit
def pred_r29:Nat→List Nat|3=>[2]|5=>[3,4]|6=>[5]|8=>[0]|9=>[1]|10=>[6]|11=>[7]|_=>[]
def slots_r29:Nat→List Tmp|0=>[167]|1=>[168]|2=>[169]|3=>[170]|4=>[171]|5=>[172]|6=>[173]|7=>[174]|8=>[6]|9=>[7]|10=>[8]|11=>[9]|_=>[]
def dead_r29:Nat→Nat→Bool|_,_=>false
def G_r29 (qb:Nat) (h:Nat) (ks:List ByteArray) (ar:Option Addr) (cr:Nat) (id:Int) (n:Int) (e:Int) (kb:Nat) (ko:Nat):Nat→(Operand→Value)→World→Prop
 | 0,ρ,_=>ρ (.tmp 167)=.int .i64 id
 | 1,ρ,_=>ρ (.tmp 168)=.int .i64 n
 | 2,ρ,_=>ρ (.tmp 169)=.pointer (some ⟨qb,2,none⟩)
 | 3,ρ,_=>ρ (.tmp 170)=.slice ar ks.length cr
 | 4,ρ,_=>ρ (.tmp 171)=.int .i64 (h:Int)
 | 5,ρ,_=>ρ (.tmp 172)=.pointer (some ⟨kb,ko,none⟩)
 | 6,ρ,_=>ρ (.tmp 173)=.string (ks.getD h ⟨#[]⟩)
 | 7,ρ,_=>ρ (.tmp 174)=.int .i64 e
 | 8,ρ,_=>ρ (.tmp 6)=.int .i64 id
 | 9,ρ,_=>ρ (.tmp 7)=.int .i64 n
 | 10,ρ,_=>ρ (.tmp 8)=.string (ks.getD h ⟨#[]⟩)
 | 11,ρ,_=>ρ (.tmp 9)=.int .i64 e
 | _,_,_=>True
theorem hk_r29:hkB (opsOf Tryz.f52 29) [0,1,2,3,4,5,6,7,8,9,10,11] [] dead_r29 pred_r29 slots_r29=true:=by kernel_rfl
theorem r29 (w0 wz:World) (C qb h:Nat) (ks:List ByteArray) (ds:List Int) (ar:Option Addr) (cr:Nat) (vd:Value) (id n e:Int) {ops:Array Oper} (hops:ops=opsOf Tryz.f52 29) {a0:Act} {Q:Exit→Act→World→Prop} (hsz:a0.tmps.size=175) (h16:a0.eval (.tmp 16)=.pointer (some ⟨qb,0,none⟩)) (h17:a0.eval (.tmp 17)=.int .i64 (h:Int)) (h1:a0.eval (.tmp 1)=.int .i64 id) (h20:a0.eval (.tmp 20)=.int .i64 n) (h10:a0.eval (.tmp 10)=.int .i64 e) (hq:Qb C wz w0 qb ks ds (.slice ar ks.length cr) vd) (hk:h<ks.length)
  (hQ:∀ kb ko w',Below w0.heap.size w0 w'→Q .normal ([(167,.int .i64 id),(168,.int .i64 n),(169,.pointer (some ⟨qb,2,none⟩)),(170,.slice ar ks.length cr),(171,.int .i64 (h:Int)),(172,.pointer (some ⟨kb,ko,none⟩)),(173,.string (ks.getD h ⟨#[]⟩)),(174,.int .i64 e),(6,.int .i64 id),(7,.int .i64 n),(8,.string (ks.getD h ⟨#[]⟩)),(9,.int .i64 e)].foldl (fun b (x:Nat × Value)=>b.put (some x.1) x.2) a0) w'):(Code.region 29 ops true).wp Tryz.prog Q a0 w0:=by
 subst hops
 have hCk:∀ W,Below w0.heap.size w0 W→W.cell? ⟨qb,2,none⟩=some (.slice ar ks.length cr):=fun W hW=>(hW.cell (p:=⟨qb,2,none⟩) (qA hq.obj)).trans (cell_rowL hq.obj 2)
 have hqk0:=hq.keys
 obtain⟨a1',c1',e1',hsk,hbk⟩:=hqk0
 simp only[qR,true_and] at e1'
 obtain⟨rfl,rfl⟩:=e1'
 obtain⟨kb,o1,e3',hkl,hix,hrg⟩:=hsk.get (by omega) Tryz.underlying31 Tryz.szStrB h hk
 clear e3'
 simp only[Nat.mul_one] at hix hrg
 have hkc:w0.cell? ⟨kb,o1+h,none⟩=some (.string (ks.getD h ⟨#[]⟩)):=by
  have:=hrg 0 (.string (ks.getD h ⟨#[]⟩)) (by simp[strsC,List.getD,hk])
  simpa using this
 generalize o1+h=ko at *
 refine wp_region_facts [0,1,2,3,4,5,6,7,8,9,10,11] [] dead_r29 pred_r29 slots_r29 (fun W=>Below w0.heap.size w0 W) (fun _ w w'=>Below w.heap.size w w') (G_r29 qb h ks ar cr id n e kb ko) (by kernel_rfl) hk_r29 ?_ ?_ ?_ ?_ ?_ ?_
 ·exact⟨qB _ _,(qB _ _).drew⟩
 ·intro j hj w w' hB hR
  exact hB.trans (hR.mono hB.size)
 ·intro i hi j hj hne hnp hdd ρ w w' hB hR hG
  rcases (by simpa using hi:i=0∨i=1∨i=2∨i=3∨i=4∨i=5∨i=6∨i=7∨i=8∨i=9∨i=10∨i=11) with rfl|rfl|rfl|rfl|rfl|rfl|rfl|rfl|rfl|rfl|rfl|rfl
  ·exact hG
  ·exact hG
  ·exact hG
  ·exact hG
  ·exact hG
  ·exact hG
  ·exact hG
  ·exact hG
  ·exact hG
  ·exact hG
  ·exact hG
  ·exact hG
 ·intro i hi ρ ρ' w h hG
  rcases (by simpa using hi:i=0∨i=1∨i=2∨i=3∨i=4∨i=5∨i=6∨i=7∨i=8∨i=9∨i=10∨i=11) with rfl|rfl|rfl|rfl|rfl|rfl|rfl|rfl|rfl|rfl|rfl|rfl
  ·have e167:=h 167 (by simp[slots_r29]);simp only[G_r29] at hG ⊢;rw[← e167];exact hG
  ·have e168:=h 168 (by simp[slots_r29]);simp only[G_r29] at hG ⊢;rw[← e168];exact hG
  ·have e169:=h 169 (by simp[slots_r29]);simp only[G_r29] at hG ⊢;rw[← e169];exact hG
  ·have e170:=h 170 (by simp[slots_r29]);simp only[G_r29] at hG ⊢;rw[← e170];exact hG
  ·have e171:=h 171 (by simp[slots_r29]);simp only[G_r29] at hG ⊢;rw[← e171];exact hG
  ·have e172:=h 172 (by simp[slots_r29]);simp only[G_r29] at hG ⊢;rw[← e172];exact hG
  ·have e173:=h 173 (by simp[slots_r29]);simp only[G_r29] at hG ⊢;rw[← e173];exact hG
  ·have e174:=h 174 (by simp[slots_r29]);simp only[G_r29] at hG ⊢;rw[← e174];exact hG
  ·have e6:=h 6 (by simp[slots_r29]);simp only[G_r29] at hG ⊢;rw[← e6];exact hG
  ·have e7:=h 7 (by simp[slots_r29]);simp only[G_r29] at hG ⊢;rw[← e7];exact hG
  ·have e8:=h 8 (by simp[slots_r29]);simp only[G_r29] at hG ⊢;rw[← e8];exact hG
  ·have e9:=h 9 (by simp[slots_r29]);simp only[G_r29] at hG ⊢;rw[← e9];exact hG
 ·intro i hi
  rcases (by simpa using hi:i=0∨i=1∨i=2∨i=3∨i=4∨i=5∨i=6∨i=7∨i=8∨i=9∨i=10∨i=11) with rfl|rfl|rfl|rfl|rfl|rfl|rfl|rfl|rfl|rfl|rfl|rfl
  ·refine opDoes_val 167 (.move (.tmp 1)) (by kernel_rfl) (by rw[hsz];decide) (fun w=>qB _ _) fun ρ w ty pos af hb=>?_
   have h1:=(hb.out 1 (by kernel_rfl)).trans h1
   exact⟨.int .i64 id,by simp[execOp,go_sem,h1],fun ρ_ e1 _=>e1⟩
  ·refine opDoes_val 168 (.move (.tmp 20)) (by kernel_rfl) (by rw[hsz];decide) (fun w=>qB _ _) fun ρ w ty pos af hb=>?_
   have h20:=(hb.out 20 (by kernel_rfl)).trans h20
   exact⟨.int .i64 n,by simp[execOp,go_sem,h20],fun ρ_ e1 _=>e1⟩
  ·refine opDoes_val 169 (.fieldAddr 59 (.tmp 16) 2) (by kernel_rfl) (by rw[hsz];decide) (fun w=>qB _ _) fun ρ w ty pos af hb=>?_
   have h16:=(hb.out 16 (by kernel_rfl)).trans h16
   exact⟨.pointer (some ⟨qb,2,none⟩),by simp[execOp,go_sem,h16],fun ρ_ e1 _=>e1⟩
  ·refine opDoes_val 170 (.load 31 (.tmp 169)) (by kernel_rfl) (by rw[hsz];decide) (fun w=>qB _ _) fun ρ w ty pos af hb=>?_
   have g2:=hb.pre 2 (by simp[pred_r29])
   simp only[G_r29] at g2
   have hB:=hb.base
   have hcell:=hCk w hB
   exact⟨.slice ar ks.length cr,by simp[execOp,g2,hcell,go_sem],fun ρ_ e1 _=>e1⟩
  ·refine opDoes_val 171 (.move (.tmp 17)) (by kernel_rfl) (by rw[hsz];decide) (fun w=>qB _ _) fun ρ w ty pos af hb=>?_
   have h17:=(hb.out 17 (by kernel_rfl)).trans h17
   exact⟨.int .i64 (h:Int),by simp[execOp,go_sem,h17],fun ρ_ e1 _=>e1⟩
  ·refine opDoes_val 172 (.indexAddr 31 (.tmp 170) (.tmp 171)) (by kernel_rfl) (by rw[hsz];decide) (fun w=>qB _ _) fun ρ w ty pos af hb=>?_
   have g3:=hb.pre 3 (by simp[pred_r29])
   simp only[G_r29] at g3
   have g4:=hb.pre 4 (by simp[pred_r29])
   simp only[G_r29] at g4
   exact⟨.pointer (some ⟨kb,ko,none⟩),by simp[execOp,g3,g4,hix,go_sem],fun ρ_ e1 _=>e1⟩
  ·refine opDoes_val 173 (.load 9 (.tmp 172)) (by kernel_rfl) (by rw[hsz];decide) (fun w=>qB _ _) fun ρ w ty pos af hb=>?_
   have g5:=hb.pre 5 (by simp[pred_r29])
   simp only[G_r29] at g5
   have hB:=hb.base
   have hcell:=(hB.cell (p:=⟨kb,ko,none⟩) hkl).trans hkc
   exact⟨.string (ks.getD h ⟨#[]⟩),by simp[execOp,g5,hcell,go_sem],fun ρ_ e1 _=>e1⟩
  ·refine opDoes_val 174 (.move (.tmp 10)) (by kernel_rfl) (by rw[hsz];decide) (fun w=>qB _ _) fun ρ w ty pos af hb=>?_
   have h10:=(hb.out 10 (by kernel_rfl)).trans h10
   exact⟨.int .i64 e,by simp[execOp,go_sem,h10],fun ρ_ e1 _=>e1⟩
  ·refine opDoes_val 6 (.assign (.tmp 167)) (by kernel_rfl) (by rw[hsz];decide) (fun w=>qB _ _) fun ρ w ty pos af hb=>?_
   have g0:=hb.pre 0 (by simp[pred_r29])
   simp only[G_r29] at g0
   exact⟨.int .i64 id,by simp[execOp,g0,go_sem],fun ρ_ e1 _=>e1⟩
  ·refine opDoes_val 7 (.assign (.tmp 168)) (by kernel_rfl) (by rw[hsz];decide) (fun w=>qB _ _) fun ρ w ty pos af hb=>?_
   have g1:=hb.pre 1 (by simp[pred_r29])
   simp only[G_r29] at g1
   exact⟨.int .i64 n,by simp[execOp,g1,go_sem],fun ρ_ e1 _=>e1⟩
  ·refine opDoes_val 8 (.assign (.tmp 173)) (by kernel_rfl) (by rw[hsz];decide) (fun w=>qB _ _) fun ρ w ty pos af hb=>?_
   have g6:=hb.pre 6 (by simp[pred_r29])
   simp only[G_r29] at g6
   exact⟨.string (ks.getD h ⟨#[]⟩),by simp[execOp,g6,go_sem],fun ρ_ e1 _=>e1⟩
  ·refine opDoes_val 9 (.assign (.tmp 174)) (by kernel_rfl) (by rw[hsz];decide) (fun w=>qB _ _) fun ρ w ty pos af hb=>?_
   have g7:=hb.pre 7 (by simp[pred_r29])
   simp only[G_r29] at g7
   exact⟨.int .i64 e,by simp[execOp,g7,go_sem],fun ρ_ e1 _=>e1⟩
 ·refine ends_of [167,168,169,170,171,172,173,174,6,7,8,9] (by kernel_rfl) fun ρ w hB hG=>?_
  have g0:=hG 0 (by simp) (by kernel_rfl)
  simp only[G_r29] at g0
  have g1:=hG 1 (by simp) (by kernel_rfl)
  simp only[G_r29] at g1
  have g2:=hG 2 (by simp) (by kernel_rfl)
  simp only[G_r29] at g2
  have g3:=hG 3 (by simp) (by kernel_rfl)
  simp only[G_r29] at g3
  have g4:=hG 4 (by simp) (by kernel_rfl)
  simp only[G_r29] at g4
  have g5:=hG 5 (by simp) (by kernel_rfl)
  simp only[G_r29] at g5
  have g6:=hG 6 (by simp) (by kernel_rfl)
  simp only[G_r29] at g6
  have g7:=hG 7 (by simp) (by kernel_rfl)
  simp only[G_r29] at g7
  have g8:=hG 8 (by simp) (by kernel_rfl)
  simp only[G_r29] at g8
  have g9:=hG 9 (by simp) (by kernel_rfl)
  simp only[G_r29] at g9
  have g10:=hG 10 (by simp) (by kernel_rfl)
  simp only[G_r29] at g10
  have g11:=hG 11 (by simp) (by kernel_rfl)
  simp only[G_r29] at g11
  simp only[List.foldl_cons,List.foldl_nil,g0,g1,g2,g3,g4,g5,g6,g7,g8,g9,g10,g11]
  exact hQ kb ko w hB
end
end Go.Proofs.YtbghhklbfnplbaaGreat

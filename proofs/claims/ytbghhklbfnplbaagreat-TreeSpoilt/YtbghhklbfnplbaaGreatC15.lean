import Derived.WalkKit
import Derived.WalkSpells
import Derived.WalkLawsBesides
import Derived.Deep.MidRow
import Derived.Deep.AppendLies
import Derived.Laws.AppendOwnNone
import Derived.OwnWalk
import Derived.Below
import Derived.Deep.LoopGhost
import Derived.Test.YtbghhklbfnplbaaGreatC00
import Derived.Test.YtbghhklbfnplbaaGreatC03
import Derived.Test.YtbghhklbfnplbaaGreatC14
import Derived.Test.YtbghhklbfnplbaaGreatC01
set_option maxHeartbeats 4000000
namespace Go.Proofs.YtbghhklbfnplbaaGreat
section
open Go.RowKit
structure SlAt (sz:Nat) (w:World) (ao:Option Addr) (cap n:Nat) (cs:List Value):Prop where
 len:cs.length=n*sz
 room:n≤cap
 bare:ao=none→cap=0
 plain:∀ a,ao=some a→0<cap→∃ b o,a=⟨b,o,none⟩
 cells:∀ j u,cs[j]?=some u→∃ b o,ao=some ⟨b,o,none⟩∧w.cell? ⟨b,o+j,none⟩=some u
 one:∀ u∈cs,u.oneCell'=true
section
variable {P:Program} {T E:TypeId} {sz:Nat} {w w':World} {ao:Option Addr} {cap n:Nat} {cs:List Value}
theorem elem_of (hT:P.underlying T=some (.slice E)):P.elem T=E:=by simp[Program.elem,hT]
theorem SlAt.nil (sz:Nat) (w:World):SlAt sz w none 0 0 []:=⟨by simp,Nat.le_refl _,fun _=>rfl,(fun a e=>by cases e),(fun j u e=>by simp at e),by simp⟩
theorem SlAt.kept (h:SlAt sz w ao cap n cs) (hk:∀ b o u,ao=some ⟨b,o,none⟩→(∃ j,w.cell? ⟨b,o+j,none⟩=some u)→∀ j,w'.cell? ⟨b,j,none⟩=w.cell? ⟨b,j,none⟩):SlAt sz w' ao cap n cs:=
 ⟨h.len,h.room,h.bare,h.plain,fun j u hu=>by
  obtain⟨b,o,h1,h2⟩:=h.cells j u hu
  exact⟨b,o,h1,(hk b o u h1 ⟨j,h2⟩ _).trans h2⟩,h.one⟩
theorem cell_of_block {b:Nat} (h:w'.heap[b]?=w.heap[b]?) (o:Nat):w'.cell? ⟨b,o,none⟩=w.cell? ⟨b,o,none⟩:=World.cell?_of_block (a:=⟨b,o,none⟩) h
theorem SlAt.block (h:SlAt sz w ao cap n cs) (hk:∀ b,b<w.heap.size→(∃ o,ao=some ⟨b,o,none⟩)→w'.heap[b]?=w.heap[b]?):SlAt sz w' ao cap n cs:=
 h.kept fun b o _ ha ⟨_,hc⟩ j=>cell_of_block (hk b (qF w _ hc) ⟨o,ha⟩) j
theorem SlAt.below (h:SlAt sz w ao cap n cs) (hb:Below w.heap.size w w'):SlAt sz w' ao cap n cs:=h.block fun b hb' _=>hb.block b hb'
theorem SlAt.own {base:Nat} {v:Value} (h:w.ownsRow base E sz v n cs) (h1:∀ u∈cs,u.oneCell'=true):∃ ao cap,v=.slice ao n cap∧SlAt sz w ao cap n cs∧∀ b o,ao=some ⟨b,o,none⟩→base≤b∧b<w.heap.size:=by
 have hlen:=h.1
 rcases h.2 with ⟨rfl,h0⟩|⟨g,cap,cur,rfl,h2,h3,h4,h5⟩
 ·subst h0
  have:cs=[]:=List.length_eq_zero_iff.1 (by simpa using hlen)
  subst this
  exact⟨none,0,rfl,SlAt.nil _ _,fun b o e=>by cases e⟩
 ·refine⟨_,_,rfl,⟨hlen,h4,(fun e=>by cases e),(fun a e _=>⟨g,0,by simpa using e.symm⟩),fun j u hu=>⟨g,0,rfl,?_⟩,h1⟩,?_⟩
  ·rw[Nat.zero_add]
   have hj:j<n*sz:=by rw[← hlen];exact (List.getElem?_eq_some_iff.1 hu).1
   exact (World.ownsRow.cellAt h j hj).trans hu
  ·intro b o e
   simp only[qQ,Addr.mk.injEq,and_true] at e
   obtain⟨rfl,rfl⟩:=e
   exact⟨h2,(qA h3)⟩
theorem SlAt.ofBlock {b:Nat} {T0:TypeId} {fr:Nat × Nat} (h:w.heap[b]?=some (.cells cs.toArray T0 fr)) (hl:cs.length=n*sz) (h1:∀ u∈cs,u.oneCell'=true):SlAt sz w (some ⟨b,0,none⟩) n n cs:=
 ⟨hl,Nat.le_refl _,(fun e=>by cases e),(fun a e _=>⟨b,0,by simpa using e.symm⟩),fun j u hu=>⟨b,0,rfl,by rw[Nat.zero_add];simp[World.cell?,h,hu]⟩,h1⟩
theorem SlAt.head (h:SlAt sz w ao cap n cs) (k:Nat) (hk:k≤n):SlAt sz w ao cap k (cs.take (k*sz)):=by
 have hlen:=h.len
 have hle:k*sz≤n*sz:=Nat.mul_le_mul_right _ hk
 refine⟨by simp;omega,by have:=h.room;omega,h.bare,h.plain,fun j u hu=>h.cells j u ?_,fun u hu=>h.one u (List.mem_of_mem_take hu)⟩
 have hj:=(List.getElem?_eq_some_iff.1 hu).1
 simp only[List.length_take] at hj
 rw[List.getElem?_take_of_lt (by omega)] at hu
 exact hu
theorem SlAt.headRun (h:SlAt sz w ao cap n cs) (hT:P.underlying T=some (.slice E)) (hsz:∀ w,(Go.sizeOf E).run P w=.ok sz w) (k:Nat) (hk:k≤n) (W:World):(Instr.slice T (.slice ao n cap) none (some (.int .i64 (k:Int))) none).run P W=.ok (.slice ao k cap) W:=by
 obtain rfl:=elem_of hT
 have:=h.room
 rw[run_slice_h W T ao n cap hT .i64 (k:Int) (by omega) (by omega),hsz]
 simp only[Result.andThen,sliced,Int.toNat_natCast,Nat.zero_mul,Nat.sub_zero]
 cases ao<;>simp[Addr.add]
theorem SlAt.tail (h:SlAt sz w ao cap n cs) (hT:P.underlying T=some (.slice E)) (hsz:∀ w,(Go.sizeOf E).run P w=.ok sz w) (k:Nat) (hk:k≤n) :
  ∃ bo,(∀ W,(Instr.slice T (.slice ao n cap) (some (.int .i64 (k:Int))) none none).run P W=.ok (.slice bo (n - k) (cap - k)) W)∧(∀ b o,bo=some ⟨b,o,none⟩→∃ o',ao=some ⟨b,o',none⟩)∧∀ W,SlAt sz W ao cap n cs→SlAt sz W bo (cap - k) (n - k) (cs.drop (k*sz)):=by
 obtain rfl:=elem_of hT
 have hroom:=h.room
 have hlen:=h.len
 have hle:k*sz≤n*sz:=Nat.mul_le_mul_right _ hk
 have hdl:∀ m:List Value,m.length=n*sz→(m.drop (k*sz)).length=(n - k)*sz:=fun m hm=>by rw[List.length_drop,hm,Nat.sub_mul]
 cases ao with
 | none=>
   have hc:=h.bare rfl
   subst hc
   obtain rfl:n=0:=by omega
   obtain rfl:k=0:=by omega
   refine⟨none,fun W=>?_,(fun b o e=>by cases e),fun W h=>by simpa using h⟩
   rw[run_slice_l W T none 0 0 hT .i64 ((0:Nat):Int) (by omega) (by omega),hsz]
   simp[Result.andThen,sliced]
 | some a=>
   by_cases hcap:cap - k=0
   ·refine⟨some a,fun W=>?_,fun b o e=>⟨o,e⟩,fun W h=>?_⟩
    ·rw[run_slice_l W T (some a) n cap hT .i64 (k:Int) (by omega) (by omega),hsz]
     simp only[Result.andThen,sliced,Int.toNat_natCast]
     rw[if_pos (by omega)]
    ·refine⟨hdl _ h.len,by omega,(fun e=>by cases e),(fun a _ h0=>absurd h0 (by omega)),fun j u hu=>?_,fun u hu=>h.one u (List.mem_of_mem_drop hu)⟩
     have:=(List.getElem?_eq_some_iff.1 hu).1
     rw[hdl _ h.len,show n - k=0 by omega] at this
     omega
   ·obtain⟨b,o,rfl⟩:=h.plain _ rfl (by omega)
    refine⟨some ⟨b,o+k*sz,none⟩,fun W=>?_,fun b' o' e=>?_,fun W h=>?_⟩
    ·rw[run_slice_l W T (some ⟨b,o,none⟩) n cap hT .i64 (k:Int) (by omega) (by omega),hsz]
     simp only[Result.andThen,sliced,Int.toNat_natCast]
     rw[if_neg (by omega)]
     simp[Addr.add_mid]
    ·simp only[qQ,Addr.mk.injEq,and_true] at e
     exact⟨o,by rw[e.1]⟩
    ·refine⟨hdl _ h.len,by omega,(fun e=>by cases e),(fun a e _=>⟨b,o+k*sz,by simpa using e.symm⟩),fun j u hu=>⟨b,o+k*sz,rfl,?_⟩,fun u hu=>h.one u (List.mem_of_mem_drop hu)⟩
     rw[List.getElem?_drop] at hu
     obtain⟨b',o',e1,e2⟩:=h.cells _ u hu
     simp only[qQ,Addr.mk.injEq,and_true] at e1
     obtain⟨rfl,rfl⟩:=e1
     rw[show o+k*sz+j=o+(k*sz+j) by omega]
     exact e2
theorem SlAt.get (h:SlAt sz w ao cap n cs) (hs:0<sz) (hT:P.underlying T=some (.slice E)) (hsz:∀ w,(Go.sizeOf E).run P w=.ok sz w) (k:Nat) (hk:k<n) :
  ∃ b o,ao=some ⟨b,o,none⟩∧b<w.heap.size∧(∀ W,(Instr.indexAt T (.slice ao n cap) (.int .i64 (k:Int))).run P W=.ok (.pointer (some ⟨b,o+k*sz,none⟩)) W)∧w.rangeAt b (o+k*sz) ((cs.drop (k*sz)).take sz):=by
 obtain rfl:=elem_of hT
 have hlen:=h.len
 have hle:k*sz+sz≤n*sz:=by rw[← Nat.succ_mul];exact Nat.mul_le_mul_right _ hk
 have h0:cs[k*sz]?=some (cs[k*sz]'(by omega)):=List.getElem?_eq_getElem (by omega)
 obtain⟨b,o,rfl,hc⟩:=h.cells _ _ h0
 refine⟨b,o,rfl,qF w _ hc,fun W=>?_,fun j u hu=>?_⟩
 ·rw[run_indexAt_slice (P:=P) W T ⟨b,o,none⟩ n cap .i64 k hT,if_pos (by omega),hsz]
  simp only[Result.andThen,Int.toNat_natCast,Addr.add_mid]
 ·have hj:=(List.getElem?_eq_some_iff.1 hu).1
  simp only[List.length_take,List.length_drop] at hj
  rw[List.getElem?_take_of_lt (by omega),List.getElem?_drop] at hu
  obtain⟨b',o',e1,e2⟩:=h.cells _ u hu
  simp only[qQ,Addr.mk.injEq,and_true] at e1
  obtain⟨rfl,rfl⟩:=e1
  rw[show o+k*sz+j=o+(k*sz+j) by omega]
  exact e2
theorem SlAt.app {z:Value} {by' B m:Nat} {ty:TypeId} {v:Value} {xs:List Value} (h:SlAt sz w ao cap n cs) (hs:0<sz) (hT:P.underlying T=some (.slice E)) (hi:(P.info? E).map (fun i=>(i.zero,i.size,i.bytes))=some (some z,sz,by')) (hz:z.cells.size=sz) (hv:w.ownsRow B E sz v m xs) (hB:B≤w.heap.size) (hmax:m+n≤100000) (hby:by'≤1000000) :
  ∃ v' w',(Builtin.append_ #[T,T] ty #[v,.slice ao n cap]).run P w=.ok v' w'∧w'.ownsRow B E sz v' (m+n) (xs++cs)∧w.grownBy w' v.ownBlock:=by
 obtain⟨i0,hi0,hz0,hz1,hz2⟩:=info_parts hi
 have hbytes:(m+n)*by'≤140737488355328:=qN (Nat.mul_le_mul hmax hby) (by omega)
 by_cases hn:cs=[]
 ·subst hn
  have hn0:n*sz=0:=by have:=h.len;simpa using this.symm
  obtain rfl:n=0:=by rcases Nat.mul_eq_zero.1 hn0 with e|e<;>omega
  cases ao with
  | none=>
    have:=h.bare rfl
    subst this
    exact⟨v,w,run_append_owned_none (P:=P) (w:=w) B T ty E i0 sz hT hi0 v m xs hv,by simpa using hv,World.grownBy.refl _ _⟩
  | some a=>
    obtain⟨v',w',h1,h2,h3,h4⟩:=run_append_own (P:=P) w B T ty E i0 z sz by' hT hi0 hz0 hz1 hz2 hz hs v m xs hv a 0 cap [] (by simp) (by simp) (by simp) (by unfold maxLen;omega) hbytes hB
    exact⟨v',w',h1,h2,h3⟩
 ·obtain⟨u,hu⟩:∃ u,cs[0]?=some u:=⟨_,List.getElem?_eq_getElem (List.length_pos_iff.2 hn)⟩
  obtain⟨b,o,rfl,_⟩:=h.cells 0 u hu
  obtain⟨v',w',h1,h2,h3,h4⟩:=run_append_own (P:=P) w B T ty E i0 z sz by' hT hi0 hz0 hz1 hz2 hz hs v m xs hv ⟨b,o,none⟩ n cap cs h.len (fun j u hu=>by
   obtain⟨b',o',e1,e2⟩:=h.cells j u hu
   simp only[qQ,Addr.mk.injEq,and_true] at e1
   obtain⟨rfl,rfl⟩:=e1
   rw[Addr.add_mid];exact e2) h.one (by unfold maxLen;omega) hbytes hB
  exact⟨v',w',h1,h2,h3⟩
end
structure Ks (S:Nat→Prop) (w w':World):Prop where
 size:w.heap.size≤w'.heap.size
 block:∀ k,k<w.heap.size→¬ S k→w'.heap[k]?=w.heap[k]?
section
variable {S S':Nat→Prop} {w w1 w':World}
theorem Ks.refl (S:Nat→Prop) (w:World):Ks S w w:=⟨Nat.le_refl _,fun _ _ _=>rfl⟩
theorem Ks.trans (h:Ks S w w1) (k:Ks S w1 w'):Ks S w w':=⟨qN h.size k.size,fun i hi hs=>(k.block i (qM hi h.size) hs).trans (h.block i hi hs)⟩
theorem Ks.below (h:Below w.heap.size w w'):Ks S w w':=⟨h.size,fun k hk _=>h.block k hk⟩
theorem Ks.grown {row:Option Nat} (h:w.grownBy w' row) (hr:∀ g,row=some g→S g∨w.heap.size≤g):Ks S w w':=⟨h.size,fun k hk hs=>h.block k hk (fun e=>by
 rcases hr k e.symm with h|h
 ·exact hs h
 ·omega)⟩
theorem Ks.setCell {b o:Nat} (h:Ks S w w') (u:Value) (hb:S b∨w.heap.size≤b):Ks S w (w'.setCell ⟨b,o,none⟩ u):=⟨by simpa using h.size,fun k hk hs=>(Below.heap_setCell _ _ _ _ (show k≠b by rintro rfl;rcases hb with hb|hb;exact hs hb;omega)).trans (h.block k hk hs)⟩
theorem Ks.alloc (h:Ks S w w') (o:Obj):Ks S w (w'.alloc o):=h.trans (.below ((qB _ _).alloc qL o))
theorem grown_then {w w1 w2:World} {row:Option Nat} (h:w.grownBy w1 row) (g:w1.grownBy w2 row):w.grownBy w2 row:=
 ⟨g.os.trans h.os,g.tape.trans h.tape,g.output.trans h.output,qN h.size g.size,fun k hk hne=>(g.block k (qM hk h.size) hne).trans (h.block k hk hne)⟩
end
theorem app_formG {P:Program} {T E:TypeId} {sz m n cap by' B:Nat} {z:Value} {Y w0:World} {ao:Option Addr} {v:Value} {xs cs:List Value} (h:SlAt sz Y ao cap n cs) (hs:0<sz) (hT:P.underlying T=some (.slice E)) (hi:(P.info? E).map (fun i=>(i.zero,i.size,i.bytes))=some (some z,sz,by')) (hz:z.cells.size=sz) (hv:Y.ownsRow B E sz v m xs) (hB:B≤Y.heap.size) (hmax:m+n≤100000) (hby:by'≤1000000) (hb:Below B w0 Y) (ty:TypeId) :
  ∃ v' w',(Builtin.append_ #[T,T] ty #[v,.slice ao n cap]).run P Y=.ok v' w'∧(∃ a c,v'=.slice a (m+n) c)∧w'.ownsRow B E sz v' (m+n) (xs++cs)∧Below B w0 w'∧Y.grownBy w' v.ownBlock:=by
 obtain⟨v',w',h1,h2,h3⟩:=h.app hs hT hi hz hv hB hmax hby
 refine⟨v',w',h1,?_,h2,hb.grown h3 hB (fun r hr=>(World.ownsRow.lt hv r hr).1),h3⟩
 rcases h2.2 with ⟨rfl,h0⟩|⟨g,c,cur,rfl,_⟩
 ·exact⟨none,0,by rw[h0]⟩
 ·exact⟨_,_,rfl⟩
def SlK (S:Nat→Prop) (sz:Nat) (w:World) (ao:Option Addr) (cap n:Nat) (cs:List Value):Prop:=∀ W,Ks S w W→SlAt sz W ao cap n cs
section
variable {S:Nat→Prop} {sz:Nat} {w w':World} {ao:Option Addr} {cap n:Nat} {cs:List Value}
theorem SlK.here (h:SlK S sz w ao cap n cs):SlAt sz w ao cap n cs:=h w (Ks.refl _ _)
theorem SlK.on (h:SlK S sz w ao cap n cs) (hg:Ks S w w'):SlK S sz w' ao cap n cs:=fun W hW=>h W (hg.trans hW)
theorem SlAt.kOf (h:SlAt sz w ao cap n cs) (hb:∀ b o,ao=some ⟨b,o,none⟩→¬ S b):SlK S sz w ao cap n cs:=fun _ hW=>
 h.block fun b hb' ⟨o,ho⟩=>hW.block b hb' (hb b o ho)
theorem SlK.nil (S:Nat→Prop) (sz:Nat) (w:World):SlK S sz w none 0 0 []:=fun _ _=>SlAt.nil sz _
theorem SlK.head (h:SlK S sz w ao cap n cs) (k:Nat) (hk:k≤n):SlK S sz w ao cap k (cs.take (k*sz)):=fun W hW=>(h W hW).head k hk
theorem SlK.tail {P:Program} {T E:TypeId} (h:SlK S sz w ao cap n cs) (hT:P.underlying T=some (.slice E)) (hsz:∀ w,(Go.sizeOf E).run P w=.ok sz w) (k:Nat) (hk:k≤n) :
  ∃ bo,(∀ W,(Instr.slice T (.slice ao n cap) (some (.int .i64 (k:Int))) none none).run P W=.ok (.slice bo (n - k) (cap - k)) W)∧SlK S sz w bo (cap - k) (n - k) (cs.drop (k*sz)):=by
 obtain⟨bo,h1,_,h3⟩:=h.here.tail hT hsz k hk
 exact⟨bo,h1,fun W hW=>h3 W (h W hW)⟩
theorem SlK.own {E:TypeId} {base:Nat} {v:Value} (h:w.ownsRow base E sz v n cs) (h1:∀ u∈cs,u.oneCell'=true) (hb:∀ k,S k→k<base):∃ ao cap,v=.slice ao n cap∧SlK S sz w ao cap n cs:=by
 obtain⟨ao,cap,e,h2,h3⟩:=SlAt.own h h1
 exact⟨ao,cap,e,h2.kOf fun b o ho hs=>by have:=(h3 b o ho).1;have:=hb b hs;omega⟩
end
end
section
open Go.RowKit
structure PV where
 i:Value
 k:Value
 d:Value
 v:Value
 f:Value
def cellsPV (p:PageD) (u:PV):List Value:=pageCells p u.i u.k u.d u.v u.f
def rowsPV:List PageD→List PV→List Value
 | p::ps,u::us=>cellsPV p u++rowsPV ps us
 | _,_=>[]
theorem cellsPV_length (p:PageD) (u:PV):(cellsPV p u).length=14:=rfl
theorem rowsPV_length:∀ (ps:List PageD) (us:List PV),us.length=ps.length→(rowsPV ps us).length=ps.length*14
 | [],[],_=>rfl
 | [],_::_,h=>by simp at h
 | _::_,[],h=>by simp at h
 | p::ps,u::us,h=>by
   rw[rowsPV,List.length_append,cellsPV_length,rowsPV_length ps us (by simpa using h),List.length_cons]
   omega
theorem rowsPV_drop:∀ (ps:List PageD) (us:List PV) (k:Nat),us.length=ps.length→(rowsPV ps us).drop (k*14)=rowsPV (ps.drop k) (us.drop k)
 | ps,us,0,_=>by simp
 | [],[],k+1,_=>by simp[rowsPV]
 | [],_::_,_,h=>by simp at h
 | _::_,[],_,h=>by simp at h
 | p::ps,u::us,k+1,h=>by
   rw[rowsPV,List.drop_succ_cons,List.drop_succ_cons,← rowsPV_drop ps us k (by simpa using h),show (k+1)*14=14+k*14 by omega,← List.drop_drop]
   congr 1
theorem rowsPV_take:∀ (ps:List PageD) (us:List PV) (k:Nat),us.length=ps.length→(rowsPV ps us).take (k*14)=rowsPV (ps.take k) (us.take k)
 | ps,us,0,_=>by simp[rowsPV]
 | [],[],k+1,_=>by simp[rowsPV]
 | [],_::_,_,h=>by simp at h
 | _::_,[],_,h=>by simp at h
 | p::ps,u::us,k+1,h=>by
   rw[rowsPV,List.take_succ_cons,List.take_succ_cons,rowsPV,← rowsPV_take ps us k (by simpa using h),show (k+1)*14=(cellsPV p u).length+k*14 by rw[cellsPV_length];omega,List.take_length_add_append]
theorem rowsPV_append:∀ (ps:List PageD) (us:List PV) (qs:List PageD) (vs:List PV),us.length=ps.length→rowsPV ps us++rowsPV qs vs=rowsPV (ps++qs) (us++vs)
 | [],[],_,_,_=>rfl
 | [],_::_,_,_,h=>by simp at h
 | _::_,[],_,_,h=>by simp at h
 | p::ps,u::us,qs,vs,h=>by
   simp only[rowsPV,List.cons_append,List.append_assoc]
   rw[rowsPV_append ps us qs vs (by simpa using h)]
def SliceV (v:Value):Prop:=∃ ao n cap,v=.slice ao n cap
def SlicesV (u:PV):Prop:=SliceV u.i∧SliceV u.k∧SliceV u.d∧SliceV u.v∧SliceV u.f
theorem Hangs.slices {w:World} {p:PageD} {u:PV} (h:Hangs w p u.i u.k u.d u.v u.f):SlicesV u:=by
 obtain⟨a1,n1,c1,e1⟩:=h.items.slice
 obtain⟨a2,n2,c2,e2⟩:=h.keys.slice
 obtain⟨a3,n3,c3,e3⟩:=h.kids.slice
 obtain⟨a4,n4,c4,e4⟩:=h.vals.slice
 obtain⟨a5,n5,c5,e5⟩:=h.free.slice
 exact⟨⟨_,_,_,e1⟩,⟨_,_,_,e2⟩,⟨_,_,_,e3⟩,⟨_,_,_,e4⟩,⟨_,_,_,e5⟩⟩
theorem cellsPV_one {p:PageD} {u:PV} (h:SlicesV u):∀ x∈cellsPV p u,x.oneCell'=true:=by
 obtain⟨⟨_,_,_,e1⟩,⟨_,_,_,e2⟩,⟨_,_,_,e3⟩,⟨_,_,_,e4⟩,⟨_,_,_,e5⟩⟩:=h
 intro x hx
 simp only[cellsPV,pageCells,e1,e2,e3,e4,e5,List.mem_cons,List.not_mem_nil,or_false] at hx
 rcases hx with rfl|rfl|rfl|rfl|rfl|rfl|rfl|rfl|rfl|rfl|rfl|rfl|rfl|rfl<;>rfl
def intsC (l:List Int):List Value:=l.map (Value.int .i64)
theorem intsC_one (l:List Int):∀ u∈intsC l,u.oneCell'=true:=by
 intro u hu
 obtain⟨x,_,rfl⟩:=List.mem_map.1 hu
 rfl
def IntsS (S:Nat→Prop) (w:World) (v:Value) (l:List Int):Prop:=∃ ao cap,v=.slice ao l.length cap∧SlK S 1 w ao cap l.length (intsC l)
theorem IntsS.on {S:Nat→Prop} {w w':World} {v:Value} {l:List Int} (h:IntsS S w v l) (hk:Ks S w w'):IntsS S w' v l:=by
 obtain⟨ao,cap,e,h1⟩:=h
 exact⟨ao,cap,e,h1.on hk⟩
theorem IntsS.nil (S:Nat→Prop) (w:World):IntsS S w (.slice none 0 0) []:=⟨none,0,rfl,SlK.nil _ _ _⟩
theorem intsC_take (l:List Int) (k:Nat):(intsC l).take (k*1)=intsC (l.take k):=by simp[intsC,List.map_take]
theorem intsC_drop (l:List Int) (k:Nat):(intsC l).drop (k*1)=intsC (l.drop k):=by simp[intsC,List.map_drop]
def strsC (l:List ByteArray):List Value:=l.map Value.string
theorem strsC_one (l:List ByteArray):∀ u∈strsC l,u.oneCell'=true:=by
 intro u hu
 obtain⟨x,_,rfl⟩:=List.mem_map.1 hu
 rfl
theorem strsC_take (l:List ByteArray) (k:Nat):(strsC l).take (k*1)=strsC (l.take k):=by simp[strsC,List.map_take]
theorem strsC_drop (l:List ByteArray) (k:Nat):(strsC l).drop (k*1)=strsC (l.drop k):=by simp[strsC,List.map_drop]
def StrsS (S:Nat→Prop) (w:World) (v:Value) (l:List ByteArray):Prop:=∃ ao cap,v=.slice ao l.length cap∧SlK S 1 w ao cap l.length (strsC l)∧l.length≤maxLen∧∀ x∈l,x.size≤maxLen
theorem StrsS.on {S:Nat→Prop} {w w':World} {v:Value} {l:List ByteArray} (h:StrsS S w v l) (hk:Ks S w w'):StrsS S w' v l:=by
 obtain⟨ao,cap,e,h1,h2⟩:=h
 exact⟨ao,cap,e,h1.on hk,h2⟩
theorem StrsS.nil (S:Nat→Prop) (w:World):StrsS S w (.slice none 0 0) []:=⟨none,0,rfl,SlK.nil _ _ _,Nat.zero_le _,by simp⟩
theorem StrsS.at {S:Nat→Prop} {w W:World} {v:Value} {l:List ByteArray} (h:StrsS S w v l) (hk:Ks S w W):StrsAt W v l:=by
 obtain⟨ao,cap,e,h1,h2,h3⟩:=h
 have h4:=h1 W hk
 refine⟨ao,cap,e,⟨h2,h4.room⟩,fun i hi=>?_⟩
 obtain⟨b,o,ha,hc⟩:=h4.cells i (.string l[i]) (by simp[strsC,hi])
 exact⟨_,ha,by rw[Addr.add_mid];exact hc,h3 _ (List.getElem_mem hi)⟩
theorem IntsS.at {S:Nat→Prop} {w W:World} {v:Value} {l:List Int} (h:IntsS S w v l) (hk:Ks S w W) (hl:l.length≤maxLen):IntsAt W v l:=by
 obtain⟨ao,cap,e,h1⟩:=h
 have h4:=h1 W hk
 refine⟨ao,cap,e,hl,fun i hi=>?_⟩
 obtain⟨b,o,ha,hc⟩:=h4.cells i (.int .i64 l[i]) (by simp[intsC,hi])
 exact⟨_,ha,by rw[Addr.add_mid];exact hc⟩
def rowsIV:List ItemD→List Value→List Value
 | x::l,u::us=>itemCells x u++rowsIV l us
 | _,_=>[]
theorem itemCells_length (x:ItemD) (u:Value):(itemCells x u).length=10:=rfl
theorem rowsIV_length:∀ (l:List ItemD) (us:List Value),us.length=l.length→(rowsIV l us).length=l.length*10
 | [],[],_=>rfl
 | [],_::_,h=>by simp at h
 | _::_,[],h=>by simp at h
 | x::l,u::us,h=>by
   rw[rowsIV,List.length_append,itemCells_length,rowsIV_length l us (by simpa using h),List.length_cons]
   omega
theorem rowsIV_drop:∀ (l:List ItemD) (us:List Value) (k:Nat),us.length=l.length→(rowsIV l us).drop (k*10)=rowsIV (l.drop k) (us.drop k)
 | l,us,0,_=>by simp
 | [],[],k+1,_=>by simp[rowsIV]
 | [],_::_,_,h=>by simp at h
 | _::_,[],_,h=>by simp at h
 | x::l,u::us,k+1,h=>by
   rw[rowsIV,List.drop_succ_cons,List.drop_succ_cons,← rowsIV_drop l us k (by simpa using h),show (k+1)*10=10+k*10 by omega,← List.drop_drop]
   congr 1
theorem rowsIV_take:∀ (l:List ItemD) (us:List Value) (k:Nat),us.length=l.length→(rowsIV l us).take (k*10)=rowsIV (l.take k) (us.take k)
 | l,us,0,_=>by simp[rowsIV]
 | [],[],k+1,_=>by simp[rowsIV]
 | [],_::_,_,h=>by simp at h
 | _::_,[],_,h=>by simp at h
 | x::l,u::us,k+1,h=>by
   rw[rowsIV,List.take_succ_cons,List.take_succ_cons,rowsIV,← rowsIV_take l us k (by simpa using h),show (k+1)*10=(itemCells x u).length+k*10 by rw[itemCells_length];omega,List.take_length_add_append]
theorem rowsIV_append:∀ (l:List ItemD) (us:List Value) (m:List ItemD) (vs:List Value),us.length=l.length→rowsIV l us++rowsIV m vs=rowsIV (l++m) (us++vs)
 | [],[],_,_,_=>rfl
 | [],_::_,_,_,h=>by simp at h
 | _::_,[],_,_,h=>by simp at h
 | x::l,u::us,m,vs,h=>by
   simp only[rowsIV,List.cons_append,List.append_assoc]
   rw[rowsIV_append l us m vs (by simpa using h)]
def ItemS (S:Nat→Prop) (w:World) (x:ItemD) (u:Value):Prop:=StrsS S w u x.vals∧x.key.size≤maxLen∧x.val.size≤maxLen
theorem ItemS.on {S:Nat→Prop} {w w':World} {x:ItemD} {u:Value} (h:ItemS S w x u) (hk:Ks S w w'):ItemS S w' x u:=⟨h.1.on hk,h.2⟩
theorem StrsS.slice {S:Nat→Prop} {w:World} {v:Value} {l:List ByteArray} (h:StrsS S w v l):SliceV v:=by
 obtain⟨ao,cap,e,_⟩:=h
 exact⟨_,_,_,e⟩
theorem itemCells_one {x:ItemD} {u:Value} (h:SliceV u):∀ y∈itemCells x u,y.oneCell'=true:=by
 obtain⟨_,_,_,e⟩:=h
 intro y hy
 simp only[itemCells,e,List.mem_cons,List.not_mem_nil,or_false] at hy
 rcases hy with rfl|rfl|rfl|rfl|rfl|rfl|rfl|rfl|rfl|rfl<;>rfl
def ItemsS (S:Nat→Prop) (w:World) (v:Value) (l:List ItemD):Prop:=
 ∃ ao cap us,v=.slice ao l.length cap∧us.length=l.length∧SlK S 10 w ao cap l.length (rowsIV l us)∧l.length≤maxLen∧∀ i (h:i<l.length) (h':i<us.length),ItemS S w l[i] us[i]
theorem ItemsS.on {S:Nat→Prop} {w w':World} {v:Value} {l:List ItemD} (h:ItemsS S w v l) (hk:Ks S w w'):ItemsS S w' v l:=by
 obtain⟨ao,cap,us,e,h1,h2,h3,h4⟩:=h
 exact⟨ao,cap,us,e,h1,h2.on hk,h3,fun i hi hi'=>(h4 i hi hi').on hk⟩
theorem rowsIV_get {l:List ItemD} {us:List Value} (hus:us.length=l.length) {i:Nat} (hi:i<l.length) (hi':i<us.length):((rowsIV l us).drop (i*10)).take 10=itemCells l[i] us[i]:=by
 rw[rowsIV_drop _ _ _ hus,List.drop_eq_getElem_cons hi,List.drop_eq_getElem_cons hi',rowsIV,List.take_append_of_le_length (by simp[itemCells_length]),List.take_of_length_le (by simp[itemCells_length])]
theorem ItemsS.at {S:Nat→Prop} {w W:World} {v:Value} {l:List ItemD} (h:ItemsS S w v l) (hk:Ks S w W):ItemsAt W v l:=by
 obtain⟨ao,cap,us,e,h1,h2,h3,h4⟩:=h
 have h5:=h2 W hk
 refine⟨ao,cap,e,h3,fun i hi=>?_⟩
 have hle:i*10+10≤l.length*10:=by omega
 have hlen:=rowsIV_length l us h1
 have hr:∀ j u,(itemCells l[i] (us[i]'(by omega)))[j]?=some u→∃ b o,ao=some ⟨b,o,none⟩∧W.cell? ⟨b,o+i*10+j,none⟩=some u:=fun j u hu=>by
  have hj:j<10:=by have:=(List.getElem?_eq_some_iff.1 hu).1;rwa [itemCells_length] at this
  rw[← rowsIV_get h1 hi (by omega),List.getElem?_take_of_lt hj,List.getElem?_drop] at hu
  obtain⟨b,o,ha,hc⟩:=h5.cells _ u hu
  exact⟨b,o,ha,by rw[Nat.add_assoc];exact hc⟩
 obtain⟨b,o,ha,hc0⟩:=hr 0 (.string l[i].key) (by simp[itemCells])
 have h6:=h4 i hi (by omega)
 refine⟨b,o,us[i]'(by omega),ha,qF W _ hc0,fun j u hu=>?_,h6.1.at hk,h6.2.1,h6.2.2⟩
 obtain⟨b',o',ha',hc⟩:=hr j u hu
 rw[ha] at ha'
 simp only[qQ,Addr.mk.injEq,and_true] at ha'
 obtain⟨rfl,rfl⟩:=ha'
 exact hc
structure HangsS (S:Nat→Prop) (w:World) (p:PageD) (u:PV):Prop where
 items:ItemsS S w u.i p.items
 keys:StrsS S w u.k p.keys
 kids:IntsS S w u.d p.kids
 few:p.kids.length≤maxLen
 text:p.text.size≤maxLen
 vals:StrsS S w u.v p.vals
 free:u.f=.slice none 0 0
 none:p.free=[]
theorem HangsS.at {S:Nat→Prop} {w:World} {p:PageD} {u:PV} (h:HangsS S w p u) (W:World) (hk:Ks S w W):Hangs W p u.i u.k u.d u.v u.f:=
 ⟨h.items.at hk,h.keys.at hk,h.kids.at hk h.few,h.text,h.vals.at hk,by rw[h.free,h.none];exact frees_nil W⟩
theorem HangsS.here {S:Nat→Prop} {w:World} {p:PageD} {u:PV} (h:HangsS S w p u):Hangs w p u.i u.k u.d u.v u.f:=h.at w (Ks.refl _ _)
theorem HangsS.on {S:Nat→Prop} {w w':World} {p:PageD} {u:PV} (h:HangsS S w p u) (hk:Ks S w w'):HangsS S w' p u:=⟨h.items.on hk,h.keys.on hk,h.kids.on hk,h.few,h.text,h.vals.on hk,h.free,h.none⟩
def PagesS (S:Nat→Prop) (w:World) (v:Value) (ps:List PageD):Prop:=
 ∃ ao cap us,v=.slice ao ps.length cap∧us.length=ps.length∧SlK S 14 w ao cap ps.length (rowsPV ps us)∧∀ i (h:i<ps.length) (h':i<us.length),HangsS S w ps[i] us[i]
theorem PagesS.on {S:Nat→Prop} {w w':World} {v:Value} {ps:List PageD} (h:PagesS S w v ps) (hk:Ks S w w'):PagesS S w' v ps:=by
 obtain⟨ao,cap,us,e,h1,h2,h3⟩:=h
 exact⟨ao,cap,us,e,h1,h2.on hk,fun i hi hi'=>(h3 i hi hi').on hk⟩
theorem PagesS.nil (S:Nat→Prop) (w:World):PagesS S w (.slice none 0 0) []:=⟨none,0,[],rfl,rfl,SlK.nil _ _ _,fun i hi=>absurd hi (by simp)⟩
theorem ints_get {Q:World→Prop} {w:World} {ao:Option Addr} {cap:Nat} {l:List Int} (hw:Q w) (h:∀ V,Q V→IntsAt V (.slice ao l.length cap) l) {k:Nat} (hk:k<l.length):∃ a,(∀ V,(Instr.indexAt 32 (.slice ao l.length cap) (.int .i64 (k:Int))).run Tryz.prog V=.ok (.pointer (some a)) V)∧∀ V,Q V→V.cell? a=some (.int .i64 (l.getD k 0)):=by
 have key:∀ V,Q V→∃ a,ao=some a∧V.cell? (a.add k)=some (.int .i64 (l.getD k 0)):=fun V hV=>by
  obtain⟨ao',cap',e,_,h1⟩:=h V hV
  simp only[qR,true_and] at e
  obtain⟨rfl,rfl⟩:=e
  obtain⟨a,ha,hc⟩:=h1 k hk
  exact⟨a,ha,by simpa[List.getD,hk] using hc⟩
 obtain⟨a,rfl,_⟩:=key w hw
 refine⟨a.add k,fun V=>?_,fun V hV=>?_⟩
 ·rw[run_indexAt_slice (P:=Tryz.prog) V 32 a l.length cap .i64 k Tryz.elemInts,if_pos (by omega),Tryz.sizeInts]
  simp[Result.andThen]
 ·obtain⟨a',e,hc⟩:=key V hV
  cases e
  exact hc
theorem strs_get {Q:World→Prop} {w:World} {ao:Option Addr} {cap:Nat} {l:List ByteArray} (hw:Q w) (h:∀ V,Q V→StrsAt V (.slice ao l.length cap) l) {k:Nat} (hk:k<l.length):∃ a,(∀ V,(Instr.indexAt 31 (.slice ao l.length cap) (.int .i64 (k:Int))).run Tryz.prog V=.ok (.pointer (some a)) V)∧∀ V,Q V→V.cell? a=some (.string (l.getD k ⟨#[]⟩)):=by
 have key:∀ V,Q V→∃ a,ao=some a∧V.cell? (a.add k)=some (.string (l.getD k ⟨#[]⟩)):=fun V hV=>by
  obtain⟨ao',cap',e,_,h1⟩:=h V hV
  simp only[qR,true_and] at e
  obtain⟨rfl,rfl⟩:=e
  obtain⟨a,ha,hc,_⟩:=h1 k hk
  exact⟨a,ha,by simpa[List.getD,hk] using hc⟩
 obtain⟨a,rfl,_⟩:=key w hw
 refine⟨a.add k,fun V=>?_,fun V hV=>?_⟩
 ·rw[run_indexAt_slice (P:=Tryz.prog) V 31 a l.length cap .i64 k Tryz.elemStrs,if_pos (by omega),Tryz.sizeStrs]
  simp[Result.andThen]
 ·obtain⟨a',e,hc⟩:=key V hV
  cases e
  exact hc
end
section
open Go.RowKit
structure RSt where
 last:Int
 most:Int
 avail:List Int
 freed:List Int
 ids:List Int
 ps:List PageD
def rsCells (fb:Nat) (s:RSt) (va vf vi vp:Value):Array Value:=#[.pointer (some ⟨fb,0,none⟩),.int .i64 s.last,.int .i64 s.most,va,vf,vi,vp]
structure RSok (s:RSt):Prop where
 len:s.ids.length=s.ps.length
 few:s.ids.length≤120
 fewA:s.avail.length≤400
 fewF:s.freed.length≤400
 last:2≤s.last∧s.last≤400
 most:2≤s.most∧s.most≤400
structure RStAt (S:Nat→Prop) (w:World) (rb fb:Nat) (s:RSt) (va vf vi vp:Value):Prop where
 obj:w.heap[rb]?=some (.cells (rsCells fb s va vf vi vp) 70 (0,0))
 avail:IntsS S w va s.avail
 freed:IntsS S w vf s.freed
 ids:IntsS S w vi s.ids
 pages:PagesS S w vp s.ps
 ok:RSok s
section
variable {S:Nat→Prop} {w w':World} {rb fb:Nat} {s:RSt} {va vf vi vp:Value}
theorem RStAt.lt (h:RStAt S w rb fb s va vf vi vp):rb<w.heap.size:=(qA h.obj)
theorem RStAt.on (h:RStAt S w rb fb s va vf vi vp) (hk:Ks S w w') (hb:w'.heap[rb]?=w.heap[rb]?):RStAt S w' rb fb s va vf vi vp:=
 ⟨hb.trans h.obj,h.avail.on hk,h.freed.on hk,h.ids.on hk,h.pages.on hk,h.ok⟩
theorem RStAt.below (h:RStAt S w rb fb s va vf vi vp) (hb:Below w.heap.size w w'):RStAt S w' rb fb s va vf vi vp:=h.on (.below hb) (hb.block rb h.lt)
theorem RStAt.cells (h:RStAt S w rb fb s va vf vi vp):∀ j,w.cell? ⟨rb,j,none⟩=(rsCells fb s va vf vi vp)[j]?:=cell_rowL h.obj
theorem RStAt.frozen (h:RStAt S w rb fb s va vf vi vp):∀ j,w.frozen? ⟨rb,j,none⟩=false:=frozen_rowL h.obj
end
def placeR (s:RSt) (x:Int):Int:=match s.ids.findIdx? (·==x) with|some k=>(k:Int)|none=>-1
def countB (s:RSt) (x:Int):Nat:=(s.ids.takeWhile (fun y=>decide (y<x))).length
def dirtyR (s:RSt) (x:Int) (p:PageD):RSt:={ s with ids:=s.ids.take (countB s x)++x::s.ids.drop (countB s x),ps:=s.ps.take (countB s x)++p::s.ps.drop (countB s x) }
def addR (s:RSt) (p:PageD):Int × Int × RSt:=
 if isPB p=false then (0,10,s) else if 120≤s.ids.length then (0,17,s)
 else match s.avail with
  | x::r=>(x,0,dirtyR { s with avail:=r } x p)
  | []=>if s.most≤s.last then (0,14,s) else (s.last,0,dirtyR { s with last:=s.last+1 } s.last p)
def setR (s:RSt) (x:Int) (p:PageD):Int × RSt:=
 if isPB p=false∨placeR s x<0 then (10,s) else (0,{ s with ps:=s.ps.set (placeR s x).toNat p })
end
section
open Go.RowKit
theorem hidA {p:Prop} (h:p):Hid p:=h
theorem Tryz.szInt (w:World):(Go.sizeOf 3).run Tryz.prog w=.ok 1 w:=by kernel_rfl
theorem Tryz.szPage (w:World):(Go.sizeOf 59).run Tryz.prog w=.ok 14 w:=by kernel_rfl
theorem IntsS.get {S:Nat→Prop} {w:World} {v:Value} {l:List Int} (h:IntsS S w v l):∃ ao cap,v=.slice ao l.length cap∧∀ k,k<l.length→∃ a:Addr,(∀ W,(Instr.indexAt 32 (.slice ao l.length cap) (.int .i64 (k:Int))).run Tryz.prog W=.ok (.pointer (some a)) W)∧∀ W,Ks S w W→W.cell? a=some (.int .i64 (l.getD k 0)):=by
 obtain⟨ao,cap,e,h1⟩:=h
 refine⟨ao,cap,e,fun k hk=>?_⟩
 obtain⟨b,o,ha,_,h2,_⟩:=h1.here.get (by omega) Tryz.underlying32 Tryz.szInt k hk
 refine⟨_,h2,fun W hW=>?_⟩
 obtain⟨b',o',ha',_,_,h3⟩:=(h1 W hW).get (by omega) Tryz.underlying32 Tryz.szInt k hk
 rw[ha] at ha'
 simp only[qQ,Addr.mk.injEq,and_true] at ha'
 obtain⟨rfl,rfl⟩:=ha'
 have:=h3 0 (.int .i64 (l.getD k 0)) (by simp[intsC,List.getD,hk])
 simpa using this
theorem place_hit {s:RSt} {x:Int} {k:Nat} (hk:k<s.ids.length) (h1:∀ j,j<k→s.ids.getD j 0≠x) (h2:s.ids.getD k 0=x):placeR s x=(k:Int):=by
 have:s.ids.findIdx? (·==x)=some k:=by
  rw[List.findIdx?_eq_some_iff_getElem]
  refine⟨hk,by simpa[List.getD,hk] using h2,fun j hj=>?_⟩
  have:=h1 j hj
  simpa[List.getD,Nat.lt_trans hj hk] using this
 unfold placeR
 rw[this]
theorem place_no {s:RSt} {x:Int} (h1:∀ j,j<s.ids.length→s.ids.getD j 0≠x):placeR s x=-1:=by
 have:s.ids.findIdx? (·==x)=none:=by
  rw[List.findIdx?_eq_none_iff]
  intro y hy
  obtain⟨j,hj,rfl⟩:=List.getElem_of_mem hy
  have:=h1 j hj
  simpa[List.getD,hj] using this
 unfold placeR
 rw[this]
section
variable {S:Nat→Prop} {w:World} {rb fb:Nat} {s:RSt} {va vf vi vp:Value}
theorem place_any (h:RStAt S w rb fb s va vf vi vp) (x:Int) :
  Calls Tryz.prog 99 #[.pointer (some ⟨rb,0,none⟩),.int .i64 x] w fun e w'=>e=.returned (.int .i64 (placeR s x))∧w'=w:=by
 obtain⟨ao,cap,rfl,hg⟩:=h.ids.get
 have c5:w.cell? ⟨rb,5,none⟩=some (.slice ao s.ids.length cap):=h.cells 5
 have HG:=hidA hg
 have HH:Hid (∀ k,k<s.ids.length→(∀ j,j<k→s.ids.getD j 0≠x)→s.ids.getD k 0=x→placeR s x=(k:Int)):=hidA fun k h0 h1 h2=>place_hit h0 h1 h2
 have HN:Hid ((∀ j,j<s.ids.length→s.ids.getD j 0≠x)→placeR s x=-1):=hidA place_no
 have hfew:=h.ok.few
 clear h hg
 generalize s.ids=l at *
 generalize placeR s x=RL at *
 go_enter Tryz.func99,Tryz.ntmps99
 go_wp2
 go_loopg [5] l.length (fun g i wr=>∃ (k:Nat),k+g=l.length∧i=.int .i64 k∧Hid (∀ j,j<k→l.getD j 0≠x)∧wr=w)
 case atStart=>exact⟨0,by omega,rfl,hidA (fun j hj=>absurd hj (by omega)),rfl⟩
 case round=>
  obtain⟨k,hk,rfl,hlt,rfl⟩:=hrel
  cases gk with
  | zero=>
    have hke:k=l.length:=by omega
    subst hke
    have hRL2:=HN.out hlt.out
    clear HN HH HG hlt
    subst hRL2
    go_wp2
    go_ret
    exact⟨rfl,rfl⟩
  | succ g=>
    have hlk:k<l.length:=by omega
    obtain⟨a,hx,hcell⟩:=HG.out k hlk
    replace hcell:=hcell wr (Ks.refl _ _)
    by_cases he:l.getD k 0=x
    ·have hRL2:=HH.out k hlk hlt.out he
     rw[he] at hcell
     clear HN HH HG hlt he
     subst hRL2
     go_wp2
     go_ret
     exact⟨rfl,rfl⟩
    ·have he2:(l.getD k 0==x)=false:=by simpa using he
     have hlt2:Hid (∀ j,j<k+1→l.getD j 0≠x):=hidA (fun j hj=>by
      rcases Nat.lt_or_ge j k with h1|h1
      ·exact hlt.out j h1
      ·obtain rfl:j=k:=by omega
       exact he)
     clear HN HH HG hlt
     generalize l.getD k 0=y at *
     clear he
     go_wp2
     go_roundg g
     case rel=>exact⟨k+1,by omega,by go_num,hlt2,rfl⟩
     case measure=>omega
end
end
end Go.Proofs.YtbghhklbfnplbaaGreat

import Derived.Test.YtbghhklbfnplbaaGreatC00
import Derived.Test.YtbghhklbfnplbaaGreatC27
import Derived.Test.YtbghhklbfnplbaaGreatC15
import Derived.Test.YtbghhklbfnplbaaGreatC26
namespace Go.Proofs.YtbghhklbfnplbaaGreat
section
open Go.RowKit
def insAt {α:Type} (l:List α) (i:Nat) (x:α):List α:=l.take i++x::l.drop i
theorem insAt_len {α:Type} (l:List α) (k:Nat) (x:α):(insAt l k x).length=l.length+1:=by
 simp only[insAt,qO,List.length_take,qV,List.length_drop]
 omega
def brA (vk vd:Value):Array Value:=#[.int .i64 2,.slice none 0 0,vk,vd,.string ⟨#[]⟩,.slice none 0 0,.slice none 0 0,.int .i64 0,.int .u64 0,.int .i64 0,.int .i64 0,.int .i64 0,.int .i64 0,.int .i64 0]
theorem heap_cellsA {g:Nat} {E:TypeId}:∀ (vs:List Value) (o:Nat) (w:World) (cur:Array Value),w.heap[g]?=some (.cells cur E (0,0))→(w.setCells g o vs).heap[g]?=some (.cells ((vs.foldl (fun (s:Array Value × Nat) v=>(s.1.setIfInBounds s.2 v,s.2+1)) (cur,o)).1) E (0,0))
 | [],_,_,_,h=>h
 | v::r,o,w,cur,h=>heap_cellsA r (o+1) (w.setCell ⟨g,o,none⟩ v) _ (heap_setCell_same w g o cur E v h)
theorem there_objA {g n:Nat} {E:TypeId} {w:World} {cur:Array Value} (h:w.heap[g]?=some (.cells cur E (0,0))) (hn:n≤cur.size):w.there g 0 n:=fun j hj=>⟨by rw[cell_rowL h,Array.getElem?_eq_getElem (by omega)];rfl,frozen_rowL h _⟩
theorem Tryz.infoStrA:(Tryz.prog.info? 9).map (fun i=>(i.zero,i.size,i.bytes))=some (some (.string ⟨#[]⟩),1,16):=by kernel_rfl
theorem own_belowA {w w':World} {B sz n:Nat} {E:TypeId} {v:Value} {cs:List Value} (h:w.ownsRow B E sz v n cs) (hb:Below w.heap.size w w'):w'.ownsRow B E sz v n cs:=by
 refine⟨h.1,h.2.imp id fun ⟨g,cap,cur,h1,h2,h3,h4⟩=>⟨g,cap,cur,h1,h2,(hb.block g (qA h3)).trans h3,h4⟩⟩
theorem grown_cellsB {g:Nat}:∀ (vs:List Value) (o:Nat) (w:World),w.grownBy (w.setCells g o vs) (some g)
 | [],_,w=>World.grownBy.refl w _
 | v::r,o,w=>by
   have h1:w.grownBy (w.setCell ⟨g,o,none⟩ v) (some g):=⟨rfl,rfl,rfl,by simp,fun k _ hne=>Below.heap_setCell _ _ _ _ (show k≠g by simpa using hne)⟩
   exact grown_then h1 (grown_cellsB r (o+1) _)
theorem Tryz.sizePg:(Tryz.prog.info? 59).map (·.size)=some 14:=by kernel_rfl
theorem Tryz.szStrB (w:World):(Go.sizeOf 9).run Tryz.prog w=.ok 1 w:=by kernel_rfl
theorem Tryz.szIntB (w:World):(Go.sizeOf 3).run Tryz.prog w=.ok 1 w:=by kernel_rfl
theorem Tryz.infoIntB:(Tryz.prog.info? 3).map (fun i=>(i.zero,i.size,i.bytes))=some (some (.int .i64 0),1,8):=by kernel_rfl
structure RBox (B0:Nat) (T:TypeId) (w w':World):Prop where
 bel:Below B0 w w'
 far:∀ (k:Nat) (cs:Array Value) (E:TypeId) (fr:Nat × Nat),E≠T→w.heap[k]?=some (.cells cs E fr)→w'.heap[k]?=some (.cells cs E fr)
def RAt (xs:List Nat) (B0:Nat) (T:TypeId) (j:Nat) (w w':World):Prop:=if xs.contains j then RBox B0 T w w' else Below w.heap.size w w'
theorem RBox.ofBelow {B0:Nat} {T:TypeId} {w w':World} (h:Below w.heap.size w w') (hB:B0≤w.heap.size):RBox B0 T w w':=
 ⟨h.mono hB,fun k _ _ _ _ e=>(h.block k (qA e)).trans e⟩
theorem RAt.box {xs:List Nat} {B0:Nat} {T:TypeId} {j:Nat} {w w':World} (h:RAt xs B0 T j w w') (hB:B0≤w.heap.size):RBox B0 T w w':=by
 unfold RAt at h
 split at h
 ·exact h
 ·exact .ofBelow h hB
theorem RAt.new {xs:List Nat} {B0:Nat} {T:TypeId} {j:Nat} {w w':World} (h:RAt xs B0 T j w w') (hj:j ∉ xs):Below w.heap.size w w':=by
 unfold RAt at h
 rw[if_neg (by simpa using hj)] at h
 exact h
theorem RAt.step {xs:List Nat} {B0:Nat} {T:TypeId} {j:Nat} {w0 w w':World} (h:RAt xs B0 T j w w') (hB:Below B0 w0 w) (hs:B0≤w0.heap.size):Below B0 w0 w':=hB.trans (h.box (qN hs hB.size)).bel
theorem RBox.far' {B0:Nat} {w w':World} {k:Nat} {cs:Array Value} {fr:Nat × Nat} (h:RBox B0 9 w w') (e:w.heap[k]?=some (.cells cs 59 fr)):w'.heap[k]?=some (.cells cs 59 fr):=h.far _ _ _ _ (by decide) e
theorem own_lit1 {w:World} {B0:Nat} {E:TypeId} {u:Value} (hB:B0≤w.heap.size):(w.alloc (.cells #[u] E)).ownsRow B0 E 1 (.slice (some ⟨w.heap.size,0,none⟩) 1 1) 1 [u]:=
 ⟨rfl,.inr ⟨w.heap.size,1,#[u],rfl,hB,heap_newL w _,Nat.le_refl _,by unfold maxLen;omega,rfl,rfl⟩⟩
theorem own_app {P:Program} {T E:TypeId} {w:World} {B0 m n:Nat} {v z:Value} {by':Nat} {xs cs:List Value} {ao:Option Addr} {cap:Nat} (ho:w.ownsRow B0 E 1 v m xs) (hs:SlAt 1 w ao cap n cs) (hT:P.underlying T=some (.slice E)) (hi:(P.info? E).map (fun i=>(i.zero,i.size,i.bytes))=some (some z,1,by')) (hz:z.cells.size=1) (hB:B0≤w.heap.size) (hmax:m+n≤100000) (hby:by'≤1000000) (ty:TypeId) :
  ∃ v' w',(Builtin.append_ #[T,T] ty #[v,.slice ao n cap]).run P w=.ok v' w'∧(∃ a c,v'=.slice a (m+n) c)∧w'.ownsRow B0 E 1 v' (m+n) (xs++cs)∧RBox B0 E w w':=by
 obtain⟨v',w',h1,h2,h3⟩:=hs.app (ty:=ty) (by omega) hT hi hz ho hB hmax hby
 refine⟨v',w',h1,?_,h2,?_⟩
 ·rcases h2.2 with ⟨e,h0⟩|⟨g,c,_,e,_⟩
  ·exact⟨none,0,by rw[e];congr 1;omega⟩
  ·exact⟨_,c,e⟩
 ·have hb:∀ k,w.heap[k]?≠none→some k=v.ownBlock→B0≤k∧∃ cs' fr,w.heap[k]?=some (.cells cs' E fr):=fun k hk e=>by
   rcases ho.2 with ⟨e',_⟩|⟨g,c,cur,e',h5,h6,_⟩
   ·rw[e'] at e;cases e
   ·rw[e'] at e
    simp only[Value.ownBlock,qQ] at e
    subst e
    exact⟨h5,_,_,h6⟩
  refine⟨⟨h3.os,h3.tape,h3.output,h3.size,fun k hk=>h3.block k (by omega) (fun e=>?_)⟩,fun k cs' E' fr hne e=>(h3.block k (qA e) (fun e2=>?_)).trans e⟩
  ·have:=hb k (by simp[show k<w.heap.size by omega]) e
   omega
  ·obtain⟨_,cs2,fr2,e3⟩:=hb k (by rw[e];simp) e2
   rw[e] at e3
   simp only[qQ,qX] at e3
   exact hne e3.2.1
theorem foldl_set:∀ (vs:List Value) (cur:Array Value) (o:Nat),o+vs.length≤cur.size→((vs.foldl (fun (s:Array Value × Nat) v=>(s.1.setIfInBounds s.2 v,s.2+1)) (cur,o)).1).toList=cur.toList.take o++vs++cur.toList.drop (o+vs.length)
 | [],cur,o,_=>by simp
 | v::vs,cur,o,h=>by
   have ho:o<cur.size:=by simp at h;omega
   rw[List.foldl_cons,foldl_set vs (cur.setIfInBounds o v) (o+1) (by simp at h ⊢;omega)]
   simp only[Array.toList_setIfInBounds,qV]
   have e1:(cur.toList.set o v).take (o+1)=cur.toList.take o++[v]:=by
    rw[List.take_succ_eq_append_getElem (by simpa using ho)]
    simp[List.take_set_of_le]
   have e2:(cur.toList.set o v).drop (o+1+vs.length)=cur.toList.drop (o+1+vs.length):=by
    rw[List.drop_set_of_lt (by omega)]
   rw[e1,e2,show o+1+vs.length=o+(vs.length+1) by omega]
   simp
theorem heap_whole {w:World} {g:Nat} {T:TypeId} {cur:Array Value} {vs:List Value} (h:w.heap[g]?=some (.cells cur T (0,0))) (hl:vs.length=cur.size):(w.setCells g 0 vs).heap[g]?=some (.cells vs.toArray T (0,0)):=by
 rw[heap_cellsA vs 0 w cur h]
 have:=foldl_set vs cur 0 (by omega)
 simp only[List.take_zero,List.nil_append,Nat.zero_add] at this
 rw[List.drop_eq_nil_of_le (by simp;omega),List.append_nil] at this
 congr 2
 exact Array.toList_inj.1 this
theorem own_set1 {w:World} {B n g c k:Nat} {E:TypeId} {cs:List Value} {u:Value} (h:w.ownsRow B E 1 (.slice (some ⟨g,0,none⟩) n c) n cs) (_:u=u):(w.setCell ⟨g,k,none⟩ u).ownsRow B E 1 (.slice (some ⟨g,0,none⟩) n c) n (cs.set k u):=by
 refine⟨by rw[List.length_set];exact h.1,?_⟩
 rcases h.2 with ⟨e,_⟩|⟨g',cap,cur,e,h2,h3,h4,h5,h6,h7⟩
 ·cases e
 ·simp only[qR,qQ,Addr.mk.injEq,and_true,true_and] at e
  obtain⟨rfl,rfl⟩:=e
  refine .inr ⟨g,c,cur.setIfInBounds k u,rfl,h2,heap_setCell_same w g k cur E u h3,h4,h5,by simpa using h6,?_⟩
  rw[Array.toList_setIfInBounds,List.take_set,h7]
theorem own_app0 {P:Program} {T E:TypeId} {w:World} {B0 n:Nat} {z:Value} {by':Nat} {cs:List Value} {ao:Option Addr} {cap:Nat} (hs:SlAt 1 w ao cap n cs) (hT:P.underlying T=some (.slice E)) (hi:(P.info? E).map (fun i=>(i.zero,i.size,i.bytes))=some (some z,1,by')) (hz:z.cells.size=1) (hB:B0≤w.heap.size) (hmax:n≤100000) (hby:by'≤1000000) (ty:TypeId) :
  ∃ a c w',(Builtin.append_ #[T,T] ty #[.slice none 0 0,.slice ao n cap]).run P w=.ok (.slice a n c) w'∧w'.ownsRow B0 E 1 (.slice a n c) n cs∧Below w.heap.size w w':=by
 obtain⟨v',w',h1,h2,h3⟩:=hs.app (ty:=ty) (by omega) hT hi hz (World.ownsRow_nil w B0 E 1) hB (by omega) hby
 rw[Nat.zero_add,List.nil_append] at h2
 have h4:Below w.heap.size w w':=⟨h3.os,h3.tape,h3.output,h3.size,fun k hk=>h3.block k hk (by simp[Value.ownBlock])⟩
 rcases h2.2 with ⟨e,h0⟩|⟨g,c,_,e,_⟩
 ·refine⟨none,0,w',?_,?_,h4⟩
  ·rw[h1,e,h0]
  ·rw[e] at h2;rw[h0] at h2 ⊢;exact h2
 ·exact⟨_,c,w',by rw[h1,e],by rw[← e];exact h2,h4⟩
def NewT (C:Nat) (E:TypeId) (w:World) (v:Value) (n:Nat) (cs:List Value):Prop:=∃ a c,v=.slice a n c∧SlAt 1 w a c n cs∧∀ b o,a=some ⟨b,o,none⟩→C≤b∧∃ cells fr,w.heap[b]?=some (.cells cells E fr)
section
variable {C n:Nat} {E T:TypeId} {w w':World} {v:Value} {cs:List Value}
theorem NewT.keep (h:NewT C E w v n cs) (hk:∀ k cells fr,C≤k→w.heap[k]?=some (.cells cells E fr)→w'.heap[k]?=w.heap[k]?):NewT C E w' v n cs:=by
 obtain⟨a,c,e,h1,h2⟩:=h
 refine⟨a,c,e,h1.block fun b hb ⟨o,ho⟩=>?_,fun b o ho=>?_⟩
 ·obtain⟨h3,cells,fr,h4⟩:=h2 b o ho
  exact hk b _ _ h3 h4
 ·obtain⟨h3,cells,fr,h4⟩:=h2 b o ho
  exact⟨h3,cells,fr,(hk b _ _ h3 h4).trans h4⟩
theorem NewT.below (h:NewT C E w v n cs) (hb:Below w.heap.size w w'):NewT C E w' v n cs:=h.keep fun k _ _ _ e=>hb.block k (qA e)
theorem NewT.own {B:Nat} (h:w.ownsRow B E 1 v n cs) (h1:∀ u∈cs,u.oneCell'=true) (hC:C≤B):NewT C E w v n cs:=by
 obtain⟨a,c,e,h2,h3⟩:=SlAt.own h h1
 refine⟨a,c,e,h2,fun b o ho=>?_⟩
 have:=h3 b o ho
 refine⟨by omega,?_⟩
 rcases h.2 with ⟨e',_⟩|⟨g,c',cur,e',h5,h6,_⟩
 ·rw[e] at e'
  simp only[qR] at e'
  rw[e'.1] at ho
  cases ho
 ·rw[e] at e'
  simp only[qR] at e'
  rw[e'.1] at ho
  simp only[qQ,Addr.mk.injEq,and_true] at ho
  obtain⟨rfl,rfl⟩:=ho
  exact⟨_,_,h6⟩
end
theorem NewT.head {C n:Nat} {E:TypeId} {w:World} {a:Option Addr} {c:Nat} {cs:List Value} (h:NewT C E w (.slice a n c) n cs) (k:Nat) (hk:k≤n):NewT C E w (.slice a k c) k (cs.take (k*1)):=by
 obtain⟨a',c',e,h1,h2⟩:=h
 simp only[qR,true_and] at e
 obtain⟨rfl,rfl⟩:=e
 exact⟨a,c,rfl,h1.head k hk,h2⟩
theorem NewT.ofTail {C n m c2:Nat} {E:TypeId} {w:World} {a bo:Option Addr} {c:Nat} {cs cs2:List Value} (h:NewT C E w (.slice a n c) n cs) (hb:∀ b o,bo=some ⟨b,o,none⟩→∃ o',a=some ⟨b,o',none⟩) (ht:SlAt 1 w bo c2 m cs2):NewT C E w (.slice bo m c2) m cs2:=by
 obtain⟨a',c',e,h1,h2⟩:=h
 simp only[qR,true_and] at e
 obtain⟨rfl,rfl⟩:=e
 refine⟨bo,c2,rfl,ht,fun b o e=>?_⟩
 obtain⟨o',e'⟩:=hb b o e
 exact h2 b o' e'
structure Qb (C:Nat) (w0 w:World) (qb:Nat) (ks:List ByteArray) (ds:List Int) (vk vd:Value):Prop where
 obj:w.heap[qb]?=some (.cells (brA vk vd) 59 (0,0))
 new:C≤qb
 keys:NewT C 9 w vk ks.length (strsC ks)
 kids:NewT C 3 w vd ds.length (intsC ds)
 bel:Below C w0 w
theorem Qb.below {C qb:Nat} {w0 w w':World} {ks:List ByteArray} {ds:List Int} {vk vd:Value} (h:Qb C w0 w qb ks ds vk vd) (hb:Below w.heap.size w w') (hC:C≤w.heap.size):Qb C w0 w' qb ks ds vk vd:=
 ⟨(hb.block _ (qA h.obj)).trans h.obj,h.new,h.keys.below hb,h.kids.below hb,h.bel.trans (hb.mono hC)⟩
end
section
open Go.RowKit
open F (wpList_append_any step_append_any)
def branchP (keys:List ByteArray) (kids:List Int):PageD:={ noPage with kind:=2,keys:=keys,kids:=kids }
def putKeys (p:PageD) (k:Nat) (key:ByteArray) (more:Int):List ByteArray:=if more=0 then p.keys else insAt p.keys (k+1) key
def putKids (p:PageD) (k:Nat) (kid more:Int):List Int:=if more=0 then p.kids.set k kid else insAt (p.kids.set k kid) (k+1) more
abbrev PutA:=(Int × Int × ByteArray × Int) × RSt
def putBranchR (id:Int) (keys:List ByteArray) (kids:List Int) (s:RSt):PutA:=
 if kids.length≤4 then ((id,0,⟨#[]⟩,(setR s id (branchP keys kids)).1),(setR s id (branchP keys kids)).2)
 else
  let h:=(kids.length+1) / 2
  let s1:=(setR s id (branchP (keys.take h) (kids.take h))).2
  let r:=addR s1 (branchP (⟨#[]⟩::keys.drop (h+1)) (kids.drop h))
  ((id,r.1,keys.getD h ⟨#[]⟩,r.2.1),r.2.2)
def putR:Nat→RSt→Int→ItemD→PutA
 | 0,s,_,_=>((0,0,⟨#[]⟩,12),s)
 | f+1,s,id,x=>
   let p:=s.ps.getD (placeR s id).toNat noPage
   if p.kind=1 then putLeafR s id p.items x
   else
    let k:=downN p.keys x.key p.keys.length
    let r:=putR f s (p.kids.getD k 0) x
    putBranchR id (putKeys p k r.1.2.2.1 r.1.2.1) (putKids p k r.1.1 r.1.2.1) r.2
def tupP (r:PutA):Value:=.tuple #[.int .i64 r.1.1,.int .i64 r.1.2.1,.string r.1.2.2.1,.int .i64 r.1.2.2.2]
end
end Go.Proofs.YtbghhklbfnplbaaGreat

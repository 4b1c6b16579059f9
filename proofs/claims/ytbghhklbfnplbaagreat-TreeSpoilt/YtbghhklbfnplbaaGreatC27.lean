import Derived.Deep.MidRow
import Derived.WalkKit
import Derived.WalkSpells
import Derived.WalkLawsBesides
import Derived.Test.YtbghhklbfnplbaaGreatC00
import Derived.Test.YtbghhklbfnplbaaGreatC16
namespace Go.Proofs.YtbghhklbfnplbaaGreat
section
open Go
theorem Act.eval_same {a:Act} {d:Tmp} {v:Value} (h:d<a.tmps.size):(a.put (some d) v).eval (.tmp d)=v:=by
 simp[Act.eval,Act.put,h]
theorem Act.eval_other {a:Act} {d t:Tmp} {v:Value} (h:d≠t):(a.put (some d) v).eval (.tmp t)=a.eval (.tmp t):=by
 simp[Act.eval,Act.put,Array.getElem?_setIfInBounds_ne h]
theorem Act.size_put {a:Act} {d:Option Tmp} {v:Value}:(a.put d v).tmps.size=a.tmps.size:=by cases d<;>simp[Act.put]
theorem Act.defers_put {a:Act} {d:Option Tmp} {v:Value}:(a.put d v).defers=a.defers:=by cases d<;>rfl
def outB (ops:Array Oper) (todo:List Nat) (t:Tmp):Bool:=todo.all fun k=>match ops[k]? with|some o=>o.dst != some t|none=>true
def edgesB (md:Region.Mode) (ops:Array Oper):Bool:=(List.range ops.size).all fun k=>match ops[k]? with|some o=>o.after.toList.all fun e=>!(Region.binds md e)||decide (e.on<k)|none=>true
def dstsOf (ops:Array Oper) (todo:List Nat):List Tmp:=todo.filterMap fun k=>(ops[k]?).bind (·.dst)
def onceB:List Tmp→Bool
 | []=>true
 | t::l=>!l.contains t&&onceB l
def leansB (md:Region.Mode) (ops:Array Oper) (todo:List Nat) (pred:Nat→List Nat) (slots:Nat→List Tmp):Bool:=
 todo.all fun j=>((pred j).all fun k=>todo.contains k&&waitsB md ops 60 j k)&&(slots j).all fun t=>(j::pred j).any fun k=>(ops[k]?).bind (·.dst)==some t
structure RInv (md:Region.Mode) (ops:Array Oper) (B:World→Prop) (F:Nat→Act→World→Prop) (todo xs:List Nat) (dead:Nat→Nat→Bool) (l0:Array Bool) (a0:Act) (l:Array Bool) (a:Act) (w:World):Prop where
 closed:closedB md ops l=true
 size:l.size=ops.size
 defers:a.defers=a0.defers
 tsize:a.tmps.size=a0.tmps.size
 base:B w
 ext:∀ i,l0.getD i false=true→l.getD i false=true
 out:∀ t,outB ops todo t=true→a.eval (.tmp t)=a0.eval (.tmp t)
 fact:∀ i,i∈todo→l.getD i false=true→(∀ j∈todo,dead i j=true→l.getD j false=false)→F i a w
 last:∀ x∈xs,l.getD x false=false
def leftN (n:Nat) (l:Array Bool):Nat:=((List.range n).filter fun i=>!l.getD i false).length
theorem filter_set:∀ (xs:List Nat) (l:Array Bool) (i:Nat),i∈xs→l.getD i false=false→i<l.size→(xs.filter fun k=>!(l.setIfInBounds i true).getD k false).length<(xs.filter fun k=>!l.getD k false).length:=by
 intro xs l i hi h0 hs
 have hle:∀ (ys:List Nat),(ys.filter fun k=>!(l.setIfInBounds i true).getD k false).length≤(ys.filter fun k=>!l.getD k false).length:=by
  intro ys
  induction ys with
  | nil=>simp
  | cons y ys ih=>
    by_cases e:i=y
    ·subst e
     have h1:(l.setIfInBounds i true).getD i false=true:=by simp[hs]
     simp only[List.filter_cons,h1,h0,Bool.not_true,Bool.not_false,if_true,Bool.false_eq_true,if_false,qV]
     omega
    ·rw[List.filter_cons,List.filter_cons,getD_set_ne false e]
     split<;>(try simp only[qV])<;>omega
 induction xs with
 | nil=>cases hi
 | cons y ys ih=>
   by_cases e:i=y
   ·subst e
    have h1:(l.setIfInBounds i true).getD i false=true:=by simp[hs]
    have:=hle ys
    simp only[List.filter_cons,h1,h0,Bool.not_true,Bool.not_false,if_true,Bool.false_eq_true,if_false,qV]
    omega
   ·have h2:i∈ys:=by
     rcases List.mem_cons.1 hi with h|h
     ·exact absurd h e
     ·exact h
    have:=ih h2
    rw[List.filter_cons,List.filter_cons,getD_set_ne false e]
    split<;>(try simp only[qV])<;>omega
section
variable {P:Program} {ops:Array Oper} {Q:Exit→Act→World→Prop} {md:Region.Mode} {B:World→Prop} {R:Nat→World→World→Prop} {F:Nat→Act→World→Prop} {todo xs:List Nat} {dead:Nat→Nat→Bool} {l0:Array Bool} {a0:Act} {pred:Nat→List Nat} {slots:Nat→List Tmp}
theorem all_listed {l:Array Bool} (he:edgesB md ops=true) (hs:l.size=ops.size) (hr:Region.ready md ops l=[]):∀ i,i<ops.size→l.getD i false=true:=by
 intro i
 induction i using Nat.strongRecOn with
 | _ i ih=>
   intro hi
   cases hl:l.getD i false with
   | true=>rfl
   | false=>
     exfalso
     have hmem:i∈Region.ready md ops l:=by
      refine mem_ready.2 ⟨?_,ops[i],by simp[hi],fun e he0 hb=>?_⟩
      ·have:i<l.size:=by omega
       simpa[this] using hl
      ·have h1:=List.all_eq_true.1 he i (List.mem_range.2 hi)
       rw[show ops[i]?=some ops[i] by simp[hi]] at h1
       have h2:=List.all_eq_true.1 h1 e (Array.mem_toList_iff.2 he0)
       rw[hb] at h2
       have h3:e.on<i:=by simpa using h2
       exact ih e.on h3 (by omega)
     rw[hr] at hmem
     cases hmem
theorem onceB_ne:∀ (xs:List Nat),onceB (dstsOf ops xs)=true→∀ j k,j∈xs→k∈xs→j≠k→∀ d,(ops[j]?).bind (·.dst)=some d→(ops[k]?).bind (·.dst)≠some d
 | [],_,_,_,h,_,_,_,_,_=>by cases h
 | x::xs,h,j,k,hj,hk,hne,d,e1,e2=>by
   have hmem:∀ y∈xs,(ops[y]?).bind (·.dst)=some d→d∈dstsOf ops xs:=fun y hy e=>List.mem_filterMap.2 ⟨y,hy,e⟩
   unfold dstsOf at h
   rw[List.filterMap_cons] at h
   have hx:∀ y∈xs,(ops[y]?).bind (·.dst)=some d→(ops[x]?).bind (·.dst)=some d→False:=fun y hy e e'=>by
    rw[e'] at h
    simp only[onceB,qW,Bool.not_eq_true'] at h
    have:=List.contains_iff_mem.2 (hmem y hy e)
    unfold dstsOf at this
    rw[this] at h
    cases h.1
   have hr:onceB (dstsOf ops xs)=true:=by
    cases hd:(ops[x]?).bind (·.dst) with
    | none=>rw[hd] at h;exact h
    | some d'=>
      rw[hd] at h
      simp only[onceB,qW] at h
      exact h.2
   rcases List.mem_cons.1 hj with h1|h1<;>rcases List.mem_cons.1 hk with h2|h2
   ·exact hne (h1.trans h2.symm)
   ·exact hx k h2 e2 (h1 ▸ e1)
   ·exact hx j h1 e1 (h2 ▸ e2)
   ·exact onceB_ne xs hr j k h1 h2 hne d e1 e2
def OpDoes (P:Program) (ops:Array Oper) (Q:Exit→Act→World→Prop) (B:World→Prop) (R:Nat→World→World→Prop) (F:Nat→Act→World→Prop) (todo:List Nat) (a0:Act) (pred:Nat→List Nat) (j:Nat):Prop:=
 ∀ a w,B w→a.defers=a0.defers→a.tmps.size=a0.tmps.size→(∀ t,outB ops todo t=true→a.eval (.tmp t)=a0.eval (.tmp t))→(∀ k∈pred j,F k a w) →
   ∀ o,ops[j]?=some o→∀ K:Act→World→Prop,Shut (∀ v w',R j w w'→F j (a.put o.dst v) w'→K (a.put o.dst v) w') →
     if Region.wanted o (yielded ops a.tmps)=true then Oper.wp P o a w K Q else K (a.put o.dst undef) w
def deadsB (md:Region.Mode) (ops:Array Oper) (todo:List Nat) (pred:Nat→List Nat) (dead:Nat→Nat→Bool):Bool:=
 todo.all fun k=>(pred k).all fun i=>todo.all fun j=>!dead i j||j==k||waitsB md ops 60 j k
def lastB (md:Region.Mode) (ops:Array Oper) (todo xs:List Nat):Bool:=
 match xs with
 | []=>true
 | [x]=>!todo.contains x&&(todo.all fun k=>waitsB md ops 60 x k)
 | _=>false
def Ends (P:Program) (ops:Array Oper) (Q:Exit→Act→World→Prop) (B:World→Prop) (F:Nat→Act→World→Prop) (todo xs:List Nat) (dead:Nat→Nat→Bool) (a0:Act):Prop:=
 ∀ a w,B w→(∀ k∈todo,(∀ j∈todo,dead k j=false)→F k a w)→a=(dstsOf ops todo).foldl (fun b d=>b.put (some d) (a.eval (.tmp d))) a0 →
   match xs with
   | []=>Q .normal a w
   | x::_=>∀ o,ops[x]?=some o→∀ K:Act→World→Prop,Shut (∀ v w',Q .normal (a.put o.dst v) w'→K (a.put o.dst v) w')→if Region.wanted o (yielded ops a.tmps)=true then Oper.wp P o a w K Q else K (a.put o.dst undef) w
structure Asks (P:Program) (md:Region.Mode) (ops:Array Oper) (Q:Exit→Act→World→Prop) (B:World→Prop) (R:Nat→World→World→Prop) (F:Nat→Act→World→Prop) (todo xs:List Nat) (dead:Nat→Nat→Bool) (l0:Array Bool) (a0:Act) (pred:Nat→List Nat) (slots:Nat→List Tmp):Prop where
 he:edgesB md ops=true
 htodo:((List.range ops.size).filter fun i=>!l0.getD i false)=todo++xs
 honce:onceB (dstsOf ops todo)=true
 hlean:leansB md ops todo pred slots=true
 hdead:deadsB md ops todo pred dead=true
 hxs:lastB md ops todo xs=true
 hB:∀ j∈todo,∀ w w',B w→R j w w'→B w'
 hst:∀ i∈todo,∀ j∈todo,i≠j→j ∉ pred i→dead i j=false→∀ a w w',B w→R j w w'→F i a w→F i a w'
 hcg:∀ j∈todo,∀ a a' w,(∀ t∈slots j,a.eval (.tmp t)=a'.eval (.tmp t))→F j a w→F j a' w
 hop:∀ j∈todo,OpDoes P ops Q B R F todo a0 pred j
 hend:Ends P ops Q B F todo xs dead a0
theorem Asks.fold (_:Asks P md ops Q B R F todo xs dead l0 a0 pred slots) {l:Array Bool} {a:Act} {w:World} (h:RInv md ops B F todo xs dead l0 a0 l a w):a=(dstsOf ops todo).foldl (fun b d=>b.put (some d) (a.eval (.tmp d))) a0:=by
 have hfold:∀ (ds:List Tmp) (b:Act),b.tmps.size=a.tmps.size→b.defers=a.defers→(∀ t,t ∉ ds→b.eval (.tmp t)=a.eval (.tmp t))→ds.foldl (fun b d=>b.put (some d) (a.eval (.tmp d))) b=a:=by
  intro ds
  induction ds with
  | nil=>
    intro b h1 h2 h3
    cases b with
    | mk bt bd=>
    cases a with
    | mk at_ ad=>
    simp only at h1 h2
    subst h2
    simp only[List.foldl_nil,Act.mk.injEq,and_true]
    refine Array.ext h1 fun i hi hi'=>?_
    have:=h3 i (by simp)
    simpa[Act.eval,hi,hi'] using this
  | cons d ds ih=>
    intro b h1 h2 h3
    refine ih _ (by rw[Act.size_put,h1]) (by rw[Act.defers_put,h2]) (fun t ht=>?_)
    by_cases e:d=t
    ·subst e
     by_cases hd:d<b.tmps.size
     ·rw[Act.eval_same hd]
     ·have hb':b.tmps.size≤d:=Nat.le_of_not_lt hd
      have ha':a.tmps.size≤d:=h1 ▸ hb'
      simp[Act.eval,Act.put,Array.getElem?_eq_none ha']
    ·rw[Act.eval_other e]
     exact h3 t (by simp only[List.mem_cons,not_or];exact⟨fun h=>e h.symm,ht⟩)
 refine (hfold (dstsOf ops todo) a0 h.tsize.symm h.defers.symm (fun t ht=>(h.out t ?_).symm)).symm
 refine List.all_eq_true.2 fun k hk=>?_
 cases ho:ops[k]? with
 | none=>rfl
 | some o=>
   simp only[bne_iff_ne,ne_eq]
   intro hd
   exact ht (List.mem_filterMap.2 ⟨k,hk,by rw[ho];exact hd⟩)
theorem Asks.lt (A:Asks P md ops Q B R F todo xs dead l0 a0 pred slots) {k:Nat} (hk:k∈todo):k<ops.size:=by
 have:k∈(List.range ops.size).filter fun i=>!l0.getD i false:=by rw[A.htodo];exact List.mem_append.2 (.inl hk)
 exact List.mem_range.1 (List.mem_filter.1 this).1
theorem Asks.facts (_:Asks P md ops Q B R F todo xs dead l0 a0 pred slots) {l:Array Bool} {a:Act} {w:World} (h:RInv md ops B F todo xs dead l0 a0 l a w) (hall:∀ i∈todo,l.getD i false=true):∀ k∈todo,(∀ j∈todo,dead k j=false)→F k a w:=
 fun k hk hd=>h.fact k hk (hall k hk) fun j hj he=>by rw[hd j hj] at he;cases he
theorem Asks.fin (A:Asks P md ops Q B R F todo xs dead l0 a0 pred slots) (hx:xs=[]) {l:Array Bool} {a:Act} {w:World} (h:RInv md ops B F todo xs dead l0 a0 l a w) (hall:∀ i,i<ops.size→l.getD i false=true):Q .normal a w:=by
 have:=A.hend a w h.base (A.facts h fun i hi=>hall i (A.lt hi)) (A.fold h)
 subst hx
 exact this
theorem Asks.step (A:Asks P md ops Q B R F todo xs dead l0 a0 pred slots) {l:Array Bool} {a:Act} {w:World} (h:RInv md ops B F todo xs dead l0 a0 l a w) {j:Nat} (hj:j∈Region.ready md ops l) (hjx:j ∉ xs):wpOp P ops Q j (fun a' w'=>RInv md ops B F todo xs dead l0 a0 (l.setIfInBounds j true) a' w') a w:=by
 obtain⟨h0,o,ho,hall⟩:=mem_ready.1 hj
 have hjs:j<ops.size:=(qA ho)
 have hjl:j<l.size:=by rw[h.size];exact hjs
 have h0':l.getD j false=false:=by simpa[hjl] using h0
 have hjt:j∈todo:=by
  have:j∈(List.range ops.size).filter fun i=>!l0.getD i false:=by
   refine List.mem_filter.2 ⟨List.mem_range.2 hjs,?_⟩
   cases hl0:l0.getD j false with
   | false=>rfl
   | true=>rw[h.ext j hl0] at h0';cases h0'
  rw[A.htodo] at this
  rcases List.mem_append.1 this with h1|h1
  ·exact h1
  ·exact absurd h1 hjx
 have hleanj:=List.all_eq_true.1 A.hlean j hjt
 rw[qW] at hleanj
 have hpred:∀ k∈pred j,k∈todo∧l.getD k false=true:=fun k hk=>by
  have h1:=List.all_eq_true.1 hleanj.1 k hk
  rw[qW] at h1
  refine⟨by simpa using h1.1,waits_listed h.closed 60 j k h1.2 fun o' ho'=>?_⟩
  rw[ho] at ho'
  cases ho'
  exact hall
 have hlive:∀ k∈pred j,∀ i∈todo,dead k i=true→l.getD i false=false:=fun k hk i hi hd=>by
  have h1:=List.all_eq_true.1 (List.all_eq_true.1 (List.all_eq_true.1 A.hdead j hjt) k hk) i hi
  rw[hd] at h1
  simp only[Bool.not_true,Bool.false_or,Bool.or_eq_true,beq_iff_eq] at h1
  rcases h1 with rfl|h1
  ·exact h0'
  ·cases hl:l.getD i false with
   | false=>rfl
   | true=>
     have:=waits_listed h.closed 60 i j h1 fun o' ho'=>closed_spec h.closed ho' hl
     rw[h0'] at this
     cases this
 have hleanAll:∀ i∈todo,((pred i).all fun k=>todo.contains k&&waitsB md ops 60 i k)=true∧((slots i).all fun t=>(i::pred i).any fun k=>(ops[k]?).bind (·.dst)==some t)=true:=fun i hi=>by
  have:=List.all_eq_true.1 A.hlean i hi
  rwa [qW] at this
 refine wpOp_step ho fun K' hK=>A.hop j hjt a w h.base h.defers h.tsize h.out (fun k hk=>h.fact k (hpred k hk).1 (hpred k hk).2 (hlive k hk)) o ho K' (fun v w' hR hF=>hK _ _ ?_)
 refine⟨closed_set h.closed hj,by simpa using h.size,by rw[Act.defers_put,h.defers],by rw[Act.size_put,h.tsize],A.hB j hjt w w' h.base hR,fun i hi=>getD_set_true (h.ext i hi),fun t ht=>?_,fun i hi hl hd=>?_,fun x hx=>?_⟩
 ·rw[← h.out t ht]
  have h1:=List.all_eq_true.1 ht j hjt
  rw[ho] at h1
  refine Act.eval_put fun d hd=>?_
  have h2:o.dst≠some t:=by simpa using h1
  rw[hd] at h2
  intro e
  cases e
  exact h2 rfl
 ·by_cases e:j=i
  ·subst e;exact hF
  ·rw[getD_set_ne false e] at hl
   have hnp:j ∉ pred i:=fun hm=>by
    have h5:=List.all_eq_true.1 (hleanAll i hi).1 j hm
    rw[qW] at h5
    have h6:=waits_listed h.closed 60 i j h5.2 fun o' ho'=>closed_spec h.closed ho' hl
    rw[h0'] at h6
    cases h6
   have hdj:dead i j=false:=by
    cases hdj:dead i j with
    | false=>rfl
    | true=>
      have:=hd j hjt hdj
      simp[hjl] at this
   have hd2:∀ k∈todo,dead i k=true→l.getD k false=false:=fun k hk he=>by
    have:=hd k hk he
    by_cases e2:j=k
    ·subst e2;exact h0'
    ·rwa [getD_set_ne false e2] at this
   have h3:=A.hst i hi j hjt (fun e'=>e e'.symm) hnp hdj a w w' h.base hR (h.fact i hi hl hd2)
   refine A.hcg i hi a (a.put o.dst v) w' (fun t ht=>?_) h3
   have h4:=List.all_eq_true.1 (hleanAll i hi).2 t ht
   obtain⟨k,hk,hk2⟩:=List.any_eq_true.1 h4
   have hk3:(ops[k]?).bind (·.dst)=some t:=by simpa using hk2
   have hkl:k∈todo∧l.getD k false=true:=by
    rcases List.mem_cons.1 hk with rfl|hk
    ·exact⟨hi,hl⟩
    ·have h5:=List.all_eq_true.1 (hleanAll i hi).1 k hk
     rw[qW] at h5
     exact⟨by simpa using h5.1,waits_listed h.closed 60 i k h5.2 fun o' ho'=>closed_spec h.closed ho' hl⟩
   have hkj:k≠j:=fun e'=>by rw[e'] at hkl;rw[hkl.2] at h0';cases h0'
   have hne:=onceB_ne todo A.honce k j hkl.1 hjt hkj t hk3
   rw[ho] at hne
   refine (Act.eval_put fun d hd=>?_).symm
   intro e'
   cases e'
   exact hne hd
 ·by_cases e:j=x
  ·subst e;exact absurd hx hjx
  ·rw[getD_set_ne false e];exact h.last x hx
theorem Asks.lastOp (A:Asks P md ops Q B R F todo xs dead l0 a0 pred slots) {l:Array Bool} {a:Act} {w:World} (h:RInv md ops B F todo xs dead l0 a0 l a w) {x:Nat} (hx:xs=[x]) (hr:x∈Region.ready md ops l) {K:Act→World→Prop} (hK:∀ a' w',Q .normal a' w'→K a' w'):wpOp P ops Q x K a w:=by
 subst hx
 have hl:=A.hxs
 simp only[lastB,qW,Bool.not_eq_true',List.all_eq_true] at hl
 obtain⟨_,o,ho,hall⟩:=mem_ready.1 hr
 have hall2:∀ k∈todo,l.getD k false=true:=fun k hk=>waits_listed h.closed 60 x k (hl.2 k hk) fun o' ho'=>by rw[ho] at ho';cases ho';exact hall
 have:=A.hend a w h.base (A.facts h hall2) (A.fold h)
 exact wpOp_step ho fun K' hK'=>this o ho K' (fun v w' hq=>hK' _ _ (hK _ w' hq))
theorem Asks.all_todo (A:Asks P md ops Q B R F todo xs dead l0 a0 pred slots) (x:Nat) (hx:xs=[x]) {l:Array Bool} (hc:closedB md ops l=true) (hr:x∈Region.ready md ops l):∀ k∈todo,l.getD k false=true:=by
 have hl:=A.hxs
 rw[hx] at hl
 simp only[lastB,qW,Bool.not_eq_true',List.all_eq_true] at hl
 obtain⟨_,o,ho,hall⟩:=mem_ready.1 hr
 exact fun k hk=>waits_listed hc 60 x k (hl.2 k hk) fun o' ho'=>by rw[ho] at ho';cases ho';exact hall
theorem xs_form (h:lastB md ops todo xs=true):xs=[]∨∃ x,xs=[x]:=by
 match xs with
 | []=>exact .inl rfl
 | [x]=>exact .inr ⟨x,rfl⟩
 | _::_::_=>simp[lastB] at h
theorem Asks.listed (A:Asks P md ops Q B R F todo xs dead l0 a0 pred slots) {l:Array Bool} (he:∀ i,l0.getD i false=true→l.getD i false=true) (ht:∀ k∈todo,l.getD k false=true) (hx:∀ x∈xs,l.getD x false=true):∀ i,i<ops.size→l.getD i false=true:=fun i hi=>by
 cases h0:l0.getD i false with
 | true=>exact he i h0
 | false=>
   have:i∈todo++xs:=by rw[← A.htodo];exact List.mem_filter.2 ⟨List.mem_range.2 hi,by rw[h0];rfl⟩
   rcases List.mem_append.1 this with h1|h1
   ·exact ht i h1
   ·exact hx i h1
theorem ready_none {l:Array Bool} (h:∀ i,i<ops.size→l.getD i false=true):Region.ready md ops l=[]:=by
 cases hr:Region.ready md ops l with
 | nil=>rfl
 | cons i r=>
   exfalso
   obtain⟨h0,o,ho,_⟩:=mem_ready.1 (show i∈Region.ready md ops l by rw[hr];simp)
   have hi:i<ops.size:=(qA ho)
   have h1:=h i hi
   have:i<l.size:=by
    rcases Nat.lt_or_ge i l.size with h'|h'
    ·exact h'
    ·simp[Array.getElem?_eq_none h'] at h1
   simp[this] at h0 h1
   rw[h0] at h1
   cases h1
theorem Asks.any (A:Asks P md ops Q B R F todo xs dead l0 a0 pred slots):∀ (n:Nat) (l:Array Bool) (a:Act) (w:World),leftN ops.size l≤n→RInv md ops B F todo xs dead l0 a0 l a w→wpAny P md ops Q n l a w:=by
 intro n
 have hno:∀ (l:Array Bool) (a:Act) (w:World),RInv md ops B F todo xs dead l0 a0 l a w→Region.ready md ops l=[]→Q .normal a w:=fun l a w h hr=>by
  have hall:=all_listed A.he h.size hr
  rcases xs_form A.hxs with hx|⟨x,hx⟩
  ·exact A.fin hx h hall
  ·exfalso
   have h1:=h.last x (by rw[hx];simp)
   have hmem:x∈todo++xs:=by rw[hx];simp
   rw[← A.htodo] at hmem
   rw[hall x (List.mem_range.1 (List.mem_filter.1 hmem).1)] at h1
   cases h1
 induction n with
 | zero=>
   intro l a w hn h
   have hr:Region.ready md ops l=[]:=by
    cases hr:Region.ready md ops l with
    | nil=>rfl
    | cons i r=>
      exfalso
      obtain⟨h0,o,ho,_⟩:=mem_ready.1 (show i∈Region.ready md ops l by rw[hr];simp)
      have hi:i<ops.size:=(qA ho)
      have h1:i∈(List.range ops.size).filter fun i=>!l.getD i false:=List.mem_filter.2 ⟨List.mem_range.2 hi,by
       have:i<l.size:=by rw[h.size];exact hi
       simpa[this] using h0⟩
      have:=List.length_pos_of_mem h1
      unfold leftN at hn
      omega
   exact⟨hr,hno l a w h hr⟩
 | succ n ih=>
   intro l a w hn h
   refine⟨hno l a w h,fun j hj=>?_⟩
   obtain⟨h0,o,ho,hall⟩:=mem_ready.1 hj
   have hjs:j<ops.size:=(qA ho)
   have hjl:j<l.size:=by rw[h.size];exact hjs
   have h0':l.getD j false=false:=by simpa[hjl] using h0
   by_cases hjx:j∈xs
   ·rcases xs_form A.hxs with hx|⟨x,hx⟩
    ·rw[hx] at hjx;cases hjx
    ·obtain rfl:j=x:=by rw[hx] at hjx;simpa using hjx
     refine A.lastOp h hx hj fun a' w' hq=>?_
     have hr:Region.ready md ops (l.setIfInBounds j true)=[]:=ready_none (A.listed (fun i hi=>getD_set_true (h.ext i hi)) (fun k hk=>getD_set_true (A.all_todo j hx h.closed hj k hk)) (fun y hy=>by rw[hx] at hy;simp at hy;subst hy;simp[hjl]))
     exact wpAny_done hr hq _
   ·refine wpOp_mono (fun a' w' h'=>ih _ _ _ ?_ h') (A.step h hj hjx)
    have:=filter_set (List.range ops.size) l j (List.mem_range.2 hjs) h0' hjl
    unfold leftN at hn ⊢
    omega
theorem Asks.seq (A:Asks P md ops Q B R F todo xs dead l0 a0 pred slots):∀ (m k:Nat) (l:Array Bool) (a:Act) (w:World),k+m=ops.size→(∀ i,i<ops.size→l.getD i false=decide (i<k))→RInv md ops B F todo xs dead l0 a0 l a w→wpOps P ops Q (List.range' k m) a w:=by
 intro m
 induction m with
 | zero=>
   intro k l a w hk hl h
   have hall:∀ i,i<ops.size→l.getD i false=true:=fun i hi=>by rw[hl i hi];simp;omega
   rcases xs_form A.hxs with hx|⟨x,hx⟩
   ·exact A.fin hx h hall
   ·exfalso
    have h1:=h.last x (by rw[hx];simp)
    have hmem:x∈todo++xs:=by rw[hx];simp
    rw[← A.htodo] at hmem
    rw[hall x (List.mem_range.1 (List.mem_filter.1 hmem).1)] at h1
    cases h1
 | succ m ih=>
   intro k l a w hk hl h
   have hks:k<ops.size:=by omega
   have hkl:k<l.size:=by rw[h.size];exact hks
   have hj:k∈Region.ready md ops l:=by
    refine mem_ready.2 ⟨by have:=hl k hks;simpa[hkl] using this,ops[k],by simp[hks],fun e he0 hb=>?_⟩
    have h1:=List.all_eq_true.1 A.he k (List.mem_range.2 hks)
    rw[show ops[k]?=some ops[k] by simp[hks]] at h1
    have h2:=List.all_eq_true.1 h1 e (Array.mem_toList_iff.2 he0)
    rw[hb] at h2
    have h3:e.on<k:=by simpa using h2
    rw[hl e.on (by omega)]
    simpa using h3
   have hnext:∀ i,i<ops.size→(l.setIfInBounds k true).getD i false=decide (i<k+1):=fun i hi=>by
    by_cases e:k=i
    ·subst e
     simp[hkl]
    ·rw[getD_set_ne false e,hl i hi,decide_eq_decide]
     omega
   rw[List.range'_succ,wpOps_cons]
   by_cases hjx:k∈xs
   ·rcases xs_form A.hxs with hx|⟨x,hx⟩
    ·rw[hx] at hjx;cases hjx
    ·obtain rfl:k=x:=by rw[hx] at hjx;simpa using hjx
     refine A.lastOp h hx hj fun a' w' hq=>?_
     have hall:=A.listed (l:=l.setIfInBounds k true) (fun i hi=>getD_set_true (h.ext i hi)) (fun j hj'=>getD_set_true (A.all_todo k hx h.closed hj j hj')) (fun y hy=>by rw[hx] at hy;simp at hy;subst hy;simp[hkl])
     have hm:m=0:=by
      rcases Nat.eq_zero_or_pos m with h0|h0
      ·exact h0
      ·exfalso
       have h5:k+1<ops.size:=by omega
       have:=hall (k+1) h5
       rw[hnext (k+1) h5] at this
       simp at this
     subst hm
     exact hq
   ·exact wpOp_mono (fun a' w' h'=>ih (k+1) _ a' w' (by omega) hnext h') (A.step h hj hjx)
def hkB (ops:Array Oper) (todo xs:List Nat) (dead:Nat→Nat→Bool) (pred:Nat→List Nat) (slots:Nat→List Tmp):Bool:=
 edgesB .any ops&&(((List.range ops.size).filter fun i=>!(Array.replicate ops.size false).getD i false)==todo++xs)&&onceB (dstsOf ops todo)&&leansB .any ops todo pred slots&&deadsB .any ops todo pred dead&&lastB .any ops todo xs&&closedB .any ops (Array.replicate ops.size false)
theorem asks_of (todo xs:List Nat) (dead:Nat→Nat→Bool) (pred:Nat→List Nat) (slots:Nat→List Tmp) (hk:hkB ops todo xs dead pred slots=true)
  (hB:∀ j∈todo,∀ w w',B w→R j w w'→B w')
  (hst:∀ i∈todo,∀ j∈todo,i≠j→j ∉ pred i→dead i j=false→∀ a w w',B w→R j w w'→F i a w→F i a w')
  (hcg:∀ j∈todo,∀ a a' w,(∀ t∈slots j,a.eval (.tmp t)=a'.eval (.tmp t))→F j a w→F j a' w)
  (hop:∀ j∈todo,OpDoes P ops Q B R F todo a0 pred j) (hend:Ends P ops Q B F todo xs dead a0) :
  Asks P .any ops Q B R F todo xs dead (Array.replicate ops.size false) a0 pred slots∧closedB .any ops (Array.replicate ops.size false)=true:=by
 simp only[hkB,qW,beq_iff_eq] at hk
 obtain⟨⟨⟨⟨⟨⟨h1,h2⟩,h3⟩,h4⟩,h5⟩,h6⟩,h7⟩:=hk
 exact⟨⟨h1,h2,h3,h4,h5,h6,hB,hst,hcg,hop,hend⟩,h7⟩
theorem inv_start {w:World} (hc:closedB .any ops (Array.replicate ops.size false)=true) (hB0:B w):RInv .any ops B F todo xs dead (Array.replicate ops.size false) a0 (Array.replicate ops.size false) a0 w:=
 ⟨hc,by simp,rfl,rfl,hB0,fun _ h=>h,fun _ _=>rfl,(fun i _ hl=>by
  simp only[Array.getD_eq_getD_getElem?,Array.getElem?_replicate] at hl
  split at hl<;>cases hl),(fun x _=>by
  simp only[Array.getD_eq_getD_getElem?,Array.getElem?_replicate]
  split<;>rfl)⟩
theorem region_any_facts {w:World} (h:Asks P .any ops Q B R F todo xs dead (Array.replicate ops.size false) a0 pred slots∧closedB .any ops (Array.replicate ops.size false)=true) (hB0:B w):wpAny P .any ops Q ops.size (Array.replicate ops.size false) a0 w:=
 h.1.any _ _ _ _ (by unfold leftN;exact qN (List.length_filter_le _ _) (by simp)) (inv_start h.2 hB0)
theorem region_seq_facts {w:World} (h:Asks P .any ops Q B R F todo xs dead (Array.replicate ops.size false) a0 pred slots∧closedB .any ops (Array.replicate ops.size false)=true) (hB0:B w):wpOps P ops Q (List.range ops.size) a0 w:=by
 rw[List.range_eq_range']
 exact h.1.seq _ 0 _ a0 w (by omega) (fun i hi=>by simp[hi]) (inv_start h.2 hB0)
end
end
section
open Go
def regIn (n:Nat):Code→Option (Array Oper)
 | .region id ops _=>if id==n then some ops else none
 | .seq a b=>(regIn n a).or (regIn n b)
 | .cond _ a b=>(regIn n a).or (regIn n b)
 | .block _ c=>regIn n c
 | .loop c=>regIn n c
 | .scope c=>regIn n c
 | .rangeFunc _ _ a b=>(regIn n a).or (regIn n b)
 | _=>none
def opsOf (f:Func) (n:Nat):Array Oper:=((f.body.bind (regIn n)).getD #[])
section
variable {P:Program} {ops:Array Oper} {Q:Exit→Act→World→Prop} {B:World→Prop} {R:Nat→World→World→Prop} {G:Nat→(Operand→Value)→World→Prop} {todo:List Nat} {a0:Act} {pred:Nat→List Nat}
structure Before (ops:Array Oper) (B:World→Prop) (G:Nat→(Operand→Value)→World→Prop) (todo:List Nat) (a0:Act) (ps:List Nat) (ρ:Operand→Value) (w:World):Prop where
 const:∀ v,ρ (.const v)=v
 base:B w
 out:∀ t,outB ops todo t=true→ρ (.tmp t)=a0.eval (.tmp t)
 pre:∀ k∈ps,G k ρ w
def Leaves (G:Nat→(Operand→Value)→World→Prop) (j:Nat) (d:Tmp) (ρ:Operand→Value) (v:Value) (w:World):Prop:=∀ ρ':Operand→Value,ρ' (.tmp d)=v→(∀ t,t≠d→ρ' (.tmp t)=ρ (.tmp t))→G j ρ' w
theorem opDoes_of {j:Nat} (d:Option Tmp) (op:Op) (hop:(ops[j]?).map (fun o=>(o.dst,o.op,o.guard))=some (d,op,none))
  (h:∀ a w ty pos af,a.tmps.size=a0.tmps.size→Before ops B G todo a0 (pred j) a.eval w→∀ K:Act→World→Prop,Shut (∀ v w',R j w w'→G j (a.put d v).eval w'→K (a.put d v) w')→Oper.wp P ⟨d,op,ty,pos,af,none⟩ a w K Q):OpDoes P ops Q B R (fun j a w=>G j a.eval w) todo a0 pred j:=by
 intro a w hB _ hs ho hp o hoj K hK
 rw[hoj] at hop
 obtain⟨d',op',ty,pos,af,g⟩:=o
 simp only[Option.map_some,qQ,Prod.mk.injEq] at hop
 obtain⟨rfl,rfl,rfl⟩:=hop
 rw[if_pos (by rfl)]
 exact h a w ty pos af hs ⟨fun _=>rfl,hB,ho,hp⟩ K hK
theorem opDoes_run {j:Nat} (d:Tmp) (op:Op) (hop:(ops[j]?).map (fun o=>(o.dst,o.op,o.guard))=some (some d,op,none)) (hd:d<a0.tmps.size)
  (h:∀ ρ w ty pos af,Before ops B G todo a0 (pred j) ρ w→∃ v w',(execOp ρ ⟨some d,op,ty,pos,af,none⟩).run P w=.ok (.value v) w'∧R j w w'∧Leaves G j d ρ v w'):OpDoes P ops Q B R (fun j a w=>G j a.eval w) todo a0 pred j:=
 opDoes_of _ _ hop fun a w ty pos af hs hb K hK=>by
  obtain⟨v,w',hr,hR,hF⟩:=h a.eval w ty pos af hb
  unfold Oper.wp
  rw[hr]
  exact hK.out v w' hR (hF _ (Act.eval_same (by rw[hs];exact hd)) (fun t ht=>Act.eval_other (fun e=>ht e.symm)))
theorem opDoes_val {j:Nat} (d:Tmp) (op:Op) (hop:(ops[j]?).map (fun o=>(o.dst,o.op,o.guard))=some (some d,op,none)) (hd:d<a0.tmps.size) (hR:∀ w,R j w w)
  (h:∀ ρ w ty pos af,Before ops B G todo a0 (pred j) ρ w→∃ v,(execOp ρ ⟨some d,op,ty,pos,af,none⟩).run P w=.ok (.value v) w∧Leaves G j d ρ v w):OpDoes P ops Q B R (fun j a w=>G j a.eval w) todo a0 pred j:=
 opDoes_run _ _ hop hd fun ρ w ty pos af hb=>by
  obtain⟨v,hr,hF⟩:=h ρ w ty pos af hb
  exact⟨v,w,hr,hR w,hF⟩
theorem opDoes_append {j:Nat} (d:Tmp) (s x:Operand) (t:TypeId) (hop:(ops[j]?).map (fun o=>(o.dst,o.op,o.guard))=some (some d,.call { callee:=.builtin .append,args:=#[s,x],argTypes:=#[t,t] },none)) (hd:d<a0.tmps.size)
  (h:∀ ρ w ty,Before ops B G todo a0 (pred j) ρ w→∃ v w',(Builtin.append_ #[t,t] ty #[ρ s,ρ x]).run P w=.ok v w'∧R j w w'∧Leaves G j d ρ v w'):OpDoes P ops Q B R (fun j a w=>G j a.eval w) todo a0 pred j:=
 opDoes_run _ _ hop hd fun ρ w ty pos af hb=>by
  obtain⟨v,w',hr,hR,hF⟩:=h ρ w ty hb
  refine⟨v,w',?_,hR,hF⟩
  simp[execOp,resolve,invoke,builtin,hr,Result.andThen]
theorem opDoes_call {j:Nat} (d:Tmp) (f:FuncId) (args:Array Operand) (ts:Array TypeId) (hop:(ops[j]?).map (fun o=>(o.dst,o.op,o.guard))=some (some d,.call { callee:=.value (.func f),args:=args,argTypes:=ts },none)) (hd:d<a0.tmps.size)
  (ef:∀ (av:Array Value) w,(callFunc f av).run P w=.ok (.enter f av) w)
  (h:∀ ρ w,Before ops B G todo a0 (pred j) ρ w→Calls P f (args.map ρ) w fun e w'=>∃ v,e=.returned v∧R j w w'∧Leaves G j d ρ v w'):OpDoes P ops Q B R (fun j a w=>G j a.eval w) todo a0 pred j:=
 opDoes_of _ _ hop fun a w ty pos af hs hb K hK=>by
  have hc:=h a.eval w hb
  unfold Oper.wp
  simp[ef,go_sem]
  refine hc.mono ?_
  rintro e w' ⟨v,rfl,hR,hF⟩
  exact hK.out v w' hR (hF _ (Act.eval_same (by rw[hs];exact hd)) (fun t ht=>Act.eval_other (fun e=>ht e.symm)))
theorem ends_of {todo:List Nat} {dead:Nat→Nat→Bool} (ds:List Tmp) (hds:dstsOf ops todo=ds)
  (h:∀ ρ w,B w→(∀ k∈todo,(todo.all fun j=>!dead k j)=true→G k ρ w)→Q .normal (ds.foldl (fun b d=>b.put (some d) (ρ (.tmp d))) a0) w):Ends P ops Q B (fun j a w=>G j a.eval w) todo [] dead a0:=by
 intro a w hB hF ha
 have:=h a.eval w hB (fun k hk hd=>hF k hk fun j hj=>by simpa using List.all_eq_true.1 hd j hj)
 rw[← hds,← ha] at this
 exact this
theorem ends_store {todo:List Nat} {dead:Nat→Nat→Bool} {x:Nat} (ds:List Tmp) (hds:dstsOf ops todo=ds) (ty:TypeId) (p v:Operand) (hx:(ops[x]?).map (fun o=>(o.dst,o.op,o.guard))=some (none,.store ty p v,none))
  (h : ∀ ρ w, (∀ v, ρ (.const v) = v) → (∀ t, outB ops todo t = true → ρ (.tmp t) = a0.eval (.tmp t)) → B w → (∀ k ∈ todo, (todo.all fun j => !dead k j) = true → G k ρ w) → ∃ w', (execOp ρ ⟨none, .store ty p v, ty, "", #[], none⟩).run P w = .ok .skip w' ∧ Q .normal (ds.foldl (fun b d => b.put (some d) (ρ (.tmp d))) a0) w') : Ends P ops Q B (fun j a w => G j a.eval w) todo [x] dead a0 := by
 intro a w hB hF ha o ho K hK
 have hout:∀ t,outB ops todo t=true→a.eval (.tmp t)=a0.eval (.tmp t):=fun t ht=>by
  have hne:∀ d∈dstsOf ops todo,d≠t:=fun d hd e=>by
   obtain⟨k,hk,hk2⟩:=List.mem_filterMap.1 hd
   have h1:=List.all_eq_true.1 ht k hk
   cases hok:ops[k]? with
   | none=>rw[hok] at hk2;cases hk2
   | some o'=>
     rw[hok] at h1 hk2
     simp only[Option.bind_some] at hk2
     simp[hk2,e] at h1
  have hf:∀ (l:List Tmp) (b:Act),(∀ d∈l,d≠t)→(l.foldl (fun b d=>b.put (some d) (a.eval (.tmp d))) b).eval (.tmp t)=b.eval (.tmp t):=by
   intro l
   induction l with
   | nil=>intro b _;rfl
   | cons d l ih=>
     intro b hl
     rw[List.foldl_cons,ih _ (fun d' hd'=>hl d' (by simp[hd'])),Act.eval_other (hl d (by simp))]
  have h2:a.eval (.tmp t)=((dstsOf ops todo).foldl (fun b d=>b.put (some d) (a.eval (.tmp d))) a0).eval (.tmp t):=congrArg (fun b:Act=>b.eval (.tmp t)) ha
  exact h2.trans (hf _ _ hne)
 obtain⟨w',hr,hq⟩:=h a.eval w (fun _=>rfl) hout hB (fun k hk hd=>hF k hk fun j hj=>by simpa using List.all_eq_true.1 hd j hj)
 rw[← hds,← ha] at hq
 rw[ho] at hx
 obtain⟨d',op',ty',pos,af,g⟩:=o
 simp only[Option.map_some,qQ,Prod.mk.injEq] at hx
 obtain⟨rfl,rfl,rfl⟩:=hx
 rw[if_pos (by rfl)]
 unfold Oper.wp
 have e : execOp a.eval ⟨none, .store ty p v, ty', pos, af, none⟩ = execOp a.eval ⟨none, .store ty p v, ty, "", #[], none⟩ := rfl
 rw[e,hr]
 exact hK.out undef w' hq
theorem ends_call {todo:List Nat} {dead:Nat→Nat→Bool} {x:Nat} (ds:List Tmp) (hds:dstsOf ops todo=ds) (d f:Nat) (args:Array Operand) (ts:Array TypeId) (hx:(ops[x]?).map (fun o=>(o.dst,o.op,o.guard))=some (some d,.call { callee:=.value (.func f),args:=args,argTypes:=ts },none)) (ef:∀ (av:Array Value) w,(callFunc f av).run P w=.ok (.enter f av) w)
  (h:∀ ρ w,(∀ v,ρ (.const v)=v)→(∀ t,outB ops todo t=true→ρ (.tmp t)=a0.eval (.tmp t))→B w→(∀ k∈todo,(todo.all fun j=>!dead k j)=true→G k ρ w)→Calls P f (args.map ρ) w fun e w'=>∃ v,e=.returned v∧Q .normal ((ds.foldl (fun b d=>b.put (some d) (ρ (.tmp d))) a0).put (some d) v) w'):Ends P ops Q B (fun j a w=>G j a.eval w) todo [x] dead a0:=by
 intro a w hB hF ha o ho K hK
 have hout:∀ t,outB ops todo t=true→a.eval (.tmp t)=a0.eval (.tmp t):=fun t ht=>by
  have hne:∀ d∈dstsOf ops todo,d≠t:=fun d hd e=>by
   obtain⟨k,hk,hk2⟩:=List.mem_filterMap.1 hd
   have h1:=List.all_eq_true.1 ht k hk
   cases hok:ops[k]? with
   | none=>rw[hok] at hk2;cases hk2
   | some o'=>
     rw[hok] at h1 hk2
     simp only[Option.bind_some] at hk2
     simp[hk2,e] at h1
  have hf:∀ (l:List Tmp) (b:Act),(∀ d∈l,d≠t)→(l.foldl (fun b d=>b.put (some d) (a.eval (.tmp d))) b).eval (.tmp t)=b.eval (.tmp t):=by
   intro l
   induction l with
   | nil=>intro b _;rfl
   | cons d l ih=>
     intro b hl
     rw[List.foldl_cons,ih _ (fun d' hd'=>hl d' (by simp[hd'])),Act.eval_other (hl d (by simp))]
  have h2:a.eval (.tmp t)=((dstsOf ops todo).foldl (fun b d=>b.put (some d) (a.eval (.tmp d))) a0).eval (.tmp t):=congrArg (fun b:Act=>b.eval (.tmp t)) ha
  exact h2.trans (hf _ _ hne)
 have hc:=h a.eval w (fun _=>rfl) hout hB (fun k hk hd=>hF k hk fun j hj=>by simpa using List.all_eq_true.1 hd j hj)
 rw[← hds,← ha] at hc
 rw[ho] at hx
 obtain⟨d',op',ty',pos,af,g⟩:=o
 simp only[Option.map_some,qQ,Prod.mk.injEq] at hx
 obtain⟨rfl,rfl,rfl⟩:=hx
 rw[if_pos (by rfl)]
 unfold Oper.wp
 simp[ef,go_sem]
 refine hc.mono ?_
 rintro e w' ⟨v,rfl,hq⟩
 exact hK.out v w' hq
theorem wp_region_facts {id:Nat} {draw:Bool} {w:World} (todo xs:List Nat) (dead:Nat→Nat→Bool) (pred:Nat→List Nat) (slots:Nat→List Tmp) (B:World→Prop) (R:Nat→World→World→Prop) (G:Nat→(Operand→Value)→World→Prop) (hm:P.follows .mixedOrders=true)
  (hk:hkB ops todo xs dead pred slots=true)
  (hB0:B w∧B w.drew) (hB:∀ j∈todo,∀ w w',B w→R j w w'→B w')
  (hst:∀ i∈todo,∀ j∈todo,i≠j→j ∉ pred i→dead i j=false→∀ ρ w w',B w→R j w w'→G i ρ w→G i ρ w')
  (hcg:∀ j∈todo,∀ ρ ρ':Operand→Value,∀ w,(∀ t∈slots j,ρ (.tmp t)=ρ' (.tmp t))→G j ρ w→G j ρ' w)
  (hop:∀ j∈todo,OpDoes P ops Q B R (fun j a w=>G j a.eval w) todo a0 pred j)
  (hend:Ends P ops Q B (fun j a w=>G j a.eval w) todo xs dead a0):(Code.region id ops draw).wp P Q a0 w:=by
 have hA:=asks_of (P:=P) (a0:=a0) (B:=B) (R:=R) (F:=fun j a w=>G j a.eval w) (Q:=Q) todo xs dead pred slots hk hB (fun i hi j hj hne hp hd a w w'=>hst i hi j hj hne hp hd a.eval w w') (fun j hj a a' w=>hcg j hj a.eval a'.eval w) hop hend
 cases draw with
 | true=>exact wp_region_any hm (region_any_facts hA hB0.2)
 | false=>exact wp_region (region_seq_facts hA hB0.1)
end
end
end Go.Proofs.YtbghhklbfnplbaaGreat

import Derived.Test.YtbghhklbfnplbaaGreatC00
import Derived.Test.YtbghhklbfnplbaaGreatC08
import Derived.Test.YtbghhklbfnplbaaGreatC18
import Derived.Test.YtbghhklbfnplbaaGreatC20
import Derived.Test.YtbghhklbfnplbaaGreatC21
import Derived.Test.YtbghhklbfnplbaaGreatC22
import Derived.Test.YtbghhklbfnplbaaGreatC23
namespace Go.Proofs.YtbghhklbfnplbaaGreat
section
open Go.RowKit Go.Sort
theorem nil_list:(⟨#[]⟩:ByteArray).toList=[]:=by simp
theorem empty_iff (s:ByteArray):s.toList.isEmpty=true↔s=⟨#[]⟩:=by
 constructor
 ·intro h
  apply baList_inj
  rw[List.isEmpty_iff] at h
  rw[h,nil_list]
 ·rintro rfl
  rw[nil_list]
  rfl
theorem all_at {α:Type} (l:List α) (p:α→Bool) (d:α):l.all p=true↔∀ i,i<l.length→p (l.getD i d)=true:=by
 rw[List.all_eq_true]
 constructor
 ·intro h i hi
  rw[List.getD_eq_getElem?_getD,List.getElem?_eq_getElem hi,Option.getD_some]
  exact h _ (List.getElem_mem hi)
 ·intro h x hx
  obtain⟨i,hi,rfl⟩:=List.mem_iff_getElem.1 hx
  have:=h i hi
  rwa [List.getD_eq_getElem?_getD,List.getElem?_eq_getElem hi,Option.getD_some] at this
theorem range_all (n:Nat) (p:Nat→Bool):(List.range n).all p=true↔∀ i,i<n→p i=true:=by simp[List.all_eq_true]
theorem vals_eq (l:List ByteArray) (a b:Int):valsB l a b=rightValsB l a b:=by
 rw[Bool.eq_iff_iff]
 simp only[valsB,rightValsB,upS,withinB,qW,decide_eq_true_eq,range_all,all_at l _ ⟨#[]⟩,goodV,goodUpS,sizedB,withinB]
 constructor
 ·rintro⟨⟨h,h1⟩,h2⟩
  refine⟨⟨⟨h1,h2⟩,fun i hi=>?_⟩,fun i hi=>(h i hi).2⟩
  have:=(h i hi).1
  omega
 ·rintro⟨⟨⟨h1,h2⟩,h3⟩,h4⟩
  refine⟨⟨fun i hi=>⟨?_,h4 i hi⟩,h1⟩,h2⟩
  have:=h3 i hi
  omega
theorem long_iff (x:ItemD):hasLong x=false↔x.run=0∧x.len=0:=by simp[hasLong]
theorem dup_iff (x:ItemD):hasDup x=false↔x.vals=[]∧x.dup=0:=by simp[hasDup]
theorem rootZ_iff (x:ItemD):hasRoot x=false↔x.root=⟨0,0,0⟩:=by
 obtain⟨k,d,l,r,n,s,p,⟨g,c,f⟩⟩:=x
 simp[hasRoot]
theorem item_eq (x:ItemD):itemB x=goodItemB x:=by
 rw[Bool.eq_iff_iff]
 simp only[goodItemB,qW,sameItem_iff]
 unfold itemB rightItemB
 by_cases c1:x.kind=1
 ·simp only[c1,↓reduceIte,qW,Bool.not_eq_true',long_iff,dup_iff,rootZ_iff,decide_eq_true_eq,sizedB,withinB]
  obtain⟨k,d,l,r,n,s,p,ro⟩:=x
  simp only at c1
  subst c1
  simp[ownItemD,noItem]
  constructor
  ·rintro⟨⟨⟨⟨h1,h2⟩,h3,h4⟩,h5,h6⟩,h7⟩
   exact⟨⟨h1,by omega⟩,h3,h4,h5,h6,h7⟩
  ·rintro⟨⟨h1,h2⟩,h3,h4,h5,h6,h7⟩
   exact⟨⟨⟨⟨h1,by omega⟩,h3,h4⟩,h5,h6⟩,h7⟩
 by_cases c2:x.kind=2
 ·simp only[c2,show ¬ (2:Int)=1 by omega,↓reduceIte,qW,Bool.not_eq_true',dup_iff,rootZ_iff,decide_eq_true_eq,withinB,empty_iff]
  obtain⟨k,d,l,r,n,s,p,ro⟩:=x
  simp only at c2
  subst c2
  simp[ownItemD,noItem]
  constructor
  ·rintro⟨⟨⟨⟨⟨⟨h1,h2⟩,h3⟩,h4⟩,h5⟩,h6,h7⟩,h8⟩
   exact⟨⟨h1,h3,by omega,h5⟩,h2,h6,h7,h8⟩
  ·rintro⟨⟨h1,h3,h4,h5⟩,h2,h6,h7,h8⟩
   exact⟨⟨⟨⟨⟨⟨h1,h2⟩,h3⟩,by omega⟩,h5⟩,h6,h7⟩,h8⟩
 by_cases c3:x.kind=3
 ·simp only[c3,show ¬ (3:Int)=1 by omega,show ¬ (3:Int)=2 by omega,↓reduceIte,qW,Bool.not_eq_true',long_iff,rootZ_iff,decide_eq_true_eq,empty_iff,vals_eq,Bool.or_eq_true,beq_iff_eq]
  obtain⟨k,d,l,r,n,s,p,ro⟩:=x
  simp only at c3
  subst c3
  have hz:pageB 0=false:=rfl
  by_cases hd:p=0
  ·subst hd
   simp[ownItemD,noItem,hz]
   constructor
   ·rintro⟨⟨⟨⟨h1,h2⟩,h3,h4⟩,h5⟩,h6⟩
    exact⟨⟨h1,h6⟩,h2,h3,h4,h5⟩
   ·rintro⟨⟨h1,h6⟩,h2,h3,h4,h5⟩
    exact⟨⟨⟨⟨h1,h2⟩,h3,h4⟩,h5⟩,h6⟩
  ·simp[ownItemD,noItem,hd]
   constructor
   ·rintro⟨⟨⟨⟨h1,h2⟩,h3,h4⟩,h5⟩,h6,h7⟩
    exact⟨⟨h1,h6,h7⟩,h2,h3,h4,h5⟩
   ·rintro⟨⟨h1,h6,h7⟩,h2,h3,h4,h5⟩
    exact⟨⟨⟨⟨h1,h2⟩,h3,h4⟩,h5⟩,h6,h7⟩
 by_cases c4:x.kind=4
 ·simp only[c4,show ¬ (4:Int)=1 by omega,show ¬ (4:Int)=2 by omega,show ¬ (4:Int)=3 by omega,↓reduceIte,qW,Bool.not_eq_true',long_iff,dup_iff,empty_iff]
  obtain⟨k,d,l,r,n,s,p,ro⟩:=x
  simp only at c4
  subst c4
  simp[ownItemD,noItem]
  constructor
  ·rintro⟨⟨⟨⟨h1,h2⟩,h3,h4⟩,h5,h6⟩,h7⟩
   exact⟨⟨h1,h7⟩,h2,h3,h4,h5,h6⟩
  ·rintro⟨⟨h1,h7⟩,h2,h3,h4,h5,h6⟩
   exact⟨⟨⟨⟨h1,h2⟩,h3,h4⟩,h5,h6⟩,h7⟩
 ·simp[c1,c2,c3,c4]
theorem noText_iff (p:PageD):noText p=true↔p.text=⟨#[]⟩:=empty_iff p.text
theorem noItems_iff (p:PageD):noItems p=true↔p.items=[]:=by simp[noItems]
theorem noVals_iff (p:PageD):noVals p=true↔p.vals=[]:=by simp[noVals]
theorem kids_iff (p:PageD):hasKids p=false↔p.keys=[]∧p.kids=[]:=by simp[hasKids]
theorem free_iff (p:PageD):hasFree p=false↔p.free=[]∧p.next=0:=by simp[hasFree]
theorem meta_iff (p:PageD):hasMeta p=false↔p.mt=⟨0,⟨0,0,0⟩,0,0⟩:=by
 obtain⟨k,i,y,d,t,v,f,n,⟨x,⟨g,c,q⟩,r,l⟩⟩:=p
 simp[hasMeta]
theorem items_eq (l:List ItemD):(List.range l.length).all (goodI l)=true↔l.all goodItemB=true∧upS (l.map fun x=>x.key)=true:=by
 rw[range_all,all_at l _ ⟨⟨#[]⟩,0,⟨#[]⟩,0,0,[],0,⟨0,0,0⟩⟩]
 unfold upS
 rw[range_all,List.length_map]
 have hk:∀ i,i<l.length→(l.map fun x=>x.key).getD i ⟨#[]⟩=(itemAt l i).key:=by
  intro i hi
  simp[itemAt,List.getD_eq_getElem?_getD,hi]
 constructor
 ·intro h
  refine⟨fun i hi=>?_,fun i hi=>?_⟩
  ·have:=h i hi
   simp only[goodI,qW] at this
   rw[← item_eq]
   exact this.1
  ·have:=h i hi
   simp only[goodI,qW] at this
   unfold goodUpS
   rw[hk i hi,hk (i - 1) (by omega)]
   exact this.2
 ·rintro⟨h1,h2⟩ i hi
  simp only[goodI,qW]
  refine⟨by rw[item_eq];exact h1 i hi,?_⟩
  have:=h2 i hi
  unfold goodUpS at this
  rw[hk i hi,hk (i - 1) (by omega)] at this
  exact this
theorem kids_eq (y:List ByteArray) (d:List Int) (hl:y.length=d.length) (h2:2≤d.length):(List.range d.length).all (goodB y d)=true↔(y.getD 0 ⟨#[]⟩).toList.isEmpty=true∧(y.drop 1).all shortB=true∧upS y=true∧d.all pageB=true:=by
 rw[range_all,all_at d _ 0,all_at (y.drop 1) _ ⟨#[]⟩]
 unfold upS
 rw[range_all]
 have hdr:∀ i,(y.drop 1).getD i ⟨#[]⟩=keyAt y (i+1):=by
  intro i
  simp[keyAt,List.getD_eq_getElem?_getD]
 constructor
 ·intro h
  have hg:∀ i,i<d.length→pageB (d.getD i 0)=true∧(if i=0 then (keyAt y 0).toList.isEmpty else shortB (keyAt y i)&&ltB (keyAt y (i - 1)) (keyAt y i))=true:=fun i hi=>by
   have:=h i hi
   simpa only [goodB,Bool.and_eq_true] using this
  refine⟨by have:=(hg 0 (by omega)).2;simpa[keyAt] using this,fun i hi=>?_,fun i hi=>?_,fun i hi=>(hg i hi).1⟩
  ·rw[hdr]
   have:=(hg (i+1) (by simp at hi;omega)).2
   rw[if_neg (by omega),qW] at this
   exact this.1
  ·unfold goodUpS
   by_cases h0:i=0
   ·simp[h0]
   ·have:=(hg i (by omega)).2
    rw[if_neg h0,qW] at this
    simp only[Bool.or_eq_true,beq_iff_eq]
    exact .inr this.2
 ·rintro⟨h3,h4,h5,h6⟩ i hi
  simp only[goodB,qW]
  refine⟨h6 i hi,?_⟩
  by_cases h0:i=0
  ·rw[if_pos h0]
   exact h3
  ·rw[if_neg h0,qW]
   have ha:=h4 (i - 1) (by simp;omega)
   rw[hdr,show i - 1+1=i by omega] at ha
   have hb:=h5 i (by omega)
   simp only[goodUpS,Bool.or_eq_true,beq_iff_eq] at hb
   exact⟨ha,hb.resolve_left h0⟩
theorem ids_eq (l:List Int):(List.range l.length).all (goodID l)=true↔upI l=true∧l.all pageB=true:=by
 rw[range_all,all_at l _ 0]
 unfold upI
 rw[range_all]
 constructor
 ·intro h
  refine⟨fun i hi=>?_,fun i hi=>?_⟩
  ·have:=h i hi
   simp only[goodID,qW] at this
   exact this.2
  ·have:=h i hi
   simp only[goodID,qW] at this
   exact this.1
 ·rintro⟨h1,h2⟩ i hi
  simp only[goodID,qW]
  exact⟨h2 i hi,h1 i hi⟩
def freeGood (f:FreeD):Bool:=!decide (f.ids.length=0)&&(List.range f.ids.length).all (goodID f.ids)
def sumIds:List FreeD→Nat
 | []=>0
 | f::r=>f.ids.length+sumIds r
theorem sumLen_eq:∀ (l:List FreeD) (k:Nat),sumLen l k=sumIds (l.take k)
 | l,0=>by simp[sumLen,sumIds]
 | l,k+1=>by
   rw[sumLen,sumLen_eq l k]
   by_cases h:k<l.length
   ·have key:∀ (a b:List FreeD),sumIds (a++b)=sumIds a+sumIds b:=by
     intro a b
     induction a with
     | nil=>simp[sumIds]
     | cons x a ih=>simp[sumIds,ih];omega
    rw[qT h,key]
    simp[sumIds,freeAt,List.getD_eq_getElem?_getD,h]
   ·rw[List.take_of_length_le (by omega),List.take_of_length_le (by omega)]
    simp[freeAt,List.getD_eq_getElem?_getD,List.getElem?_eq_none (Nat.le_of_not_lt h)]
theorem goodF_cons (f:FreeD) (l:List FreeD):(List.range (f::l).length).all (goodF (f::l))=true↔freeGood f=true∧(∀ g,l.head?=some g→f.txn≤g.txn)∧(List.range l.length).all (goodF l)=true:=by
 rw[range_all,range_all]
 constructor
 ·intro h
  refine⟨?_,?_,fun i hi=>?_⟩
  ·have:=h 0 (by simp)
   simp only[goodF,freeAt,List.getD_cons_zero,qW] at this
   simp only[freeGood,qW]
   exact⟨this.1.1,this.2⟩
  ·intro g hg
   cases l with
   | nil=>simp at hg
   | cons g' r=>
     simp at hg
     subst hg
     have:=h 1 (by simp)
     simp[goodF,freeAt] at this
     exact this.1.2
  ·have:=h (i+1) (by simp;omega)
   simp only[goodF,freeAt,List.getD_cons_succ,qW,Bool.or_eq_true,beq_iff_eq] at this ⊢
   refine⟨⟨this.1.1,?_⟩,this.2⟩
   by_cases h0:i=0
   ·exact .inl h0
   ·right
    have h2:=this.1.2.resolve_left (by omega)
    rw[show i+1 - 1=(i - 1)+1 by omega,List.getD_cons_succ] at h2
    exact h2
 ·rintro⟨h1,h2,h3⟩ i hi
  cases i with
  | zero=>
    simp only[freeGood,qW] at h1
    simp only[goodF,freeAt,List.getD_cons_zero,qW]
    exact⟨⟨h1.1,by simp⟩,h1.2⟩
  | succ i=>
    have hil:i<l.length:=by simpa using hi
    have:=h3 i hil
    simp only[goodF,freeAt,List.getD_cons_succ,qW,Bool.or_eq_true,beq_iff_eq,decide_eq_true_eq] at this ⊢
    refine⟨⟨this.1.1,.inr ?_⟩,this.2⟩
    cases i with
    | zero=>
      simp only[Nat.zero_add,Nat.sub_self,List.getD_cons_zero]
      cases l with
      | nil=>simp at hil
      | cons g r=>exact h2 g rfl
    | succ i=>
      rw[show i+1+1 - 1=i+1 by omega,List.getD_cons_succ]
      have h5:=this.1.2.resolve_left (by omega)
      rw[show i+1 - 1=i by omega] at h5
      simpa using h5
theorem free_eq:∀ (l:List FreeD) (room:Int) (txn:Int),0≤room→(((List.range l.length).all (goodF l)=true∧(sumIds l:Int)≤room∧(∀ g,l.head?=some g→txn≤g.txn))↔rightFreeL room txn l=true)
 | [],room,txn,h0=>by simp[sumIds,rightFreeL];omega
 | f::l,room,txn,h0=>by
   rw[goodF_cons]
   simp only[rightFreeL,qW,decide_eq_true_eq,withinB,sumIds,List.head?_cons,qQ]
   constructor
   ·rintro⟨⟨h1,h2,h3⟩,h4,h5⟩
    simp only[freeGood,qW,ids_eq] at h1
    have hn:¬ f.ids.length=0:=by simpa using h1.1
    refine⟨⟨⟨⟨⟨by omega,by omega⟩,h1.2.1⟩,h1.2.2⟩,h5 f rfl⟩,?_⟩
    rw[← free_eq l (room - f.ids.length) f.txn (by omega)]
    exact⟨h3,by omega,h2⟩
   ·rintro⟨⟨⟨⟨⟨h1,h2⟩,h3⟩,h4⟩,h5⟩,h6⟩
    rw[← free_eq l (room - f.ids.length) f.txn (by omega)] at h6
    obtain⟨h7,h8,h9⟩:=h6
    refine⟨⟨?_,h9,h7⟩,by omega,?_⟩
    ·simp only[freeGood,qW,ids_eq]
     exact⟨by simp;intro he;rw[he] at h1;simp at h1,h3,h4⟩
    ·rintro g rfl
     exact h5
def isRB (p:PageD):Bool:=if p.kind=1 then leafB p else if p.kind=2 then branchB p else restB p
theorem is_eq (p:PageD) (ht:TxnOk p):isRB p=isPB p:=by
 rw[Bool.eq_iff_iff]
 simp only[isPB,qW,sameP_iff]
 unfold isRB restB rightB
 by_cases c1:p.kind=1
 ·have ho:p=ownD p↔p.keys=[]∧p.kids=[]∧p.text=⟨#[]⟩∧p.vals=[]∧p.free=[]∧p.next=0∧p.mt=⟨0,⟨0,0,0⟩,0,0⟩:=by
   obtain⟨k,i,y,d,t,v,f,n,m⟩:=p
   simp only at c1
   subst c1
   simp[ownD,noPage]
  rw[ho]
  simp only[c1,↓reduceIte,leafB,rightItemsB,qW,Bool.not_eq_true',items_eq,kids_iff,noText_iff,noVals_iff,free_iff,meta_iff,decide_eq_true_eq,withinB]
  constructor
  ·rintro⟨⟨h1,h2⟩,⟨⟨⟨⟨⟨⟨h3,h4⟩,h5,h6⟩,h7⟩,h8⟩,h9,h10⟩,h11⟩⟩
   exact⟨⟨⟨⟨by omega,by omega⟩,h1⟩,h2⟩,h5,h6,h7,h8,h9,h10,h11⟩
  ·rintro⟨⟨⟨⟨h3,h4⟩,h1⟩,h2⟩,h5,h6,h7,h8,h9,h10,h11⟩
   exact⟨⟨h1,h2⟩,⟨⟨⟨⟨⟨⟨by omega,by omega⟩,h5,h6⟩,h7⟩,h8⟩,h9,h10⟩,h11⟩⟩
 by_cases c2:p.kind=2
 ·have ho:p=ownD p↔p.items=[]∧p.text=⟨#[]⟩∧p.vals=[]∧p.free=[]∧p.next=0∧p.mt=⟨0,⟨0,0,0⟩,0,0⟩:=by
   obtain⟨k,i,y,d,t,v,f,n,m⟩:=p
   simp only at c2
   subst c2
   simp[ownD,noPage]
  rw[ho]
  simp only[c2,show ¬ (2:Int)=1 by omega,↓reduceIte,branchB,rightKidsB,qW,Bool.not_eq_true',noItems_iff,noText_iff,noVals_iff,free_iff,meta_iff,decide_eq_true_eq,withinB]
  constructor
  ·rintro⟨⟨h1,h2⟩,⟨⟨⟨⟨⟨⟨h3,h4⟩,h5⟩,h6⟩,h7⟩,h8,h9⟩,h10⟩⟩
   rw[kids_eq _ _ h1 h3] at h2
   obtain⟨a1,a2,a3,a4⟩:=h2
   exact⟨⟨⟨⟨⟨⟨⟨by omega,by omega⟩,h1⟩,a1⟩,a2⟩,a3⟩,a4⟩,h5,h6,h7,h8,h9,h10⟩
  ·rintro⟨⟨⟨⟨⟨⟨⟨h3,h4⟩,h1⟩,a1⟩,a2⟩,a3⟩,a4⟩,h5,h6,h7,h8,h9,h10⟩
   have h3':2≤p.kids.length:=by omega
   exact⟨⟨h1,(kids_eq _ _ h1 h3').2 ⟨a1,a2,a3,a4⟩⟩,⟨⟨⟨⟨⟨⟨h3',by omega⟩,h5⟩,h6⟩,h7⟩,h8,h9⟩,h10⟩⟩
 by_cases c3:p.kind=3
 ·have ho:p=ownD p↔p.items=[]∧p.keys=[]∧p.kids=[]∧p.vals=[]∧p.free=[]∧p.next=0∧p.mt=⟨0,⟨0,0,0⟩,0,0⟩:=by
   obtain⟨k,i,y,d,t,v,f,n,m⟩:=p
   simp only at c3
   subst c3
   simp[ownD,noPage]
  rw[ho]
  have ht0:noText p=false↔1≤p.text.size:=by
   rw[← Bool.not_eq_true,noText_iff]
   constructor
   ·intro h
    rcases Nat.eq_zero_or_pos p.text.size with h0|h0
    ·exact absurd (ByteArray.ext (Array.eq_empty_of_size_eq_zero h0)) h
    ·exact h0
   ·intro h e
    rw[e] at h
    exact absurd h (by decide)
  simp only[c3,show ¬ (3:Int)=1 by omega,show ¬ (3:Int)=2 by omega,↓reduceIte,overB,qW,Bool.not_eq_true',noItems_iff,ht0,kids_iff,noVals_iff,free_iff,meta_iff,decide_eq_true_eq,sizedB,withinB]
  constructor
  ·rintro⟨⟨⟨⟨⟨⟨h1,h2⟩,h3⟩,h4,h5⟩,h6⟩,h7,h8⟩,h9⟩
   exact⟨⟨by omega,by omega⟩,h3,h4,h5,h6,h7,h8,h9⟩
  ·rintro⟨⟨h1,h2⟩,h3,h4,h5,h6,h7,h8,h9⟩
   exact⟨⟨⟨⟨⟨⟨by omega,by omega⟩,h3⟩,h4,h5⟩,h6⟩,h7,h8⟩,h9⟩
 by_cases c4:p.kind=4
 ·have ho:p=ownD p↔p.items=[]∧p.keys=[]∧p.kids=[]∧p.text=⟨#[]⟩∧p.free=[]∧p.next=0∧p.mt=⟨0,⟨0,0,0⟩,0,0⟩:=by
   obtain⟨k,i,y,d,t,v,f,n,m⟩:=p
   simp only at c4
   subst c4
   simp[ownD,noPage]
  rw[ho]
  simp only[c4,show ¬ (4:Int)=1 by omega,show ¬ (4:Int)=2 by omega,show ¬ (4:Int)=3 by omega,↓reduceIte,dupB,vals_eq,qW,Bool.not_eq_true',noItems_iff,noText_iff,kids_iff,free_iff,meta_iff]
  constructor
  ·rintro⟨⟨⟨⟨⟨h1,h2⟩,h3,h4⟩,h5⟩,h6,h7⟩,h8⟩
   exact⟨h1,h2,h3,h4,h5,h6,h7,h8⟩
  ·rintro⟨h1,h2,h3,h4,h5,h6,h7,h8⟩
   exact⟨⟨⟨⟨⟨h1,h2⟩,h3,h4⟩,h5⟩,h6,h7⟩,h8⟩
 by_cases c5:p.kind=5
 ·have ho:p=ownD p↔p.items=[]∧p.keys=[]∧p.kids=[]∧p.text=⟨#[]⟩∧p.vals=[]∧p.mt=⟨0,⟨0,0,0⟩,0,0⟩:=by
   obtain⟨k,i,y,d,t,v,f,n,m⟩:=p
   simp only at c5
   subst c5
   simp[ownD,noPage]
  rw[ho]
  have hf:=free_eq p.free 20 0 (by omega)
  have hh:∀ g,p.free.head?=some g→0≤g.txn:=fun g hg=>(ht.2 g (List.mem_of_mem_head? hg)).1
  simp only[c5,show ¬ (5:Int)=1 by omega,show ¬ (5:Int)=2 by omega,show ¬ (5:Int)=3 by omega,show ¬ (5:Int)=4 by omega,↓reduceIte,freeB,freesB,rightFreeB,← hf,noneB,qW,Bool.not_eq_true',noItems_iff,noText_iff,noVals_iff,kids_iff,meta_iff,decide_eq_true_eq,sumLen_eq,List.take_length]
  constructor
  ·rintro⟨⟨⟨⟨⟨⟨⟨h1,h2⟩,h3⟩,h4⟩,h5,h6⟩,h7⟩,h8⟩,h9⟩
   exact⟨⟨⟨h1,by omega,hh⟩,h3⟩,h4,h5,h6,h7,h8,h9⟩
  ·rintro⟨⟨⟨h1,h2,_⟩,h3⟩,h4,h5,h6,h7,h8,h9⟩
   exact⟨⟨⟨⟨⟨⟨⟨h1,by omega⟩,h3⟩,h4⟩,h5,h6⟩,h7⟩,h8⟩,h9⟩
 by_cases c6:p.kind=6
 ·have ho:p=ownD p↔p.items=[]∧p.keys=[]∧p.kids=[]∧p.text=⟨#[]⟩∧p.vals=[]∧p.free=[]∧p.next=0:=by
   obtain⟨k,i,y,d,t,v,f,n,m⟩:=p
   simp only at c6
   subst c6
   simp[ownD,noPage]
  rw[ho]
  simp only[c6,show ¬ (6:Int)=1 by omega,show ¬ (6:Int)=2 by omega,show ¬ (6:Int)=3 by omega,show ¬ (6:Int)=4 by omega,show ¬ (6:Int)=5 by omega,↓reduceIte,metaPB,noneB,withinB,qW,Bool.not_eq_true',noItems_iff,noText_iff,noVals_iff,kids_iff,free_iff,decide_eq_true_eq]
  constructor
  ·rintro⟨⟨⟨⟨⟨⟨⟨⟨h1,h2⟩,h3⟩,h4⟩,h5⟩,h6,h7⟩,h8⟩,h9⟩,h10,h11⟩
   exact⟨⟨⟨h1,h2⟩,h3,h4⟩,h5,h6,h7,h8,h9,h10,h11⟩
  ·rintro⟨⟨⟨h1,h2⟩,h3,h4⟩,h5,h6,h7,h8,h9,h10,h11⟩
   exact⟨⟨⟨⟨⟨⟨⟨⟨h1,h2⟩,h3⟩,h4⟩,h5⟩,h6,h7⟩,h8⟩,h9⟩,h10,h11⟩
 ·simp[c1,c2,c3,c4,c5,c6]
end
section
open Go.RowKit Go.Sort
theorem refIs_any (p:PageD) (vi vk vd vv vf:Value) (w:World) (hp:Hangs w p vi vk vd vv vf) (hfl:p.free.length≤140737488355328) (ht:TxnOk p) :
  Calls Tryz.prog 40 #[.agg (pageCells p vi vk vd vv vf).toArray] w fun e w'=>e=.returned (.bool (isPB p))∧Below w.heap.size w w':=by
 rw[← is_eq p ht]
 unfold isRB restB
 by_cases c1:p.kind=1
 ·rw[if_pos c1]
  exact refIs_leaf p _ _ _ _ _ w hp (by simpa using c1) hfl
 rw[if_neg c1]
 have b1:(p.kind==1)=false:=by simpa using c1
 by_cases c2:p.kind=2
 ·rw[if_pos c2]
  have b2:(p.kind==2)=true:=by simpa using c2
  by_cases hl:p.keys.length=p.kids.length
  ·cases h1:decide (0<p.keys.length)
   ·exact refIs_branch_f p _ _ _ _ _ w hp ⟨b1,b2⟩ hfl hl h1 rfl
   ·exact refIs_branch_t p _ _ _ _ _ w hp ⟨b1,b2⟩ hfl hl h1 rfl
  ·exact refIs_branch_e p _ _ _ _ _ w hp ⟨b1,b2⟩ hfl hl
 rw[if_neg c2]
 have b2:(p.kind==2)=false:=by simpa using c2
 by_cases c3:p.kind=3
 ·rw[if_pos c3]
  exact refIs_over p _ _ _ _ _ w hp ⟨b1,b2,by simpa using c3⟩ hfl
 rw[if_neg c3]
 have b3:(p.kind==3)=false:=by simpa using c3
 by_cases c4:p.kind=4
 ·rw[if_pos c4]
  exact refIs_dup p _ _ _ _ _ w hp ⟨b1,b2,b3,by simpa using c4⟩ hfl
 rw[if_neg c4]
 have b4:(p.kind==4)=false:=by simpa using c4
 by_cases c5:p.kind=5
 ·rw[if_pos c5]
  exact refIs_free p _ _ _ _ _ w hp ⟨b1,b2,b3,b4,by simpa using c5⟩ hfl
 rw[if_neg c5]
 have b5:(p.kind==5)=false:=by simpa using c5
 by_cases c6:p.kind=6
 ·rw[if_pos c6]
  exact refIs_meta p _ _ _ _ _ w hp ⟨b1,b2,b3,b4,b5,by simpa using c6⟩ hfl
 rw[if_neg c6]
 exact refIs_none p _ _ _ _ _ w hp ⟨b1,b2,b3,b4,b5,by simpa using c6⟩ hfl
end
end Go.Proofs.YtbghhklbfnplbaaGreat

import Derived.Test.YtbghhklbfnplbaaGreatC00
import Derived.Test.YtbghhklbfnplbaaGreatC10
import Derived.Test.YtbghhklbfnplbaaGreatC13
namespace Go.Proofs.YtbghhklbfnplbaaGreat
section
open Go.RowKit Go.Sort
theorem num_enc (n:Int) (h0:0≤n) (h1:n<9223372036854775808) (r:List UInt8):nV (numB n++r,false)=n.toNat∧nS (numB n++r,false)=(r,false)∧iV (numB n++r,false)=n:=by
 have hw:IntKind.u64.wrap n=n:=by rw[IntKind.wrap_u64];omega
 have e:=num_there n h0 (by omega) r
 have h2:nV (numB n++r,false)=n.toNat:=by
  unfold nV numB
  rw[hw]
  exact e.1
 refine⟨h2,?_,?_⟩
 ·unfold nS numB
  rw[hw]
  exact Prod.ext e.2.1 e.2.2
 ·unfold iV
  rw[h2]
  have:(n.toNat:Int)=n:=Int.toNat_of_nonneg h0
  rw[this]
  unfold wrap64
  omega
theorem low_enc (n:Int) (h0:0≤n) (h1:n<18446744073709551616) (r:List UInt8):(nV (lowB n 8++r,false):Int)=n∧nS (lowB n 8++r,false)=(r,false):=by
 have e:=num_there n h0 h1 r
 refine⟨?_,Prod.ext e.2.1 e.2.2⟩
 have:nV (lowB n 8++r,false)=n.toNat:=e.1
 rw[this]
 exact Int.toNat_of_nonneg h0
theorem text_enc (s:ByteArray) (h:s.size≤65535) (r:List UInt8):tV (textB s++r,false)=s∧tS (textB s++r,false)=(r,false):=by
 have hl:s.data.toList.length=s.size:=by simp
 have e:=text_there s.data.toList r (by omega)
 rw[hl] at e
 have e2:textB s++r=lowB s.size 2++(s.data.toList++r):=by simp[textB]
 refine⟨?_,?_⟩
 ·unfold tV
  rw[e2]
  show bs (textV _ false)=s
  rw[e.1]
  rfl
 ·unfold tS
  rw[e2]
  exact Prod.ext e.2.1 e.2.2
def RootSmall (r:RootD):Prop:=(0≤r.page∧r.page<9223372036854775808)∧(0≤r.count∧r.count<9223372036854775808)∧0≤r.flags∧r.flags<9223372036854775808
theorem root_enc (x:RootD) (h:RootSmall x) (r:List UInt8):rootV (rootBytesD x++r,false)=x∧rootS (rootBytesD x++r,false)=(r,false):=by
 obtain⟨⟨a1,a2⟩,⟨b1,b2⟩,c1,c2⟩:=h
 have e1:=num_enc x.page a1 a2 (numB x.count++(numB x.flags++r))
 have e2:=num_enc x.count b1 b2 (numB x.flags++r)
 have e3:=num_enc x.flags c1 c2 r
 have e0:rootBytesD x++r=numB x.page++(numB x.count++(numB x.flags++r)):=by simp[rootBytesD]
 rw[e0]
 refine⟨?_,?_⟩
 ·unfold rootV
  rw[e1.2.1,e2.2.1,e1.2.2,e2.2.2,e3.2.2]
 ·unfold rootS
  rw[e1.2.1,e2.2.1,e3.2.1]
theorem texts_enc:∀ (l:List ByteArray) (r:List UInt8),(∀ x∈l,x.size≤65535)→textsV l.length (joinB textB l++r,false)=l∧tSn l.length (joinB textB l++r,false)=(r,false):=by
 intro l r h
 have key:∀ k,k≤l.length→textsV k (joinB textB l++r,false)=l.take k∧tSn k (joinB textB l++r,false)=(joinB textB (l.drop k)++r,false):=by
  intro k
  induction k with
  | zero=>intro _;simp[textsV,tSn]
  | succ k ih=>
    intro hk
    obtain⟨i1,i2⟩:=ih (by omega)
    have hd:l.drop k=l[k]::l.drop (k+1):=List.drop_eq_getElem_cons (by omega)
    have e:=text_enc l[k] (h _ (List.getElem_mem _)) (joinB textB (l.drop (k+1))++r)
    have hs:joinB textB (l.drop k)++r=textB l[k]++(joinB textB (l.drop (k+1))++r):=by rw[hd];simp[joinB]
    refine⟨?_,?_⟩
    ·rw[textsV,i1,i2,hs,e.1,qT (by omega)]
    ·rw[tSn,i2,hs,e.2]
 have:=key l.length qL
 simpa[joinB] using this
theorem nums_enc:∀ (l:List Int) (r:List UInt8),(∀ x∈l,0≤x∧x<9223372036854775808)→numsV l.length (joinB numB l++r,false)=l∧nSn l.length (joinB numB l++r,false)=(r,false):=by
 intro l r h
 have key:∀ k,k≤l.length→numsV k (joinB numB l++r,false)=l.take k∧nSn k (joinB numB l++r,false)=(joinB numB (l.drop k)++r,false):=by
  intro k
  induction k with
  | zero=>intro _;simp[numsV,nSn]
  | succ k ih=>
    intro hk
    obtain⟨i1,i2⟩:=ih (by omega)
    have hd:l.drop k=l[k]::l.drop (k+1):=List.drop_eq_getElem_cons (by omega)
    have hb:=h l[k] (List.getElem_mem _)
    have e:=num_enc l[k] hb.1 hb.2 (joinB numB (l.drop (k+1))++r)
    have hs:joinB numB (l.drop k)++r=numB l[k]++(joinB numB (l.drop (k+1))++r):=by rw[hd];simp[joinB]
    refine⟨?_,?_⟩
    ·rw[numsV,i1,i2,hs,e.2.2,qT (by omega)]
    ·rw[nSn,i2,hs,e.2.1]
 have:=key l.length qL
 simpa[joinB] using this
theorem kids_enc (l:List ByteArray) (m:List Int) (r:List UInt8) (hlen:l.length=m.length) (h1:∀ x∈l,x.size≤65535) (h2:∀ x∈m,0≤x∧x<9223372036854775808) :
  keysV m.length (joinB kidB (l.zip m)++r,false)=l∧kidsV m.length (joinB kidB (l.zip m)++r,false)=m∧kdSn m.length (joinB kidB (l.zip m)++r,false)=(r,false):=by
 have key:∀ k,k≤m.length→keysV k (joinB kidB (l.zip m)++r,false)=l.take k∧kidsV k (joinB kidB (l.zip m)++r,false)=m.take k∧kdSn k (joinB kidB (l.zip m)++r,false)=(joinB kidB ((l.zip m).drop k)++r,false):=by
  intro k
  induction k with
  | zero=>intro _;simp[keysV,kidsV,kdSn]
  | succ k ih=>
    intro hk
    obtain⟨i1,i2,i3⟩:=ih (by omega)
    have hkl:k<l.length:=by omega
    have hkm:k<m.length:=by omega
    have hkz:k<(l.zip m).length:=by simp;omega
    have hd:(l.zip m).drop k=(l[k],m[k])::(l.zip m).drop (k+1):=by
     rw[List.drop_eq_getElem_cons hkz]
     simp
    have hb:=h2 m[k] (List.getElem_mem _)
    have e1:=text_enc l[k] (h1 _ (List.getElem_mem _)) (numB m[k]++(joinB kidB ((l.zip m).drop (k+1))++r))
    have e2:=num_enc m[k] hb.1 hb.2 (joinB kidB ((l.zip m).drop (k+1))++r)
    have hs:joinB kidB ((l.zip m).drop k)++r=textB l[k]++(numB m[k]++(joinB kidB ((l.zip m).drop (k+1))++r)):=by rw[hd];simp[joinB,kidB]
    refine⟨?_,?_,?_⟩
    ·rw[keysV,i1,i3,hs,e1.1,qT hkl]
    ·rw[kidsV,i2,i3,hs,e1.2,e2.2.2,qT hkm]
    ·rw[kdSn,i3,kdS,hs,e1.2,e2.2.1]
 obtain⟨a,b,c⟩:=key m.length qL
 rw[List.drop_of_length_le (by simp;omega)] at c
 exact⟨by rw[a,← hlen,List.take_length],by rw[b,List.take_length],c⟩
end
section
open Go.RowKit Go.Sort
def small (n:Int):Prop:=0≤n∧n<9223372036854775808
theorem count_enc (n most:Nat) (r:List UInt8) (h:n≤most) (hm:most≤1000):min (nV (numB n++r,false)) most=n∧nS (numB n++r,false)=(r,false):=by
 have e:=num_enc n (by omega) (by omega) r
 refine⟨?_,e.2.1⟩
 rw[e.1,Int.toNat_natCast]
 exact Nat.min_eq_left h
structure ItemFit (x:ItemD):Prop where
 own:x=ownItemD x
 kind:x.kind=1∨x.kind=2∨x.kind=3∨x.kind=4
 ok:ItemOk x
 few:x.vals.length≤3
 run:small x.run
 len:small x.len
 dup:small x.dup
 root:RootSmall x.root
theorem item_enc (x:ItemD) (h:ItemFit x) (r:List UInt8):itemV (itemBytesD x++r,false)=x∧itemS (itemBytesD x++r,false)=(r,false):=by
 obtain⟨hown,hkind,⟨ok1,ok2,ok3,ok4⟩,hfew,hrun,hlen,hdup,hroot⟩:=h
 have hks:small x.kind:=by unfold small;omega
 have e0:itemBytesD x++r=textB x.key++(numB x.kind++(itemTail x++r)):=by simp[itemBytesD]
 have e1:=text_enc x.key ok1 (numB x.kind++(itemTail x++r))
 have e2:=num_enc x.kind hks.1 hks.2 (itemTail x++r)
 rw[e0]
 rcases hkind with hk|hk|hk|hk
 ·have e3:=text_enc x.val ok2 r
  have et:itemTail x=textB x.val:=by simp[itemTail,hk]
  have hx:x={ noItem with key:=x.key,kind:=1,val:=x.val }:=by
   refine hown.trans ?_
   simp only[ownItemD,hk,↓reduceIte]
  rw[et] at e1 e2 ⊢
  refine⟨?_,?_⟩
  ·unfold itemV
   rw[e1.2,e1.1,e2.2.2,e2.2.1,hk,e3.1]
   simp only[↓reduceIte]
   exact hx.symm
  ·unfold itemS
   rw[e1.2,e2.2.2,e2.2.1,hk,e3.2]
   simp only[↓reduceIte]
 ·have e3:=num_enc x.run hrun.1 hrun.2 (numB x.len++r)
  have e4:=num_enc x.len hlen.1 hlen.2 r
  have et:itemTail x++r=numB x.run++(numB x.len++r):=by simp[itemTail,hk]
  have hx:x={ noItem with key:=x.key,kind:=2,run:=x.run,len:=x.len }:=by
   refine hown.trans ?_
   simp only[ownItemD,hk]
   simp
  rw[et] at e1 e2 ⊢
  refine⟨?_,?_⟩
  ·unfold itemV
   rw[e1.2,e1.1,e2.2.2,e2.2.1,hk,e3.2.2,e3.2.1,e4.2.2]
   simp
   exact hx.symm
  ·unfold itemS
   rw[e1.2,e2.2.2,e2.2.1,hk,e3.2.1,e4.2.1]
   simp
 ·have e3:=count_enc x.vals.length 3 (joinB textB x.vals++(numB x.dup++r)) hfew (by omega)
  have e4:=texts_enc x.vals (numB x.dup++r) ok4
  have e5:=num_enc x.dup hdup.1 hdup.2 r
  have et:itemTail x++r=numB x.vals.length++(joinB textB x.vals++(numB x.dup++r)):=by simp[itemTail,hk,listB]
  have hx:x={ noItem with key:=x.key,kind:=3,vals:=x.vals,dup:=x.dup }:=by
   refine hown.trans ?_
   simp only[ownItemD,hk]
   simp
  rw[et] at e1 e2 ⊢
  refine⟨?_,?_⟩
  ·unfold itemV
   rw[e1.2,e1.1,e2.2.2,e2.2.1,hk,e3.1,e3.2,e4.1,e4.2,e5.2.2]
   simp
   exact hx.symm
  ·unfold itemS
   rw[e1.2,e2.2.2,e2.2.1,hk,e3.1,e3.2,e4.2,e5.2.1]
   simp
 ·have e3:=root_enc x.root hroot r
  have et:itemTail x=rootBytesD x.root:=by simp[itemTail,hk]
  have hx:x={ noItem with key:=x.key,kind:=4,root:=x.root }:=by
   refine hown.trans ?_
   simp only[ownItemD,hk]
   simp
  rw[et] at e1 e2 ⊢
  refine⟨?_,?_⟩
  ·unfold itemV
   rw[e1.2,e1.1,e2.2.2,e2.2.1,hk,e3.1]
   simp
   exact hx.symm
  ·unfold itemS
   rw[e1.2,e2.2.2,e2.2.1,hk,e3.2]
   simp
theorem items_enc (l:List ItemD) (r:List UInt8) (h:∀ x∈l,ItemFit x):itemsV l.length (joinB itemBytesD l++r,false)=l∧itSn l.length (joinB itemBytesD l++r,false)=(r,false):=by
 have key:∀ k,k≤l.length→itemsV k (joinB itemBytesD l++r,false)=l.take k∧itSn k (joinB itemBytesD l++r,false)=(joinB itemBytesD (l.drop k)++r,false):=by
  intro k
  induction k with
  | zero=>intro _;simp[itemsV,itSn]
  | succ k ih=>
    intro hk
    obtain⟨i1,i2⟩:=ih (by omega)
    have hd:l.drop k=l[k]::l.drop (k+1):=List.drop_eq_getElem_cons (by omega)
    have e:=item_enc l[k] (h _ (List.getElem_mem _)) (joinB itemBytesD (l.drop (k+1))++r)
    have hs:joinB itemBytesD (l.drop k)++r=itemBytesD l[k]++(joinB itemBytesD (l.drop (k+1))++r):=by rw[hd];simp[joinB]
    refine⟨?_,?_⟩
    ·rw[itemsV,i1,i2,hs,e.1,qT (by omega)]
    ·rw[itSn,i2,hs,e.2]
 have:=key l.length qL
 simpa[joinB] using this
def idsN:List FreeD→Nat
 | []=>0
 | f::r=>f.ids.length+idsN r
theorem frees_enc:∀ (l:List FreeD) (room:Nat) (r:List UInt8),room≤1000→idsN l≤room→(∀ f∈l,(0≤f.txn∧f.txn<18446744073709551616)∧∀ x∈f.ids,small x) →
  (freesGo l.length room (joinB freeBytesD l++r,false)).1=l∧(freesGo l.length room (joinB freeBytesD l++r,false)).2=(r,false)
 | [],room,r,_,_,_=>by simp[freesGo,joinB]
 | f::l,room,r,hr,hn,h=>by
   obtain⟨⟨t0,t1⟩,hids⟩:=h f (by simp)
   simp only[idsN] at hn
   have e0:joinB freeBytesD (f::l)++r=lowB f.txn 8++(numB f.ids.length++(joinB numB f.ids++(joinB freeBytesD l++r))):=by simp[joinB,freeBytesD,listB]
   have e1:=low_enc f.txn t0 t1 (numB f.ids.length++(joinB numB f.ids++(joinB freeBytesD l++r)))
   have e2:=num_enc f.ids.length (by omega) (by omega) (joinB numB f.ids++(joinB freeBytesD l++r))
   rw[Int.toNat_natCast] at e2
   have e3:=nums_enc f.ids (joinB freeBytesD l++r) hids
   have ih:=frees_enc l (room - f.ids.length) r (by omega) (by omega) (fun g hg=>h g (by simp[hg]))
   rw[e0]
   simp only[qV,freesGo]
   rw[e1.2,e2.1,e2.2.1,e1.1,e3.1,e3.2,if_pos (by omega)]
   exact⟨by rw[ih.1],ih.2⟩
end
section
open Go.RowKit Go.Sort
theorem small_zero:small 0:=by unfold small;omega
theorem page_small {n:Int} (h:pageB n=true):small n:=by simp[pageB] at h;unfold small;omega
theorem none_small {n:Int} (h:noneB n=true):small n:=by
 simp only[noneB,Bool.or_eq_true,beq_iff_eq] at h
 rcases h with rfl|h
 ·exact small_zero
 ·exact page_small h
theorem root_small {r:RootD} (h:rootB r=true):RootSmall r:=by
 simp only[rootB,qW,Bool.or_eq_true,beq_iff_eq,decide_eq_true_eq] at h
 obtain⟨⟨⟨h1,h2⟩,h3⟩,h4⟩:=h
 have hp:small r.page:=by
  rcases h1 with h1|h1
  ·rw[h1];exact small_zero
  ·exact page_small h1
 unfold small at hp
 unfold RootSmall
 omega
theorem noRoot_small:RootSmall ⟨0,0,0⟩:=by simp[RootSmall]
theorem goodItem_fit {x:ItemD} (h:goodItemB x=true):ItemFit x:=by
 have hok:=goodItem_ok h
 simp only[goodItemB,qW,sameItem_iff] at h
 obtain⟨⟨_,h2⟩,h3⟩:=h
 by_cases c1:x.kind=1
 ·have e:x.run=0∧x.len=0∧x.vals=[]∧x.dup=0∧x.root=⟨0,0,0⟩:=by rw[h3];simp[ownItemD,c1,noItem]
  obtain⟨e1,e2,e3,e4,e5⟩:=e
  exact⟨h3,.inl c1,hok,by simp[e3],by rw[e1];exact small_zero,by rw[e2];exact small_zero,by rw[e4];exact small_zero,by rw[e5];exact noRoot_small⟩
 by_cases c2:x.kind=2
 ·have e:x.vals=[]∧x.dup=0∧x.root=⟨0,0,0⟩:=by rw[h3];simp[ownItemD,c2,noItem]
  obtain⟨e3,e4,e5⟩:=e
  simp only[rightItemB,c2] at h2
  simp at h2
  have hl:small x.len:=by have:=h2.2;simp[withinB] at this;unfold small;omega
  exact⟨h3,.inr (.inl c2),hok,by simp[e3],page_small h2.1,hl,by rw[e4];exact small_zero,by rw[e5];exact noRoot_small⟩
 by_cases c3:x.kind=3
 ·have e:x.run=0∧x.len=0∧x.root=⟨0,0,0⟩:=by rw[h3];simp[ownItemD,c3,noItem]
  obtain⟨e1,e2,e5⟩:=e
  simp only[rightItemB,c3] at h2
  simp at h2
  by_cases hd:x.dup=0
  ·simp only[hd,↓reduceIte] at h2
   obtain⟨a,_⟩:=rightVals_ok h2
   exact⟨h3,.inr (.inr (.inl c3)),hok,by omega,by rw[e1];exact small_zero,by rw[e2];exact small_zero,by rw[hd];exact small_zero,by rw[e5];exact noRoot_small⟩
  ·simp only[hd,↓reduceIte] at h2
   have e3:x.vals=[]:=by simpa using h2.2
   exact⟨h3,.inr (.inr (.inl c3)),hok,by simp[e3],by rw[e1];exact small_zero,by rw[e2];exact small_zero,page_small (by simpa using h2.1),by rw[e5];exact noRoot_small⟩
 by_cases c4:x.kind=4
 ·have e:x.run=0∧x.len=0∧x.vals=[]∧x.dup=0:=by rw[h3];simp[ownItemD,c4,noItem]
  obtain⟨e1,e2,e3,e4⟩:=e
  simp only[rightItemB,c4] at h2
  simp at h2
  exact⟨h3,.inr (.inr (.inr c4)),hok,by simp[e3],by rw[e1];exact small_zero,by rw[e2];exact small_zero,by rw[e4];exact small_zero,root_small h2⟩
 ·simp[rightItemB,c1,c2,c3,c4] at h2
theorem rightFreeL_ids:∀ (l:List FreeD) (room txn:Int),rightFreeL room txn l=true→(idsN l:Int)≤max room 0∧∀ f∈l,∀ x∈f.ids,small x
 | [],room,txn,_=>by simp[idsN];omega
 | f::r,room,txn,h=>by
   simp only[rightFreeL,qW,List.all_eq_true] at h
   obtain⟨⟨⟨⟨h1,_⟩,h3⟩,_⟩,h5⟩:=h
   simp[withinB] at h1
   obtain⟨a,b⟩:=rightFreeL_ids r _ _ h5
   refine⟨by simp only[idsN];omega,fun g hg=>?_⟩
   rcases List.mem_cons.1 hg with rfl|hg
   ·exact fun x hx=>page_small (h3 x hx)
   ·exact b g hg
theorem part_enc (p:PageD) (hi:isPB p=true) (ht:TxnOk p) (r:List UInt8):partV p.kind (partD p++r,false)=p∧small p.kind:=by
 have hok:=partOk_of_is hi ht
 simp only[isPB,qW,sameP_iff] at hi
 obtain⟨hr,hown⟩:=hi
 by_cases c1:p.kind=1
 ·refine⟨?_,by rw[c1];unfold small;omega⟩
  have hp:p={ noPage with kind:=1,items:=p.items }:=by
   refine hown.trans ?_
   simp only[ownD,c1,↓reduceIte]
  simp only[rightB,c1,↓reduceIte,rightItemsB,qW,List.all_eq_true] at hr
  have hl:p.items.length≤4:=by have:=hr.1.1;simp[withinB] at this;omega
  have e0:partD p++r=numB p.items.length++(joinB itemBytesD p.items++r):=by simp[partD,c1,listB]
  have e1:=count_enc p.items.length 4 (joinB itemBytesD p.items++r) hl (by omega)
  have e2:=items_enc p.items r (fun x hx=>goodItem_fit (hr.1.2 x hx))
  rw[e0,c1]
  simp only[partV,↓reduceIte]
  rw[e1.1,e1.2,e2.1]
  exact hp.symm
 by_cases c2:p.kind=2
 ·refine⟨?_,by rw[c2];unfold small;omega⟩
  have hp:p={ noPage with kind:=2,keys:=p.keys,kids:=p.kids }:=by
   refine hown.trans ?_
   simp only[ownD,c2]
   simp
  obtain⟨hkl,hk1,hks⟩:=hok.kids c2
  simp only[rightB,c2] at hr
  simp[rightKidsB] at hr
  obtain⟨⟨⟨⟨⟨h1,_⟩,_⟩,_⟩,_⟩,h6⟩:=hr
  have hl:p.kids.length≤4:=by simp[withinB] at h1;omega
  have e0:partD p++r=numB p.kids.length++(joinB kidB (p.keys.zip p.kids)++r):=by simp[partD,c2]
  have e1:=count_enc p.kids.length 4 (joinB kidB (p.keys.zip p.kids)++r) hl (by omega)
  have e2:=kids_enc p.keys p.kids r hkl hks (fun x hx=>page_small (h6 x hx))
  rw[e0,c2]
  simp only[partV]
  simp only[show ¬ (2:Int)=1 by omega,↓reduceIte]
  rw[e1.1,e1.2,e2.1,e2.2.1]
  exact hp.symm
 by_cases c3:p.kind=3
 ·refine⟨?_,by rw[c3];unfold small;omega⟩
  have hp:p={ noPage with kind:=3,text:=p.text }:=by
   refine hown.trans ?_
   simp only[ownD,c3]
   simp
  have e0:partD p=textB p.text:=by simp[partD,c3]
  have e1:=text_enc p.text (hok.text c3) r
  rw[e0,c3]
  simp only[partV]
  simp only[show ¬ (3:Int)=1 by omega,show ¬ (3:Int)=2 by omega,↓reduceIte]
  rw[e1.1]
  exact hp.symm
 by_cases c4:p.kind=4
 ·refine⟨?_,by rw[c4];unfold small;omega⟩
  have hp:p={ noPage with kind:=4,vals:=p.vals }:=by
   refine hown.trans ?_
   simp only[ownD,c4]
   simp
  simp only[rightB,c4] at hr
  simp at hr
  obtain⟨a,_⟩:=rightVals_ok hr
  have e0:partD p++r=numB p.vals.length++(joinB textB p.vals++r):=by simp[partD,c4,listB]
  have e1:=count_enc p.vals.length 12 (joinB textB p.vals++r) (by omega) (by omega)
  have e2:=texts_enc p.vals r (hok.vals c4).2
  rw[e0,c4]
  simp only[partV]
  simp only[show ¬ (4:Int)=1 by omega,show ¬ (4:Int)=2 by omega,show ¬ (4:Int)=3 by omega,↓reduceIte]
  rw[e1.1,e1.2,e2.1]
  exact hp.symm
 by_cases c5:p.kind=5
 ·refine⟨?_,by rw[c5];unfold small;omega⟩
  have hp:p={ noPage with kind:=5,free:=p.free,next:=p.next }:=by
   refine hown.trans ?_
   simp only[ownD,c5]
   simp
  simp only[rightB,c5] at hr
  simp at hr
  obtain⟨a,_⟩:=rightFreeL_ok p.free 20 0 hr.1 (by omega)
  obtain⟨b,c⟩:=rightFreeL_ids p.free 20 0 hr.1
  have hn:=none_small hr.2
  have e0:partD p++r=numB p.free.length++(joinB freeBytesD p.free++(numB p.next++r)):=by simp[partD,c5,listB]
  have e1:=count_enc p.free.length 20 (joinB freeBytesD p.free++(numB p.next++r)) (by omega) (by omega)
  have e2:=frees_enc p.free 20 (numB p.next++r) (by omega) (by omega) (fun f hf=>⟨ht.2 f hf,c f hf⟩)
  have e3:=num_enc p.next hn.1 hn.2 r
  rw[e0,c5]
  simp only[partV]
  simp only[show ¬ (5:Int)=1 by omega,show ¬ (5:Int)=2 by omega,show ¬ (5:Int)=3 by omega,show ¬ (5:Int)=4 by omega,↓reduceIte]
  rw[e1.1,e1.2,e2.1,e2.2,e3.2.2]
  exact hp.symm
 by_cases c6:p.kind=6
 ·refine⟨?_,by rw[c6];unfold small;omega⟩
  have hp:p={ noPage with kind:=6,mt:=p.mt }:=by
   refine hown.trans ?_
   simp only[ownD,c6]
   simp
  simp only[rightB,c6] at hr
  simp at hr
  obtain⟨⟨h1,h2⟩,h3⟩:=hr
  have hl:small p.mt.last:=by simp[withinB] at h3;unfold small;omega
  have hf:=none_small h2
  have e0:partD p++r=lowB p.mt.txn 8++(rootBytesD p.mt.main++(numB p.mt.free++(numB p.mt.last++r))):=by simp[partD,c6,metaD]
  have e1:=low_enc p.mt.txn ht.1.1 ht.1.2 (rootBytesD p.mt.main++(numB p.mt.free++(numB p.mt.last++r)))
  have e2:=root_enc p.mt.main (root_small h1) (numB p.mt.free++(numB p.mt.last++r))
  have e3:=num_enc p.mt.free hf.1 hf.2 (numB p.mt.last++r)
  have e4:=num_enc p.mt.last hl.1 hl.2 r
  rw[e0,c6]
  simp only[partV]
  simp only[show ¬ (6:Int)=1 by omega,show ¬ (6:Int)=2 by omega,show ¬ (6:Int)=3 by omega,show ¬ (6:Int)=4 by omega,show ¬ (6:Int)=5 by omega,↓reduceIte]
  unfold metaV
  rw[e1.1,e1.2,e2.1,e2.2,e3.2.2,e3.2.1,e4.2.2]
  exact hp.symm
 ·simp[rightB,c1,c2,c3,c4,c5,c6] at hr
theorem page_enc (p:PageD) (hi:isPB p=true) (ht:TxnOk p) (r:List UInt8):pageV (bytesD p++r,false)=p:=by
 have e0:bytesD p++r=lowB (sumN (bodyD p)) 8++(numB p.kind++(partD p++r)):=by simp[bytesD,hi,bodyD]
 have hs:=sumN_lt (bodyD p)
 have e1:=low_enc (sumN (bodyD p)) (by omega) (by omega) (numB p.kind++(partD p++r))
 obtain⟨e3,hk⟩:=part_enc p hi ht r
 have e2:=num_enc p.kind hk.1 hk.2 (partD p++r)
 rw[e0]
 unfold pageV
 rw[e1.2,e2.2.2,e2.2.1]
 exact e3
theorem bytes_some (p:PageD) (hi:isPB p=true):16≤(bytesD p).length:=by
 simp[bytesD,hi,bodyD,lowB_length,numB_length]
 omega
theorem okR_bytes (p:PageD) (hi:isPB p=true) (ht:TxnOk p):okR (bytesD p)=true∧readV (bytesD p)=p:=by
 have h:=page_enc p hi ht []
 rw[List.append_nil] at h
 have h2:readV (bytesD p)=p:=h
 refine⟨?_,h2⟩
 have h3:=bytes_some p hi
 have h4:(bytesD p).isEmpty=false:=by
  cases h5:bytesD p with
  | nil=>rw[h5] at h3;simp at h3
  | cons a b=>rfl
 unfold okR
 rw[h4,h2]
 simp
end
end Go.Proofs.YtbghhklbfnplbaaGreat

import Derived.Test.YtbghhklbfnplbaaGreatC00
import Derived.Test.YtbghhklbfnplbaaGreatC28
import Derived.Test.YtbghhklbfnplbaaGreatC03
import Derived.Test.YtbghhklbfnplbaaGreatC14
namespace Go.Proofs.YtbghhklbfnplbaaGreat
section
open Go
def key2 (k:Nat):ByteArray:=⟨#[UInt8.ofNat (97+k / 26),UInt8.ofNat (97+k % 26)]⟩
def it2 (k:Nat):ItemD:={ noItem with key:=key2 k,kind:=1,val:=⟨#[118]⟩ }
theorem key2_list (k:Nat):(key2 k).toList=[UInt8.ofNat (97+k / 26),UInt8.ofNat (97+k % 26)]:=by
 rw[ByteArray.toList_eq];rfl
theorem u8_lt {a b:Nat} (ha:a<256) (hb:b<256):(UInt8.ofNat a<UInt8.ofNat b)↔a<b:=by
 rw[UInt8.lt_iff_toNat_lt,UInt8.toNat_ofNat_of_lt' ha,UInt8.toNat_ofNat_of_lt' hb]
theorem u8_eq {a b:Nat} (ha:a<256) (hb:b<256):(UInt8.ofNat a=UInt8.ofNat b)↔a=b:=by
 rw[← UInt8.toNat_inj,UInt8.toNat_ofNat_of_lt' ha,UInt8.toNat_ofNat_of_lt' hb]
theorem ltB_key2 {a b:Nat} (ha:a<256) (hb:b<256):ltB (key2 a) (key2 b)=decide (a<b):=by
 unfold ltB
 rw[key2_list,key2_list]
 have h1:=u8_lt (a:=97+a / 26) (b:=97+b / 26) (by omega) (by omega)
 have h2:=u8_lt (a:=97+a % 26) (b:=97+b % 26) (by omega) (by omega)
 have h3:=u8_eq (a:=97+a / 26) (b:=97+b / 26) (by omega) (by omega)
 rw[Bool.eq_iff_iff]
 simp only[Op.bytesLess,Bool.or_eq_true,qW,decide_eq_true_eq,beq_iff_eq,h1,h2,h3]
 simp
 omega
theorem key2_inj {a b:Nat} (ha:a<256) (hb:b<256) (h:key2 a=key2 b):a=b:=by
 have h0:=congrArg ByteArray.toList h
 rw[key2_list,key2_list] at h0
 simp only[List.cons.injEq,and_true] at h0
 rw[u8_eq (by omega) (by omega),u8_eq (by omega) (by omega)] at h0
 omega
theorem leB_key2 {a b:Nat} (ha:a<256) (hb:b<256):leB (key2 a) (key2 b)=decide (a≤b):=by
 have h1:=ltB_key2 ha hb
 unfold ltB at h1
 unfold leB
 rw[h1,Bool.eq_iff_iff]
 simp only[Bool.or_eq_true,decide_eq_true_eq,beq_iff_eq]
 rw[key2_list,key2_list]
 simp only[List.cons.injEq,and_true]
 rw[u8_eq (by omega) (by omega),u8_eq (by omega) (by omega)]
 omega
def Ri (l:List Nat):Prop:=l.Pairwise (·<·)
def insN (l:List Nat) (x:Nat):List Nat:=l.filter (fun y=>decide (y<x))++x::l.filter (fun y=>decide (x<y))
theorem mem_insN {l:List Nat} {x y:Nat}:y∈insN l x↔y=x∨y∈l:=by
 unfold insN
 simp only[qU,List.mem_filter,List.mem_cons,decide_eq_true_eq]
 constructor
 ·rintro (⟨h,_⟩|h|⟨h,_⟩)
  ·exact .inr h
  ·exact .inl h
  ·exact .inr h
 ·rintro (h|h)
  ·exact .inr (.inl h)
  ·rcases Nat.lt_trichotomy y x with h1|h1|h1
   ·exact .inl ⟨h,h1⟩
   ·exact .inr (.inl h1)
   ·exact .inr (.inr ⟨h,h1⟩)
theorem insN_ri {l:List Nat} {x:Nat} (h:Ri l):Ri (insN l x):=by
 unfold insN Ri
 rw[List.pairwise_append,List.pairwise_cons]
 refine⟨List.Pairwise.filter _ h,⟨fun y hy=>by simpa using (List.mem_filter.1 hy).2,List.Pairwise.filter _ h⟩,fun a ha b hb=>?_⟩
 have h1:a<x:=by simpa using (List.mem_filter.1 ha).2
 rcases List.mem_cons.1 hb with rfl|hb
 ·exact h1
 ·have:x<b:=by simpa using (List.mem_filter.1 hb).2
  omega
theorem insN_mid {la lk lb:List Nat} {x:Nat} (ha:∀ y∈la,y<x) (hb:∀ y∈lb,x<y):insN (la++lk++lb) x=la++insN lk x++lb:=by
 unfold insN
 have e1:la.filter (fun y=>decide (y<x))=la:=List.filter_eq_self.2 fun y hy=>by simpa using ha y hy
 have e2:lb.filter (fun y=>decide (y<x))=[]:=List.filter_eq_nil_iff.2 fun y hy=>by have:=hb y hy;simp;omega
 have e3:la.filter (fun y=>decide (x<y))=[]:=List.filter_eq_nil_iff.2 fun y hy=>by have:=ha y hy;simp;omega
 have e4:lb.filter (fun y=>decide (x<y))=lb:=List.filter_eq_self.2 fun y hy=>by simpa using hb y hy
 simp only[List.filter_append,e1,e2,e3,e4,List.append_nil,List.nil_append,List.append_assoc,List.cons_append]
theorem insN_length {l:List Nat} {x:Nat} (h:Ri l):(insN l x).length=if x∈l then l.length else l.length+1:=by
 induction l with
 | nil=>simp[insN]
 | cons a l ih=>
   have hr:Ri l:=(List.pairwise_cons.1 h).2
   have ha:=(List.pairwise_cons.1 h).1
   have ih:=ih hr
   rcases Nat.lt_trichotomy a x with h1|h1|h1
   ·have e:insN (a::l) x=a::insN l x:=by
     have h3:¬ x<a:=by omega
     simp[insN,h1,h3]
    rw[e,qV,ih]
    have:x∈a::l↔x∈l:=by simp;omega
    by_cases hx:x∈l
    ·rw[if_pos hx,if_pos (this.2 hx),qV]
    ·rw[if_neg hx,if_neg (fun h=>hx (this.1 h)),qV]
   ·subst h1
    rw[if_pos (by simp)]
    have e1:l.filter (fun y=>decide (y<a))=[]:=List.filter_eq_nil_iff.2 fun y hy=>by have:=ha y hy;simp;omega
    have e2:l.filter (fun y=>decide (a<y))=l:=List.filter_eq_self.2 fun y hy=>by simpa using ha y hy
    simp[insN,e1,e2]
   ·have hx:x ∉ a::l:=fun hm=>by
     rcases List.mem_cons.1 hm with rfl|hm
     ·omega
     ·have:=ha x hm;omega
    rw[if_neg hx]
    have e1:l.filter (fun y=>decide (y<x))=[]:=List.filter_eq_nil_iff.2 fun y hy=>by have:=ha y hy;simp;omega
    have e2:l.filter (fun y=>decide (x<y))=l:=List.filter_eq_self.2 fun y hy=>by have:=ha y hy;simp;omega
    have h2:¬ a<x:=by omega
    simp[insN,e1,e2,h1,h2]
theorem all_take {l:List Nat} {k:Nat} (hk:k<l.length):l.take (k+1)=l.take k++[l[k]]:=by
 rw[qT hk]
theorem stI_num {l:List Nat} {x:Nat} (hr:Ri l) (hl:∀ y∈l,y<256) (hx:x<256):∀ k,k≤l.length →
  stI (l.map it2) (it2 x) k=if (l.take k).all (fun y=>decide (y<x)) then ((l.take k).map it2,false) else ((insN (l.take k) x).map it2,true)
 | 0,_=>by simp[stI]
 | k+1,hk=>by
   have hlt:k<l.length:=by omega
   have ih:=stI_num hr hl hx k (by omega)
   have hg:(l.map it2).getD k noItem=it2 l[k]:=by simp[List.getD,hlt]
   have hy:=hl _ (List.getElem_mem hlt)
   have hlb:ltB (it2 l[k]).key (it2 x).key=decide (l[k]<x):=ltB_key2 hy hx
   have hrt:∀ y∈l.take k,y<l[k]:=fun y hy=>by
    obtain⟨i,hi,rfl⟩:=List.getElem_of_mem hy
    simp only[List.length_take] at hi
    rw[List.getElem_take]
    exact List.pairwise_iff_getElem.1 hr i k (by omega) hlt (by omega)
   unfold stI
   simp only[hg,ih,hlb]
   rw[all_take hlt,List.all_append]
   clear ih hlb hg hl
   generalize l.take k=t at *
   generalize l[k]=z at *
   by_cases ha:t.all (fun y=>decide (y<x))=true
   ·rw[if_pos ha]
    have ha':∀ y∈t,y<x:=fun y hy=>by simpa using List.all_eq_true.1 ha y hy
    have e1:t.filter (fun y=>decide (y<x))=t:=List.filter_eq_self.2 fun y hy=>by simpa using ha' y hy
    have e3:t.filter (fun y=>decide (x<y))=[]:=List.filter_eq_nil_iff.2 fun y hy=>by have:=ha' y hy;simp;omega
    rcases Nat.lt_trichotomy z x with h1|h1|h1
    ·rw[if_neg (by simp[h1])]
     simp[ha,h1]
    ·rw[if_pos (by simp;omega),if_pos (by rw[h1])]
     have h2:¬ z<x:=by omega
     have h3:¬ x<z:=by omega
     simp[ha,h1,insN,List.filter_append,e1,e3]
    ·rw[if_pos (by simp;omega),if_neg (fun e=>by have:=key2_inj hy hx e;omega)]
     have h2:¬ z<x:=by omega
     simp[ha,h1,h2,insN,List.filter_append,e1,e3]
   ·rw[if_neg ha,if_neg (by simp)]
    have ha2:t.all (fun y=>decide (y<x))=false:=by simpa using ha
    rw[ha2,Bool.false_and,if_neg (by simp)]
    have h1:x<z:=by
     obtain⟨y,hy,hy2⟩:=List.all_eq_false.1 ha2
     have:=hrt y hy
     simp at hy2
     omega
    have h2:¬ z<x:=by omega
    simp[insN,List.filter_append,h1,h2]
theorem insI_num {l:List Nat} {x:Nat} (hr:Ri l) (hl:∀ y∈l,y<256) (hx:x<256):insI (l.map it2) (it2 x)=(insN l x).map it2:=by
 unfold insI
 rw[List.length_map,stI_num hr hl hx l.length qL,List.take_length]
 by_cases ha:l.all (fun y=>decide (y<x))=true
 ·rw[if_pos ha]
  have e1:l.filter (fun y=>decide (y<x))=l:=List.filter_eq_self.2 fun y hy=>List.all_eq_true.1 ha y hy
  have e3:l.filter (fun y=>decide (x<y))=[]:=List.filter_eq_nil_iff.2 fun y hy=>by
   have:y<x:=by simpa using List.all_eq_true.1 ha y hy
   simp;omega
  simp[insN,e1,e3]
 ·rw[if_neg ha]
  simp
def leafN (l:List Nat):PageD:=leafP (l.map it2)
def num (i:Nat):Int:=(i:Int)+2
def keysN (seps:List Nat):List ByteArray:=⟨#[]⟩::seps.map key2
def branchN (ids seps:List Nat):PageD:=branchP (keysN seps) (ids.map num)
def downK (seps:List Nat) (x:Nat):Nat:=(seps.filter (fun m=>decide (m≤x))).length
theorem downN_num {seps:List Nat} {x:Nat} (hr:Ri seps) (hl:∀ y∈seps,y<256) (hx:x<256):downN (keysN seps) (key2 x) (keysN seps).length=downK seps x:=by
 have key:∀ n,n≤seps.length→downN (keysN seps) (key2 x) (n+1)=((seps.take n).filter (fun m=>decide (m≤x))).length:=by
  intro n
  induction n with
  | zero=>intro _;simp[downN]
  | succ n ih=>
    intro hn
    have hlt:n<seps.length:=by omega
    have hg:(keysN seps).getD (n+1) ⟨#[]⟩=key2 seps[n]:=by simp[keysN,List.getD,hlt]
    have hy:=hl _ (List.getElem_mem hlt)
    have hrt:∀ y∈seps.take n,y<seps[n]:=fun y hy=>by
     obtain⟨i,hi,rfl⟩:=List.getElem_of_mem hy
     simp only[List.length_take] at hi
     rw[List.getElem_take]
     exact List.pairwise_iff_getElem.1 hr i n (by omega) hlt (by omega)
    rw[downN,hg,leB_key2 hy hx,all_take hlt,List.filter_append,qO]
    by_cases h:seps[n]≤x
    ·rw[if_pos ⟨by omega,by simpa using h⟩]
     have e1:(seps.take n).filter (fun m=>decide (m≤x))=seps.take n:=List.filter_eq_self.2 fun y hy=>by have:=hrt y hy;simp;omega
     rw[e1]
     simp[h]
     omega
    ·rw[if_neg (by simp[h]),ih (by omega)]
     simp[h]
 have:=key seps.length qL
 rw[List.take_length] at this
 simpa[keysN,downK] using this
end
section
open Go.RowKit
theorem good2:∀ k,k<256→(shortB (key2 k)&&rightItemB (it2 k)&&sameItemB (it2 k) (ownItemD (it2 k)))=true:=by decide +kernel
theorem short2:∀ k,k<256→shortB (key2 k)=true:=by decide +kernel
theorem up2 {l:List Nat} (hr:Ri l) (hl:∀ y∈l,y<256):upS (l.map key2)=true:=by
 unfold upS
 refine List.all_eq_true.2 fun i hi=>?_
 have hi2:i<l.length:=by simpa using hi
 unfold goodUpS
 rcases Nat.eq_zero_or_pos i with rfl|h0
 ·rfl
 ·have h1:i - 1<l.length:=by omega
  have e1:(l.map key2).getD (i - 1) ⟨#[]⟩=key2 l[i - 1]:=by simp[List.getD,h1]
  have e2:(l.map key2).getD i ⟨#[]⟩=key2 l[i]:=by simp[List.getD,hi2]
  rw[e1,e2,ltB_key2 (hl _ (List.getElem_mem h1)) (hl _ (List.getElem_mem hi2))]
  have:=List.pairwise_iff_getElem.1 hr (i - 1) i h1 hi2 (by omega)
  simp[this]
theorem isPB_leafN {l:List Nat} (hr:Ri l) (hl:∀ y∈l,y<256) (h1:1≤l.length) (h4:l.length≤4):isPB (leafN l)=true:=by
 unfold isPB
 have e1:ownD (leafN l)=leafN l:=rfl
 rw[e1,(sameP_iff _ _).2 rfl,Bool.and_true]
 show rightItemsB (l.map it2)=true
 unfold rightItemsB
 have e2:(l.map it2).map (fun x=>x.key)=l.map key2:=by simp[it2]
 rw[e2,up2 hr hl,Bool.and_true,qW]
 refine⟨by unfold withinB;simp;omega,List.all_eq_true.2 fun x hx=>?_⟩
 obtain⟨y,hy,rfl⟩:=List.mem_map.1 hx
 exact good2 y (hl y hy)
theorem isPB_branchN {ids seps:List Nat} (hr:Ri seps) (hl:∀ y∈seps,y<256) (h0:ids.length=seps.length+1) (h1:2≤ids.length) (h4:ids.length≤4) (hi:∀ i∈ids,i<398):isPB (branchN ids seps)=true:=by
 unfold isPB
 have e1:ownD (branchN ids seps)=branchN ids seps:=rfl
 rw[e1,(sameP_iff _ _).2 rfl,Bool.and_true]
 show rightKidsB (keysN seps) (ids.map num)=true
 unfold rightKidsB
 have e2:upS (keysN seps)=true:=by
  unfold upS
  refine List.all_eq_true.2 fun i hi=>?_
  have hi2:i<seps.length+1:=by simpa[keysN] using hi
  unfold goodUpS
  rcases Nat.eq_zero_or_pos i with rfl|h0
  ·rfl
  ·obtain⟨j,rfl⟩:∃ j,i=j+1:=⟨i - 1,by omega⟩
   rcases Nat.eq_zero_or_pos j with rfl|hj
   ·have h5:0<seps.length:=by omega
    have e4:(keysN seps).getD 1 ⟨#[]⟩=key2 seps[0]:=by simp[keysN,List.getD,h5]
    rw[show 0+1 - 1=0 from rfl,show (keysN seps).getD 0 ⟨#[]⟩=⟨#[]⟩ from rfl,e4]
    have:ltB ⟨#[]⟩ (key2 seps[0])=true:=by
     unfold ltB
     rw[key2_list,ByteArray.toList_eq]
     rfl
    simp[this]
   ·have hj1:j - 1<seps.length:=by omega
    have hj2:j<seps.length:=by omega
    have e3:(keysN seps).getD (j+1 - 1) ⟨#[]⟩=key2 seps[j - 1]:=by
     rw[show j+1 - 1=(j - 1)+1 by omega]
     simp[keysN,List.getD,hj1]
    have e4:(keysN seps).getD (j+1) ⟨#[]⟩=key2 seps[j]:=by simp[keysN,List.getD,hj2]
    rw[e3,e4,ltB_key2 (hl _ (List.getElem_mem hj1)) (hl _ (List.getElem_mem hj2))]
    have:=List.pairwise_iff_getElem.1 hr (j - 1) j hj1 hj2 (by omega)
    simp[this]
 have e3:((keysN seps).getD 0 ⟨#[]⟩).toList.isEmpty=true:=by
  show (⟨#[]⟩:ByteArray).toList.isEmpty=true
  rw[ByteArray.toList_eq]
  rfl
 rw[e2,e3,Bool.and_true,Bool.and_true]
 simp only[qW,List.all_eq_true]
 refine⟨⟨⟨by unfold withinB;simp;omega,by simp[keysN];omega⟩,fun x hx=>?_⟩,fun x hx=>?_⟩
 ·simp only[keysN,List.drop_succ_cons,List.drop_zero] at hx
  obtain⟨y,hy,rfl⟩:=List.mem_map.1 hx
  exact short2 y (hl y hy)
 ·obtain⟨y,hy,rfl⟩:=List.mem_map.1 hx
  have:=hi y hy
  unfold pageB num
  simp
  omega
end
section
open Go
def KidsAt (A:Nat→Nat→Nat→List Nat→List Nat→Prop):List Nat→List Nat→Nat→Nat→List Nat→List Nat→Prop
 | ids,[],lo,hi,L,I=>∃ id,ids=[id]∧A id lo hi L I
 | ids,m::seps,lo,hi,L,I=>∃ id ids' L1 I1 L2 I2,ids=id::ids'∧L=L1++L2∧I=I1++I2∧A id lo m L1 I1∧KidsAt A ids' seps m hi L2 I2
theorem KidsAt.one {A:Nat→Nat→Nat→List Nat→List Nat→Prop} {id lo hi:Nat} {L I:List Nat} (h:A id lo hi L I):KidsAt A [id] [] lo hi L I:=⟨id,rfl,h⟩
theorem KidsAt.cons {A:Nat→Nat→Nat→List Nat→List Nat→Prop} {id m lo hi:Nat} {ids seps L1 I1 L2 I2:List Nat} (h:A id lo m L1 I1) (h2:KidsAt A ids seps m hi L2 I2):KidsAt A (id::ids) (m::seps) lo hi (L1++L2) (I1++I2):=⟨id,ids,L1,I1,L2,I2,rfl,rfl,rfl,h,h2⟩
theorem KidsAt.ind {A:Nat→Nat→Nat→List Nat→List Nat→Prop} {motive:(ids seps:List Nat)→(lo hi:Nat)→(L I:List Nat)→KidsAt A ids seps lo hi L I→Prop}
  (one:∀ {id lo hi:Nat} {L I:List Nat} (h:A id lo hi L I),motive [id] [] lo hi L I (KidsAt.one h))
  (cons:∀ {id m lo hi:Nat} {ids seps L1 I1 L2 I2:List Nat} (h:A id lo m L1 I1) (h2:KidsAt A ids seps m hi L2 I2),motive ids seps m hi L2 I2 h2→motive (id::ids) (m::seps) lo hi (L1++L2) (I1++I2) (KidsAt.cons h h2))
  {ids seps:List Nat} {lo hi:Nat} {L I:List Nat} (h:KidsAt A ids seps lo hi L I):motive ids seps lo hi L I h:=by
 induction seps generalizing ids lo L I with
 | nil=>
   obtain⟨id,rfl,h1⟩:=h
   exact one h1
 | cons m seps ih=>
   obtain⟨id,ids',L1,I1,L2,I2,rfl,rfl,rfl,h1,h2⟩:=h
   exact cons h1 h2 (ih h2)
def TreeAt (ps:List PageD):Nat→Nat→Nat→Nat→Bool→List Nat→List Nat→Prop
 | 0,id,lo,hi,top,L,I=>ps[id]?=some (leafN L)∧I=[id]∧Ri L∧(∀ x∈L,lo≤x∧x<hi)∧1≤L.length∧L.length≤4∧(top=false→2≤L.length)
 | d+1,id,lo,hi,_,L,I=>∃ ids seps I',ps[id]?=some (branchN ids seps)∧I=id::I'∧KidsAt (fun id lo hi L I=>TreeAt ps d id lo hi false L I) ids seps lo hi L I'∧2≤ids.length∧ids.length≤4
def Fits (lo hi:Nat) (L:List Nat):Prop:=L≠[]∧(∀ x∈L,lo≤x∧x<hi)∧Ri L
theorem Fits.lt {lo hi:Nat} {L:List Nat} (h:Fits lo hi L):lo<hi:=by
 obtain⟨h1,h2,_⟩:=h
 cases L with
 | nil=>exact absurd rfl h1
 | cons a l=>have:=h2 a (by simp);omega
theorem kids_fit {A:Nat→Nat→Nat→List Nat→List Nat→Prop} (hA:∀ id lo hi L I,A id lo hi L I→Fits lo hi L) {ids seps L I:List Nat} {lo hi:Nat} (h:KidsAt A ids seps lo hi L I) :
  Fits lo hi L∧Ri seps∧(∀ m∈seps,lo<m∧m<hi)∧ids.length=seps.length+1:=by
 induction h using KidsAt.ind with
 | one h=>exact⟨hA _ _ _ _ _ h,List.Pairwise.nil,by simp,rfl⟩
 | @cons id m lo hi ids seps L1 I1 L2 I2 h h2 ih=>
   obtain⟨f1,f2,f3⟩:=hA _ _ _ _ _ h
   have l1:=Fits.lt ⟨f1,f2,f3⟩
   obtain⟨⟨g1,g2,g3⟩,g4,g5,g6⟩:=ih
   have l2:=Fits.lt ⟨g1,g2,g3⟩
   refine⟨⟨by simp[f1],fun x hx=>?_,List.pairwise_append.2 ⟨f3,g3,fun a ha b hb=>?_⟩⟩,List.pairwise_cons.2 ⟨fun y hy=>(g5 y hy).1,g4⟩,fun y hy=>?_,by simp[g6]⟩
   ·rcases List.mem_append.1 hx with hx|hx
    ·have:=f2 x hx;omega
    ·have:=g2 x hx;omega
   ·have:=f2 a ha;have:=g2 b hb;omega
   ·rcases List.mem_cons.1 hy with rfl|hy
    ·omega
    ·have:=g5 y hy;omega
theorem tree_fits {ps:List PageD}:∀ (d id lo hi:Nat) (top:Bool) (L I:List Nat),TreeAt ps d id lo hi top L I→Fits lo hi L
 | 0,_,_,_,_,L,_,h=>by
   obtain⟨_,_,h1,h2,h3,_⟩:=h
   exact⟨fun e=>by subst e;simp at h3,h2,h1⟩
 | d+1,_,_,_,_,_,_,h=>by
   obtain⟨ids,seps,I',_,_,h1,_⟩:=h
   exact (kids_fit (fun id lo hi L I h=>tree_fits d id lo hi false L I h) h1).1
theorem kids_mono {A A':Nat→Nat→Nat→List Nat→List Nat→Prop} {ids seps L I:List Nat} {lo hi:Nat} (h:KidsAt A ids seps lo hi L I) (hA:∀ id lo hi L J,(∀ i∈J,i∈I)→A id lo hi L J→A' id lo hi L J):KidsAt A' ids seps lo hi L I:=by
 induction h using KidsAt.ind with
 | one h=>exact .one (hA _ _ _ _ _ (fun _ h=>h) h)
 | cons h h2 ih=>exact .cons (hA _ _ _ _ _ (fun i hi=>List.mem_append.2 (.inl hi)) h) (ih fun id lo hi L J hJ=>hA id lo hi L J fun i hi=>List.mem_append.2 (.inr (hJ i hi)))
theorem tree_frame {ps ps':List PageD}:∀ (d id lo hi:Nat) (top:Bool) (L I:List Nat),(∀ i∈I,ps'[i]?=ps[i]?)→TreeAt ps d id lo hi top L I→TreeAt ps' d id lo hi top L I
 | 0,id,_,_,_,_,_,hf,h=>by
   obtain⟨h1,rfl,h2⟩:=h
   exact⟨(hf id (by simp)).trans h1,rfl,h2⟩
 | d+1,id,_,_,_,_,_,hf,h=>by
   obtain⟨ids,seps,I',h1,rfl,h2,h3⟩:=h
   exact⟨ids,seps,I',(hf id (by simp)).trans h1,rfl,kids_mono h2 (fun i lo hi L J hJ h=>tree_frame d i lo hi false L J (fun j hj=>hf j (List.mem_cons.2 (.inr (hJ j hj)))) h),h3⟩
theorem tree_here {ps:List PageD} {lo hi:Nat} {top:Bool} {L I:List Nat}:∀ {d id:Nat},TreeAt ps d id lo hi top L I→id∈I
 | 0,_,h=>by obtain⟨_,rfl,_⟩:=h;simp
 | _+1,_,h=>by obtain⟨_,_,_,_,rfl,_⟩:=h;simp
theorem kids_count {A:Nat→Nat→Nat→List Nat→List Nat→Prop} (hA:∀ id lo hi L I,A id lo hi L I→I.length+1≤L.length) {ids seps L I:List Nat} {lo hi:Nat} (h:KidsAt A ids seps lo hi L I):I.length+ids.length≤L.length:=by
 induction h using KidsAt.ind with
 | one h=>exact hA _ _ _ _ _ h
 | cons h _ ih=>have:=hA _ _ _ _ _ h;simp only[qO,qV];omega
theorem tree_count {ps:List PageD}:∀ (d id lo hi:Nat) (L I:List Nat),TreeAt ps d id lo hi false L I→I.length+1≤L.length
 | 0,_,_,_,_,_,h=>by
   obtain⟨_,rfl,_,_,_,_,h⟩:=h
   exact h rfl
 | d+1,_,_,_,_,_,h=>by
   obtain⟨ids,seps,I',_,rfl,h1,h2,_⟩:=h
   have:=kids_count (fun id lo hi L I h=>tree_count d id lo hi L I h) h1
   simp only[qV]
   omega
theorem tree_count_top {ps:List PageD} {lo hi:Nat} {top:Bool} {L I:List Nat}:∀ {d id:Nat},TreeAt ps d id lo hi top L I→I.length≤L.length
 | 0,_,h=>by
   obtain⟨_,rfl,_,_,h,_⟩:=h
   simpa using h
 | d+1,id,h=>by
   have:=tree_count (d+1) id lo hi L I h
   omega
theorem kids_deep {A:Nat→Nat→Nat→List Nat→List Nat→Prop} {n:Nat} (hA:∀ id lo hi L I,A id lo hi L I→n≤L.length) {ids seps L I:List Nat} {lo hi:Nat} (h:KidsAt A ids seps lo hi L I):n*ids.length≤L.length:=by
 induction h using KidsAt.ind with
 | one h=>have:=hA _ _ _ _ _ h;simpa using this
 | cons h _ ih=>
   have:=hA _ _ _ _ _ h
   simp only[qO,qV,Nat.mul_succ]
   omega
theorem tree_deep {ps:List PageD}:∀ (d id lo hi:Nat) (L I:List Nat),TreeAt ps d id lo hi false L I→2 ^ (d+1)≤L.length
 | 0,_,_,_,_,_,h=>by
   obtain⟨_,_,_,_,_,_,h⟩:=h
   simpa using h rfl
 | d+1,_,_,_,_,_,h=>by
   obtain⟨ids,seps,I',_,_,h1,h2,_⟩:=h
   have:=kids_deep (fun id lo hi L I h=>tree_deep d id lo hi L I h) h1
   have h4:2 ^ (d+1)*2≤2 ^ (d+1)*ids.length:=Nat.mul_le_mul_left _ h2
   rw[Nat.pow_succ]
   omega
theorem tree_depth {ps:List PageD} {d id lo hi:Nat} {top:Bool} {L I:List Nat} (h:TreeAt ps d id lo hi top L I) (hl:L.length≤120):d≤5:=by
 cases d with
 | zero=>omega
 | succ d=>
   have h1:=tree_deep (d+1) id lo hi L I h
   have:2 ^ (d+1+1)<2 ^ 7:=by
    have:(2:Nat) ^ 7=128:=rfl
    omega
   have:=(Nat.pow_lt_pow_iff_right (show 1<2 by omega)).1 this
   omega
theorem downK_none {seps:List Nat} {x:Nat} (h:∀ m∈seps,x<m):downK seps x=0:=by
 unfold downK
 rw[List.filter_eq_nil_iff.2 fun y hy=>by have:=h y hy;simp;omega]
 rfl
theorem downK_cons {seps:List Nat} {x m:Nat} (h:m≤x):downK (m::seps) x=downK seps x+1:=by
 simp[downK,h]
theorem kids_at {A:Nat→Nat→Nat→List Nat→List Nat→Prop} (hA:∀ id lo hi L I,A id lo hi L I→Fits lo hi L) {ids seps L I:List Nat} {lo hi x:Nat} (h:KidsAt A ids seps lo hi L I) (h1:lo≤x) (h2:x<hi) :
  ∃ lo' hi' Lk Ik La Lb Ia Ib,A (ids.getD (downK seps x) 0) lo' hi' Lk Ik∧lo'≤x∧x<hi'∧lo≤lo'∧hi'≤hi∧L=La++Lk++Lb∧I=Ia++Ik++Ib∧(∀ y∈La,y<x)∧(∀ y∈Lb,x<y)∧downK seps x<ids.length ∧
    ∀ A':Nat→Nat→Nat→List Nat→List Nat→Prop,(∀ id lo hi L J,(∀ i∈J,i∈Ia++Ib)→A id lo hi L J→A' id lo hi L J) →
      (∀ Lk' Ik',A' (ids.getD (downK seps x) 0) lo' hi' Lk' Ik'→KidsAt A' ids seps lo hi (La++Lk'++Lb) (Ia++Ik'++Ib)) ∧
      (∀ m nid L1 L2 I1 I2,A' (ids.getD (downK seps x) 0) lo' m L1 I1→A' nid m hi' L2 I2→KidsAt A' (insAt ids (downK seps x+1) nid) (insAt seps (downK seps x) m) lo hi (La++(L1++L2)++Lb) (Ia++(I1++I2)++Ib)):=by
 induction h using KidsAt.ind with
 | @one id lo hi L I h=>
   refine⟨lo,hi,L,I,[],[],[],[],by simpa[downK] using h,h1,h2,Nat.le_refl _,Nat.le_refl _,by simp,by simp,by simp,by simp,by simp[downK],fun A' _=>⟨fun Lk' Ik' h'=>?_,fun m nid L1 L2 I1 I2 h' h''=>?_⟩⟩
   ·simpa using KidsAt.one (by simpa[downK] using h')
   ·have:=KidsAt.cons (A:=A') (by simpa[downK] using h') (KidsAt.one h'')
    simpa[downK,insAt] using this
 | @cons id m lo hi ids seps L1 I1 L2 I2 h hk ih=>
   obtain⟨f1,f2,f3⟩:=hA _ _ _ _ _ h
   obtain⟨⟨g1,g2,g3⟩,g4,g5,g6⟩:=kids_fit hA hk
   have lt1:=Fits.lt ⟨f1,f2,f3⟩
   have lt2:=Fits.lt ⟨g1,g2,g3⟩
   by_cases hx:x<m
   ·have h0:downK (m::seps) x=0:=downK_none fun y hy=>by
     rcases List.mem_cons.1 hy with rfl|hy
     ·exact hx
     ·have:=g5 y hy;omega
    rw[h0]
    refine⟨lo,m,L1,I1,[],L2,[],I2,by simpa using h,h1,hx,Nat.le_refl _,by omega,by simp,by simp,by simp,fun y hy=>by have:=g2 y hy;omega,by simp,fun A' hA'=>⟨fun Lk' Ik' h'=>?_,fun m' nid L1' L2' I1' I2' h' h''=>?_⟩⟩
    ·have hr:=kids_mono hk (fun i lo hi L J hJ h=>hA' i lo hi L J (fun j hj=>by simpa using hJ j hj) h)
     simpa using KidsAt.cons (by simpa using h') hr
    ·have hr:=kids_mono hk (fun i lo hi L J hJ h=>hA' i lo hi L J (fun j hj=>by simpa using hJ j hj) h)
     have:=KidsAt.cons (A:=A') (by simpa using h') (KidsAt.cons h'' hr)
     simpa[insAt] using this
   ·rw[downK_cons (by omega)]
    obtain⟨lo',hi',Lk,Ik,La,Lb,Ia,Ib,i1,i2,i3,i4,i5,rfl,rfl,i6,i7,i8,i9⟩:=ih (by omega) h2
    refine⟨lo',hi',Lk,Ik,L1++La,Lb,I1++Ia,Ib,by simpa using i1,i2,i3,by omega,i5,by simp,by simp,fun y hy=>?_,i7,by simpa using i8,fun A' hA'=>⟨fun Lk' Ik' h'=>?_,fun m' nid L1' L2' I1' I2' h' h''=>?_⟩⟩
    ·rcases List.mem_append.1 hy with hy|hy
     ·have:=f2 y hy;omega
     ·exact i6 y hy
    ·have hr:=(i9 A' (fun i lo hi L J hJ h=>hA' i lo hi L J (fun j hj=>by rcases List.mem_append.1 (hJ j hj) with hm|hm<;>simp[hm]) h)).1 Lk' Ik' (by simpa using h')
     have:=KidsAt.cons (A:=A') (hA' _ _ _ _ _ (fun j hj=>by simp[hj]) h) hr
     simpa using this
    ·have hr:=(i9 A' (fun i lo hi L J hJ h=>hA' i lo hi L J (fun j hj=>by rcases List.mem_append.1 (hJ j hj) with hm|hm<;>simp[hm]) h)).2 m' nid L1' L2' I1' I2' (by simpa using h') h''
     have:=KidsAt.cons (A:=A') (hA' _ _ _ _ _ (fun j hj=>by simp[hj]) h) hr
     simpa[insAt] using this
theorem kids_split {A:Nat→Nat→Nat→List Nat→List Nat→Prop} {ids seps L I:List Nat} {lo hi:Nat} (h:KidsAt A ids seps lo hi L I):∀ k,k+1<ids.length →
  ∃ m L1 L2 I1 I2,seps[k]?=some m∧KidsAt A (ids.take (k+1)) (seps.take k) lo m L1 I1∧KidsAt A (ids.drop (k+1)) (seps.drop (k+1)) m hi L2 I2∧L=L1++L2∧I=I1++I2:=by
 induction h using KidsAt.ind with
 | one h=>intro k hk;simp at hk
 | @cons id m lo hi ids seps L1 I1 L2 I2 h hk ih=>
   intro k hlt
   cases k with
   | zero=>exact⟨m,L1,L2,I1,I2,by simp,by simpa using KidsAt.one h,by simpa using hk,rfl,rfl⟩
   | succ k=>
     obtain⟨m',La,Lb,Ia,Ib,h1,h2,h3,rfl,rfl⟩:=ih k (by simpa using hlt)
     exact⟨m',L1++La,Lb,I1++Ia,Ib,by simpa using h1,by simpa using KidsAt.cons h h2,by simpa using h3,by simp,by simp⟩
def mkS (ps:List PageD):RSt:=⟨num ps.length,400,[],[],(List.range ps.length).map num,ps⟩
theorem takeWhile_all {α:Type} {p:α→Bool}:∀ {l:List α},(∀ y∈l,p y=true)→l.takeWhile p=l
 | [],_=>rfl
 | a::l,h=>by rw[List.takeWhile_cons,if_pos (h a (by simp)),takeWhile_all fun y hy=>h y (by simp[hy])]
theorem num_inj {i j:Nat} (h:num i=num j):i=j:=by unfold num at h;omega
theorem place_num {ps:List PageD} {i:Nat} (hi:i<ps.length):placeR (mkS ps) (num i)=(i:Int):=by
 refine place_hit (by simpa[mkS] using hi) (fun j hj=>?_) ?_
 ·have hj2:j<ps.length:=by omega
  have:(mkS ps).ids.getD j 0=num j:=by simp[mkS,List.getD,hj2]
  rw[this]
  intro e
  have:=num_inj e
  omega
 ·simp[mkS,List.getD,hi]
theorem page_num {ps:List PageD} {i:Nat} {p:PageD} (h:ps[i]?=some p):(mkS ps).ps.getD (placeR (mkS ps) (num i)).toNat noPage=p:=by
 have hi:=(List.getElem?_eq_some_iff.1 h).1
 rw[place_num hi]
 simp[mkS,List.getD,h]
theorem set_mk {ps:List PageD} {i:Nat} {p:PageD} (hi:i<ps.length) (hp:isPB p=true):setR (mkS ps) (num i) p=(0,mkS (ps.set i p)):=by
 unfold setR
 rw[place_num hi,if_neg (by simp[hp])]
 simp[mkS]
theorem add_mk {ps:List PageD} {p:PageD} (hp:isPB p=true) (hn:ps.length<120):addR (mkS ps) p=(num ps.length,0,mkS (ps++[p])):=by
 unfold addR
 rw[if_neg (by simp[hp]),if_neg (by simp[mkS];omega)]
 have e0:(mkS ps).avail=[]:=rfl
 rw[e0]
 have e1:¬ (mkS ps).most≤(mkS ps).last:=by simp[mkS,num];omega
 simp only[e1,if_false]
 have e2:∀ st:RSt,st.ids=(mkS ps).ids→countB st (mkS ps).last=ps.length:=fun st hst=>by
  unfold countB
  rw[hst]
  have:((List.range ps.length).map num).takeWhile (fun y=>decide (y<num ps.length))=(List.range ps.length).map num:=takeWhile_all fun y hy=>by
   obtain⟨i,hi,rfl⟩:=List.mem_map.1 hy
   have:=List.mem_range.1 hi
   simp[num]
   omega
  show (((List.range ps.length).map num).takeWhile (fun y=>decide (y<num ps.length))).length=_
  rw[this]
  simp
 unfold dirtyR
 rw[e2 ⟨(mkS ps).last+1,(mkS ps).most,[],(mkS ps).freed,(mkS ps).ids,(mkS ps).ps⟩ rfl]
 simp only[mkS,RSt.mk.injEq,Prod.mk.injEq,true_and,qO,qV,List.length_nil]
 refine⟨by unfold num;omega,?_,?_⟩
 ·rw[List.take_of_length_le (by simp),List.drop_eq_nil_of_le (by simp),List.range_succ,List.map_append]
  rfl
 ·rw[List.take_length,List.drop_length]
theorem perm_of {a b:List Nat} (h:∀ x,a.count x=b.count x):a.Perm b:=List.perm_iff_count.2 h
def PutOk (ps:List PageD) (d id lo hi:Nat) (top:Bool) (L I:List Nat) (x:Nat) (r:PutA):Prop:=
 ∃ ps',ps.length≤ps'.length∧(∀ i,i<ps.length→i ∉ I→ps'[i]?=ps[i]?) ∧
   ((r=((num id,0,⟨#[]⟩,0),mkS ps')∧∃ I',TreeAt ps' d id lo hi top (insN L x) I'∧I'.Perm (I++List.range' ps.length (ps'.length - ps.length))) ∨
    (∃ m nid L1 L2 I1 I2,r=((num id,num nid,key2 m,0),mkS ps')∧TreeAt ps' d id lo m false L1 I1∧TreeAt ps' d nid m hi false L2 I2∧L1++L2=insN L x∧(I1++I2).Perm (I++List.range' ps.length (ps'.length - ps.length))∧nid+1=ps'.length))
theorem ri_take {l:List Nat} (h:Ri l) (k:Nat):Ri (l.take k):=List.Pairwise.sublist (List.take_sublist k l) h
theorem ri_drop {l:List Nat} (h:Ri l) (k:Nat):Ri (l.drop k):=List.Pairwise.sublist (List.drop_sublist k l) h
theorem putLeaf_num {ps:List PageD} {id lo hi x:Nat} {top:Bool} {L I:List Nat} (h:TreeAt ps 0 id lo hi top L I) (h1:lo≤x) (h2:x<hi) (hh:hi≤256) (hn:ps.length+L.length≤119+I.length) (f:Nat) :
  PutOk ps 0 id lo hi top L I x (putR (f+1) (mkS ps) (num id) (it2 x))∧(4<(insI (L.map it2) (it2 x)).length→isPB (leafP ((insI (L.map it2) (it2 x)).take (((insI (L.map it2) (it2 x)).length+1) / 2)))=true):=by
 obtain⟨hp,rfl,hr,hb,hl1,hl4,hl2⟩:=h
 have hid:=(List.getElem?_eq_some_iff.1 hp).1
 have h256:∀ y∈L,y<256:=fun y hy=>by have:=hb y hy;omega
 have hri:=insN_ri (x:=x) hr
 have hb':∀ y∈insN L x,lo≤y∧y<hi:=fun y hy=>by
  rcases mem_insN.1 hy with rfl|hy
  ·exact⟨h1,h2⟩
  ·exact hb y hy
 have hlen:=insN_length (x:=x) hr
 have hge:L.length≤(insN L x).length∧(insN L x).length≤L.length+1:=by rw[hlen];split<;>omega
 have e0:putR (f+1) (mkS ps) (num id) (it2 x)=putLeafR (mkS ps) (num id) (L.map it2) (it2 x):=by
  simp only[putR]
  rw[page_num hp,if_pos (by rfl)]
  rfl
 have hins:insI (L.map it2) (it2 x)=(insN L x).map it2:=insI_num hr h256 (by omega)
 rw[e0,hins]
 unfold putLeafR
 rw[hins]
 simp only[List.length_map]
 have hok:∀ l:List Nat,Ri l→(∀ y∈l,y∈insN L x)→1≤l.length→l.length≤4→isPB (leafP (l.map it2))=true:=fun l a b c d=>isPB_leafN a (fun y hy=>by have:=hb' y (b y hy);omega) c d
 by_cases h4:(insN L x).length≤4
 ·rw[if_pos h4]
  refine⟨⟨ps.set id (leafN (insN L x)),by simp,fun i hi hni=>by rw[List.getElem?_set_ne (fun e=>hni (by simp[e]))],.inl ⟨?_,[id],⟨by simp[hid],rfl,hri,hb',by omega,h4,fun e=>by have:=hl2 e;omega⟩,by simp⟩⟩,fun h=>by omega⟩
  rw[set_mk hid (hok _ hri (fun _ h=>h) (by omega) h4)]
  rfl
 ·rw[if_neg h4]
  have h5:(insN L x).length=5:=by omega
  rw[h5]
  simp only[← List.map_take,← List.map_drop]
  have hm3:3<(insN L x).length:=by omega
  have ht:(insN L x).take 3++(insN L x).drop 3=insN L x:=List.take_append_drop 3 _
  have hlt:∀ y∈(insN L x).take 3,y<(insN L x)[3]:=fun y hy=>by
   obtain⟨i,hi,rfl⟩:=List.getElem_of_mem hy
   simp only[List.length_take] at hi
   rw[List.getElem_take]
   exact List.pairwise_iff_getElem.1 hri i 3 (by omega) hm3 (by omega)
  have hge3:∀ y∈(insN L x).drop 3,(insN L x)[3]≤y:=fun y hy=>by
   obtain⟨i,hi,rfl⟩:=List.getElem_of_mem hy
   rw[List.getElem_drop]
   rcases Nat.eq_zero_or_pos i with rfl|hi0
   ·exact Nat.le_refl _
   ·exact Nat.le_of_lt (List.pairwise_iff_getElem.1 hri 3 (3+i) hm3 (by simp at hi;omega) (by omega))
  have ht1:isPB (leafP (((insN L x).take 3).map it2))=true:=hok _ (ri_take hri 3) (fun y hy=>List.mem_of_mem_take hy) (by simp;omega) (by simp;omega)
  have ht2:isPB (leafP (((insN L x).drop 3).map it2))=true:=hok _ (ri_drop hri 3) (fun y hy=>List.mem_of_mem_drop hy) (by simp;omega) (by simp;omega)
  rw[show (5+1) / 2=3 from rfl]
  refine⟨⟨ps.set id (leafN ((insN L x).take 3))++[leafN ((insN L x).drop 3)],by simp,fun i hi hni=>?_,.inr ⟨(insN L x)[3],ps.length,(insN L x).take 3,(insN L x).drop 3,[id],[ps.length],?_,?_,?_,ht,?_,by simp⟩⟩,fun _=>ht1⟩
  ·rw[List.getElem?_append_left (by simpa using hi),List.getElem?_set_ne (fun e=>hni (by simp[e]))]
  ·rw[set_mk hid ht1]
   simp only
   rw[add_mk ht2 (by simp only[List.length_set];simp at hn;omega)]
   have hgd:(((insN L x).map it2).getD 3 noItem).key=key2 (insN L x)[3]:=by simp[List.getD,hm3,it2]
   simpa[leafN] using hgd
  ·refine⟨?_,rfl,ri_take hri 3,fun y hy=>⟨(hb' y (List.mem_of_mem_take hy)).1,hlt y hy⟩,by simp;omega,by simp;omega,fun _=>by simp;omega⟩
   rw[List.getElem?_append_left (by simpa using hid)]
   simp[hid]
  ·refine⟨by rw[List.getElem?_append_right (by simp)];simp,rfl,ri_drop hri 3,fun y hy=>⟨hge3 y hy,(hb' y (List.mem_of_mem_drop hy)).2⟩,by simp;omega,by simp;omega,fun _=>by simp;omega⟩
  ·rw[qO,List.length_set,qV,List.length_nil,Nat.zero_add,Nat.add_sub_cancel_left];simp
end
end Go.Proofs.YtbghhklbfnplbaaGreat

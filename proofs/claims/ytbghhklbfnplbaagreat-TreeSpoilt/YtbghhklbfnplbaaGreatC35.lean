import Derived.Test.YtbghhklbfnplbaaGreatC00
import Derived.Test.YtbghhklbfnplbaaGreatC34
namespace Go.Proofs.YtbghhklbfnplbaaGreat
section
open Go
theorem kids_ids {A:Nat→Nat→Nat→List Nat→List Nat→Prop} (hA:∀ id lo hi L I,A id lo hi L I→id∈I) {ids seps L I:List Nat} {lo hi:Nat} (h:KidsAt A ids seps lo hi L I):∀ i∈ids,i∈I:=by
 induction h using KidsAt.ind with
 | one h=>intro i hi;simp at hi;subst hi;exact hA _ _ _ _ _ h
 | cons h _ ih=>
   intro i hi
   rcases List.mem_cons.1 hi with rfl|hi
   ·exact List.mem_append.2 (.inl (hA _ _ _ _ _ h))
   ·exact List.mem_append.2 (.inr (ih i hi))
theorem map_insAt {α β:Type} (f:α→β) (l:List α) (k:Nat) (x:α):(insAt l k x).map f=insAt (l.map f) k (f x):=by simp[insAt,List.map_take,List.map_drop]
theorem insAt_length {α:Type} (l:List α) (k:Nat) (x:α):(insAt l k x).length=l.length+1:=by
 simp only[insAt,qO,List.length_take,qV,List.length_drop]
 omega
theorem set_same {α:Type} {l:List α} {k:Nat} {x:α} (h:l[k]?=some x):l.set k x=l:=by
 refine List.ext_getElem? fun i=>?_
 by_cases e:k=i
 ·subst e
  rw[List.getElem?_set_self (List.getElem?_eq_some_iff.1 h).1]
  exact h.symm
 ·rw[List.getElem?_set_ne e]
theorem kids_set (ids:List Nat) (k:Nat) (hk:k<ids.length):(ids.map num).set k (num (ids.getD k 0))=ids.map num:=set_same (by simp[List.getD,hk])
theorem keysN_ins (seps:List Nat) (k m:Nat):insAt (keysN seps) (k+1) (key2 m)=keysN (insAt seps k m):=by
 simp[keysN,insAt,List.map_take,List.map_drop]
theorem keysN_take (seps:List Nat) (k:Nat):(keysN seps).take (k+1)=keysN (seps.take k):=by simp[keysN,List.map_take]
theorem node_done {ps ps1:List PageD} {d id lo hi:Nat} {top:Bool} {ids seps J L:List Nat} (hid:id<ps.length) (hle:ps.length≤ps1.length) (h2:2≤ids.length) (h4:ids.length≤4)
  (hk:KidsAt (fun id' lo hi L I=>TreeAt (ps1.set id (branchN ids seps)) d id' lo hi false L I) ids seps lo hi L J):TreeAt (ps1.set id (branchN ids seps)) (d+1) id lo hi top L (id::J):=
 ⟨ids,seps,J,by simp[show id<ps1.length by omega],rfl,hk,h2,h4⟩
theorem isPB_kids {ps:List PageD} {d lo hi:Nat} {ids seps L I:List Nat} (hk:KidsAt (fun id lo hi L I=>TreeAt ps d id lo hi false L I) ids seps lo hi L I) (hh:hi≤256) (h2:2≤ids.length) (h4:ids.length≤4) (hI:∀ i∈I,i<398):isPB (branchN ids seps)=true:=by
 obtain⟨_,f1,f2,f3⟩:=kids_fit (fun id lo hi L I h=>tree_fits d id lo hi false L I h) hk
 exact isPB_branchN f1 (fun y hy=>by have:=f2 y hy;omega) f3 h2 h4 (fun i hi=>hI i (kids_ids (fun id lo hi L I h=>tree_here h) hk i hi))
theorem putNode_num {ps:List PageD} {d id lo hi x:Nat} {top:Bool} {L I:List Nat} (h:TreeAt ps (d+1) id lo hi top L I) (h1:lo≤x) (h2:x<hi) (hh:hi≤256) (hnd:I.Nodup) (hlt:∀ i∈I,i<ps.length) (hn:ps.length+L.length≤119+I.length) :
  ∃ ids seps,ps[id]?=some (branchN ids seps)∧2≤ids.length∧ids.length≤4∧ids.length=seps.length+1∧Ri seps∧(∀ y∈seps,y<256)∧downK seps x<ids.length ∧
    ∃ lo' hi' Lk Ik,TreeAt ps d (ids.getD (downK seps x) 0) lo' hi' false Lk Ik∧lo'≤x∧x<hi'∧hi'≤256∧Ik.Nodup∧(∀ i∈Ik,i<ps.length)∧ps.length+Lk.length≤119+Ik.length ∧
      ∀ r,PutOk ps d (ids.getD (downK seps x) 0) lo' hi' false Lk Ik x r →
        r.1.2.2.2=0∧(∃ ps1,r.2=mkS ps1∧ps.length≤ps1.length) ∧
        (4<(putKids (branchN ids seps) (downK seps x) r.1.1 r.1.2.1).length→isPB (branchP ((putKeys (branchN ids seps) (downK seps x) r.1.2.2.1 r.1.2.1).take (((putKids (branchN ids seps) (downK seps x) r.1.1 r.1.2.1).length+1) / 2)) ((putKids (branchN ids seps) (downK seps x) r.1.1 r.1.2.1).take (((putKids (branchN ids seps) (downK seps x) r.1.1 r.1.2.1).length+1) / 2)))=true) ∧
        PutOk ps (d+1) id lo hi top L I x (putBranchR (num id) (putKeys (branchN ids seps) (downK seps x) r.1.2.2.1 r.1.2.1) (putKids (branchN ids seps) (downK seps x) r.1.1 r.1.2.1) r.2):=by
 obtain⟨ids,seps,I',hp,rfl,hk,hk2,hk4⟩:=h
 obtain⟨hfit,hri,hsep,hlen⟩:=kids_fit (fun id lo hi L I h=>tree_fits d id lo hi false L I h) hk
 have hcnt:=kids_count (fun id lo hi L I h=>tree_count d id lo hi L I h) hk
 have hid:=(List.getElem?_eq_some_iff.1 hp).1
 obtain⟨lo',hi',Lk,Ik,La,Lb,Ia,Ib,i1,i2,i3,i4,i5,rfl,rfl,i6,i7,i8,i9⟩:=kids_at (fun id lo hi L I h=>tree_fits d id lo hi false L I h) hk h1 h2
 obtain⟨hni,hnd2⟩:=List.nodup_cons.1 hnd
 have hcl:=tree_count d _ _ _ _ _ i1
 have hck:=i9 (fun id lo hi L I=>I.length+1≤L.length) (fun id lo hi L I _ h=>tree_count d id lo hi L I h)
 have hc0:(Ia++Ib).length+ids.length≤(La++Lb).length+1:=by
  have:=kids_count (A:=fun id lo hi L I=>I.length+1≤L.length) (fun _ _ _ _ _ h=>h) (hck.1 [0] [] (by simp))
  simp only[qO,qV,List.length_nil] at this ⊢
  omega
 refine⟨ids,seps,hp,hk2,hk4,hlen,hri,fun y hy=>by have:=hsep y hy;omega,i8,lo',hi',Lk,Ik,i1,i2,i3,by omega,?_,fun i hi=>hlt i (by simp[hi]),?_,fun r hr=>?_⟩
 ·rw[List.append_assoc,List.nodup_append] at hnd2
  exact (List.nodup_append.1 hnd2.2.1).1
 ·simp only[qO,qV] at hn hc0 ⊢
  omega
 obtain⟨ps1,hle,hfr,hcase⟩:=hr
 have hfrI:∀ i,i∈Ia++Ib→ps1[i]?=ps[i]?∧i≠id:=fun i hi=>by
  have hiI:i∈Ia++Ik++Ib:=by rcases List.mem_append.1 hi with h|h<;>simp[h]
  refine⟨hfr i (hlt i (List.mem_cons.2 (.inr hiI))) (fun hk=>?_),fun e=>hni (e ▸ hiI)⟩
  have h3:=List.nodup_append.1 hnd2
  have h4:=List.nodup_append.1 h3.1
  rcases List.mem_append.1 hi with h|h
  ·exact h4.2.2 i h i hk rfl
  ·exact h3.2.2 i (by simp[hk]) i h rfl
 have hidk:id ∉ Ik:=fun e=>hni (by simp[e])
 have hother:∀ (q:PageD) (tl:List PageD) (i lo hi:Nat) (L J:List Nat),(∀ j∈J,j∈Ia++Ib)→TreeAt ps d i lo hi false L J→TreeAt (ps1.set id q++tl) d i lo hi false L J:=fun q tl i lo hi L J hJ hT=>tree_frame d i lo hi false L J (fun j hj=>by
  obtain⟨e1,e2⟩:=hfrI j (hJ j hj)
  have hj2:j<ps.length:=hlt j (by rcases List.mem_append.1 (hJ j hj) with h|h<;>simp[h])
  rw[List.getElem?_append_left (by simp;omega),List.getElem?_set_ne (fun e=>e2 e.symm),e1]) hT
 have hch:∀ (q:PageD) (tl:List PageD) (i lo hi:Nat) (L J:List Nat),(∀ j∈J,j≠id∧j<ps1.length)→TreeAt ps1 d i lo hi false L J→TreeAt (ps1.set id q++tl) d i lo hi false L J:=fun q tl i lo hi L J hJ hT=>tree_frame d i lo hi false L J (fun j hj=>by
  obtain⟨e1,e2⟩:=hJ j hj
  rw[List.getElem?_append_left (by simpa using e2),List.getElem?_set_ne (fun e=>e1 e.symm)]) hT
 have hnew:∀ J:List Nat,J.Perm (Ik++List.range' ps.length (ps1.length - ps.length))→∀ j∈J,j≠id∧j<ps1.length:=fun J hJ j hj=>by
  rcases List.mem_append.1 (hJ.mem_iff.1 hj) with h|h
  ·have:=hlt j (by simp[h])
   exact⟨fun e=>hidk (e ▸ h),by omega⟩
  ·have:=List.mem_range'_1.1 h
   exact⟨fun e=>by omega,by omega⟩
 have hinsl:∀ l:List Nat,Ri l→(insN l x).length≤l.length+1:=fun l hl=>by rw[insN_length hl];split<;>omega
 have hrk:Ri Lk:=(tree_fits d _ _ _ _ _ _ i1).2.2
 have hrK:=hinsl _ hrk
 have hmid:=insN_mid (lk:=Lk) i6 i7
 have hltall:∀ i∈Ia++Ib,i<ps.length:=fun i hi=>hlt i (by rcases List.mem_append.1 hi with h|h<;>simp[h])
 rcases hcase with ⟨rfl,Ik',hT,hperm⟩|⟨m,nid,L1,L2,I1,I2,rfl,hT1,hT2,hL,hperm,hnid⟩
 ·-- one child,written anew
  have hpl:=hperm.length_eq
  simp only[qO,List.length_range'] at hpl
  have htc:=tree_count d _ _ _ _ _ hT
  have hsz:ps1.length<398:=by simp only[qO,qV] at hn hc0;omega
  have ekeys:putKeys (branchN ids seps) (downK seps x) ⟨#[]⟩ 0=keysN seps:=by simp[putKeys,branchN,branchP]
  have ekids:putKids (branchN ids seps) (downK seps x) (num (ids.getD (downK seps x) 0)) 0=ids.map num:=by
   simp only[putKids,if_true,branchN,branchP]
   exact kids_set ids _ i8
  simp only[ekeys,ekids,List.length_map]
  have hkk:=(i9 (fun i lo hi L J=>TreeAt (ps1.set id (branchN ids seps)++[]) d i lo hi false L J) (fun i lo hi L J hJ hT=>hother _ _ i lo hi L J hJ hT)).1 _ _ (hch _ _ _ _ _ _ _ (hnew Ik' hperm) hT)
  rw[List.append_nil] at hkk
  have hpg:isPB (branchN ids seps)=true:=isPB_kids hkk hh hk2 hk4 (fun i hi=>by
   rw[List.append_assoc,qU,qU] at hi
   rcases hi with h|h|h
   ·have:=hltall i (by simp[h]);omega
   ·have:=(hnew Ik' hperm i h).2;omega
   ·have:=hltall i (by simp[h]);omega)
  refine⟨by trivial,⟨ps1,rfl,hle⟩,fun h=>by omega,ps1.set id (branchN ids seps),by simpa using hle,fun i hi hni2=>?_,.inl ⟨?_,id::(Ia++Ik'++Ib),?_,?_⟩⟩
  ·rw[List.getElem?_set_ne (fun e=>hni2 (by simp[e]))]
   exact hfr i hi (fun e=>hni2 (by simp[e]))
  ·unfold putBranchR
   rw[if_pos (by simpa using hk4)]
   have:=set_mk (show id<ps1.length by omega) hpg
   unfold branchN at this ⊢
   rw[this]
  ·rw[hmid]
   exact node_done hid hle hk2 hk4 hkk
  ·refine perm_of fun y=>?_
   have:=hperm.count_eq y
   simp only[List.length_set,List.count_append,List.count_cons] at this ⊢
   omega
 ·-- two children in the place of one
  have hpl:=hperm.length_eq
  simp only[qO,List.length_range'] at hpl
  have htc1:=tree_count d _ _ _ _ _ hT1
  have htc2:=tree_count d _ _ _ _ _ hT2
  have hLl:=congrArg List.length hL
  rw[qO] at hLl
  have hsz:ps1.length+ids.length≤120:=by simp only[qO,qV] at hn hc0;omega
  have hmne:¬ num nid=0:=by unfold num;omega
  have ekeys:putKeys (branchN ids seps) (downK seps x) (key2 m) (num nid)=keysN (insAt seps (downK seps x) m):=by
   rw[putKeys,if_neg hmne]
   exact keysN_ins _ _ _
  have ekids:putKids (branchN ids seps) (downK seps x) (num (ids.getD (downK seps x) 0)) (num nid)=(insAt ids (downK seps x+1) nid).map num:=by
   rw[putKids,if_neg hmne,map_insAt]
   show insAt ((ids.map num).set _ _) _ _=_
   rw[kids_set ids _ i8]
  simp only[ekeys,ekids,List.length_map]
  have hI12:∀ j∈I1++I2,j≠id∧j<ps1.length:=hnew _ hperm
  have hkk:∀ (q:PageD) (tl:List PageD),KidsAt (fun i lo hi L J=>TreeAt (ps1.set id q++tl) d i lo hi false L J) (insAt ids (downK seps x+1) nid) (insAt seps (downK seps x) m) lo hi (La++(L1++L2)++Lb) (Ia++(I1++I2)++Ib):=fun q tl=>
   (i9 (fun i lo hi L J=>TreeAt (ps1.set id q++tl) d i lo hi false L J) (fun i lo hi L J hJ hT=>hother _ _ i lo hi L J hJ hT)).2 m nid L1 L2 I1 I2 (hch _ _ _ _ _ _ _ (fun j hj=>hI12 j (by simp[hj])) hT1) (hch _ _ _ _ _ _ _ (fun j hj=>hI12 j (by simp[hj])) hT2)
  have hIall:∀ i∈Ia++(I1++I2)++Ib,i<398:=fun i hi=>by
   rw[List.append_assoc,qU,qU] at hi
   rcases hi with h|h|h
   ·have:=hltall i (by simp[h]);omega
   ·have:=(hI12 i h).2;omega
   ·have:=hltall i (by simp[h]);omega
  have hil:(insAt ids (downK seps x+1) nid).length=ids.length+1:=insAt_length _ _ _
  generalize hids:insAt ids (downK seps x+1) nid=ids' at *
  generalize hseps:insAt seps (downK seps x) m=seps' at *
  have hpermI:∀ y,(Ia++(I1++I2)++Ib).count y=(Ia++Ik++Ib).count y+(List.range' ps.length (ps1.length - ps.length)).count y:=fun y=>by
   have:=hperm.count_eq y
   simp only[List.count_append] at this ⊢
   omega
  by_cases h4:ids'.length≤4
  ·have hkk0:=hkk (branchN ids' seps') []
   rw[List.append_nil] at hkk0
   have hpg:isPB (branchN ids' seps')=true:=isPB_kids hkk0 hh (by omega) h4 hIall
   refine⟨by trivial,⟨ps1,rfl,hle⟩,fun h=>by omega,ps1.set id (branchN ids' seps'),by simpa using hle,fun i hi hni2=>?_,.inl ⟨?_,id::(Ia++(I1++I2)++Ib),?_,?_⟩⟩
   ·rw[List.getElem?_set_ne (fun e=>hni2 (by simp[e]))]
    exact hfr i hi (fun e=>hni2 (by simp[e]))
   ·unfold putBranchR
    rw[if_pos (by simpa using h4)]
    have:=set_mk (show id<ps1.length by omega) hpg
    unfold branchN at this ⊢
    rw[this]
   ·rw[hmid,← hL]
    exact node_done hid hle (by omega) h4 hkk0
   ·refine perm_of fun y=>?_
    have:=hpermI y
    simp only[List.length_set,List.count_append,List.count_cons] at this ⊢
    omega
  ·have h5:ids'.length=5:=by omega
   obtain⟨m3,La',Lb',Ia',Ib',hm3,-,-,-,-⟩:=kids_split (hkk noPage []) 2 (by omega)
   have hB2:=fun q tl=>kids_split (hkk q tl) 2 (by omega)
   obtain⟨f1,f2,f3,f4⟩:=kids_fit (fun id lo hi L I h=>tree_fits d id lo hi false L I h) (hkk noPage [])
   have hsl:seps'.length=4:=by omega
   -- both halves,of whatever lies on the page
   have hsplit:∀ q tl,∃ L1' L2' I1' I2',KidsAt (fun i lo hi L J=>TreeAt (ps1.set id q++tl) d i lo hi false L J) (ids'.take 3) (seps'.take 2) lo m3 L1' I1'∧KidsAt (fun i lo hi L J=>TreeAt (ps1.set id q++tl) d i lo hi false L J) (ids'.drop 3) (seps'.drop 3) m3 hi L2' I2'∧La++(L1++L2)++Lb=L1'++L2'∧Ia++(I1++I2)++Ib=I1'++I2':=fun q tl=>by
    obtain⟨m',L1',L2',I1',I2',e,a1,a2,a3,a4⟩:=hB2 q tl
    rw[hm3] at e
    cases e
    exact⟨L1',L2',I1',I2',a1,a2,a3,a4⟩
   have hm256:m3<hi:=(f3 m3 (List.mem_of_getElem? hm3)).2
   have hpgA:isPB (branchN (ids'.take 3) (seps'.take 2))=true:=by
    obtain⟨L1',L2',I1',I2',a1,a2,a3,a4⟩:=hsplit noPage []
    exact isPB_kids a1 (by omega) (by simp;omega) (by simp;omega) (fun i hi=>hIall i (by rw[a4];simp[hi]))
   have hpgB:isPB (branchN (ids'.drop 3) (seps'.drop 3))=true:=by
    obtain⟨L1',L2',I1',I2',a1,a2,a3,a4⟩:=hsplit noPage []
    exact isPB_kids a2 hh (by simp;omega) (by simp;omega) (fun i hi=>hIall i (by rw[a4];simp[hi]))
   have ek1:(keysN seps').take 3=keysN (seps'.take 2):=keysN_take _ _
   have ek2:(⟨#[]⟩:ByteArray)::(keysN seps').drop 4=keysN (seps'.drop 3):=by simp[keysN,List.map_drop]
   have ek3:(keysN seps').getD 3 ⟨#[]⟩=key2 m3:=by simp[keysN,List.getD,hm3]
   rw[h5,show (5+1) / 2=3 from rfl]
   refine⟨by trivial,⟨ps1,rfl,hle⟩,fun _=>?_,?_⟩
   ·rw[ek1,← List.map_take]
    exact hpgA
   obtain⟨L1',L2',I1',I2',a1,a2,a3,a4⟩:=hsplit (branchN (ids'.take 3) (seps'.take 2)) [branchN (ids'.drop 3) (seps'.drop 3)]
   refine⟨ps1.set id (branchN (ids'.take 3) (seps'.take 2))++[branchN (ids'.drop 3) (seps'.drop 3)],by simp;omega,fun i hi hni2=>?_,.inr ⟨m3,ps1.length,L1',L2',id::I1',ps1.length::I2',?_,?_,?_,?_,?_,by simp⟩⟩
   ·rw[List.getElem?_append_left (by simp;omega),List.getElem?_set_ne (fun e=>hni2 (by simp[e]))]
    exact hfr i hi (fun e=>hni2 (by simp[e]))
   ·unfold putBranchR
    rw[if_neg (by simp;omega)]
    simp only[List.length_map,h5,show (5+1) / 2=3 from rfl]
    rw[ek1,ek2,ek3,← List.map_take,← List.map_drop]
    have e1:=set_mk (show id<ps1.length by omega) hpgA
    have e2:=add_mk (ps:=ps1.set id (branchN (ids'.take 3) (seps'.take 2))) hpgB (by simp;omega)
    unfold branchN at e1 e2 ⊢
    rw[e1]
    simp only
    rw[e2]
    simp
   ·exact⟨_,_,I1',by rw[List.getElem?_append_left (by simp;omega)];simp[show id<ps1.length by omega],rfl,a1,by simp;omega,by simp;omega⟩
   ·exact⟨_,_,I2',by rw[List.getElem?_append_right (by simp)];simp,rfl,a2,by simp;omega,by simp;omega⟩
   ·rw[hmid,← hL,a3]
   ·refine perm_of fun y=>?_
    have:=hpermI y
    rw[a4] at this
    have er:(ps1.set id (branchN (ids'.take 3) (seps'.take 2))++[branchN (ids'.drop 3) (seps'.drop 3)]).length - ps.length=(ps1.length - ps.length)+1:=by simp;omega
    have ec:(List.range' ps.length ((ps1.length - ps.length)+1)).count y=(List.range' ps.length (ps1.length - ps.length)).count y+if ps1.length=y then 1 else 0:=by
     rw[List.range'_1_concat,List.count_append,List.count_singleton,show ps.length+(ps1.length - ps.length)=ps1.length by omega]
     simp
    rw[er]
    simp only[List.count_append,List.count_cons] at this ⊢
    rw[ec]
    have eb:(ps1.length==y)=decide (ps1.length=y):=by rw[Bool.eq_iff_iff];simp
    simp only[eb,decide_eq_true_eq]
    omega
theorem put_num {x:Nat}:∀ (d f:Nat) {ps:List PageD} {id lo hi:Nat} {top:Bool} {L I:List Nat},d<f→TreeAt ps d id lo hi top L I→lo≤x→x<hi→hi≤256→I.Nodup→(∀ i∈I,i<ps.length)→ps.length+L.length≤119+I.length→PutOk ps d id lo hi top L I x (putR f (mkS ps) (num id) (it2 x))
 | _,0,_,_,_,_,_,_,_,hf,_,_,_,_,_,_,_=>absurd hf (by omega)
 | 0,f+1,_,_,_,_,_,_,_,_,h,h1,h2,hh,_,_,hn=>(putLeaf_num h h1 h2 hh hn f).1
 | d+1,f+1,ps,id,lo,hi,top,L,I,hf,h,h1,h2,hh,hnd,hlt,hn=>by
   obtain⟨ids,seps,hp,hk2,hk4,hlen,hri,h256,hdk,lo',hi',Lk,Ik,c1,c2,c3,c4,c5,c6,c7,c8⟩:=putNode_num h h1 h2 hh hnd hlt hn
   have ih:=put_num d f (by omega) c1 c2 c3 c4 c5 c6 c7
   have h3:=(c8 _ ih).2.2.2
   simp only[putR]
   rw[page_num hp,if_neg (by simp[branchN,branchP])]
   have e1:downN (branchN ids seps).keys (it2 x).key (branchN ids seps).keys.length=downK seps x:=downN_num hri h256 (by omega)
   have e2:(branchN ids seps).kids.getD (downK seps x) 0=num (ids.getD (downK seps x) 0):=by simp[branchN,branchP,List.getD,hdk]
   rw[e1,e2]
   exact h3
end
section
open Go
def putRootR (s:RSt) (root:Int) (x:ItemD) (f:Nat):(Int × Int) × RSt:=
 if root=0 then (((addR s (leafP [x])).1,(addR s (leafP [x])).2.1),(addR s (leafP [x])).2.2)
 else if (putR f s root x).1.2.2.2≠0∨(putR f s root x).1.2.1=0 then (((putR f s root x).1.1,(putR f s root x).1.2.2.2),(putR f s root x).2)
 else (((addR (putR f s root x).2 (branchP [⟨#[]⟩,(putR f s root x).1.2.2.1] [(putR f s root x).1.1,(putR f s root x).1.2.1])).1,(addR (putR f s root x).2 (branchP [⟨#[]⟩,(putR f s root x).1.2.2.1] [(putR f s root x).1.1,(putR f s root x).1.2.1])).2.1),(addR (putR f s root x).2 (branchP [⟨#[]⟩,(putR f s root x).1.2.2.1] [(putR f s root x).1.1,(putR f s root x).1.2.1])).2.2)
def RootAt (ps:List PageD) (root:Int) (L:List Nat):Prop:=
 (root=0∧ps=[]∧L=[])∨∃ d id I,root=num id∧TreeAt ps d id 0 256 true L I∧I.Perm (List.range ps.length)
theorem RootAt.fits {ps:List PageD} {root:Int} {L:List Nat} (h:RootAt ps root L):Ri L∧(∀ x∈L,x<256)∧ps.length≤L.length:=by
 rcases h with ⟨_,rfl,rfl⟩|⟨d,id,I,_,h,hp⟩
 ·exact⟨List.Pairwise.nil,by simp,Nat.le_refl _⟩
 ·obtain⟨_,f1,f2⟩:=tree_fits _ _ _ _ _ _ _ h
  have:=tree_count_top h
  have h2:=hp.length_eq
  simp only[List.length_range] at h2
  exact⟨f2,fun x hx=>(f1 x hx).2,by omega⟩
theorem perm_range {a:List Nat} {n m:Nat} (h:a.Perm (List.range n++List.range' n (m - n))) (hm:n≤m):a.Perm (List.range m):=by
 have:List.range m=List.range n++List.range' n (m - n):=by
  rw[List.range_eq_range',List.range_eq_range']
  have h1:=List.range'_append_1 (s:=0) (m:=n) (n:=m - n)
  rw[Nat.zero_add,show n+(m - n)=m by omega] at h1
  exact h1.symm
 rw[this]
 exact h
theorem root_mem {ps:List PageD} {I:List Nat} (hp:I.Perm (List.range ps.length)):I.Nodup∧∀ i∈I,i<ps.length:=
 ⟨hp.nodup_iff.2 List.nodup_range,fun _ hi=>List.mem_range.1 (hp.mem_iff.1 hi)⟩
theorem putRoot_num {ps:List PageD} {root:Int} {L:List Nat} {x f:Nat} (h:RootAt ps root L) (hx:x<256) (hl:L.length≤119) (hf:8≤f) :
  ∃ ps' root',putRootR (mkS ps) root (it2 x) f=((root',0),mkS ps')∧RootAt ps' root' (insN L x):=by
 rcases h with ⟨rfl,rfl,rfl⟩|⟨d,id,I,rfl,h,hp⟩
 ·have hl:isPB (leafP [it2 x])=true:=isPB_leafN (l:=[x]) (List.pairwise_singleton _ _) (fun y hy=>by simp at hy;omega) (by simp) (by simp)
  refine⟨[leafN [x]],num 0,?_,.inr ⟨0,0,[0],rfl,⟨by simp[insN],rfl,?_,fun y hy=>?_,by simp[insN],by simp[insN],by simp⟩,by simp⟩⟩
  ·unfold putRootR
   rw[if_pos rfl,add_mk hl (by simp)]
   rfl
  ·simp[insN,Ri]
  ·simp[insN] at hy;omega
 ·obtain⟨hnd,hlt⟩:=root_mem hp
  have hIl:=hp.length_eq
  simp only[List.length_range] at hIl
  have hd:=tree_depth h (by omega)
  obtain⟨ps',hle,_,hcase⟩:=put_num (x:=x) d f (by omega) h (Nat.zero_le _) hx qL hnd hlt (by omega)
  have hroot:¬ num id=0:=by unfold num;omega
  unfold putRootR
  rw[if_neg hroot]
  rcases hcase with ⟨e,I',hT,hperm⟩|⟨m,nid,L1,L2,I1,I2,e,hT1,hT2,hL,hperm,hnid⟩
  ·rw[e,if_pos (.inr rfl)]
   exact⟨ps',num id,rfl,.inr ⟨d,id,I',rfl,hT,perm_range (hperm.trans (hp.append_right _)) hle⟩⟩
  ·have hfr:Fits 0 256 (insN L x):=by
    obtain⟨_,f1,f2⟩:=tree_fits _ _ _ _ _ _ _ h
    exact⟨by unfold insN;simp,fun y hy=>by rcases mem_insN.1 hy with rfl|hy;exact⟨Nat.zero_le _,hx⟩;exact f1 y hy,insN_ri f2⟩
   have hperm2:=perm_range (hperm.trans (hp.append_right _)) hle
   have hc1:=tree_count d _ _ _ _ _ hT1
   have hc2:=tree_count d _ _ _ _ _ hT2
   have hpl:=hperm2.length_eq
   have hLl:=congrArg List.length hL
   have hil:=insN_length (x:=x) (RootAt.fits (.inr ⟨d,id,I,rfl,h,hp⟩)).1
   have hil2:(insN L x).length≤L.length+1:=by rw[hil];split<;>omega
   simp only[qO,List.length_range] at hpl hLl
   obtain⟨_,hlt2⟩:=root_mem hperm2
   have hmne:¬ num nid=0:=by unfold num;omega
   rw[e,if_neg (by simp[hmne])]
   have hid1:id∈I1:=tree_here hT1
   have hnd1:nid∈I2:=tree_here hT2
   have hf1:=(tree_fits _ _ _ _ _ _ _ hT1).lt
   have hf2:=(tree_fits _ _ _ _ _ _ _ hT2).lt
   have hpg:isPB (branchP [⟨#[]⟩,key2 m] [num id,num nid])=true:=isPB_branchN (ids:=[id,nid]) (seps:=[m]) (List.pairwise_singleton _ _) (fun y hy=>by simp at hy;omega) rfl (by simp) (by simp) (fun i hi=>by
    simp only[List.mem_cons,List.not_mem_nil,or_false] at hi
    rcases hi with rfl|rfl
    ·have:=hlt2 _ (List.mem_append.2 (.inl hid1));omega
    ·have:=hlt2 _ (List.mem_append.2 (.inr hnd1));omega)
   simp only
   rw[add_mk hpg (by omega)]
   refine⟨ps'++[branchN [id,nid] [m]],num ps'.length,rfl,.inr ⟨d+1,ps'.length,ps'.length::(I1++I2),rfl,?_,?_⟩⟩
   ·have hfrm:∀ (i lo hi:Nat) (L J:List Nat),(∀ j∈J,j∈I1++I2)→TreeAt ps' d i lo hi false L J→TreeAt (ps'++[branchN [id,nid] [m]]) d i lo hi false L J:=fun i lo hi L J hJ=>tree_frame d i lo hi false L J fun j hj=>by rw[List.getElem?_append_left (hlt2 j (hJ j hj))]
    rw[← hL]
    exact⟨[id,nid],[m],I1++I2,by simp,rfl,.cons (hfrm _ _ _ _ _ (fun j hj=>List.mem_append.2 (.inl hj)) hT1) (.one (hfrm _ _ _ _ _ (fun j hj=>List.mem_append.2 (.inr hj)) hT2)),by simp,by simp⟩
   ·rw[qO,qV,List.length_nil,Nat.zero_add,List.range_succ]
    exact (List.Perm.cons _ hperm2).trans (List.perm_append_comm (l₁:=[ps'.length]))
def growR (keys:List Nat):Nat→RSt × Int
 | 0=>(mkS [],0)
 | k+1=>
   let r:=putRootR (growR keys k).1 (growR keys k).2 (it2 (keys.getD k 0)) 8
   (r.2,if r.1.2=0 then r.1.1 else (growR keys k).2)
def setN (keys:List Nat):Nat→List Nat
 | 0=>[]
 | k+1=>insN (setN keys k) (keys.getD k 0)
theorem mem_setN (keys:List Nat):∀ k,k≤keys.length→∀ y,y∈setN keys k↔y∈keys.take k
 | 0,_,y=>by simp[setN]
 | k+1,hk,y=>by
   have hlt:k<keys.length:=by omega
   rw[setN,mem_insN,mem_setN keys k (by omega),all_take hlt,qU]
   simp[List.getD,hlt]
   constructor
   ·rintro (h|h)
    ·exact .inr h
    ·exact .inl h
   ·rintro (h|h)
    ·exact .inr h
    ·exact .inl h
theorem setN_ri (keys:List Nat):∀ k,Ri (setN keys k)
 | 0=>List.Pairwise.nil
 | k+1=>insN_ri (setN_ri keys k)
theorem setN_length (keys:List Nat):∀ k,(setN keys k).length≤k
 | 0=>Nat.le_refl _
 | k+1=>by
   have:=setN_length keys k
   have h:=insN_length (x:=keys.getD k 0) (setN_ri keys k)
   rw[setN,h]
   split<;>omega
end
section
open Go.RowKit
def NumP (p:PageD):Prop:=((∃ l,p=leafN l∧Ri l∧(∀ y∈l,y<256)∧1≤l.length∧l.length≤4)∨∃ ids seps,p=branchN ids seps)∧isPB p=true
theorem NumP.txn {p:PageD} (h:NumP p):TxnOk p:=by
 rcases h.1 with ⟨l,rfl,_⟩|⟨ids,seps,rfl⟩
 ·exact leaf_txnA _
 ·exact⟨by simp[branchN,branchP,noPage],by simp[branchN,branchP,noPage]⟩
theorem NumP.free {p:PageD} (h:NumP p):p.free=[]:=by
 rcases h.1 with ⟨l,rfl,_⟩|⟨ids,seps,rfl⟩<;>rfl
theorem tree_pages {ps:List PageD}:∀ (d id lo hi:Nat) (top:Bool) (L I:List Nat),TreeAt ps d id lo hi top L I→hi≤256→(∀ i∈I,i<398)→∀ i∈I,∃ p,ps[i]?=some p∧NumP p
 | 0,id,lo,hi,top,L,I,h,hh,_,i,hi2=>by
   obtain⟨h1,rfl,h2,h3,h4,h5,_⟩:=h
   simp only[List.mem_cons,List.not_mem_nil,or_false] at hi2
   subst hi2
   have h256:∀ y∈L,y<256:=fun y hy=>by have:=h3 y hy;omega
   exact⟨_,h1,.inl ⟨L,rfl,h2,h256,h4,h5⟩,isPB_leafN h2 h256 h4 h5⟩
 | d+1,id,lo,hi,top,L,I,h,hh,hI,i,hi2=>by
   obtain⟨ids,seps,I',h1,rfl,hk,k2,k4⟩:=h
   rcases List.mem_cons.1 hi2 with rfl|hi2
   ·exact⟨_,h1,.inr ⟨ids,seps,rfl⟩,isPB_kids hk hh k2 k4 (fun j hj=>hI j (List.mem_cons.2 (.inr hj)))⟩
   ·have hgo:∀ {ids seps:List Nat} {lo hi:Nat} {L J:List Nat},KidsAt (fun id lo hi L I=>TreeAt ps d id lo hi false L I) ids seps lo hi L J→hi≤256→(∀ j∈J,j<398)→∀ i∈J,∃ p,ps[i]?=some p∧NumP p:=by
     intro ids seps lo hi L J hk
     induction hk using KidsAt.ind with
     | one h=>exact fun hh hJ i hi=>tree_pages d _ _ _ _ _ _ h hh hJ i hi
     | cons h hk2 ih=>
       intro hh hJ i hi
       have hm:=Fits.lt (kids_fit (fun id lo hi L I h=>tree_fits d id lo hi false L I h) hk2).1
       rcases List.mem_append.1 hi with hi|hi
       ·exact tree_pages d _ _ _ _ _ _ h (by omega) (fun j hj=>hJ j (List.mem_append.2 (.inl hj))) i hi
       ·exact ih hh (fun j hj=>hJ j (List.mem_append.2 (.inr hj))) i hi
    exact hgo hk hh (fun j hj=>hI j (List.mem_cons.2 (.inr hj))) i hi2
theorem RootAt.page {ps:List PageD} {root:Int} {L:List Nat} (h:RootAt ps root L) (hl:L.length≤120) {k:Nat} (hk:k<ps.length):NumP ps[k]:=by
 have hf:=h.fits
 rcases h with ⟨_,rfl,_⟩|⟨d,id,I,_,hT,hp⟩
 ·simp at hk
 ·obtain⟨p,h1,h2⟩:=tree_pages d id 0 256 true L I hT qL (fun i hi=>by
   have:=(root_mem hp).2 i hi
   omega) k (hp.mem_iff.2 (List.mem_range.2 hk))
  rw[List.getElem?_eq_getElem hk] at h1
  simp only[qQ] at h1
  rw[h1]
  exact h2
end
end Go.Proofs.YtbghhklbfnplbaaGreat

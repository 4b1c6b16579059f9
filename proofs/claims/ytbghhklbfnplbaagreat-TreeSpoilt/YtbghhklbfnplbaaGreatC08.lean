import Derived.Test.YtbghhklbfnplbaaGreatC00
import Derived.Test.YtbghhklbfnplbaaGreatC07
set_option maxHeartbeats 2000000
namespace Go.Proofs.YtbghhklbfnplbaaGreat
section
open Go.RowKit Go.Sort
theorem partBytes_any (p:PageD) (vi vk vd vv vf:Value) (w:World) (ha:Hangs w p vi vk vd vv vf) (hp:PartOk p) :
  Calls Tryz.prog 137 #[.agg (pageCells p vi vk vd vv vf).toArray] w fun e w'=>e=.returned (.string (bs (partD p)))∧Below w.heap.size w w':=by
 have HLE:=hid (partD_le p hp)
 obtain⟨k1,i1,y1,d1,t1,v1,f1,n1,⟨x1,⟨g1,c1,q1⟩,r1,l1⟩⟩:=p
 have HA:Hid (∀ W,Below w.heap.size w W→Hangs W ⟨k1,i1,y1,d1,t1,v1,f1,n1,⟨x1,⟨g1,c1,q1⟩,r1,l1⟩⟩ vi vk vd vv vf):=fun W hW=>ha.below hW
 have HP:=hid hp
 clear ha hp
 have hb1:Below w.heap.size w (w.alloc (.cells #[.int .i64 k1,vi,vk,vd,.string t1,vv,vf,.int .i64 n1,.int .u64 x1,.int .i64 g1,.int .i64 c1,.int .i64 q1,.int .i64 r1,.int .i64 l1] 59)):=(qB _ _).alloc qL _
 show Calls Tryz.prog _ #[.agg #[.int .i64 k1,vi,vk,vd,.string t1,vv,vf,.int .i64 n1,.int .u64 x1,.int .i64 g1,.int .i64 c1,.int .i64 q1,.int .i64 r1,.int .i64 l1]] w _
 by_cases h1:k1=1
 ·subst h1
  obtain⟨e1,e2⟩:=HP.out.items rfl
  go_enter Tryz.func137,Tryz.ntmps137
  go_wp2_with (go_at_call 145;refine (listItems_any i1 _ _ (HA.out _ hb1).items e2 e1).mono ?_;rintro e w2 ⟨rfl,hb2⟩)
  go_ret
  exact⟨ret_str (by simp[partD]),below_box hb2⟩
 by_cases h2:k1=2
 ·subst h2
  obtain⟨e1,e2,e3⟩:=HP.out.kids rfl
  go_enter Tryz.func137,Tryz.ntmps137
  go_wp2_with (go_at_call 147;refine (kidBytes_any y1 d1 _ _ _ (HA.out _ hb1).keys (HA.out _ hb1).kids e1 e3 e2).mono ?_;rintro e w2 ⟨rfl,hb2⟩)
  go_ret
  exact⟨ret_str (by simp[partD]),below_box hb2⟩
 by_cases h3:k1=3
 ·subst h3
  have e1:=HP.out.text rfl
  have HE:=hid e1
  clear e1
  go_enter Tryz.func137,Tryz.ntmps137
  go_wp2_with (go_at_call 148;refine (ptext_any _ _ HE.out).mono ?_;rintro e w2 ⟨rfl,hb2⟩)
  go_ret
  exact⟨ret_str (by simp[partD]),below_box hb2⟩
 by_cases h4:k1=4
 ·subst h4
  obtain⟨e1,e2⟩:=HP.out.vals rfl
  go_enter Tryz.func137,Tryz.ntmps137
  go_wp2_with (go_at_call 149;refine (listTexts_any v1 _ _ (HA.out _ hb1).vals e2 e1).mono ?_;rintro e w2 ⟨rfl,hb2⟩)
  go_ret
  exact⟨ret_str (by simp[partD]),below_box hb2⟩
 by_cases h5:k1=5
 ·subst h5
  obtain⟨e1,e2⟩:=HP.out.free rfl
  have z1:=bs_size (listB freeBytesD f1)
  have z2:=listB_le freeBytesD 8016 f1 (fun x hx=>freeBytesD_le x (e2 x hx))
  simp only at e1
  have z3:=(bs_size (numB n1)).trans (numB_length n1)
  have hXr:=rangeNew w (pageCells ⟨5,i1,y1,d1,t1,v1,f1,n1,⟨x1,⟨g1,c1,q1⟩,r1,l1⟩⟩ vi vk vd vv vf) 59
  have hXs:w.heap.size<(w.alloc (.cells #[.int .i64 5,vi,vk,vd,.string t1,vv,vf,.int .i64 n1,.int .u64 x1,.int .i64 g1,.int .i64 c1,.int .i64 q1,.int .i64 r1,.int .i64 l1] 59)).heap.size:=by simp
  have hl2:=fun d os=>range14 (range_below hXr (below_regrown (w.alloc (.cells #[.int .i64 5,vi,vk,vd,.string t1,vv,vf,.int .i64 n1,.int .u64 x1,.int .i64 g1,.int .i64 c1,.int .i64 q1,.int .i64 r1,.int .i64 l1] 59)) d os) hXs)
  simp only[Nat.zero_add] at hl2
  have HLF:Hid (∀ d os,Calls Tryz.prog 150 #[vf,.func (.func 151) #[] #[]] (grow (redrawn (w.alloc (.cells #[.int .i64 5,vi,vk,vd,.string t1,vv,vf,.int .i64 n1,.int .u64 x1,.int .i64 g1,.int .i64 c1,.int .i64 q1,.int .i64 r1,.int .i64 l1] 59)) d) os) fun e w''=>e=.returned (.string (bs (listB freeBytesD f1)))∧∃ p:Regrown,w''=grow (redrawn (w.alloc (.cells #[.int .i64 5,vi,vk,vd,.string t1,vv,vf,.int .i64 n1,.int .u64 x1,.int .i64 g1,.int .i64 c1,.int .i64 q1,.int .i64 r1,.int .i64 l1] 59)) p.d) p.os):=fun d os=>
   Calls.regrown_of (listFrees_any f1 _ _ (HA.out _ (hb1.trans ((below_regrown _ d os).mono hb1.size))).free e2 e1)
  have HN:=hid (pnum_regrown (w.alloc (.cells #[.int .i64 5,vi,vk,vd,.string t1,vv,vf,.int .i64 n1,.int .u64 x1,.int .i64 g1,.int .i64 c1,.int .i64 q1,.int .i64 r1,.int .i64 l1] 59)))
  go_enter Tryz.func137,Tryz.ntmps137
  go_wp2_with fail
  clear hXr HA
  generalize (w.alloc (.cells #[.int .i64 5,vi,vk,vd,.string t1,vv,vf,.int .i64 n1,.int .u64 x1,.int .i64 g1,.int .i64 c1,.int .i64 q1,.int .i64 r1,.int .i64 l1] 59))=X at *
  refine wp_region_quiet_below (by kernel_rfl) (by kernel_rfl) ?_
  repeat (go_big_quiet_step (first|exact HLF.out _ _|exact HN.out _ _ _))
  refine wpQuiet_nil ?_
  intro _ hw'
  obtain⟨⟨dq,osq⟩,hw''⟩:=hw'
  subst hw''
  clear hl2
  go_wp2
  go_ret
  exact⟨ret_str (by simp[partD,bs_append]),hb1.trans ((below_regrown X dq osq).mono hb1.size)⟩
 ·have e1:(k1==1)=false:=by simpa using h1
  have e2:(k1==2)=false:=by simpa using h2
  have e3:(k1==3)=false:=by simpa using h3
  have e4:(k1==4)=false:=by simpa using h4
  have e5:(k1==5)=false:=by simpa using h5
  obtain⟨ht0,ht1⟩:=HP.out.txn
  simp only at ht0 ht1
  have z1:(bs (lowB x1 8)).size=8:=by rw[bs_size,lowB_length]
  have z2:(bs (rootBytesD ⟨g1,c1,q1⟩)).size=24:=by rw[bs_size,rootBytesD_length]
  have z3:=fun n=>(bs_size (numB n)).trans (numB_length n)
  have hb2:Below w.heap.size w ((w.alloc (.cells #[.int .i64 k1,vi,vk,vd,.string t1,vv,vf,.int .i64 n1,.int .u64 x1,.int .i64 g1,.int .i64 c1,.int .i64 q1,.int .i64 r1,.int .i64 l1] 59)).alloc (.cells #[.int .u64 x1,.int .i64 g1,.int .i64 c1,.int .i64 q1,.int .i64 r1,.int .i64 l1] 57)):=hb1.alloc (by simp) _
  have hXr:=rangeNew (w.alloc (.cells #[.int .i64 k1,vi,vk,vd,.string t1,vv,vf,.int .i64 n1,.int .u64 x1,.int .i64 g1,.int .i64 c1,.int .i64 q1,.int .i64 r1,.int .i64 l1] 59)) [.int .u64 x1,.int .i64 g1,.int .i64 c1,.int .i64 q1,.int .i64 r1,.int .i64 l1] 57
  have hsz:(w.alloc (.cells #[.int .i64 k1,vi,vk,vd,.string t1,vv,vf,.int .i64 n1,.int .u64 x1,.int .i64 g1,.int .i64 c1,.int .i64 q1,.int .i64 r1,.int .i64 l1] 59)).heap.size=w.heap.size+1:=by simp
  rw[hsz] at hXr
  have hXs:w.heap.size+1<((w.alloc (.cells #[.int .i64 k1,vi,vk,vd,.string t1,vv,vf,.int .i64 n1,.int .u64 x1,.int .i64 g1,.int .i64 c1,.int .i64 q1,.int .i64 r1,.int .i64 l1] 59)).alloc (.cells #[.int .u64 x1,.int .i64 g1,.int .i64 c1,.int .i64 q1,.int .i64 r1,.int .i64 l1] 57)).heap.size:=by simp
  have hl:=fun d os=>range_below hXr (below_regrown ((w.alloc (.cells #[.int .i64 k1,vi,vk,vd,.string t1,vv,vf,.int .i64 n1,.int .u64 x1,.int .i64 g1,.int .i64 c1,.int .i64 q1,.int .i64 r1,.int .i64 l1] 59)).alloc (.cells #[.int .u64 x1,.int .i64 g1,.int .i64 c1,.int .i64 q1,.int .i64 r1,.int .i64 l1] 57)) d os) hXs
  have hl0:=fun d os=>(hl d os) 0 _ rfl
  have hl1:=fun d os=>(hl d os) 1 _ rfl
  have hl2:=fun d os=>(hl d os) 2 _ rfl
  have hl3:=fun d os=>(hl d os) 3 _ rfl
  have hl4:=fun d os=>(hl d os) 4 _ rfl
  have hl5:=fun d os=>(hl d os) 5 _ rfl
  simp only[Nat.zero_add] at hl0 hl1 hl2 hl3 hl4 hl5
  clear hXr hl HA
  go_enter Tryz.func137,Tryz.ntmps137
  go_wp2_with fail
  generalize ((w.alloc (.cells #[.int .i64 k1,vi,vk,vd,.string t1,vv,vf,.int .i64 n1,.int .u64 x1,.int .i64 g1,.int .i64 c1,.int .i64 q1,.int .i64 r1,.int .i64 l1] 59)).alloc (.cells #[.int .u64 x1,.int .i64 g1,.int .i64 c1,.int .i64 q1,.int .i64 r1,.int .i64 l1] 57))=X at *
  have HN:=hid (pnum_regrown X)
  have HU:Hid (∀ d os,Calls Tryz.prog 138 #[.int .u64 x1] (grow (redrawn X d) os) fun e w''=>e=.returned (.string (bs (lowB x1 8)))∧∃ p:Regrown,w''=grow (redrawn X p.d) p.os):=fun d os=>Calls.regrown_of (num_any x1 _ ht0 ht1)
  have HRO:Hid (∀ d os,Calls Tryz.prog 152 #[.agg #[.int .i64 g1,.int .i64 c1,.int .i64 q1]] (grow (redrawn X d) os) fun e w''=>e=.returned (.string (bs (rootBytesD ⟨g1,c1,q1⟩)))∧∃ p:Regrown,w''=grow (redrawn X p.d) p.os):=fun d os=>Calls.regrown_of (rootBytes_any ⟨g1,c1,q1⟩ _)
  refine wp_region_quiet_below (by kernel_rfl) (by kernel_rfl) ?_
  repeat (go_big_quiet_step (first|exact HU.out _ _|exact HRO.out _ _|exact HN.out _ _ _))
  refine wpQuiet_nil ?_
  intro _ hw'
  obtain⟨⟨dq,osq⟩,hw''⟩:=hw'
  subst hw''
  clear hl0 hl1 hl2 hl3 hl4 hl5
  go_wp2
  go_ret
  exact⟨ret_str (by simp[partD,metaD,h1,h2,h3,h4,h5,bs_append]),hb2.trans ((below_regrown X dq osq).mono hb2.size)⟩
end
section
open Go.RowKit Go.Sort
theorem baList_inj {a b:ByteArray} (h:a.toList=b.toList):a=b:=toList_inj' h
theorem sameRoot_iff (a b:RootD):sameRootB a b=true↔a=b:=by
 obtain⟨a1,a2,a3⟩:=a
 obtain⟨b1,b2,b3⟩:=b
 simp[sameRootB]
theorem sameItem_iff (a b:ItemD):sameItemB a b=true↔a=b:=by
 obtain⟨k1,d1,l1,r1,n1,s1,p1,g1⟩:=a
 obtain⟨k2,d2,l2,r2,n2,s2,p2,g2⟩:=b
 have hk:k1.toList=k2.toList↔k1=k2:=⟨baList_inj,fun h=>by rw[h]⟩
 have hl:l1.toList=l2.toList↔l1=l2:=⟨baList_inj,fun h=>by rw[h]⟩
 simp only[sameItemB,qW,beq_iff_eq,decide_eq_true_eq,sameRoot_iff,hk,hl,ItemD.mk.injEq,and_assoc]
theorem sameFree_iff (a b:FreeD):sameFreeB a b=true↔a=b:=by
 obtain⟨a1,a2⟩:=a
 obtain⟨b1,b2⟩:=b
 simp[sameFreeB]
theorem list_ext_getD {α:Type} (l m:List α) (d:α) (hl:l.length=m.length) (h:∀ i,i<l.length→l.getD i d=m.getD i d):l=m:=by
 apply List.ext_getElem hl
 intro i h1 h2
 have:=h i h1
 simpa[h1,h2] using this
theorem sameItems_iff (l m:List ItemD):sameItemsB l m=true↔l=m:=by
 unfold sameItemsB
 rw[qW,decide_eq_true_eq,List.all_eq_true]
 constructor
 ·rintro⟨h1,h2⟩
  refine list_ext_getD l m noItem h1 (fun i hi=>?_)
  exact (sameItem_iff _ _).1 (h2 i (by simpa using hi))
 ·rintro rfl
  exact⟨rfl,fun i _=>(sameItem_iff _ _).2 rfl⟩
theorem sameFrees_iff (l m:List FreeD):sameFreesB l m=true↔l=m:=by
 unfold sameFreesB
 rw[qW,decide_eq_true_eq,List.all_eq_true]
 constructor
 ·rintro⟨h1,h2⟩
  refine list_ext_getD l m ⟨0,[]⟩ h1 (fun i hi=>?_)
  exact (sameFree_iff _ _).1 (h2 i (by simpa using hi))
 ·rintro rfl
  exact⟨rfl,fun i _=>(sameFree_iff _ _).2 rfl⟩
theorem sameMeta_iff (a b:MetaD):sameMetaB a b=true↔a=b:=by
 obtain⟨x1,⟨g1,c1,q1⟩,r1,l1⟩:=a
 obtain⟨x2,⟨g2,c2,q2⟩,r2,l2⟩:=b
 simp[sameMetaB]
theorem sameP_iff (a b:PageD):samePB a b=true↔a=b:=by
 obtain⟨k1,i1,y1,d1,t1,v1,f1,n1,m1⟩:=a
 obtain⟨k2,i2,y2,d2,t2,v2,f2,n2,m2⟩:=b
 have ht:t1.toList=t2.toList↔t1=t2:=⟨baList_inj,fun h=>by rw[h]⟩
 simp only[samePB,qW,beq_iff_eq,decide_eq_true_eq,sameItems_iff,sameFrees_iff,sameMeta_iff,ht,PageD.mk.injEq,and_assoc]
def TxnOk (p:PageD):Prop:=(0≤p.mt.txn∧p.mt.txn<18446744073709551616)∧∀ f∈p.free,0≤f.txn∧f.txn<18446744073709551616
theorem sized_le {s:ByteArray} {a b:Int} (h:sizedB s a b=true):(s.size:Int)≤b:=by simp[sizedB,withinB] at h;omega
theorem rightVals_ok {l:List ByteArray} {a b:Int} (h:rightValsB l a b=true):(l.length:Int)≤b∧∀ x∈l,x.size≤12:=by
 simp only[rightValsB,qW,List.all_eq_true] at h
 refine⟨by have:=h.1.1;simp[withinB] at this;omega,fun x hx=>?_⟩
 have:=sized_le (h.1.2 x hx)
 omega
theorem goodItem_ok {x:ItemD} (h:goodItemB x=true):ItemOk x:=by
 simp only[goodItemB,qW,sameItem_iff] at h
 obtain⟨⟨h1,h2⟩,h3⟩:=h
 have hk:x.key.size≤65535:=by simp[shortB] at h1;omega
 have hz:(⟨#[]⟩:ByteArray).size=0:=rfl
 by_cases c1:x.kind=1
 ·have e:x.vals=[]:=by rw[h3];simp[ownItemD,c1,noItem]
  refine⟨hk,?_,by simp[e],by simp[e]⟩
  simp only[rightItemB,c1,↓reduceIte] at h2
  have:=sized_le h2
  omega
 by_cases c3:x.kind=3
 ·have e:x.val=⟨#[]⟩:=by rw[h3];simp[ownItemD,c3,noItem]
  have hv:x.val.size≤65535:=by rw[e,hz];omega
  simp only[rightItemB,c3] at h2
  simp at h2
  by_cases hd:x.dup=0
  ·simp only[hd,↓reduceIte] at h2
   obtain⟨a,b⟩:=rightVals_ok h2
   exact⟨hk,hv,by omega,fun y hy=>by have:=b y hy;omega⟩
  ·simp only[hd,↓reduceIte] at h2
   have e2:x.vals=[]:=by simpa using h2.2
   exact⟨hk,hv,by simp[e2],by simp[e2]⟩
 ·have e:x.val=⟨#[]⟩∧x.vals=[]:=by
   by_cases c2:x.kind=2
   ·rw[h3];simp[ownItemD,c2,noItem]
   by_cases c4:x.kind=4
   ·rw[h3];simp[ownItemD,c4,noItem]
   ·rw[h3];simp[ownItemD,c1,c2,c3,c4,noItem]
  exact⟨hk,by rw[e.1,hz];omega,by simp[e.2],by simp[e.2]⟩
theorem rightFreeL_ok:∀ (l:List FreeD) (room txn:Int),rightFreeL room txn l=true→0≤room→(l.length:Int)≤room∧∀ f∈l,(f.ids.length:Int)≤room
 | [],_,_,_,h=>⟨by simpa using h,by simp⟩
 | f::r,room,txn,h,h0=>by
   simp only[rightFreeL,qW] at h
   obtain⟨⟨⟨⟨h1,_⟩,_⟩,_⟩,h5⟩:=h
   simp[withinB] at h1
   obtain⟨a,b⟩:=rightFreeL_ok r _ _ h5 (by omega)
   refine⟨by simp;omega,fun g hg=>?_⟩
   rcases List.mem_cons.1 hg with rfl|hg
   ·omega
   ·have:=b g hg
    omega
theorem partOk_of_is {p:PageD} (hi:isPB p=true) (ht:TxnOk p):PartOk p:=by
 simp only[isPB,qW] at hi
 have hr:=hi.1
 refine⟨fun h=>?_,fun h=>?_,fun h=>?_,fun h=>?_,fun h=>?_,ht.1⟩
 ·simp only[rightB,h,↓reduceIte,rightItemsB,qW,List.all_eq_true] at hr
  refine⟨by have:=hr.1.1;simp[withinB] at this;omega,fun x hx=>goodItem_ok (hr.1.2 x hx)⟩
 ·simp only[rightB,h] at hr
  simp[rightKidsB] at hr
  obtain⟨⟨⟨⟨⟨h1,h2⟩,h3⟩,h4⟩,_⟩,_⟩:=hr
  refine⟨h2,by simp[withinB] at h1;omega,fun x hx=>?_⟩
  cases hk:p.keys with
  | nil=>rw[hk] at hx;simp at hx
  | cons y r=>
    rw[hk] at hx h3 h4
    rcases List.mem_cons.1 hx with rfl|hx
    ·simp at h3
     have e1:x.data.toList.length=0:=by rw[← ByteArray.toList_eq,h3];rfl
     have e2:x.size=x.data.toList.length:=by simp
     omega
    ·have:=h4 x (by simpa using hx)
     simp[shortB] at this
     omega
 ·simp only[rightB,h] at hr
  simp at hr
  have:=sized_le hr
  omega
 ·simp only[rightB,h] at hr
  simp at hr
  obtain⟨a,b⟩:=rightVals_ok hr
  exact⟨by omega,fun y hy=>by have:=b y hy;omega⟩
 ·simp only[rightB,h] at hr
  simp at hr
  obtain⟨a,b⟩:=rightFreeL_ok p.free 20 0 hr.1 (by omega)
  exact⟨by omega,fun f hf=>⟨(ht.2 f hf).1,(ht.2 f hf).2,by have:=b f hf;omega⟩⟩
def bodyD (p:PageD):List UInt8:=numB p.kind++partD p
def bytesD (p:PageD):List UInt8:=if isPB p then lowB (sumN (bodyD p)) 8++bodyD p else []
end
section
open Go.RowKit Go.Sort
theorem sumN_lt (l:List UInt8):sumN l<18446744073709551616:=by
 rcases List.eq_nil_or_concat l with rfl|⟨r,b,rfl⟩
 ·decide
 ·rw[List.concat_eq_append,sumN_snoc]
  exact Nat.mod_lt _ (by omega)
theorem bytes_any (p:PageD) (vi vk vd vv vf:Value) (w:World) (ha:Hangs w p vi vk vd vv vf) (ht:TxnOk p) :
  Calls Tryz.prog 118 #[.agg (pageCells p vi vk vd vv vf).toArray] w fun e w'=>e=.returned (.string (bs (bytesD p)))∧Below w.heap.size w w':=by
 have HA:Hid (∀ W,Below w.heap.size w W→Hangs W p vi vk vd vv vf):=fun W hW=>ha.below hW
 clear ha
 have HIS:Hid (∀ W,Below w.heap.size w W→Calls Tryz.prog 135 #[.agg (pageCells p vi vk vd vv vf).toArray] W fun e w'=>e=.returned (.bool (isPB p))∧Below W.heap.size W w'):=fun W hW=>is_any p _ _ _ _ _ _ (HA.out W hW)
 have HB:Hid (bytesD p=if isPB p then lowB (sumN (bodyD p)) 8++bodyD p else []):=rfl
 have HPB:Hid (isPB p=true→(∀ W,Below w.heap.size w W→Calls Tryz.prog 137 #[.agg (pageCells p vi vk vd vv vf).toArray] W fun e w'=>e=.returned (.string (bs (partD p)))∧Below W.heap.size W w')∧(partD p).length≤70000000000):=fun hi=>⟨fun W hW=>partBytes_any p _ _ _ _ _ _ (HA.out W hW) (partOk_of_is hi ht),partD_le p (partOk_of_is hi ht)⟩
 have HBD:Hid (bodyD p=numB p.kind++partD p):=rfl
 have hXr:=rangeNew w (pageCells p vi vk vd vv vf) 59
 have hX2:=fun (X:World) (h:Below (w.heap.size+1) (w.alloc (.cells (pageCells p vi vk vd vv vf).toArray 59)) X)=>range14 (range_below hXr (h.mono (by simp)) (by simp))
 simp only[Nat.zero_add] at hX2
 generalize bytesD p=RES at *
 generalize isPB p=R1 at *
 generalize bodyD p=BD at *
 generalize partD p=PD at *
 clear HA ht hXr
 obtain⟨k1,i1,y1,d1,t1,v1,f1,n1,⟨x1,⟨g1,c1,q1⟩,r1,l1⟩⟩:=p
 have hb1:Below w.heap.size w (w.alloc (.cells #[.int .i64 k1,vi,vk,vd,.string t1,vv,vf,.int .i64 n1,.int .u64 x1,.int .i64 g1,.int .i64 c1,.int .i64 q1,.int .i64 r1,.int .i64 l1] 59)):=(qB _ _).alloc qL _
 have HIS2:Hid (∀ W,Below w.heap.size w W→Calls Tryz.prog 135 #[.agg #[.int .i64 k1,vi,vk,vd,.string t1,vv,vf,.int .i64 n1,.int .u64 x1,.int .i64 g1,.int .i64 c1,.int .i64 q1,.int .i64 r1,.int .i64 l1]] W fun e w'=>e=.returned (.bool R1)∧Below W.heap.size W w'):=HIS.out
 have HPB2:Hid (R1=true→(∀ W,Below w.heap.size w W→Calls Tryz.prog 137 #[.agg #[.int .i64 k1,vi,vk,vd,.string t1,vv,vf,.int .i64 n1,.int .u64 x1,.int .i64 g1,.int .i64 c1,.int .i64 q1,.int .i64 r1,.int .i64 l1]] W fun e w'=>e=.returned (.string (bs PD))∧Below W.heap.size W w')∧PD.length≤70000000000):=HPB.out
 have hX3:=hid hX2
 simp only at HBD
 show Calls Tryz.prog _ #[.agg #[.int .i64 k1,vi,vk,vd,.string t1,vv,vf,.int .i64 n1,.int .u64 x1,.int .i64 g1,.int .i64 c1,.int .i64 q1,.int .i64 r1,.int .i64 l1]] w _
 clear HIS HPB hX2
 have HSX:Hid ((w.alloc (.cells #[.int .i64 k1,vi,vk,vd,.string t1,vv,vf,.int .i64 n1,.int .u64 x1,.int .i64 g1,.int .i64 c1,.int .i64 q1,.int .i64 r1,.int .i64 l1] 59)).heap.size=w.heap.size+1):=by show _=_;simp
 go_enter Tryz.func118,Tryz.ntmps118
 cases R1
 ·go_wp2_with (go_at_call 135;refine (HIS2.out _ hb1).mono ?_;rintro e w2 ⟨rfl,hb2⟩)
  go_ret
  exact⟨ret_str (by rw[HB.out];rfl),below_box hb2⟩
 ·obtain⟨hpb,hple⟩:=HPB2.out rfl
  go_wp2_with (go_at_call 135;refine (HIS2.out _ hb1).mono ?_;rintro e w2 ⟨rfl,hb2⟩)
  have hl2:=fun d os=>hX3.out _ ((hb2.mono (Nat.le_of_eq HSX.out.symm)).trans ((below_regrown w2 d os).mono (by have:=hb2.size;have:=HSX.out;omega)))
  have hbX:=hb1.trans (hb2.mono hb1.size)
  have HPX:Hid (∀ d os,Calls Tryz.prog 137 #[.agg #[.int .i64 k1,vi,vk,vd,.string t1,vv,vf,.int .i64 n1,.int .u64 x1,.int .i64 g1,.int .i64 c1,.int .i64 q1,.int .i64 r1,.int .i64 l1]] (grow (redrawn w2 d) os) fun e w''=>e=.returned (.string (bs PD))∧∃ p:Regrown,w''=grow (redrawn w2 p.d) p.os):=fun d os=>Calls.regrown_of (hpb _ (hbX.trans ((below_regrown w2 d os).mono hbX.size)))
  have HN:=hid (pnum_regrown w2)
  have z1:=bs_size PD
  have z2:=(bs_size (numB k1)).trans (numB_length k1)
  clear hb2 HIS2 HPB2 hpb hb1
  refine wp_region_quiet_below (by kernel_rfl) (by kernel_rfl) ?_
  repeat (go_big_quiet_step (first|exact HPX.out _ _|exact HN.out _ _ _))
  refine wpQuiet_nil ?_
  intro _ hw'
  obtain⟨⟨dq,osq⟩,hw''⟩:=hw'
  subst hw''
  have hbY:=hbX.trans ((below_regrown w2 dq osq).mono hbX.size)
  clear hl2 hbX HPX HN
  rw[bs_append,← HBD.out]
  have z3:BD.length=8+PD.length:=by rw[HBD.out,qO,numB_length]
  have z4:=bs_size BD
  have z5:=sumN_lt BD
  clear z1 z2
  go_wp2_with fail
  refine (sum_any (bs BD) _ (by rw[bs_size];unfold maxLen;omega)).mono ?_
  rintro e w3 ⟨rfl,rfl⟩
  rw[bs_list]
  go_wp2_with fail
  refine (num_any _ _ (by omega) (by omega)).mono ?_
  rintro e w4 ⟨rfl,hb4⟩
  have z6:=lowS_size (sumN BD) 8
  go_wp2
  go_ret
  refine⟨ret_str ?_,hbY.trans (hb4.mono hbY.size)⟩
  rw[HB.out]
  simp only[↓reduceIte]
  exact bs_append _ _
end
end Go.Proofs.YtbghhklbfnplbaaGreat

import Derived.DataElems
import Derived.Test.YtbghhklbfnplbaaGreatC00
import Derived.Test.YtbghhklbfnplbaaGreatC04
set_option maxHeartbeats 4000000
namespace Go.Proofs.YtbghhklbfnplbaaGreat
section
open Go.RowKit Go.Sort
def noItem:ItemD:=⟨⟨#[]⟩,0,⟨#[]⟩,0,0,[],0,⟨0,0,0⟩⟩
def ownItemD (x:ItemD):ItemD:=
 if x.kind=1 then { noItem with key:=x.key,kind:=x.kind,val:=x.val }
 else if x.kind=2 then { noItem with key:=x.key,kind:=x.kind,run:=x.run,len:=x.len }
 else if x.kind=3 then { noItem with key:=x.key,kind:=x.kind,vals:=x.vals,dup:=x.dup }
 else if x.kind=4 then { noItem with key:=x.key,kind:=x.kind,root:=x.root }
 else noItem
def onKind (k:Int) (n:Int) (v:Value):Value:=if k=n then v else .slice none 0 0
theorem drewN_below {B:Nat} {a w:World} (h:Below B a w) (n:Nat):Below B a (w.drewN n):=⟨h.os,h.tape,h.output,h.size,h.block⟩
theorem ownItem_any (x:ItemD) (v:Value) (w:World) (hv:∃ ao n cap,v=.slice ao n cap) :
  Calls Tryz.prog 171 #[.agg (itemCells x v).toArray] w fun e w'=>e=.returned (.agg (itemCells (ownItemD x) (onKind x.kind 3 v)).toArray)∧Below w.heap.size w w':=by
 obtain⟨ao,n,cap,rfl⟩:=hv
 obtain⟨k1,d1,l1,r1,n1,s1,p1,⟨g1,c1,f1⟩⟩:=x
 by_cases h1:d1=1
 ·subst h1
  show Calls Tryz.prog _ #[.agg #[.string k1,.int .i64 1,.string l1,.int .i64 r1,.int .i64 n1,.slice ao n cap,.int .i64 p1,.int .i64 g1,.int .i64 c1,.int .i64 f1]] w _
  go_enter Tryz.func171,Tryz.ntmps171
  go_wp2_with fail
  go_quiet (fail)
  go_wp2
  refine bodyPost_ret (v:=.agg #[.string k1,.int .i64 1,.string l1,.int .i64 0,.int .i64 0,.slice none 0 0,.int .i64 0,.int .i64 0,.int .i64 0,.int .i64 0]) (by simp[results,Tryz.results171,go_sem]) rfl ⟨by simp[itemCells,ownItemD,noItem,onKind],?_⟩
  repeat (refine Below.setCell ?_ (by simp) _)
  exact drewN_below (((qB _ _).alloc qL _).alloc (by simp) _) _
 by_cases h2:d1=2
 ·subst h2
  show Calls Tryz.prog _ #[.agg #[.string k1,.int .i64 2,.string l1,.int .i64 r1,.int .i64 n1,.slice ao n cap,.int .i64 p1,.int .i64 g1,.int .i64 c1,.int .i64 f1]] w _
  go_enter Tryz.func171,Tryz.ntmps171
  go_wp2_with fail
  go_quiet (fail)
  go_wp2
  refine bodyPost_ret (v:=.agg #[.string k1,.int .i64 2,.string ⟨#[]⟩,.int .i64 r1,.int .i64 n1,.slice none 0 0,.int .i64 0,.int .i64 0,.int .i64 0,.int .i64 0]) (by simp[results,Tryz.results171,go_sem]) rfl ⟨by simp[itemCells,ownItemD,noItem,onKind],?_⟩
  repeat (refine Below.setCell ?_ (by simp) _)
  exact drewN_below (((qB _ _).alloc qL _).alloc (by simp) _) _
 by_cases h3:d1=3
 ·subst h3
  show Calls Tryz.prog _ #[.agg #[.string k1,.int .i64 3,.string l1,.int .i64 r1,.int .i64 n1,.slice ao n cap,.int .i64 p1,.int .i64 g1,.int .i64 c1,.int .i64 f1]] w _
  go_enter Tryz.func171,Tryz.ntmps171
  go_wp2_with fail
  go_quiet (fail)
  go_wp2
  refine bodyPost_ret (v:=.agg #[.string k1,.int .i64 3,.string ⟨#[]⟩,.int .i64 0,.int .i64 0,.slice ao n cap,.int .i64 p1,.int .i64 0,.int .i64 0,.int .i64 0]) (by simp[results,Tryz.results171,go_sem]) rfl ⟨by simp[itemCells,ownItemD,noItem,onKind],?_⟩
  repeat (refine Below.setCell ?_ (by simp) _)
  exact drewN_below (((qB _ _).alloc qL _).alloc (by simp) _) _
 by_cases h4:d1=4
 ·subst h4
  show Calls Tryz.prog _ #[.agg #[.string k1,.int .i64 4,.string l1,.int .i64 r1,.int .i64 n1,.slice ao n cap,.int .i64 p1,.int .i64 g1,.int .i64 c1,.int .i64 f1]] w _
  go_enter Tryz.func171,Tryz.ntmps171
  go_wp2_with fail
  go_quiet (fail)
  go_wp2
  refine bodyPost_ret (v:=.agg #[.string k1,.int .i64 4,.string ⟨#[]⟩,.int .i64 0,.int .i64 0,.slice none 0 0,.int .i64 0,.int .i64 g1,.int .i64 c1,.int .i64 f1]) (by simp[results,Tryz.results171,go_sem]) rfl ⟨by simp[itemCells,ownItemD,noItem,onKind],?_⟩
  repeat (refine Below.setCell ?_ (by simp) _)
  exact drewN_below (((qB _ _).alloc qL _).alloc (by simp) _) _
 have e1:(d1==1)=false:=by simpa using h1
 have e2:(d1==2)=false:=by simpa using h2
 have e3:(d1==3)=false:=by simpa using h3
 have e4:(d1==4)=false:=by simpa using h4
 show Calls Tryz.prog _ #[.agg #[.string k1,.int .i64 d1,.string l1,.int .i64 r1,.int .i64 n1,.slice ao n cap,.int .i64 p1,.int .i64 g1,.int .i64 c1,.int .i64 f1]] w _
 go_enter Tryz.func171,Tryz.ntmps171
 go_wp2_with fail
 go_quiet (fail)
 go_wp2
 refine bodyPost_ret (v:=.agg #[.string ⟨#[]⟩,.int .i64 0,.string ⟨#[]⟩,.int .i64 0,.int .i64 0,.slice none 0 0,.int .i64 0,.int .i64 0,.int .i64 0,.int .i64 0]) (by simp[results,Tryz.results171,go_sem]) rfl ⟨by simp[itemCells,ownItemD,noItem,onKind,h1,h2,h3,h4],?_⟩
 repeat (refine Below.setCell ?_ (by simp) _)
 exact drewN_below (((qB _ _).alloc qL _).alloc (by simp) _) _
def noPage:PageD:=⟨0,[],[],[],⟨#[]⟩,[],[],0,⟨0,⟨0,0,0⟩,0,0⟩⟩
def ownD (p:PageD):PageD:=
 if p.kind=1 then { noPage with kind:=p.kind,items:=p.items }
 else if p.kind=2 then { noPage with kind:=p.kind,keys:=p.keys,kids:=p.kids }
 else if p.kind=3 then { noPage with kind:=p.kind,text:=p.text }
 else if p.kind=4 then { noPage with kind:=p.kind,vals:=p.vals }
 else if p.kind=5 then { noPage with kind:=p.kind,free:=p.free,next:=p.next }
 else if p.kind=6 then { noPage with kind:=p.kind,mt:=p.mt }
 else noPage
theorem own_any (p:PageD) (vi vk vd vv vf:Value) (w:World) (hi:∃ ao n cap,vi=.slice ao n cap) (hk:∃ ao n cap,vk=.slice ao n cap) (hd:∃ ao n cap,vd=.slice ao n cap) (hv:∃ ao n cap,vv=.slice ao n cap) (hf:∃ ao n cap,vf=.slice ao n cap) :
  Calls Tryz.prog 144 #[.agg (pageCells p vi vk vd vv vf).toArray] w fun e w'=>e=.returned (.agg (pageCells (ownD p) (onKind p.kind 1 vi) (onKind p.kind 2 vk) (onKind p.kind 2 vd) (onKind p.kind 4 vv) (onKind p.kind 5 vf)).toArray)∧Below w.heap.size w w':=by
 obtain⟨ai,mi,ci,rfl⟩:=hi
 obtain⟨ak,mk,ck,rfl⟩:=hk
 obtain⟨ad,md,cd,rfl⟩:=hd
 obtain⟨av,mv,cv,rfl⟩:=hv
 obtain⟨af,mf,cf,rfl⟩:=hf
 obtain⟨k1,i1,y1,d1,t1,v1,f1,n1,⟨x1,⟨g1,c1,q1⟩,r1,l1⟩⟩:=p
 by_cases h1:k1=1
 ·subst h1
  show Calls Tryz.prog _ #[.agg #[.int .i64 1,.slice ai mi ci,.slice ak mk ck,.slice ad md cd,.string t1,.slice av mv cv,.slice af mf cf,.int .i64 n1,.int .u64 x1,.int .i64 g1,.int .i64 c1,.int .i64 q1,.int .i64 r1,.int .i64 l1]] w _
  go_enter Tryz.func144,Tryz.ntmps144
  go_wp2
  refine bodyPost_ret (v:=.agg #[.int .i64 1,.slice ai mi ci,.slice none 0 0,.slice none 0 0,.string ⟨#[]⟩,.slice none 0 0,.slice none 0 0,.int .i64 0,.int .u64 0,.int .i64 0,.int .i64 0,.int .i64 0,.int .i64 0,.int .i64 0]) (by simp[results,Tryz.results144,go_sem]) rfl ⟨by simp[pageCells,ownD,noPage,onKind],?_⟩
  exact (((qB _ _).alloc qL _).alloc (by simp) _)
 by_cases h2:k1=2
 ·subst h2
  show Calls Tryz.prog _ #[.agg #[.int .i64 2,.slice ai mi ci,.slice ak mk ck,.slice ad md cd,.string t1,.slice av mv cv,.slice af mf cf,.int .i64 n1,.int .u64 x1,.int .i64 g1,.int .i64 c1,.int .i64 q1,.int .i64 r1,.int .i64 l1]] w _
  go_enter Tryz.func144,Tryz.ntmps144
  go_wp2
  refine bodyPost_ret (v:=.agg #[.int .i64 2,.slice none 0 0,.slice ak mk ck,.slice ad md cd,.string ⟨#[]⟩,.slice none 0 0,.slice none 0 0,.int .i64 0,.int .u64 0,.int .i64 0,.int .i64 0,.int .i64 0,.int .i64 0,.int .i64 0]) (by simp[results,Tryz.results144,go_sem]) rfl ⟨by simp[pageCells,ownD,noPage,onKind],?_⟩
  exact (((qB _ _).alloc qL _).alloc (by simp) _)
 by_cases h3:k1=3
 ·subst h3
  show Calls Tryz.prog _ #[.agg #[.int .i64 3,.slice ai mi ci,.slice ak mk ck,.slice ad md cd,.string t1,.slice av mv cv,.slice af mf cf,.int .i64 n1,.int .u64 x1,.int .i64 g1,.int .i64 c1,.int .i64 q1,.int .i64 r1,.int .i64 l1]] w _
  go_enter Tryz.func144,Tryz.ntmps144
  go_wp2
  refine bodyPost_ret (v:=.agg #[.int .i64 3,.slice none 0 0,.slice none 0 0,.slice none 0 0,.string t1,.slice none 0 0,.slice none 0 0,.int .i64 0,.int .u64 0,.int .i64 0,.int .i64 0,.int .i64 0,.int .i64 0,.int .i64 0]) (by simp[results,Tryz.results144,go_sem]) rfl ⟨by simp[pageCells,ownD,noPage,onKind],?_⟩
  exact (((qB _ _).alloc qL _).alloc (by simp) _)
 by_cases h4:k1=4
 ·subst h4
  show Calls Tryz.prog _ #[.agg #[.int .i64 4,.slice ai mi ci,.slice ak mk ck,.slice ad md cd,.string t1,.slice av mv cv,.slice af mf cf,.int .i64 n1,.int .u64 x1,.int .i64 g1,.int .i64 c1,.int .i64 q1,.int .i64 r1,.int .i64 l1]] w _
  go_enter Tryz.func144,Tryz.ntmps144
  go_wp2
  refine bodyPost_ret (v:=.agg #[.int .i64 4,.slice none 0 0,.slice none 0 0,.slice none 0 0,.string ⟨#[]⟩,.slice av mv cv,.slice none 0 0,.int .i64 0,.int .u64 0,.int .i64 0,.int .i64 0,.int .i64 0,.int .i64 0,.int .i64 0]) (by simp[results,Tryz.results144,go_sem]) rfl ⟨by simp[pageCells,ownD,noPage,onKind],?_⟩
  exact (((qB _ _).alloc qL _).alloc (by simp) _)
 by_cases h5:k1=5
 ·subst h5
  show Calls Tryz.prog _ #[.agg #[.int .i64 5,.slice ai mi ci,.slice ak mk ck,.slice ad md cd,.string t1,.slice av mv cv,.slice af mf cf,.int .i64 n1,.int .u64 x1,.int .i64 g1,.int .i64 c1,.int .i64 q1,.int .i64 r1,.int .i64 l1]] w _
  go_enter Tryz.func144,Tryz.ntmps144
  go_wp2
  refine bodyPost_ret (v:=.agg #[.int .i64 5,.slice none 0 0,.slice none 0 0,.slice none 0 0,.string ⟨#[]⟩,.slice none 0 0,.slice af mf cf,.int .i64 n1,.int .u64 0,.int .i64 0,.int .i64 0,.int .i64 0,.int .i64 0,.int .i64 0]) (by simp[results,Tryz.results144,go_sem]) rfl ⟨by simp[pageCells,ownD,noPage,onKind],?_⟩
  exact (((qB _ _).alloc qL _).alloc (by simp) _)
 by_cases h6:k1=6
 ·subst h6
  show Calls Tryz.prog _ #[.agg #[.int .i64 6,.slice ai mi ci,.slice ak mk ck,.slice ad md cd,.string t1,.slice av mv cv,.slice af mf cf,.int .i64 n1,.int .u64 x1,.int .i64 g1,.int .i64 c1,.int .i64 q1,.int .i64 r1,.int .i64 l1]] w _
  go_enter Tryz.func144,Tryz.ntmps144
  go_wp2
  refine bodyPost_ret (v:=.agg #[.int .i64 6,.slice none 0 0,.slice none 0 0,.slice none 0 0,.string ⟨#[]⟩,.slice none 0 0,.slice none 0 0,.int .i64 0,.int .u64 x1,.int .i64 g1,.int .i64 c1,.int .i64 q1,.int .i64 r1,.int .i64 l1]) (by simp[results,Tryz.results144,go_sem]) rfl ⟨by simp[pageCells,ownD,noPage,onKind],?_⟩
  exact (((qB _ _).alloc qL _).alloc (by simp) _)
 have e1:(k1==1)=false:=by simpa using h1
 have e2:(k1==2)=false:=by simpa using h2
 have e3:(k1==3)=false:=by simpa using h3
 have e4:(k1==4)=false:=by simpa using h4
 have e5:(k1==5)=false:=by simpa using h5
 have e6:(k1==6)=false:=by simpa using h6
 show Calls Tryz.prog _ #[.agg #[.int .i64 k1,.slice ai mi ci,.slice ak mk ck,.slice ad md cd,.string t1,.slice av mv cv,.slice af mf cf,.int .i64 n1,.int .u64 x1,.int .i64 g1,.int .i64 c1,.int .i64 q1,.int .i64 r1,.int .i64 l1]] w _
 go_enter Tryz.func144,Tryz.ntmps144
 go_wp2
 refine bodyPost_ret (v:=.agg #[.int .i64 0,.slice none 0 0,.slice none 0 0,.slice none 0 0,.string ⟨#[]⟩,.slice none 0 0,.slice none 0 0,.int .i64 0,.int .u64 0,.int .i64 0,.int .i64 0,.int .i64 0,.int .i64 0,.int .i64 0]) (by simp[results,Tryz.results144,go_sem]) rfl ⟨by simp[pageCells,ownD,noPage,onKind,h1,h2,h3,h4,h5,h6],?_⟩
 exact (((qB _ _).alloc qL _).alloc (by simp) _)
end
section
open Go.RowKit Go.Sort
def samePB (a b:PageD):Bool:=
 (a.kind==b.kind)&&sameItemsB a.items b.items&&decide (a.keys=b.keys)&&decide (a.kids=b.kids)&&(a.text.toList==b.text.toList)&&decide (a.vals=b.vals)&&sameFreesB a.free b.free&&(a.next==b.next)&&sameMetaB a.mt b.mt
theorem same_any (a b:PageD) (vi vk vd vv vf ui uk ud uv uf:Value) (w:World) (ha:Hangs w a vi vk vd vv vf) (hb:Hangs w b ui uk ud uv uf) :
  Calls Tryz.prog 143 #[.agg (pageCells a vi vk vd vv vf).toArray,.agg (pageCells b ui uk ud uv uf).toArray] w fun e w'=>e=.returned (.bool (samePB a b))∧Below w.heap.size w w':=by
 obtain⟨k1,i1,y1,d1,t1,v1,f1,n1,⟨x1,⟨g1,c1,q1⟩,r1,l1⟩⟩:=a
 obtain⟨k2,i2,y2,d2,t2,v2,f2,n2,⟨x2,⟨g2,c2,q2⟩,r2,l2⟩⟩:=b
 have HA:Hid (∀ W,Below w.heap.size w W→Hangs W _ vi vk vd vv vf):=fun W hW=>ha.below hW
 have HB:Hid (∀ W,Below w.heap.size w W→Hangs W _ ui uk ud uv uf):=fun W hW=>hb.below hW
 clear ha hb
 have HI:Hid (∀ W,Below w.heap.size w W→Calls Tryz.prog 162 #[vi,ui,.func (.func 163) #[] #[]] W fun e w'=>e=.returned (.bool (sameItemsB i1 i2))∧Below W.heap.size W w'):=fun W hW=>equalItems_any _ _ _ _ _ (HA.out W hW).items (HB.out W hW).items
 have HK:Hid (∀ W,Below w.heap.size w W→Calls Tryz.prog 164 #[vk,uk] W fun e w'=>e=.returned (.bool (decide (y1=y2)))∧Below W.heap.size W w'):=fun W hW=>equalS_any _ _ _ _ _ (HA.out W hW).keys (HB.out W hW).keys
 have HD:Hid (∀ W,Below w.heap.size w W→Calls Tryz.prog 165 #[vd,ud] W fun e w'=>e=.returned (.bool (decide (d1=d2)))∧Below W.heap.size W w'):=fun W hW=>equalI_any _ _ _ _ _ (HA.out W hW).kids (HB.out W hW).kids
 have HV:Hid (∀ W,Below w.heap.size w W→Calls Tryz.prog 164 #[vv,uv] W fun e w'=>e=.returned (.bool (decide (v1=v2)))∧Below W.heap.size W w'):=fun W hW=>equalS_any _ _ _ _ _ (HA.out W hW).vals (HB.out W hW).vals
 have HF:Hid (∀ W,Below w.heap.size w W→Calls Tryz.prog 166 #[vf,uf,.func (.func 167) #[] #[]] W fun e w'=>e=.returned (.bool (sameFreesB f1 f2))∧Below W.heap.size W w'):=fun W hW=>equalFrees_any _ _ _ _ _ (HA.out W hW).free (HB.out W hW).free
 clear HA HB
 show Calls Tryz.prog _ #[.agg #[.int .i64 k1,vi,vk,vd,.string t1,vv,vf,.int .i64 n1,.int .u64 x1,.int .i64 g1,.int .i64 c1,.int .i64 q1,.int .i64 r1,.int .i64 l1],.agg #[.int .i64 k2,ui,uk,ud,.string t2,uv,uf,.int .i64 n2,.int .u64 x2,.int .i64 g2,.int .i64 c2,.int .i64 q2,.int .i64 r2,.int .i64 l2]] w _
 go_enter Tryz.func143,Tryz.ntmps143
 go_wp2_with (first
  | (go_at_call 162;refine Calls.mono (HI.out _ ?_) ?_;exact base2 (by first|assumption|exact qB _ _);rintro e w2 ⟨rfl,hb2⟩;have hX0:=step2 (by first|assumption|exact qB _ _) hb2;have hcc0:=cells2 hX0;clear hb2)
  | (go_at_call_of 164 vk;refine Calls.mono (HK.out _ ?_) ?_;exact base2 (by first|assumption|exact qB _ _);rintro e w2 ⟨rfl,hb2⟩;have hX1:=step2 (by first|assumption|exact qB _ _) hb2;have hcc1:=cells2 hX1;clear hb2)
  | (go_at_call_of 165 vd;refine Calls.mono (HD.out _ ?_) ?_;exact base2 (by first|assumption|exact qB _ _);rintro e w2 ⟨rfl,hb2⟩;have hX2:=step2 (by first|assumption|exact qB _ _) hb2;have hcc2:=cells2 hX2;clear hb2)
  | (go_at_call_of 164 vv;refine Calls.mono (HV.out _ ?_) ?_;exact base2 (by first|assumption|exact qB _ _);rintro e w2 ⟨rfl,hb2⟩;have hX3:=step2 (by first|assumption|exact qB _ _) hb2;have hcc3:=cells2 hX3;clear hb2)
  | (go_at_call 166;refine Calls.mono (HF.out _ ?_) ?_;exact base2 (by first|assumption|exact qB _ _);rintro e w2 ⟨rfl,hb2⟩;have hX4:=step2 (by first|assumption|exact qB _ _) hb2;have hcc4:=cells2 hX4;clear hb2))
 all_goals
  go_ret
  refine⟨ret_bool ?_,base2 (by first|assumption|exact qB _ _)⟩
  clear HI HK HD HV HF
  try clear hX0 hcc0
  try clear hX1 hcc1
  try clear hX2 hcc2
  try clear hX3 hcc3
  try clear hX4 hcc4
  simp_all [samePB,sameMetaB]
end
section
open Go.RowKit Go.Sort
def rightItemB (x:ItemD):Bool:=
 if x.kind=1 then sizedB x.val 0 12
 else if x.kind=2 then pageB x.run&&withinB x.len 13 1000
 else if x.kind=3 then (if x.dup=0 then rightValsB x.vals 1 3 else pageB x.dup&&decide (x.vals.length=0))
 else if x.kind=4 then rootB x.root
 else false
theorem len_zeroB (n:Nat):((n:Int)==0)=decide (n=0):=by rw[Bool.eq_iff_iff];simp
theorem rightItem_any (x:ItemD) (v:Value) (w:World) (hv:StrsAt w v x.vals) (hl:x.val.size≤maxLen) :
  Calls Tryz.prog 170 #[.agg (itemCells x v).toArray] w fun e w'=>e=.returned (.bool (rightItemB x))∧Below w.heap.size w w':=by
 obtain⟨k1,d1,l1,r1,n1,s1,p1,⟨g1,c1,f1⟩⟩:=x
 have HV:Hid (∀ W,Below w.heap.size w W→StrsAt W v s1):=fun W hW=>hv.below hW
 obtain⟨ao,cap,rfl,hsm,-⟩:=hv
 have HL:Hid (l1.size≤maxLen):=hl
 simp only at hsm
 unfold maxLen at hsm
 clear hl
 show Calls Tryz.prog _ #[.agg #[.string k1,.int .i64 d1,.string l1,.int .i64 r1,.int .i64 n1,.slice ao s1.length cap,.int .i64 p1,.int .i64 g1,.int .i64 c1,.int .i64 f1]] w _
 go_enter Tryz.func170,Tryz.ntmps170
 go_wp2_with (first
  | (go_at_call 156;refine Calls.mono (sized_any _ _ _ _ HL.out) ?_;rintro e w2 ⟨rfl,rfl⟩)
  | (go_at_call 175;refine Calls.mono (number_page _ _) ?_;rintro e w2 ⟨rfl,rfl⟩)
  | (go_at_call 161;refine Calls.mono (within_any _ _ _ _) ?_;rintro e w2 ⟨rfl,rfl⟩)
  | (go_at_call 157;refine Calls.mono (rightVals_any s1 _ _ _ _ (HV.out _ ((qB _ _).alloc qL _))) ?_;rintro e w2 ⟨rfl,hb2⟩)
  | (go_at_call 160;refine Calls.mono (rightRoot_any ⟨g1,c1,f1⟩ _) ?_;rintro e w2 ⟨rfl,hb2⟩))
 all_goals
  go_ret
  refine⟨ret_bool ?_,by first|exact (qB _ _).alloc qL _|exact ((qB _ _).alloc qL _).trans (hb2.mono (by simp))⟩
  clear HV HL
  try clear hb2
  try rw[len_zeroB]
  simp_all [rightItemB]
def rightFreeL:Int→Int→List FreeD→Bool
 | _,_,[]=>true
 | room,txn,f::r=>withinB f.ids.length 1 room&&upI f.ids&&f.ids.all pageB&&decide (txn≤f.txn)&&rightFreeL (room - f.ids.length) f.txn r
def rightFreeB (l:List FreeD):Bool:=rightFreeL 20 0 l
theorem rightFree_any (l:List FreeD) (v:Value) (w:World) (hv:FreesAt w v l) :
  Calls Tryz.prog 158 #[v] w fun e w'=>e=.returned (.bool (rightFreeB l))∧Below w.heap.size w w':=by
 obtain⟨ao,cap,rfl,hlm,hc⟩:=hv
 unfold maxLen at hlm
 have HC:=hid hc
 clear hc
 go_enter Tryz.func158,Tryz.ntmps158
 go_wp2
 go_loopw [3,4,9] (fun rm tx i wr=>∃ (k:Nat) (room txn:Int),k≤l.length∧i=.int .i64 k∧rm=.int .i64 room∧tx=.int .u64 txn∧0≤room∧room≤20∧Hid (rightFreeB l=rightFreeL room txn (l.drop k))∧Below w.heap.size w wr) (fun _ _ i _=>l.length - (intOf i).toNat)
 case atStart=>exact⟨0,20,0,Nat.zero_le _,rfl,rfl,rfl,by omega,by omega,rfl,qB _ _⟩
 case round=>
  obtain⟨k,room,txn,hk,rfl,rfl,rfl,hr0,hr1,hall,hbel⟩:=hrel
  by_cases hlt:k<l.length
  ·obtain⟨b,o,x,hao,hbl,hc1,hc2,hx⟩:=HC.out k hlt
   have hia:=atFreesM (ao:=ao) l.length cap k hao hlt
   have hl1:wr.cell? ⟨b,o+k*2,none⟩=some (.int .u64 l[k].txn):=(hbel.cell (p:=⟨b,o+k*2,none⟩) hbl).trans hc1
   have hl2:wr.cell? ⟨b,o+k*2+1,none⟩=some x:=(hbel.cell (p:=⟨b,o+k*2+1,none⟩) hbl).trans hc2
   have HX:Hid (∀ W,Below w.heap.size w W→IntsAt W x l[k].ids):=fun W hW=>hx.below hW
   have HD:Hid (l.drop k=l[k]::l.drop (k+1)):=List.drop_eq_getElem_cons hlt
   obtain⟨ax,cx,hxe,hxl,-⟩:=hx
   unfold maxLen at hxl
   subst hxe
   clear hc1 hc2 hao hbl
   generalize l[k]=X at *
   obtain⟨tx,ids⟩:=X
   simp only at hl1 hl2 hxl HX HD
   have HB1:Hid (∀ o1,Below w.heap.size w (wr.alloc o1)):=fun o1=>hbel.alloc hbel.size o1
   cases hw:withinB ids.length 1 room
   ·go_wp2_with (first
     | (go_at_call 161;refine Calls.mono (within_any _ _ _ _) ?_;rintro e w2 ⟨rfl,rfl⟩)
     | (go_at_call 174;refine Calls.mono (risingI_any ids _ _ (HX.out _ (HB1.out _))) ?_;rintro e w2 ⟨rfl,hb2⟩;have hcc2:=bcell hb2)
     | (go_at_call 173;refine Calls.mono (numbers_any ids _ _ (HX.out _ ((HB1.out _).trans (hb2.mono (by have:=hbel.size;simp;omega))))) ?_;rintro e w2 ⟨rfl,rfl⟩))
    go_ret
    refine⟨ret_bool ?_,HB1.out _⟩
    rw[hall.out,HD.out]
    simp[rightFreeL,hw]
   have hwi:1≤ids.length∧(ids.length:Int)≤room:=by simp[withinB] at hw;omega
   cases hu:upI ids
   ·go_wp2_with (first
     | (go_at_call 161;refine Calls.mono (within_any _ _ _ _) ?_;rintro e w2 ⟨rfl,rfl⟩)
     | (go_at_call 174;refine Calls.mono (risingI_any ids _ _ (HX.out _ (HB1.out _))) ?_;rintro e w2 ⟨rfl,hb2⟩;have hcc2:=bcell hb2)
     | (go_at_call 173;refine Calls.mono (numbers_any ids _ _ (HX.out _ ((HB1.out _).trans (hb2.mono (by have:=hbel.size;simp;omega))))) ?_;rintro e w2 ⟨rfl,rfl⟩))
    go_ret
    refine⟨ret_bool ?_,(HB1.out _).trans (hb2.mono (by have:=hbel.size;simp;omega))⟩
    rw[hall.out,HD.out]
    simp[rightFreeL,hu]
   cases hp:ids.all pageB
   ·go_wp2_with (first
     | (go_at_call 161;refine Calls.mono (within_any _ _ _ _) ?_;rintro e w2 ⟨rfl,rfl⟩)
     | (go_at_call 174;refine Calls.mono (risingI_any ids _ _ (HX.out _ (HB1.out _))) ?_;rintro e w2 ⟨rfl,hb2⟩;have hcc2:=bcell hb2)
     | (go_at_call 173;refine Calls.mono (numbers_any ids _ _ (HX.out _ ((HB1.out _).trans (hb2.mono (by have:=hbel.size;simp;omega))))) ?_;rintro e w2 ⟨rfl,rfl⟩))
    go_ret
    refine⟨ret_bool ?_,(HB1.out _).trans (hb2.mono (by have:=hbel.size;simp;omega))⟩
    rw[hall.out,HD.out]
    simp only[rightFreeL,hp]
    simp
   by_cases ht:tx<txn
   ·have htB:decide (tx<txn)=true:=by simpa using ht
    go_wp2_with (first
     | (go_at_call 161;refine Calls.mono (within_any _ _ _ _) ?_;rintro e w2 ⟨rfl,rfl⟩)
     | (go_at_call 174;refine Calls.mono (risingI_any ids _ _ (HX.out _ (HB1.out _))) ?_;rintro e w2 ⟨rfl,hb2⟩;have hcc2:=bcell hb2)
     | (go_at_call 173;refine Calls.mono (numbers_any ids _ _ (HX.out _ ((HB1.out _).trans (hb2.mono (by have:=hbel.size;simp;omega))))) ?_;rintro e w2 ⟨rfl,rfl⟩))
    go_ret
    refine⟨ret_bool ?_,(HB1.out _).trans (hb2.mono (by have:=hbel.size;simp;omega))⟩
    rw[hall.out,HD.out]
    have ht2:decide (txn≤tx)=false:=by simp;omega
    simp only[rightFreeL,ht2]
    simp
   ·have htB:decide (tx<txn)=false:=by simpa using ht
    have ht2:decide (txn≤tx)=true:=by simp;omega
    have HH:Hid (rightFreeB l=rightFreeL (room - ids.length) tx (l.drop (k+1))):=by
     show _=_
     rw[hall.out,HD.out]
     simp only[rightFreeL,hw,hu,hp,ht2]
     simp
    clear ht2 ht
    go_wp2_with (first
     | (go_at_call 161;refine Calls.mono (within_any _ _ _ _) ?_;rintro e w2 ⟨rfl,rfl⟩)
     | (go_at_call 174;refine Calls.mono (risingI_any ids _ _ (HX.out _ (HB1.out _))) ?_;rintro e w2 ⟨rfl,hb2⟩;have hcc2:=bcell hb2)
     | (go_at_call 173;refine Calls.mono (numbers_any ids _ _ (HX.out _ ((HB1.out _).trans (hb2.mono (by have:=hbel.size;simp;omega))))) ?_;rintro e w2 ⟨rfl,rfl⟩))
    go_roundw
    case rel=>exact⟨k+1,room - ids.length,tx,by omega,by go_num,by go_num,rfl,by omega,by omega,HH.out,(HB1.out _).trans (hb2.mono (by have:=hbel.size;simp;omega))⟩
    case measure=>simp[intOf];omega
  ·go_wp2
   go_ret
   refine⟨ret_bool ?_,hbel⟩
   have h:=hall.out
   rw[List.drop_of_length_le (by omega)] at h
   rw[h]
   rfl
end
section
open Go.RowKit Go.Sort
def rightKidsB (keys:List ByteArray) (kids:List Int):Bool:=
 withinB kids.length 2 4&&decide (keys.length=kids.length)&&(keys.getD 0 ⟨#[]⟩).toList.isEmpty&&(keys.drop 1).all shortB&&upS keys&&kids.all pageB
theorem strs_tail {w:World} {v:Value} {l:List ByteArray} (h:StrsAt w v l) (hl:2≤l.length) :
  ∃ v',(∀ w1,(Instr.slice 31 v (some (.int .i64 1)) none none).run Tryz.prog w1=.ok v' w1)∧StrsAt w v' (l.drop 1):=by
 obtain⟨ao,cap,rfl,hlm,hc⟩:=h
 refine⟨.slice (ao.map (fun a=>a.add 1)) (l.length - 1) (cap - 1),fun w1=>?_,ao.map (fun a=>a.add 1),cap - 1,by simp,⟨by simp;omega,by simp;omega⟩,fun i hi=>?_⟩
 ·rw[run_slice_l (P:=Tryz.prog) w1 31 ao l.length cap Tryz.elemStrs .i64 1 (by omega) (by omega),Tryz.sizeStrs]
  have:¬ cap=1:=by omega
  simp[sliced,Result.andThen,this]
 ·have hi':i+1<l.length:=by simp at hi;omega
  obtain⟨a,ha,hcl,hs⟩:=hc (i+1) hi'
  refine⟨a.add 1,by rw[ha];rfl,?_,?_⟩
  ·rw[Addr.add_add,Nat.add_comm 1 i]
   simpa using hcl
  ·simpa using hs
theorem rightKids_any (l:List ByteArray) (m:List Int) (v u:Value) (w:World) (hv:StrsAt w v l) (hu:IntsAt w u m) :
  Calls Tryz.prog 155 #[v,u] w fun e w'=>e=.returned (.bool (rightKidsB l m))∧Below w.heap.size w w':=by
 have HR:=hid (risingS_any l v w hv)
 have HN:Hid (∀ W,Below w.heap.size w W→Calls Tryz.prog 173 #[u] W fun e w'=>e=.returned (.bool (m.all pageB))∧w'=W):=fun W hW=>numbers_any m u W (hu.below hW)
 cases hw:withinB m.length 2 4
 ·obtain⟨ao,cap,rfl,hlm,-⟩:=hv
  obtain⟨ao2,cap2,rfl,hlm2,-⟩:=hu
  unfold maxLen at hlm hlm2
  go_enter Tryz.func155,Tryz.ntmps155
  go_wp2_with (go_at_call 161;refine Calls.mono (within_any _ _ _ _) ?_;rintro e w2 ⟨rfl,rfl⟩)
  go_ret
  refine⟨ret_bool ?_,qB _ _⟩
  simp[rightKidsB,hw]
 have hwi:2≤m.length∧m.length≤4:=by simp[withinB] at hw;omega
 by_cases hlen:l.length=m.length
 ·obtain⟨v1,hsl,htail⟩:=strs_tail hv (by omega)
  obtain⟨ao,cap,rfl,hlm,hc⟩:=hv
  obtain⟨ao2,cap2,rfl,hlm2,-⟩:=hu
  unfold maxLen at hlm hlm2
  have hneB:((l.length:Int) != (m.length:Int))=false:=by simp;omega
  obtain⟨a,ha,hce,hsz⟩:=hc 0 (by omega)
  have hia:=atStrs (ao:=ao) l.length cap 0 ha (by omega)
  rw[Addr.add_zero'] at hce hia
  simp only[Int.natCast_zero] at hia
  have h0:0<l.length:=by omega
  have HG:Hid (l.getD 0 ⟨#[]⟩=l[0]):=by show _=_;simp[h0]
  generalize l[0]=x0 at *
  have HLEN:=hid hlen
  clear hc ha hlen
  cases hemp:x0.toList.isEmpty
  ·have hne:(x0.toList==[])=false:=by
    cases h:x0.toList<;>simp_all
   go_enter Tryz.func155,Tryz.ntmps155
   go_wp2_with (go_at_call 161;refine Calls.mono (within_any _ _ _ _) ?_;rintro e w2 ⟨rfl,rfl⟩)
   go_ret
   refine⟨ret_bool ?_,qB _ _⟩
   rw[rightKidsB,HG.out,hemp]
   simp
  ·have hne:x0.toList=[]:=by simpa using hemp
   have HT:Hid (StrsAt w v1 (l.drop 1)):=htail
   obtain⟨ao3,cap3,rfl,hl3,hc3⟩:=htail
   unfold maxLen at hl3
   have HC3:=hid hc3
   clear hc3 hsz
   generalize hK:l.drop 1=K at *
   go_enter Tryz.func155,Tryz.ntmps155
   go_wp2_with (go_at_call 161;refine Calls.mono (within_any _ _ _ _) ?_;rintro e w2 ⟨rfl,rfl⟩)
   go_loop [27] (fun i=>∃ k:Nat,k≤K.length∧i=.int .i64 k∧Hid ((K.take k).all shortB=true)) (fun i=>K.length - (intOf i).toNat)
   case atStart=>exact⟨0,Nat.zero_le _,rfl,rfl⟩
   case round=>
    obtain⟨k,hk,rfl,hall⟩:=hrel
    by_cases hlt:k<K.length
    ·obtain⟨a3,ha3,hce3,hsz3⟩:=HC3.out k hlt
     have hia3:=atStrs (ao:=ao3) K.length cap3 k ha3 hlt
     have HTK:=hid (qT hlt)
     have HM:Hid (K[k]∈K):=List.getElem_mem hlt
     have HZ:=hid hsz3
     clear ha3 hsz3
     cases hp:shortB K[k]
     all_goals
      go_wp2_with (go_at_call 169;refine (short_any _ _ HZ.out).mono ?_;rintro e w' ⟨rfl,rfl⟩)
     ·go_ret
      refine⟨ret_bool ?_,qB _ _⟩
      have:K.all shortB=false:=by
       rw[List.all_eq_false]
       exact⟨_,HM.out,by simp[hp]⟩
      rw[rightKidsB,hK,this]
      simp
     ·go_roundw
      case rel=>exact⟨k+1,by omega,by go_num,by show _=_;rw[HTK.out,List.all_append,hall.out];simp[hp]⟩
      case measure=>simp[intOf];omega
    ·have h:=hall.out
     rw[List.take_of_length_le (by omega)] at h
     have HS:Hid (rightKidsB l m=(upS l&&m.all pageB)):=by
      show _=_
      rw[rightKidsB,hK,h,HG.out,hemp,hw,decide_eq_true HLEN.out]
      simp
     clear h
     cases hup:upS l
     all_goals
      go_wp2_with (first
       | (go_at_call 172;refine Calls.mono HR.out ?_;rintro e w2 ⟨rfl,hb2⟩)
       | (go_at_call 173;refine Calls.mono (HN.out _ hb2) ?_;rintro e w2 ⟨rfl,rfl⟩))
      go_ret
      refine⟨ret_bool ?_,hb2⟩
      rw[HS.out,hup]
      simp
 ·obtain⟨ao,cap,rfl,hlm,-⟩:=hv
  obtain⟨ao2,cap2,rfl,hlm2,-⟩:=hu
  unfold maxLen at hlm hlm2
  have hneB:((l.length:Int) != (m.length:Int))=true:=by simp;omega
  go_enter Tryz.func155,Tryz.ntmps155
  go_wp2_with (go_at_call 161;refine Calls.mono (within_any _ _ _ _) ?_;rintro e w2 ⟨rfl,rfl⟩)
  go_ret
  refine⟨ret_bool ?_,qB _ _⟩
  rw[rightKidsB,decide_eq_false hlen]
  simp
end
section
open Go.RowKit Go.Sort
def goodItemB (x:ItemD):Bool:=shortB x.key&&rightItemB x&&sameItemB x (ownItemD x)
def rightItemsB (l:List ItemD):Bool:=withinB l.length 1 4&&l.all goodItemB&&upS (l.map fun x=>x.key)
theorem Tryz.infoStr:(Tryz.prog.info? 9).map (fun i=>(i.zero,i.size,i.bytes))=some (some (.string ⟨#[]⟩),1,16):=by kernel_rfl
theorem regrown_same {X:World} {f:FuncId} {args:Array Value} {v:Value} (h:∀ W,Calls Tryz.prog f args W fun e w'=>e=.returned v∧w'=W) :
  ∀ d os,Calls Tryz.prog f args (grow (redrawn X d) os) fun e w''=>e=.returned v∧∃ p:Regrown,w''=grow (redrawn X p.d) p.os:=fun d os=>
 (h _).mono fun _ _ he=>⟨he.1,⟨d,os⟩,he.2⟩
theorem strs_own {w:World} {base:Nat} {v:Value} {l:List ByteArray} (h:w.ownsRow base 9 1 v l.length (l.map Value.string)) (hz:∀ x∈l,x.size≤maxLen) (hl:l.length≤maxLen):StrsAt w v l:=by
 rcases h.2 with ⟨rfl,h0⟩|⟨g,cap,cur,rfl,hb,hg,hnc,hcm,hcs,htake⟩
 ·have:l=[]:=List.eq_nil_of_length_eq_zero h0
  subst this
  exact⟨none,0,rfl,⟨Nat.zero_le _,Nat.le_refl _⟩,fun i hi=>absurd hi (by simp)⟩
 ·refine⟨some ⟨g,0,none⟩,cap,rfl,⟨hl,hnc⟩,fun i hi=>⟨⟨g,0,none⟩,rfl,?_,hz _ (List.getElem_mem hi)⟩⟩
  exact h.cells (g:=g) rfl i _ (by simp[hi])
def keyCells (l:List ItemD):List Value:=l.map fun x=>Value.string x.key
theorem keys_snoc (l:List ItemD) (k:Nat) (h:k<l.length):keyCells (l.take (k+1))=keyCells (l.take k)++[Value.string l[k].key]:=by
 unfold keyCells
 rw[qT h,List.map_append]
 rfl
theorem heap_newL (w:World) (o:Obj):(w.alloc o).heap[w.heap.size]?=some o:=by
 show (w.heap.push o)[w.heap.size]?=_
 exact Array.getElem?_push_size
theorem cell_rowL {w:World} {b:Nat} {cs:Array Value} {T:TypeId} {fr:Nat × Nat} (hb:w.heap[b]?=some (.cells cs T fr)) (j:Nat):w.cell? ⟨b,j,none⟩=cs[j]?:=by
 simp[World.cell?,hb]
theorem owns_below {w w':World} {base:Nat} {e:TypeId} {size n:Nat} {v:Value} {xs:List Value} (h:w.ownsRow base e size v n xs) (hb:Below w.heap.size w w'):w'.ownsRow base e size v n xs:=by
 refine⟨h.1,?_⟩
 rcases h.2 with hn|⟨g,cap,cur,hv,hg,hh,rest⟩
 ·exact .inl hn
 ·exact .inr ⟨g,cap,cur,hv,hg,(hb.block g (qA hh)).trans hh,rest⟩
theorem strs_nil (w:World):StrsAt w (.slice none 0 0) []:=⟨none,0,rfl,⟨Nat.zero_le _,Nat.le_refl _⟩,fun i hi=>absurd hi (by simp)⟩
theorem strs_ownItem {w:World} {v:Value} {x:ItemD} (h:StrsAt w v x.vals):StrsAt w (onKind x.kind 3 v) (ownItemD x).vals:=by
 unfold onKind ownItemD
 by_cases h3:x.kind=3
 ·simpa[h3] using h
 ·rw[if_neg h3]
  have:((if x.kind=1 then { noItem with key:=x.key,kind:=x.kind,val:=x.val }
   else if x.kind=2 then { noItem with key:=x.key,kind:=x.kind,run:=x.run,len:=x.len }
   else if x.kind=3 then { noItem with key:=x.key,kind:=x.kind,vals:=x.vals,dup:=x.dup }
   else if x.kind=4 then { noItem with key:=x.key,kind:=x.kind,root:=x.root }
   else noItem:ItemD)).vals=[]:=by
   by_cases h1:x.kind=1
   ·simp[h1,noItem]
   ·by_cases h2:x.kind=2
    ·simp[h2,noItem]
    ·by_cases h4:x.kind=4
     ·simp[h4,noItem]
     ·simp[h1,h2,h3,h4,noItem]
  rw[this]
  exact strs_nil w
theorem rightItems_any (l:List ItemD) (v:Value) (w:World) (hv:ItemsAt w v l) :
  Calls Tryz.prog 154 #[v] w fun e w'=>e=.returned (.bool (rightItemsB l))∧Below w.heap.size w w':=by
 obtain⟨ao,cap,rfl,hlm,hc⟩:=hv
 obtain⟨i0,hi,hz0,hz1,hz2⟩:=info_parts Tryz.infoStr
 unfold maxLen at hlm
 have HC:=hid hc
 clear hc
 cases hw:withinB l.length 1 4
 ·go_enter Tryz.func154,Tryz.ntmps154
  go_wp2_with (go_at_call 161;refine Calls.mono (within_any _ _ _ _) ?_;rintro e w2 ⟨rfl,rfl⟩)
  go_ret
  refine⟨ret_bool ?_,qB _ _⟩
  simp[rightItemsB,hw]
 have hwi:l.length≤4:=by simp[withinB] at hw;omega
 go_enter Tryz.func154,Tryz.ntmps154
 go_wp2_with (go_at_call 161;refine Calls.mono (within_any _ _ _ _) ?_;rintro e w2 ⟨rfl,hw2⟩;subst w2)
 have hown0:(w.alloc (Obj.cells #[] 9)).ownsRow w.heap.size 9 1 (.slice (some ⟨w.heap.size,0,none⟩) 0 0) 0 []:=
  ⟨rfl,.inr ⟨w.heap.size,0,#[],rfl,Nat.le_refl _,heap_newL w _,Nat.le_refl _,Nat.zero_le _,rfl,rfl⟩⟩
 go_loopw [3,13] (fun v i wr=>∃ k:Nat,k≤l.length∧i=.int .i64 k∧wr.ownsRow w.heap.size 9 1 v k (keyCells (l.take k))∧Hid ((l.take k).all goodItemB=true)∧Below w.heap.size w wr) (fun _ i _=>l.length - (intOf i).toNat)
 case atStart=>exact⟨0,Nat.zero_le _,rfl,hown0,rfl,(qB _ _).alloc qL _⟩
 case round=>
  obtain⟨k,hk,rfl,hown,hall,hbel⟩:=hrel
  clear hown0
  by_cases hlt:k<l.length
  ·obtain⟨b,o,x,hao,hbl,hr,hx,hkm,hvm⟩:=HC.out k hlt
   have hia:=atItems (ao:=ao) l.length cap k hao hlt
   have hl1:=range10 (range_below hr hbel hbl)
   have HX:Hid (∀ W,Below w.heap.size w W→StrsAt W x l[k].vals):=fun W hW=>hx.below hW
   have HTK:=hid (qT hlt)
   have HKS:=hid (keys_snoc l k hlt)
   have HM:Hid (l[k]∈l):=List.getElem_mem hlt
   have HKM:=hid hkm
   have HVM:=hid hvm
   obtain⟨ax,cx,hxe,hxl,-⟩:=hx
   subst hxe
   clear hr hao hbl hkm hvm hxl
   generalize l[k]=Y at *
   obtain⟨k1,d1,l1,r1,n1,s1,p1,⟨g1,c1,f1⟩⟩:=Y
   simp only at hl1
   have HB1:Hid (Below w.heap.size w (wr.alloc (.cells #[.string k1,.int .i64 d1,.string l1,.int .i64 r1,.int .i64 n1,.slice ax s1.length cx,.int .i64 p1,.int .i64 g1,.int .i64 c1,.int .i64 f1] 45))):=hbel.alloc hbel.size _
   have HO1:Hid ((wr.alloc (.cells #[.string k1,.int .i64 d1,.string l1,.int .i64 r1,.int .i64 n1,.slice ax s1.length cx,.int .i64 p1,.int .i64 g1,.int .i64 c1,.int .i64 f1] 45)).ownsRow w.heap.size 9 1 u3 k (keyCells (l.take k))):=hown.alloc _
   have hXr:(wr.alloc (.cells #[.string k1,.int .i64 d1,.string l1,.int .i64 r1,.int .i64 n1,.slice ax s1.length cx,.int .i64 p1,.int .i64 g1,.int .i64 c1,.int .i64 f1] 45)).rangeAt wr.heap.size 0 (itemCells ⟨k1,d1,l1,r1,n1,s1,p1,⟨g1,c1,f1⟩⟩ (.slice ax s1.length cx)):=by
    intro j u hj
    rw[Nat.zero_add,cell_rowL (heap_newL wr _)]
    simpa[itemCells] using hj
   have hXs:wr.heap.size<(wr.alloc (.cells #[.string k1,.int .i64 d1,.string l1,.int .i64 r1,.int .i64 n1,.slice ax s1.length cx,.int .i64 p1,.int .i64 g1,.int .i64 c1,.int .i64 f1] 45)).heap.size:=by simp
   go_wp2_with fail
   clear hl1 hia hown
   generalize (wr.alloc (.cells #[.string k1,.int .i64 d1,.string l1,.int .i64 r1,.int .i64 n1,.slice ax s1.length cx,.int .i64 p1,.int .i64 g1,.int .i64 c1,.int .i64 f1] 45))=X at *
   generalize wr.heap.size=B at *
   have hl2:=fun d os=>range10 (range_below hXr (below_regrown X d os) hXs)
   simp only[Nat.zero_add] at hl2
   have HSH:Hid (∀ d os,Calls Tryz.prog 169 #[.string k1] (grow (redrawn X d) os) fun e w''=>e=.returned (.bool (shortB k1))∧∃ p:Regrown,w''=grow (redrawn X p.d) p.os):=regrown_same (fun W=>short_any k1 W HKM.out)
   have HRI:Hid (∀ d os,Calls Tryz.prog 170 #[.agg #[.string k1,.int .i64 d1,.string l1,.int .i64 r1,.int .i64 n1,.slice ax s1.length cx,.int .i64 p1,.int .i64 g1,.int .i64 c1,.int .i64 f1]] (grow (redrawn X d) os) fun e w''=>e=.returned (.bool (rightItemB ⟨k1,d1,l1,r1,n1,s1,p1,⟨g1,c1,f1⟩⟩))∧∃ p:Regrown,w''=grow (redrawn X p.d) p.os):=fun d os=>
    Calls.regrown_of (rightItem_any ⟨k1,d1,l1,r1,n1,s1,p1,⟨g1,c1,f1⟩⟩ _ _ (HX.out _ (HB1.out.trans ((below_regrown X d os).mono HB1.out.size))) HVM.out)
   have HOI:Hid (∀ d os,Calls Tryz.prog 171 #[.agg #[.string k1,.int .i64 d1,.string l1,.int .i64 r1,.int .i64 n1,.slice ax s1.length cx,.int .i64 p1,.int .i64 g1,.int .i64 c1,.int .i64 f1]] (grow (redrawn X d) os) fun e w''=>e=.returned (.agg (itemCells (ownItemD ⟨k1,d1,l1,r1,n1,s1,p1,⟨g1,c1,f1⟩⟩) (onKind d1 3 (.slice ax s1.length cx))).toArray)∧∃ p:Regrown,w''=grow (redrawn X p.d) p.os):=fun d os=>
    Calls.regrown_of (ownItem_any ⟨k1,d1,l1,r1,n1,s1,p1,⟨g1,c1,f1⟩⟩ _ _ ⟨_,_,_,rfl⟩)
   have HSI:Hid (∀ d os,Calls Tryz.prog 163 #[.agg #[.string k1,.int .i64 d1,.string l1,.int .i64 r1,.int .i64 n1,.slice ax s1.length cx,.int .i64 p1,.int .i64 g1,.int .i64 c1,.int .i64 f1],.agg (itemCells (ownItemD ⟨k1,d1,l1,r1,n1,s1,p1,⟨g1,c1,f1⟩⟩) (onKind d1 3 (.slice ax s1.length cx))).toArray] (grow (redrawn X d) os) fun e w''=>e=.returned (.bool (sameItemB ⟨k1,d1,l1,r1,n1,s1,p1,⟨g1,c1,f1⟩⟩ (ownItemD ⟨k1,d1,l1,r1,n1,s1,p1,⟨g1,c1,f1⟩⟩)))∧∃ p:Regrown,w''=grow (redrawn X p.d) p.os):=fun d os=>
    Calls.regrown_of (sameItem_any ⟨k1,d1,l1,r1,n1,s1,p1,⟨g1,c1,f1⟩⟩ _ _ _ _ (HX.out _ (HB1.out.trans ((below_regrown X d os).mono HB1.out.size))) (strs_ownItem (x:=⟨k1,d1,l1,r1,n1,s1,p1,⟨g1,c1,f1⟩⟩) (HX.out _ (HB1.out.trans ((below_regrown X d os).mono HB1.out.size)))))
   generalize (itemCells (ownItemD ⟨k1,d1,l1,r1,n1,s1,p1,⟨g1,c1,f1⟩⟩) (onKind d1 3 (.slice ax s1.length cx))).toArray=OA at *
   cases hb1:shortB k1
   ·refine wp_region_quiet_below (by kernel_rfl) (by kernel_rfl) ?_
    repeat (go_big_quiet_step (first|exact HSH.out _ _|exact HRI.out _ _|exact HOI.out _ _|exact HSI.out _ _))
    refine wpQuiet_nil ?_
    intro _ hw'
    obtain⟨⟨dq,osq⟩,hw''⟩:=hw'
    subst hw''
    have HBE:=hid (HB1.out.trans ((below_regrown X dq osq).mono HB1.out.size))
    clear hl2
    go_wp2
    go_ret
    refine⟨ret_bool ?_,HBE.out⟩
    have hall2:l.all goodItemB=false:=by
     rw[List.all_eq_false]
     exact⟨_,HM.out,by simp[goodItemB,hb1]⟩
    simp[rightItemsB,hall2]
   cases hb2:rightItemB ⟨k1,d1,l1,r1,n1,s1,p1,⟨g1,c1,f1⟩⟩
   ·refine wp_region_quiet_below (by kernel_rfl) (by kernel_rfl) ?_
    repeat (go_big_quiet_step (first|exact HSH.out _ _|exact HRI.out _ _|exact HOI.out _ _|exact HSI.out _ _))
    refine wpQuiet_nil ?_
    intro _ hw'
    obtain⟨⟨dq,osq⟩,hw''⟩:=hw'
    subst hw''
    have HBE:=hid (HB1.out.trans ((below_regrown X dq osq).mono HB1.out.size))
    clear hl2
    go_wp2
    go_ret
    refine⟨ret_bool ?_,HBE.out⟩
    have hall2:l.all goodItemB=false:=by
     rw[List.all_eq_false]
     exact⟨_,HM.out,by simp[goodItemB,hb2]⟩
    simp[rightItemsB,hall2]
   cases hb3:sameItemB ⟨k1,d1,l1,r1,n1,s1,p1,⟨g1,c1,f1⟩⟩ (ownItemD ⟨k1,d1,l1,r1,n1,s1,p1,⟨g1,c1,f1⟩⟩)
   ·refine wp_region_quiet_below (by kernel_rfl) (by kernel_rfl) ?_
    repeat (go_big_quiet_step (first|exact HSH.out _ _|exact HRI.out _ _|exact HOI.out _ _|exact HSI.out _ _))
    refine wpQuiet_nil ?_
    intro _ hw'
    obtain⟨⟨dq,osq⟩,hw''⟩:=hw'
    subst hw''
    have HBE:=hid (HB1.out.trans ((below_regrown X dq osq).mono HB1.out.size))
    clear hl2
    go_wp2
    go_ret
    refine⟨ret_bool ?_,HBE.out⟩
    have hall2:l.all goodItemB=false:=by
     rw[List.all_eq_false]
     exact⟨_,HM.out,by simp[goodItemB,hb3]⟩
    simp[rightItemsB,hall2]
   ·have HGD:Hid (goodItemB ⟨k1,d1,l1,r1,n1,s1,p1,⟨g1,c1,f1⟩⟩=true):=by show _=_;simp[goodItemB,hb1,hb2,hb3]
    refine wp_region_quiet_below (by kernel_rfl) (by kernel_rfl) ?_
    repeat (go_big_quiet_step (first|exact HSH.out _ _|exact HRI.out _ _|exact HOI.out _ _|exact HSI.out _ _))
    refine wpQuiet_nil ?_
    intro _ hw'
    obtain⟨⟨dq,osq⟩,hw''⟩:=hw'
    subst hw''
    have HBE:=hid (HB1.out.trans ((below_regrown X dq osq).mono HB1.out.size))
    have hownY:=owns_below HO1.out (below_regrown X dq osq)
    have hcY:=(hl2 dq osq).1
    clear hl2 hXr hXs
    generalize grow (redrawn X dq) osq=Y at *
    go_wp2_with (at_builtin;refine wpList_append_own _ rfl _ _ 31 rfl w.heap.size 9 i0 (.string ⟨#[]⟩) 1 16 Tryz.underlying31 hi hz0 hz1 hz2 rfl (by decide) _ _ _ rfl (hownY.alloc _) ⟨Y.heap.size,0,none⟩ 1 1 [.string k1] rfl rfl (cell_one_new _ _ _) (fun x hx=>by simp at hx;subst hx;rfl) (by unfold maxLen;omega) (by omega) (by have:=HBE.out.size;simp;omega) ?_)
    intro v' w3 hown' hgrow _
    rw[← HKS.out] at hown'
    have hbel3:Below w.heap.size w w3:=(HBE.out.alloc HBE.out.size _).grown hgrow (by have:=HBE.out.size;simp;omega) (fun q hq=>(hownY.lt q hq).1)
    clear hgrow hownY hcY
    go_wp2
    go_roundw
    case rel=>exact⟨k+1,by omega,by go_num,hown',by show _=_;rw[HTK.out,List.all_append,hall.out];simp[HGD.out],hbel3⟩
    case measure=>simp[intOf];omega
  ·have hke:k=l.length:=by omega
   subst hke
   rw[List.take_length] at hown
   have hst:StrsAt wr u3 (l.map fun x=>x.key):=by
    refine strs_own (base:=w.heap.size) ?_ ?_ ?_
    ·simpa[keyCells,Function.comp_def] using hown
    ·intro x hx
     obtain⟨y,hy,rfl⟩:=List.mem_map.1 hx
     obtain⟨j,hj,rfl⟩:=List.mem_iff_getElem.1 hy
     obtain⟨_,_,_,_,_,_,_,hz,_⟩:=HC.out j hj
     exact hz
    ·unfold maxLen;simp;omega
   have HR:=hid (risingS_any _ _ _ hst)
   clear hst hown
   go_wp2_with (go_at_call 172;refine Calls.mono HR.out ?_;rintro e w2 ⟨rfl,hb2⟩)
   go_ret
   refine⟨ret_bool ?_,hbel.trans (hb2.mono hbel.size)⟩
   have h:=hall.out
   rw[List.take_length] at h
   simp[rightItemsB,hw,h]
end
section
open Go.RowKit Go.Sort
def rightB (p:PageD):Bool:=
 if p.kind=1 then rightItemsB p.items
 else if p.kind=2 then rightKidsB p.keys p.kids
 else if p.kind=3 then sizedB p.text 1 100
 else if p.kind=4 then rightValsB p.vals 4 12
 else if p.kind=5 then rightFreeB p.free&&noneB p.next
 else if p.kind=6 then rootB p.mt.main&&noneB p.mt.free&&withinB p.mt.last 2 400
 else false
theorem below_box {w X:World} {o:Obj} (hb:Below (w.alloc o).heap.size (w.alloc o) X):Below w.heap.size w X:=
 ((qB _ _).alloc qL o).trans (hb.mono (by simp))
theorem below_box2 {w X:World} {o o2:Obj} (hb:Below ((w.alloc o).alloc o2).heap.size ((w.alloc o).alloc o2) X):Below w.heap.size w X:=
 (((qB _ _).alloc qL o).alloc (by simp) o2).trans (hb.mono (by simp;omega))
theorem right_any (p:PageD) (vi vk vd vv vf:Value) (w:World) (ha:Hangs w p vi vk vd vv vf) :
  Calls Tryz.prog 142 #[.agg (pageCells p vi vk vd vv vf).toArray] w fun e w'=>e=.returned (.bool (rightB p))∧Below w.heap.size w w':=by
 obtain⟨k1,i1,y1,d1,t1,v1,f1,n1,⟨x1,⟨g1,c1,q1⟩,r1,l1⟩⟩:=p
 have HA:Hid (∀ W,Below w.heap.size w W→Hangs W ⟨k1,i1,y1,d1,t1,v1,f1,n1,⟨x1,⟨g1,c1,q1⟩,r1,l1⟩⟩ vi vk vd vv vf):=fun W hW=>ha.below hW
 have HT:Hid (t1.size≤maxLen):=ha.text
 clear ha
 show Calls Tryz.prog _ #[.agg #[.int .i64 k1,vi,vk,vd,.string t1,vv,vf,.int .i64 n1,.int .u64 x1,.int .i64 g1,.int .i64 c1,.int .i64 q1,.int .i64 r1,.int .i64 l1]] w _
 go_enter Tryz.func142,Tryz.ntmps142
 go_wp2_with (first
  | (go_at_call 154;refine Calls.mono (rightItems_any i1 _ _ (HA.out _ ((qB _ _).alloc qL _)).items) ?_;rintro e w2 ⟨rfl,hb2⟩)
  | (go_at_call 155;refine Calls.mono (rightKids_any y1 d1 _ _ _ (HA.out _ ((qB _ _).alloc qL _)).keys (HA.out _ ((qB _ _).alloc qL _)).kids) ?_;rintro e w2 ⟨rfl,hb2⟩)
  | (go_at_call 156;refine Calls.mono (sized_any _ _ _ _ HT.out) ?_;rintro e w2 ⟨rfl,rfl⟩)
  | (go_at_call 157;refine Calls.mono (rightVals_any v1 _ _ _ _ (HA.out _ ((qB _ _).alloc qL _)).vals) ?_;rintro e w2 ⟨rfl,hb2⟩)
  | (go_at_call 158;refine Calls.mono (rightFree_any f1 _ _ (HA.out _ ((qB _ _).alloc qL _)).free) ?_;rintro e w2 ⟨rfl,hb2⟩;have hcc:=bcell hb2)
  | (go_at_call 160;refine Calls.mono (rightRoot_any ⟨g1,c1,q1⟩ _) ?_;rintro e w2 ⟨rfl,hb2⟩;have hcc:=bcell hb2)
  | (go_at_call 159;refine Calls.mono (orNone_any _ _) ?_;rintro e w2 ⟨rfl,hw2⟩;subst hw2)
  | (go_at_call 161;refine Calls.mono (within_any _ _ _ _) ?_;rintro e w2 ⟨rfl,hw2⟩;subst hw2))
 all_goals
  go_ret
  refine⟨ret_bool ?_,by first|exact (qB _ _).alloc qL _|exact below_box hb2|exact below_box2 hb2⟩
  clear HA HT
  try clear hcc
  try clear hb2
  simp_all [rightB]
end
section
open Go.RowKit Go.Sort
def isPB (p:PageD):Bool:=rightB p&&samePB p (ownD p)
theorem range14 {w:World} {b o:Nat} {p:PageD} {vi vk vd vv vf:Value} (h:w.rangeAt b o (pageCells p vi vk vd vv vf)) :
  w.cell? ⟨b,o,none⟩=some (.int .i64 p.kind)∧w.cell? ⟨b,o+1,none⟩=some vi∧w.cell? ⟨b,o+2,none⟩=some vk∧w.cell? ⟨b,o+3,none⟩=some vd∧w.cell? ⟨b,o+4,none⟩=some (.string p.text) ∧
  w.cell? ⟨b,o+5,none⟩=some vv∧w.cell? ⟨b,o+6,none⟩=some vf∧w.cell? ⟨b,o+7,none⟩=some (.int .i64 p.next)∧w.cell? ⟨b,o+8,none⟩=some (.int .u64 p.mt.txn)∧w.cell? ⟨b,o+9,none⟩=some (.int .i64 p.mt.main.page) ∧
  w.cell? ⟨b,o+10,none⟩=some (.int .i64 p.mt.main.count)∧w.cell? ⟨b,o+11,none⟩=some (.int .i64 p.mt.main.flags)∧w.cell? ⟨b,o+12,none⟩=some (.int .i64 p.mt.free)∧w.cell? ⟨b,o+13,none⟩=some (.int .i64 p.mt.last):=
 ⟨h 0 _ rfl,h 1 _ rfl,h 2 _ rfl,h 3 _ rfl,h 4 _ rfl,h 5 _ rfl,h 6 _ rfl,h 7 _ rfl,h 8 _ rfl,h 9 _ rfl,h 10 _ rfl,h 11 _ rfl,h 12 _ rfl,h 13 _ rfl⟩
theorem rangeNew (w:World) (cs:List Value) (T:TypeId):(w.alloc (.cells cs.toArray T)).rangeAt w.heap.size 0 cs:=by
 intro j u hj
 rw[Nat.zero_add,cell_rowL (heap_newL w _)]
 simpa using hj
theorem items_nil (w:World):ItemsAt w (.slice none 0 0) []:=⟨none,0,rfl,Nat.zero_le _,fun i hi=>absurd hi (by simp)⟩
theorem ints_nil (w:World):IntsAt w (.slice none 0 0) []:=⟨none,0,rfl,Nat.zero_le _,fun i hi=>absurd hi (by simp)⟩
theorem frees_nil (w:World):FreesAt w (.slice none 0 0) []:=⟨none,0,rfl,Nat.zero_le _,fun i hi=>absurd hi (by simp)⟩
theorem hangs_own {w:World} {p:PageD} {vi vk vd vv vf:Value} (h:Hangs w p vi vk vd vv vf):Hangs w (ownD p) (onKind p.kind 1 vi) (onKind p.kind 2 vk) (onKind p.kind 2 vd) (onKind p.kind 4 vv) (onKind p.kind 5 vf):=by
 have e:(⟨#[]⟩:ByteArray).size≤maxLen:=Nat.zero_le _
 unfold ownD onKind
 by_cases h1:p.kind=1
 ·simp only[h1,↓reduceIte,noPage]
  exact⟨h.items,strs_nil w,ints_nil w,e,strs_nil w,frees_nil w⟩
 by_cases h2:p.kind=2
 ·simp only[h2,↓reduceIte,noPage]
  exact⟨items_nil w,h.keys,h.kids,e,strs_nil w,frees_nil w⟩
 by_cases h3:p.kind=3
 ·simp only[h3,↓reduceIte,noPage]
  exact⟨items_nil w,strs_nil w,ints_nil w,h.text,strs_nil w,frees_nil w⟩
 by_cases h4:p.kind=4
 ·simp only[h4,↓reduceIte,noPage]
  exact⟨items_nil w,strs_nil w,ints_nil w,e,h.vals,frees_nil w⟩
 by_cases h5:p.kind=5
 ·simp only[h5,↓reduceIte,noPage]
  exact⟨items_nil w,strs_nil w,ints_nil w,e,strs_nil w,h.free⟩
 by_cases h6:p.kind=6
 ·simp only[h6,↓reduceIte,noPage]
  exact⟨items_nil w,strs_nil w,ints_nil w,e,strs_nil w,frees_nil w⟩
 ·simp only[h1,h2,h3,h4,h5,h6,↓reduceIte,noPage]
  exact⟨items_nil w,strs_nil w,ints_nil w,e,strs_nil w,frees_nil w⟩
theorem StrsAt.slice {w:World} {v:Value} {l:List ByteArray} (h:StrsAt w v l):∃ ao n cap,v=.slice ao n cap:=by
 obtain⟨ao,cap,rfl,_⟩:=h
 exact⟨_,_,_,rfl⟩
theorem IntsAt.slice {w:World} {v:Value} {l:List Int} (h:IntsAt w v l):∃ ao n cap,v=.slice ao n cap:=by
 obtain⟨ao,cap,rfl,_⟩:=h
 exact⟨_,_,_,rfl⟩
theorem ItemsAt.slice {w:World} {v:Value} {l:List ItemD} (h:ItemsAt w v l):∃ ao n cap,v=.slice ao n cap:=by
 obtain⟨ao,cap,rfl,_⟩:=h
 exact⟨_,_,_,rfl⟩
theorem FreesAt.slice {w:World} {v:Value} {l:List FreeD} (h:FreesAt w v l):∃ ao n cap,v=.slice ao n cap:=by
 obtain⟨ao,cap,rfl,_⟩:=h
 exact⟨_,_,_,rfl⟩
theorem is_any (p:PageD) (vi vk vd vv vf:Value) (w:World) (ha:Hangs w p vi vk vd vv vf) :
  Calls Tryz.prog 135 #[.agg (pageCells p vi vk vd vv vf).toArray] w fun e w'=>e=.returned (.bool (isPB p))∧Below w.heap.size w w':=by
 have HA:Hid (∀ W,Below w.heap.size w W→Hangs W p vi vk vd vv vf):=fun W hW=>ha.below hW
 have si:=ha.items.slice
 have sk:=ha.keys.slice
 have sd:=ha.kids.slice
 have sv:=ha.vals.slice
 have sf:=ha.free.slice
 clear ha
 have HB1:Hid (Below w.heap.size w (w.alloc (.cells (pageCells p vi vk vd vv vf).toArray 59))):=(qB _ _).alloc qL _
 have hXr:=rangeNew w (pageCells p vi vk vd vv vf) 59
 have hXs:w.heap.size<(w.alloc (.cells (pageCells p vi vk vd vv vf).toArray 59)).heap.size:=by simp
 have hX2:=fun X (h:X=w.alloc (.cells (pageCells p vi vk vd vv vf).toArray 59)) d os=>range14 (range_below (h ▸ hXr) (below_regrown X d os) (h ▸ hXs))
 simp only[Nat.zero_add] at hX2
 have HRI:Hid (∀ X,Below w.heap.size w X→∀ d os,Calls Tryz.prog 142 #[.agg (pageCells p vi vk vd vv vf).toArray] (grow (redrawn X d) os) fun e w''=>e=.returned (.bool (rightB p))∧∃ q:Regrown,w''=grow (redrawn X q.d) q.os):=fun X hX d os=>
  Calls.regrown_of (right_any p _ _ _ _ _ _ (HA.out _ (hX.trans ((below_regrown X d os).mono hX.size))))
 have HOW:Hid (∀ X,Below w.heap.size w X→∀ d os,Calls Tryz.prog 144 #[.agg (pageCells p vi vk vd vv vf).toArray] (grow (redrawn X d) os) fun e w''=>e=.returned (.agg (pageCells (ownD p) (onKind p.kind 1 vi) (onKind p.kind 2 vk) (onKind p.kind 2 vd) (onKind p.kind 4 vv) (onKind p.kind 5 vf)).toArray)∧∃ q:Regrown,w''=grow (redrawn X q.d) q.os):=fun X hX d os=>
  Calls.regrown_of (own_any p _ _ _ _ _ _ si sk sd sv sf)
 have HSA:Hid (∀ X,Below w.heap.size w X→∀ d os,Calls Tryz.prog 143 #[.agg (pageCells p vi vk vd vv vf).toArray,.agg (pageCells (ownD p) (onKind p.kind 1 vi) (onKind p.kind 2 vk) (onKind p.kind 2 vd) (onKind p.kind 4 vv) (onKind p.kind 5 vf)).toArray] (grow (redrawn X d) os) fun e w''=>e=.returned (.bool (samePB p (ownD p)))∧∃ q:Regrown,w''=grow (redrawn X q.d) q.os):=fun X hX d os=>
  Calls.regrown_of (same_any p (ownD p) _ _ _ _ _ _ _ _ _ _ _ (HA.out _ (hX.trans ((below_regrown X d os).mono hX.size))) (hangs_own (HA.out _ (hX.trans ((below_regrown X d os).mono hX.size)))))
 generalize (pageCells (ownD p) (onKind p.kind 1 vi) (onKind p.kind 2 vk) (onKind p.kind 2 vd) (onKind p.kind 4 vv) (onKind p.kind 5 vf)).toArray=OA at *
 have HI:Hid (isPB p=(rightB p&&samePB p (ownD p))):=rfl
 generalize isPB p=RES at *
 generalize rightB p=R1 at *
 generalize samePB p (ownD p)=R2 at *
 clear HA si sk sd sv sf
 obtain⟨k1,i1,y1,d1,t1,v1,f1,n1,⟨x1,⟨g1,c1,q1⟩,r1,l1⟩⟩:=p
 have HB2:Hid (Below w.heap.size w (w.alloc (.cells #[.int .i64 k1,vi,vk,vd,.string t1,vv,vf,.int .i64 n1,.int .u64 x1,.int .i64 g1,.int .i64 c1,.int .i64 q1,.int .i64 r1,.int .i64 l1] 59))):=HB1.out
 have hl2:=hX2 (w.alloc (.cells #[.int .i64 k1,vi,vk,vd,.string t1,vv,vf,.int .i64 n1,.int .u64 x1,.int .i64 g1,.int .i64 c1,.int .i64 q1,.int .i64 r1,.int .i64 l1] 59)) rfl
 have HRI2:Hid (∀ X,Below w.heap.size w X→∀ d os,Calls Tryz.prog 142 #[.agg #[.int .i64 k1,vi,vk,vd,.string t1,vv,vf,.int .i64 n1,.int .u64 x1,.int .i64 g1,.int .i64 c1,.int .i64 q1,.int .i64 r1,.int .i64 l1]] (grow (redrawn X d) os) fun e w''=>e=.returned (.bool R1)∧∃ q:Regrown,w''=grow (redrawn X q.d) q.os):=HRI.out
 have HOW2:Hid (∀ X,Below w.heap.size w X→∀ d os,Calls Tryz.prog 144 #[.agg #[.int .i64 k1,vi,vk,vd,.string t1,vv,vf,.int .i64 n1,.int .u64 x1,.int .i64 g1,.int .i64 c1,.int .i64 q1,.int .i64 r1,.int .i64 l1]] (grow (redrawn X d) os) fun e w''=>e=.returned (.agg OA)∧∃ q:Regrown,w''=grow (redrawn X q.d) q.os):=HOW.out
 have HSA2:Hid (∀ X,Below w.heap.size w X→∀ d os,Calls Tryz.prog 143 #[.agg #[.int .i64 k1,vi,vk,vd,.string t1,vv,vf,.int .i64 n1,.int .u64 x1,.int .i64 g1,.int .i64 c1,.int .i64 q1,.int .i64 r1,.int .i64 l1],.agg OA] (grow (redrawn X d) os) fun e w''=>e=.returned (.bool R2)∧∃ q:Regrown,w''=grow (redrawn X q.d) q.os):=HSA.out
 show Calls Tryz.prog _ #[.agg #[.int .i64 k1,vi,vk,vd,.string t1,vv,vf,.int .i64 n1,.int .u64 x1,.int .i64 g1,.int .i64 c1,.int .i64 q1,.int .i64 r1,.int .i64 l1]] w _
 clear HRI HOW HSA HB1 hX2 hXr hXs
 go_enter Tryz.func135,Tryz.ntmps135
 go_wp2_with fail
 generalize (w.alloc (.cells #[.int .i64 k1,vi,vk,vd,.string t1,vv,vf,.int .i64 n1,.int .u64 x1,.int .i64 g1,.int .i64 c1,.int .i64 q1,.int .i64 r1,.int .i64 l1] 59))=X at *
 have HR:=hid (HRI2.out X HB2.out)
 have HO:=hid (HOW2.out X HB2.out)
 have HS:=hid (HSA2.out X HB2.out)
 clear HRI2 HOW2 HSA2
 cases R1
 all_goals
  refine wp_region_quiet_below (by kernel_rfl) (by kernel_rfl) ?_
  repeat (go_big_quiet_step (first|exact HR.out _ _|exact HO.out _ _|exact HS.out _ _))
  refine wpQuiet_nil ?_
  intro _ hw'
  obtain⟨⟨dq,osq⟩,hw''⟩:=hw'
  subst hw''
  have HBE:=hid (HB2.out.trans ((below_regrown X dq osq).mono HB2.out.size))
  clear hl2
  go_wp2
  go_ret
  refine⟨ret_bool ?_,HBE.out⟩
  rw[HI.out]
  rfl
end
end Go.Proofs.YtbghhklbfnplbaaGreat

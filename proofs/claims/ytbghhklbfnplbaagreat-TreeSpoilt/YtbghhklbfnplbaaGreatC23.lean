import Derived.Test.YtbghhklbfnplbaaGreatC00
import Derived.Test.YtbghhklbfnplbaaGreatC18
set_option maxHeartbeats 8000000
set_option maxRecDepth 100000
namespace Go.Proofs.YtbghhklbfnplbaaGreat
section
open Go.RowKit Go.Sort
theorem refIs_free (p:PageD) (vi vk vd vv vf:Value) (w:World) (hp:Hangs w p vi vk vd vv vf) (hkd:(p.kind==1)=false∧(p.kind==2)=false∧(p.kind==3)=false∧(p.kind==4)=false∧(p.kind==5)=true) (hfl:p.free.length≤140737488355328) :
  Calls Tryz.prog 40 #[.agg (pageCells p vi vk vd vv vf).toArray] w fun e w'=>e=.returned (.bool (freeB p))∧Below w.heap.size w w':=by
 obtain⟨k1,i1,y1,d1,t1,v1,f1,n1,⟨x1,⟨g1,c1,q1⟩,r1,l1⟩⟩:=p
 have HH:Hid (∀ W,Below w.heap.size w W→Hangs W _ vi vk vd vv vf):=fun W hW=>hp.below hW
 obtain⟨aoI,capI,rfl,him,hitI⟩:=hp.items
 obtain⟨aoK,capK,rfl,hkm,hitK⟩:=hp.keys
 obtain⟨aoD,capD,rfl,hdm,hitD⟩:=hp.kids
 obtain⟨aoV,capV,rfl,hvm,_⟩:=hp.vals
 obtain⟨aoF,capF,rfl,hfm,_⟩:=hp.free
 have htm:=hp.text
 simp only at him hkm hdm hvm hfm htm hitI hitK hitD hkd hfl
 unfold maxLen at him hkm hdm hvm hfm htm
 have HII:=hid hitI
 have HIK:=hid hitK
 have HID:=hid hitD
 have HFL:=hid hfl
 obtain⟨hkd0,hkd1,hkd2,hkd3,hkd4⟩:=hkd
 clear hp hitI hitK hitD hfl HII HIK HID
 have HFR:=hid (fun W hW=>refFrees_any ⟨k1,i1,y1,d1,t1,v1,f1,n1,⟨x1,⟨g1,c1,q1⟩,r1,l1⟩⟩ (.slice aoI i1.length capI) (.slice aoK y1.length capK) (.slice aoD d1.length capD) (.slice aoV v1.length capV) _ W (HH.out W hW).free HFL.out)
 clear HH HFL
 have hnm:=neqMeta x1 g1 c1 q1 r1 l1
 show Calls Tryz.prog _ #[.agg #[.int .i64 k1,.slice aoI i1.length capI,.slice aoK y1.length capK,.slice aoD d1.length capD,.string t1,.slice aoV v1.length capV,.slice aoF f1.length capF,.int .i64 n1,.int .u64 x1,.int .i64 g1,.int .i64 c1,.int .i64 q1,.int .i64 r1,.int .i64 l1]] w _
 cases hs1:decide (0<y1.length)
 all_goals cases hs2:decide (0<f1.length)
 all_goals
  go_enter Tryz.func40,Tryz.ntmps40
  go_wp2_with fail
  refine wp_region_quiet_lit (by kernel_rfl) (by kernel_rfl) ?_
  repeat (go_big_quiet_step (fail))
  refine wpQuiet_nil ?_
  intro _ hw'
  obtain⟨nq,hw''⟩:=hw'
  subst hw''
  clear hnm
  obtain⟨X,hX,hbX,hsz,hj0,hj1,hj2,hj3,hj4,hj5,hj6,hj7,hj8,hj9,hj10,hj11,hj12,hj13⟩:=boxed14 w nq 59 (.int .i64 k1) (.slice aoI i1.length capI) (.slice aoK y1.length capK) (.slice aoD d1.length capD) (.string t1) (.slice aoV v1.length capV) (.slice aoF f1.length capF) (.int .i64 n1) (.int .u64 x1) (.int .i64 g1) (.int .i64 c1) (.int .i64 q1) (.int .i64 r1) (.int .i64 l1)
  rw[hX]
  clear hX
  go_wp2_with ((go_at_call 71;refine Calls.mono (HFR.out _ hbX) ?_;rintro e w2 ⟨rfl,hb2⟩;have hX4:=hbX.trans (hb2.mono hbX.size);have hcc4:=bcell hb2;clear hb2))
 all_goals
  go_ret
  refine⟨ret_bool ?_,by first|assumption|exact hbX.alloc hbX.size _⟩
  clear hj0 hj1 hj2 hj3 hj4 hj5 hj6 hj7 hj8 hj9 hj10 hj11 hj12 hj13 hsz hbX
  try clear HP
  try clear HR
  try clear HVA
  try clear HFR
  try clear hX2 hcc2
  try clear hX3 hcc3
  try clear hX4 hcc4
 all_goals first
  | rfl
  | (simp_all [freeB,noItems,noText,noVals,hasKids,hasMeta];done)
  | (simp_all [freeB,noItems,noText,noVals,hasKids,hasMeta];omega)
  | (rw[Bool.eq_iff_iff];simp_all [freeB,noItems,noText,noVals,hasKids,hasMeta];done)
  | (rw[Bool.eq_iff_iff];simp_all [freeB,noItems,noText,noVals,hasKids,hasMeta];omega)
end
section
open Go.RowKit Go.Sort
theorem refIs_meta (p:PageD) (vi vk vd vv vf:Value) (w:World) (hp:Hangs w p vi vk vd vv vf) (hkd:(p.kind==1)=false∧(p.kind==2)=false∧(p.kind==3)=false∧(p.kind==4)=false∧(p.kind==5)=false∧(p.kind==6)=true) (hfl:p.free.length≤140737488355328) :
  Calls Tryz.prog 40 #[.agg (pageCells p vi vk vd vv vf).toArray] w fun e w'=>e=.returned (.bool (metaPB p))∧Below w.heap.size w w':=by
 obtain⟨k1,i1,y1,d1,t1,v1,f1,n1,⟨x1,⟨g1,c1,q1⟩,r1,l1⟩⟩:=p
 have HH:Hid (∀ W,Below w.heap.size w W→Hangs W _ vi vk vd vv vf):=fun W hW=>hp.below hW
 obtain⟨aoI,capI,rfl,him,hitI⟩:=hp.items
 obtain⟨aoK,capK,rfl,hkm,hitK⟩:=hp.keys
 obtain⟨aoD,capD,rfl,hdm,hitD⟩:=hp.kids
 obtain⟨aoV,capV,rfl,hvm,_⟩:=hp.vals
 obtain⟨aoF,capF,rfl,hfm,_⟩:=hp.free
 have htm:=hp.text
 simp only at him hkm hdm hvm hfm htm hitI hitK hitD hkd hfl
 unfold maxLen at him hkm hdm hvm hfm htm
 have HII:=hid hitI
 have HIK:=hid hitK
 have HID:=hid hitD
 have HFL:=hid hfl
 obtain⟨hkd0,hkd1,hkd2,hkd3,hkd4,hkd5⟩:=hkd
 clear hp hitI hitK hitD hfl HII HIK HID
 have HP:=hid (fun (n:Int) W=>refPage_any n W)
 have HR:=hid (fun W=>refRoot_any ⟨g1,c1,q1⟩ W)
 clear HH HFL
 have hnm:=neqMeta x1 g1 c1 q1 r1 l1
 show Calls Tryz.prog _ #[.agg #[.int .i64 k1,.slice aoI i1.length capI,.slice aoK y1.length capK,.slice aoD d1.length capD,.string t1,.slice aoV v1.length capV,.slice aoF f1.length capF,.int .i64 n1,.int .u64 x1,.int .i64 g1,.int .i64 c1,.int .i64 q1,.int .i64 r1,.int .i64 l1]] w _
 cases hs1:decide (0<y1.length)
 all_goals cases hs2:decide (0<f1.length)
 all_goals
  go_enter Tryz.func40,Tryz.ntmps40
  go_wp2_with fail
  refine wp_region_quiet_lit (by kernel_rfl) (by kernel_rfl) ?_
  repeat (go_big_quiet_step (fail))
  refine wpQuiet_nil ?_
  intro _ hw'
  obtain⟨nq,hw''⟩:=hw'
  subst hw''
  clear hnm
  obtain⟨X,hX,hbX,hsz,hj0,hj1,hj2,hj3,hj4,hj5,hj6,hj7,hj8,hj9,hj10,hj11,hj12,hj13⟩:=boxed14 w nq 59 (.int .i64 k1) (.slice aoI i1.length capI) (.slice aoK y1.length capK) (.slice aoD d1.length capD) (.string t1) (.slice aoV v1.length capV) (.slice aoF f1.length capF) (.int .i64 n1) (.int .u64 x1) (.int .i64 g1) (.int .i64 c1) (.int .i64 q1) (.int .i64 r1) (.int .i64 l1)
  rw[hX]
  clear hX
  go_wp2_with (first|(go_at_call 68;refine Calls.mono (HP.out _ _) ?_;rintro e w2 ⟨rfl,rfl⟩)|(go_at_call 72;refine Calls.mono (HR.out _) ?_;rintro e w2 ⟨rfl,hb2⟩;have hX2:=below_alloc_call hbX hb2;have hcc2:=bcell hb2;clear hb2))
 all_goals
  go_ret
  refine⟨ret_bool ?_,by first|assumption|exact hbX.alloc hbX.size _⟩
  clear hj0 hj1 hj2 hj3 hj4 hj5 hj6 hj7 hj8 hj9 hj10 hj11 hj12 hj13 hsz hbX
  try clear HP
  try clear HR
  try clear HVA
  try clear HFR
  try clear hX2 hcc2
  try clear hX3 hcc3
  try clear hX4 hcc4
 all_goals first
  | rfl
  | (simp_all [metaPB,noItems,noText,noVals,hasKids,hasFree];done)
  | (simp_all [metaPB,noItems,noText,noVals,hasKids,hasFree];omega)
  | (rw[Bool.eq_iff_iff];simp_all [metaPB,noItems,noText,noVals,hasKids,hasFree];done)
  | (rw[Bool.eq_iff_iff];simp_all [metaPB,noItems,noText,noVals,hasKids,hasFree];omega)
end
section
open Go.RowKit Go.Sort
theorem refIs_none (p:PageD) (vi vk vd vv vf:Value) (w:World) (hp:Hangs w p vi vk vd vv vf) (hkd:(p.kind==1)=false∧(p.kind==2)=false∧(p.kind==3)=false∧(p.kind==4)=false∧(p.kind==5)=false∧(p.kind==6)=false) (hfl:p.free.length≤140737488355328) :
  Calls Tryz.prog 40 #[.agg (pageCells p vi vk vd vv vf).toArray] w fun e w'=>e=.returned (.bool (false))∧Below w.heap.size w w':=by
 obtain⟨k1,i1,y1,d1,t1,v1,f1,n1,⟨x1,⟨g1,c1,q1⟩,r1,l1⟩⟩:=p
 have HH:Hid (∀ W,Below w.heap.size w W→Hangs W _ vi vk vd vv vf):=fun W hW=>hp.below hW
 obtain⟨aoI,capI,rfl,him,hitI⟩:=hp.items
 obtain⟨aoK,capK,rfl,hkm,hitK⟩:=hp.keys
 obtain⟨aoD,capD,rfl,hdm,hitD⟩:=hp.kids
 obtain⟨aoV,capV,rfl,hvm,_⟩:=hp.vals
 obtain⟨aoF,capF,rfl,hfm,_⟩:=hp.free
 have htm:=hp.text
 simp only at him hkm hdm hvm hfm htm hitI hitK hitD hkd hfl
 unfold maxLen at him hkm hdm hvm hfm htm
 have HII:=hid hitI
 have HIK:=hid hitK
 have HID:=hid hitD
 have HFL:=hid hfl
 obtain⟨hkd0,hkd1,hkd2,hkd3,hkd4,hkd5⟩:=hkd
 clear hp hitI hitK hitD hfl HII HIK HID
 clear HH HFL
 have hnm:=neqMeta x1 g1 c1 q1 r1 l1
 show Calls Tryz.prog _ #[.agg #[.int .i64 k1,.slice aoI i1.length capI,.slice aoK y1.length capK,.slice aoD d1.length capD,.string t1,.slice aoV v1.length capV,.slice aoF f1.length capF,.int .i64 n1,.int .u64 x1,.int .i64 g1,.int .i64 c1,.int .i64 q1,.int .i64 r1,.int .i64 l1]] w _
 cases hs1:decide (0<y1.length)
 all_goals cases hs2:decide (0<f1.length)
 all_goals
  go_enter Tryz.func40,Tryz.ntmps40
  go_wp2_with fail
  refine wp_region_quiet_lit (by kernel_rfl) (by kernel_rfl) ?_
  repeat (go_big_quiet_step (fail))
  refine wpQuiet_nil ?_
  intro _ hw'
  obtain⟨nq,hw''⟩:=hw'
  subst hw''
  clear hnm
  obtain⟨X,hX,hbX,hsz,hj0,hj1,hj2,hj3,hj4,hj5,hj6,hj7,hj8,hj9,hj10,hj11,hj12,hj13⟩:=boxed14 w nq 59 (.int .i64 k1) (.slice aoI i1.length capI) (.slice aoK y1.length capK) (.slice aoD d1.length capD) (.string t1) (.slice aoV v1.length capV) (.slice aoF f1.length capF) (.int .i64 n1) (.int .u64 x1) (.int .i64 g1) (.int .i64 c1) (.int .i64 q1) (.int .i64 r1) (.int .i64 l1)
  rw[hX]
  clear hX
  go_wp2
 all_goals
  go_ret
  refine⟨ret_bool ?_,by first|assumption|exact hbX.alloc hbX.size _⟩
  clear hj0 hj1 hj2 hj3 hj4 hj5 hj6 hj7 hj8 hj9 hj10 hj11 hj12 hj13 hsz hbX
  try clear HP
  try clear HR
  try clear HVA
  try clear HFR
  try clear hX2 hcc2
  try clear hX3 hcc3
  try clear hX4 hcc4
 all_goals first
  | rfl
  | (simp_all [];done)
  | (simp_all [];omega)
  | (rw[Bool.eq_iff_iff];simp_all [];done)
  | (rw[Bool.eq_iff_iff];simp_all [];omega)
end
end Go.Proofs.YtbghhklbfnplbaaGreat

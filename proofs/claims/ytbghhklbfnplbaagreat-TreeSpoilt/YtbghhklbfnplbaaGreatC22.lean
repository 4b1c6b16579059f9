import Derived.Test.YtbghhklbfnplbaaGreatC00
import Derived.Test.YtbghhklbfnplbaaGreatC18
set_option maxHeartbeats 8000000
set_option maxRecDepth 100000
namespace Go.Proofs.YtbghhklbfnplbaaGreat
section
open Go.RowKit Go.Sort
theorem refIs_branch_e (p:PageD) (vi vk vd vv vf:Value) (w:World) (hp:Hangs w p vi vk vd vv vf) (hkd:(p.kind==1)=false∧(p.kind==2)=true) (hfl:p.free.length≤140737488355328) (hlen:¬ p.keys.length=p.kids.length) :
  Calls Tryz.prog 40 #[.agg (pageCells p vi vk vd vv vf).toArray] w fun e w'=>e=.returned (.bool (branchB p))∧Below w.heap.size w w':=by
 obtain⟨k1,i1,y1,d1,t1,v1,f1,n1,⟨x1,⟨g1,c1,q1⟩,r1,l1⟩⟩:=p
 have HH:Hid (∀ W,Below w.heap.size w W→Hangs W _ vi vk vd vv vf):=fun W hW=>hp.below hW
 obtain⟨aoI,capI,rfl,him,hitI⟩:=hp.items
 obtain⟨aoK,capK,rfl,hkm,hitK⟩:=hp.keys
 obtain⟨aoD,capD,rfl,hdm,hitD⟩:=hp.kids
 obtain⟨aoV,capV,rfl,hvm,_⟩:=hp.vals
 obtain⟨aoF,capF,rfl,hfm,_⟩:=hp.free
 have htm:=hp.text
 simp only at him hkm hdm hvm hfm htm hitI hitK hitD hkd hfl
 unfold maxLen at him hkm hdm hvm hfm htm
 have HII:=hid hitI
 have HIK:=hid hitK
 have HID:=hid hitD
 have HFL:=hid hfl
 obtain⟨hkd1,hkd2⟩:=hkd
 simp only at hlen
 have hlB:((y1.length:Int)==(d1.length:Int))=false:=by simp;omega
 have HLEN:=hid hlen
 clear hp hitI hitK hitD hfl HII HIK HID HFL HH hlen
 have hnm:=neqMeta x1 g1 c1 q1 r1 l1
 show Calls Tryz.prog _ #[.agg #[.int .i64 k1,.slice aoI i1.length capI,.slice aoK y1.length capK,.slice aoD d1.length capD,.string t1,.slice aoV v1.length capV,.slice aoF f1.length capF,.int .i64 n1,.int .u64 x1,.int .i64 g1,.int .i64 c1,.int .i64 q1,.int .i64 r1,.int .i64 l1]] w _
 cases hs1:decide (0<y1.length)
 all_goals cases hs2:decide (0<f1.length)
 all_goals cases hs3:decide ((0:Int)<(d1.length:Int))
 all_goals
  go_enter Tryz.func40,Tryz.ntmps40
  go_wp2_with fail
  refine wp_region_quiet_lit (by kernel_rfl) (by kernel_rfl) ?_
  repeat (go_big_quiet_step (fail))
  refine wpQuiet_nil ?_
  intro _ hw'
  obtain⟨nq,hw''⟩:=hw'
  subst hw''
  clear hnm
  obtain⟨X,hX,hbX,hsz,hj0,hj1,hj2,hj3,hj4,hj5,hj6,hj7,hj8,hj9,hj10,hj11,hj12,hj13⟩:=boxed14 w nq 59 (.int .i64 k1) (.slice aoI i1.length capI) (.slice aoK y1.length capK) (.slice aoD d1.length capD) (.string t1) (.slice aoV v1.length capV) (.slice aoF f1.length capF) (.int .i64 n1) (.int .u64 x1) (.int .i64 g1) (.int .i64 c1) (.int .i64 q1) (.int .i64 r1) (.int .i64 l1)
  rw[hX]
  clear hX
  go_wp2
  refine wp_loop_rounds 1 ?_
  rw[rounds_succ]
  go_wp2
 all_goals
  go_ret
  refine⟨ret_bool ?_,by first|assumption|exact hbX.alloc hbX.size _⟩
  have hb:branchB ⟨k1,i1,y1,d1,t1,v1,f1,n1,⟨x1,⟨g1,c1,q1⟩,r1,l1⟩⟩=false:=by simp[branchB,HLEN.out]
  rw[hb]
  try first
   | rfl
   | (simp;done)
   | (simp;omega)
   | (simp_all;done)
end
section
open Go.RowKit Go.Sort
theorem refIs_over (p:PageD) (vi vk vd vv vf:Value) (w:World) (hp:Hangs w p vi vk vd vv vf) (hkd:(p.kind==1)=false∧(p.kind==2)=false∧(p.kind==3)=true) (hfl:p.free.length≤140737488355328) :
  Calls Tryz.prog 40 #[.agg (pageCells p vi vk vd vv vf).toArray] w fun e w'=>e=.returned (.bool (overB p))∧Below w.heap.size w w':=by
 obtain⟨k1,i1,y1,d1,t1,v1,f1,n1,⟨x1,⟨g1,c1,q1⟩,r1,l1⟩⟩:=p
 have HH:Hid (∀ W,Below w.heap.size w W→Hangs W _ vi vk vd vv vf):=fun W hW=>hp.below hW
 obtain⟨aoI,capI,rfl,him,hitI⟩:=hp.items
 obtain⟨aoK,capK,rfl,hkm,hitK⟩:=hp.keys
 obtain⟨aoD,capD,rfl,hdm,hitD⟩:=hp.kids
 obtain⟨aoV,capV,rfl,hvm,_⟩:=hp.vals
 obtain⟨aoF,capF,rfl,hfm,_⟩:=hp.free
 have htm:=hp.text
 simp only at him hkm hdm hvm hfm htm hitI hitK hitD hkd hfl
 unfold maxLen at him hkm hdm hvm hfm htm
 have HII:=hid hitI
 have HIK:=hid hitK
 have HID:=hid hitD
 have HFL:=hid hfl
 obtain⟨hkd0,hkd1,hkd2⟩:=hkd
 clear hp hitI hitK hitD hfl HII HIK HID
 clear HH HFL
 have hnm:=neqMeta x1 g1 c1 q1 r1 l1
 show Calls Tryz.prog _ #[.agg #[.int .i64 k1,.slice aoI i1.length capI,.slice aoK y1.length capK,.slice aoD d1.length capD,.string t1,.slice aoV v1.length capV,.slice aoF f1.length capF,.int .i64 n1,.int .u64 x1,.int .i64 g1,.int .i64 c1,.int .i64 q1,.int .i64 r1,.int .i64 l1]] w _
 cases hs1:decide (0<y1.length)
 all_goals cases hs2:decide (0<f1.length)
 all_goals
  go_enter Tryz.func40,Tryz.ntmps40
  go_wp2_with fail
  refine wp_region_quiet_lit (by kernel_rfl) (by kernel_rfl) ?_
  repeat (go_big_quiet_step (fail))
  refine wpQuiet_nil ?_
  intro _ hw'
  obtain⟨nq,hw''⟩:=hw'
  subst hw''
  clear hnm
  obtain⟨X,hX,hbX,hsz,hj0,hj1,hj2,hj3,hj4,hj5,hj6,hj7,hj8,hj9,hj10,hj11,hj12,hj13⟩:=boxed14 w nq 59 (.int .i64 k1) (.slice aoI i1.length capI) (.slice aoK y1.length capK) (.slice aoD d1.length capD) (.string t1) (.slice aoV v1.length capV) (.slice aoF f1.length capF) (.int .i64 n1) (.int .u64 x1) (.int .i64 g1) (.int .i64 c1) (.int .i64 q1) (.int .i64 r1) (.int .i64 l1)
  rw[hX]
  clear hX
  go_wp2
 all_goals
  go_ret
  refine⟨ret_bool ?_,by first|assumption|exact hbX.alloc hbX.size _⟩
  clear hj0 hj1 hj2 hj3 hj4 hj5 hj6 hj7 hj8 hj9 hj10 hj11 hj12 hj13 hsz hbX
  try clear HP
  try clear HR
  try clear HVA
  try clear HFR
  try clear hX2 hcc2
  try clear hX3 hcc3
  try clear hX4 hcc4
 all_goals first
  | rfl
  | (simp_all [overB,noItems,noText,noVals,hasKids,hasFree,hasMeta];done)
  | (simp_all [overB,noItems,noText,noVals,hasKids,hasFree,hasMeta];omega)
  | (rw[Bool.eq_iff_iff];simp_all [overB,noItems,noText,noVals,hasKids,hasFree,hasMeta];done)
  | (rw[Bool.eq_iff_iff];simp_all [overB,noItems,noText,noVals,hasKids,hasFree,hasMeta];omega)
end
section
open Go.RowKit Go.Sort
theorem refIs_dup (p:PageD) (vi vk vd vv vf:Value) (w:World) (hp:Hangs w p vi vk vd vv vf) (hkd:(p.kind==1)=false∧(p.kind==2)=false∧(p.kind==3)=false∧(p.kind==4)=true) (hfl:p.free.length≤140737488355328) :
  Calls Tryz.prog 40 #[.agg (pageCells p vi vk vd vv vf).toArray] w fun e w'=>e=.returned (.bool (dupB p))∧Below w.heap.size w w':=by
 obtain⟨k1,i1,y1,d1,t1,v1,f1,n1,⟨x1,⟨g1,c1,q1⟩,r1,l1⟩⟩:=p
 have HH:Hid (∀ W,Below w.heap.size w W→Hangs W _ vi vk vd vv vf):=fun W hW=>hp.below hW
 obtain⟨aoI,capI,rfl,him,hitI⟩:=hp.items
 obtain⟨aoK,capK,rfl,hkm,hitK⟩:=hp.keys
 obtain⟨aoD,capD,rfl,hdm,hitD⟩:=hp.kids
 obtain⟨aoV,capV,rfl,hvm,_⟩:=hp.vals
 obtain⟨aoF,capF,rfl,hfm,_⟩:=hp.free
 have htm:=hp.text
 simp only at him hkm hdm hvm hfm htm hitI hitK hitD hkd hfl
 unfold maxLen at him hkm hdm hvm hfm htm
 have HII:=hid hitI
 have HIK:=hid hitK
 have HID:=hid hitD
 have HFL:=hid hfl
 obtain⟨hkd0,hkd1,hkd2,hkd3⟩:=hkd
 clear hp hitI hitK hitD hfl HII HIK HID
 have HVA:=hid (fun W hW=>refVals_any v1 _ 4 12 W (HH.out W hW).vals)
 clear HH HFL
 have hnm:=neqMeta x1 g1 c1 q1 r1 l1
 show Calls Tryz.prog _ #[.agg #[.int .i64 k1,.slice aoI i1.length capI,.slice aoK y1.length capK,.slice aoD d1.length capD,.string t1,.slice aoV v1.length capV,.slice aoF f1.length capF,.int .i64 n1,.int .u64 x1,.int .i64 g1,.int .i64 c1,.int .i64 q1,.int .i64 r1,.int .i64 l1]] w _
 cases hs1:decide (0<y1.length)
 all_goals cases hs2:decide (0<f1.length)
 all_goals
  go_enter Tryz.func40,Tryz.ntmps40
  go_wp2_with fail
  refine wp_region_quiet_lit (by kernel_rfl) (by kernel_rfl) ?_
  repeat (go_big_quiet_step (fail))
  refine wpQuiet_nil ?_
  intro _ hw'
  obtain⟨nq,hw''⟩:=hw'
  subst hw''
  clear hnm
  obtain⟨X,hX,hbX,hsz,hj0,hj1,hj2,hj3,hj4,hj5,hj6,hj7,hj8,hj9,hj10,hj11,hj12,hj13⟩:=boxed14 w nq 59 (.int .i64 k1) (.slice aoI i1.length capI) (.slice aoK y1.length capK) (.slice aoD d1.length capD) (.string t1) (.slice aoV v1.length capV) (.slice aoF f1.length capF) (.int .i64 n1) (.int .u64 x1) (.int .i64 g1) (.int .i64 c1) (.int .i64 q1) (.int .i64 r1) (.int .i64 l1)
  rw[hX]
  clear hX
  go_wp2_with ((go_at_call 70;refine Calls.mono (HVA.out _ hbX) ?_;rintro e w2 ⟨rfl,hb2⟩;have hX3:=hbX.trans (hb2.mono hbX.size);have hcc3:=bcell hb2;clear hb2))
 all_goals
  go_ret
  refine⟨ret_bool ?_,by first|assumption|exact hbX.alloc hbX.size _⟩
  clear hj0 hj1 hj2 hj3 hj4 hj5 hj6 hj7 hj8 hj9 hj10 hj11 hj12 hj13 hsz hbX
  try clear HP
  try clear HR
  try clear HVA
  try clear HFR
  try clear hX2 hcc2
  try clear hX3 hcc3
  try clear hX4 hcc4
 all_goals first
  | rfl
  | (simp_all [dupB,noItems,noText,hasKids,hasFree,hasMeta];done)
  | (simp_all [dupB,noItems,noText,hasKids,hasFree,hasMeta];omega)
  | (rw[Bool.eq_iff_iff];simp_all [dupB,noItems,noText,hasKids,hasFree,hasMeta];done)
  | (rw[Bool.eq_iff_iff];simp_all [dupB,noItems,noText,hasKids,hasFree,hasMeta];omega)
end
end Go.Proofs.YtbghhklbfnplbaaGreat

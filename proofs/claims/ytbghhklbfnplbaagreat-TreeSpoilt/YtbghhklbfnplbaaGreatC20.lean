import Derived.Test.YtbghhklbfnplbaaGreatC00
import Derived.Test.YtbghhklbfnplbaaGreatC18
set_option maxHeartbeats 16000000
set_option maxRecDepth 100000
namespace Go.Proofs.YtbghhklbfnplbaaGreat
section
open Go.RowKit Go.Sort
theorem refIs_branch_f {s2:Bool} (p:PageD) (vi vk vd vv vf:Value) (w:World) (hp:Hangs w p vi vk vd vv vf) (hkd:(p.kind==1)=false∧(p.kind==2)=true) (hfl:p.free.length≤140737488355328) (hlen:p.keys.length=p.kids.length) (hs1:decide (0<p.keys.length)=false) (hs2:decide (0<p.free.length)=s2) :
  Calls Tryz.prog 40 #[.agg (pageCells p vi vk vd vv vf).toArray] w fun e w'=>e=.returned (.bool (branchB p))∧Below w.heap.size w w':=by
 obtain⟨k1,i1,y1,d1,t1,v1,f1,n1,⟨x1,⟨g1,c1,q1⟩,r1,l1⟩⟩:=p
 have HH:Hid (∀ W,Below w.heap.size w W→Hangs W _ vi vk vd vv vf):=fun W hW=>hp.below hW
 obtain⟨aoI,capI,rfl,him,hitI⟩:=hp.items
 obtain⟨aoK,capK,rfl,hkm,hitK⟩:=hp.keys
 obtain⟨aoD,capD,rfl,hdm,hitD⟩:=hp.kids
 obtain⟨aoV,capV,rfl,hvm,_⟩:=hp.vals
 obtain⟨aoF,capF,rfl,hfm,_⟩:=hp.free
 have htm:=hp.text
 simp only at him hkm hdm hvm hfm htm hitI hitK hitD hkd hfl
 unfold maxLen at him hkm hdm hvm hfm htm
 have HII:=hid hitI
 have HIK:=hid hitK
 have HID:=hid hitD
 have HFL:=hid hfl
 obtain⟨hkd1,hkd2⟩:=hkd
 have HP:=hid (fun (n:Int) W=>refPage_any n W)
 simp only at hlen
 have hlB:((y1.length:Int)==(d1.length:Int))=true:=by simp;omega
 have HLEN:=hid hlen
 clear hp hitI hitK hitD hfl HII HFL HH hlen
 have hnm:=neqMeta x1 g1 c1 q1 r1 l1
 show Calls Tryz.prog _ #[.agg #[.int .i64 k1,.slice aoI i1.length capI,.slice aoK y1.length capK,.slice aoD d1.length capD,.string t1,.slice aoV v1.length capV,.slice aoF f1.length capF,.int .i64 n1,.int .u64 x1,.int .i64 g1,.int .i64 c1,.int .i64 q1,.int .i64 r1,.int .i64 l1]] w _
 simp only at hs1 hs2
 cases s2
 all_goals
  go_enter Tryz.func40,Tryz.ntmps40
  go_wp2_with fail
  refine wp_region_quiet_lit (by kernel_rfl) (by kernel_rfl) ?_
  repeat (go_big_quiet_step (fail))
  refine wpQuiet_nil ?_
  intro _ hw'
  obtain⟨nq,hw''⟩:=hw'
  subst hw''
  clear hnm
  obtain⟨X,hX,hbX,hsz,hj0,hj1,hj2,hj3,hj4,hj5,hj6,hj7,hj8,hj9,hj10,hj11,hj12,hj13⟩:=boxed14 w nq 59 (.int .i64 k1) (.slice aoI i1.length capI) (.slice aoK y1.length capK) (.slice aoD d1.length capD) (.string t1) (.slice aoV v1.length capV) (.slice aoF f1.length capF) (.int .i64 n1) (.int .u64 x1) (.int .i64 g1) (.int .i64 c1) (.int .i64 q1) (.int .i64 r1) (.int .i64 l1)
  rw[hX]
  clear hX
  have HX:=hid hbX
  have HJ2:=hid hj2
  have HJ3:=hid hj3
  go_wp2
  clear hj0 hj1 hj2 hj3 hj4 hj5 hj6 hj7 hj8 hj9 hj10 hj11 hj12 hj13 hbX
  go_loopw [10] (fun i wr=>∃ k:Nat,k≤d1.length∧i=.int .i64 k∧Hid ((List.range k).all (goodB y1 d1)=true)∧Below X.heap.size X wr) (fun i _=>d1.length - (intOf i).toNat)
  case atStart=>exact⟨0,Nat.zero_le _,rfl,rfl,qB _ _⟩
  case round=>
   obtain⟨k,hk,rfl,hall,hbel⟩:=hrel
   have hk2:wr.cell? ⟨w.heap.size,2,none⟩=some (.slice aoK y1.length capK):=(hbel.cell (p:=⟨w.heap.size,2,none⟩) hsz).trans HJ2.out
   have hk3:wr.cell? ⟨w.heap.size,3,none⟩=some (.slice aoD d1.length capD):=(hbel.cell (p:=⟨w.heap.size,3,none⟩) hsz).trans HJ3.out
   have hbw:=HX.out.trans (hbel.mono HX.out.size)
   by_cases hlt:k<d1.length
   ·have hlty:k<y1.length:=by rw[HLEN.out];exact hlt
    obtain⟨a,ha,hce⟩:=HID.out k hlt
    have hcd:wr.cell? (a.add k)=some (.int .i64 d1[k]):=(hbw.cell (p:=a.add k) (qF w _ hce)).trans hce
    have hia:=atInts (ao:=aoD) d1.length capD k ha hlt
    have HGD:Hid (d1.getD k 0=d1[k]):=by show _=_;simp[hlt]
    have HSU:=hid (all_range_succ (goodB y1 d1) k)
    have HBD:=hid (all_range_bad (goodB y1 d1) k d1.length hlt)
    clear hce ha
    cases hpg:pageB d1[k]
    ·have HGO:Hid (goodB y1 d1 k=false):=by show _=_;unfold goodB;rw[HGD.out,hpg];rfl
     have HSH:=hid (fun W=>refShort_any ⟨#[]⟩ W (by decide))
     go_wp2_with fail
     go_quiet ((first|(go_at_call 68;exact Calls.quiet_of_same (HP.out _ _))|(go_at_call 69;exact Calls.quiet_of_same (HSH.out _))))
     have HBE:=hid (hbel.trans ((below_draws wr nq).mono hbel.size))
     clear hbel hbw
     go_wp2
     go_ret
     refine⟨ret_bool ?_,HX.out.trans (HBE.out.mono HX.out.size)⟩
     simp[branchB,HBD.out HGO.out]
    ·by_cases hk0:0<k
     ·have hd:decide (0<k)=true:=by simp;omega
      have hz0:((k:Int)==0)=false:=beq_eq_false_iff_ne.2 (by omega)
      obtain⟨j,hj2',hj3'⟩:∃ j:Nat,(j:Int)+1≤(k:Int)∧(k:Int)≤(j:Int)+1:=⟨k - 1,by omega,by omega⟩
      have hjl:j<y1.length:=by omega
      obtain⟨b,hb,hcb,hsb⟩:=HIK.out k hlty
      obtain⟨b2,hb2,hcb2,_⟩:=HIK.out j hjl
      have hcy:wr.cell? (b.add k)=some (.string y1[k]):=(hbw.cell (p:=b.add k) (qF w _ hcb)).trans hcb
      have hcy2:wr.cell? (b2.add j)=some (.string y1[j]):=(hbw.cell (p:=b2.add j) (qF w _ hcb2)).trans hcb2
      have hib:=atStrs (ao:=aoK) y1.length capK k hb hlty
      have hib2:=atStrs (ao:=aoK) y1.length capK j hb2 hjl
      have hkj:(k:Int) - 1=(j:Int):=by omega
      have HGK:Hid (keyAt y1 k=y1[k]∧keyAt y1 (k - 1)=y1[j]):=by
       refine⟨by simp[keyAt,hlty],?_⟩
       have:k - 1=j:=by omega
       rw[this]
       simp[keyAt,hjl]
      have HSH:=hid (fun W=>refShort_any y1[k] W hsb)
      have HK0:Hid (¬ k=0):=by show ¬ _;omega
      clear hb hb2 hcb hcb2 hsb hk0
      cases hsh:shortB y1[k]
      ·have HGO:Hid (goodB y1 d1 k=false):=by show _=_;unfold goodB;rw[if_neg HK0.out,HGK.out.1,hsh];simp
       go_wp2_with fail
       go_quiet ((first|(go_at_call 68;exact Calls.quiet_of_same (HP.out _ _))|(go_at_call 69;exact Calls.quiet_of_same (HSH.out _))))
       have HBE:=hid (hbel.trans ((below_draws wr nq).mono hbel.size))
       clear hbel hbw
       go_wp2
       go_ret
       refine⟨ret_bool ?_,HX.out.trans (HBE.out.mono HX.out.size)⟩
       simp[branchB,HBD.out HGO.out]
      ·cases hlb:ltB y1[j] y1[k]
       ·have HGO:Hid (goodB y1 d1 k=false):=by show _=_;unfold goodB;rw[if_neg HK0.out,HGK.out.1,HGK.out.2,hlb];simp
        have hop:Op.bytesLess y1[j].toList y1[k].toList=false:=hlb
        clear hlb
        go_wp2_with fail
        go_quiet ((first|(go_at_call 68;exact Calls.quiet_of_same (HP.out _ _))|(go_at_call 69;exact Calls.quiet_of_same (HSH.out _))))
        have HBE:=hid (hbel.trans ((below_draws wr nq).mono hbel.size))
        clear hbel hbw
        go_wp2
        go_ret
        refine⟨ret_bool ?_,HX.out.trans (HBE.out.mono HX.out.size)⟩
        simp[branchB,HBD.out HGO.out]
       ·have HGO:Hid (goodB y1 d1 k=true):=by show _=_;unfold goodB;rw[if_neg HK0.out,HGD.out,hpg,HGK.out.1,HGK.out.2,hsh,hlb];rfl
        have hop:Op.bytesLess y1[j].toList y1[k].toList=true:=hlb
        clear hlb
        go_wp2_with fail
        go_quiet ((first|(go_at_call 68;exact Calls.quiet_of_same (HP.out _ _))|(go_at_call 69;exact Calls.quiet_of_same (HSH.out _))))
        have HBE:=hid (hbel.trans ((below_draws wr nq).mono hbel.size))
        clear hbel hbw
        go_wp2
        go_roundw
        case rel=>exact⟨k+1,by omega,by go_num,by show _=_;rw[HSU.out,hall.out,HGO.out];rfl,HBE.out⟩
        case measure=>simp[intOf];omega
     ·have hd:decide (0<k)=false:=by simp;omega
      have hz0:((k:Int)==0)=true:=beq_iff_eq.2 (by omega)
      have h0y:0<y1.length:=by omega
      obtain⟨b,hb,hcb,hsb⟩:=HIK.out 0 h0y
      have hcy:wr.cell? (b.add 0)=some (.string y1[0]):=(hbw.cell (p:=b.add 0) (qF w _ hcb)).trans hcb
      have hib:=atStrs (ao:=aoK) y1.length capK 0 hb h0y
      simp only[Int.cast_ofNat_Int] at hib
      have hcy0:wr.cell? b=some (.string y1[0]):=by simpa[Addr.add] using hcy
      have HGK:Hid (keyAt y1 0=y1[0]):=by show _=_;simp[keyAt,h0y]
      have HK0:Hid (k=0):=by show _=_;omega
      have HSH:=hid (fun W=>refShort_any y1[0] W hsb)
      clear hb hcb hsb hk0
      cases hem:y1[0].toList.isEmpty
      ·have HGO:Hid (goodB y1 d1 k=false):=by show _=_;unfold goodB;rw[if_pos HK0.out,HGK.out,hem];simp
       go_wp2_with fail
       go_quiet ((first|(go_at_call 68;exact Calls.quiet_of_same (HP.out _ _))|(go_at_call 69;exact Calls.quiet_of_same (HSH.out _))))
       have HBE:=hid (hbel.trans ((below_draws wr nq).mono hbel.size))
       clear hbel hbw
       go_wp2
       go_ret
       refine⟨ret_bool ?_,HX.out.trans (HBE.out.mono HX.out.size)⟩
       simp[branchB,HBD.out HGO.out]
      ·have HGO:Hid (goodB y1 d1 k=true):=by show _=_;unfold goodB;rw[if_pos HK0.out,HGD.out,hpg,HGK.out,hem];rfl
       go_wp2_with fail
       go_quiet ((first|(go_at_call 68;exact Calls.quiet_of_same (HP.out _ _))|(go_at_call 69;exact Calls.quiet_of_same (HSH.out _))))
       have HBE:=hid (hbel.trans ((below_draws wr nq).mono hbel.size))
       clear hbel hbw
       go_wp2
       go_roundw
       case rel=>exact⟨k+1,by omega,by go_num,by show _=_;rw[HSU.out,hall.out,HGO.out];rfl,HBE.out⟩
       case measure=>simp[intOf];omega
   ·have hke:k=d1.length:=by omega
    have HAL:Hid ((List.range d1.length).all (goodB y1 d1)=true):=by show _=_;rw[← hke];exact hall.out
    have HBW:=hid hbw
    clear hke hall hbw
    go_wp2
    all_goals
     go_ret
     refine⟨ret_bool ?_,HBW.out⟩
     have h0:=HAL.out
     have h1:=HLEN.out
     clear HBW HAL HX HJ2 HJ3 HIK HID HLEN HP hbel hk2 hk3
    all_goals first
     | rfl
     | (simp_all [branchB,noItems,noText,noVals,hasFree,hasMeta];done)
     | (simp_all [branchB,noItems,noText,noVals,hasFree,hasMeta];omega)
     | (rw[Bool.eq_iff_iff];simp_all [branchB,noItems,noText,noVals,hasFree,hasMeta];done)
     | (rw[Bool.eq_iff_iff];simp_all [branchB,noItems,noText,noVals,hasFree,hasMeta];omega)
end
section
open Go.RowKit Go.Sort
theorem refIs_branch_t {s2:Bool} (p:PageD) (vi vk vd vv vf:Value) (w:World) (hp:Hangs w p vi vk vd vv vf) (hkd:(p.kind==1)=false∧(p.kind==2)=true) (hfl:p.free.length≤140737488355328) (hlen:p.keys.length=p.kids.length) (hs1:decide (0<p.keys.length)=true) (hs2:decide (0<p.free.length)=s2) :
  Calls Tryz.prog 40 #[.agg (pageCells p vi vk vd vv vf).toArray] w fun e w'=>e=.returned (.bool (branchB p))∧Below w.heap.size w w':=by
 obtain⟨k1,i1,y1,d1,t1,v1,f1,n1,⟨x1,⟨g1,c1,q1⟩,r1,l1⟩⟩:=p
 have HH:Hid (∀ W,Below w.heap.size w W→Hangs W _ vi vk vd vv vf):=fun W hW=>hp.below hW
 obtain⟨aoI,capI,rfl,him,hitI⟩:=hp.items
 obtain⟨aoK,capK,rfl,hkm,hitK⟩:=hp.keys
 obtain⟨aoD,capD,rfl,hdm,hitD⟩:=hp.kids
 obtain⟨aoV,capV,rfl,hvm,_⟩:=hp.vals
 obtain⟨aoF,capF,rfl,hfm,_⟩:=hp.free
 have htm:=hp.text
 simp only at him hkm hdm hvm hfm htm hitI hitK hitD hkd hfl
 unfold maxLen at him hkm hdm hvm hfm htm
 have HII:=hid hitI
 have HIK:=hid hitK
 have HID:=hid hitD
 have HFL:=hid hfl
 obtain⟨hkd1,hkd2⟩:=hkd
 have HP:=hid (fun (n:Int) W=>refPage_any n W)
 simp only at hlen
 have hlB:((y1.length:Int)==(d1.length:Int))=true:=by simp;omega
 have HLEN:=hid hlen
 clear hp hitI hitK hitD hfl HII HFL HH hlen
 have hnm:=neqMeta x1 g1 c1 q1 r1 l1
 show Calls Tryz.prog _ #[.agg #[.int .i64 k1,.slice aoI i1.length capI,.slice aoK y1.length capK,.slice aoD d1.length capD,.string t1,.slice aoV v1.length capV,.slice aoF f1.length capF,.int .i64 n1,.int .u64 x1,.int .i64 g1,.int .i64 c1,.int .i64 q1,.int .i64 r1,.int .i64 l1]] w _
 simp only at hs1 hs2
 cases s2
 all_goals
  go_enter Tryz.func40,Tryz.ntmps40
  go_wp2_with fail
  refine wp_region_quiet_lit (by kernel_rfl) (by kernel_rfl) ?_
  repeat (go_big_quiet_step (fail))
  refine wpQuiet_nil ?_
  intro _ hw'
  obtain⟨nq,hw''⟩:=hw'
  subst hw''
  clear hnm
  obtain⟨X,hX,hbX,hsz,hj0,hj1,hj2,hj3,hj4,hj5,hj6,hj7,hj8,hj9,hj10,hj11,hj12,hj13⟩:=boxed14 w nq 59 (.int .i64 k1) (.slice aoI i1.length capI) (.slice aoK y1.length capK) (.slice aoD d1.length capD) (.string t1) (.slice aoV v1.length capV) (.slice aoF f1.length capF) (.int .i64 n1) (.int .u64 x1) (.int .i64 g1) (.int .i64 c1) (.int .i64 q1) (.int .i64 r1) (.int .i64 l1)
  rw[hX]
  clear hX
  have HX:=hid hbX
  have HJ2:=hid hj2
  have HJ3:=hid hj3
  go_wp2
  clear hj0 hj1 hj2 hj3 hj4 hj5 hj6 hj7 hj8 hj9 hj10 hj11 hj12 hj13 hbX
  go_loopw [10] (fun i wr=>∃ k:Nat,k≤d1.length∧i=.int .i64 k∧Hid ((List.range k).all (goodB y1 d1)=true)∧Below X.heap.size X wr) (fun i _=>d1.length - (intOf i).toNat)
  case atStart=>exact⟨0,Nat.zero_le _,rfl,rfl,qB _ _⟩
  case round=>
   obtain⟨k,hk,rfl,hall,hbel⟩:=hrel
   have hk2:wr.cell? ⟨w.heap.size,2,none⟩=some (.slice aoK y1.length capK):=(hbel.cell (p:=⟨w.heap.size,2,none⟩) hsz).trans HJ2.out
   have hk3:wr.cell? ⟨w.heap.size,3,none⟩=some (.slice aoD d1.length capD):=(hbel.cell (p:=⟨w.heap.size,3,none⟩) hsz).trans HJ3.out
   have hbw:=HX.out.trans (hbel.mono HX.out.size)
   by_cases hlt:k<d1.length
   ·have hlty:k<y1.length:=by rw[HLEN.out];exact hlt
    obtain⟨a,ha,hce⟩:=HID.out k hlt
    have hcd:wr.cell? (a.add k)=some (.int .i64 d1[k]):=(hbw.cell (p:=a.add k) (qF w _ hce)).trans hce
    have hia:=atInts (ao:=aoD) d1.length capD k ha hlt
    have HGD:Hid (d1.getD k 0=d1[k]):=by show _=_;simp[hlt]
    have HSU:=hid (all_range_succ (goodB y1 d1) k)
    have HBD:=hid (all_range_bad (goodB y1 d1) k d1.length hlt)
    clear hce ha
    cases hpg:pageB d1[k]
    ·have HGO:Hid (goodB y1 d1 k=false):=by show _=_;unfold goodB;rw[HGD.out,hpg];rfl
     have HSH:=hid (fun W=>refShort_any ⟨#[]⟩ W (by decide))
     go_wp2_with fail
     go_quiet ((first|(go_at_call 68;exact Calls.quiet_of_same (HP.out _ _))|(go_at_call 69;exact Calls.quiet_of_same (HSH.out _))))
     have HBE:=hid (hbel.trans ((below_draws wr nq).mono hbel.size))
     clear hbel hbw
     go_wp2
     go_ret
     refine⟨ret_bool ?_,HX.out.trans (HBE.out.mono HX.out.size)⟩
     simp[branchB,HBD.out HGO.out]
    ·by_cases hk0:0<k
     ·have hd:decide (0<k)=true:=by simp;omega
      have hz0:((k:Int)==0)=false:=beq_eq_false_iff_ne.2 (by omega)
      obtain⟨j,hj2',hj3'⟩:∃ j:Nat,(j:Int)+1≤(k:Int)∧(k:Int)≤(j:Int)+1:=⟨k - 1,by omega,by omega⟩
      have hjl:j<y1.length:=by omega
      obtain⟨b,hb,hcb,hsb⟩:=HIK.out k hlty
      obtain⟨b2,hb2,hcb2,_⟩:=HIK.out j hjl
      have hcy:wr.cell? (b.add k)=some (.string y1[k]):=(hbw.cell (p:=b.add k) (qF w _ hcb)).trans hcb
      have hcy2:wr.cell? (b2.add j)=some (.string y1[j]):=(hbw.cell (p:=b2.add j) (qF w _ hcb2)).trans hcb2
      have hib:=atStrs (ao:=aoK) y1.length capK k hb hlty
      have hib2:=atStrs (ao:=aoK) y1.length capK j hb2 hjl
      have hkj:(k:Int) - 1=(j:Int):=by omega
      have HGK:Hid (keyAt y1 k=y1[k]∧keyAt y1 (k - 1)=y1[j]):=by
       refine⟨by simp[keyAt,hlty],?_⟩
       have:k - 1=j:=by omega
       rw[this]
       simp[keyAt,hjl]
      have HSH:=hid (fun W=>refShort_any y1[k] W hsb)
      have HK0:Hid (¬ k=0):=by show ¬ _;omega
      clear hb hb2 hcb hcb2 hsb hk0
      cases hsh:shortB y1[k]
      ·have HGO:Hid (goodB y1 d1 k=false):=by show _=_;unfold goodB;rw[if_neg HK0.out,HGK.out.1,hsh];simp
       go_wp2_with fail
       go_quiet ((first|(go_at_call 68;exact Calls.quiet_of_same (HP.out _ _))|(go_at_call 69;exact Calls.quiet_of_same (HSH.out _))))
       have HBE:=hid (hbel.trans ((below_draws wr nq).mono hbel.size))
       clear hbel hbw
       go_wp2
       go_ret
       refine⟨ret_bool ?_,HX.out.trans (HBE.out.mono HX.out.size)⟩
       simp[branchB,HBD.out HGO.out]
      ·cases hlb:ltB y1[j] y1[k]
       ·have HGO:Hid (goodB y1 d1 k=false):=by show _=_;unfold goodB;rw[if_neg HK0.out,HGK.out.1,HGK.out.2,hlb];simp
        have hop:Op.bytesLess y1[j].toList y1[k].toList=false:=hlb
        clear hlb
        go_wp2_with fail
        go_quiet ((first|(go_at_call 68;exact Calls.quiet_of_same (HP.out _ _))|(go_at_call 69;exact Calls.quiet_of_same (HSH.out _))))
        have HBE:=hid (hbel.trans ((below_draws wr nq).mono hbel.size))
        clear hbel hbw
        go_wp2
        go_ret
        refine⟨ret_bool ?_,HX.out.trans (HBE.out.mono HX.out.size)⟩
        simp[branchB,HBD.out HGO.out]
       ·have HGO:Hid (goodB y1 d1 k=true):=by show _=_;unfold goodB;rw[if_neg HK0.out,HGD.out,hpg,HGK.out.1,HGK.out.2,hsh,hlb];rfl
        have hop:Op.bytesLess y1[j].toList y1[k].toList=true:=hlb
        clear hlb
        go_wp2_with fail
        go_quiet ((first|(go_at_call 68;exact Calls.quiet_of_same (HP.out _ _))|(go_at_call 69;exact Calls.quiet_of_same (HSH.out _))))
        have HBE:=hid (hbel.trans ((below_draws wr nq).mono hbel.size))
        clear hbel hbw
        go_wp2
        go_roundw
        case rel=>exact⟨k+1,by omega,by go_num,by show _=_;rw[HSU.out,hall.out,HGO.out];rfl,HBE.out⟩
        case measure=>simp[intOf];omega
     ·have hd:decide (0<k)=false:=by simp;omega
      have hz0:((k:Int)==0)=true:=beq_iff_eq.2 (by omega)
      have h0y:0<y1.length:=by omega
      obtain⟨b,hb,hcb,hsb⟩:=HIK.out 0 h0y
      have hcy:wr.cell? (b.add 0)=some (.string y1[0]):=(hbw.cell (p:=b.add 0) (qF w _ hcb)).trans hcb
      have hib:=atStrs (ao:=aoK) y1.length capK 0 hb h0y
      simp only[Int.cast_ofNat_Int] at hib
      have hcy0:wr.cell? b=some (.string y1[0]):=by simpa[Addr.add] using hcy
      have HGK:Hid (keyAt y1 0=y1[0]):=by show _=_;simp[keyAt,h0y]
      have HK0:Hid (k=0):=by show _=_;omega
      have HSH:=hid (fun W=>refShort_any y1[0] W hsb)
      clear hb hcb hsb hk0
      cases hem:y1[0].toList.isEmpty
      ·have HGO:Hid (goodB y1 d1 k=false):=by show _=_;unfold goodB;rw[if_pos HK0.out,HGK.out,hem];simp
       go_wp2_with fail
       go_quiet ((first|(go_at_call 68;exact Calls.quiet_of_same (HP.out _ _))|(go_at_call 69;exact Calls.quiet_of_same (HSH.out _))))
       have HBE:=hid (hbel.trans ((below_draws wr nq).mono hbel.size))
       clear hbel hbw
       go_wp2
       go_ret
       refine⟨ret_bool ?_,HX.out.trans (HBE.out.mono HX.out.size)⟩
       simp[branchB,HBD.out HGO.out]
      ·have HGO:Hid (goodB y1 d1 k=true):=by show _=_;unfold goodB;rw[if_pos HK0.out,HGD.out,hpg,HGK.out,hem];rfl
       go_wp2_with fail
       go_quiet ((first|(go_at_call 68;exact Calls.quiet_of_same (HP.out _ _))|(go_at_call 69;exact Calls.quiet_of_same (HSH.out _))))
       have HBE:=hid (hbel.trans ((below_draws wr nq).mono hbel.size))
       clear hbel hbw
       go_wp2
       go_roundw
       case rel=>exact⟨k+1,by omega,by go_num,by show _=_;rw[HSU.out,hall.out,HGO.out];rfl,HBE.out⟩
       case measure=>simp[intOf];omega
   ·have hke:k=d1.length:=by omega
    have HAL:Hid ((List.range d1.length).all (goodB y1 d1)=true):=by show _=_;rw[← hke];exact hall.out
    have HBW:=hid hbw
    clear hke hall hbw
    go_wp2
    all_goals
     go_ret
     refine⟨ret_bool ?_,HBW.out⟩
     have h0:=HAL.out
     have h1:=HLEN.out
     clear HBW HAL HX HJ2 HJ3 HIK HID HLEN HP hbel hk2 hk3
    all_goals first
     | rfl
     | (simp_all [branchB,noItems,noText,noVals,hasFree,hasMeta];done)
     | (simp_all [branchB,noItems,noText,noVals,hasFree,hasMeta];omega)
     | (rw[Bool.eq_iff_iff];simp_all [branchB,noItems,noText,noVals,hasFree,hasMeta];done)
     | (rw[Bool.eq_iff_iff];simp_all [branchB,noItems,noText,noVals,hasFree,hasMeta];omega)
end
end Go.Proofs.YtbghhklbfnplbaaGreat

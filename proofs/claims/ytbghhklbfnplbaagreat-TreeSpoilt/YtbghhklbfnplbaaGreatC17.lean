import Derived.Test.YtbghhklbfnplbaaGreatC00
import Derived.Test.YtbghhklbfnplbaaGreatC04
set_option maxHeartbeats 2000000
namespace Go.Proofs.YtbghhklbfnplbaaGreat
section
open Go.RowKit Go.Sort
theorem refShort_any (s:ByteArray) (w:World) (hs:s.size≤maxLen) :
  Calls Tryz.prog 69 #[.string s] w fun e w'=>e=.returned (.bool (shortB s))∧w'=w:=by
 unfold maxLen at hs
 go_enter Tryz.func69,Tryz.ntmps69
 go_wp2
 all_goals
  go_ret
  refine⟨ret_bool ?_,rfl⟩
  rw[Bool.eq_iff_iff]
  simp[shortB]
  omega
theorem refPage_any (n:Int) (w:World) :
  Calls Tryz.prog 68 #[.int .i64 n] w fun e w'=>e=.returned (.bool (pageB n))∧w'=w:=by
 go_enter Tryz.func68,Tryz.ntmps68
 go_wp2
 all_goals
  go_ret
  refine⟨ret_bool ?_,rfl⟩
  rw[Bool.eq_iff_iff]
  simp[pageB]
  omega
theorem refRoot_any (r:RootD) (w:World) :
  Calls Tryz.prog 72 #[.agg #[.int .i64 r.page,.int .i64 r.count,.int .i64 r.flags]] w fun e w'=>e=.returned (.bool (rootB r))∧Below w.heap.size w w':=by
 obtain⟨a,b,c⟩:=r
 show Calls Tryz.prog _ #[.agg #[.int .i64 a,.int .i64 b,.int .i64 c]] w _
 have hp:=fun w=>refPage_any a w
 have HP:Hid _:=hp
 clear hp
 go_enter Tryz.func72,Tryz.ntmps72
 go_wp2_with (go_at_call 68;refine Calls.mono (HP.out _) ?_;rintro e w2 ⟨rfl,rfl⟩)
 all_goals
  go_ret
  refine⟨ret_bool ?_,(qB _ _).alloc qL _⟩
  clear HP
  simp_all [rootB]
 all_goals omega
theorem refVals_any (l:List ByteArray) (v:Value) (least most:Int) (w:World) (hv:StrsAt w v l) :
  Calls Tryz.prog 70 #[v,.int .i64 least,.int .i64 most] w fun e w'=>e=.returned (.bool (valsB l least most))∧Below w.heap.size w w':=by
 obtain⟨ao,cap,rfl,hlm,hc⟩:=hv
 unfold maxLen at hlm
 have HC:=hid hc
 clear hc
 go_enter Tryz.func70,Tryz.ntmps70
 go_wp2
 go_loopw [7] (fun i wr=>∃ k:Nat,k≤l.length∧i=.int .i64 k∧(List.range k).all (goodV l)=true∧Below w.heap.size w wr) (fun i _=>l.length - (intOf i).toNat)
 case atStart=>exact⟨0,Nat.zero_le _,rfl,rfl,qB _ _⟩
 case round=>
  obtain⟨k,hk,rfl,hall,hbel⟩:=hrel
  have HA:=hid hall
  clear hall
  by_cases hlt:k<l.length
  ·obtain⟨a,ha,hce,hsz⟩:=HC.out k hlt
   unfold maxLen at hsz
   have hcell:wr.cell? (a.add k)=some (.string l[k]):=(hbel.cell (p:=a.add k) (qF w _ hce)).trans hce
   have hia:=atStrs (ao:=ao) l.length cap k ha hlt
   have hgk:l.getD k ⟨#[]⟩=l[k]:=by simp[hlt]
   have HG:=hid hgk
   have HSU:=hid (all_range_succ (goodV l) k)
   have HBD:=hid (all_range_bad (goodV l) k l.length hlt)
   clear hgk hce ha
   by_cases hs1:1≤l[k].size
   ·have hd1:decide ((l[k].size:Int)<1)=false:=by simp;omega
    by_cases hs2:l[k].size≤12
    ·have hd2:decide ((12:Int)<(l[k].size:Int))=false:=by simp;omega
     by_cases hk0:k≤0
     ·have hg:goodV l k=true:=by
       unfold goodV
       rw[HG.out]
       have h3:(k==0)=true:=by simp;omega
       rw[h3]
       simp
       omega
      have HGO:=hid hg
      have hd:decide (0<k)=false:=by simp;omega
      clear hg hk0
      go_wp2_with fail
      go_quiet (fail)
      go_wp2
      go_roundw
      case rel=>exact⟨k+1,by omega,by go_num,by rw[HSU.out,HA.out,HGO.out];rfl,hbel.trans ((below_draws wr nq).mono hbel.size)⟩
      case measure=>simp[intOf];omega
     ·obtain⟨j,hj⟩:∃ j:Nat,(j:Int)+1≤(k:Int)∧(k:Int)≤(j:Int)+1:=⟨k - 1,by omega,by omega⟩
      obtain⟨a',ha',hce',hsz'⟩:=HC.out j (by omega)
      have hcell':wr.cell? (a'.add j)=some (.string l[j]):=(hbel.cell (p:=a'.add j) (qF w _ hce')).trans hce'
      have hia':=atStrs (ao:=ao) l.length cap j ha' (by omega)
      have hkj:(k:Int) - 1=(j:Int):=by omega
      have hjl:j<l.length:=by omega
      have hgj:l.getD (k - 1) ⟨#[]⟩=l[j]:=by
       have:k - 1=j:=by omega
       rw[this]
       simp[hjl]
      have hd:decide (0<k)=true:=by simp;omega
      have HGJ:=hid hgj
      clear hce' ha' hgj hsz' hk0
      cases hlb:ltB l[j] l[k]
      ·have hg:goodV l k=false:=by
        unfold goodV
        rw[HG.out,HGJ.out,hlb]
        have h3:(k==0)=false:=by simp;omega
        rw[h3]
        simp
       have HGO:=hid hg
       have hop:Op.bytesLess l[j].toList l[k].toList=false:=hlb
       clear hg hlb
       go_wp2_with fail
       go_quiet (fail)
       go_wp2
       go_ret
       refine⟨ret_bool ?_,hbel.trans ((below_draws wr nq).mono hbel.size)⟩
       simp[valsB,HBD.out HGO.out]
      ·have hg:goodV l k=true:=by
        unfold goodV
        rw[HG.out,HGJ.out,hlb]
        simp
        omega
       have HGO:=hid hg
       have hop:Op.bytesLess l[j].toList l[k].toList=true:=hlb
       clear hg hlb
       go_wp2_with fail
       go_quiet (fail)
       go_wp2
       go_roundw
       case rel=>exact⟨k+1,by omega,by go_num,by rw[HSU.out,HA.out,HGO.out];rfl,hbel.trans ((below_draws wr nq).mono hbel.size)⟩
       case measure=>simp[intOf];omega
    ·have hd2:decide ((12:Int)<(l[k].size:Int))=true:=by simp;omega
     have hg:goodV l k=false:=by
      unfold goodV
      rw[HG.out]
      simp
      omega
     have HGO:=hid hg
     clear hg
     go_wp2_with fail
     go_quiet (fail)
     go_wp2
     go_ret
     refine⟨ret_bool ?_,hbel.trans ((below_draws wr nq).mono hbel.size)⟩
     simp[valsB,HBD.out HGO.out]
   ·have hd1:decide ((l[k].size:Int)<1)=true:=by simp;omega
    have hg:goodV l k=false:=by
     unfold goodV
     rw[HG.out]
     simp
     omega
    have HGO:=hid hg
    clear hg
    go_wp2_with fail
    go_quiet (fail)
    go_wp2
    go_ret
    refine⟨ret_bool ?_,hbel.trans ((below_draws wr nq).mono hbel.size)⟩
    simp[valsB,HBD.out HGO.out]
  ·have hke:k=l.length:=by omega
   subst hke
   go_wp2
   all_goals
    go_ret
    refine⟨ret_bool ?_,hbel⟩
    have h0:=HA.out
    rw[Bool.eq_iff_iff]
    simp only[valsB,h0]
    simp
    omega
theorem toList_inj {a b:ByteArray} (h:a.toList=b.toList):a=b:=by
 rw[ByteArray.toList_eq,ByteArray.toList_eq] at h
 exact ByteArray.ext (Array.toList_inj.1 h)
end
section
open Go.RowKit Go.Sort
end
section
open Go.RowKit Go.Sort
def hasLong (x:ItemD):Bool:=x.run != 0||x.len != 0
def hasDup (x:ItemD):Bool:=decide (0<x.vals.length)||x.dup != 0
def hasRoot (x:ItemD):Bool:=!(x.root.page==0&&(x.root.count==0&&x.root.flags==0))
def itemB (x:ItemD):Bool:=
 if x.kind=1 then shortB x.key&&decide (x.val.size≤12)&&!hasLong x&&!hasDup x&&!hasRoot x
 else if x.kind=2 then shortB x.key&&x.val.toList.isEmpty&&pageB x.run&&decide (12<x.len)&&decide (x.len≤1000)&&!hasDup x&&!hasRoot x
 else if x.kind=3 then shortB x.key&&x.val.toList.isEmpty&&!hasLong x&&!hasRoot x&&(x.dup==0&&valsB x.vals 1 3||pageB x.dup&&decide (x.vals.length=0))
 else if x.kind=4 then shortB x.key&&x.val.toList.isEmpty&&!hasLong x&&!hasDup x&&rootB x.root
 else false
theorem len_zero (n:Nat):((n:Int)==0)=decide (n=0):=by rw[Bool.eq_iff_iff];simp
theorem neqRoot (a b c:Int) (w:World):(binOp .neq 43 (.agg #[.int .i64 a,.int .i64 b,.int .i64 c]) (.agg #[.int .i64 0,.int .i64 0,.int .i64 0])).run Tryz.prog w=.ok (.bool (!(a==0&&(b==0&&c==0)))) w:=by
 by_cases ha:a=0
 all_goals by_cases hb:b=0
 all_goals by_cases hc:c=0
 all_goals go_simp
theorem refItem_any (x:ItemD) (v:Value) (w:World) (hv:StrsAt w v x.vals) (hk:x.key.size≤maxLen) (hl:x.val.size≤maxLen) :
  Calls Tryz.prog 67 #[.agg (itemCells x v).toArray] w fun e w'=>e=.returned (.bool (itemB x))∧Below w.heap.size w w':=by
 obtain⟨k1,d1,l1,r1,n1,s1,p1,⟨g1,c1,f1⟩⟩:=x
 have HV:Hid (∀ W,Below w.heap.size w W→StrsAt W v s1):=fun W hW=>hv.below hW
 obtain⟨ao,cap,rfl,hsm,_⟩:=hv
 have HK:=hid hk
 simp only at hk hl hsm
 unfold maxLen at hk hl hsm
 show Calls Tryz.prog _ #[.agg #[.string k1,.int .i64 d1,.string l1,.int .i64 r1,.int .i64 n1,.slice ao s1.length cap,.int .i64 p1,.int .i64 g1,.int .i64 c1,.int .i64 f1]] w _
 have HP:=hid (fun (n:Int) W=>refPage_any n W)
 have HSH:=hid (fun W=>refShort_any k1 W HK.out)
 have HR:=hid (fun W=>refRoot_any ⟨g1,c1,f1⟩ W)
 have HVA:=hid (fun W hW=>refVals_any s1 _ 1 3 W (HV.out W hW))
 have hnr:=neqRoot g1 c1 f1
 clear HK HV
 cases hr:(r1 != 0)
 all_goals cases hs:decide (0<s1.length)
 all_goals
  go_enter Tryz.func67,Tryz.ntmps67
  go_wp2_with fail
  refine wp_region_quiet_lit (by kernel_rfl) (by kernel_rfl) ?_
  repeat (go_big_quiet_step (fail))
  refine wpQuiet_nil ?_
  intro _ hw'
  obtain⟨nq,hw''⟩:=hw'
  subst hw''
  clear hnr
  have hbX:Below w.heap.size w ((w.alloc (.cells #[.string k1,.int .i64 d1,.string l1,.int .i64 r1,.int .i64 n1,.slice ao s1.length cap,.int .i64 p1,.int .i64 g1,.int .i64 c1,.int .i64 f1] 45)).drewN nq):=((qB _ _).alloc qL _).trans ((below_draws _ nq).mono (by simp))
  have hsz:w.heap.size<((w.alloc (.cells #[.string k1,.int .i64 d1,.string l1,.int .i64 r1,.int .i64 n1,.slice ao s1.length cap,.int .i64 p1,.int .i64 g1,.int .i64 c1,.int .i64 f1] 45)).drewN nq).heap.size:=by simp
  have hj0:((w.alloc (.cells #[.string k1,.int .i64 d1,.string l1,.int .i64 r1,.int .i64 n1,.slice ao s1.length cap,.int .i64 p1,.int .i64 g1,.int .i64 c1,.int .i64 f1] 45)).drewN nq).cell? ⟨w.heap.size,0,none⟩=some (.string k1):=by simp
  have hj1:((w.alloc (.cells #[.string k1,.int .i64 d1,.string l1,.int .i64 r1,.int .i64 n1,.slice ao s1.length cap,.int .i64 p1,.int .i64 g1,.int .i64 c1,.int .i64 f1] 45)).drewN nq).cell? ⟨w.heap.size,1,none⟩=some (.int .i64 d1):=by simp
  have hj2:((w.alloc (.cells #[.string k1,.int .i64 d1,.string l1,.int .i64 r1,.int .i64 n1,.slice ao s1.length cap,.int .i64 p1,.int .i64 g1,.int .i64 c1,.int .i64 f1] 45)).drewN nq).cell? ⟨w.heap.size,2,none⟩=some (.string l1):=by simp
  have hj3:((w.alloc (.cells #[.string k1,.int .i64 d1,.string l1,.int .i64 r1,.int .i64 n1,.slice ao s1.length cap,.int .i64 p1,.int .i64 g1,.int .i64 c1,.int .i64 f1] 45)).drewN nq).cell? ⟨w.heap.size,3,none⟩=some (.int .i64 r1):=by simp
  have hj4:((w.alloc (.cells #[.string k1,.int .i64 d1,.string l1,.int .i64 r1,.int .i64 n1,.slice ao s1.length cap,.int .i64 p1,.int .i64 g1,.int .i64 c1,.int .i64 f1] 45)).drewN nq).cell? ⟨w.heap.size,4,none⟩=some (.int .i64 n1):=by simp
  have hj5:((w.alloc (.cells #[.string k1,.int .i64 d1,.string l1,.int .i64 r1,.int .i64 n1,.slice ao s1.length cap,.int .i64 p1,.int .i64 g1,.int .i64 c1,.int .i64 f1] 45)).drewN nq).cell? ⟨w.heap.size,5,none⟩=some (.slice ao s1.length cap):=by simp
  have hj6:((w.alloc (.cells #[.string k1,.int .i64 d1,.string l1,.int .i64 r1,.int .i64 n1,.slice ao s1.length cap,.int .i64 p1,.int .i64 g1,.int .i64 c1,.int .i64 f1] 45)).drewN nq).cell? ⟨w.heap.size,6,none⟩=some (.int .i64 p1):=by simp
  have hj7:((w.alloc (.cells #[.string k1,.int .i64 d1,.string l1,.int .i64 r1,.int .i64 n1,.slice ao s1.length cap,.int .i64 p1,.int .i64 g1,.int .i64 c1,.int .i64 f1] 45)).drewN nq).cell? ⟨w.heap.size,7,none⟩=some (.int .i64 g1):=by simp
  have hj8:((w.alloc (.cells #[.string k1,.int .i64 d1,.string l1,.int .i64 r1,.int .i64 n1,.slice ao s1.length cap,.int .i64 p1,.int .i64 g1,.int .i64 c1,.int .i64 f1] 45)).drewN nq).cell? ⟨w.heap.size,8,none⟩=some (.int .i64 c1):=by simp
  have hj9:((w.alloc (.cells #[.string k1,.int .i64 d1,.string l1,.int .i64 r1,.int .i64 n1,.slice ao s1.length cap,.int .i64 p1,.int .i64 g1,.int .i64 c1,.int .i64 f1] 45)).drewN nq).cell? ⟨w.heap.size,9,none⟩=some (.int .i64 f1):=by simp
  generalize (w.alloc (.cells #[.string k1,.int .i64 d1,.string l1,.int .i64 r1,.int .i64 n1,.slice ao s1.length cap,.int .i64 p1,.int .i64 g1,.int .i64 c1,.int .i64 f1] 45)).drewN nq=X at *
  go_wp2_with (first
   | (go_at_call 69;refine Calls.mono (HSH.out _) ?_;rintro e w2 ⟨rfl,rfl⟩)
   | (go_at_call 68;refine Calls.mono (HP.out _ _) ?_;rintro e w2 ⟨rfl,rfl⟩)
   | (go_at_call 72;refine Calls.mono (HR.out _) ?_;rintro e w2 ⟨rfl,hb2⟩;have hX2:=hbX.trans (hb2.mono hbX.size);have hcc2:=bcell hb2;clear hb2)
   | (go_at_call 70;refine Calls.mono (HVA.out _ hbX) ?_;rintro e w2 ⟨rfl,hb2⟩;have hX3:=hbX.trans (hb2.mono hbX.size);have hcc3:=bcell hb2;clear hb2))
 all_goals
  go_ret
  refine⟨ret_bool ?_,by assumption⟩
  clear hj0 hj1 hj2 hj3 hj4 hj5 hj6 hj7 hj8 hj9 hsz HP HSH HR HVA hbX
  try clear hX2 hcc2
  try clear hX3 hcc3
 all_goals first
  | (simp_all [itemB,hasLong,hasDup,hasRoot];done)
  | (simp_all [itemB,hasLong,hasDup,hasRoot];omega)
  | (rw[len_zero s1.length];simp_all [itemB,hasLong,hasRoot])
end
end Go.Proofs.YtbghhklbfnplbaaGreat

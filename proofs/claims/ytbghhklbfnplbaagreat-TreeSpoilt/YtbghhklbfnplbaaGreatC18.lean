import Derived.Test.YtbghhklbfnplbaaGreatC00
import Derived.Test.YtbghhklbfnplbaaGreatC17
set_option maxHeartbeats 8000000
set_option maxRecDepth 100000
namespace Go.Proofs.YtbghhklbfnplbaaGreat
section
open Go.RowKit Go.Sort
def goodID (ids:List Int) (k:Nat):Bool:=pageB (ids.getD k 0)&&(k==0||decide (ids.getD (k - 1) 0<ids.getD k 0))
def freeAt (l:List FreeD) (i:Nat):FreeD:=l.getD i ⟨0,[]⟩
def goodF (l:List FreeD) (i:Nat):Bool:=
 !decide ((freeAt l i).ids.length=0)&&(i==0||decide ((freeAt l (i - 1)).txn≤(freeAt l i).txn))&&(List.range (freeAt l i).ids.length).all (goodID (freeAt l i).ids)
def sumLen (l:List FreeD):Nat→Nat
 | 0=>0
 | k+1=>sumLen l k+(freeAt l k).ids.length
def freesB (l:List FreeD) (next:Int):Bool:=(List.range l.length).all (goodF l)&&decide (sumLen l l.length≤20)&&(next==0||pageB next)
theorem ids_ge (ids:List Int):∀ k,(List.range (k+1)).all (goodID ids)=true→(2:Int)+k≤ids.getD k 0
 | 0,h=>by
   rw[all_range_succ] at h
   simp[goodID,pageB] at h
   simp
   omega
 | k+1,h=>by
   rw[all_range_succ,qW] at h
   have h1:=ids_ge ids k h.1
   have h2:=h.2
   simp only[goodID,qW,Bool.or_eq_true,decide_eq_true_eq,beq_iff_eq,Nat.add_sub_cancel] at h2
   omega
theorem ids_few (ids:List Int) (n:Nat) (h:(List.range n).all (goodID ids)=true):n≤398:=by
 match n,h with
 | 0,_=>omega
 | k+1,h=>
   have h1:=ids_ge ids k h
   rw[all_range_succ,qW] at h
   have h2:=h.2
   simp only[goodID,pageB,qW,decide_eq_true_eq] at h2
   omega
theorem sum_few (l:List FreeD):∀ k,(List.range k).all (goodF l)=true→sumLen l k≤398*k
 | 0,_=>by simp[sumLen]
 | k+1,h=>by
   rw[all_range_succ,qW] at h
   have h1:=sum_few l k h.1
   have h2:=h.2
   simp only[goodF,qW] at h2
   have h3:=ids_few _ _ h2.2
   simp only[sumLen]
   omega
theorem refFrees_any (p:PageD) (vi vk vd vv vf:Value) (w:World) (hp:FreesAt w vf p.free) (hl:p.free.length≤140737488355328) :
  Calls Tryz.prog 71 #[.agg (pageCells p vi vk vd vv vf).toArray] w fun e w'=>e=.returned (.bool (freesB p.free p.next))∧Below w.heap.size w w':=by
 obtain⟨k1,i1,y1,d1,t1,v1,f1,n1,⟨x1,⟨g1,c1,q1⟩,r1,l1⟩⟩:=p
 obtain⟨ao,cap,rfl,him,hit⟩:=hp.old
 simp only at hit him hl
 have HI:=hid hit
 have HP:=hid (fun (n:Int) W=>refPage_any n W)
 clear hit him
 show Calls Tryz.prog _ #[.agg #[.int .i64 k1,vi,vk,vd,.string t1,vv,.slice ao f1.length cap,.int .i64 n1,.int .u64 x1,.int .i64 g1,.int .i64 c1,.int .i64 q1,.int .i64 r1,.int .i64 l1]] w _
 go_enter Tryz.func71,Tryz.ntmps71
 go_wp2
 have hbX:Below w.heap.size w (w.alloc (.cells #[.int .i64 k1,vi,vk,vd,.string t1,vv,.slice ao f1.length cap,.int .i64 n1,.int .u64 x1,.int .i64 g1,.int .i64 c1,.int .i64 q1,.int .i64 r1,.int .i64 l1] 59)):=(qB _ _).alloc qL _
 have hszX:w.heap.size<(w.alloc (.cells #[.int .i64 k1,vi,vk,vd,.string t1,vv,.slice ao f1.length cap,.int .i64 n1,.int .u64 x1,.int .i64 g1,.int .i64 c1,.int .i64 q1,.int .i64 r1,.int .i64 l1] 59)).heap.size:=by simp
 have hx6:(w.alloc (.cells #[.int .i64 k1,vi,vk,vd,.string t1,vv,.slice ao f1.length cap,.int .i64 n1,.int .u64 x1,.int .i64 g1,.int .i64 c1,.int .i64 q1,.int .i64 r1,.int .i64 l1] 59)).cell? ⟨w.heap.size,6,none⟩=some (.slice ao f1.length cap):=by simp
 have hx7:(w.alloc (.cells #[.int .i64 k1,vi,vk,vd,.string t1,vv,.slice ao f1.length cap,.int .i64 n1,.int .u64 x1,.int .i64 g1,.int .i64 c1,.int .i64 q1,.int .i64 r1,.int .i64 l1] 59)).cell? ⟨w.heap.size,7,none⟩=some (.int .i64 n1):=by simp
 generalize w.alloc (.cells #[.int .i64 k1,vi,vk,vd,.string t1,vv,.slice ao f1.length cap,.int .i64 n1,.int .u64 x1,.int .i64 g1,.int .i64 c1,.int .i64 q1,.int .i64 r1,.int .i64 l1] 59)=X at *
 have HX:=hid hbX
 have HX6:=hid hx6
 have HX7:=hid hx7
 clear hbX hx6 hx7
 go_loopw [3,4] (fun n i wr=>∃ k:Nat,k≤f1.length∧i=.int .i64 k∧n=.int .i64 (sumLen f1 k)∧Hid ((List.range k).all (goodF f1)=true)∧Below X.heap.size X wr) (fun _ i _=>f1.length - (intOf i).toNat)
 case atStart=>exact⟨0,Nat.zero_le _,rfl,rfl,rfl,qB _ _⟩
 case round=>
  obtain⟨k,hk,rfl,rfl,hall,hbel⟩:=hrel
  have hsf:=sum_few f1 k hall.out
  have hbw:=HX.out.trans (hbel.mono HX.out.size)
  have hx6:wr.cell? ⟨w.heap.size,6,none⟩=some (.slice ao f1.length cap):=(hbel.cell (p:=⟨w.heap.size,6,none⟩) hszX).trans HX6.out
  have hx7:wr.cell? ⟨w.heap.size,7,none⟩=some (.int .i64 n1):=(hbel.cell (p:=⟨w.heap.size,7,none⟩) hszX).trans HX7.out
  by_cases hlt:k<f1.length
  ·obtain⟨a,x,ha,hce,hcf,hx⟩:=HI.out k hlt
   have hc1:wr.cell? (a.add (k*2))=some (.int .u64 f1[k].txn):=(hbw.cell (p:=a.add (k*2)) (qF w _ hce)).trans hce
   have hc2:wr.cell? ⟨(a.add (k*2)).block,(a.add (k*2)).off+1,none⟩=some x:=(hbw.cell (p:=⟨(a.add (k*2)).block,(a.add (k*2)).off+1,none⟩) (qF w _ hcf)).trans hcf
   have hia:=atFrees (ao:=ao) f1.length cap k ha hlt
   obtain⟨ao2,cap2,rfl,hm2,hcs⟩:=hx
   unfold maxLen at hm2
   have HG:Hid (freeAt f1 k=f1[k]):=by show _=_;simp[freeAt,hlt]
   have HCS:=hid hcs
   have HBD:=hid (all_range_bad (goodF f1) k f1.length hlt)
   have HSU:=hid (all_range_succ (goodF f1) k)
   clear hce hcf ha hcs
   have hbF:Below X.heap.size X (wr.alloc (.cells #[.int .u64 f1[k].txn,.slice ao2 f1[k].ids.length cap2] 108)):=hbel.alloc hbel.size _
   have hszF:wr.heap.size<(wr.alloc (.cells #[.int .u64 f1[k].txn,.slice ao2 f1[k].ids.length cap2] 108)).heap.size:=by simp
   have hszG:w.heap.size<(wr.alloc (.cells #[.int .u64 f1[k].txn,.slice ao2 f1[k].ids.length cap2] 108)).heap.size:=by have:=hbw.size;simp;omega
   have hf0:(wr.alloc (.cells #[.int .u64 f1[k].txn,.slice ao2 f1[k].ids.length cap2] 108)).cell? ⟨wr.heap.size,0,none⟩=some (.int .u64 f1[k].txn):=by simp
   have hf1:(wr.alloc (.cells #[.int .u64 f1[k].txn,.slice ao2 f1[k].ids.length cap2] 108)).cell? ⟨wr.heap.size,1,none⟩=some (.slice ao2 f1[k].ids.length cap2):=by simp
   have hf6:(wr.alloc (.cells #[.int .u64 f1[k].txn,.slice ao2 f1[k].ids.length cap2] 108)).cell? ⟨w.heap.size,6,none⟩=some (.slice ao f1.length cap):=(hbF.cell (p:=⟨w.heap.size,6,none⟩) hszX).trans HX6.out
   have HPREV:Hid (∀ j (h:j<f1.length),∃ a,ao=some a∧(wr.alloc (.cells #[.int .u64 f1[k].txn,.slice ao2 f1[k].ids.length cap2] 108)).cell? (a.add (j*2))=some (.int .u64 f1[j].txn)):=by
    intro j hj
    obtain⟨a',x',ha',hce',_,_⟩:=HI.out j hj
    have hbw2:=HX.out.trans (hbF.mono HX.out.size)
    exact⟨a',ha',(hbw2.cell (p:=a'.add (j*2)) (qF w _ hce')).trans hce'⟩
   have HIDS:Hid (∀ j (h:j<f1[k].ids.length),∃ a,ao2=some a∧(wr.alloc (.cells #[.int .u64 f1[k].txn,.slice ao2 f1[k].ids.length cap2] 108)).cell? (a.add j)=some (.int .i64 f1[k].ids[j])):=by
    intro j hj
    obtain⟨a',ha',hce'⟩:=HCS.out j hj
    have hbw2:=HX.out.trans (hbF.mono HX.out.size)
    exact⟨a',ha',(hbw2.cell (p:=a'.add j) (qF w _ hce')).trans hce'⟩
   go_wp2_with fail
   clear hc1 hc2 hia hx6 hx7 HCS
   generalize wr.alloc (.cells #[.int .u64 f1[k].txn,.slice ao2 f1[k].ids.length cap2] 108)=F at *
   generalize wr.heap.size=fb at *
   by_cases hz:f1[k].ids.length=0
   ·have hzB:((f1[k].ids.length:Int)==0)=true:=by rw[hz];rfl
    have HGO:Hid (goodF f1 k=false):=by show _=_;unfold goodF;rw[HG.out];simp[hz]
    clear hz
    go_quiet (fail)
    go_wp2
    go_ret
    refine⟨ret_bool ?_,(HX.out.trans (hbF.mono HX.out.size)).trans ((below_draws F nq).mono (HX.out.trans (hbF.mono HX.out.size)).size)⟩
    simp[freesB,HBD.out HGO.out]
   ·have hzB:((f1[k].ids.length:Int)==0)=false:=beq_eq_false_iff_ne.2 (by omega)
    have HZ:Hid (decide (f1[k].ids.length=0)=false):=decide_eq_false hz
    clear hz
    cases hT:(k==0||decide ((freeAt f1 (k - 1)).txn≤(freeAt f1 k).txn))
    ·have hk0:0<k:=by
      simp at hT
      omega
     have hd:decide (0<k)=true:=by simp;omega
     obtain⟨j,hj1,hj2⟩:∃ j:Nat,(j:Int)+1≤(k:Int)∧(k:Int)≤(j:Int)+1:=⟨k - 1,by omega,by omega⟩
     obtain⟨a',ha',hce'⟩:=HPREV.out j (by omega)
     have hjl:j<f1.length:=by omega
     have hia':=atFrees (ao:=ao) f1.length cap j ha' hjl
     have hkj:(k:Int) - 1=(j:Int):=by omega
     have htx:decide (f1[k].txn<f1[j].txn)=true:=by
      have e1:freeAt f1 (k - 1)=f1[j]:=by
       have:k - 1=j:=by omega
       rw[this]
       simp[freeAt,hjl]
      rw[e1,HG.out] at hT
      simp at hT
      simp
      omega
     have HGO:Hid (goodF f1 k=false):=by show _=_;unfold goodF;rw[hT];simp
     clear hT ha'
     go_quiet (fail)
     go_wp2
     go_ret
     refine⟨ret_bool ?_,(HX.out.trans (hbF.mono HX.out.size)).trans ((below_draws F nq).mono (HX.out.trans (hbF.mono HX.out.size)).size)⟩
     simp[freesB,HBD.out HGO.out]
    ·have HTT:=hid hT
     by_cases hk0:0<k
     ·have hd:decide (0<k)=true:=by simp;omega
      obtain⟨j,hj1,hj2⟩:∃ j:Nat,(j:Int)+1≤(k:Int)∧(k:Int)≤(j:Int)+1:=⟨k - 1,by omega,by omega⟩
      obtain⟨a',ha',hce'⟩:=HPREV.out j (by omega)
      have hjl:j<f1.length:=by omega
      have hia':=atFrees (ao:=ao) f1.length cap j ha' hjl
      have hkj:(k:Int) - 1=(j:Int):=by omega
      have htx:decide (f1[k].txn<f1[j].txn)=false:=by
       have e1:freeAt f1 (k - 1)=f1[j]:=by
        have:k - 1=j:=by omega
        rw[this]
        simp[freeAt,hjl]
       rw[e1,HG.out] at hT
       simp at hT
       simp
       omega
      clear hT ha'
      go_quiet (fail)
      go_wp2
      clear hce' hia' hkj htx
      clear hzB hd hszG hf0 hf6 HPREV
      go_loopw [6] (fun i wq=>∃ m:Nat,m≤f1[k].ids.length∧i=.int .i64 m∧Hid ((List.range m).all (goodID f1[k].ids)=true)∧Below F.heap.size F wq) (fun i _=>f1[k].ids.length - (intOf i).toNat)
      case atStart=>exact⟨0,Nat.zero_le _,rfl,rfl,below_draws F nq⟩
      case round=>
       obtain⟨m,hm,rfl,hallm,hbq⟩:=hrel
       have HBW:=hid ((HX.out.trans (hbF.mono HX.out.size)).trans (hbq.mono (HX.out.trans (hbF.mono HX.out.size)).size))
       have HBX:=hid (hbF.trans (hbq.mono hbF.size))
       have hq1:wr.cell? ⟨fb,1,none⟩=some (.slice ao2 f1[k].ids.length cap2):=(hbq.cell (p:=⟨fb,1,none⟩) hszF).trans hf1
       by_cases hltm:m<f1[k].ids.length
       ·obtain⟨b2,hb2,hcb⟩:=HIDS.out m hltm
        have hcm:wr.cell? (b2.add m)=some (.int .i64 f1[k].ids[m]):=(hbq.cell (p:=b2.add m) (qF F _ hcb)).trans hcb
        have hib:=atInts (ao:=ao2) f1[k].ids.length cap2 m hb2 hltm
        have HGm:Hid (f1[k].ids.getD m 0=f1[k].ids[m]):=by show _=_;simp[hltm]
        have HBDm:=hid (all_range_bad (goodID f1[k].ids) m f1[k].ids.length hltm)
        have HSUm:=hid (all_range_succ (goodID f1[k].ids) m)
        clear hcb hb2
        cases hpg:pageB f1[k].ids[m]
        ·have HGO:Hid (goodF f1 k=false):=by
          show _=_
          have h1:goodID f1[k].ids m=false:=by unfold goodID;rw[HGm.out,hpg];rfl
          unfold goodF
          rw[HG.out,HBDm.out h1]
          simp
         go_wp2_with fail
         go_quiet ((go_at_call 68;exact Calls.quiet_of_same (HP.out _ _)))
         go_wp2
         go_ret
         refine⟨ret_bool ?_,HBW.out.trans ((below_draws wr nq).mono HBW.out.size)⟩
         simp[freesB,HBD.out HGO.out]
        ·by_cases hm0:0<m
         ·have hdm:decide (0<m)=true:=by simp;omega
          obtain⟨i,hi1,hi2⟩:∃ i:Nat,(i:Int)+1≤(m:Int)∧(m:Int)≤(i:Int)+1:=⟨m - 1,by omega,by omega⟩
          have hil:i<f1[k].ids.length:=by omega
          obtain⟨b3,hb3,hcb3⟩:=HIDS.out i hil
          have hci:wr.cell? (b3.add i)=some (.int .i64 f1[k].ids[i]):=(hbq.cell (p:=b3.add i) (qF F _ hcb3)).trans hcb3
          have hib3:=atInts (ao:=ao2) f1[k].ids.length cap2 i hb3 hil
          have hmi:(m:Int) - 1=(i:Int):=by omega
          have HGi:Hid (f1[k].ids.getD (m - 1) 0=f1[k].ids[i]):=by
           show _=_
           have:m - 1=i:=by omega
           rw[this]
           simp[hil]
          have HM0:Hid ((m==0)=false):=by show _=_;simp;omega
          clear hcb3 hb3 hm0
          cases hle:decide (f1[k].ids[m]≤f1[k].ids[i])
          ·have HGD:Hid (goodID f1[k].ids m=true):=by
            show _=_
            unfold goodID
            rw[HGm.out,HGi.out,hpg,HM0.out]
            simp at hle
            simp
            omega
           go_wp2_with fail
           go_quiet ((go_at_call 68;exact Calls.quiet_of_same (HP.out _ _)))
           go_wp2
           go_roundw
           case rel=>exact⟨m+1,by omega,by go_num,by show _=_;rw[HSUm.out,hallm.out,HGD.out];rfl,hbq.trans ((below_draws wr nq).mono hbq.size)⟩
           case measure=>simp[intOf];omega
          ·have HGO:Hid (goodF f1 k=false):=by
            show _=_
            have h1:goodID f1[k].ids m=false:=by
             unfold goodID
             rw[HGm.out,HGi.out,hpg,HM0.out]
             simp at hle
             simp
             omega
            unfold goodF
            rw[HG.out,HBDm.out h1]
            simp
           go_wp2_with fail
           go_quiet ((go_at_call 68;exact Calls.quiet_of_same (HP.out _ _)))
           go_wp2
           go_ret
           refine⟨ret_bool ?_,HBW.out.trans ((below_draws wr nq).mono HBW.out.size)⟩
           simp[freesB,HBD.out HGO.out]
         ·have hdm:decide (0<m)=false:=by simp;omega
          have HGD:Hid (goodID f1[k].ids m=true):=by
           show _=_
           have h3:(m==0)=true:=by simp;omega
           unfold goodID
           rw[HGm.out,hpg,h3]
           rfl
          clear hm0
          go_wp2_with fail
          go_quiet ((go_at_call 68;exact Calls.quiet_of_same (HP.out _ _)))
          go_wp2
          go_roundw
          case rel=>exact⟨m+1,by omega,by go_num,by show _=_;rw[HSUm.out,hallm.out,HGD.out];rfl,hbq.trans ((below_draws wr nq).mono hbq.size)⟩
          case measure=>simp[intOf];omega
       ·have hme:m=f1[k].ids.length:=by omega
        have HGF:Hid (goodF f1 k=true):=by
         show _=_
         have h1:=hallm.out
         rw[hme] at h1
         unfold goodF
         rw[HTT.out,HG.out,HZ.out,h1]
         rfl
        have h398:=ids_few _ _ hallm.out
        have HSL:Hid (sumLen f1 (k+1)=sumLen f1 k+f1[k].ids.length):=by show _=_;rw[sumLen,HG.out]
        have hmle:f1[k].ids.length≤398:=by omega
        clear hme h398
        go_wp2
        go_roundw
        case rel=>exact⟨k+1,by omega,by go_num,by rw[HSL.out];go_num,by show _=_;rw[HSU.out,hall.out,HGF.out];rfl,HBX.out⟩
        case measure=>simp[intOf];omega
     ·have hd:decide (0<k)=false:=by simp;omega
      clear hT hk0
      go_quiet (fail)
      go_wp2
      clear hzB hd hszG hf0 hf6 HPREV
      go_loopw [6] (fun i wq=>∃ m:Nat,m≤f1[k].ids.length∧i=.int .i64 m∧Hid ((List.range m).all (goodID f1[k].ids)=true)∧Below F.heap.size F wq) (fun i _=>f1[k].ids.length - (intOf i).toNat)
      case atStart=>exact⟨0,Nat.zero_le _,rfl,rfl,below_draws F nq⟩
      case round=>
       obtain⟨m,hm,rfl,hallm,hbq⟩:=hrel
       have HBW:=hid ((HX.out.trans (hbF.mono HX.out.size)).trans (hbq.mono (HX.out.trans (hbF.mono HX.out.size)).size))
       have HBX:=hid (hbF.trans (hbq.mono hbF.size))
       have hq1:wr.cell? ⟨fb,1,none⟩=some (.slice ao2 f1[k].ids.length cap2):=(hbq.cell (p:=⟨fb,1,none⟩) hszF).trans hf1
       by_cases hltm:m<f1[k].ids.length
       ·obtain⟨b2,hb2,hcb⟩:=HIDS.out m hltm
        have hcm:wr.cell? (b2.add m)=some (.int .i64 f1[k].ids[m]):=(hbq.cell (p:=b2.add m) (qF F _ hcb)).trans hcb
        have hib:=atInts (ao:=ao2) f1[k].ids.length cap2 m hb2 hltm
        have HGm:Hid (f1[k].ids.getD m 0=f1[k].ids[m]):=by show _=_;simp[hltm]
        have HBDm:=hid (all_range_bad (goodID f1[k].ids) m f1[k].ids.length hltm)
        have HSUm:=hid (all_range_succ (goodID f1[k].ids) m)
        clear hcb hb2
        cases hpg:pageB f1[k].ids[m]
        ·have HGO:Hid (goodF f1 k=false):=by
          show _=_
          have h1:goodID f1[k].ids m=false:=by unfold goodID;rw[HGm.out,hpg];rfl
          unfold goodF
          rw[HG.out,HBDm.out h1]
          simp
         go_wp2_with fail
         go_quiet ((go_at_call 68;exact Calls.quiet_of_same (HP.out _ _)))
         go_wp2
         go_ret
         refine⟨ret_bool ?_,HBW.out.trans ((below_draws wr nq).mono HBW.out.size)⟩
         simp[freesB,HBD.out HGO.out]
        ·by_cases hm0:0<m
         ·have hdm:decide (0<m)=true:=by simp;omega
          obtain⟨i,hi1,hi2⟩:∃ i:Nat,(i:Int)+1≤(m:Int)∧(m:Int)≤(i:Int)+1:=⟨m - 1,by omega,by omega⟩
          have hil:i<f1[k].ids.length:=by omega
          obtain⟨b3,hb3,hcb3⟩:=HIDS.out i hil
          have hci:wr.cell? (b3.add i)=some (.int .i64 f1[k].ids[i]):=(hbq.cell (p:=b3.add i) (qF F _ hcb3)).trans hcb3
          have hib3:=atInts (ao:=ao2) f1[k].ids.length cap2 i hb3 hil
          have hmi:(m:Int) - 1=(i:Int):=by omega
          have HGi:Hid (f1[k].ids.getD (m - 1) 0=f1[k].ids[i]):=by
           show _=_
           have:m - 1=i:=by omega
           rw[this]
           simp[hil]
          have HM0:Hid ((m==0)=false):=by show _=_;simp;omega
          clear hcb3 hb3 hm0
          cases hle:decide (f1[k].ids[m]≤f1[k].ids[i])
          ·have HGD:Hid (goodID f1[k].ids m=true):=by
            show _=_
            unfold goodID
            rw[HGm.out,HGi.out,hpg,HM0.out]
            simp at hle
            simp
            omega
           go_wp2_with fail
           go_quiet ((go_at_call 68;exact Calls.quiet_of_same (HP.out _ _)))
           go_wp2
           go_roundw
           case rel=>exact⟨m+1,by omega,by go_num,by show _=_;rw[HSUm.out,hallm.out,HGD.out];rfl,hbq.trans ((below_draws wr nq).mono hbq.size)⟩
           case measure=>simp[intOf];omega
          ·have HGO:Hid (goodF f1 k=false):=by
            show _=_
            have h1:goodID f1[k].ids m=false:=by
             unfold goodID
             rw[HGm.out,HGi.out,hpg,HM0.out]
             simp at hle
             simp
             omega
            unfold goodF
            rw[HG.out,HBDm.out h1]
            simp
           go_wp2_with fail
           go_quiet ((go_at_call 68;exact Calls.quiet_of_same (HP.out _ _)))
           go_wp2
           go_ret
           refine⟨ret_bool ?_,HBW.out.trans ((below_draws wr nq).mono HBW.out.size)⟩
           simp[freesB,HBD.out HGO.out]
         ·have hdm:decide (0<m)=false:=by simp;omega
          have HGD:Hid (goodID f1[k].ids m=true):=by
           show _=_
           have h3:(m==0)=true:=by simp;omega
           unfold goodID
           rw[HGm.out,hpg,h3]
           rfl
          clear hm0
          go_wp2_with fail
          go_quiet ((go_at_call 68;exact Calls.quiet_of_same (HP.out _ _)))
          go_wp2
          go_roundw
          case rel=>exact⟨m+1,by omega,by go_num,by show _=_;rw[HSUm.out,hallm.out,HGD.out];rfl,hbq.trans ((below_draws wr nq).mono hbq.size)⟩
          case measure=>simp[intOf];omega
       ·have hme:m=f1[k].ids.length:=by omega
        have HGF:Hid (goodF f1 k=true):=by
         show _=_
         have h1:=hallm.out
         rw[hme] at h1
         unfold goodF
         rw[HTT.out,HG.out,HZ.out,h1]
         rfl
        have h398:=ids_few _ _ hallm.out
        have HSL:Hid (sumLen f1 (k+1)=sumLen f1 k+f1[k].ids.length):=by show _=_;rw[sumLen,HG.out]
        have hmle:f1[k].ids.length≤398:=by omega
        clear hme h398
        go_wp2
        go_roundw
        case rel=>exact⟨k+1,by omega,by go_num,by rw[HSL.out];go_num,by show _=_;rw[HSU.out,hall.out,HGF.out];rfl,HBX.out⟩
        case measure=>simp[intOf];omega
  ·have hke:k=f1.length:=by omega
   subst hke
   go_wp2_with (go_at_call 68;refine Calls.mono (HP.out _ _) ?_;rintro e w2 ⟨rfl,rfl⟩)
   all_goals
    go_ret
    refine⟨ret_bool ?_,hbw⟩
    have h0:=hall.out
    clear hall hx6 hx7 hbel hbw hsf HX HX6 HX7 HP HI
   all_goals first
    | (simp_all [freesB];done)
    | (simp_all [freesB];omega)
end
section
open Go.RowKit Go.Sort
def hasKids (p:PageD):Bool:=decide (0<p.keys.length)||decide (0<p.kids.length)
def hasFree (p:PageD):Bool:=decide (0<p.free.length)||p.next != 0
def hasMeta (p:PageD):Bool:=!(p.mt.txn==0&&((p.mt.main.page==0&&(p.mt.main.count==0&&p.mt.main.flags==0))&&(p.mt.free==0&&p.mt.last==0)))
def noItems (p:PageD):Bool:=!decide (0<p.items.length)
def noText (p:PageD):Bool:=p.text.toList.isEmpty
def noVals (p:PageD):Bool:=!decide (0<p.vals.length)
theorem neqMeta (x g c q r l:Int) (w:World):(binOp .neq 57 (.agg #[.int .u64 x,.int .i64 g,.int .i64 c,.int .i64 q,.int .i64 r,.int .i64 l]) (.agg #[.int .u64 0,.int .i64 0,.int .i64 0,.int .i64 0,.int .i64 0,.int .i64 0])).run Tryz.prog w=.ok (.bool (!(x==0&&((g==0&&(c==0&&q==0))&&(r==0&&l==0))))) w:=by
 by_cases h1:x=0
 ·by_cases h2:g=0
  ·by_cases h3:c=0
   ·by_cases h4:q=0
    ·by_cases h5:r=0
     ·by_cases h6:l=0
      ·go_simp
      ·go_simp
     ·go_simp
    ·go_simp
   ·go_simp
  ·go_simp
 ·go_simp
theorem boxed14 (w:World) (nq:Nat) (T:TypeId) (a0 a1 a2 a3 a4 a5 a6 a7 a8 a9 a10 a11 a12 a13:Value):∃ X,(w.alloc (.cells #[a0,a1,a2,a3,a4,a5,a6,a7,a8,a9,a10,a11,a12,a13] T)).drewN nq=X∧Below w.heap.size w X∧w.heap.size<X.heap.size∧X.cell? ⟨w.heap.size,0,none⟩=some a0∧X.cell? ⟨w.heap.size,1,none⟩=some a1∧X.cell? ⟨w.heap.size,2,none⟩=some a2∧X.cell? ⟨w.heap.size,3,none⟩=some a3∧X.cell? ⟨w.heap.size,4,none⟩=some a4∧X.cell? ⟨w.heap.size,5,none⟩=some a5∧X.cell? ⟨w.heap.size,6,none⟩=some a6∧X.cell? ⟨w.heap.size,7,none⟩=some a7∧X.cell? ⟨w.heap.size,8,none⟩=some a8∧X.cell? ⟨w.heap.size,9,none⟩=some a9∧X.cell? ⟨w.heap.size,10,none⟩=some a10∧X.cell? ⟨w.heap.size,11,none⟩=some a11∧X.cell? ⟨w.heap.size,12,none⟩=some a12∧X.cell? ⟨w.heap.size,13,none⟩=some a13:=
 ⟨_,rfl,((qB _ _).alloc qL _).trans ((below_draws _ nq).mono (by simp)),by simp,by simp,by simp,by simp,by simp,by simp,by simp,by simp,by simp,by simp,by simp,by simp,by simp,by simp,by simp⟩
theorem below_alloc_call {w X w2:World} {o:Obj} (h:Below w.heap.size w X) (hb:Below (X.alloc o).heap.size (X.alloc o) w2):Below w.heap.size w w2:=
 (h.alloc h.size o).trans (hb.mono (by have:=h.size;simp;omega))
def overB (p:PageD):Bool:=!noText p&&decide (p.text.size≤100)&&noItems p&&!hasKids p&&noVals p&&!hasFree p&&!hasMeta p
def dupB (p:PageD):Bool:=valsB p.vals 4 12&&noItems p&&!hasKids p&&noText p&&!hasFree p&&!hasMeta p
def freeB (p:PageD):Bool:=freesB p.free p.next&&noItems p&&!hasKids p&&noText p&&noVals p&&!hasMeta p
def metaPB (p:PageD):Bool:=rootB p.mt.main&&(p.mt.free==0||pageB p.mt.free)&&decide (2≤p.mt.last)&&decide (p.mt.last≤400)&&noItems p&&!hasKids p&&noText p&&noVals p&&!hasFree p
def restB (p:PageD):Bool:=if p.kind=3 then overB p else if p.kind=4 then dupB p else if p.kind=5 then freeB p else if p.kind=6 then metaPB p else false
end
section
open Go.RowKit Go.Sort
def goodI (l:List ItemD) (i:Nat):Bool:=itemB (itemAt l i)&&(i==0||ltB (itemAt l (i - 1)).key (itemAt l i).key)
def leafB (p:PageD):Bool:=(List.range p.items.length).all (goodI p.items)&&(decide (0<p.items.length)&&decide (p.items.length≤4)&&!hasKids p&&noText p&&noVals p&&!hasFree p&&!hasMeta p)
theorem refIs_leaf (p:PageD) (vi vk vd vv vf:Value) (w:World) (hp:Hangs w p vi vk vd vv vf) (hkd:(p.kind==1)=true) (hfl:p.free.length≤140737488355328) :
  Calls Tryz.prog 40 #[.agg (pageCells p vi vk vd vv vf).toArray] w fun e w'=>e=.returned (.bool (leafB p))∧Below w.heap.size w w':=by
 obtain⟨k1,i1,y1,d1,t1,v1,f1,n1,⟨x1,⟨g1,c1,q1⟩,r1,l1⟩⟩:=p
 have HH:Hid (∀ W,Below w.heap.size w W→Hangs W _ vi vk vd vv vf):=fun W hW=>hp.below hW
 obtain⟨aoI,capI,rfl,him,hitI⟩:=hp.items
 obtain⟨aoK,capK,rfl,hkm,hitK⟩:=hp.keys
 obtain⟨aoD,capD,rfl,hdm,hitD⟩:=hp.kids
 obtain⟨aoV,capV,rfl,hvm,_⟩:=hp.vals
 obtain⟨aoF,capF,rfl,hfm,_⟩:=hp.free
 have htm:=hp.text
 simp only at him hkm hdm hvm hfm htm hitI hitK hitD hkd hfl
 unfold maxLen at him hkm hdm hvm hfm htm
 have HII:=hid hitI
 have HIK:=hid hitK
 have HID:=hid hitD
 have HFL:=hid hfl
 clear hp hitI hitK hitD hfl HIK HID HFL HH
 have hnm:=neqMeta x1 g1 c1 q1 r1 l1
 show Calls Tryz.prog _ #[.agg #[.int .i64 k1,.slice aoI i1.length capI,.slice aoK y1.length capK,.slice aoD d1.length capD,.string t1,.slice aoV v1.length capV,.slice aoF f1.length capF,.int .i64 n1,.int .u64 x1,.int .i64 g1,.int .i64 c1,.int .i64 q1,.int .i64 r1,.int .i64 l1]] w _
 cases hs1:decide (0<y1.length)
 all_goals cases hs2:decide (0<f1.length)
 all_goals
  go_enter Tryz.func40,Tryz.ntmps40
  go_wp2_with fail
  refine wp_region_quiet_lit (by kernel_rfl) (by kernel_rfl) ?_
  repeat (go_big_quiet_step (fail))
  refine wpQuiet_nil ?_
  intro _ hw'
  obtain⟨nq,hw''⟩:=hw'
  subst hw''
  clear hnm
  obtain⟨X,hX,hbX,hsz,hj0,hj1,hj2,hj3,hj4,hj5,hj6,hj7,hj8,hj9,hj10,hj11,hj12,hj13⟩:=boxed14 w nq 59 (.int .i64 k1) (.slice aoI i1.length capI) (.slice aoK y1.length capK) (.slice aoD d1.length capD) (.string t1) (.slice aoV v1.length capV) (.slice aoF f1.length capF) (.int .i64 n1) (.int .u64 x1) (.int .i64 g1) (.int .i64 c1) (.int .i64 q1) (.int .i64 r1) (.int .i64 l1)
  rw[hX]
  clear hX
  have HX:=hid hbX
  have HJ1:=hid hj1
  go_wp2
  clear hj0 hj1 hj2 hj3 hj4 hj5 hj6 hj7 hj8 hj9 hj10 hj11 hj12 hj13 hbX
  go_loopw [9] (fun i wr=>∃ k:Nat,k≤i1.length∧i=.int .i64 k∧Hid ((List.range k).all (goodI i1)=true)∧Below X.heap.size X wr) (fun i _=>i1.length - (intOf i).toNat)
  case atStart=>exact⟨0,Nat.zero_le _,rfl,rfl,qB _ _⟩
  case round=>
   obtain⟨k,hk,rfl,hall,hbel⟩:=hrel
   have hk1:wr.cell? ⟨w.heap.size,1,none⟩=some (.slice aoI i1.length capI):=(hbel.cell (p:=⟨w.heap.size,1,none⟩) hsz).trans HJ1.out
   have hbw:=HX.out.trans (hbel.mono HX.out.size)
   by_cases hlt:k<i1.length
   ·obtain⟨b,o,u,hao,hbl,hr,hu,hks,hvs⟩:=HII.out k hlt
    have hia:=atItems (ao:=aoI) i1.length capI k hao hlt
    have hR:=range_below hr hbw hbl
    have hl1:=fun d os=>range10 (range_below hR (below_regrown wr d os) (qM hbl hbw.size))
    have hj1:=cell_regrown hk1
    have HIT:Hid (∀ d os,Calls Tryz.prog 67 #[.agg #[.string i1[k].key,.int .i64 i1[k].kind,.string i1[k].val,.int .i64 i1[k].run,.int .i64 i1[k].len,u,.int .i64 i1[k].dup,.int .i64 i1[k].root.page,.int .i64 i1[k].root.count,.int .i64 i1[k].root.flags]] (grow (redrawn wr d) os) fun e w''=>e=.returned (.bool (itemB i1[k]))∧∃ p:Regrown,w''=grow (redrawn wr p.d) p.os):=fun d os=>
     Calls.regrown_of (refItem_any i1[k] u _ ((hu.below hbw).below (below_regrown wr d os)) hks hvs)
    have HG:Hid (itemAt i1 k=i1[k]):=by show _=_;simp[itemAt,hlt]
    have HSU:=hid (all_range_succ (goodI i1) k)
    have HBD:=hid (all_range_bad (goodI i1) k i1.length hlt)
    clear hr hR hu hao hbl hks hvs
    cases hib:itemB i1[k]
    ·have HGO:Hid (goodI i1 k=false):=by show _=_;unfold goodI;rw[HG.out,hib];rfl
     rw[hib] at HIT
     go_wp2_with fail
     refine wp_region_quiet_below (by kernel_rfl) (by kernel_rfl) ?_
     repeat (go_big_quiet_step (exact HIT.out _ _))
     refine wpQuiet_nil ?_
     intro _ hw'
     obtain⟨⟨dq,osq⟩,hw''⟩:=hw'
     subst hw''
     have HBE:=hid (hbel.trans ((below_regrown wr dq osq).mono hbel.size))
     clear hl1 hia hbel hk1 hbw
     go_wp2
     go_ret
     refine⟨ret_bool ?_,HX.out.trans (HBE.out.mono HX.out.size)⟩
     rw[leafB,HBD.out HGO.out]
     rfl
    ·rw[hib] at HIT
     by_cases hk0:0<k
     ·have hd:decide (0<k)=true:=by simp;omega
      obtain⟨j,hj2,hj3⟩:∃ j:Nat,(j:Int)+1≤(k:Int)∧(k:Int)≤(j:Int)+1:=⟨k - 1,by omega,by omega⟩
      have hjl:j<i1.length:=by omega
      obtain⟨b2,o2,u2,hao2,hbl2,hr2,_,_,_⟩:=HII.out j hjl
      have hia2:=atItems (ao:=aoI) i1.length capI j hao2 hjl
      have hl2:=fun d os=>(range10 (range_below (range_below hr2 hbw hbl2) (below_regrown wr d os) (qM hbl2 hbw.size))).1
      have hkj:(k:Int) - 1=(j:Int):=by omega
      have HGJ:Hid (itemAt i1 (k - 1)=i1[j]):=by
       show _=_
       have:k - 1=j:=by omega
       rw[this]
       simp[itemAt,hjl]
      have HK0:Hid ((k==0)=false):=by show _=_;simp;omega
      clear hr2 hao2 hbl2 hk0
      cases hlb:ltB i1[j].key i1[k].key
      ·have HGO:Hid (goodI i1 k=false):=by show _=_;unfold goodI;rw[HG.out,HGJ.out,hib,hlb,HK0.out];rfl
       have hop:Op.bytesLess i1[j].key.toList i1[k].key.toList=false:=hlb
       clear hlb
       go_wp2_with fail
       refine wp_region_quiet_below (by kernel_rfl) (by kernel_rfl) ?_
       repeat (go_big_quiet_step (exact HIT.out _ _))
       refine wpQuiet_nil ?_
       intro _ hw'
       obtain⟨⟨dq,osq⟩,hw''⟩:=hw'
       subst hw''
       have HBE:=hid (hbel.trans ((below_regrown wr dq osq).mono hbel.size))
       clear hl1 hia hbel hk1 hbw
       go_wp2
       go_ret
       refine⟨ret_bool ?_,HX.out.trans (HBE.out.mono HX.out.size)⟩
       rw[leafB,HBD.out HGO.out]
       rfl
      ·have HGO:Hid (goodI i1 k=true):=by show _=_;unfold goodI;rw[HG.out,HGJ.out,hib,hlb,HK0.out];rfl
       have hop:Op.bytesLess i1[j].key.toList i1[k].key.toList=true:=hlb
       clear hlb
       go_wp2_with fail
       refine wp_region_quiet_below (by kernel_rfl) (by kernel_rfl) ?_
       repeat (go_big_quiet_step (exact HIT.out _ _))
       refine wpQuiet_nil ?_
       intro _ hw'
       obtain⟨⟨dq,osq⟩,hw''⟩:=hw'
       subst hw''
       have HBE:=hid (hbel.trans ((below_regrown wr dq osq).mono hbel.size))
       clear hl1 hia hbel hk1 hbw
       go_wp2
       go_roundw
       case rel=>exact⟨k+1,by omega,by go_num,by show _=_;rw[HSU.out,hall.out,HGO.out];rfl,HBE.out⟩
       case measure=>simp[intOf];omega
     ·have hd:decide (0<k)=false:=by simp;omega
      have HGO:Hid (goodI i1 k=true):=by
       show _=_
       have h3:(k==0)=true:=by simp;omega
       unfold goodI
       rw[HG.out,hib,h3]
       rfl
      clear hk0
      go_wp2_with fail
      refine wp_region_quiet_below (by kernel_rfl) (by kernel_rfl) ?_
      repeat (go_big_quiet_step (exact HIT.out _ _))
      refine wpQuiet_nil ?_
      intro _ hw'
      obtain⟨⟨dq,osq⟩,hw''⟩:=hw'
      subst hw''
      have HBE:=hid (hbel.trans ((below_regrown wr dq osq).mono hbel.size))
      clear hl1 hia hbel hk1 hbw
      go_wp2
      go_roundw
      case rel=>exact⟨k+1,by omega,by go_num,by show _=_;rw[HSU.out,hall.out,HGO.out];rfl,HBE.out⟩
      case measure=>simp[intOf];omega
   ·have hke:k=i1.length:=by omega
    have HAL:Hid ((List.range i1.length).all (goodI i1)=true):=by show _=_;rw[← hke];exact hall.out
    have HBW:=hid hbw
    clear hke hall hbw
    go_wp2
    all_goals
     go_ret
     refine⟨ret_bool ?_,HBW.out⟩
     rw[leafB,HAL.out]
     clear HBW HAL HX HJ1 HII hbel hk1
    all_goals first
     | (simp_all [noText,noVals,hasKids,hasFree,hasMeta];done)
     | (simp_all [noText,noVals,hasKids,hasFree,hasMeta];omega)
     | (rw[Bool.eq_iff_iff];simp_all [noText,noVals,hasKids,hasFree,hasMeta];done)
     | (rw[Bool.eq_iff_iff];simp_all [noText,noVals,hasKids,hasFree,hasMeta];omega)
end
section
open Go.RowKit Go.Sort
def keyAt (l:List ByteArray) (i:Nat):ByteArray:=l.getD i ⟨#[]⟩
def goodB (y:List ByteArray) (d:List Int) (i:Nat):Bool:=pageB (d.getD i 0)&&(if i=0 then (keyAt y 0).toList.isEmpty else shortB (keyAt y i)&&ltB (keyAt y (i - 1)) (keyAt y i))
def branchB (p:PageD):Bool:=decide (p.keys.length=p.kids.length)&&(List.range p.kids.length).all (goodB p.keys p.kids)&&(decide (2≤p.kids.length)&&decide (p.kids.length≤4)&&noItems p&&noText p&&noVals p&&!hasFree p&&!hasMeta p)
end
end Go.Proofs.YtbghhklbfnplbaaGreat

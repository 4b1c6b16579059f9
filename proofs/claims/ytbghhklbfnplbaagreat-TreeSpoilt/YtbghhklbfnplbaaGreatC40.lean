import Derived.Test.YtbghhklbfnplbaaGreatC00
import Derived.Test.YtbghhklbfnplbaaGreatC08
import Derived.Test.YtbghhklbfnplbaaGreatC39
set_option maxHeartbeats 2000000
namespace Go.Proofs.YtbghhklbfnplbaaGreat
section
open Go.RowKit Go.Sort
theorem rnum_any (n:Int) (w:World) :
  Calls Tryz.prog 41 #[.int .i64 n] w fun e w'=>e=.returned (.string (bs (numB n)))∧Below w.heap.size w w':=by
 go_enter Tryz.func41,Tryz.ntmps41
 go_wp2_with (go_at_call 45;refine (refNumS_any _ _ (wrap_lo _) (wrap_hi _)).mono ?_;rintro e w' ⟨rfl,hb⟩)
 go_ret
 exact⟨rfl,hb⟩
theorem rtext_any (s:ByteArray) (w:World) (hs:s.size≤65535) :
  Calls Tryz.prog 43 #[.string s] w fun e w'=>e=.returned (.string (bs (textB s)))∧Below w.heap.size w w':=by
 refine (refTextS_short s w hs).mono ?_
 rintro e w' ⟨rfl,hb⟩
 refine⟨ret_str ?_,hb⟩
 apply ByteArray.ext
 simp[bs,textB,lowS]
theorem rnumS_any (n:Int) (w:World) (h0:0≤n) (h1:n<18446744073709551616) :
  Calls Tryz.prog 45 #[.int .u64 n] w fun e w'=>e=.returned (.string (bs (lowB n 8)))∧Below w.heap.size w w':=refNumS_any n w h0 h1
theorem rnum_regrown (X:World) (n:Int):∀ d os,Calls Tryz.prog 41 #[.int .i64 n] (grow (redrawn X d) os) fun e w''=>e=.returned (.string (bs (numB n)))∧∃ p:Regrown,w''=grow (redrawn X p.d) p.os:=fun _ _=>Calls.regrown_of (rnum_any n _)
theorem rrootBytes_any (r:RootD) (w:World) :
  Calls Tryz.prog 46 #[.agg #[.int .i64 r.page,.int .i64 r.count,.int .i64 r.flags]] w fun e w'=>e=.returned (.string (bs (rootBytesD r)))∧Below w.heap.size w w':=by
 obtain⟨a,b,c⟩:=r
 show Calls Tryz.prog _ #[.agg #[.int .i64 a,.int .i64 b,.int .i64 c]] w _
 have hb1:Below w.heap.size w (w.alloc (.cells #[.int .i64 a,.int .i64 b,.int .i64 c] 43)):=(qB _ _).alloc qL _
 have hc0:(w.alloc (.cells #[.int .i64 a,.int .i64 b,.int .i64 c] 43)).cell? ⟨w.heap.size,0,none⟩=some (.int .i64 a):=by simp
 have hc1:(w.alloc (.cells #[.int .i64 a,.int .i64 b,.int .i64 c] 43)).cell? ⟨w.heap.size,1,none⟩=some (.int .i64 b):=by simp
 have hc2:(w.alloc (.cells #[.int .i64 a,.int .i64 b,.int .i64 c] 43)).cell? ⟨w.heap.size,2,none⟩=some (.int .i64 c):=by simp
 have s1:=bs_size (numB a)
 have s2:=bs_size (numB b)
 have s3:=bs_size (numB c)
 rw[numB_length] at s1 s2 s3
 go_enter Tryz.func46,Tryz.ntmps46
 go_wp2_with fail
 generalize (w.alloc (.cells #[.int .i64 a,.int .i64 b,.int .i64 c] 43))=X at *
 have hd0:=cell_regrown hc0
 have hd1:=cell_regrown hc1
 have hd2:=cell_regrown hc2
 have HN:=hid (rnum_regrown X)
 clear hc0 hc1 hc2
 refine wp_region_quiet_below (by kernel_rfl) (by kernel_rfl) ?_
 repeat (go_big_quiet_step (exact HN.out _ _ _))
 refine wpQuiet_nil ?_
 intro _ hw'
 obtain⟨⟨dq,osq⟩,hw''⟩:=hw'
 subst hw''
 clear hd0 hd1 hd2
 go_wp2
 go_ret
 refine⟨ret_str ?_,hb1.trans ((below_regrown X dq osq).mono hb1.size)⟩
 simp only[bs_append,rootBytesD]
theorem rtexts_any (l:List ByteArray) (v:Value) (w:World) (hv:StrsAt w v l) (hs:∀ x∈l,x.size≤65535) (hl:l.length≤1000) :
  Calls Tryz.prog 44 #[v] w fun e w'=>e=.returned (.string (bs (listB textB l)))∧Below w.heap.size w w':=by
 obtain⟨ao,cap,rfl,hlm,hc⟩:=hv
 unfold maxLen at hlm
 have HC:=hid hc
 have HS:=hid hs
 have HM:Hid (∀ k,k≤l.length→(joinB textB (l.take k)).length≤65537*k):=by
  intro k hk
  have:=joinB_le textB 65537 (l.take k) (fun x hx=>by have:=hs x (List.mem_of_mem_take hx);rw[textB_length];omega)
  rw[List.length_take,Nat.min_eq_left hk] at this
  omega
 clear hc hs
 go_enter Tryz.func44,Tryz.ntmps44
 go_wp2_with fail
 refine (rnum_any _ _).mono ?_
 rintro e w1 ⟨rfl,hb1⟩
 go_wp2
 go_loopg [3,4] l.length (fun g s i wr=>∃ k:Nat,k+g=l.length∧i=.int .i64 k∧s=.string (bs (numB l.length++joinB textB (l.take k)))∧Below w.heap.size w wr)
 case atStart=>exact⟨0,by omega,rfl,by simp[joinB],hb1⟩
 case round=>
  obtain⟨k,hk,rfl,rfl,hbel⟩:=hrel
  clear hb1
  cases gk with
  | succ g=>
    have hlt:k<l.length:=by omega
    have HT:=hid (joinB_take textB l k hlt)
    have hMk:=HM.out k (by omega)
    have hsk:=HS.out l[k] (List.getElem_mem hlt)
    obtain⟨a,ha,hce,hsz⟩:=HC.out k hlt
    have hcell:wr.cell? (a.add k)=some (.string l[k]):=(hbel.cell (p:=a.add k) (qF w _ hce)).trans hce
    have hia:=atStrs (ao:=ao) l.length cap k ha hlt
    have HSK:=hid hsk
    have z1:(bs (numB l.length++joinB textB (l.take k))).size=8+(joinB textB (l.take k)).length:=by rw[bs_size,qO,numB_length]
    have z2:(bs (textB l[k])).size=2+l[k].size:=by rw[bs_size,textB_length]
    clear hce ha hsz
    generalize l[k]=Y at *
    generalize joinB textB (l.take k)=J at *
    go_wp2_with fail
    refine (rtext_any _ _ HSK.out).mono ?_
    rintro e w3 ⟨rfl,hb3⟩
    have hB3:=hid (hbel.trans (hb3.mono hbel.size))
    clear hb3
    go_wp2
    go_roundg g
    case rel=>exact⟨k+1,by omega,by go_num,by rw[HT.out,bs_append,List.append_assoc],hB3.out⟩
    case measure=>omega
  | zero=>
    have hke:k=l.length:=by omega
    subst hke
    go_wp2
    go_ret
    refine⟨ret_str ?_,hbel⟩
    rw[List.take_length]
    rfl
end
section
open Go.RowKit Go.Sort
theorem ritemBytes_any (x:ItemD) (v:Value) (w:World) (hv:StrsAt w v x.vals) (hx:ItemOk x) :
  Calls Tryz.prog 42 #[.agg (itemCells x v).toArray] w fun e w'=>e=.returned (.string (bs (itemBytesD x)))∧Below w.heap.size w w':=by
 obtain⟨k1,d1,l1,r1,n1,s1,p1,⟨g1,c1,f1⟩⟩:=x
 obtain⟨hx1,hx2,hx3,hx4⟩:=hx
 simp only at hx1 hx2 hx3 hx4
 have HV:Hid (∀ W,Below w.heap.size w W→StrsAt W v s1):=fun W hW=>hv.below hW
 obtain⟨ao,cap,rfl,-,-⟩:=hv
 simp only at HV
 have hXr:=rangeNew w (itemCells ⟨k1,d1,l1,r1,n1,s1,p1,⟨g1,c1,f1⟩⟩ (.slice ao s1.length cap)) 45
 have hX:∀ Y,Below (w.heap.size+1) (w.alloc (.cells #[.string k1,.int .i64 d1,.string l1,.int .i64 r1,.int .i64 n1,.slice ao s1.length cap,.int .i64 p1,.int .i64 g1,.int .i64 c1,.int .i64 f1] 45)) Y→Y.rangeAt w.heap.size 0 (itemCells ⟨k1,d1,l1,r1,n1,s1,p1,⟨g1,c1,f1⟩⟩ (.slice ao s1.length cap)):=fun Y hY=>range_below hXr (hY.mono (by simp)) (by simp)
 have HR:=hid hX
 clear hX hXr
 have hb1:Below w.heap.size w (w.alloc (.cells #[.string k1,.int .i64 d1,.string l1,.int .i64 r1,.int .i64 n1,.slice ao s1.length cap,.int .i64 p1,.int .i64 g1,.int .i64 c1,.int .i64 f1] 45)):=(qB _ _).alloc qL _
 have hsX:(w.alloc (.cells #[.string k1,.int .i64 d1,.string l1,.int .i64 r1,.int .i64 n1,.slice ao s1.length cap,.int .i64 p1,.int .i64 g1,.int .i64 c1,.int .i64 f1] 45)).heap.size=w.heap.size+1:=by simp
 have z1:=bs_size (textB k1)
 rw[textB_length] at z1
 have z2:=fun n=>(bs_size (numB n)).trans (numB_length n)
 show Calls Tryz.prog _ #[.agg #[.string k1,.int .i64 d1,.string l1,.int .i64 r1,.int .i64 n1,.slice ao s1.length cap,.int .i64 p1,.int .i64 g1,.int .i64 c1,.int .i64 f1]] w _
 go_enter Tryz.func42,Tryz.ntmps42
 go_wp2_with fail
 generalize (w.alloc (.cells #[.string k1,.int .i64 d1,.string l1,.int .i64 r1,.int .i64 n1,.slice ao s1.length cap,.int .i64 p1,.int .i64 g1,.int .i64 c1,.int .i64 f1] 45))=X at *
 have hl2:=fun d os=>range10 (HR.out _ ((below_regrown X d os).mono (by omega)))
 simp only[Nat.zero_add] at hl2
 have HN:=hid (rnum_regrown X)
 have HTX:Hid (∀ d os,Calls Tryz.prog 43 #[.string k1] (grow (redrawn X d) os) fun e w''=>e=.returned (.string (bs (textB k1)))∧∃ p:Regrown,w''=grow (redrawn X p.d) p.os):=fun d os=>Calls.regrown_of (rtext_any k1 _ hx1)
 refine wp_region_quiet_below (by kernel_rfl) (by kernel_rfl) ?_
 repeat (go_big_quiet_step (first|exact HTX.out _ _|exact HN.out _ _ _))
 refine wpQuiet_nil ?_
 intro _ hw'
 obtain⟨⟨dq,osq⟩,hw''⟩:=hw'
 subst hw''
 have HBY:=hid (below_regrown X dq osq)
 have hl3:=hl2 dq osq
 clear hl2 HTX HN
 generalize hY:grow (redrawn X dq) osq=Y at *
 have hbY:Below w.heap.size w Y:=hb1.trans (HBY.out.mono hb1.size)
 have hsY:w.heap.size<Y.heap.size:=by have:=HBY.out.size;omega
 rw[bs_append]
 have z3:=bs_size (textB k1++numB d1)
 rw[qO,textB_length,numB_length] at z3
 generalize hHD:textB k1++numB d1=HD at *
 have hl4:=fun d os=>range10 (range_below (HR.out Y (HBY.out.mono (by omega))) (below_regrown Y d os) hsY)
 simp only[Nat.zero_add] at hl4
 have HN:=hid (rnum_regrown Y)
 have HLT:Hid (∀ d os,Calls Tryz.prog 44 #[.slice ao s1.length cap] (grow (redrawn Y d) os) fun e w''=>e=.returned (.string (bs (listB textB s1)))∧∃ p:Regrown,w''=grow (redrawn Y p.d) p.os):=fun d os=>
  Calls.regrown_of (rtexts_any s1 _ _ (HV.out _ (hbY.trans ((below_regrown Y d os).mono hbY.size))) hx4 hx3)
 have z4:=bs_size (listB textB s1)
 have z5:=listTexts_le s1 hx3 hx4
 have z6:(bs (textB l1)).size=2+l1.size:=by rw[bs_size,textB_length]
 have z7:(bs (rootBytesD ⟨g1,c1,f1⟩)).size=24:=by rw[bs_size,rootBytesD_length]
 have HX2:=hid hx2
 by_cases h1:d1=1
 ·subst h1
  clear hl4
  go_wp2_with (go_at_call 43;refine (rtext_any _ _ HX2.out).mono ?_;rintro e w2 ⟨rfl,hb2⟩)
  go_ret
  refine⟨ret_str ?_,hbY.trans (hb2.mono hbY.size)⟩
  simp[bs_append,itemBytesD,itemTail,← hHD]
 by_cases h2:d1=2
 ·subst h2
  go_wp2_with fail
  clear hl3
  refine wp_region_quiet_below (by kernel_rfl) (by kernel_rfl) ?_
  repeat (go_big_quiet_step (exact HN.out _ _ _))
  refine wpQuiet_nil ?_
  intro _ hw'
  obtain⟨⟨dq2,osq2⟩,hw''⟩:=hw'
  subst hw''
  clear hl4
  go_wp2
  go_ret
  refine⟨ret_str ?_,hbY.trans ((below_regrown Y dq2 osq2).mono hbY.size)⟩
  simp[bs_append,itemBytesD,itemTail,← hHD]
 by_cases h3:d1=3
 ·subst h3
  go_wp2_with fail
  clear hl3
  refine wp_region_quiet_below (by kernel_rfl) (by kernel_rfl) ?_
  repeat (go_big_quiet_step (first|exact HN.out _ _ _|exact HLT.out _ _))
  refine wpQuiet_nil ?_
  intro _ hw'
  obtain⟨⟨dq2,osq2⟩,hw''⟩:=hw'
  subst hw''
  clear hl4
  go_wp2
  go_ret
  refine⟨ret_str ?_,hbY.trans ((below_regrown Y dq2 osq2).mono hbY.size)⟩
  simp[bs_append,itemBytesD,itemTail,← hHD]
 ·have e1:(d1==1)=false:=by simpa using h1
  have e2:(d1==2)=false:=by simpa using h2
  have e3:(d1==3)=false:=by simpa using h3
  clear hl4
  go_wp2_with (go_at_call 46;refine (rrootBytes_any ⟨g1,c1,f1⟩ _).mono ?_;rintro e w2 ⟨rfl,hb2⟩)
  go_ret
  refine⟨ret_str ?_,hbY.trans (hb2.mono hbY.size)⟩
  simp[bs_append,itemBytesD,itemTail,← hHD,h1,h2,h3]
end
end Go.Proofs.YtbghhklbfnplbaaGreat

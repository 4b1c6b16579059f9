import Derived.Test.YtbghhklbfnplbaaGreatC00
import Derived.Test.YtbghhklbfnplbaaGreatC05
import Derived.Test.YtbghhklbfnplbaaGreatC03
import Derived.Test.YtbghhklbfnplbaaGreatC02
set_option maxHeartbeats 2000000
namespace Go.Proofs.YtbghhklbfnplbaaGreat
section
open Go.RowKit Go.Sort
def bs (l:List UInt8):ByteArray:=⟨l.toArray⟩
theorem bs_size (l:List UInt8):(bs l).size=l.length:=by simp[bs,ByteArray.size]
theorem bs_append (a b:List UInt8):bs a++bs b=bs (a++b):=by
 apply ByteArray.ext
 simp[bs]
theorem bs_list (l:List UInt8):(bs l).data.toList=l:=by simp[bs]
def numB (n:Int):List UInt8:=lowB (IntKind.u64.wrap n) 8
def textB (s:ByteArray):List UInt8:=lowB s.size 2++s.data.toList
theorem numB_length (n:Int):(numB n).length=8:=lowB_length _ _
theorem textB_length (s:ByteArray):(textB s).length=2+s.size:=by simp[textB,lowB_length]
theorem wrap_lo (n:Int):0≤IntKind.u64.wrap n:=by rw[IntKind.wrap_u64];omega
theorem wrap_hi (n:Int):IntKind.u64.wrap n<18446744073709551616:=by rw[IntKind.wrap_u64];omega
theorem pnum_any (n:Int) (w:World) :
  Calls Tryz.prog 136 #[.int .i64 n] w fun e w'=>e=.returned (.string (bs (numB n)))∧Below w.heap.size w w':=by
 go_enter Tryz.func136,Tryz.ntmps136
 go_wp2_with (go_at_call 138;refine (num_any _ _ (wrap_lo _) (wrap_hi _)).mono ?_;rintro e w' ⟨rfl,hb⟩)
 go_ret
 exact⟨rfl,hb⟩
theorem ptext_any (s:ByteArray) (w:World) (hs:s.size≤65535) :
  Calls Tryz.prog 148 #[.string s] w fun e w'=>e=.returned (.string (bs (textB s)))∧Below w.heap.size w w':=by
 refine (text_short s w hs).mono ?_
 rintro e w' ⟨rfl,hb⟩
 refine⟨ret_str ?_,hb⟩
 apply ByteArray.ext
 simp[bs,textB,lowS]
theorem pnum_regrown (X:World) (n:Int):∀ d os,Calls Tryz.prog 136 #[.int .i64 n] (grow (redrawn X d) os) fun e w''=>e=.returned (.string (bs (numB n)))∧∃ p:Regrown,w''=grow (redrawn X p.d) p.os:=fun _ _=>Calls.regrown_of (pnum_any n _)
def rootBytesD (r:RootD):List UInt8:=numB r.page++numB r.count++numB r.flags
theorem rootBytesD_length (r:RootD):(rootBytesD r).length=24:=by simp[rootBytesD,numB_length]
theorem rootBytes_any (r:RootD) (w:World) :
  Calls Tryz.prog 152 #[.agg #[.int .i64 r.page,.int .i64 r.count,.int .i64 r.flags]] w fun e w'=>e=.returned (.string (bs (rootBytesD r)))∧Below w.heap.size w w':=by
 obtain⟨a,b,c⟩:=r
 show Calls Tryz.prog _ #[.agg #[.int .i64 a,.int .i64 b,.int .i64 c]] w _
 have hb1:Below w.heap.size w (w.alloc (.cells #[.int .i64 a,.int .i64 b,.int .i64 c] 43)):=(qB _ _).alloc qL _
 have hc0:(w.alloc (.cells #[.int .i64 a,.int .i64 b,.int .i64 c] 43)).cell? ⟨w.heap.size,0,none⟩=some (.int .i64 a):=by simp
 have hc1:(w.alloc (.cells #[.int .i64 a,.int .i64 b,.int .i64 c] 43)).cell? ⟨w.heap.size,1,none⟩=some (.int .i64 b):=by simp
 have hc2:(w.alloc (.cells #[.int .i64 a,.int .i64 b,.int .i64 c] 43)).cell? ⟨w.heap.size,2,none⟩=some (.int .i64 c):=by simp
 have s1:=bs_size (numB a)
 have s2:=bs_size (numB b)
 have s3:=bs_size (numB c)
 rw[numB_length] at s1 s2 s3
 go_enter Tryz.func152,Tryz.ntmps152
 go_wp2_with fail
 generalize (w.alloc (.cells #[.int .i64 a,.int .i64 b,.int .i64 c] 43))=X at *
 have hd0:=cell_regrown hc0
 have hd1:=cell_regrown hc1
 have hd2:=cell_regrown hc2
 have HN:=hid (pnum_regrown X)
 clear hc0 hc1 hc2
 refine wp_region_quiet_below (by kernel_rfl) (by kernel_rfl) ?_
 repeat (go_big_quiet_step (exact HN.out _ _ _))
 refine wpQuiet_nil ?_
 intro _ hw'
 obtain⟨⟨dq,osq⟩,hw''⟩:=hw'
 subst hw''
 clear hd0 hd1 hd2
 go_wp2
 go_ret
 refine⟨ret_str ?_,hb1.trans ((below_regrown X dq osq).mono hb1.size)⟩
 simp only[bs_append,rootBytesD]
end
section
open Go.RowKit Go.Sort
def joinB {α:Type} (f:α→List UInt8):List α→List UInt8
 | []=>[]
 | x::r=>f x++joinB f r
theorem joinB_append {α:Type} (f:α→List UInt8):∀ a b:List α,joinB f (a++b)=joinB f a++joinB f b
 | [],b=>rfl
 | x::a,b=>by simp[joinB,joinB_append f a b]
theorem joinB_take {α:Type} (f:α→List UInt8) (l:List α) (k:Nat) (h:k<l.length):joinB f (l.take (k+1))=joinB f (l.take k)++f l[k]:=by
 rw[qT h,joinB_append]
 simp[joinB]
theorem joinB_le {α:Type} (f:α→List UInt8) (M:Nat):∀ l:List α,(∀ x∈l,(f x).length≤M)→(joinB f l).length≤l.length*M
 | [],_=>by simp[joinB]
 | x::r,h=>by
   have h1:=h x (by simp)
   have h2:=joinB_le f M r (fun y hy=>h y (by simp[hy]))
   simp only[joinB,qO,qV,Nat.add_mul]
   omega
def listB {α:Type} (f:α→List UInt8) (l:List α):List UInt8:=numB l.length++joinB f l
theorem listB_le {α:Type} (f:α→List UInt8) (M:Nat) (l:List α) (h:∀ x∈l,(f x).length≤M):(listB f l).length≤8+l.length*M:=by
 have:=joinB_le f M l h
 simp only[listB,qO,numB_length]
 omega
theorem listTexts_any (l:List ByteArray) (v:Value) (w:World) (hv:StrsAt w v l) (hs:∀ x∈l,x.size≤65535) (hl:l.length≤1000) :
  Calls Tryz.prog 149 #[v,.func (.func 148) #[] #[]] w fun e w'=>e=.returned (.string (bs (listB textB l)))∧Below w.heap.size w w':=by
 obtain⟨ao,cap,rfl,hlm,hc⟩:=hv
 unfold maxLen at hlm
 have HC:=hid hc
 have HS:=hid hs
 have HM:Hid (∀ k,k≤l.length→(joinB textB (l.take k)).length≤65537*k):=by
  intro k hk
  have:=joinB_le textB 65537 (l.take k) (fun x hx=>by have:=hs x (List.mem_of_mem_take hx);rw[textB_length];omega)
  rw[List.length_take,Nat.min_eq_left hk] at this
  omega
 clear hc hs
 have hI0:=isB_fresh w
 have hb0:Below w.heap.size w (w.alloc (.cells #[.pointer none,.slice none 0 0] 92)):=(qB _ _).alloc qL _
 have HI0:=hid hI0
 clear hI0
 go_enter Tryz.func149,Tryz.ntmps149
 go_wp2_with fail
 refine (pnum_any _ _).mono ?_
 rintro e w1 ⟨rfl,hb1⟩
 have HI1:=hid (isB_below HI0.out hb1)
 have hB1:=hb0.trans (hb1.mono hb0.size)
 clear hb1 HI0 hb0
 go_wp2_with fail
 refine (writeString_any w.heap.size w.heap.size [] _ _ HI1.out (by rw[bs_size,numB_length];simp) hB1.size).mono ?_
 rintro e w2 ⟨rfl,hI2,hb2⟩
 have HI2:Hid (IsB w.heap.size w.heap.size (numB l.length++joinB textB (l.take 0)) w2):=by
  show IsB _ _ _ _
  rw[bs_list] at hI2
  simpa[joinB] using hI2
 have hB2:=hB1.trans hb2
 clear hB1 hb2 hI2 HI1
 go_wp2
 go_loopw [14] (fun i wr=>∃ k:Nat,k≤l.length∧i=.int .i64 k∧Hid (IsB w.heap.size w.heap.size (numB l.length++joinB textB (l.take k)) wr)∧Below w.heap.size w wr) (fun i _=>l.length - (intOf i).toNat)
 case atStart=>exact⟨0,Nat.zero_le _,rfl,HI2,hB2⟩
 case round=>
  obtain⟨k,hk,rfl,hI,hbel⟩:=hrel
  clear HI2 hB2
  by_cases hlt:k<l.length
  ·have HT:=hid (joinB_take textB l k hlt)
   have hMk:=HM.out k (by omega)
   have hsk:=HS.out l[k] (List.getElem_mem hlt)
   obtain⟨a,ha,hce,hsz⟩:=HC.out k hlt
   have hcell:wr.cell? (a.add k)=some (.string l[k]):=(hbel.cell (p:=a.add k) (qF w _ hce)).trans hce
   have hia:=atStrs (ao:=ao) l.length cap k ha hlt
   have HSK:=hid hsk
   clear hce ha hsz hsk
   generalize l[k]=Y at *
   go_wp2_with fail
   refine (ptext_any _ _ HSK.out).mono ?_
   rintro e w3 ⟨rfl,hb3⟩
   have HI3:=hid (isB_below hI.out hb3)
   have hB3:=hbel.trans (hb3.mono hbel.size)
   clear hb3
   go_wp2_with fail
   refine (writeString_any w.heap.size w.heap.size _ _ _ HI3.out (by rw[bs_size,qO,numB_length];have:=hMk;rw[textB_length];have:=HSK.out;omega) hB3.size).mono ?_
   rintro e w4 ⟨rfl,hI4,hb4⟩
   have HI4:Hid (IsB w.heap.size w.heap.size (numB l.length++joinB textB (l.take (k+1))) w4):=by
    show IsB _ _ _ _
    rw[HT.out,← List.append_assoc]
    rw[bs_list] at hI4
    exact hI4
   have hB4:=hB3.trans hb4
   clear hB3 hb4 hI4 HI3
   go_wp2
   go_roundw
   case rel=>exact⟨k+1,by omega,by go_num,HI4,hB4⟩
   case measure=>simp[intOf];omega
  ·go_wp2_with fail
   refine (string_any w.heap.size w.heap.size _ _ hI.out hbel.size).mono ?_
   rintro e w3 ⟨rfl,hb3⟩
   go_wp2
   go_ret
   refine⟨ret_str ?_,hbel.trans hb3⟩
   rw[List.take_of_length_le (by omega)]
   rfl
theorem listInts_any (l:List Int) (v:Value) (w:World) (hv:IntsAt w v l) (hs:∀ x∈l,True) (hl:l.length≤1000) :
  Calls Tryz.prog 168 #[v,.func (.func 136) #[] #[]] w fun e w'=>e=.returned (.string (bs (listB numB l)))∧Below w.heap.size w w':=by
 obtain⟨ao,cap,rfl,hlm,hc⟩:=hv
 unfold maxLen at hlm
 have HC:=hid hc
 have HS:=hid hs
 have HM:Hid (∀ k,k≤l.length→(joinB numB (l.take k)).length≤8*k):=by
  intro k hk
  have:=joinB_le numB 8 (l.take k) (fun x hx=>by have:=hs x (List.mem_of_mem_take hx);rw[numB_length];omega)
  rw[List.length_take,Nat.min_eq_left hk] at this
  omega
 clear hc hs
 have hI0:=isB_fresh w
 have hb0:Below w.heap.size w (w.alloc (.cells #[.pointer none,.slice none 0 0] 92)):=(qB _ _).alloc qL _
 have HI0:=hid hI0
 clear hI0
 go_enter Tryz.func168,Tryz.ntmps168
 go_wp2_with fail
 refine (pnum_any _ _).mono ?_
 rintro e w1 ⟨rfl,hb1⟩
 have HI1:=hid (isB_below HI0.out hb1)
 have hB1:=hb0.trans (hb1.mono hb0.size)
 clear hb1 HI0 hb0
 go_wp2_with fail
 refine (writeString_any w.heap.size w.heap.size [] _ _ HI1.out (by rw[bs_size,numB_length];simp) hB1.size).mono ?_
 rintro e w2 ⟨rfl,hI2,hb2⟩
 have HI2:Hid (IsB w.heap.size w.heap.size (numB l.length++joinB numB (l.take 0)) w2):=by
  show IsB _ _ _ _
  rw[bs_list] at hI2
  simpa[joinB] using hI2
 have hB2:=hB1.trans hb2
 clear hB1 hb2 hI2 HI1
 go_wp2
 go_loopw [14] (fun i wr=>∃ k:Nat,k≤l.length∧i=.int .i64 k∧Hid (IsB w.heap.size w.heap.size (numB l.length++joinB numB (l.take k)) wr)∧Below w.heap.size w wr) (fun i _=>l.length - (intOf i).toNat)
 case atStart=>exact⟨0,Nat.zero_le _,rfl,HI2,hB2⟩
 case round=>
  obtain⟨k,hk,rfl,hI,hbel⟩:=hrel
  clear HI2 hB2
  by_cases hlt:k<l.length
  ·have HT:=hid (joinB_take numB l k hlt)
   have hMk:=HM.out k (by omega)
   have hsk:=HS.out l[k] (List.getElem_mem hlt)
   obtain⟨a,ha,hce⟩:=HC.out k hlt
   have hcell:wr.cell? (a.add k)=some (.int .i64 l[k]):=(hbel.cell (p:=a.add k) (qF w _ hce)).trans hce
   have hia:=atInts (ao:=ao) l.length cap k ha hlt
   clear hce ha hsk
   generalize l[k]=Y at *
   go_wp2_with fail
   refine (pnum_any _ _).mono ?_
   rintro e w3 ⟨rfl,hb3⟩
   have HI3:=hid (isB_below hI.out hb3)
   have hB3:=hbel.trans (hb3.mono hbel.size)
   clear hb3
   go_wp2_with fail
   refine (writeString_any w.heap.size w.heap.size _ _ _ HI3.out (by rw[bs_size,qO,numB_length];have:=hMk;rw[numB_length];omega) hB3.size).mono ?_
   rintro e w4 ⟨rfl,hI4,hb4⟩
   have HI4:Hid (IsB w.heap.size w.heap.size (numB l.length++joinB numB (l.take (k+1))) w4):=by
    show IsB _ _ _ _
    rw[HT.out,← List.append_assoc]
    rw[bs_list] at hI4
    exact hI4
   have hB4:=hB3.trans hb4
   clear hB3 hb4 hI4 HI3
   go_wp2
   go_roundw
   case rel=>exact⟨k+1,by omega,by go_num,HI4,hB4⟩
   case measure=>simp[intOf];omega
  ·go_wp2_with fail
   refine (string_any w.heap.size w.heap.size _ _ hI.out hbel.size).mono ?_
   rintro e w3 ⟨rfl,hb3⟩
   go_wp2
   go_ret
   refine⟨ret_str ?_,hbel.trans hb3⟩
   rw[List.take_of_length_le (by omega)]
   rfl
end
section
open Go.RowKit Go.Sort
def freeBytesD (f:FreeD):List UInt8:=lowB f.txn 8++listB numB f.ids
def FreeOk (f:FreeD):Prop:=0≤f.txn∧f.txn<18446744073709551616∧f.ids.length≤1000
theorem freeBytesD_le (f:FreeD) (h:FreeOk f):(freeBytesD f).length≤8016:=by
 have:=listB_le numB 8 f.ids (fun x _=>by rw[numB_length];exact Nat.le_refl _)
 have h2:=h.2.2
 simp only[freeBytesD,qO,lowB_length]
 omega
theorem freeBytes_any (f:FreeD) (v:Value) (w:World) (hv:IntsAt w v f.ids) (hf:FreeOk f) :
  Calls Tryz.prog 151 #[.agg #[.int .u64 f.txn,v]] w fun e w'=>e=.returned (.string (bs (freeBytesD f)))∧Below w.heap.size w w':=by
 obtain⟨t,ids⟩:=f
 obtain⟨ht0,ht1,hil⟩:=hf
 simp only at ht0 ht1 hil
 have HV:Hid (∀ W,Below w.heap.size w W→IntsAt W v ids):=fun W hW=>hv.below hW
 obtain⟨ao,cap,rfl,-,-⟩:=hv
 simp only at HV
 show Calls Tryz.prog _ #[.agg #[.int .u64 t,.slice ao ids.length cap]] w _
 have hb1:Below w.heap.size w (w.alloc (.cells #[.int .u64 t,.slice ao ids.length cap] 108)):=(qB _ _).alloc qL _
 have hc0:(w.alloc (.cells #[.int .u64 t,.slice ao ids.length cap] 108)).cell? ⟨w.heap.size,0,none⟩=some (.int .u64 t):=by simp
 have hc1:(w.alloc (.cells #[.int .u64 t,.slice ao ids.length cap] 108)).cell? ⟨w.heap.size,1,none⟩=some (.slice ao ids.length cap):=by simp
 have s1:(bs (lowB t 8)).size=8:=by rw[bs_size,lowB_length]
 have s2:=bs_size (listB numB ids)
 have s3:=listB_le numB 8 ids (fun x _=>by rw[numB_length];exact Nat.le_refl _)
 go_enter Tryz.func151,Tryz.ntmps151
 go_wp2_with fail
 generalize (w.alloc (.cells #[.int .u64 t,.slice ao ids.length cap] 108))=X at *
 have hd0:=cell_regrown hc0
 have hd1:=cell_regrown hc1
 have HN:Hid (∀ d os,Calls Tryz.prog 138 #[.int .u64 t] (grow (redrawn X d) os) fun e w''=>e=.returned (.string (bs (lowB t 8)))∧∃ p:Regrown,w''=grow (redrawn X p.d) p.os):=fun d os=>Calls.regrown_of (num_any t _ ht0 ht1)
 have HL:Hid (∀ d os,Calls Tryz.prog 168 #[.slice ao ids.length cap,.func (.func 136) #[] #[]] (grow (redrawn X d) os) fun e w''=>e=.returned (.string (bs (listB numB ids)))∧∃ p:Regrown,w''=grow (redrawn X p.d) p.os):=fun d os=>
  Calls.regrown_of (listInts_any ids _ _ (HV.out _ (hb1.trans ((below_regrown X d os).mono hb1.size))) (fun _ _=>trivial) hil)
 clear hc0 hc1
 refine wp_region_quiet_below (by kernel_rfl) (by kernel_rfl) ?_
 repeat (go_big_quiet_step (first|exact HN.out _ _|exact HL.out _ _))
 refine wpQuiet_nil ?_
 intro _ hw'
 obtain⟨⟨dq,osq⟩,hw''⟩:=hw'
 subst hw''
 clear hd0 hd1
 go_wp2
 go_ret
 refine⟨ret_str ?_,hb1.trans ((below_regrown X dq osq).mono hb1.size)⟩
 simp only[bs_append,freeBytesD]
theorem listFrees_any (l:List FreeD) (v:Value) (w:World) (hv:FreesAt w v l) (hs:∀ x∈l,FreeOk x) (hl:l.length≤1000) :
  Calls Tryz.prog 150 #[v,.func (.func 151) #[] #[]] w fun e w'=>e=.returned (.string (bs (listB freeBytesD l)))∧Below w.heap.size w w':=by
 obtain⟨ao,cap,rfl,hlm,hc⟩:=hv
 unfold maxLen at hlm
 have HC:=hid hc
 have HS:=hid hs
 have HM:Hid (∀ k,k≤l.length→(joinB freeBytesD (l.take k)).length≤8016*k):=by
  intro k hk
  have:=joinB_le freeBytesD 8016 (l.take k) (fun x hx=>by have:=hs x (List.mem_of_mem_take hx);exact freeBytesD_le x this)
  rw[List.length_take,Nat.min_eq_left hk] at this
  omega
 clear hc hs
 have hI0:=isB_fresh w
 have hb0:Below w.heap.size w (w.alloc (.cells #[.pointer none,.slice none 0 0] 92)):=(qB _ _).alloc qL _
 have HI0:=hid hI0
 clear hI0
 go_enter Tryz.func150,Tryz.ntmps150
 go_wp2_with fail
 refine (pnum_any _ _).mono ?_
 rintro e w1 ⟨rfl,hb1⟩
 have HI1:=hid (isB_below HI0.out hb1)
 have hB1:=hb0.trans (hb1.mono hb0.size)
 clear hb1 HI0 hb0
 go_wp2_with fail
 refine (writeString_any w.heap.size w.heap.size [] _ _ HI1.out (by rw[bs_size,numB_length];simp) hB1.size).mono ?_
 rintro e w2 ⟨rfl,hI2,hb2⟩
 have HI2:Hid (IsB w.heap.size w.heap.size (numB l.length++joinB freeBytesD (l.take 0)) w2):=by
  show IsB _ _ _ _
  rw[bs_list] at hI2
  simpa[joinB] using hI2
 have hB2:=hB1.trans hb2
 clear hB1 hb2 hI2 HI1
 go_wp2
 go_loopw [14] (fun i wr=>∃ k:Nat,k≤l.length∧i=.int .i64 k∧Hid (IsB w.heap.size w.heap.size (numB l.length++joinB freeBytesD (l.take k)) wr)∧Below w.heap.size w wr) (fun i _=>l.length - (intOf i).toNat)
 case atStart=>exact⟨0,Nat.zero_le _,rfl,HI2,hB2⟩
 case round=>
  obtain⟨k,hk,rfl,hI,hbel⟩:=hrel
  clear HI2 hB2
  by_cases hlt:k<l.length
  ·have HT:=hid (joinB_take freeBytesD l k hlt)
   have hMk:=HM.out k (by omega)
   have hsk:=HS.out l[k] (List.getElem_mem hlt)
   obtain⟨b,o,x,hao,hbl,hc1,hc2,hx⟩:=HC.out k hlt
   have hia:=atFreesM (ao:=ao) l.length cap k hao hlt
   have hl1:wr.cell? ⟨b,o+k*2,none⟩=some (.int .u64 l[k].txn):=(hbel.cell (p:=⟨b,o+k*2,none⟩) hbl).trans hc1
   have hl2:wr.cell? ⟨b,o+k*2+1,none⟩=some x:=(hbel.cell (p:=⟨b,o+k*2+1,none⟩) hbl).trans hc2
   have HX:Hid (∀ W,Below wr.heap.size wr W→IntsAt W x l[k].ids):=fun W hW=>(hx.below hbel).below hW
   obtain⟨ax,cx,hxe,-,-⟩:=hx
   subst hxe
   have HSK:=hid hsk
   clear hc1 hc2 hao hbl hsk
   generalize l[k]=Y at *
   go_wp2_with fail
   refine (freeBytes_any _ _ _ (HX.out _ ((qB _ _).alloc qL _)) HSK.out).mono ?_
   rintro e w3 ⟨rfl,hb3⟩
   have HI3:=hid (isB_below (isB_below hI.out ((qB _ _).alloc qL _)) hb3)
   have hB3:=((hbel.alloc hbel.size _).trans (hb3.mono (by have:=hbel.size;simp;omega)))
   clear hb3
   go_wp2_with fail
   refine (writeString_any w.heap.size w.heap.size _ _ _ HI3.out (by rw[bs_size,qO,numB_length];have:=hMk;have:=freeBytesD_le _ HSK.out;omega) hB3.size).mono ?_
   rintro e w4 ⟨rfl,hI4,hb4⟩
   have HI4:Hid (IsB w.heap.size w.heap.size (numB l.length++joinB freeBytesD (l.take (k+1))) w4):=by
    show IsB _ _ _ _
    rw[HT.out,← List.append_assoc]
    rw[bs_list] at hI4
    exact hI4
   have hB4:=hB3.trans hb4
   clear hB3 hb4 hI4 HI3
   go_wp2
   go_roundw
   case rel=>exact⟨k+1,by omega,by go_num,HI4,hB4⟩
   case measure=>simp[intOf];omega
  ·go_wp2_with fail
   refine (string_any w.heap.size w.heap.size _ _ hI.out hbel.size).mono ?_
   rintro e w3 ⟨rfl,hb3⟩
   go_wp2
   go_ret
   refine⟨ret_str ?_,hbel.trans hb3⟩
   rw[List.take_of_length_le (by omega)]
   rfl
end
section
open Go.RowKit Go.Sort
def itemTail (x:ItemD):List UInt8:=
 if x.kind=1 then textB x.val
 else if x.kind=2 then numB x.run++numB x.len
 else if x.kind=3 then listB textB x.vals++numB x.dup
 else rootBytesD x.root
def itemBytesD (x:ItemD):List UInt8:=textB x.key++numB x.kind++itemTail x
def ItemOk (x:ItemD):Prop:=x.key.size≤65535∧x.val.size≤65535∧x.vals.length≤1000∧∀ y∈x.vals,y.size≤65535
theorem listTexts_le (l:List ByteArray) (h1:l.length≤1000) (h2:∀ y∈l,y.size≤65535):(listB textB l).length≤65537008:=by
 have:=listB_le textB 65537 l (fun x hx=>by rw[textB_length];have:=h2 x hx;omega)
 omega
theorem itemBytesD_le (x:ItemD) (h:ItemOk x):(itemBytesD x).length≤65700000:=by
 obtain⟨h1,h2,h3,h4⟩:=h
 have e1:=textB_length x.key
 have e2:=textB_length x.val
 have e3:=listTexts_le x.vals h3 h4
 have e4:=rootBytesD_length x.root
 have:(itemTail x).length≤65600000:=by
  unfold itemTail
  split
  ·omega
  split
  ·simp[numB_length]
  split
  ·simp[numB_length];omega
  ·omega
 simp only[itemBytesD,qO,numB_length]
 omega
theorem itemBytes_any (x:ItemD) (v:Value) (w:World) (hv:StrsAt w v x.vals) (hx:ItemOk x) :
  Calls Tryz.prog 146 #[.agg (itemCells x v).toArray] w fun e w'=>e=.returned (.string (bs (itemBytesD x)))∧Below w.heap.size w w':=by
 obtain⟨k1,d1,l1,r1,n1,s1,p1,⟨g1,c1,f1⟩⟩:=x
 obtain⟨hx1,hx2,hx3,hx4⟩:=hx
 simp only at hx1 hx2 hx3 hx4
 have HV:Hid (∀ W,Below w.heap.size w W→StrsAt W v s1):=fun W hW=>hv.below hW
 obtain⟨ao,cap,rfl,-,-⟩:=hv
 simp only at HV
 have hXr:=rangeNew w (itemCells ⟨k1,d1,l1,r1,n1,s1,p1,⟨g1,c1,f1⟩⟩ (.slice ao s1.length cap)) 45
 have hX:∀ Y,Below (w.heap.size+1) (w.alloc (.cells #[.string k1,.int .i64 d1,.string l1,.int .i64 r1,.int .i64 n1,.slice ao s1.length cap,.int .i64 p1,.int .i64 g1,.int .i64 c1,.int .i64 f1] 45)) Y→Y.rangeAt w.heap.size 0 (itemCells ⟨k1,d1,l1,r1,n1,s1,p1,⟨g1,c1,f1⟩⟩ (.slice ao s1.length cap)):=fun Y hY=>range_below hXr (hY.mono (by simp)) (by simp)
 have HR:=hid hX
 clear hX hXr
 have hb1:Below w.heap.size w (w.alloc (.cells #[.string k1,.int .i64 d1,.string l1,.int .i64 r1,.int .i64 n1,.slice ao s1.length cap,.int .i64 p1,.int .i64 g1,.int .i64 c1,.int .i64 f1] 45)):=(qB _ _).alloc qL _
 have hsX:(w.alloc (.cells #[.string k1,.int .i64 d1,.string l1,.int .i64 r1,.int .i64 n1,.slice ao s1.length cap,.int .i64 p1,.int .i64 g1,.int .i64 c1,.int .i64 f1] 45)).heap.size=w.heap.size+1:=by simp
 have z1:=bs_size (textB k1)
 rw[textB_length] at z1
 have z2:=fun n=>(bs_size (numB n)).trans (numB_length n)
 show Calls Tryz.prog _ #[.agg #[.string k1,.int .i64 d1,.string l1,.int .i64 r1,.int .i64 n1,.slice ao s1.length cap,.int .i64 p1,.int .i64 g1,.int .i64 c1,.int .i64 f1]] w _
 go_enter Tryz.func146,Tryz.ntmps146
 go_wp2_with fail
 generalize (w.alloc (.cells #[.string k1,.int .i64 d1,.string l1,.int .i64 r1,.int .i64 n1,.slice ao s1.length cap,.int .i64 p1,.int .i64 g1,.int .i64 c1,.int .i64 f1] 45))=X at *
 have hl2:=fun d os=>range10 (HR.out _ ((below_regrown X d os).mono (by omega)))
 simp only[Nat.zero_add] at hl2
 have HN:=hid (pnum_regrown X)
 have HTX:Hid (∀ d os,Calls Tryz.prog 148 #[.string k1] (grow (redrawn X d) os) fun e w''=>e=.returned (.string (bs (textB k1)))∧∃ p:Regrown,w''=grow (redrawn X p.d) p.os):=fun d os=>Calls.regrown_of (ptext_any k1 _ hx1)
 refine wp_region_quiet_below (by kernel_rfl) (by kernel_rfl) ?_
 repeat (go_big_quiet_step (first|exact HTX.out _ _|exact HN.out _ _ _))
 refine wpQuiet_nil ?_
 intro _ hw'
 obtain⟨⟨dq,osq⟩,hw''⟩:=hw'
 subst hw''
 have HBY:=hid (below_regrown X dq osq)
 have hl3:=hl2 dq osq
 clear hl2 HTX HN
 generalize hY:grow (redrawn X dq) osq=Y at *
 have hbY:Below w.heap.size w Y:=hb1.trans (HBY.out.mono hb1.size)
 have hsY:w.heap.size<Y.heap.size:=by have:=HBY.out.size;omega
 rw[bs_append]
 have z3:=bs_size (textB k1++numB d1)
 rw[qO,textB_length,numB_length] at z3
 generalize hHD:textB k1++numB d1=HD at *
 have hl4:=fun d os=>range10 (range_below (HR.out Y (HBY.out.mono (by omega))) (below_regrown Y d os) hsY)
 simp only[Nat.zero_add] at hl4
 have HN:=hid (pnum_regrown Y)
 have HLT:Hid (∀ d os,Calls Tryz.prog 149 #[.slice ao s1.length cap,.func (.func 148) #[] #[]] (grow (redrawn Y d) os) fun e w''=>e=.returned (.string (bs (listB textB s1)))∧∃ p:Regrown,w''=grow (redrawn Y p.d) p.os):=fun d os=>
  Calls.regrown_of (listTexts_any s1 _ _ (HV.out _ (hbY.trans ((below_regrown Y d os).mono hbY.size))) hx4 hx3)
 have z4:=bs_size (listB textB s1)
 have z5:=listTexts_le s1 hx3 hx4
 have z6:(bs (textB l1)).size=2+l1.size:=by rw[bs_size,textB_length]
 have z7:(bs (rootBytesD ⟨g1,c1,f1⟩)).size=24:=by rw[bs_size,rootBytesD_length]
 have HX2:=hid hx2
 by_cases h1:d1=1
 ·subst h1
  clear hl4
  go_wp2_with (go_at_call 148;refine (ptext_any _ _ HX2.out).mono ?_;rintro e w2 ⟨rfl,hb2⟩)
  go_ret
  refine⟨ret_str ?_,hbY.trans (hb2.mono hbY.size)⟩
  simp[bs_append,itemBytesD,itemTail,← hHD]
 by_cases h2:d1=2
 ·subst h2
  go_wp2_with fail
  clear hl3
  refine wp_region_quiet_below (by kernel_rfl) (by kernel_rfl) ?_
  repeat (go_big_quiet_step (exact HN.out _ _ _))
  refine wpQuiet_nil ?_
  intro _ hw'
  obtain⟨⟨dq2,osq2⟩,hw''⟩:=hw'
  subst hw''
  clear hl4
  go_wp2
  go_ret
  refine⟨ret_str ?_,hbY.trans ((below_regrown Y dq2 osq2).mono hbY.size)⟩
  simp[bs_append,itemBytesD,itemTail,← hHD]
 by_cases h3:d1=3
 ·subst h3
  go_wp2_with fail
  clear hl3
  refine wp_region_quiet_below (by kernel_rfl) (by kernel_rfl) ?_
  repeat (go_big_quiet_step (first|exact HN.out _ _ _|exact HLT.out _ _))
  refine wpQuiet_nil ?_
  intro _ hw'
  obtain⟨⟨dq2,osq2⟩,hw''⟩:=hw'
  subst hw''
  clear hl4
  go_wp2
  go_ret
  refine⟨ret_str ?_,hbY.trans ((below_regrown Y dq2 osq2).mono hbY.size)⟩
  simp[bs_append,itemBytesD,itemTail,← hHD]
 ·have e1:(d1==1)=false:=by simpa using h1
  have e2:(d1==2)=false:=by simpa using h2
  have e3:(d1==3)=false:=by simpa using h3
  clear hl4
  go_wp2_with (go_at_call 152;refine (rootBytes_any ⟨g1,c1,f1⟩ _).mono ?_;rintro e w2 ⟨rfl,hb2⟩)
  go_ret
  refine⟨ret_str ?_,hbY.trans (hb2.mono hbY.size)⟩
  simp[bs_append,itemBytesD,itemTail,← hHD,h1,h2,h3]
theorem listItems_any (l:List ItemD) (v:Value) (w:World) (hv:ItemsAt w v l) (hs:∀ x∈l,ItemOk x) (hl:l.length≤1000) :
  Calls Tryz.prog 145 #[v,.func (.func 146) #[] #[]] w fun e w'=>e=.returned (.string (bs (listB itemBytesD l)))∧Below w.heap.size w w':=by
 obtain⟨ao,cap,rfl,hlm,hc⟩:=hv
 unfold maxLen at hlm
 have HC:=hid hc
 have HS:=hid hs
 have HM:Hid (∀ k,k≤l.length→(joinB itemBytesD (l.take k)).length≤65700000*k):=by
  intro k hk
  have:=joinB_le itemBytesD 65700000 (l.take k) (fun x hx=>by have:=hs x (List.mem_of_mem_take hx);exact itemBytesD_le x this)
  rw[List.length_take,Nat.min_eq_left hk] at this
  omega
 clear hc hs
 have hI0:=isB_fresh w
 have hb0:Below w.heap.size w (w.alloc (.cells #[.pointer none,.slice none 0 0] 92)):=(qB _ _).alloc qL _
 have HI0:=hid hI0
 clear hI0
 go_enter Tryz.func145,Tryz.ntmps145
 go_wp2_with fail
 refine (pnum_any _ _).mono ?_
 rintro e w1 ⟨rfl,hb1⟩
 have HI1:=hid (isB_below HI0.out hb1)
 have hB1:=hb0.trans (hb1.mono hb0.size)
 clear hb1 HI0 hb0
 go_wp2_with fail
 refine (writeString_any w.heap.size w.heap.size [] _ _ HI1.out (by rw[bs_size,numB_length];simp) hB1.size).mono ?_
 rintro e w2 ⟨rfl,hI2,hb2⟩
 have HI2:Hid (IsB w.heap.size w.heap.size (numB l.length++joinB itemBytesD (l.take 0)) w2):=by
  show IsB _ _ _ _
  rw[bs_list] at hI2
  simpa[joinB] using hI2
 have hB2:=hB1.trans hb2
 clear hB1 hb2 hI2 HI1
 go_wp2
 go_loopw [14] (fun i wr=>∃ k:Nat,k≤l.length∧i=.int .i64 k∧Hid (IsB w.heap.size w.heap.size (numB l.length++joinB itemBytesD (l.take k)) wr)∧Below w.heap.size w wr) (fun i _=>l.length - (intOf i).toNat)
 case atStart=>exact⟨0,Nat.zero_le _,rfl,HI2,hB2⟩
 case round=>
  obtain⟨k,hk,rfl,hI,hbel⟩:=hrel
  clear HI2 hB2
  by_cases hlt:k<l.length
  ·have HT:=hid (joinB_take itemBytesD l k hlt)
   have hMk:=HM.out k (by omega)
   have hsk:=HS.out l[k] (List.getElem_mem hlt)
   obtain⟨b,o,x,hao,hbl,hr,hx,_,_⟩:=HC.out k hlt
   have hia:=atItems (ao:=ao) l.length cap k hao hlt
   have hl1:=range10 (range_below hr hbel hbl)
   have HX:Hid (∀ W,Below wr.heap.size wr W→StrsAt W x l[k].vals):=fun W hW=>(hx.below hbel).below hW
   obtain⟨ax,cx,hxe,-,-⟩:=hx
   subst hxe
   have HSK:=hid hsk
   clear hr hao hbl hsk
   generalize l[k]=Y at *
   go_wp2_with fail
   refine (itemBytes_any _ _ _ (HX.out _ ((qB _ _).alloc qL _)) HSK.out).mono ?_
   rintro e w3 ⟨rfl,hb3⟩
   have HI3:=hid (isB_below (isB_below hI.out ((qB _ _).alloc qL _)) hb3)
   have hB3:=((hbel.alloc hbel.size _).trans (hb3.mono (by have:=hbel.size;simp;omega)))
   clear hb3
   go_wp2_with fail
   refine (writeString_any w.heap.size w.heap.size _ _ _ HI3.out (by rw[bs_size,qO,numB_length];have:=hMk;have:=itemBytesD_le _ HSK.out;omega) hB3.size).mono ?_
   rintro e w4 ⟨rfl,hI4,hb4⟩
   have HI4:Hid (IsB w.heap.size w.heap.size (numB l.length++joinB itemBytesD (l.take (k+1))) w4):=by
    show IsB _ _ _ _
    rw[HT.out,← List.append_assoc]
    rw[bs_list] at hI4
    exact hI4
   have hB4:=hB3.trans hb4
   clear hB3 hb4 hI4 HI3
   go_wp2
   go_roundw
   case rel=>exact⟨k+1,by omega,by go_num,HI4,hB4⟩
   case measure=>simp[intOf];omega
  ·go_wp2_with fail
   refine (string_any w.heap.size w.heap.size _ _ hI.out hbel.size).mono ?_
   rintro e w3 ⟨rfl,hb3⟩
   go_wp2
   go_ret
   refine⟨ret_str ?_,hbel.trans hb3⟩
   rw[List.take_of_length_le (by omega)]
   rfl
end
section
open Go.RowKit Go.Sort
def kidB (x:ByteArray × Int):List UInt8:=textB x.1++numB x.2
theorem kidBytes_any (l:List ByteArray) (m:List Int) (v u:Value) (w:World) (hv:StrsAt w v l) (hu:IntsAt w u m) (hlen:l.length=m.length) (hs:∀ x∈l,x.size≤65535) (hl:m.length≤1000) :
  Calls Tryz.prog 147 #[v,u] w fun e w'=>e=.returned (.string (bs (numB m.length++joinB kidB (l.zip m))))∧Below w.heap.size w w':=by
 obtain⟨ao,cap,rfl,hlm,hc⟩:=hv
 obtain⟨ao2,cap2,rfl,hlm2,hc2⟩:=hu
 unfold maxLen at hlm hlm2
 have HC:=hid hc
 have HC2:=hid hc2
 have HS:=hid hs
 have hzl:(l.zip m).length=m.length:=by simp[hlen]
 have HM:Hid (∀ k,k≤m.length→(joinB kidB ((l.zip m).take k)).length≤65545*k):=by
  intro k hk
  have:=joinB_le kidB 65545 ((l.zip m).take k) (fun x hx=>by
   have h1:=(List.of_mem_zip (List.mem_of_mem_take hx)).1
   have h2:=hs _ h1
   simp only[kidB,qO,textB_length,numB_length]
   omega)
  rw[List.length_take,Nat.min_eq_left (by omega)] at this
  omega
 have HZ:=hid hzl
 have HLEN:=hid hlen
 clear hc hc2 hs hzl
 have hb0:Below w.heap.size w (w.alloc (.cells #[.pointer none,.slice none 0 0] 92)):=(qB _ _).alloc qL _
 have HI0:=hid (isB_fresh w)
 clear hlen
 go_enter Tryz.func147,Tryz.ntmps147
 go_wp2_with fail
 refine (pnum_any _ _).mono ?_
 rintro e w1 ⟨rfl,hb1⟩
 have HI1:=hid (isB_below HI0.out hb1)
 have hB1:=hb0.trans (hb1.mono hb0.size)
 clear hb1 HI0 hb0
 go_wp2_with fail
 refine (writeString_any w.heap.size w.heap.size [] _ _ HI1.out (by rw[bs_size,numB_length];simp) hB1.size).mono ?_
 rintro e w2 ⟨rfl,hI2,hb2⟩
 have HI2:Hid (IsB w.heap.size w.heap.size (numB m.length++joinB kidB ((l.zip m).take 0)) w2):=by
  show IsB _ _ _ _
  rw[bs_list] at hI2
  simpa[joinB] using hI2
 have hB2:=hB1.trans hb2
 clear hB1 hb2 hI2 HI1
 go_wp2
 go_loopw [14] (fun i wr=>∃ k:Nat,k≤m.length∧i=.int .i64 k∧Hid (IsB w.heap.size w.heap.size (numB m.length++joinB kidB ((l.zip m).take k)) wr)∧Below w.heap.size w wr) (fun i _=>m.length - (intOf i).toNat)
 case atStart=>exact⟨0,Nat.zero_le _,rfl,HI2,hB2⟩
 case round=>
  obtain⟨k,hk,rfl,hI,hbel⟩:=hrel
  clear HI2 hB2
  by_cases hlt:k<m.length
  ·have hlt1:k<l.length:=by rw[HLEN.out];exact hlt
   have HT:Hid (joinB kidB ((l.zip m).take (k+1))=joinB kidB ((l.zip m).take k)++(textB l[k]++numB m[k])):=by
    show _=_
    rw[joinB_take kidB (l.zip m) k (by rw[HZ.out];exact hlt)]
    simp[kidB]
   have hMk:=HM.out k (by omega)
   have HSK:=hid (HS.out l[k] (List.getElem_mem hlt1))
   obtain⟨a,ha,hce,-⟩:=HC.out k hlt1
   obtain⟨a2,ha2,hce2⟩:=HC2.out k hlt
   have hcell:wr.cell? (a.add k)=some (.string l[k]):=(hbel.cell (p:=a.add k) (qF w _ hce)).trans hce
   have hcell2:wr.cell? (a2.add k)=some (.int .i64 m[k]):=(hbel.cell (p:=a2.add k) (qF w _ hce2)).trans hce2
   have hia:=atStrs (ao:=ao) l.length cap k ha hlt1
   have hia2:=atInts (ao:=ao2) m.length cap2 k ha2 hlt
   clear hce ha hce2 ha2
   generalize l[k]=Y at *
   generalize m[k]=Z at *
   go_wp2_with fail
   refine (ptext_any _ _ HSK.out).mono ?_
   rintro e w3 ⟨rfl,hb3⟩
   have HI3:=hid (isB_below hI.out hb3)
   have hB3:=hbel.trans (hb3.mono hbel.size)
   clear hb3
   go_wp2_with fail
   refine (writeString_any w.heap.size w.heap.size _ _ _ HI3.out (by rw[bs_size,qO,numB_length,textB_length];have:=HSK.out;omega) hB3.size).mono ?_
   rintro e w4 ⟨rfl,hI4,hb4⟩
   have hB4:=hB3.trans hb4
   have HI4:=hid hI4
   clear hB3 hb4 hI4 HI3
   go_wp2_with fail
   refine (pnum_any _ _).mono ?_
   rintro e w5 ⟨rfl,hb5⟩
   have HI5:=hid (isB_below HI4.out hb5)
   have hB5:=hB4.trans (hb5.mono hB4.size)
   clear hb5 HI4 hB4
   go_wp2_with fail
   refine (writeString_any w.heap.size w.heap.size _ _ _ HI5.out (by simp only[bs_list,bs_size,qO,numB_length,textB_length];have:=HSK.out;omega) hB5.size).mono ?_
   rintro e w6 ⟨rfl,hI6,hb6⟩
   have HI6:Hid (IsB w.heap.size w.heap.size (numB m.length++joinB kidB ((l.zip m).take (k+1))) w6):=by
    show IsB _ _ _ _
    rw[HT.out,← List.append_assoc,← List.append_assoc]
    rw[bs_list,bs_list] at hI6
    exact hI6
   have hB6:=hB5.trans hb6
   clear hB5 hb6 hI6 HI5
   go_wp2
   go_roundw
   case rel=>exact⟨k+1,by omega,by go_num,HI6,hB6⟩
   case measure=>simp[intOf];omega
  ·go_wp2_with fail
   refine (string_any w.heap.size w.heap.size _ _ hI.out hbel.size).mono ?_
   rintro e w3 ⟨rfl,hb3⟩
   go_wp2
   go_ret
   refine⟨ret_str ?_,hbel.trans hb3⟩
   rw[List.take_of_length_le (by rw[HZ.out];omega)]
   rfl
def metaD (m:MetaD):List UInt8:=lowB m.txn 8++rootBytesD m.main++numB m.free++numB m.last
def partD (p:PageD):List UInt8:=
 if p.kind=1 then listB itemBytesD p.items
 else if p.kind=2 then numB p.kids.length++joinB kidB (p.keys.zip p.kids)
 else if p.kind=3 then textB p.text
 else if p.kind=4 then listB textB p.vals
 else if p.kind=5 then listB freeBytesD p.free++numB p.next
 else metaD p.mt
structure PartOk (p:PageD):Prop where
 items:p.kind=1→p.items.length≤1000∧∀ x∈p.items,ItemOk x
 kids:p.kind=2→p.keys.length=p.kids.length∧p.kids.length≤1000∧∀ x∈p.keys,x.size≤65535
 text:p.kind=3→p.text.size≤65535
 vals:p.kind=4→p.vals.length≤1000∧∀ x∈p.vals,x.size≤65535
 free:p.kind=5→p.free.length≤1000∧∀ f∈p.free,FreeOk f
 txn:0≤p.mt.txn∧p.mt.txn<18446744073709551616
theorem partD_le (p:PageD) (h:PartOk p):(partD p).length≤70000000000:=by
 unfold partD
 by_cases h1:p.kind=1
 ·have:=listB_le itemBytesD 65700000 p.items (fun x hx=>itemBytesD_le x ((h.items h1).2 x hx))
  have:=(h.items h1).1
  simp only[h1,↓reduceIte]
  omega
 by_cases h2:p.kind=2
 ·obtain⟨e1,e2,e3⟩:=h.kids h2
  have:=joinB_le kidB 65545 (p.keys.zip p.kids) (fun x hx=>by
   have h2:=e3 _ (List.of_mem_zip hx).1
   simp only[kidB,qO,textB_length,numB_length]
   omega)
  have e4:(p.keys.zip p.kids).length=p.kids.length:=by simp[e1]
  rw[e4] at this
  simp only[h2,↓reduceIte]
  simp[numB_length]
  omega
 by_cases h3:p.kind=3
 ·have:=h.text h3
  simp only[h3,↓reduceIte]
  simp[textB_length]
  omega
 by_cases h4:p.kind=4
 ·have:=listTexts_le p.vals (h.vals h4).1 (h.vals h4).2
  simp only[h4,↓reduceIte]
  simp
  omega
 by_cases h5:p.kind=5
 ·have:=listB_le freeBytesD 8016 p.free (fun x hx=>freeBytesD_le x ((h.free h5).2 x hx))
  have:=(h.free h5).1
  simp only[h5,↓reduceIte]
  simp[numB_length]
  omega
 ·simp only[h1,h2,h3,h4,h5,↓reduceIte,metaD,qO,lowB_length,rootBytesD_length,numB_length]
  omega
end
end Go.Proofs.YtbghhklbfnplbaaGreat

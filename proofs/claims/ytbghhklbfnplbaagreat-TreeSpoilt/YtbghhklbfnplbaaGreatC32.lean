import Derived.Test.YtbghhklbfnplbaaGreatC00
import Derived.Test.YtbghhklbfnplbaaGreatC28
import Derived.Test.YtbghhklbfnplbaaGreatC29
import Derived.Test.YtbghhklbfnplbaaGreatC31
set_option maxHeartbeats 16000000
set_option maxRecDepth 100000
namespace Go.Proofs.YtbghhklbfnplbaaGreat
section
open Go.RowKit
theorem below_grown {w w':World} {row:Option Nat} (h:Below w.heap.size w w'):w.grownBy w' row:=⟨h.os,h.tape,h.output,h.size,fun k hk _=>h.block k hk⟩
section
variable {S:Nat→Prop} {C qb rb fb:Nat} {w0 w w':World} {ks:List ByteArray} {ds:List Int} {vk vd:Value} {s:RSt} {va vf vi vp:Value}
theorem Qb.grown (h:Qb C w0 w qb ks ds vk vd) (hb:w.grownBy w' (some rb)) (hr:rb<C):Qb C w' w' qb ks ds vk vd:=by
 have hk:∀ (k:Nat) (cells:Array Value) (fr:Nat × Nat) (E:TypeId),C≤k→w.heap[k]?=some (.cells cells E fr)→w'.heap[k]?=w.heap[k]?:=fun k _ _ _ hk e=>hb.block k (qA e) (by simp;omega)
 exact⟨(hk qb _ _ _ h.new h.obj).trans h.obj,h.new,h.keys.keep fun k _ _ hc e=>hk k _ _ _ hc e,h.kids.keep fun k _ _ hc e=>hk k _ _ _ hc e,qB _ _⟩
theorem NewT.stay {n:Nat} {E:TypeId} {v:Value} {cs:List Value} (h:NewT C E w v n cs) (hS:∀ k,S k→k<C):∃ a c,v=.slice a n c∧SlK S 1 w a c n cs:=by
 obtain⟨a,c,e,h1,h2⟩:=h
 exact⟨a,c,e,h1.kOf fun b o ho hs=>by have:=(h2 b o ho).1;have:=hS b hs;omega⟩
theorem Qb.hangs (h:Qb C w0 w qb ks ds vk vd) (hS:∀ k,S k→k<C) (hn:ks.length≤1000) (hd:ds.length≤1000) (hz:∀ x∈ks,x.size≤maxLen):HangsS S w (branchP ks ds) ⟨.slice none 0 0,vk,vd,.slice none 0 0,.slice none 0 0⟩:=by
 obtain⟨a1,c1,e1,h1⟩:=h.keys.stay hS
 obtain⟨a2,c2,e2,h2⟩:=h.kids.stay hS
 exact⟨⟨none,0,[],rfl,rfl,SlK.nil _ _ _,Nat.zero_le _,fun i hi=>absurd hi (by simp[branchP,noPage])⟩,⟨a1,c1,e1,h1,by show ks.length≤maxLen;unfold maxLen;omega,hz⟩,⟨a2,c2,e2,h2⟩,by show ds.length≤maxLen;unfold maxLen;omega,by simp[branchP,noPage,ByteArray.size],StrsS.nil _ _,rfl,rfl⟩
theorem br_txn (ks:List ByteArray) (ds:List Int):TxnOk (branchP ks ds):=⟨by simp[branchP,noPage],by simp[branchP,noPage]⟩
theorem set_br (h:RStAt S w rb fb s va vf vi vp) (hS:∀ k,S k→k<C) (hC:C≤w.heap.size) (hrb:S rb) (x:Int) {k:Nat} (hx:placeR s x=(k:Int)) (hk:k<s.ps.length) (hq:Qb C w0 w qb ks ds vk vd) (hn:ks.length≤1000) (hd:ds.length≤1000) (hz:∀ x∈ks,x.size≤maxLen) :
  Calls Tryz.prog 78 #[.pointer (some ⟨rb,0,none⟩),.int .i64 x,.agg (brA vk vd)] w fun e w'=>e=.returned (.int .i64 (setR s x (branchP ks ds)).1)∧∃ vp',RStAt S w' rb fb (setR s x (branchP ks ds)).2 va vf vi vp'∧w.grownBy w' (some rb):=
 rset_dirty h (fun k hk=>by have:=hS k hk;omega) hrb x hx hk (branchP ks ds) ⟨.slice none 0 0,vk,vd,.slice none 0 0,.slice none 0 0⟩ (hq.hangs hS hn hd hz) (by simp[branchP,noPage]) (br_txn ks ds)
theorem add_br (h:RStAt S w rb fb s va vf vi vp) (hS:∀ k,S k→k<C) (hC:C≤w.heap.size) (hrb:S rb) (hav:s.avail=[]) (hids:∀ y∈s.ids,y<s.last) (hq:Qb C w0 w qb ks ds vk vd) (hn:ks.length≤1000) (hd:ds.length≤1000) (hz:∀ x∈ks,x.size≤maxLen) :
  Calls Tryz.prog 51 #[.pointer (some ⟨rb,0,none⟩),.agg (brA vk vd)] w fun e w'=>e=.returned (.tuple #[.int .i64 (addR s (branchP ks ds)).1,.int .i64 (addR s (branchP ks ds)).2.1])∧∃ vi' vp',RStAt S w' rb fb (addR s (branchP ks ds)).2.2 va vf vi' vp'∧w.grownBy w' (some rb):=
 radd_last h (fun k hk=>by have:=hS k hk;omega) hrb (branchP ks ds) ⟨.slice none 0 0,vk,vd,.slice none 0 0,.slice none 0 0⟩ (hq.hangs hS hn hd hz) (by simp[branchP,noPage]) (br_txn ks ds) hav hids
end
theorem ret_put {a:Act} {w:World} {v6 v7 v8 v9:Value} (h:[a.eval (.tmp 6),a.eval (.tmp 7),a.eval (.tmp 8),a.eval (.tmp 9)]=[v6,v7,v8,v9]):(results Tryz.f52 a.tmps).run Tryz.prog w=.ok (.tuple #[v6,v7,v8,v9]) w:=by
 simp only[List.cons.injEq,and_true] at h
 obtain⟨h6,h7,h8,h9⟩:=h
 simp only[Act.eval,Array.getD_eq_getD_getElem?] at h6 h7 h8 h9
 simp[results,Tryz.results52,go_sem]
 exact⟨h6,h7,h8,h9⟩
theorem ret_end {a:Act} {w:World} {v6 v7 v8 v9:Value} {R:Ending→World→Prop} (hd:a.defers=[]) (hl:[a.eval (.tmp 6),a.eval (.tmp 7),a.eval (.tmp 8),a.eval (.tmp 9)]=[v6,v7,v8,v9]) (h:R (.returned (.tuple #[v6,v7,v8,v9])) w):bodyPost Tryz.prog Tryz.f52 R .ret a w:=⟨hd,_,ret_put hl,h⟩
end
section
open Go.RowKit
def cFrom (n:Nat):Code→Option Code
 | .seq a b=>match cFrom n a with
   | some a'=>some (.seq a' b)
   | none=>cFrom n b
 | .region id ops d=>if id==n then some (.region id ops d) else none
 | .block i c=>(cFrom n c).map (Code.block i)
 | .scope c=>(cFrom n c).map Code.scope
 | _=>none
def codeAt (f:Func) (n:Nat):Code:=(f.body.bind (cFrom n)).getD .skip
theorem rest_one {S:Nat→Prop} {rb fb qb g kk kp:Nat} {w5 w8:World} {s:RSt} {va vf vi vp:Value} {id kid more:Int} {key:ByteArray} {ks:List ByteArray} {ds:List Int} {a6:Option Addr} {c6 c7:Nat} (hR0:RStAt S w5 rb fb s va vf vi vp) (hQ0:Qb w5.heap.size w5 w8 qb ks ds (.slice a6 ks.length c6) (.slice (some ⟨g,0,none⟩) ds.length c7)) (hS0:∀ k,S k→k<w5.heap.size) (hrb0:S rb) (hpl0:placeR s id=(kp:Int)) (hkp0:kp<s.ps.length) (hkk0:kk<ks.length) (hkl0:ks.length=ds.length) (hk40:ks.length≤4) (hz0:∀ x∈ks,x.size≤maxLen) (hzk0:key.size≤maxLen) (hm:more=0)
  (Q0:Exit→Act→World→Prop) (hend0:∀ (a:Act) (w':World) (vi' vp':Value),a.defers=[]→[a.eval (.tmp 6),a.eval (.tmp 7),a.eval (.tmp 8),a.eval (.tmp 9)]=[.int .i64 (putBranchR id (ks) (ds) s).1.1,.int .i64 (putBranchR id (ks) (ds) s).1.2.1,.string (putBranchR id (ks) (ds) s).1.2.2.1,.int .i64 (putBranchR id (ks) (ds) s).1.2.2.2]→RStAt S w' rb fb (putBranchR id (ks) (ds) s).2 va vf vi' vp'→w5.grownBy w' (some rb)→Q0 .ret a w')
  (u2 u3 u4 u5 u6 u7 u8 u9 u11 u17 u18 u19 u20 u21 u22 u23 u24 u25 u26 u27 u28 u29 u30 u31 u32 u33 u34 u35 u36 u37 u38 u39 u40 u41 u42 u43 u44 u45 u46 u47 u48 u49 u50 u51 u52 u53 u54 u55 u56 u57 u58 u59 u60 u61 u62 u63 u64 u65 u66 u67 u68 u69 u70 u71 u72 u73 u74 u75 u76 u77 u78 u79 u80 u81 u82 u83 u84 u85 u86 u87 u88 u89 u90 u91 u92 u93 u94 u95 u96 u97 u98 u99 u100 u101 u102 u103 u104 u105 u106 u107 u108 u109 u110 u111 u112 u113 u114 u115 u116 u117 u118 u119 u120 u121 u122 u123 u124 u125 u126 u127 u128 u129 u130 u131 u132 u133 u134 u135 u136 u137 u138 u139 u140 u141 u142 u143 u144 u145 u146 u147 u148 u149 u150 u151 u152 u153 u154 u155 u156 u157 u158 u159 u160 u161 u162 u163 u164 u165 u166 u167 u168 u169 u170 u171 u172 u173 u174:Value):(codeAt Tryz.f52 17).wp Tryz.prog Q0 ⟨#[.pointer (some ⟨rb,0,none⟩),.int .i64 id,u2,u3,u4,u5,u6,u7,u8,u9,.int .i64 0,u11,.int .i64 (kk:Int),.int .i64 kid,.int .i64 more,.string key,.pointer (some ⟨qb,0,none⟩),u17,u18,u19,u20,u21,u22,u23,u24,u25,u26,u27,u28,u29,u30,u31,u32,u33,u34,u35,u36,u37,u38,u39,u40,u41,u42,u43,u44,u45,u46,u47,u48,u49,u50,u51,u52,u53,u54,u55,u56,u57,u58,u59,u60,u61,u62,u63,u64,u65,u66,u67,u68,u69,u70,u71,u72,u73,u74,u75,u76,u77,u78,u79,u80,u81,u82,u83,u84,u85,u86,u87,u88,u89,u90,u91,u92,u93,u94,u95,u96,u97,u98,u99,u100,u101,u102,u103,u104,u105,u106,u107,u108,u109,u110,u111,u112,u113,u114,u115,u116,u117,u118,u119,u120,u121,u122,u123,u124,u125,u126,u127,u128,u129,u130,u131,u132,u133,u134,u135,u136,u137,u138,u139,u140,u141,u142,u143,u144,u145,u146,u147,u148,u149,u150,u151,u152,u153,u154,u155,u156,u157,u158,u159,u160,u161,u162,u163,u164,u165,u166,u167,u168,u169,u170,u171,u172,u173,u174],[]⟩ w8:=by
 have hR:=hidA hR0
 have hQ:=hidA hQ0
 have hS:=hidA hS0
 have hrb:=hidA hrb0
 have hpl:=hidA hpl0
 have hkp:=hidA hkp0
 have hkk:=hidA hkk0
 have hkl:=hidA hkl0
 have hk4:=hidA hk40
 have hz:=hidA hz0
 have hzk:=hidA hzk0
 have hend:=hidA hend0
 have hCw:=hidA hQ0.bel.size
 have hrC:=hidA (hS0 rb hrb0)
 have hR8:=hidA (hR0.below hQ0.bel)
 clear hR0 hQ0 hS0 hrb0 hpl0 hkp0 hkk0 hkl0 hk40 hz0 hzk0 hend0
 conv=>arg 2;whnf
 have d17:(more != 0)=false:=by rw[hm];rfl
 clear hm
 have d20:decide ((ds.length:Int)≤4)=true:=by have:=hk4.out;have:=hkl.out;simp;omega
 have cQ:=cell_rowL hQ.out.obj
 unfold brA at cQ
 have CS:Hid (Calls Tryz.prog 78 #[.pointer (some ⟨rb,0,none⟩),.int .i64 id,.agg #[.int .i64 2,.slice none 0 0,.slice a6 ks.length c6,.slice (some ⟨g,0,none⟩) ds.length c7,.string ⟨#[]⟩,.slice none 0 0,.slice none 0 0,.int .i64 0,.int .u64 0,.int .i64 0,.int .i64 0,.int .i64 0,.int .i64 0,.int .i64 0]] w8 fun e w'=>e=.returned (.int .i64 (setR s id (branchP (ks) (ds))).1)∧∃ vp',RStAt S w' rb fb (setR s id (branchP (ks) (ds))).2 va vf vi vp'∧w8.grownBy w' (some rb)):=hidA (set_br hR8.out hS.out hCw.out hrb.out id hpl.out hkp.out hQ.out (by have:=hk4.out;omega) (by have:=hk4.out;have:=hkl.out;omega) hz.out)
 have hPB:Hid (putBranchR id ks ds s=((id,0,⟨#[]⟩,(setR s id (branchP ks ds)).1),(setR s id (branchP ks ds)).2)):=hidA (by unfold putBranchR;rw[if_pos (by have:=hk4.out;have:=hkl.out;omega)])
 generalize setR s id (branchP ks ds)=RS at *
 go_wp2_with fail
 refine CS.out.mono ?_
 rintro e w9 ⟨rfl,vp9,hR9,hg9⟩
 have hR9:=hidA hR9
 have hg9:=hidA hg9
 clear cQ
 go_wp2
 refine hend.out _ w9 vi vp9 rfl ?_ ?_ (grown_then (below_grown hQ.out.bel) hg9.out)
 ·rw[hPB.out];rfl
 ·rw[hPB.out];exact hR9.out
theorem rest_two {S:Nat→Prop} {rb fb qb g kk kp:Nat} {w5 w8:World} {s:RSt} {va vf vi vp:Value} {id kid more:Int} {key:ByteArray} {ks:List ByteArray} {ds:List Int} {a6:Option Addr} {c6 c7:Nat} (hR0:RStAt S w5 rb fb s va vf vi vp) (hQ0:Qb w5.heap.size w5 w8 qb ks ds (.slice a6 ks.length c6) (.slice (some ⟨g,0,none⟩) ds.length c7)) (hS0:∀ k,S k→k<w5.heap.size) (hrb0:S rb) (hpl0:placeR s id=(kp:Int)) (hkp0:kp<s.ps.length) (hkk0:kk<ks.length) (hkl0:ks.length=ds.length) (hk40:ks.length≤4) (hz0:∀ x∈ks,x.size≤maxLen) (hzk0:key.size≤maxLen) (hm:¬ more=0) (hlen:ds.length+1≤4)
  (Q0:Exit→Act→World→Prop) (hend0:∀ (a:Act) (w':World) (vi' vp':Value),a.defers=[]→[a.eval (.tmp 6),a.eval (.tmp 7),a.eval (.tmp 8),a.eval (.tmp 9)]=[.int .i64 (putBranchR id (insAt ks (kk+1) key) (insAt ds (kk+1) more) s).1.1,.int .i64 (putBranchR id (insAt ks (kk+1) key) (insAt ds (kk+1) more) s).1.2.1,.string (putBranchR id (insAt ks (kk+1) key) (insAt ds (kk+1) more) s).1.2.2.1,.int .i64 (putBranchR id (insAt ks (kk+1) key) (insAt ds (kk+1) more) s).1.2.2.2]→RStAt S w' rb fb (putBranchR id (insAt ks (kk+1) key) (insAt ds (kk+1) more) s).2 va vf vi' vp'→w5.grownBy w' (some rb)→Q0 .ret a w')
  (u2 u3 u4 u5 u6 u7 u8 u9 u11 u17 u18 u19 u20 u21 u22 u23 u24 u25 u26 u27 u28 u29 u30 u31 u32 u33 u34 u35 u36 u37 u38 u39 u40 u41 u42 u43 u44 u45 u46 u47 u48 u49 u50 u51 u52 u53 u54 u55 u56 u57 u58 u59 u60 u61 u62 u63 u64 u65 u66 u67 u68 u69 u70 u71 u72 u73 u74 u75 u76 u77 u78 u79 u80 u81 u82 u83 u84 u85 u86 u87 u88 u89 u90 u91 u92 u93 u94 u95 u96 u97 u98 u99 u100 u101 u102 u103 u104 u105 u106 u107 u108 u109 u110 u111 u112 u113 u114 u115 u116 u117 u118 u119 u120 u121 u122 u123 u124 u125 u126 u127 u128 u129 u130 u131 u132 u133 u134 u135 u136 u137 u138 u139 u140 u141 u142 u143 u144 u145 u146 u147 u148 u149 u150 u151 u152 u153 u154 u155 u156 u157 u158 u159 u160 u161 u162 u163 u164 u165 u166 u167 u168 u169 u170 u171 u172 u173 u174:Value):(codeAt Tryz.f52 17).wp Tryz.prog Q0 ⟨#[.pointer (some ⟨rb,0,none⟩),.int .i64 id,u2,u3,u4,u5,u6,u7,u8,u9,.int .i64 0,u11,.int .i64 (kk:Int),.int .i64 kid,.int .i64 more,.string key,.pointer (some ⟨qb,0,none⟩),u17,u18,u19,u20,u21,u22,u23,u24,u25,u26,u27,u28,u29,u30,u31,u32,u33,u34,u35,u36,u37,u38,u39,u40,u41,u42,u43,u44,u45,u46,u47,u48,u49,u50,u51,u52,u53,u54,u55,u56,u57,u58,u59,u60,u61,u62,u63,u64,u65,u66,u67,u68,u69,u70,u71,u72,u73,u74,u75,u76,u77,u78,u79,u80,u81,u82,u83,u84,u85,u86,u87,u88,u89,u90,u91,u92,u93,u94,u95,u96,u97,u98,u99,u100,u101,u102,u103,u104,u105,u106,u107,u108,u109,u110,u111,u112,u113,u114,u115,u116,u117,u118,u119,u120,u121,u122,u123,u124,u125,u126,u127,u128,u129,u130,u131,u132,u133,u134,u135,u136,u137,u138,u139,u140,u141,u142,u143,u144,u145,u146,u147,u148,u149,u150,u151,u152,u153,u154,u155,u156,u157,u158,u159,u160,u161,u162,u163,u164,u165,u166,u167,u168,u169,u170,u171,u172,u173,u174],[]⟩ w8:=by
 have hR:=hidA hR0
 have hQ:=hidA hQ0
 have hS:=hidA hS0
 have hrb:=hidA hrb0
 have hpl:=hidA hpl0
 have hkp:=hidA hkp0
 have hkk:=hidA hkk0
 have hkl:=hidA hkl0
 have hk4:=hidA hk40
 have hz:=hidA hz0
 have hzk:=hidA hzk0
 have hend:=hidA hend0
 have hCw:=hidA hQ0.bel.size
 have hrC:=hidA (hS0 rb hrb0)
 have hR8:=hidA (hR0.below hQ0.bel)
 clear hR0 hQ0 hS0 hrb0 hpl0 hkp0 hkk0 hkl0 hk40 hz0 hzk0 hend0
 conv=>arg 2;whnf
 have d17:(more != 0)=true:=by simpa using hm
 clear hm hR8
 go_upto_region 18 with fail
 refine r18 w8 w5 w5.heap.size qb kk ks ds a6 c6 (.slice (some ⟨g,0,none⟩) ds.length c7) key (by kernel_rfl) rfl rfl rfl rfl hQ.out qL hkk.out (by have:=hk4.out;omega) (fun v5 v7 v8 bo a14 c14 w9 hQ9 _=>?_)
 replace hQ:=hidA hQ9
 clear hQ9
 simp only[List.foldl_cons,List.foldl_nil,Act.put,qS,qZ,qC]
 go_upto_region 19 with fail
 refine r19 w9 w5 w5.heap.size qb kk (insAt ks (kk+1) key) ds (some ⟨g,0,none⟩) c7 (.slice a14 (ks.length+1) c14) more (by kernel_rfl) rfl rfl rfl rfl hQ.out qL (by have:=hkk.out;have:=hkl.out;omega) (by have:=hk4.out;have:=hkl.out;omega) (fun x5 x7 x8 bo2 a24 c24 w10 hQ10 _=>?_)
 replace hQ:=hidA hQ10
 clear hQ10
 simp only[List.foldl_cons,List.foldl_nil,Act.put,qS,qZ,qC]
 have hks1:Hid ((insAt ks (kk+1) key).length=ks.length+1):=hidA (insAt_len _ _ _)
 have hds1:Hid ((insAt ds (kk+1) more).length=ds.length+1):=hidA (insAt_len _ _ _)
 have hz2:Hid (∀ x∈insAt ks (kk+1) key,x.size≤maxLen):=hidA (fun x hx=>by
  unfold insAt at hx
  rcases List.mem_append.1 hx with h|h
  ·exact hz.out x (List.mem_of_mem_take h)
  ·rcases List.mem_cons.1 h with rfl|h
   ·exact hzk.out
   ·exact hz.out x (List.mem_of_mem_drop h))
 have hR10:=hidA (hR.out.below hQ.out.bel)
 have hCw2:=hidA hQ.out.bel.size
 have cQ:=cell_rowL hQ.out.obj
 unfold brA at cQ
 generalize insAt ks (kk+1) key=ks2 at *
 generalize insAt ds (kk+1) more=ds2 at *
 have d20:decide ((ds.length:Int)+1≤4)=true:=by simp;omega
 have CS:Hid (Calls Tryz.prog 78 #[.pointer (some ⟨rb,0,none⟩),.int .i64 id,.agg #[.int .i64 2,.slice none 0 0,.slice a14 (ks.length+1) c14,.slice a24 (ds.length+1) c24,.string ⟨#[]⟩,.slice none 0 0,.slice none 0 0,.int .i64 0,.int .u64 0,.int .i64 0,.int .i64 0,.int .i64 0,.int .i64 0,.int .i64 0]] w10 fun e w'=>e=.returned (.int .i64 (setR s id (branchP (ks2) (ds2))).1)∧∃ vp',RStAt S w' rb fb (setR s id (branchP (ks2) (ds2))).2 va vf vi vp'∧w10.grownBy w' (some rb)):=hidA (set_br hR10.out hS.out hCw2.out hrb.out id hpl.out hkp.out hQ.out (by have:=hk4.out;have:=hks1.out;omega) (by have:=hk4.out;have:=hkl.out;have:=hds1.out;omega) hz2.out)
 have hPB:Hid (putBranchR id ks2 ds2 s=((id,0,⟨#[]⟩,(setR s id (branchP ks2 ds2)).1),(setR s id (branchP ks2 ds2)).2)):=hidA (by unfold putBranchR;rw[if_pos (by have:=hds1.out;omega)])
 generalize setR s id (branchP ks2 ds2)=RS at *
 clear hlen
 go_wp2_with fail
 refine CS.out.mono ?_
 rintro e w11 ⟨rfl,vp9,hR9,hg9⟩
 have hR9:=hidA hR9
 have hg9:=hidA hg9
 clear cQ
 go_wp2
 refine hend.out _ w11 vi vp9 rfl ?_ ?_ (grown_then (below_grown hQ.out.bel) hg9.out)
 ·rw[hPB.out];rfl
 ·rw[hPB.out];exact hR9.out
theorem rest_split {S:Nat→Prop} {rb fb qb g kk kp:Nat} {w5 w8:World} {s:RSt} {va vf vi vp:Value} {id kid more:Int} {key:ByteArray} {ks:List ByteArray} {ds:List Int} {a6:Option Addr} {c6 c7:Nat} (hR0:RStAt S w5 rb fb s va vf vi vp) (hQ0:Qb w5.heap.size w5 w8 qb ks ds (.slice a6 ks.length c6) (.slice (some ⟨g,0,none⟩) ds.length c7)) (hS0:∀ k,S k→k<w5.heap.size) (hrb0:S rb) (hpl0:placeR s id=(kp:Int)) (hkp0:kp<s.ps.length) (hkk0:kk<ks.length) (hkl0:ks.length=ds.length) (hk40:ks.length≤4) (hz0:∀ x∈ks,x.size≤maxLen) (hzk0:key.size≤maxLen) (hm:¬ more=0) (hlen:ds.length=4) (hav:s.avail=[]) (hids:∀ y∈s.ids,y<s.last) (hgood:isPB (branchP ((insAt ks (kk+1) key).take 3) ((insAt ds (kk+1) more).take 3))=true)
  (Q0:Exit→Act→World→Prop) (hend0:∀ (a:Act) (w':World) (vi' vp':Value),a.defers=[]→[a.eval (.tmp 6),a.eval (.tmp 7),a.eval (.tmp 8),a.eval (.tmp 9)]=[.int .i64 (putBranchR id (insAt ks (kk+1) key) (insAt ds (kk+1) more) s).1.1,.int .i64 (putBranchR id (insAt ks (kk+1) key) (insAt ds (kk+1) more) s).1.2.1,.string (putBranchR id (insAt ks (kk+1) key) (insAt ds (kk+1) more) s).1.2.2.1,.int .i64 (putBranchR id (insAt ks (kk+1) key) (insAt ds (kk+1) more) s).1.2.2.2]→RStAt S w' rb fb (putBranchR id (insAt ks (kk+1) key) (insAt ds (kk+1) more) s).2 va vf vi' vp'→w5.grownBy w' (some rb)→Q0 .ret a w')
  (u2 u3 u4 u5 u6 u7 u8 u9 u11 u17 u18 u19 u20 u21 u22 u23 u24 u25 u26 u27 u28 u29 u30 u31 u32 u33 u34 u35 u36 u37 u38 u39 u40 u41 u42 u43 u44 u45 u46 u47 u48 u49 u50 u51 u52 u53 u54 u55 u56 u57 u58 u59 u60 u61 u62 u63 u64 u65 u66 u67 u68 u69 u70 u71 u72 u73 u74 u75 u76 u77 u78 u79 u80 u81 u82 u83 u84 u85 u86 u87 u88 u89 u90 u91 u92 u93 u94 u95 u96 u97 u98 u99 u100 u101 u102 u103 u104 u105 u106 u107 u108 u109 u110 u111 u112 u113 u114 u115 u116 u117 u118 u119 u120 u121 u122 u123 u124 u125 u126 u127 u128 u129 u130 u131 u132 u133 u134 u135 u136 u137 u138 u139 u140 u141 u142 u143 u144 u145 u146 u147 u148 u149 u150 u151 u152 u153 u154 u155 u156 u157 u158 u159 u160 u161 u162 u163 u164 u165 u166 u167 u168 u169 u170 u171 u172 u173 u174:Value):(codeAt Tryz.f52 17).wp Tryz.prog Q0 ⟨#[.pointer (some ⟨rb,0,none⟩),.int .i64 id,u2,u3,u4,u5,u6,u7,u8,u9,.int .i64 0,u11,.int .i64 (kk:Int),.int .i64 kid,.int .i64 more,.string key,.pointer (some ⟨qb,0,none⟩),u17,u18,u19,u20,u21,u22,u23,u24,u25,u26,u27,u28,u29,u30,u31,u32,u33,u34,u35,u36,u37,u38,u39,u40,u41,u42,u43,u44,u45,u46,u47,u48,u49,u50,u51,u52,u53,u54,u55,u56,u57,u58,u59,u60,u61,u62,u63,u64,u65,u66,u67,u68,u69,u70,u71,u72,u73,u74,u75,u76,u77,u78,u79,u80,u81,u82,u83,u84,u85,u86,u87,u88,u89,u90,u91,u92,u93,u94,u95,u96,u97,u98,u99,u100,u101,u102,u103,u104,u105,u106,u107,u108,u109,u110,u111,u112,u113,u114,u115,u116,u117,u118,u119,u120,u121,u122,u123,u124,u125,u126,u127,u128,u129,u130,u131,u132,u133,u134,u135,u136,u137,u138,u139,u140,u141,u142,u143,u144,u145,u146,u147,u148,u149,u150,u151,u152,u153,u154,u155,u156,u157,u158,u159,u160,u161,u162,u163,u164,u165,u166,u167,u168,u169,u170,u171,u172,u173,u174],[]⟩ w8:=by
 have hR:=hidA hR0
 have hQ:=hidA hQ0
 have hS:=hidA hS0
 have hrb:=hidA hrb0
 have hpl:=hidA hpl0
 have hkp:=hidA hkp0
 have hkk:=hidA hkk0
 have hkl:=hidA hkl0
 have hk4:=hidA hk40
 have hz:=hidA hz0
 have hzk:=hidA hzk0
 have hend:=hidA hend0
 have hCw:=hidA hQ0.bel.size
 have hrC:=hidA (hS0 rb hrb0)
 have hR8:=hidA (hR0.below hQ0.bel)
 clear hR0 hQ0 hS0 hrb0 hpl0 hkp0 hkk0 hkl0 hk40 hz0 hzk0 hend0
 conv=>arg 2;whnf
 have d17:(more != 0)=true:=by simpa using hm
 clear hm hR8
 go_upto_region 18 with fail
 refine r18 w8 w5 w5.heap.size qb kk ks ds a6 c6 (.slice (some ⟨g,0,none⟩) ds.length c7) key (by kernel_rfl) rfl rfl rfl rfl hQ.out qL hkk.out (by have:=hk4.out;omega) (fun v5 v7 v8 bo a14 c14 w9 hQ9 _=>?_)
 replace hQ:=hidA hQ9
 clear hQ9
 simp only[List.foldl_cons,List.foldl_nil,Act.put,qS,qZ,qC]
 go_upto_region 19 with fail
 refine r19 w9 w5 w5.heap.size qb kk (insAt ks (kk+1) key) ds (some ⟨g,0,none⟩) c7 (.slice a14 (ks.length+1) c14) more (by kernel_rfl) rfl rfl rfl rfl hQ.out qL (by have:=hkk.out;have:=hkl.out;omega) (by have:=hk4.out;have:=hkl.out;omega) (fun x5 x7 x8 bo2 a24 c24 w10 hQ10 _=>?_)
 replace hQ:=hidA hQ10
 clear hQ10
 simp only[List.foldl_cons,List.foldl_nil,Act.put,qS,qZ,qC]
 have hks1:Hid ((insAt ks (kk+1) key).length=ks.length+1):=hidA (insAt_len _ _ _)
 have hds1:Hid ((insAt ds (kk+1) more).length=ds.length+1):=hidA (insAt_len _ _ _)
 have hz2:Hid (∀ x∈insAt ks (kk+1) key,x.size≤maxLen):=hidA (fun x hx=>by
  unfold insAt at hx
  rcases List.mem_append.1 hx with h|h
  ·exact hz.out x (List.mem_of_mem_take h)
  ·rcases List.mem_cons.1 h with rfl|h
   ·exact hzk.out
   ·exact hz.out x (List.mem_of_mem_drop h))
 have hR10:=hidA (hR.out.below hQ.out.bel)
 have hCw2:=hidA hQ.out.bel.size
 have cQ:=cell_rowL hQ.out.obj
 unfold brA at cQ
 generalize insAt ks (kk+1) key=ks2 at *
 generalize insAt ds (kk+1) more=ds2 at *
 have d20:decide ((ds.length:Int)+1≤4)=false:=by simp;omega
 have hh:Hid (ks2.length=5∧ds2.length=5∧ks.length=4∧ds.length=4):=hidA (by have:=hk4.out;have:=hkl.out;have:=hks1.out;have:=hds1.out;omega)
 have CH:Hid (∀ V,Calls Tryz.prog 79 #[.int .i64 ((ds.length:Int)+1)] V fun e w'=>e=.returned (.int .i64 ((3:Nat):Int))∧w'=V):=hidA (fun V=>by
 have:=half_any 5 (by omega) V
 have e5:((ds.length:Int)+1)=((5:Nat):Int):=by have:=hh.out;omega
 rw[e5]
 exact this)
 clear hlen
 go_wp2_with fail
 refine (CH.out _).mono ?_
 rintro e V ⟨rfl,rfl⟩
 clear cQ
 go_upto_region 23 with fail
 have hvk:(Value.slice a14 (ks.length+1) c14)=.slice a14 ks2.length c14:=by rw[hks1.out]
 have hvd:(Value.slice a24 (ds.length+1) c24)=.slice a24 ds2.length c24:=by rw[hds1.out]
 rw[hvk,hvd] at hQ
 refine r23 V w5 w5.heap.size qb 3 ks2 ds2 a14 c14 a24 c24 (by kernel_rfl) rfl rfl rfl hQ.out qL (by have:=hh.out;omega) (by have:=hh.out;omega) (fun ab w11 hQ11 hA11 _=>?_)
 replace hQ:=hidA hQ11
 have hA:=hidA hA11
 clear hQ11 hA11
 simp only[List.foldl_cons,List.foldl_nil,Act.put,qS,qZ,qC]
 go_upto_region 24 with fail
 refine r24 w11 w5 w5.heap.size qb 3 ks2 ds2 a14 c14 a24 c24 (by kernel_rfl) rfl rfl rfl hQ.out qL (by have:=hh.out;omega) (by have:=hh.out;omega) (by have:=hh.out;omega) (fun v0 bo3 bd3 a34 c34 bb w12 hQ12 hB12 hbel12=>?_)
 replace hQ:=hidA hQ12
 have hBB:=hidA hB12
 replace hA:=hidA (hA.out.below hbel12 hA.out.bel.size)
 clear hQ12 hB12
 simp only[List.foldl_cons,List.foldl_nil,Act.put,qS,qZ,qC]
 have hSA:Hid (setR s id (branchP (ks2.take 3) (ds2.take 3))=(0,{ s with ps:=s.ps.set kp (branchP (ks2.take 3) (ds2.take 3)) })):=hidA (by unfold setR;rw[hpl.out,if_neg (by simp[hgood]),Int.toNat_natCast])
 have hR12:=hidA (hR.out.below hQ.out.bel)
 have hCw3:=hidA hQ.out.bel.size
 have cA:=cell_rowL hA.out.obj
 unfold brA at cA
 have CS:Hid (Calls Tryz.prog 78 #[.pointer (some ⟨rb,0,none⟩),.int .i64 id,.agg #[.int .i64 2,.slice none 0 0,.slice a14 3 c14,.slice a24 3 c24,.string ⟨#[]⟩,.slice none 0 0,.slice none 0 0,.int .i64 0,.int .u64 0,.int .i64 0,.int .i64 0,.int .i64 0,.int .i64 0,.int .i64 0]] w12 fun e w'=>e=.returned (.int .i64 0)∧∃ vp',RStAt S w' rb fb { s with ps:=s.ps.set kp (branchP (ks2.take 3) (ds2.take 3)) } va vf vi vp'∧w12.grownBy w' (some rb)):=hidA (by
  have h9:=set_br hR12.out hS.out hCw3.out hrb.out id hpl.out hkp.out hA.out (by have:=hh.out;simp;omega) (by have:=hh.out;simp;omega) (fun x hx=>hz2.out x (List.mem_of_mem_take hx))
  rw[hSA.out] at h9
  exact h9)
 clear hA hSA
 go_wp2_with fail
 refine CS.out.mono ?_
 rintro e w13 ⟨rfl,vp13,hR13,hg13⟩
 have hR13:=hidA hR13
 have hg13:=hidA hg13
 clear cA CS
 have hB13:=hidA (hBB.out.grown hg13.out hrC.out)
 have hQ13:=hidA (hQ.out.grown hg13.out hrC.out)
 have cB:=cell_rowL hB13.out.obj
 unfold brA at cB
 have hk15:Hid ((1+(ks2.length - (3+1)))=2∧ds2.length - 3=2):=hidA (by have:=hh.out;omega)
 have CA:Hid (Calls Tryz.prog 51 #[.pointer (some ⟨rb,0,none⟩),.agg #[.int .i64 2,.slice none 0 0,.slice a34 (1+(ks2.length - (3+1))) c34,.slice bd3 (ds2.length - 3) (c24 - 3),.string ⟨#[]⟩,.slice none 0 0,.slice none 0 0,.int .i64 0,.int .u64 0,.int .i64 0,.int .i64 0,.int .i64 0,.int .i64 0,.int .i64 0]] w13 fun e w'=>e=.returned (.tuple #[.int .i64 (addR { s with ps:=s.ps.set kp (branchP (ks2.take 3) (ds2.take 3)) } (branchP (⟨#[]⟩::ks2.drop (3+1)) (ds2.drop 3))).1,.int .i64 (addR { s with ps:=s.ps.set kp (branchP (ks2.take 3) (ds2.take 3)) } (branchP (⟨#[]⟩::ks2.drop (3+1)) (ds2.drop 3))).2.1])∧∃ vi' vp',RStAt S w' rb fb (addR { s with ps:=s.ps.set kp (branchP (ks2.take 3) (ds2.take 3)) } (branchP (⟨#[]⟩::ks2.drop (3+1)) (ds2.drop 3))).2.2 va vf vi' vp'∧w13.grownBy w' (some rb)):=hidA (add_br hR13.out hS.out (qN hCw3.out hg13.out.size) hrb.out hav hids hB13.out (by have:=hh.out;simp;omega) (by have:=hh.out;simp;omega) (fun x hx=>by
  rcases List.mem_cons.1 hx with rfl|hx
  ·simp[ByteArray.size]
  ·exact hz2.out x (List.mem_of_mem_drop hx)))
 have hPB:Hid (putBranchR id ks2 ds2 s=((id,(addR { s with ps:=s.ps.set kp (branchP (ks2.take 3) (ds2.take 3)) } (branchP (⟨#[]⟩::ks2.drop (3+1)) (ds2.drop 3))).1,ks2.getD 3 ⟨#[]⟩,(addR { s with ps:=s.ps.set kp (branchP (ks2.take 3) (ds2.take 3)) } (branchP (⟨#[]⟩::ks2.drop (3+1)) (ds2.drop 3))).2.1),(addR { s with ps:=s.ps.set kp (branchP (ks2.take 3) (ds2.take 3)) } (branchP (⟨#[]⟩::ks2.drop (3+1)) (ds2.drop 3))).2.2)):=hidA (by
  unfold putBranchR
  rw[if_neg (by have:=hh.out;omega)]
  simp only[hh.out.2.1]
  have hSA:setR s id (branchP (ks2.take 3) (ds2.take 3))=(0,{ s with ps:=s.ps.set kp (branchP (ks2.take 3) (ds2.take 3)) }):=by unfold setR;rw[hpl.out,if_neg (by simp[hgood]),Int.toNat_natCast]
  simp only[show (5+1) / 2=3 from rfl,hSA])
 generalize addR { s with ps:=s.ps.set kp (branchP (ks2.take 3) (ds2.take 3)) } (branchP (⟨#[]⟩::ks2.drop (3+1)) (ds2.drop 3))=RA at *
 clear hB13 hBB hgood hav hids
 go_wp2_with fail
 refine CA.out.mono ?_
 rintro e w14 ⟨rfl,vi14,vp14,hR14,hg14⟩
 have hR14:=hidA hR14
 have hg14:=hidA hg14
 clear cB CA
 have hQ14:=hidA (hQ13.out.grown hg14.out hrC.out)
 go_upto_region 29 with fail
 refine r29 w14 w14 w5.heap.size qb 3 ks2 ds2 a14 c14 (.slice a24 ds2.length c24) id RA.1 RA.2.1 (by kernel_rfl) rfl rfl rfl rfl rfl rfl hQ14.out (by have:=hh.out;omega) (fun kb ko w15 hb15=>?_)
 have hR15:=hidA (hR14.out.below hb15)
 have hg15:=hidA (grown_then (grown_then hg13.out hg14.out) (below_grown hb15))
 clear hQ13 hQ14
 simp only[List.foldl_cons,List.foldl_nil,Act.put,qS,qZ,qC]
 go_wp2
 refine hend.out _ w15 vi14 vp14 rfl ?_ ?_ (grown_then (below_grown hQ.out.bel) hg15.out)
 ·rw[hPB.out];rfl
 ·rw[hPB.out];exact hR15.out
end
section
open Go.RowKit
section
variable {S:Nat→Prop} {w:World} {rb fb:Nat} {s:RSt} {va vf vi vp:Value}
theorem put_leaf (h:RStAt S w rb fb s va vf vi vp) (hS0:∀ k,S k→k<w.heap.size) (hrb0:S rb) (id:Int) {kp:Nat} (hpl0:placeR s id=(kp:Int)) (hkp0:kp<s.ps.length) (h2id:2≤id) (hmost:id<s.most) (p:PageD) (hp:s.ps[kp]=p) (hkind:p.kind=1) (hm:p.items.length≤4)
  (x:ItemD) (xu:Value) (hx:ItemS S w x xu) (hg:4<(insI p.items x).length→isPB (leafP ((insI p.items x).take (((insI p.items x).length+1) / 2)))=true) (hav:s.avail=[]) (hids:∀ y∈s.ids,y<s.last) :
  Calls Tryz.prog 52 #[.pointer (some ⟨rb,0,none⟩),.int .i64 id,.agg (itemCells x xu).toArray] w fun e w'=>
   e=.returned (tupP (putLeafR s id p.items x))∧∃ vi' vp',RStAt S w' rb fb (putLeafR s id p.items x).2 va vf vi' vp'∧w.grownBy w' (some rb):=by
 have HH:=hidA h
 have HX:=hidA hx
 obtain⟨xa,xn,xc,rfl⟩:=hx.1.slice
 have hW1:=hidA (belowA w (.cells #[.string x.key,.int .i64 x.kind,.string x.val,.int .i64 x.run,.int .i64 x.len,.slice xa xn xc,.int .i64 x.dup,.int .i64 x.root.page,.int .i64 x.root.count,.int .i64 x.root.flags] 45))
 have hR1:=hidA (HH.out.below hW1.out)
 have CT:=hidA (touch_dirty hR1.out id (by rw[hpl0];omega))
 obtain⟨u,hu,hrd⟩:=rread_dirty hR1.out id hpl0 hkp0 h2id hmost (by rw[hp,hkind];decide)
 rw[hp] at hu hrd
 have CPL:=hidA (fun V (hV:Ks S (w.alloc (.cells #[.string x.key,.int .i64 x.kind,.string x.val,.int .i64 x.run,.int .i64 x.len,.slice xa xn xc,.int .i64 x.dup,.int .i64 x.root.page,.int .i64 x.root.count,.int .i64 x.root.flags] 45)) V) (hR:RStAt S V rb fb s va vf vi vp)=>putLeaf_any hR (fun k hk=>qM (hS0 k hk) (qN hW1.out.size hV.size)) hrb0 id hpl0 hkp0 p u (hu.on hV) x (.slice xa xn xc) (hx.on ((Ks.below hW1.out).trans hV)) hm hg hav hids)
 obtain⟨⟨ai,ni,ci,e1⟩,⟨ak,nk,ck,e2⟩,⟨ad,nd,cd,e3⟩,⟨av,nv,cv,e4⟩,⟨af,nf,cf,e5⟩⟩:=hu.here.slices
 obtain⟨ui,uk,ud,uv,uf⟩:=u
 simp only at e1 e2 e3 e4 e5
 subst e1 e2 e3 e4 e5
 clear hu hx hp
 have CRd:Hid (Calls Tryz.prog 75 #[.pointer (some ⟨rb,0,none⟩),.int .i64 id] (w.alloc (.cells #[.string x.key,.int .i64 x.kind,.string x.val,.int .i64 x.run,.int .i64 x.len,.slice xa xn xc,.int .i64 x.dup,.int .i64 x.root.page,.int .i64 x.root.count,.int .i64 x.root.flags] 45)) fun e w'=>e=.returned (.tuple #[.agg #[.int .i64 p.kind,.slice ai ni ci,.slice ak nk ck,.slice ad nd cd,.string p.text,.slice av nv cv,.slice af nf cf,.int .i64 p.next,.int .u64 p.mt.txn,.int .i64 p.mt.main.page,.int .i64 p.mt.main.count,.int .i64 p.mt.main.flags,.int .i64 p.mt.free,.int .i64 p.mt.last],.int .i64 0])∧Below (w.alloc (.cells #[.string x.key,.int .i64 x.kind,.string x.val,.int .i64 x.run,.int .i64 x.len,.slice xa xn xc,.int .i64 x.dup,.int .i64 x.root.page,.int .i64 x.root.count,.int .i64 x.root.flags] 45)).heap.size (w.alloc (.cells #[.string x.key,.int .i64 x.kind,.string x.val,.int .i64 x.run,.int .i64 x.len,.slice xa xn xc,.int .i64 x.dup,.int .i64 x.root.page,.int .i64 x.root.count,.int .i64 x.root.flags] 45)) w'):=hrd
 clear hrd
 have CP:Hid (∀ V,Ks S (w.alloc (.cells #[.string x.key,.int .i64 x.kind,.string x.val,.int .i64 x.run,.int .i64 x.len,.slice xa xn xc,.int .i64 x.dup,.int .i64 x.root.page,.int .i64 x.root.count,.int .i64 x.root.flags] 45)) V→RStAt S V rb fb s va vf vi vp→Calls Tryz.prog 76 #[.pointer (some ⟨rb,0,none⟩),.int .i64 id,.agg #[.int .i64 p.kind,.slice ai ni ci,.slice ak nk ck,.slice ad nd cd,.string p.text,.slice av nv cv,.slice af nf cf,.int .i64 p.next,.int .u64 p.mt.txn,.int .i64 p.mt.main.page,.int .i64 p.mt.main.count,.int .i64 p.mt.main.flags,.int .i64 p.mt.free,.int .i64 p.mt.last],.agg #[.string x.key,.int .i64 x.kind,.string x.val,.int .i64 x.run,.int .i64 x.len,.slice xa xn xc,.int .i64 x.dup,.int .i64 x.root.page,.int .i64 x.root.count,.int .i64 x.root.flags]] V fun e w'=>e=.returned (.tuple #[.int .i64 (putLeafR s id p.items x).1.1,.int .i64 (putLeafR s id p.items x).1.2.1,.string (putLeafR s id p.items x).1.2.2.1,.int .i64 (putLeafR s id p.items x).1.2.2.2])∧∃ vi' vp',RStAt S w' rb fb (putLeafR s id p.items x).2 va vf vi' vp'∧V.grownBy w' (some rb)):=CPL
 clear CPL
 have hbx1:=hidA (heap_newL w (.cells #[.string x.key,.int .i64 x.kind,.string x.val,.int .i64 x.run,.int .i64 x.len,.slice xa xn xc,.int .i64 x.dup,.int .i64 x.root.page,.int .i64 x.root.count,.int .i64 x.root.flags] 45))
 have hsx1:Hid ((w.alloc (.cells #[.string x.key,.int .i64 x.kind,.string x.val,.int .i64 x.run,.int .i64 x.len,.slice xa xn xc,.int .i64 x.dup,.int .i64 x.root.page,.int .i64 x.root.count,.int .i64 x.root.flags] 45)).heap.size=w.heap.size+1):=hidA (by simp)
 clear h hg hav hids hm
 show Calls Tryz.prog 52 #[.pointer (some ⟨rb,0,none⟩),.int .i64 id,.agg #[.string x.key,.int .i64 x.kind,.string x.val,.int .i64 x.run,.int .i64 x.len,.slice xa xn xc,.int .i64 x.dup,.int .i64 x.root.page,.int .i64 x.root.count,.int .i64 x.root.flags]] w _
 have hd2:(p.kind==1)=true:=by rw[hkind];decide
 generalize putLeafR s id p.items x=RL at *
 clear hkind hpl0 hkp0 h2id hmost hS0 hrb0
 go_enter Tryz.func52,Tryz.ntmps52
 go_wp2_with fail
 refine CT.out.mono ?_
 rintro e w1 ⟨rfl,rfl⟩
 go_wp2_with fail
 refine CRd.out.mono ?_
 rintro e w2 ⟨rfl,hb2⟩
 have hxb2:=hidA ((hb2.block _ (by have:=hsx1.out;omega)).trans hbx1.out)
 have hP3:=hidA (heap_newL w2 (.cells #[.int .i64 p.kind,.slice ai ni ci,.slice ak nk ck,.slice ad nd cd,.string p.text,.slice av nv cv,.slice af nf cf,.int .i64 p.next,.int .u64 p.mt.txn,.int .i64 p.mt.main.page,.int .i64 p.mt.main.count,.int .i64 p.mt.main.flags,.int .i64 p.mt.free,.int .i64 p.mt.last] 59))
 have hX3:=hidA ((qE w2 (.cells #[.int .i64 p.kind,.slice ai ni ci,.slice ak nk ck,.slice ad nd cd,.string p.text,.slice av nv cv,.slice af nf cf,.int .i64 p.next,.int .u64 p.mt.txn,.int .i64 p.mt.main.page,.int .i64 p.mt.main.count,.int .i64 p.mt.main.flags,.int .i64 p.mt.free,.int .i64 p.mt.last] 59) w.heap.size (by have:=hb2.size;have:=hsx1.out;omega)).trans hxb2.out)
 have cP3:=cell_rowL hP3.out
 have cX3:=cell_rowL hX3.out
 have hK3:=hidA ((Ks.below (S:=S) hb2).alloc (.cells #[.int .i64 p.kind,.slice ai ni ci,.slice ak nk ck,.slice ad nd cd,.string p.text,.slice av nv cv,.slice af nf cf,.int .i64 p.next,.int .u64 p.mt.txn,.int .i64 p.mt.main.page,.int .i64 p.mt.main.count,.int .i64 p.mt.main.flags,.int .i64 p.mt.free,.int .i64 p.mt.last] 59))
 have hR3:=hidA ((hR1.out.below hb2).below (belowA w2 (.cells #[.int .i64 p.kind,.slice ai ni ci,.slice ak nk ck,.slice ad nd cd,.string p.text,.slice av nv cv,.slice af nf cf,.int .i64 p.next,.int .u64 p.mt.txn,.int .i64 p.mt.main.page,.int .i64 p.mt.main.count,.int .i64 p.mt.main.flags,.int .i64 p.mt.free,.int .i64 p.mt.last] 59)))
 have hB3:=hidA ((hW1.out.trans (hb2.mono hW1.out.size)).trans ((belowA w2 (.cells #[.int .i64 p.kind,.slice ai ni ci,.slice ak nk ck,.slice ad nd cd,.string p.text,.slice av nv cv,.slice af nf cf,.int .i64 p.next,.int .u64 p.mt.txn,.int .i64 p.mt.main.page,.int .i64 p.mt.main.count,.int .i64 p.mt.main.flags,.int .i64 p.mt.free,.int .i64 p.mt.last] 59)).mono (by have:=hb2.size;have:=hsx1.out;omega)))
 clear hb2 hbx1 hxb2 CT CRd hR1
 go_wp2_with fail
 refine (CP.out _ hK3.out hR3.out).mono ?_
 rintro e w4 ⟨rfl,vi',vp',hR4,hg4⟩
 have hR4:=hidA hR4
 have hg4:=hidA hg4
 clear cP3 cX3 CP hK3 hR3
 go_wp2
 refine bodyPost_ret (v:=.tuple #[.int .i64 RL.1.1,.int .i64 RL.1.2.1,.string RL.1.2.2.1,.int .i64 RL.1.2.2.2]) (by simp[results,Tryz.results52,go_sem]) rfl ⟨rfl,vi',vp',hR4.out,grown_then (below_grown hB3.out) hg4.out⟩
end
end
section
open Go.RowKit
open F (wpList_append_any step_append_any)
section
variable {S:Nat→Prop} {w:World} {rb fb:Nat} {s:RSt} {va vf vi vp:Value}
theorem put_branch (h:RStAt S w rb fb s va vf vi vp) (hS0:∀ k,S k→k<w.heap.size) (hrb0:S rb) (id:Int) {kp:Nat} (hpl0:placeR s id=(kp:Int)) (hkp0:kp<s.ps.length) (h2id:2≤id) (hmost:id<s.most) (p:PageD) (hp:s.ps[kp]=p) (hkind:p.kind=2) (hkl:p.keys.length=p.kids.length) (hk1:1≤p.keys.length) (hk4:p.keys.length≤4)
  (x:ItemD) (xu:Value) (hx:ItemS S w x xu) (kk:Nat) (hkk:downN p.keys x.key p.keys.length=kk) (r:PutA)
  (hrec:∀ V,RStAt S V rb fb s va vf vi vp→Ks S w V→Calls Tryz.prog 52 #[.pointer (some ⟨rb,0,none⟩),.int .i64 (p.kids.getD kk 0),.agg (itemCells x xu).toArray] V fun e w'=>e=.returned (tupP r)∧∃ vi' vp',RStAt S w' rb fb r.2 va vf vi' vp'∧V.grownBy w' (some rb))
  (hr0:r.1.2.2.2=0) (hkey0:r.1.2.2.1.size≤maxLen) (hrpl:placeR r.2 id=(kp:Int)) (hrk:kp<r.2.ps.length) (hrav:r.2.avail=[]) (hrid:∀ y∈r.2.ids,y<r.2.last)
  (hgood:4<(putKids p kk r.1.1 r.1.2.1).length→isPB (branchP ((putKeys p kk r.1.2.2.1 r.1.2.1).take (((putKids p kk r.1.1 r.1.2.1).length+1) / 2)) ((putKids p kk r.1.1 r.1.2.1).take (((putKids p kk r.1.1 r.1.2.1).length+1) / 2)))=true) :
  Calls Tryz.prog 52 #[.pointer (some ⟨rb,0,none⟩),.int .i64 id,.agg (itemCells x xu).toArray] w fun e w'=>
   e=.returned (tupP (putBranchR id (putKeys p kk r.1.2.2.1 r.1.2.1) (putKids p kk r.1.1 r.1.2.1) r.2))∧∃ vi' vp',RStAt S w' rb fb (putBranchR id (putKeys p kk r.1.2.2.1 r.1.2.1) (putKids p kk r.1.1 r.1.2.1) r.2).2 va vf vi' vp'∧w.grownBy w' (some rb):=by
 have hkkl:kk<p.keys.length:=by have:=downN_lt p.keys x.key p.keys.length (by omega);omega
 have HH:=hidA h
 have HX:=hidA hx
 have hS:=hidA hS0
 have hrb:=hidA hrb0
 obtain⟨xa,xn,xc,rfl⟩:=hx.1.slice
 have hW1:=hidA (belowA w (.cells #[.string x.key,.int .i64 x.kind,.string x.val,.int .i64 x.run,.int .i64 x.len,.slice xa xn xc,.int .i64 x.dup,.int .i64 x.root.page,.int .i64 x.root.count,.int .i64 x.root.flags] 45))
 have hR1:=hidA (HH.out.below hW1.out)
 have CT:=hidA (touch_dirty hR1.out id (by rw[hpl0];omega))
 obtain⟨u,hu,hrd⟩:=rread_dirty hR1.out id hpl0 hkp0 h2id hmost (by rw[hp,hkind];decide)
 rw[hp] at hu hrd
 have HU:=hidA hu
 have CD:=hidA (fun V (hV:Ks S (w.alloc (.cells #[.string x.key,.int .i64 x.kind,.string x.val,.int .i64 x.run,.int .i64 x.len,.slice xa xn xc,.int .i64 x.dup,.int .i64 x.root.page,.int .i64 x.root.count,.int .i64 x.root.flags] 45)) V)=>down_any p u (hu.on hV) x.key (by omega) hk1)
 rw[hkk] at CD
 obtain⟨⟨ai,ni,ci,e1⟩,⟨_,_,_,-⟩,⟨_,_,_,-⟩,⟨av,nv,cv,e4⟩,⟨af,nf,cf,e5⟩⟩:=hu.here.slices
 obtain⟨ak,ck,e2,-⟩:=hu.keys
 obtain⟨ad,cd,e3,-⟩:=hu.kids
 have hKS:=hidA hu.keys
 have hDS:=hidA hu.kids
 obtain⟨ui,uk,ud,uv,uf⟩:=u
 simp only at e1 e2 e3 e4 e5 hKS hDS
 subst e1 e2 e3 e4 e5
 clear hu hx hp
 have CRd:Hid (Calls Tryz.prog 75 #[.pointer (some ⟨rb,0,none⟩),.int .i64 id] (w.alloc (.cells #[.string x.key,.int .i64 x.kind,.string x.val,.int .i64 x.run,.int .i64 x.len,.slice xa xn xc,.int .i64 x.dup,.int .i64 x.root.page,.int .i64 x.root.count,.int .i64 x.root.flags] 45)) fun e w'=>e=.returned (.tuple #[.agg #[.int .i64 p.kind,.slice ai ni ci,.slice ak p.keys.length ck,.slice ad p.kids.length cd,.string p.text,.slice av nv cv,.slice af nf cf,.int .i64 p.next,.int .u64 p.mt.txn,.int .i64 p.mt.main.page,.int .i64 p.mt.main.count,.int .i64 p.mt.main.flags,.int .i64 p.mt.free,.int .i64 p.mt.last],.int .i64 0])∧Below (w.alloc (.cells #[.string x.key,.int .i64 x.kind,.string x.val,.int .i64 x.run,.int .i64 x.len,.slice xa xn xc,.int .i64 x.dup,.int .i64 x.root.page,.int .i64 x.root.count,.int .i64 x.root.flags] 45)).heap.size (w.alloc (.cells #[.string x.key,.int .i64 x.kind,.string x.val,.int .i64 x.run,.int .i64 x.len,.slice xa xn xc,.int .i64 x.dup,.int .i64 x.root.page,.int .i64 x.root.count,.int .i64 x.root.flags] 45)) w'):=hrd
 clear hrd
 have CDn:Hid (∀ V,Ks S (w.alloc (.cells #[.string x.key,.int .i64 x.kind,.string x.val,.int .i64 x.run,.int .i64 x.len,.slice xa xn xc,.int .i64 x.dup,.int .i64 x.root.page,.int .i64 x.root.count,.int .i64 x.root.flags] 45)) V→Calls Tryz.prog 77 #[.agg #[.int .i64 p.kind,.slice ai ni ci,.slice ak p.keys.length ck,.slice ad p.kids.length cd,.string p.text,.slice av nv cv,.slice af nf cf,.int .i64 p.next,.int .u64 p.mt.txn,.int .i64 p.mt.main.page,.int .i64 p.mt.main.count,.int .i64 p.mt.main.flags,.int .i64 p.mt.free,.int .i64 p.mt.last],.string x.key] V fun e w'=>e=.returned (.int .i64 (kk:Int))∧Below V.heap.size V w'):=CD
 clear CD
 have CREC0:Hid (∀ V,RStAt S V rb fb s va vf vi vp→Ks S w V→Calls Tryz.prog 52 #[.pointer (some ⟨rb,0,none⟩),.int .i64 (p.kids.getD kk 0),.agg #[.string x.key,.int .i64 x.kind,.string x.val,.int .i64 x.run,.int .i64 x.len,.slice xa xn xc,.int .i64 x.dup,.int .i64 x.root.page,.int .i64 x.root.count,.int .i64 x.root.flags]] V fun e w'=>e=.returned (.tuple #[.int .i64 r.1.1,.int .i64 r.1.2.1,.string r.1.2.2.1,.int .i64 0])∧∃ vi' vp',RStAt S w' rb fb r.2 va vf vi' vp'∧V.grownBy w' (some rb)):=hidA (fun V h1 h2=>(hrec V h1 h2).mono fun e w' h3=>by unfold tupP at h3;rw[hr0] at h3;exact h3)
 have hbx1:=hidA (heap_newL w (.cells #[.string x.key,.int .i64 x.kind,.string x.val,.int .i64 x.run,.int .i64 x.len,.slice xa xn xc,.int .i64 x.dup,.int .i64 x.root.page,.int .i64 x.root.count,.int .i64 x.root.flags] 45))
 have hsx1:Hid ((w.alloc (.cells #[.string x.key,.int .i64 x.kind,.string x.val,.int .i64 x.run,.int .i64 x.len,.slice xa xn xc,.int .i64 x.dup,.int .i64 x.root.page,.int .i64 x.root.count,.int .i64 x.root.flags] 45)).heap.size=w.heap.size+1):=hidA (by simp)
 clear hrec h
 show Calls Tryz.prog 52 #[.pointer (some ⟨rb,0,none⟩),.int .i64 id,.agg #[.string x.key,.int .i64 x.kind,.string x.val,.int .i64 x.run,.int .i64 x.len,.slice xa xn xc,.int .i64 x.dup,.int .i64 x.root.page,.int .i64 x.root.count,.int .i64 x.root.flags]] w _
 have hd2:(p.kind==1)=false:=by rw[hkind];decide
 have hd3:(p.kind==2)=true:=by rw[hkind];decide
 have hX1:=cell_rowL hbx1.out
 have hkindH:=hidA hkind
 have hkeyH:=hidA hkey0
 have hklH:=hidA hkl
 have hk1H:=hidA hk1
 have hk4H:=hidA hk4
 have hkkH:=hidA hkkl
 have hplR:=hidA hrpl
 have hrkH:=hidA hrk
 have hravH:=hidA hrav
 have hridH:=hidA hrid
 have hgoodH:=hidA hgood
 clear hkey0 hkind hkl hk1 hk4 hkkl hrpl hrk hrav hrid hgood hkk hr0 hpl0 hkp0 h2id hmost hS0 hrb0
 go_enter Tryz.func52,Tryz.ntmps52
 go_wp2_with fail
 refine CT.out.mono ?_
 rintro e w1 ⟨rfl,rfl⟩
 go_wp2_with fail
 refine CRd.out.mono ?_
 rintro e w2 ⟨rfl,hb2⟩
 have hb2':=hidA hb2
 have hB2:=hidA (hW1.out.trans (hb2.mono hW1.out.size))
 have hxb2:=hidA ((hb2.block _ (by have:=hsx1.out;omega)).trans hbx1.out)
 have hP3:=hidA (heap_newL w2 (.cells #[.int .i64 p.kind,.slice ai ni ci,.slice ak p.keys.length ck,.slice ad p.kids.length cd,.string p.text,.slice av nv cv,.slice af nf cf,.int .i64 p.next,.int .u64 p.mt.txn,.int .i64 p.mt.main.page,.int .i64 p.mt.main.count,.int .i64 p.mt.main.flags,.int .i64 p.mt.free,.int .i64 p.mt.last] 59))
 have hX3:=hidA ((qE w2 (.cells #[.int .i64 p.kind,.slice ai ni ci,.slice ak p.keys.length ck,.slice ad p.kids.length cd,.string p.text,.slice av nv cv,.slice af nf cf,.int .i64 p.next,.int .u64 p.mt.txn,.int .i64 p.mt.main.page,.int .i64 p.mt.main.count,.int .i64 p.mt.main.flags,.int .i64 p.mt.free,.int .i64 p.mt.last] 59) w.heap.size (by have:=hb2.size;have:=hsx1.out;omega)).trans hxb2.out)
 have cP3:=cell_rowL hP3.out
 have cX3:=cell_rowL hX3.out
 have hw2:Hid (w.heap.size<w2.heap.size):=hidA (by have:=hb2.size;have:=hsx1.out;omega)
 have hK3:=hidA ((Ks.below (S:=S) hb2).alloc (.cells #[.int .i64 p.kind,.slice ai ni ci,.slice ak p.keys.length ck,.slice ad p.kids.length cd,.string p.text,.slice av nv cv,.slice af nf cf,.int .i64 p.next,.int .u64 p.mt.txn,.int .i64 p.mt.main.page,.int .i64 p.mt.main.count,.int .i64 p.mt.main.flags,.int .i64 p.mt.free,.int .i64 p.mt.last] 59))
 clear hb2 hX1
 go_wp2_with fail
 refine (CDn.out _ hK3.out).mono ?_
 rintro e w4 ⟨rfl,hb4⟩
 have hL4:=hb4.block
 have hP4:=hidA ((hb4.block w2.heap.size (by simp)).trans hP3.out)
 have hX4:=hidA ((hb4.block w.heap.size (by have:=hw2.out;simp;omega)).trans hX3.out)
 have hK4:=hidA (hK3.out.trans (.below hb4))
 have hB4:=hidA (hB2.out.trans (((belowA w2 (.cells #[.int .i64 p.kind,.slice ai ni ci,.slice ak p.keys.length ck,.slice ad p.kids.length cd,.string p.text,.slice av nv cv,.slice af nf cf,.int .i64 p.next,.int .u64 p.mt.txn,.int .i64 p.mt.main.page,.int .i64 p.mt.main.count,.int .i64 p.mt.main.flags,.int .i64 p.mt.free,.int .i64 p.mt.last] 59)).mono hB2.out.size).trans (hb4.mono (by have:=hB2.out.size;simp;omega))))
 have hpb4:Hid (w2.heap.size<w4.heap.size):=hidA (qA hP4.out)
 clear hL4 hb4 cP3 cX3 hP3 hX3 hK3
 obtain⟨_,_,e0,hgk⟩:=hDS.out.get
 simp only[qR,true_and] at e0
 obtain⟨rfl,rfl⟩:=e0
 obtain⟨ka,hkx,hkc⟩:=hgk kk (by have:=hkkH.out;have:=hklH.out;omega)
 clear hgk
 have HKC:=hidA hkc
 clear hkc
 generalize w2.heap.size=pb at *
 generalize hxbE:w.heap.size=xb at *
 replace hxbE:=hidA hxbE
 have hrbx:Hid (rb<xb):=hidA (by rw[← hxbE.out];exact HH.out.lt)
 have hxp:Hid (xb<pb):=hw2
 have hR4:=hidA (HH.out.below (by rw[hxbE.out];exact hB4.out))
 have hS12:Hid (∀ W,w4.grownBy W (some rb)→W.cell? ⟨pb,3,none⟩=some (.slice ad p.kids.length cd)∧W.cell? ka=some (.int .i64 (p.kids.getD kk 0))∧∀ j,W.cell? ⟨xb,j,none⟩=(#[.string x.key,.int .i64 x.kind,.string x.val,.int .i64 x.run,.int .i64 x.len,.slice xa xn xc,.int .i64 x.dup,.int .i64 x.root.page,.int .i64 x.root.count,.int .i64 x.root.flags]:Array Value)[j]?):=hidA (fun W hg=>by
  have h1:=(hg.block pb hpb4.out (by have:=hrbx.out;have:=hxp.out;simp;omega)).trans hP4.out
  have h2:=(hg.block xb (by have:=hxp.out;have:=hpb4.out;omega) (by have:=hrbx.out;simp;omega)).trans hX4.out
  exact⟨cell_rowL h1 3,HKC.out W (hK4.out.trans (.grown hg (fun g e=>.inl (by cases e;exact hrb.out)))),cell_rowL h2⟩)
 have CREC:Hid (Calls Tryz.prog 52 #[.pointer (some ⟨rb,0,none⟩),.int .i64 (p.kids.getD kk 0),.agg #[.string x.key,.int .i64 x.kind,.string x.val,.int .i64 x.run,.int .i64 x.len,.slice xa xn xc,.int .i64 x.dup,.int .i64 x.root.page,.int .i64 x.root.count,.int .i64 x.root.flags]] w4.drew fun e w'=>e=.returned (.tuple #[.int .i64 r.1.1,.int .i64 r.1.2.1,.string r.1.2.2.1,.int .i64 0])∧∃ vi' vp',RStAt S w' rb fb r.2 va vf vi' vp'∧w4.drew.grownBy w' (some rb)):=hidA (CREC0.out _ (hR4.out.below (drewA (qB _ _))) (.below (drewA (by rw[hxbE.out];exact hB4.out))))
 clear CREC0
 go_upto_region 12 with fail
 refine wp_region_held_drew (S:=fun w'=>w'.cell? ⟨pb,3,none⟩=some (.slice ad p.kids.length cd)∧w'.cell? ka=some (.int .i64 (p.kids.getD kk 0))∧∀ j,w'.cell? ⟨xb,j,none⟩=(#[.string x.key,.int .i64 x.kind,.string x.val,.int .i64 x.run,.int .i64 x.len,.slice xa xn xc,.int .i64 x.dup,.int .i64 x.root.page,.int .i64 x.root.count,.int .i64 x.root.flags]:Array Value)[j]?) (by kernel_rfl) (hS12.out w4.drew ⟨rfl,rfl,rfl,Nat.le_refl _,fun _ _ _=>rfl⟩) (fun hHeld=>?_)
 refine wpAnyH_take (i:=0) (v:=?_) rfl (by kernel_rfl) (by kernel_rfl) (by kernel_rfl) (fun _ _ _ h=>h) (Or.inl ⟨by rfl,?_⟩) (by assumption) ?_
 rotate_left
 ·rintro w' ⟨hS1,hS2,hS3⟩;go_simp;try with_reducible rfl
 try simp only[Act.put,qG,qH,qS,qZ,qC]
 refine wpAnyH_take (i:=1) (v:=?_) rfl (by kernel_rfl) (by kernel_rfl) (by kernel_rfl) (fun _ _ _ h=>h) (Or.inl ⟨by rfl,?_⟩) (by assumption) ?_
 rotate_left
 ·rintro w' ⟨hS1,hS2,hS3⟩;go_simp;try with_reducible rfl
 try simp only[Act.put,qG,qH,qI,qS,qZ,qC]
 refine wpAnyH_take (i:=2) (v:=?_) rfl (by kernel_rfl) (by kernel_rfl) (by kernel_rfl) (fun _ _ _ h=>h) (Or.inl ⟨by rfl,?_⟩) (by assumption) ?_
 rotate_left
 ·rintro w' ⟨hS1,hS2,hS3⟩;go_simp;try with_reducible rfl
 try simp only[Act.put,qG,qH,qI,qS,qZ,qC]
 refine wpAnyH_take (i:=3) (v:=?_) rfl (by kernel_rfl) (by kernel_rfl) (by kernel_rfl) (fun _ _ _ h=>h) (Or.inl ⟨by rfl,?_⟩) (by assumption) ?_
 rotate_left
 ·rintro w' ⟨hS1,hS2,hS3⟩;go_simp;try with_reducible rfl
 try simp only[Act.put,qG,qH,qI,qS,qZ,qC]
 refine wpAnyH_take (i:=4) (v:=?_) rfl (by kernel_rfl) (by kernel_rfl) (by kernel_rfl) (fun _ _ _ h=>h) (Or.inl ⟨by rfl,?_⟩) (by assumption) ?_
 rotate_left
 ·rintro w' ⟨hS1,hS2,hS3⟩;go_simp;try with_reducible rfl
 try simp only[Act.put,qG,qH,qI,qS,qZ,qC]
 refine wpAnyH_take (i:=5) (v:=?_) rfl (by kernel_rfl) (by kernel_rfl) (by kernel_rfl) (fun _ _ _ h=>h) (Or.inl ⟨by rfl,?_⟩) (by assumption) ?_
 rotate_left
 ·rintro w' ⟨hS1,hS2,hS3⟩;go_simp;try with_reducible rfl
 try simp only[Act.put,qG,qH,qI,qS,qZ,qC]
 refine wpAnyH_take (i:=6) (v:=?_) rfl (by kernel_rfl) (by kernel_rfl) (by kernel_rfl) (fun _ _ _ h=>h) (Or.inl ⟨by rfl,?_⟩) (by assumption) ?_
 rotate_left
 ·rintro w' ⟨hS1,hS2,hS3⟩;go_simp;try with_reducible rfl
 try simp only[Act.put,qG,qH,qI,qS,qZ,qC]
 refine wpAnyH_ready (rs:=[7]) (by kernel_rfl) (by simp) ?_
 refine AllReadyH.cons rfl (fun K hK=>?_) AllReadyH.nil
 rw[if_pos (by rfl)]
 simp only[qG,qH,qI]
 go_wp2_with (go_at_call 52;refine CREC.out.mono ?_;rintro e w5 ⟨rfl,vi5,vp5,hR5,hg5⟩)
 replace hg5:w4.grownBy w5 (some rb):=⟨hg5.os,hg5.tape,hg5.output,hg5.size,hg5.block⟩
 have hF5:=hS12.out w5 hg5
 replace hR5:=hidA hR5
 replace hg5:=hidA hg5
 refine hK.out _ _ hF5 (fun hHeld=>?_)
 clear hK
 try simp only[Act.put,qG,qH,qI,qS,qZ,qC]
 refine wpAnyH_take (i:=8) (v:=?_) rfl (by kernel_rfl) (by kernel_rfl) (by kernel_rfl) (fun _ _ _ h=>h) (Or.inl ⟨by rfl,?_⟩) (by assumption) ?_
 rotate_left
 ·rintro w' ⟨hS1,hS2,hS3⟩;go_simp;try with_reducible rfl
 try simp only[Act.put,qG,qH,qI,qS,qZ,qC]
 refine wpAnyH_take (i:=9) (v:=?_) rfl (by kernel_rfl) (by kernel_rfl) (by kernel_rfl) (fun _ _ _ h=>h) (Or.inl ⟨by rfl,?_⟩) (by assumption) ?_
 rotate_left
 ·rintro w' ⟨hS1,hS2,hS3⟩;go_simp;try with_reducible rfl
 try simp only[Act.put,qG,qH,qI,qS,qZ,qC]
 refine wpAnyH_take (i:=10) (v:=?_) rfl (by kernel_rfl) (by kernel_rfl) (by kernel_rfl) (fun _ _ _ h=>h) (Or.inl ⟨by rfl,?_⟩) (by assumption) ?_
 rotate_left
 ·rintro w' ⟨hS1,hS2,hS3⟩;go_simp;try with_reducible rfl
 try simp only[Act.put,qG,qH,qI,qS,qZ,qC]
 refine wpAnyH_take (i:=11) (v:=?_) rfl (by kernel_rfl) (by kernel_rfl) (by kernel_rfl) (fun _ _ _ h=>h) (Or.inl ⟨by rfl,?_⟩) (by assumption) ?_
 rotate_left
 ·rintro w' ⟨hS1,hS2,hS3⟩;go_simp;try with_reducible rfl
 try simp only[Act.put,qG,qH,qI,qS,qZ,qC]
 refine wpAnyH_take (i:=12) (v:=?_) rfl (by kernel_rfl) (by kernel_rfl) (by kernel_rfl) (fun _ _ _ h=>h) (Or.inl ⟨by rfl,?_⟩) (by assumption) ?_
 rotate_left
 ·rintro w' ⟨hS1,hS2,hS3⟩;go_simp;try with_reducible rfl
 try simp only[Act.put,qG,qH,qI,qS,qZ,qC]
 refine wpAnyH_take (i:=13) (v:=?_) rfl (by kernel_rfl) (by kernel_rfl) (by kernel_rfl) (fun _ _ _ h=>h) (Or.inl ⟨by rfl,?_⟩) (by assumption) ?_
 rotate_left
 ·rintro w' ⟨hS1,hS2,hS3⟩;go_simp;try with_reducible rfl
 try simp only[Act.put,qG,qH,qI,qS,qZ,qC]
 refine wpAnyH_take (i:=14) (v:=?_) rfl (by kernel_rfl) (by kernel_rfl) (by kernel_rfl) (fun _ _ _ h=>h) (Or.inl ⟨by rfl,?_⟩) (by assumption) ?_
 rotate_left
 ·rintro w' ⟨hS1,hS2,hS3⟩;go_simp;try with_reducible rfl
 try simp only[Act.put,qG,qH,qI,qS,qZ,qC]
 refine wpAnyH_take (i:=15) (v:=?_) rfl (by kernel_rfl) (by kernel_rfl) (by kernel_rfl) (fun _ _ _ h=>h) (Or.inl ⟨by rfl,?_⟩) (by assumption) ?_
 rotate_left
 ·rintro w' ⟨hS1,hS2,hS3⟩;go_simp;try with_reducible rfl
 try simp only[Act.put,qG,qH,qI,qS,qZ,qC]
 refine wpAnyH_take (i:=16) (v:=?_) rfl (by kernel_rfl) (by kernel_rfl) (by kernel_rfl) (fun _ _ _ h=>h) (Or.inl ⟨by rfl,?_⟩) (by assumption) ?_
 rotate_left
 ·rintro w' ⟨hS1,hS2,hS3⟩;go_simp;try with_reducible rfl
 try simp only[Act.put,qG,qH,qI,qS,qZ,qC]
 refine wpAnyH_done (by kernel_rfl) ?_ _
 have hP5:=hidA ((hg5.out.block pb hpb4.out (by have:=hrbx.out;have:=hxp.out;simp;omega)).trans hP4.out)
 have hX5:=hidA ((hg5.out.block xb (by have:=hxp.out;have:=hpb4.out;omega) (by have:=hrbx.out;simp;omega)).trans hX4.out)
 have hK5:=hidA (hK4.out.trans (.grown hg5.out (fun g e=>.inl (by cases e;exact hrb.out))))
 have hG5:Hid (w.grownBy w5 (some rb)):=hidA (grown_then ⟨hB4.out.os,hB4.out.tape,hB4.out.output,hB4.out.size,fun k hk _=>hB4.out.block k (by rw[← hxbE.out];exact hk)⟩ hg5.out)
 have hpb5:Hid (pb<w5.heap.size):=hidA (qA hP5.out)
 have hS15:∀ W,Below w5.heap.size w5 W→W.cell? ⟨pb,2,none⟩=some (.slice ak p.keys.length ck)∧W.cell? ⟨pb,3,none⟩=some (.slice ad p.kids.length cd):=fun W hW=>⟨(hW.cell (p:=⟨pb,2,none⟩) hpb5.out).trans (cell_rowL hP5.out 2),(hW.cell (p:=⟨pb,3,none⟩) hpb5.out).trans (cell_rowL hP5.out 3)⟩
 clear hF5 hHeld hS12 CREC hkx HKC hd2 hd3 hB4 hK4 hR4 hX4 hP4 hg5
 have hklen:Hid (p.keys.length≤4∧p.kids.length≤4):=hidA (by have:=hk4H.out;have:=hklH.out;omega)
 have hKS5:Hid (∀ W,Below w5.heap.size w5 W→SlAt 1 W ak ck p.keys.length (strsC p.keys)):=hidA (fun W hW=>by
  obtain⟨_,_,e,hs,_⟩:=hKS.out
  simp only[qR,true_and] at e
  obtain⟨rfl,rfl⟩:=e
  exact hs W (hK5.out.trans (.below hW)))
 have hDS5:Hid (∀ W,Below w5.heap.size w5 W→SlAt 1 W ad cd p.kids.length (intsC p.kids)):=hidA (fun W hW=>by
  obtain⟨_,_,e,hs⟩:=hDS.out
  simp only[qR,true_and] at e
  obtain⟨rfl,rfl⟩:=e
  exact hs W (hK5.out.trans (.below hW)))
 have hC2:Hid (∀ W,Below w5.heap.size w5 W→W.cell? ⟨pb,2,none⟩=some (.slice ak p.keys.length ck)):=hidA fun W hW=>(hS15 W hW).1
 have hC3:Hid (∀ W,Below w5.heap.size w5 W→W.cell? ⟨pb,3,none⟩=some (.slice ad p.kids.length cd)):=hidA fun W hW=>(hS15 W hW).2
 clear hS15
 go_upto_region 15 with fail
 refine r15 w5 pb p.keys p.kids ak ck ad cd (by kernel_rfl) rfl rfl (by have:=hklen.out;omega) (by have:=hklen.out;omega) hC2.out hC3.out hKS5.out hDS5.out (fun qb a6 c6 a7 c7 w7 hQ7 ho7=>?_)
 have hQ7:=hidA hQ7
 have ho7:=hidA ho7
 simp only[List.foldl_cons,List.foldl_nil,Act.put,qS,qZ,qC]
 obtain⟨g,rfl⟩:∃ g,a7=some ⟨g,0,none⟩:=by
  rcases ho7.out.2 with ⟨e,h0⟩|⟨g,c,cur,e,_⟩
  ·have:=hk1H.out;have:=hklH.out;omega
  ·simp only[qR,true_and] at e
   exact⟨g,e.1⟩
 go_upto_region 16 with fail
 refine r16 w7 w5 w5.heap.size qb g c7 kk p.keys p.kids (.slice a6 p.keys.length c6) r.1.1 (by kernel_rfl) rfl rfl rfl rfl hQ7.out qL ho7.out (by have:=hkkH.out;have:=hklH.out;omega) (fun w8 hQ8 _ _=>?_)
 have hQ8:=hidA hQ8
 clear hQ7 ho7 hKS5 hDS5 hC2 hC3
 simp only[List.foldl_cons,List.foldl_nil,Act.put,qS,qZ,qC]
 have hR8:=hidA (hR5.out.below hQ8.out.bel)
 have hG8:Hid (w.grownBy w8 (some rb)):=hidA (grown_then hG5.out ⟨hQ8.out.bel.os,hQ8.out.bel.tape,hQ8.out.bel.output,hQ8.out.bel.size,fun k hk _=>hQ8.out.bel.block k hk⟩)
 have hQ9:Hid (Qb w5.heap.size w5 w8 qb p.keys (p.kids.set kk r.1.1) (.slice a6 p.keys.length c6) (.slice (some ⟨g,0,none⟩) (p.kids.set kk r.1.1).length c7)):=hidA (by rw[List.length_set];exact hQ8.out)
 have hS5:Hid (∀ k,S k→k<w5.heap.size):=hidA (fun k hk=>qM (hS.out k hk) (by rw[← hxbE.out];exact hG5.out.size))
 have hzP:Hid (∀ x∈p.keys,x.size≤maxLen):=hidA (by
  obtain⟨_,_,_,_,_,h⟩:=hKS.out
  exact h)
 clear hR8 hG8 hQ8 hklen hKS hDS
 by_cases hm:r.1.2.1=0
 ·have eK:putKeys p kk r.1.2.2.1 r.1.2.1=p.keys:=by rw[putKeys,if_pos hm]
  have eD:putKids p kk r.1.1 r.1.2.1=p.kids.set kk r.1.1:=by rw[putKids,if_pos hm]
  apply_assumption
  refine rest_one (kp:=kp) (s:=r.2) hR5.out hQ9.out hS5.out hrb.out hplR.out hrkH.out hkkH.out (by rw[List.length_set];exact hklH.out) hk4H.out hzP.out hkeyH.out hm _ (fun a w' vi' vp' hd hl hR hg=>?_) _ _ _ _ _ _ _ _ _ _ _ _ _ _ _ _ _ _ _ _ _ _ _ _ _ _ _ _ _ _ _ _ _ _ _ _ _ _ _ _ _ _ _ _ _ _ _ _ _ _ _ _ _ _ _ _ _ _ _ _ _ _ _ _ _ _ _ _ _ _ _ _ _ _ _ _ _ _ _ _ _ _ _ _ _ _ _ _ _ _ _ _ _ _ _ _ _ _ _ _ _ _ _ _ _ _ _ _ _ _ _ _ _ _ _ _ _ _ _ _ _ _ _ _ _ _ _ _ _ _ _ _ _ _ _ _ _ _ _ _ _ _ _ _ _ _ _ _ _ _ _ _ _ _ _ _ _ _ _ _ _ _ _ _ _ _ _
  exact ret_end hd hl ⟨by rw[eK,eD];rfl,vi',vp',by rw[eK,eD];exact hR,grown_then hG5.out hg⟩
 ·have eK:putKeys p kk r.1.2.2.1 r.1.2.1=insAt p.keys (kk+1) r.1.2.2.1:=by rw[putKeys,if_neg hm]
  have eD:putKids p kk r.1.1 r.1.2.1=insAt (p.kids.set kk r.1.1) (kk+1) r.1.2.1:=by rw[putKids,if_neg hm]
  by_cases hlen:p.kids.length+1≤4
  ·apply_assumption
   refine rest_two (kp:=kp) (s:=r.2) hR5.out hQ9.out hS5.out hrb.out hplR.out hrkH.out hkkH.out (by rw[List.length_set];exact hklH.out) hk4H.out hzP.out hkeyH.out hm (by rw[List.length_set];exact hlen) _ (fun a w' vi' vp' hd hl hR hg=>?_) _ _ _ _ _ _ _ _ _ _ _ _ _ _ _ _ _ _ _ _ _ _ _ _ _ _ _ _ _ _ _ _ _ _ _ _ _ _ _ _ _ _ _ _ _ _ _ _ _ _ _ _ _ _ _ _ _ _ _ _ _ _ _ _ _ _ _ _ _ _ _ _ _ _ _ _ _ _ _ _ _ _ _ _ _ _ _ _ _ _ _ _ _ _ _ _ _ _ _ _ _ _ _ _ _ _ _ _ _ _ _ _ _ _ _ _ _ _ _ _ _ _ _ _ _ _ _ _ _ _ _ _ _ _ _ _ _ _ _ _ _ _ _ _ _ _ _ _ _ _ _ _ _ _ _ _ _ _ _ _ _ _ _ _ _ _ _
   exact ret_end hd hl ⟨by rw[eK,eD];rfl,vi',vp',by rw[eK,eD];exact hR,grown_then hG5.out hg⟩
  ·apply_assumption
   have hgd:=hgoodH.out
   rw[eK,eD] at hgd
   have hl5:(insAt (p.kids.set kk r.1.1) (kk+1) r.1.2.1).length=5:=by rw[insAt_len,List.length_set];have:=hk4H.out;have:=hklH.out;omega
   rw[hl5] at hgd
   refine rest_split (kp:=kp) (s:=r.2) hR5.out hQ9.out hS5.out hrb.out hplR.out hrkH.out hkkH.out (by rw[List.length_set];exact hklH.out) hk4H.out hzP.out hkeyH.out hm (by rw[List.length_set];have:=hk4H.out;have:=hklH.out;omega) hravH.out hridH.out (hgd (by omega)) _ (fun a w' vi' vp' hd hl hR hg=>?_) _ _ _ _ _ _ _ _ _ _ _ _ _ _ _ _ _ _ _ _ _ _ _ _ _ _ _ _ _ _ _ _ _ _ _ _ _ _ _ _ _ _ _ _ _ _ _ _ _ _ _ _ _ _ _ _ _ _ _ _ _ _ _ _ _ _ _ _ _ _ _ _ _ _ _ _ _ _ _ _ _ _ _ _ _ _ _ _ _ _ _ _ _ _ _ _ _ _ _ _ _ _ _ _ _ _ _ _ _ _ _ _ _ _ _ _ _ _ _ _ _ _ _ _ _ _ _ _ _ _ _ _ _ _ _ _ _ _ _ _ _ _ _ _ _ _ _ _ _ _ _ _ _ _ _ _ _ _ _ _ _ _ _ _ _ _ _
   exact ret_end hd hl ⟨by rw[eK,eD];rfl,vi',vp',by rw[eK,eD];exact hR,grown_then hG5.out hg⟩
end
end
end Go.Proofs.YtbghhklbfnplbaaGreat

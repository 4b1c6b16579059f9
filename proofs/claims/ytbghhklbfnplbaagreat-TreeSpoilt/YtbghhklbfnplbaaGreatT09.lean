import Derived.Shelf.RegionOpen
import Derived.Test.YtbghhklbfnplbaaGreatC00
import Derived.Test.YtbghhklbfnplbaaGreatT08
import Derived.Test.YtbghhklbfnplbaaGreatT07
import Derived.Test.YtbghhklbfnplbaaGreatT04
import Derived.Test.YtbghhklbfnplbaaGreatT05
set_option maxHeartbeats 4000000
set_option maxRecDepth 100000
namespace Go.Proofs.YtbghhklbfnplbaaGreat
section
open Go.RowKit
structure BuT2 (b c:Nat) (r:Option Nat) (W W':World):Prop where
 os:W'.os=W.os
 tape:W'.tape=W.tape
 output:W'.output=W.output
 size:W.heap.size≤W'.heap.size
 block:∀ k,k<W.heap.size→k≠b→k≠c→some k≠r→W'.heap[k]?=W.heap[k]?
theorem BuT.two {b c:Nat} {r:Option Nat} {W W':World} (h:BuT b r W W'):BuT2 b c r W W':=⟨h.os,h.tape,h.output,h.size,fun k hk h1 _ h2=>h.block k hk h1 h2⟩
theorem BuT2.trans {b c:Nat} {r r1:Option Nat} {W W1 W2:World} (h:BuT2 b c r W W1) (k:BuT2 b c r1 W1 W2) (hr:r1=r∨∀ g,r1=some g→W.heap.size≤g):BuT2 b c r W W2:=
 ⟨k.os.trans h.os,k.tape.trans h.tape,k.output.trans h.output,qN h.size k.size,fun i hi h1 h2 h3=>(k.block i (qM hi h.size) h1 h2 (fun e=>by
  rcases hr with hr|hr
  ·exact h3 (e.trans hr)
  ·have:=hr i e.symm
   omega)).trans (h.block i hi h1 h2 h3)⟩
theorem BuT2.below {b c:Nat} {r:Option Nat} {W W1 W2:World} (h:BuT2 b c r W W1) (k:Below W1.heap.size W1 W2):BuT2 b c r W W2:=
 ⟨k.os.trans h.os,k.tape.trans h.tape,k.output.trans h.output,qN h.size k.size,fun i hi h1 h2 h3=>(k.block i (qM hi h.size)).trans (h.block i hi h1 h2 h3)⟩
theorem BuT2.setCell {b c:Nat} {r:Option Nat} {W W1:World} (h:BuT2 b c r W W1) (u:Value):BuT2 b c r W (W1.setCell ⟨c,0,none⟩ u):=
 ⟨h.os,h.tape,h.output,by simpa using h.size,fun i hi h1 h2 h3=>(Below.heap_setCell _ _ _ _ (by simpa using h2)).trans (h.block i hi h1 h2 h3)⟩
theorem BuT2.keeps {b c:Nat} {r:Option Nat} {W W':World} {n0:Nat→Prop} {B:Nat} (h:BuT2 b c r W W') (hb:n0 b∧b<B∧∃ cs T fr,W.heap[b]?=some (.cells cs T fr)) (hc:n0 c∧c<B∧∃ cs T fr,W.heap[c]?=some (.cells cs T fr)) (hr:∀ g,r=some g→n0 g∧g<B∧∃ cs T fr,W.heap[g]?=some (.cells cs T fr)):BodyKeeps n0 B W W':=by
 have no:∀ k,(n0 k∧k<B∧∃ cs T fr,W.heap[k]?=some (.cells cs T fr))→¬ (¬ n0 k∨B≤k∨∀ cs T fr,W.heap[k]?≠some (.cells cs T fr)):=by
  rintro k ⟨h1,h2,cs,T,fr,h3⟩ (h4|h4|h4)
  ·exact h4 h1
  ·omega
  ·exact h4 _ _ _ h3
 exact⟨h.os,h.tape,h.output,h.size,fun k hk hx=>h.block k hk (fun e=>no k (e ▸ hb) hx) (fun e=>no k (e ▸ hc) hx) (fun e=>no k (hr k e.symm) hx)⟩
theorem BuA.own_kind {W:World} {b base:Nat} {v:Value} {l:List UInt8} (h:BuA W b base v l) {g:Nat} (hg:v.ownBlock=some g):∃ cs,W.heap[g]?=some (.cells cs 5 (0,0)):=by
 obtain⟨p,h1,h2,⟨_,h6|⟨g',cap,cur,h6,h7,h8,h9⟩⟩,h4⟩:=h
 ·rw[h6.1] at hg;cases hg
 ·rw[h6] at hg
  simp only[Value.ownBlock,qQ] at hg
  subst hg
  exact⟨_,h8⟩
theorem BuT.keep {W W':World} {b base:Nat} {v:Value} {l:List UInt8} (h:BuT b v.ownBlock W W') (hA:BuA W b base v l) {k:Nat} {cs:Array Value} {T:TypeId} {fr:Nat × Nat} (hk:W.heap[k]?=some (.cells cs T fr)) (h1:T≠92) (h2:T≠5):W'.heap[k]?=some (.cells cs T fr):=by
 refine (h.block k (qA hk) (fun e=>?_) (fun e=>?_)).trans hk
 ·obtain⟨p,q1,_⟩:=hA
  rw[e,q1] at hk
  simp only[qQ,qX] at hk
  exact h1 hk.2.1.symm
 ·obtain⟨c,hc⟩:=hA.own_kind e.symm
  rw[hc] at hk
  simp only[qQ,qX] at hk
  exact h2 hk.2.1.symm
theorem BuA.setOther {W:World} {b base c:Nat} {v:Value} {l:List UInt8} (h:BuA W b base v l) {cs:Array Value} {T:TypeId} {fr:Nat × Nat} (hc:W.heap[c]?=some (.cells cs T fr)) (h1:T≠92) (h2:T≠5) (u:Value):BuA (W.setCell ⟨c,0,none⟩ u) b base v l:=by
 have h':=h
 refine h.block (qD _ _ _ _ fun e=>?_) (fun g hg=>qD _ _ _ _ fun e=>?_)
 ·obtain⟨p,q1,_⟩:=h'
  simp only at e
  rw[← e,q1] at hc
  simp only[qQ,qX] at hc
  exact h1 hc.2.1.symm
 ·obtain⟨cs',q1⟩:=h'.own_kind hg
  simp only at e
  rw[← e,q1] at hc
  simp only[qQ,qX] at hc
  exact h2 hc.2.1.symm
theorem BuA.turn {lo:Nat} {W W':World} {b base:Nat} {v:Value} {l:List UInt8} (h:BuA W b base v l) (ht:Turn lo W W'):BuA W' b base v l:=by
 have h':=h
 refine h.block ?_ fun g hg=>?_
 ·obtain⟨p,q1,_⟩:=h'
  exact (ht.cells q1).trans q1.symm
 ·obtain⟨c,q1⟩:=h'.own_kind hg
  exact (ht.cells q1).trans q1.symm
def thenC:Code→Code
 | .cond _ a _=>a
 | c=>c
theorem sh11 (l0 n:Nat) {W:World} {b6 b7 pb ab:Nat} {z:Int} {v0 v1 v2 v3 v4 v5 v6 v7 v8 v9 v10 v11 v12 v13 v14 v15 v16 v17:Value}
  (hc7:W.heap[b7]?=some (.cells #[.int .i64 z] 3 (0,0))) (hrP:W.rangeAt pb 0 [v0,v1,v2,v3,v4,v5,v6,v7,v8,v9,v10,v11,v12,v13,v14,v15,v16,v17])
  (hA:Calls Tryz.prog 34 #[.agg #[v0,v1,v2,v3,v4,v5,v6,v7,v8,v9,v10,v11,v12,v13,v14,v15,v16,v17]] W fun e V'=>e=.returned (.int .i64 (ab:Int))∧Below W.heap.size W V')
  {Q:Exit→Act→World→Prop} (hL:¬ LetsOut Q) (u0 u1 u2 u3 u4 u5 u9 u10 u11 u12 u13 u14 u15 u16 u17 u18 u19 u20 u21 u22 u23 u24 u25 u26 u27 u28 u29 u30 u31 u32 u33 u34 u35 u36 u37 u38 u39 u40 u41 u42:Value)
  (hQ:∀ (x26 x27:Value) (w':World),Below W.heap.size W w'→Q .normal ⟨#[u0,u1,u2,u3,u4,u5,.pointer (some ⟨b6,0,none⟩),.pointer (some ⟨b7,0,none⟩),.pointer (some ⟨pb,0,none⟩),u9,u10,u11,u12,u13,u14,u15,u16,u17,u18,u19,u20,u21,u22,u23,u24,u25,x26,x27,u28,u29,u30,u31,u32,u33,u34,u35,u36,u37,u38,u39,u40,u41,u42],[]⟩ (w'.setCell ⟨b7,0,none⟩ (.int .i64 (ab:Int)))) :
  (atC Tryz.f13 [1,1,1,1,0,1,2,2,2,1,1,0]).wpIn (Fence.wide.inRound l0) n Tryz.prog Q ⟨#[u0,u1,u2,u3,u4,u5,.pointer (some ⟨b6,0,none⟩),.pointer (some ⟨b7,0,none⟩),.pointer (some ⟨pb,0,none⟩),u9,u10,u11,u12,u13,u14,u15,u16,u17,u18,u19,u20,u21,u22,u23,u24,u25,u26,u27,u28,u29,u30,u31,u32,u33,u34,u35,u36,u37,u38,u39,u40,u41,u42],[]⟩ W:=by
 conv=>arg 4;whnf
 refine regionIn_of l0 (by kernel_rfl) hL ?_
 replace hQ:=hidT hQ
 replace hA:=hidT hA
 replace hrP:=hidT hrP
 have c7:=cell_rowL hc7
 have f7:=frozen_rowL hc7
 go_wp2_with (first|(refine wpList_load_want (by rfl) 86 (.tmp 8) rfl pb 0 rfl [v0,v1,v2,v3,v4,v5,v6,v7,v8,v9,v10,v11,v12,v13,v14,v15,v16,v17] _ hrP.out Tryz.underlying86 rfl Tryz.infoSpotG ?_)|fail)
 refine hA.out.mono ?_
 rintro e w1 ⟨rfl,hb1⟩
 have k7:=heap_on hc7 hb1
 clear c7 f7
 have c7:=cell_rowL k7
 have f7:=frozen_rowL k7
 replace hb1:=hidT hb1
 go_wp2
 exact hQ.out _ _ w1 hb1.out
theorem sh12 (l0 n:Nat) {W:World} {b6 b7 pb:Nat} {lf:Bool} {v0 v1 v2 v3 v4 v5 v6 v7 v8 v9 v10 v11 v12 v13 v14 v15 v16 v17:Value}
  (hrP:W.rangeAt pb 0 [v0,v1,v2,v3,v4,v5,v6,v7,v8,v9,v10,v11,v12,v13,v14,v15,v16,v17])
  (hN:Calls Tryz.prog 25 #[.agg #[v0,v1,v2,v3,v4,v5,v6,v7,v8,v9,v10,v11,v12,v13,v14,v15,v16,v17]] W fun e V'=>e=.returned (.bool lf)∧Below W.heap.size W V')
  {Q:Exit→Act→World→Prop} (hL:¬ LetsOut Q) (u0 u1 u2 u3 u4 u5 u9 u10 u11 u12 u13 u14 u15 u16 u17 u18 u19 u20 u21 u22 u23 u24 u25 u26 u27 u28 u29 u30 u31 u32 u33 u34 u35 u36 u37 u38 u39 u40 u41 u42:Value)
  (hQ:∀ (x28:Value) (w':World),Below W.heap.size W w'→Q .normal ⟨#[u0,u1,u2,u3,u4,u5,.pointer (some ⟨b6,0,none⟩),.pointer (some ⟨b7,0,none⟩),.pointer (some ⟨pb,0,none⟩),u9,u10,u11,u12,u13,u14,u15,u16,u17,u18,u19,u20,u21,u22,u23,u24,u25,u26,u27,x28,.bool lf,u30,u31,u32,u33,u34,u35,u36,u37,u38,u39,u40,u41,u42],[]⟩ w') :
  (atC Tryz.f13 [1,1,1,1,0,1,2,2,2,1,1,1,0,0]).wpIn (Fence.wide.inRound l0) n Tryz.prog Q ⟨#[u0,u1,u2,u3,u4,u5,.pointer (some ⟨b6,0,none⟩),.pointer (some ⟨b7,0,none⟩),.pointer (some ⟨pb,0,none⟩),u9,u10,u11,u12,u13,u14,u15,u16,u17,u18,u19,u20,u21,u22,u23,u24,u25,u26,u27,u28,u29,u30,u31,u32,u33,u34,u35,u36,u37,u38,u39,u40,u41,u42],[]⟩ W:=by
 conv=>arg 4;whnf
 refine regionIn_of l0 (by kernel_rfl) hL ?_
 replace hQ:=hidT hQ
 replace hN:=hidT hN
 replace hrP:=hidT hrP
 go_wp2_with (first|(refine wpList_load_want (by rfl) 86 (.tmp 8) rfl pb 0 rfl [v0,v1,v2,v3,v4,v5,v6,v7,v8,v9,v10,v11,v12,v13,v14,v15,v16,v17] _ hrP.out Tryz.underlying86 rfl Tryz.infoSpotG ?_)|fail)
 refine hN.out.mono ?_
 rintro e w1 ⟨rfl,hb1⟩
 replace hb1:=hidT hb1
 go_wp2
 exact hQ.out _ w1 hb1.out
theorem sh13 (l0 n:Nat) {W:World} {b6 b7 pb base:Nat} {v:Value} {l:List UInt8} {ks:List ByteArray} {v0 v1 v2 v3 v4 v5 v6 v7 v8 v9 v10 v11 v12 v13 v14 v15 v16 v17:Value}
  (hrP:W.rangeAt pb 0 [v0,v1,v2,v3,v4,v5,v6,v7,v8,v9,v10,v11,v12,v13,v14,v15,v16,v17]) (hBu:BuA W b6 base v l) (hlen:l.length≤1000000000) (hbase:base≤W.heap.size) (hks:ks.length≤1000) (hj:(joinK ks).length≤100000)
  (hK:Calls Tryz.prog 36 #[.agg #[v0,v1,v2,v3,v4,v5,v6,v7,v8,v9,v10,v11,v12,v13,v14,v15,v16,v17]] W fun e V'=>∃ a c,e=.returned (.slice a ks.length c)∧V'.ownsRow (W.heap.size+1) 9 1 (.slice a ks.length c) ks.length (strsC ks)∧Below W.heap.size W V')
  {Q:Exit→Act→World→Prop} (hL:¬ LetsOut Q) (u0 u1 u2 u3 u4 u5 u9 u10 u11 u12 u13 u14 u15 u16 u17 u18 u19 u20 u21 u22 u23 u24 u25 u26 u27 u28 u29 u30 u31 u32 u33 u34 u35 u36 u37 u38 u39 u40 u41 u42:Value)
  (hQ:∀ (x30 x31 x32 x33 x34 x35 v':Value) (w':World),BuA w' b6 base v' (l++([40]++joinK ks++[41]))→BuT b6 v.ownBlock W w'→(v'.ownBlock=v.ownBlock∨∀ g,v'.ownBlock=some g→W.heap.size≤g)→Q .normal ⟨#[u0,u1,u2,u3,u4,u5,.pointer (some ⟨b6,0,none⟩),.pointer (some ⟨b7,0,none⟩),.pointer (some ⟨pb,0,none⟩),u9,u10,u11,u12,u13,u14,u15,u16,u17,u18,u19,u20,u21,u22,u23,u24,u25,u26,u27,u28,u29,x30,x31,x32,x33,x34,x35,u36,u37,u38,u39,u40,u41,u42],[]⟩ w') :
  (stepC 0 (thenC (atC Tryz.f13 [1,1,1,1,0,1,2,2,2,1,1,1,0,1]))).wpIn (Fence.wide.inRound l0) n Tryz.prog Q ⟨#[u0,u1,u2,u3,u4,u5,.pointer (some ⟨b6,0,none⟩),.pointer (some ⟨b7,0,none⟩),.pointer (some ⟨pb,0,none⟩),u9,u10,u11,u12,u13,u14,u15,u16,u17,u18,u19,u20,u21,u22,u23,u24,u25,u26,u27,u28,u29,u30,u31,u32,u33,u34,u35,u36,u37,u38,u39,u40,u41,u42],[]⟩ W:=by
 conv=>arg 4;whnf
 refine regionIn_of l0 (by kernel_rfl) hL ?_
 replace hQ:=hidT hQ
 replace hK:=hidT hK
 replace hrP:=hidT hrP
 replace hBu:=hidT hBu
 go_wp2_with (first|(refine wpList_load_want (by rfl) 86 (.tmp 8) rfl pb 0 rfl [v0,v1,v2,v3,v4,v5,v6,v7,v8,v9,v10,v11,v12,v13,v14,v15,v16,v17] _ hrP.out Tryz.underlying86 rfl Tryz.infoSpotG ?_)|fail)
 refine hK.out.mono ?_
 rintro e w1 ⟨a1,c1,rfl,ho,hb1⟩
 have CJ:=hidT (join_keys ho rfl hks (by omega))
 replace hb1:=hidT hb1
 clear hK ho
 go_wp2_with fail
 refine CJ.out.mono ?_
 rintro e w2 ⟨rfl,hb2⟩
 have hb:=hidT (hb1.out.trans (hb2.mono hb1.out.size))
 clear CJ hb1 hb2
 go_wp2_with fail
 obtain⟨bs,hbs⟩:∃ b,b=(⟨#[40]⟩++⟨(joinK ks).toArray⟩++⟨#[41]⟩:ByteArray):=⟨_,rfl⟩
 have hbl:bs.data.toList=[40]++joinK ks++[41]:=by rw[hbs];simp
 have hsz:bs.size≤100002:=by
  rw[Lib.size_eq,hbl]
  simp only[qO,qV,List.length_nil]
  omega
 rw[← hbs]
 refine (write_own (W:=w2) bs (hBu.out.below hb.out) (by omega) (qN hbase hb.out.size)).mono ?_
 rintro e w3 ⟨rfl,v3,q1,q2,q3⟩
 rw[hbl] at q1
 replace q1:=hidT q1
 replace q2:=hidT ((BuT.below hb.out).trans q2 (.inl rfl))
 replace q3:Hid (v3.ownBlock=v.ownBlock∨∀ g,v3.ownBlock=some g→W.heap.size≤g):=hidT (by
  rcases q3 with q3|q3
  ·exact .inl q3
  ·exact .inr fun g hg=>qN hb.out.size (q3 g hg))
 clear hbs hbl hsz
 go_wp2
 exact hQ.out _ _ _ _ _ _ v3 w3 q1.out q2.out q3.out
theorem sh14 (l0 n:Nat) {W:World} {b6 b7 pb base:Nat} {v:Value} {l:List UInt8}
  (hBu:BuA W b6 base v l) (hlen:l.length≤1000000000) (hbase:base≤W.heap.size)
  {Q:Exit→Act→World→Prop} (hL:¬ LetsOut Q) (u0 u1 u2 u3 u4 u5 u9 u10 u11 u12 u13 u14 u15 u16 u17 u18 u19 u20 u21 u22 u23 u24 u25 u26 u27 u28 u29 u30 u31 u32 u33 u34 u35 u36 u37 u38 u39 u40 u41 u42:Value)
  (hQ:∀ (x36 v':Value) (w':World),BuA w' b6 base v' (l++[91])→BuT b6 v.ownBlock W w'→(v'.ownBlock=v.ownBlock∨∀ g,v'.ownBlock=some g→W.heap.size≤g)→Q .normal ⟨#[u0,u1,u2,u3,u4,u5,.pointer (some ⟨b6,0,none⟩),.pointer (some ⟨b7,0,none⟩),.pointer (some ⟨pb,0,none⟩),u9,u10,u11,u12,u13,u14,u15,u16,u17,u18,u19,u20,u21,u22,u23,u24,u25,u26,u27,u28,u29,u30,u31,u32,u33,u34,u35,x36,u37,u38,u39,u40,u41,u42],[]⟩ w') :
  (atC Tryz.f13 [1,1,1,1,0,1,2,2,2,1,1,1,1,0]).wpIn (Fence.wide.inRound l0) n Tryz.prog Q ⟨#[u0,u1,u2,u3,u4,u5,.pointer (some ⟨b6,0,none⟩),.pointer (some ⟨b7,0,none⟩),.pointer (some ⟨pb,0,none⟩),u9,u10,u11,u12,u13,u14,u15,u16,u17,u18,u19,u20,u21,u22,u23,u24,u25,u26,u27,u28,u29,u30,u31,u32,u33,u34,u35,u36,u37,u38,u39,u40,u41,u42],[]⟩ W:=by
 conv=>arg 4;whnf
 refine regionIn_of l0 (by kernel_rfl) hL ?_
 replace hQ:=hidT hQ
 have CW:=hidT (write_own (W:=W) ⟨#[91]⟩ hBu (by simp[ByteArray.size];omega) hbase)
 go_wp2_with fail
 refine CW.out.mono ?_
 rintro e w1 ⟨rfl,v1,q1,q2,q3⟩
 replace q1:=hidT q1
 replace q2:=hidT q2
 replace q3:=hidT q3
 clear CW
 go_wp2
 exact hQ.out _ v1 w1 q1.out q2.out q3.out
theorem sh15 (l0 n:Nat) {W:World} {b6 b7 pb ab:Nat}
  (hc7:W.heap[b7]?=some (.cells #[.int .i64 (ab:Int)] 3 (0,0))) (hab:ab≤100)
  {Q:Exit→Act→World→Prop} (hL:¬ LetsOut Q) (u0 u1 u2 u3 u4 u5 u9 u10 u11 u12 u13 u14 u15 u16 u17 u18 u19 u20 u21 u22 u23 u24 u25 u26 u27 u28 u29 u30 u31 u32 u33 u34 u35 u36 u37 u38 u39 u40 u41 u42:Value)
  (hQ:∀ (x37 x38:Value),Q .normal ⟨#[u0,u1,u2,u3,u4,u5,.pointer (some ⟨b6,0,none⟩),.pointer (some ⟨b7,0,none⟩),.pointer (some ⟨pb,0,none⟩),u9,u10,u11,u12,u13,u14,u15,u16,u17,u18,u19,u20,u21,u22,u23,u24,u25,u26,u27,u28,u29,u30,u31,u32,u33,u34,u35,u36,x37,x38,u39,u40,u41,u42],[]⟩ (W.setCell ⟨b7,0,none⟩ (.int .i64 ((ab+1:Nat):Int)))) :
  (atC Tryz.f13 [1,1,1,1,0,1,2,2,2,1,1,1,1,1]).wpIn (Fence.wide.inRound l0) n Tryz.prog Q ⟨#[u0,u1,u2,u3,u4,u5,.pointer (some ⟨b6,0,none⟩),.pointer (some ⟨b7,0,none⟩),.pointer (some ⟨pb,0,none⟩),u9,u10,u11,u12,u13,u14,u15,u16,u17,u18,u19,u20,u21,u22,u23,u24,u25,u26,u27,u28,u29,u30,u31,u32,u33,u34,u35,u36,u37,u38,u39,u40,u41,u42],[]⟩ W:=by
 conv=>arg 4;whnf
 refine regionIn_of l0 (by kernel_rfl) hL ?_
 replace hQ:=hidT hQ
 have c7:=cell_rowL hc7
 have f7:=frozen_rowL hc7
 have hE:IntKind.i64.wrap ((ab:Int)+1)=((ab+1:Nat):Int):=by
  rw[show (ab:Int)+1=((ab+1:Nat):Int) by omega]
  go_ints<;>trivial
 go_wp2
 exact hQ.out _ _
end
section
open Go.RowKit
attribute [local go_sem] Oper.semAt_some
theorem sh_round (l0 n:Nat) {W:World} {b6 b7 pb base op ab:Nat} {lf:Bool} {v:Value} {l:List UInt8} {ks:List ByteArray} {v0 v1 v2 v3 v4 v5 v6 v7 v8 v9 v10 v11 v12 v13 v14 v15 v16 v17:Value}
  (hc7:W.heap[b7]?=some (.cells #[.int .i64 (op:Int)] 3 (0,0))) (hbox:W.heap[pb]?=some (.cells #[v0,v1,v2,v3,v4,v5,v6,v7,v8,v9,v10,v11,v12,v13,v14,v15,v16,v17] 86 (0,0))) (hBu:BuA W b6 base v l) (hlen:l.length≤900000000) (hbase:base≤W.heap.size) (hks:ks.length≤1000) (hj:(joinK ks).length≤100000) (hop:op≤9) (hab:ab≤op)
  (hA:∀ V,BuT2 b6 b7 v.ownBlock W V→Calls Tryz.prog 34 #[.agg #[v0,v1,v2,v3,v4,v5,v6,v7,v8,v9,v10,v11,v12,v13,v14,v15,v16,v17]] V fun e V'=>e=.returned (.int .i64 (ab:Int))∧Below V.heap.size V V')
  (hN:∀ V,BuT2 b6 b7 v.ownBlock W V→Calls Tryz.prog 25 #[.agg #[v0,v1,v2,v3,v4,v5,v6,v7,v8,v9,v10,v11,v12,v13,v14,v15,v16,v17]] V fun e V'=>e=.returned (.bool lf)∧Below V.heap.size V V')
  (hK':∀ V,BuT2 b6 b7 v.ownBlock W V→Calls Tryz.prog 36 #[.agg #[v0,v1,v2,v3,v4,v5,v6,v7,v8,v9,v10,v11,v12,v13,v14,v15,v16,v17]] V fun e V'=>∃ a c,e=.returned (.slice a ks.length c)∧V'.ownsRow (V.heap.size+1) 9 1 (.slice a ks.length c) ks.length (strsC ks)∧Below V.heap.size V V')
  {Q:Exit→Act→World→Prop} (hL:¬ LetsOut Q) (u0 u1 u2 u3 u4 u5 u10 u11 u12 u13 u14 u15 u16 u17 u18 u19 u20 u21 u22 u23 u24 u25 u26 u27 u28 u29 u30 u31 u32 u33 u34 u35 u36 u37 u38 u39 u40 u41 u42:Value)
  (hQ1:lf=true→∀ (x20 x21 x22 x23 x24 x25 x26 x27 x28 x30 x31 x32 x33 x34 x35 v':Value) (w':World),BuA w' b6 base v' (l++(closeB (op - ab)++([40]++joinK ks++[41])))→w'.heap[b7]?=some (.cells #[.int .i64 (ab:Int)] 3 (0,0))→BuT2 b6 b7 v.ownBlock W w'→(v'.ownBlock=v.ownBlock∨∀ g,v'.ownBlock=some g→W.heap.size≤g)→Q (.exit 1) ⟨#[u0,u1,u2,u3,u4,u5,.pointer (some ⟨b6,0,none⟩),.pointer (some ⟨b7,0,none⟩),.pointer (some ⟨pb,0,none⟩),.nilIface,u10,u11,u12,u13,u14,u15,u16,.nilIface,.bool false,u19,x20,x21,x22,x23,x24,x25,x26,x27,x28,.bool true,x30,x31,x32,x33,x34,x35,u36,u37,u38,u39,u40,u41,u42],[]⟩ w')
  (hQ0:lf=false→∀ (x20 x21 x22 x23 x24 x25 x26 x27 x28 x36 x37 x38 v':Value) (w':World),BuA w' b6 base v' (l++(closeB (op - ab)++[91]))→w'.heap[b7]?=some (.cells #[.int .i64 ((ab+1:Nat):Int)] 3 (0,0))→BuT2 b6 b7 v.ownBlock W w'→(v'.ownBlock=v.ownBlock∨∀ g,v'.ownBlock=some g→W.heap.size≤g)→Q .normal ⟨#[u0,u1,u2,u3,u4,u5,.pointer (some ⟨b6,0,none⟩),.pointer (some ⟨b7,0,none⟩),.pointer (some ⟨pb,0,none⟩),.nilIface,u10,u11,u12,u13,u14,u15,u16,.nilIface,.bool false,u19,x20,x21,x22,x23,x24,x25,x26,x27,x28,.bool false,u30,u31,u32,u33,u34,u35,x36,x37,x38,u39,u40,u41,u42],[]⟩ w') :
  (atC Tryz.f13 [1,1,1,1,0,1,2,2,2]).wpIn (Fence.wide.inRound l0) n Tryz.prog Q ⟨#[u0,u1,u2,u3,u4,u5,.pointer (some ⟨b6,0,none⟩),.pointer (some ⟨b7,0,none⟩),.pointer (some ⟨pb,0,none⟩),.nilIface,u10,u11,u12,u13,u14,u15,u16,u17,u18,u19,u20,u21,u22,u23,u24,u25,u26,u27,u28,u29,u30,u31,u32,u33,u34,u35,u36,u37,u38,u39,u40,u41,u42],[]⟩ W:=by
 conv=>arg 4;whnf
 refine wpIn_seq_k fun K hK=>?_
 replace hK:=hidT hK
 have hn:=neqNilT
 have hBase:=hidT hbase
 clear hbase
 gi_wp2
 refine hK.out _ _ ?_
 clear hK
 refine wpIn_seq_k fun K hK=>?_
 replace hK:=hidT hK
 refine sh10 l0 n W b6 b7 pb base op ab v l v0 v1 v2 v3 v4 v5 v6 v7 v8 v9 v10 v11 v12 v13 v14 v15 v16 v17 (ops:=_) (by kernel_rfl) (Q:=Exit.then K Q) (fun h=>hL h) rfl rfl rfl rfl hop hab (fun V hV=>cell_rowL (heap_on hc7 hV) 0) (fun V hV=>range_on (range_box (cs:=[v0,v1,v2,v3,v4,v5,v6,v7,v8,v9,v10,v11,v12,v13,v14,v15,v16,v17]) hbox) hV) (fun V hV=>hA V (BuT.below hV).two) hBu (by omega) hBase.out ?_
 intro x20 x21 x22 x23 x24 x25 vA w1 q1 q2 q3
 simp only[List.foldl_cons,List.foldl_nil,Act.put,qS,qC,qZ]
 refine hK.out _ _ ?_
 clear hK
 have k7:=q2.keep hBu hc7 (by decide) (by decide)
 have kp:=q2.keep hBu hbox (by decide) (by decide)
 have npb:pb≠b7:=fun e=>by
  rw[e,hc7] at hbox
  simp only[qQ,qX] at hbox
  exact absurd hbox.2.1 (by decide)
 refine wpIn_seq_k fun K hK=>?_
 replace hK:=hidT hK
 refine sh11 l0 n (Q:=Exit.then K Q) k7 (range_box (cs:=[v0,v1,v2,v3,v4,v5,v6,v7,v8,v9,v10,v11,v12,v13,v14,v15,v16,v17]) kp) (hA w1 q2.two) (fun h=>hL h) u0 u1 u2 u3 u4 u5 .nilIface u10 u11 u12 u13 u14 u15 u16 .nilIface (.bool false) u19 x20 x21 x22 x23 x24 x25 u26 u27 u28 u29 u30 u31 u32 u33 u34 u35 u36 u37 u38 u39 u40 u41 u42 ?_
 intro x26 x27 w2 hb2
 refine hK.out _ _ ?_
 clear hK
 obtain⟨w3,hw3⟩:∃ w3,w3=w2.setCell ⟨b7,0,none⟩ (.int .i64 (ab:Int)):=⟨_,rfl⟩
 rw[← hw3]
 have h73:w3.heap[b7]?=some (.cells #[.int .i64 (ab:Int)] 3 (0,0)):=by rw[hw3];exact heap_set1 (heap_on k7 hb2)
 have hp3:w3.heap[pb]?=some (.cells #[v0,v1,v2,v3,v4,v5,v6,v7,v8,v9,v10,v11,v12,v13,v14,v15,v16,v17] 86 (0,0)):=by rw[hw3];exact (qD _ _ _ _ npb).trans (heap_on kp hb2)
 have hB3:BuA w3 b6 base vA (l++closeB (op - ab)):=by rw[hw3];exact (q1.below hb2).setOther (heap_on k7 hb2) (by decide) (by decide) _
 have hT3:BuT2 b6 b7 v.ownBlock W w3:=by rw[hw3];exact (q2.two.below hb2).setCell _
 have hs3:W.heap.size≤w3.heap.size:=hT3.size
 clear hw3 hb2 k7 kp q1 q2 hA hc7 hbox hBu
 refine wpIn_seq_k fun K hK=>?_
 replace hK:=hidT hK
 refine wpIn_seq_k fun K2 hK2=>?_
 replace hK2:=hidT hK2
 refine sh12 l0 n (Q:=Exit.then K2 (Exit.then K Q)) (range_box (cs:=[v0,v1,v2,v3,v4,v5,v6,v7,v8,v9,v10,v11,v12,v13,v14,v15,v16,v17]) hp3) (hN w3 hT3) (fun h=>hL h) u0 u1 u2 u3 u4 u5 .nilIface u10 u11 u12 u13 u14 u15 u16 .nilIface (.bool false) u19 x20 x21 x22 x23 x24 x25 x26 x27 u28 u29 u30 u31 u32 u33 u34 u35 u36 u37 u38 u39 u40 u41 u42 ?_
 intro x28 w4 hb4
 refine hK2.out _ _ ?_
 clear hK2
 have hB4:=hB3.below hb4
 have hT4:=hT3.below hb4
 have h74:=heap_on h73 hb4
 have hp4:=heap_on hp3 hb4
 have hs4:=hb4.size
 have hlb:(l++closeB (op - ab)).length≤900000010:=by
  simp only[qO,closeB,List.length_replicate]
  omega
 have hbase:=hBase.out
 clear hb4 hB3 hT3 h73 hp3 hN
 cases lf with
 | true=>
   refine wpIn_cond_true rfl ?_
   refine wpIn_seq_k fun K3 hK3=>?_
   replace hK3:=hidT hK3
   refine sh13 l0 n (Q:=Exit.then K3 (Exit.then K Q)) (range_box (cs:=[v0,v1,v2,v3,v4,v5,v6,v7,v8,v9,v10,v11,v12,v13,v14,v15,v16,v17]) hp4) hB4 (by omega) (by omega) hks hj (hK' w4 hT4) (fun h=>hL h) u0 u1 u2 u3 u4 u5 .nilIface u10 u11 u12 u13 u14 u15 u16 .nilIface (.bool false) u19 x20 x21 x22 x23 x24 x25 x26 x27 x28 (.bool true) u30 u31 u32 u33 u34 u35 u36 u37 u38 u39 u40 u41 u42 ?_
   intro x30 x31 x32 x33 x34 x35 vB w5 q1 q2 q4
   refine hK3.out _ _ ?_
   refine wpIn_exit ?_
   have e:=hQ1 rfl x20 x21 x22 x23 x24 x25 x26 x27 x28 x30 x31 x32 x33 x34 x35 vB w5 (by rw[List.append_assoc] at q1;exact q1) (q2.keep hB4 h74 (by decide) (by decide)) (hT4.trans q2.two q3) (by
    rcases q4 with q4|q4
    ·rcases q3 with q3|q3
     ·exact .inl (q4.trans q3)
     ·exact .inr fun g hg=>q3 g (q4 ▸ hg)
    ·exact .inr fun g hg=>qN (by omega) (q4 g hg))
   exact e
 | false=>
   refine wpIn_cond_false rfl ?_
   refine wpIn_skip ?_
   refine hK.out _ _ ?_
   clear hK
   refine wpIn_seq_k fun K hK=>?_
   replace hK:=hidT hK
   refine sh14 l0 n (Q:=Exit.then K Q) hB4 (by omega) (by omega) (fun h=>hL h) u0 u1 u2 u3 u4 u5 .nilIface u10 u11 u12 u13 u14 u15 u16 .nilIface (.bool false) u19 x20 x21 x22 x23 x24 x25 x26 x27 x28 (.bool false) u30 u31 u32 u33 u34 u35 u36 u37 u38 u39 u40 u41 u42 ?_
   intro x36 vB w5 q1 q2 q4
   refine hK.out _ _ ?_
   have h75:=q2.keep hB4 h74 (by decide) (by decide)
   refine sh15 l0 n h75 (by omega) hL u0 u1 u2 u3 u4 u5 .nilIface u10 u11 u12 u13 u14 u15 u16 .nilIface (.bool false) u19 x20 x21 x22 x23 x24 x25 x26 x27 x28 (.bool false) u30 u31 u32 u33 u34 u35 x36 u37 u38 u39 u40 u41 u42 ?_
   intro x37 x38
   refine hQ0 rfl x20 x21 x22 x23 x24 x25 x26 x27 x28 x36 x37 x38 vB _ ?_ (heap_set1 h75) ((hT4.trans q2.two q3).setCell _) ?_
   ·rw[List.append_assoc] at q1
    exact q1.setOther h75 (by decide) (by decide) _
   ·rcases q4 with q4|q4
    ·rcases q3 with q3|q3
     ·exact .inl (q4.trans q3)
     ·exact .inr fun g hg=>q3 g (q4 ▸ hg)
    ·exact .inr fun g hg=>qN (by omega) (q4 g hg)
end
section
open Go.RowKit Go.Shelf
attribute [local go_sem] Oper.semAt_some
structure ShapeI (X:World) (pre:List SpotD) (W:World):Prop where
 a4:W.heap[X.heap.size]?=some (.cells #[.string ⟨#[]⟩] 9 (0,0))
 a5:W.heap[X.heap.size+1]?=some (.cells #[.nilIface] 38 (0,0))
 a6:∃ v,BuA W (X.heap.size+2) (X.heap.size+6) v (stS pre).2
 a7:W.heap[X.heap.size+3]?=some (.cells #[.int .i64 ((stS pre).1:Int)] 3 (0,0))
 bel:Below X.heap.size X W
 big:X.heap.size+6≤W.heap.size
theorem ShapeI.turn {X:World} {pre:List SpotD} {W W':World} (h:ShapeI X pre W) {lo:Nat} (ht:Turn lo W W') (hl:X.heap.size≤lo):ShapeI X pre W':=by
 obtain⟨v,h1⟩:=h.a6
 exact⟨ht.cells h.a4,ht.cells h.a5,⟨v,h1.turn ht⟩,ht.cells h.a7,ht.bel h.bel hl h.bel.size,qN h.big ht.size⟩
theorem six (X:World) (o1 o2 o3 o4 o5 o6:Obj):((((((X.alloc o1).alloc o2).alloc o3).alloc o4).alloc o5).alloc o6).heap[X.heap.size]?=some o1∧((((((X.alloc o1).alloc o2).alloc o3).alloc o4).alloc o5).alloc o6).heap[X.heap.size+1]?=some o2∧((((((X.alloc o1).alloc o2).alloc o3).alloc o4).alloc o5).alloc o6).heap[X.heap.size+2]?=some o3∧((((((X.alloc o1).alloc o2).alloc o3).alloc o4).alloc o5).alloc o6).heap[X.heap.size+3]?=some o4∧((((((X.alloc o1).alloc o2).alloc o3).alloc o4).alloc o5).alloc o6).heap[X.heap.size+4]?=some o5∧((((((X.alloc o1).alloc o2).alloc o3).alloc o4).alloc o5).alloc o6).heap[X.heap.size+5]?=some o6∧((((((X.alloc o1).alloc o2).alloc o3).alloc o4).alloc o5).alloc o6).heap.size=X.heap.size+6∧Below X.heap.size X ((((((X.alloc o1).alloc o2).alloc o3).alloc o4).alloc o5).alloc o6):=by
 obtain⟨h1,h2,h3,h4,h5,h6,h7⟩:=five X o1 o2 o3 o4 o5
 have n6:=heap_newL (((((X.alloc o1).alloc o2).alloc o3).alloc o4).alloc o5) o6
 rw[h6] at n6
 have key:∀ k,k<X.heap.size+5→((((((X.alloc o1).alloc o2).alloc o3).alloc o4).alloc o5).alloc o6).heap[k]?=(((((X.alloc o1).alloc o2).alloc o3).alloc o4).alloc o5).heap[k]?:=fun k hk=>qE _ _ _ (by rw[h6];exact hk)
 exact⟨(key _ (by omega)).trans h1,(key _ (by omega)).trans h2,(key _ (by omega)).trans h3,(key _ (by omega)).trans h4,(key _ (by omega)).trans h5,n6,by simp,h7.alloc (by simp<;>omega) o6⟩
theorem shape_any {w0 X:World} {sb mb fb:Nat} {s:StD} {L:List F.Sh} (hSf:Sf w0 X sb mb fb s L) (hL:ShOk L) (root:Int) (hr:InI root) (h0:root≠0) (hsh:(spotsD (readS s L) root).length≤600) (herr:∀ x∈spotsD (readS s L) root,x.err=0) (hok:okSh 0 (spotsD (readS s L) root)) (hj:∀ x∈spotsD (readS s L) root,(joinK (keysOf x.page.items)).length≤100000) :
  Calls Tryz.prog 13 #[.pointer (some ⟨sb,0,none⟩),.int .i64 root] X fun e Y=>e=.returned (.tuple #[.string ⟨(shapeFrom 0 (spotsD (readS s L) root)).toArray⟩,.nilIface])∧Below X.heap.size X Y:=by
 have hT:=hidT (fun b1 b2 w hw h1 h2=>spots_tells hSf hL root hr b1 b2 8 w hw h1 h2)
 obtain⟨S,hS⟩:∃ S,S=spotsD (readS s L) root:=⟨_,rfl⟩
 have hfew:Hid (∀ x∈spotsD (readS s L) root,x.page.items.length≤4):=hidT (fun x hx=>(spots_shape hx).1)
 rw[← hS] at hT hsh herr hok hj hfew ⊢
 clear hS
 replace hsh:=hidT hsh
 replace herr:=hidT herr
 replace hok:=hidT hok
 replace hj:=hidT hj
 have d0:(root==0)=false:=by simp[h0]
 obtain⟨txt,htxt⟩:∃ t,Hid (t=shapeFrom 0 S):=⟨_,hidT rfl⟩
 rw[← htxt.out]
 refine (callsIn_wide (n:=9)).1 ?_
 refine callsIn_of_wp_marks Tryz.func13 rfl trivial ?_ rfl
 simp only[Tryz.ntmps13,List.size_toArray,qV,List.length_nil,Nat.reduceAdd,Nat.reduceSub,Array.replicate_succ,Array.replicate_zero,List.push_toArray,List.append_toArray,List.nil_append,List.cons_append]
 refine wpIn_wide.2 ?_
 go_wp2_with fail
 refine (spots_any sb root _).mono ?_
 rintro e W1 ⟨rfl,hW1⟩
 have h6:=six X (.cells #[.string ⟨#[]⟩] 9) (.cells #[.nilIface] 38) (.cells #[.pointer none,.slice none 0 0] 92) (.cells #[.int .i64 0] 3) (.cells #[.pointer (some ⟨sb,0,none⟩)] 27) (.cells #[.int .i64 root] 3)
 rw[← hW1] at h6
 obtain⟨p1,p2,p3,p4,p5,p6,p7,p8⟩:=h6
 have hI0:Hid (ShapeI X [] W1):=hidT ⟨p1,p2,⟨.slice none 0 0,bu_new p3⟩,p4,p8,by rw[p7];exact Nat.le_refl _⟩
 have hTW:=hidT (hT.out (X.heap.size+5) (X.heap.size+4) W1 p8 p6 p5)
 have hW1s:=hidT p7
 clear p1 p2 p3 p4 p5 p6 p7 p8 hW1 hT
 simp only[World.size_alloc,Nat.add_assoc,Nat.reduceAdd]
 go_wp2
 refine (wpIn_wide (n:=9)).1 ?_
 refine range_tells (At:=AtS) (n0:=Own2 X.heap.size (X.heap.size+5) (X.heap.size+4)) (S:=S) (w0:=W1) rfl (by omega) (gf:=54) (lb:=#[.pointer (some ⟨X.heap.size+5,0,none⟩),.pointer (some ⟨X.heap.size+4,0,none⟩)]) rfl trivial (enters_of Tryz.func54 (by kernel_rfl) rfl) hTW.out (qB _ _) (ShapeI X) (fun _ _ _=>False)
  (fun xs W W' h ht=>h.turn ht (by have:=hW1s.out;omega)) (fun _ _ _ _ h _=>h) hI0.out
  (fun x args a' W'=>∃ (pb:Nat) (cs:Array Value) (E:Value),args=#[.agg cs,E]∧a'={ tmps:=#[.pointer (some ⟨sb,0,none⟩),.int .i64 root,undef,undef,.pointer (some ⟨X.heap.size,0,none⟩),.pointer (some ⟨X.heap.size+1,0,none⟩),.pointer (some ⟨X.heap.size+2,0,none⟩),.pointer (some ⟨X.heap.size+3,0,none⟩),.pointer (some ⟨pb,0,none⟩),E,.int .i64 root,.bool false,.pointer (some ⟨sb,0,none⟩),.int .i64 root,.func (.func 54) #[] #[.pointer (some ⟨X.heap.size+5,0,none⟩),.pointer (some ⟨X.heap.size+4,0,none⟩)],.agg cs,E,undef,undef,undef,undef,undef,undef,undef,undef,undef,undef,undef,undef,undef,undef,undef,undef,undef,undef,undef,undef,undef,undef,undef,undef,undef,undef],defers:=[] }∧W'.heap[pb]?=some (.cells cs 86 (0,0))) ?assign ?body ?done ?stop
 case assign=>
  intro l pre x args B W K hI hAt hK
  obtain⟨u,rfl,hH⟩:=hAt
  have hu:=(hH W ⟨Nat.le_refl _,fun _ _ _=>rfl⟩).slices
  replace hH:=hidT hH
  obtain⟨nr,p,ec⟩:=x
  obtain⟨ui,uk,ud,uv,uf⟩:=u
  obtain⟨⟨ai,ni,ci,rfl⟩,⟨ak,nk,ck,rfl⟩,⟨ad,nd,cd,rfl⟩,⟨av,nv,cv,rfl⟩,⟨af,nf,cf,rfl⟩⟩:=hu
  have hbX:=(qB W.heap.size W).alloc qL (.cells #[.int .i64 nr.id,.int .i64 (nr.depth:Int),.string nr.low,.string nr.high,.int .i64 p.kind,.slice ai ni ci,.slice ak nk ck,.slice ad nd cd,.string p.text,.slice av nv cv,.slice af nf cf,.int .i64 p.next,.int .u64 p.mt.txn,.int .i64 p.mt.main.page,.int .i64 p.mt.main.count,.int .i64 p.mt.main.flags,.int .i64 p.mt.free,.int .i64 p.mt.last] 86)
  have hK2:=hK { tmps:=#[.pointer (some ⟨sb,0,none⟩),.int .i64 root,undef,undef,.pointer (some ⟨X.heap.size,0,none⟩),.pointer (some ⟨X.heap.size+1,0,none⟩),.pointer (some ⟨X.heap.size+2,0,none⟩),.pointer (some ⟨X.heap.size+3,0,none⟩),.pointer (some ⟨W.heap.size,0,none⟩),errV ec,.int .i64 root,.bool false,.pointer (some ⟨sb,0,none⟩),.int .i64 root,.func (.func 54) #[] #[.pointer (some ⟨X.heap.size+5,0,none⟩),.pointer (some ⟨X.heap.size+4,0,none⟩)],.agg #[.int .i64 nr.id,.int .i64 (nr.depth:Int),.string nr.low,.string nr.high,.int .i64 p.kind,.slice ai ni ci,.slice ak nk ck,.slice ad nd cd,.string p.text,.slice av nv cv,.slice af nf cf,.int .i64 p.next,.int .u64 p.mt.txn,.int .i64 p.mt.main.page,.int .i64 p.mt.main.count,.int .i64 p.mt.main.flags,.int .i64 p.mt.free,.int .i64 p.mt.last],errV ec,undef,undef,undef,undef,undef,undef,undef,undef,undef,undef,undef,undef,undef,undef,undef,undef,undef,undef,undef,undef,undef,undef,undef,undef,undef,undef],defers:=[] } _ hbX ⟨W.heap.size,_,_,rfl,rfl,heap_newL W _⟩
  clear hK
  rw[show (spotCells nr p ⟨.slice ai ni ci,.slice ak nk ck,.slice ad nd cd,.slice av nv cv,.slice af nf cf⟩).toArray=#[.int .i64 nr.id,.int .i64 (nr.depth:Int),.string nr.low,.string nr.high,.int .i64 p.kind,.slice ai ni ci,.slice ak nk ck,.slice ad nd cd,.string p.text,.slice av nv cv,.slice af nf cf,.int .i64 p.next,.int .u64 p.mt.txn,.int .i64 p.mt.main.page,.int .i64 p.mt.main.count,.int .i64 p.mt.main.flags,.int .i64 p.mt.free,.int .i64 p.mt.last] from rfl]
  gi_wp2
  exact hK2
 case body=>
  intro l pre x args a' W0 W1' Wa W hl hpre hIa hsz hb1 hAt hba hAx hWs hoth hI ht
  obtain⟨pb,cs,E,rfl,rfl,hbox⟩:=hAx
  obtain⟨u,e1,hH⟩:=hAt
  have e2:cs=(spotCells x.near x.page u).toArray∧E=errV x.err:=by simpa using e1
  obtain⟨rfl,rfl⟩:=e2
  have hbW:=box_kept hb1 hba hoth ht hbox
  have hHW:=hH W ⟨by have:=hba.size;omega,fun k h1 h2=>(hoth k (.inr h1)).trans (hba.block k h2)⟩
  have hu:=hHW.slices
  obtain⟨v,hBu⟩:=hI.a6
  have hrow:∀ g,v.ownBlock=some g→X.heap.size+6≤g∧g<W0.heap.size:=fun g hg=>by
   obtain⟨v0,k6⟩:=hIa.a6
   have k7:=k6.lt
   obtain⟨_,j1,_⟩:=k6
   obtain⟨_,j2,_⟩:=hBu
   have e3:=(ht.cells j1).symm.trans j2
   simp only[qQ,qX,Array.mk.injEq,List.cons.injEq,and_true] at e3
   rw[e3.2] at k7
   exact k7.2 g hg
  obtain⟨rst,hr⟩:=hpre
  have hmem:x∈S:=by rw[← hr];simp
  have hok1:=hok.out
  rw[← hr,List.append_assoc] at hok1
  obtain⟨hd1,hd9,hop⟩:=okSh_at pre x rst hok1
  have hop9:=stS_open pre _ hok1
  have hlen:=stS_len pre _ hok1 (fun y hy=>hj.out y (by rw[← hr];simp[hy]))
  have hpl:pre.length≤600:=by
   have h1:=hsh.out
   rw[← hr] at h1
   simp only[qO,qV,List.length_nil] at h1
   omega
  have he:=herr.out x hmem
  have hfw:=hfew.out x hmem
  have hjx:=hj.out x hmem
  have h7:=hI.a7
  have hB6:X.heap.size+6≤W0.heap.size:=hIa.big
  have hW6:X.heap.size+6≤W.heap.size:=hI.big
  have eE:errV x.err=.nilIface:=by rw[he];rfl
  rw[eE]
  have hdp:((x.near.depth:Int) - 1)=((x.near.depth - 1:Nat):Int):=by omega
  have hAg:∀ V,BuT2 (X.heap.size+2) (X.heap.size+3) v.ownBlock W V→Hangs V x.page u.i u.k u.d u.v u.f:=fun V hV=>hH V ⟨by have:=hba.size;have:=hV.size;omega,fun k h1 h2=>(hV.block k (by have:=hba.size;omega) (by omega) (by omega) (fun e=>by have:=(hrow k e.symm).2;omega)).trans ((hoth k (.inr h1)).trans (hba.block k h2))⟩
  have fin:∀ v' w',BuA w' (X.heap.size+2) (X.heap.size+6) v' ((stS pre).2++piece (stS pre).1 x)→w'.heap[X.heap.size+3]?=some (.cells #[.int .i64 (nextS x:Int)] 3 (0,0))→BuT2 (X.heap.size+2) (X.heap.size+3) v.ownBlock W w'→BodyKeeps (Own2 X.heap.size (X.heap.size+5) (X.heap.size+4)) W0.heap.size W w'∧ShapeI X (pre++[x]) w':=by
   intro v' w' q1 q7 q2
   have hk:=stS_snoc pre x
   have hbc:∃ cs T fr,W.heap[X.heap.size+2]?=some (.cells cs T fr):=by
    obtain⟨_,j2,_⟩:=hBu
    exact⟨_,_,_,j2⟩
   have hbk:BodyKeeps (Own2 X.heap.size (X.heap.size+5) (X.heap.size+4)) W0.heap.size W w':=q2.keeps ⟨⟨by omega,by omega,by omega⟩,by omega,hbc⟩ ⟨⟨by omega,by omega,by omega⟩,by omega,_,_,_,h7⟩ (fun g hg=>by
    obtain⟨h1,h2⟩:=hrow g hg
    obtain⟨cs,h3⟩:=hBu.own_kind hg
    exact⟨⟨by omega,by omega,by omega⟩,h2,_,_,_,h3⟩)
   have hrw:∀ k,k<X.heap.size+6→some k≠v.ownBlock:=fun k hk e=>by have:=(hrow k e.symm).1;omega
   refine⟨hbk,(q2.block X.heap.size (by omega) (by omega) (by omega) (hrw _ (by omega))).trans hI.a4,(q2.block (X.heap.size+1) (by omega) (by omega) (by omega) (hrw _ (by omega))).trans hI.a5,⟨v',by rw[hk];exact q1⟩,by rw[hk];exact q7,hbk.bel hI.bel (by omega),by have:=q2.size;omega⟩
  replace fin:=hidT fin
  refine wpIn_block ?_
  refine sh_round l 7 (Q:=Exit.inBlock 1 (leaves (Own2 X.heap.size (X.heap.size+5) (X.heap.size+4)) W0.heap.size (ShapeI X) (fun _ _ _=>False) (pre++[x]) W)) (W:=W) (b6:=X.heap.size+2) (b7:=X.heap.size+3) (pb:=pb) (base:=X.heap.size+6) (op:=(stS pre).1) (ab:=x.near.depth - 1) (lf:=x.page.kind==1) (v:=v) (l:=(stS pre).2) (ks:=keysOf x.page.items) (v0:=.int .i64 x.near.id) (v1:=.int .i64 (x.near.depth:Int)) (v2:=.string x.near.low) (v3:=.string x.near.high) (v4:=.int .i64 x.page.kind) (v5:=u.i) (v6:=u.k) (v7:=u.d) (v8:=.string x.page.text) (v9:=u.v) (v10:=u.f) (v11:=.int .i64 x.page.next) (v12:=.int .u64 x.page.mt.txn) (v13:=.int .i64 x.page.mt.main.page) (v14:=.int .i64 x.page.mt.main.count) (v15:=.int .i64 x.page.mt.main.flags) (v16:=.int .i64 x.page.mt.free) (v17:=.int .i64 x.page.mt.last) h7 hbW hBu (by omega) hW6 (by simp only[keysOf,List.length_map];omega) hjx hop9 hop
   (fun V hV=>by rw[← hdp];exact above_spot x.near x.page u V hu (by omega)) (fun V hV=>leaf_spot x.near x.page u V hu)
   (fun V hV=>by
    have h1:=keys_spot x.near x.page u V (hAg V hV) (by omega)
    rw[show x.page.items.length=(keysOf x.page.items).length by simp[keysOf]] at h1
    exact h1) (fun ⟨_,_,h⟩=>h) _ _ _ _ _ _ _ _ _ _ _ _ _ _ _ _ _ _ _ _ _ _ _ _ _ _ _ _ _ _ _ _ _ _ _ _ _ _ _ ?hQ1 ?hQ0
  case hQ1=>
   intro hlf x20 x21 x22 x23 x24 x25 x26 x27 x28 x30 x31 x32 x33 x34 x35 v' w' q1 q7 q2 _
   refine fin.out v' w' ?_ ?_ q2
   ·unfold piece
    rw[if_pos hlf]
    exact q1
   ·unfold nextS
    rw[if_pos hlf]
    exact q7
  case hQ0=>
   intro hlf x20 x21 x22 x23 x24 x25 x26 x27 x28 x36 x37 x38 v' w' q1 q7 q2 _
   have hlf':¬ (x.page.kind==1)=true:=by rw[hlf];simp
   refine fin.out v' w' ?_ ?_ q2
   ·unfold piece
    rw[if_neg hlf']
    exact q1
   ·unfold nextS
    rw[if_neg hlf',show x.near.depth=x.near.depth - 1+1 by omega]
    exact q7
 case done=>
  intro D W hD hI hm
  obtain⟨v,hBu⟩:=hI.a6
  have c7:=cell_rowL hI.a7
  have hok1:=hok.out
  rw[← List.append_nil S] at hok1
  have hop:=stS_open S [] hok1
  have hln:=stS_len S [] hok1 hj.out
  have hsl:=hsh.out
  replace hBu:=hidT hBu
  replace hI:=hidT hI
  replace hm:=hidT hm
  have hop':=hidT hop
  have hln':=hidT hln
  have hsl':=hidT hsl
  have CR:=hidT (repeat_any (stS S).1 (by omega) W)
  have hcl:(closeB (stS S).1).length≤100:=by simp only[closeB,List.length_replicate];omega
  clear hop hln hsl hok1
  go_wp2_with fail
  refine CR.out.mono ?_
  rintro e w1 ⟨rfl,hb1⟩
  have hbg:=hI.out.big
  have CW:=hidT (write_own (W:=w1) ⟨(closeB (stS S).1).toArray⟩ (hBu.out.below hb1) (by have:=hln'.out;have:=hsl'.out;simp[ByteArray.size];omega) (by have:=hb1.size;omega))
  replace hb1:=hidT hb1
  replace hbg:=hidT hbg
  replace hcl:=hidT hcl
  clear CR c7
  go_wp2_with fail
  refine CW.out.mono ?_
  rintro e w2 ⟨rfl,v2,q1,q2,q3⟩
  have CS:=hidT (string_own q1 (by omega))
  have hDl:=(qA hm.out)
  have hDr:some D≠v.ownBlock:=fun e=>by
   obtain⟨_,h⟩:=hBu.out.own_kind e.symm
   rw[hm.out] at h
   cases h
  have hDb:D≠X.heap.size+2:=fun e=>by
   obtain⟨_,h,_⟩:=hBu.out
   rw[← e,hm.out] at h
   cases h
  have hm2:=hidT ((q2.block D (by have:=hb1.out.size;omega) hDb hDr).trans ((hb1.out.block D hDl).trans hm.out))
  have k4:=hidT (q2.keep (hBu.out.below hb1.out) (heap_on hI.out.a4 hb1.out) (by decide) (by decide))
  have k5:=hidT (q2.keep (hBu.out.below hb1.out) (heap_on hI.out.a5 hb1.out) (by decide) (by decide))
  replace q1:=hidT q1
  replace q2:=hidT q2
  clear CW q3 hDr hDb
  go_wp2_with fail
  refine CS.out.mono ?_
  rintro e w3 ⟨rfl,hb3,ho3⟩
  have j4:=(hb3.block X.heap.size (by omega)).trans k4.out
  have j5:=(hb3.block (X.heap.size+1) (by omega)).trans k5.out
  have hm3:=hidT (ho3 D _ hm2.out (by
   intro e
   have e':D=X.heap.size+2:=by simpa using e
   obtain⟨_,h,_⟩:=hBu.out
   rw[← e',hm.out] at h
   cases h) (by intro c fz h;cases h))
  have hbl:Below X.heap.size X w3:=by
   have h1:Below X.heap.size X w1:=hI.out.bel.trans (hb1.out.mono (by have:=hbg.out;omega))
   have h2:Below X.heap.size X w2:=⟨q2.out.os.trans h1.os,q2.out.tape.trans h1.tape,q2.out.output.trans h1.output,qN h1.size q2.out.size,fun k hk=>(q2.out.block k (by have:=h1.size;omega) (by omega) (fun e=>by
    have:=(hBu.out.lt.2 k e.symm).1
    omega)).trans (h1.block k hk)⟩
   exact h2.trans (hb3.mono (by omega))
  have c4:=cell_rowL j4
  have f4:=frozen_rowL j4
  have c5:=cell_rowL j5
  have f5:=frozen_rowL j5
  replace j4:=hidT j4
  replace j5:=hidT j5
  replace hbl:=hidT hbl
  clear CS hb3 ho3
  have hW1D:=hidT hD
  obtain⟨t,ht⟩:∃ t,Hid (t=(stS S).2++closeB (stS S).1):=⟨_,hidT rfl⟩
  have hts:(stS S).2++(ByteArray.mk (closeB (stS S).1).toArray).data.toList=t:=by rw[ht.out]
  simp only[hts]
  clear hts
  go_wp2
  have s4:=heap_setCell_same w3 X.heap.size 0 _ _ (.string ⟨t.toArray⟩) j4.out
  have s5:=heap_setCell_same (w3.setCell ⟨X.heap.size,0,none⟩ (.string ⟨t.toArray⟩)) (X.heap.size+1) 0 _ _ .nilIface ((qD _ _ _ _ (show X.heap.size+1≠X.heap.size by omega)).trans j5.out)
  simp only[qS,qZ] at s4 s5
  have hDs:=hW1s.out
  refine leave_mark (B:=X.heap.size) (by omega) (((qD _ _ _ _ (show D≠X.heap.size+1 by omega)).trans (qD _ _ _ _ (show D≠X.heap.size by omega))).trans hm3.out) ?_
  intro w' hk hb
  have c4':=cell_rowL ((hk X.heap.size (by omega)).trans ((qD _ _ _ _ (show X.heap.size≠X.heap.size+1 by omega)).trans s4))
  have c5':=cell_rowL ((hk (X.heap.size+1) (by omega)).trans s5)
  have e1:=shape_split S []
  rw[List.append_nil] at e1
  have e2:txt=t:=by rw[htxt.out,ht.out,e1];rfl
  rw[e2]
  exact⟨.tuple #[.string ⟨t.toArray⟩,.nilIface],by simp[results,Tryz.results13,go_sem,c4',c5'],rfl,((hbl.out.setCell qL _).setCell (by simp) _).trans hb⟩
 case stop=>
  intro D c pre x W hD hpre hX hm
  exact hX.elim
end
end Go.Proofs.YtbghhklbfnplbaaGreat

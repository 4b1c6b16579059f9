import Derived.Sort.LoopGhostIn
import Derived.Shelf.RegionOpen
import Derived.WalkMore
import Derived.Test.YtbghhklbfnplbaaGreatC00
import Derived.Test.YtbghhklbfnplbaaGreatT05
import Derived.Test.YtbghhklbfnplbaaGreatT06
import Derived.Test.YtbghhklbfnplbaaGreatT04
import Derived.Test.YtbghhklbfnplbaaGreatT02
set_option maxHeartbeats 4000000
set_option maxRecDepth 100000
namespace Go.Proofs.YtbghhklbfnplbaaGreat
section
open Go.RowKit
section
variable {P:Program} {Q:Exit→Act→World→Prop} {n:Nat}
theorem wpList_in (l:Nat) {ops:Array Oper} (hL:¬ LetsOut Q):∀ (rest:List Oper),(∀ o∈rest,∀ c,o.op≠.defer c)→∀ (a:Act) (w:World),wpList P ops Q rest a w→wpListIn (Fence.wide.inRound l) n P ops Q rest a w
 | [],_,_,_,h=>h
 | o::rest,hd,a,w,h=>by
   unfold wpList at h
   unfold wpListIn
   have ih:=wpList_in l (ops:=ops) hL rest (fun o' ho'=>hd o' (by simp[ho']))
   by_cases hw:Region.wanted o (yielded ops a.tmps)=true
   ·rw[if_pos hw] at h ⊢
    rcases h with h|⟨_,h⟩
    ·exact opWp_in l (hd o (by simp)) ih h
    ·exact absurd h hL
   ·rw[if_neg hw] at h ⊢
    exact⟨fun _ _=>trivial,ih _ _ h⟩
theorem regionIn_of (l:Nat) {id:Nat} {ops:List Oper} {a:Act} {w:World} (hd:noDeferB ops.toArray=true) (hL:¬ LetsOut Q) (h:wpList P ops.toArray Q ops a w):(Code.region id ops.toArray false).wpIn (Fence.wide.inRound l) n P Q a w:=
 wpIn_region_lit (wpList_in l hL ops (fun o ho=>noDefer_of hd o (by simpa using ho)) a w h)
end
theorem wpList_load_want {P:Program} {ops:Array Oper} {rest:List Oper} {op:Oper} {a:Act} {w:World} {Q:Exit→Act→World→Prop} (hw:Region.wanted op (yielded ops a.tmps)=true) (ty:TypeId) (x:Operand) (ho:op.op=.load ty x)
  (b o:Nat) (hx:a.eval x=.pointer (some ⟨b,o,none⟩)) (cs:List Value) (d:TypeDesc) (hc:w.rangeAt b o cs)
  (hu:P.underlying ty=some d) (hd:d.isRow=true) (hi:(P.info? ty).map (·.size)=some cs.length)
  (h:wpList P ops Q rest (a.put op.dst (.agg cs.toArray)) w):wpList P ops Q (op::rest) a w:=by
 unfold wpList
 rw[if_pos hw]
 exact .inl (wp_load_mid ty x ho b o hx cs d hc hu hd hi h)
theorem rt7 (l0 n:Nat) {W:World} {b6 b7 pb:Nat} {fl:Int} {lf:Bool} {v0 v1 v2 v3 v4 v5 v6 v7 v8 v9 v10 v11 v12 v13 v14 v15 v16 v17 E:Value}
  (hc6:W.heap[b6]?=some (.cells #[.int .i64 fl] 3 (0,0))) (hrP:W.rangeAt pb 0 [v0,v1,v2,v3,v4,v5,v6,v7,v8,v9,v10,v11,v12,v13,v14,v15,v16,v17])
  (hN:∀ V,Below W.heap.size W V→Calls Tryz.prog 25 #[.agg #[v0,v1,v2,v3,v4,v5,v6,v7,v8,v9,v10,v11,v12,v13,v14,v15,v16,v17]] V fun e V'=>e=.returned (.bool lf)∧Below V.heap.size V V')
  {Q:Exit→Act→World→Prop} (hL:¬ LetsOut Q) (u0 u1 u2 u3 u4 u5 u10 u11 u12 u13 u14 u15 u16 u17 u18 u19 u20 u21 u22 u23 u24 u25 u26 u27 u28 u29 u30 u31 u32 u33 u34 u35 u36 u37 u38 u39 u40 u41 u42 u43 u44 u45 u46 u47 u48 u49 u50 u51 u52 u53 u54 u55 u56 u57 u58 u59:Value)
  (hQ:∀ (x17 x18 x19 x20 x21:Value) (w':World),Below W.heap.size W w'→Q .normal ⟨#[u0,u1,u2,u3,u4,u5,.pointer (some ⟨b6,0,none⟩),.pointer (some ⟨b7,0,none⟩),.pointer (some ⟨pb,0,none⟩),E,u10,u11,u12,u13,u14,u15,u16,x17,x18,x19,x20,x21,.bool (fl==0&&lf),u23,u24,u25,u26,u27,u28,u29,u30,u31,u32,u33,u34,u35,u36,u37,u38,u39,u40,u41,u42,u43,u44,u45,u46,u47,u48,u49,u50,u51,u52,u53,u54,u55,u56,u57,u58,u59],[]⟩ w') :
  (atC Tryz.f11 [1,2,1,1,1,1,0,1,2,2,2,0,0]).wpIn (Fence.wide.inRound l0) n Tryz.prog Q ⟨#[u0,u1,u2,u3,u4,u5,.pointer (some ⟨b6,0,none⟩),.pointer (some ⟨b7,0,none⟩),.pointer (some ⟨pb,0,none⟩),E,u10,u11,u12,u13,u14,u15,u16,u17,u18,u19,u20,u21,u22,u23,u24,u25,u26,u27,u28,u29,u30,u31,u32,u33,u34,u35,u36,u37,u38,u39,u40,u41,u42,u43,u44,u45,u46,u47,u48,u49,u50,u51,u52,u53,u54,u55,u56,u57,u58,u59],[]⟩ W:=by
 conv=>arg 4;whnf
 refine regionIn_of l0 (by kernel_rfl) hL ?_
 have c6:=cell_rowL hc6
 replace hQ:=hidT hQ
 replace hN:=hidT (hN W (qB _ _))
 replace hrP:=hidT (fun (V:World) (_:V=W)=>hrP)
 clear hc6
 by_cases h0:fl=0
 ·have d0:(fl==0)=true:=by simp[h0]
  rw[d0] at hQ
  clear h0
  go_wp2_with (first|(refine wpList_load_want (by rfl) 86 (.tmp 8) rfl pb 0 rfl [v0,v1,v2,v3,v4,v5,v6,v7,v8,v9,v10,v11,v12,v13,v14,v15,v16,v17] _ (hrP.out _ rfl) Tryz.underlying86 rfl Tryz.infoSpotG ?_)|fail)
  refine hN.out.mono ?_
  rintro e w1 ⟨rfl,hb1⟩
  replace hb1:=hidT hb1
  rw[Bool.true_and] at hQ
  cases lf
  all_goals
   go_wp2
   exact hQ.out _ _ _ _ _ w1 hb1.out
 ·have d0:(fl==0)=false:=by simp[h0]
  rw[d0,Bool.false_and] at hQ
  clear h0
  go_wp2
  exact hQ.out _ _ _ _ _ W (qB _ _)
theorem eqNilT (w:World):(binOp .eql 38 .nilIface .nilIface).run Tryz.prog w=.ok (.bool true) w:=by kernel_rfl
theorem eqErrT (e:Int) (w:World):(binOp .eql 38 (.iface 62 (.int .i64 e)) .nilIface).run Tryz.prog w=.ok (.bool false) w:=by kernel_rfl
theorem range_on {w w':World} {b o:Nat} {cs:List Value} (h:w.rangeAt b o cs) (hb:Below w.heap.size w w'):w'.rangeAt b o cs:=fun j u hu=>(World.cell?_of_block (a:=⟨b,o+j,none⟩) (hb.block _ (qF _ _ (h j u hu)))).trans (h j u hu)
theorem heap_on {w w':World} {b:Nat} {o:Obj} (h:w.heap[b]?=some o) (hb:Below w.heap.size w w'):w'.heap[b]?=some o:=(hb.block _ (qA h)).trans h
theorem rt9 (l0 n:Nat) {W:World} {b6 b7 pb:Nat} {fl:Int} {rb b1 b2 b3 b4:Bool} {v0 v1 v2 v3 v4 v5 v6 v7 v8 v9 v10 v11 v12 v13 v14 v15 v16 v17 E:Value}
  (hc6:W.heap[b6]?=some (.cells #[.int .i64 fl] 3 (0,0))) (hc7:W.heap[b7]?=some (.cells #[.bool rb] 4 (0,0))) (hrP:W.rangeAt pb 0 [v0,v1,v2,v3,v4,v5,v6,v7,v8,v9,v10,v11,v12,v13,v14,v15,v16,v17])
  (hE:(b1=true∧E=.nilIface)∨(b1=false∧∃ x,E=.iface 62 (.int .i64 x)))
  (hF:∀ V,Below W.heap.size W V→Calls Tryz.prog 26 #[.agg #[v0,v1,v2,v3,v4,v5,v6,v7,v8,v9,v10,v11,v12,v13,v14,v15,v16,v17]] V fun e V'=>e=.returned (.bool b2)∧Below V.heap.size V V')
  (hI:∀ V,Below W.heap.size W V→Calls Tryz.prog 27 #[.agg #[v0,v1,v2,v3,v4,v5,v6,v7,v8,v9,v10,v11,v12,v13,v14,v15,v16,v17]] V fun e V'=>e=.returned (.bool b3)∧Below V.heap.size V V')
  (hO:∀ V,Below W.heap.size W V→Calls Tryz.prog 28 #[.agg #[v0,v1,v2,v3,v4,v5,v6,v7,v8,v9,v10,v11,v12,v13,v14,v15,v16,v17],.int .i64 fl] V fun e V'=>e=.returned (.bool b4)∧Below V.heap.size V V')
  {Q:Exit→Act→World→Prop} (hL:¬ LetsOut Q) (u0 u1 u2 u3 u4 u5 u10 u11 u12 u13 u14 u15 u16 u17 u18 u19 u20 u21 u22 u23 u24 u25 u26 u27 u28 u29 u30 u31 u32 u33 u34 u35 u36 u37 u38 u39 u40 u41 u42 u43 u44 u45 u46 u47 u48 u49 u50 u51 u52 u53 u54 u55 u56 u57 u58 u59:Value)
  (hQ:∀ (x25 x26 x27 x28 x29 x30 x31 x32 x33 x34 x35 x36 x37 x38 x39:Value) (w':World),Below W.heap.size W w'→Q .normal ⟨#[u0,u1,u2,u3,u4,u5,.pointer (some ⟨b6,0,none⟩),.pointer (some ⟨b7,0,none⟩),.pointer (some ⟨pb,0,none⟩),E,u10,u11,u12,u13,u14,u15,u16,u17,u18,u19,u20,u21,u22,u23,u24,x25,x26,x27,x28,x29,x30,x31,x32,x33,x34,x35,x36,x37,x38,x39,u40,u41,u42,u43,u44,u45,u46,u47,u48,u49,u50,u51,u52,u53,u54,u55,u56,u57,u58,u59],[]⟩ (w'.setCell ⟨b7,0,none⟩ (.bool (b1&&(b2&&(b3&&b4)))))) :
  (atC Tryz.f11 [1,2,1,1,1,1,0,1,2,2,2,1,0]).wpIn (Fence.wide.inRound l0) n Tryz.prog Q ⟨#[u0,u1,u2,u3,u4,u5,.pointer (some ⟨b6,0,none⟩),.pointer (some ⟨b7,0,none⟩),.pointer (some ⟨pb,0,none⟩),E,u10,u11,u12,u13,u14,u15,u16,u17,u18,u19,u20,u21,u22,u23,u24,u25,u26,u27,u28,u29,u30,u31,u32,u33,u34,u35,u36,u37,u38,u39,u40,u41,u42,u43,u44,u45,u46,u47,u48,u49,u50,u51,u52,u53,u54,u55,u56,u57,u58,u59],[]⟩ W:=by
 conv=>arg 4;whnf
 refine regionIn_of l0 (by kernel_rfl) hL ?_
 replace hQ:=hidT hQ
 replace hF:=hidT hF
 replace hI:=hidT hI
 replace hO:=hidT hO
 replace hrP:=hidT hrP
 replace hc6:=hidT hc6
 have c7:=cell_rowL hc7
 have f7:=frozen_rowL hc7
 have n1:=eqNilT
 have n2:=eqErrT
 rcases hE with ⟨rfl,rfl⟩|⟨rfl,x,rfl⟩
 rotate_left
 ·rw[Bool.false_and] at hQ
  clear hF hI hO hrP hc6
  go_wp2
  exact hQ.out _ _ _ _ _ _ _ _ _ _ _ _ _ _ _ W (qB _ _)
 rw[Bool.true_and] at hQ
 go_wp2_with (first|(refine wpList_load_want (by rfl) 86 (.tmp 8) rfl pb 0 rfl [v0,v1,v2,v3,v4,v5,v6,v7,v8,v9,v10,v11,v12,v13,v14,v15,v16,v17] _ hrP.out Tryz.underlying86 rfl Tryz.infoSpotG ?_)|fail)
 refine (hF.out W (qB _ _)).mono ?_
 rintro e w1 ⟨rfl,h1⟩
 have r1:=hidT (range_on hrP.out h1)
 have k7:=heap_on hc7 h1
 clear c7 f7 hF
 have c7:=cell_rowL k7
 have f7:=frozen_rowL k7
 cases b2 with
 | false=>
   rw[Bool.false_and] at hQ
   replace h1:=hidT h1
   clear hI hO hrP hc6
   go_wp2
   exact hQ.out _ _ _ _ _ _ _ _ _ _ _ _ _ _ _ w1 h1.out
 | true=>
 rw[Bool.true_and] at hQ
 replace h1:=hidT h1
 go_wp2_with (first|(refine wpList_load_want (by rfl) 86 (.tmp 8) rfl pb 0 rfl [v0,v1,v2,v3,v4,v5,v6,v7,v8,v9,v10,v11,v12,v13,v14,v15,v16,v17] _ r1.out Tryz.underlying86 rfl Tryz.infoSpotG ?_)|fail)
 refine (hI.out w1 h1.out).mono ?_
 rintro e w2 ⟨rfl,h2⟩
 have hb2:=hidT (h1.out.trans (h2.mono h1.out.size))
 have r2:=hidT (range_on r1.out h2)
 have k72:=heap_on k7 h2
 clear c7 f7 hI r1 h2
 have c7:=cell_rowL k72
 have f7:=frozen_rowL k72
 have c6:=cell_rowL (heap_on hc6.out hb2.out)
 cases b3 with
 | false=>
   rw[Bool.false_and] at hQ
   clear hO hrP hc6 c6
   go_wp2
   exact hQ.out _ _ _ _ _ _ _ _ _ _ _ _ _ _ _ w2 hb2.out
 | true=>
 rw[Bool.true_and] at hQ
 go_wp2_with (first|(refine wpList_load_want (by rfl) 86 (.tmp 8) rfl pb 0 rfl [v0,v1,v2,v3,v4,v5,v6,v7,v8,v9,v10,v11,v12,v13,v14,v15,v16,v17] _ r2.out Tryz.underlying86 rfl Tryz.infoSpotG ?_)|fail)
 refine (hO.out w2 hb2.out).mono ?_
 rintro e w3 ⟨rfl,h3⟩
 have hb3:=hidT (hb2.out.trans (h3.mono hb2.out.size))
 have k73:=heap_on k72 h3
 clear c7 f7 c6 hO h3
 have c7:=cell_rowL k73
 have f7:=frozen_rowL k73
 go_wp2
 exact hQ.out _ _ _ _ _ _ _ _ _ _ _ _ _ _ _ w3 hb3.out
end
section
open Go.RowKit Go.Shelf
open H (Up mergeL RowAt)
attribute [local go_sem] Oper.semAt_some
theorem row_set {w:World} {ao:Option Addr} {cap b:Nat} {l:List Int} {x y:Bool} (h:RowAt w ao cap l) (hb:w.heap[b]?=some (.cells #[.bool x] 4 (0,0))):RowAt (w.setCell ⟨b,0,none⟩ (.bool y)) ao cap l:=
 ⟨h.room,h.bare,h.plain,fun i hi=>by
  obtain⟨b',o,e,hc⟩:=h.cells i hi
  refine⟨b',o,e,(World.cell?_of_block (a:=⟨b',o+i,none⟩) (qD _ _ _ _ (show b'≠b from fun eb=>?_))).trans hc⟩
  rw[eb,cell_rowL hb] at hc
  match o+i,hc with
  | 0,hc=>simp at hc⟩
theorem heap_set1 {w:World} {b:Nat} {x v:Value} {T:TypeId} (h:w.heap[b]?=some (.cells #[x] T (0,0))):(w.setCell ⟨b,0,none⟩ v).heap[b]?=some (.cells #[v] T (0,0)):=heap_setCell_same w b 0 _ T v h
theorem rt11 (l0 n:Nat) {W:World} {b5 b7 pb cap:Nat} {ao:Option Addr} {met:List Int} {id:Int} {rb:Bool} {v0 v1 v2 v3 v4 v5 v6 v7 v8 v9 v10 v11 v12 v13 v14 v15 v16 v17:Value}
  (hc5:W.heap[b5]?=some (.cells #[.slice ao met.length cap] 32 (0,0))) (hc7:W.heap[b7]?=some (.cells #[.bool rb] 4 (0,0))) (hrP:W.rangeAt pb 0 [v0,v1,v2,v3,v4,v5,v6,v7,v8,v9,v10,v11,v12,v13,v14,v15,v16,v17]) (hrow:RowAt W ao cap met) (hup:Up met) (hlm:met.length≤700)
  (hN:Calls Tryz.prog 29 #[.agg #[v0,v1,v2,v3,v4,v5,v6,v7,v8,v9,v10,v11,v12,v13,v14,v15,v16,v17]] W fun e V'=>∃ g,e=.returned (.slice (some ⟨g,0,none⟩) 1 1)∧W.heap.size≤g∧V'.heap[g]?=some (.cells #[.int .i64 id] 3 (0,0))∧Below W.heap.size W V')
  {Q:Exit→Act→World→Prop} (u0 u1 u2 u3 u4 u6 u9 u10 u11 u12 u13 u14 u15 u16 u17 u18 u19 u20 u21 u22 u23 u24 u25 u26 u27 u28 u29 u30 u31 u32 u33 u34 u35 u36 u37 u38 u39 u40 u41 u42 u43 u44 u45 u46 u47 u48 u49 u50 u51 u52 u53 u54 u55 u56 u57 u58 u59:Value)
  (hQe:met.contains id=true→∀ (x11 x42 x43 x44 x45 x46 x47 x48 x49 x50 x51 x52 x53 x54 x55 x56 x57 x58:Value) (w':World),Below W.heap.size W w'→Q (.exit 0) ⟨#[u0,u1,u2,u3,u4,.pointer (some ⟨b5,0,none⟩),u6,.pointer (some ⟨b7,0,none⟩),.pointer (some ⟨pb,0,none⟩),u9,u10,x11,u12,u13,u14,u15,u16,u17,u18,u19,u20,u21,u22,u23,u24,u25,u26,u27,u28,u29,u30,u31,u32,u33,u34,u35,u36,u37,u38,u39,u40,u41,x42,x43,x44,x45,x46,x47,x48,x49,x50,x51,x52,x53,x54,x55,x56,x57,x58,u59],[]⟩ (w'.setCell ⟨b7,0,none⟩ (.bool false)))
  (hQn:met.contains id=false→∀ (x11 x42 x43 x44 x45 x46 x47 x48 x49 x50 x51 x52 x53 x54 x55 x56 x57 x58:Value) (u:Value) (w':World),W.grownBy w' (some b7)→w'.heap[b7]?=some (.cells #[.bool true] 4 (0,0))→H.OwnInts w' W.heap.size u (mergeL met [id])→Q .normal ⟨#[u0,u1,u2,u3,u4,.pointer (some ⟨b5,0,none⟩),u6,.pointer (some ⟨b7,0,none⟩),.pointer (some ⟨pb,0,none⟩),u9,u10,x11,u12,u13,u14,u15,u16,u17,u18,u19,u20,u21,u22,u23,u24,u25,u26,u27,u28,u29,u30,u31,u32,u33,u34,u35,u36,u37,u38,u39,u40,u41,x42,x43,x44,x45,x46,x47,x48,x49,x50,x51,x52,x53,x54,x55,x56,x57,x58,u59],[]⟩ (w'.setCell ⟨b5,0,none⟩ u)) :
  (atC Tryz.f11 [1,2,1,1,1,1,0,1,2,2,2,1,1,1]).wpIn (Fence.wide.inRound l0) n Tryz.prog Q ⟨#[u0,u1,u2,u3,u4,.pointer (some ⟨b5,0,none⟩),u6,.pointer (some ⟨b7,0,none⟩),.pointer (some ⟨pb,0,none⟩),u9,u10,u11,u12,u13,u14,u15,u16,u17,u18,u19,u20,u21,u22,u23,u24,u25,u26,u27,u28,u29,u30,u31,u32,u33,u34,u35,u36,u37,u38,u39,u40,u41,u42,u43,u44,u45,u46,u47,u48,u49,u50,u51,u52,u53,u54,u55,u56,u57,u58,u59],[]⟩ W:=by
 conv=>arg 4;whnf
 replace hQe:=hidT hQe
 replace hQn:=hidT hQn
 replace hc5:=hidT hc5
 replace hc7:=hidT hc7
 replace hrow:=hidT hrow
 replace hup:=hidT hup
 replace hlm:=hidT hlm
 gi_wp2_with (first|(refine wpListIn_load_mid rfl 86 (.tmp 8) rfl pb 0 rfl [v0,v1,v2,v3,v4,v5,v6,v7,v8,v9,v10,v11,v12,v13,v14,v15,v16,v17] _ hrP Tryz.underlying86 rfl Tryz.infoSpotG ?_)|fail)
 refine⟨trivial,nofun,(CallsIn.inRound l0 (callsIn_wide.2 hN)).mono ?_⟩
 rintro e w1 ⟨g,rfl,hg,hh,hb1⟩
 have i0:∀ V,(Instr.indexAt 32 (.slice (some ⟨g,0,none⟩) 1 1) (.int .i64 0)).run Tryz.prog V=.ok (.pointer (some ⟨g,0,none⟩)) V:=fun V=>by kernel_rfl
 have cg:=cell_rowL hh
 replace hb1:=hidT hb1
 have k51:=hidT (heap_on hc5.out hb1.out)
 have k71:=hidT (heap_on hc7.out hb1.out)
 have c5:=cell_rowL k51.out
 have c7:=cell_rowL k71.out
 have f7:=frozen_rowL k71.out
 clear hN hrP
 gi_wp2
 gi_loopg [45] 1 (fun gk iv wr=>(gk=1∧iv=.int .i64 0∧wr=w1)∨(gk=0∧iv=.int .i64 1∧Hid (met.contains id=false)∧∃ (w0:World) (u:Value),wr=w0.setCell ⟨b5,0,none⟩ u∧Hid (W.grownBy w0 (some b7))∧Hid (w0.heap[b7]?=some (.cells #[.bool true] 4 (0,0)))∧Hid (H.OwnInts w0 W.heap.size u (mergeL met [id]))))
 case atStart=>exact .inl ⟨rfl,rfl,rfl⟩
 case round=>
  rcases hrel with ⟨rfl,rfl,rfl⟩|⟨rfl,rfl,hcn,w0,u,rfl,h1,h2,h3⟩
  rotate_left
  ·clear c5 c7 f7 cg i0 k51 k71 hc5 hc7 hrow hup hlm hb1 hh hg hQe
   gi_wp2
   exact hQn.out hcn.out _ _ _ _ _ _ _ _ _ _ _ _ _ _ _ _ _ _ u w0 h1.out h2.out h3.out
  ·have bW:=hb1.out
   have hne:b5≠b7:=by
    intro e
    have x5:=hc5.out
    have x7:=hc7.out
    rw[e,x7] at x5
    cases x5
   have hrow1:=hidT (hrow.out.below hb1.out qL)
   gi_wp2
   refine⟨trivial,nofun,(CallsIn.inRound l0 (callsIn_wide.2 (H.has_any7 met id ao cap _ rfl wr hrow1.out (by have:=hlm.out;omega) hup.out))).mono ?_⟩
   rintro e w2 ⟨rfl,hb2⟩
   have k52:=hidT (heap_on k51.out hb2)
   have k72:=hidT (heap_on k71.out hb2)
   have bW2:=hidT (bW.trans (hb2.mono bW.size))
   have hrow2:=hidT (hrow1.out.below hb2 qL)
   clear c5 c7 f7 cg i0 k51 k71 hc5 hc7 hrow hb1 hrow1 hh hg bW hb2
   have c7:=cell_rowL k72.out
   have f7:=frozen_rowL k72.out
   cases hc:met.contains id with
   | true=>
     replace hQe:=hidT (hQe.out hc)
     clear hQn k52 hrow2 hup hlm
     gi_wp2
     exact hQe.out _ _ _ _ _ _ _ _ _ _ _ _ _ _ _ _ _ _ w2 bW2.out
   | false=>
     clear hQe
     have l5:=(qA k52.out)
     have k53:(w2.setCell ⟨b7,0,none⟩ (.bool true)).heap[b5]?=some (.cells #[.slice ao met.length cap] 32 (0,0)):=(qD _ _ _ _ hne).trans k52.out
     have k73:=hidT (heap_set1 k72.out (v:=.bool true))
     have c5:=cell_rowL k53
     have f5:=frozen_rowL k53
     replace k53:=hidT k53
     have hrow3:=hidT (row_set hrow2.out k72.out (y:=true))
     clear k52 l5
     have hcn:=hidT hc
     gi_wp2
     refine⟨trivial,nofun,(CallsIn.inRound l0 (callsIn_wide.2 (H.with_any7 met id ao cap _ rfl _ hrow3.out (by have:=hlm.out;omega)))).mono ?_⟩
     rintro e w3 ⟨u,rfl,hu,hb3⟩
     obtain⟨uo,uc,rfl,_⟩:=H.RowAt.own hu
     have zs:(w2.setCell ⟨b7,0,none⟩ (.bool true)).heap.size=w2.heap.size:=by simp[World.setCell]
     have k54:=hidT (heap_on k53.out hb3)
     have k74:=hidT (heap_on k73.out hb3)
     have hg0:W.grownBy (w2.setCell ⟨b7,0,none⟩ (.bool true)) (some b7):=⟨bW2.out.os,bW2.out.tape,bW2.out.output,by rw[zs];exact bW2.out.size,fun j hj hn=>(qD _ _ _ _ (fun e=>hn (by rw[e]))).trans (bW2.out.block j hj)⟩
     have hg3:=hidT (show W.grownBy w3 (some b7) from ⟨hb3.os.trans hg0.os,hb3.tape.trans hg0.tape,hb3.output.trans hg0.output,qN hg0.size hb3.size,fun j hj hn=>(hb3.block j (qM hj hg0.size)).trans (hg0.block j hj hn)⟩)
     have hu3:=hidT (hu.mono hg0.size)
     clear c5 f5 c7 f7 hg0 hu hb3 k53 k73 hrow3 hrow2 k72 bW2
     have c5:=cell_rowL k54.out
     have f5:=frozen_rowL k54.out
     gi_wp2
     gi_roundg 0
     case measure=>omega
     case rel=>exact .inr ⟨rfl,rfl,hcn,w3,_,rfl,hg3,k74,hu3⟩
end
section
open Go.RowKit Go.Shelf
open H (Up mergeL RowAt)
attribute [local go_sem] Oper.semAt_some
theorem rt78 (l0 n:Nat) {W:World} {b6 b7 pb:Nat} {fl dep:Int} {lf:Bool} {v0 v2 v3 v4 v5 v6 v7 v8 v9 v10 v11 v12 v13 v14 v15 v16 v17 E:Value}
  (hc6:W.heap[b6]?=some (.cells #[.int .i64 fl] 3 (0,0))) (hbox:W.heap[pb]?=some (.cells #[v0,.int .i64 dep,v2,v3,v4,v5,v6,v7,v8,v9,v10,v11,v12,v13,v14,v15,v16,v17] 86 (0,0)))
  (hN:∀ V,Below W.heap.size W V→Calls Tryz.prog 25 #[.agg #[v0,.int .i64 dep,v2,v3,v4,v5,v6,v7,v8,v9,v10,v11,v12,v13,v14,v15,v16,v17]] V fun e V'=>e=.returned (.bool lf)∧Below V.heap.size V V')
  {Q:Exit→Act→World→Prop} (hL:¬ LetsOut Q) (u0 u1 u2 u3 u4 u5 u10 u11 u12 u13 u14 u15 u16 u17 u18 u19 u20 u21 u22 u23 u24 u25 u26 u27 u28 u29 u30 u31 u32 u33 u34 u35 u36 u37 u38 u39 u40 u41 u42 u43 u44 u45 u46 u47 u48 u49 u50 u51 u52 u53 u54 u55 u56 u57 u58 u59:Value)
  (hQ:∀ (x17 x18 x19 x20 x21 x22 x23 x24:Value) (w':World),W.grownBy w' (some b6)→w'.heap[b6]?=some (.cells #[.int .i64 (if (fl==0&&lf)=true then dep else fl)] 3 (0,0))→Q .normal ⟨#[u0,u1,u2,u3,u4,u5,.pointer (some ⟨b6,0,none⟩),.pointer (some ⟨b7,0,none⟩),.pointer (some ⟨pb,0,none⟩),E,u10,u11,u12,u13,u14,u15,u16,x17,x18,x19,x20,x21,x22,x23,x24,u25,u26,u27,u28,u29,u30,u31,u32,u33,u34,u35,u36,u37,u38,u39,u40,u41,u42,u43,u44,u45,u46,u47,u48,u49,u50,u51,u52,u53,u54,u55,u56,u57,u58,u59],[]⟩ w') :
  (atC Tryz.f11 [1,2,1,1,1,1,0,1,2,2,2,0]).wpIn (Fence.wide.inRound l0) n Tryz.prog Q ⟨#[u0,u1,u2,u3,u4,u5,.pointer (some ⟨b6,0,none⟩),.pointer (some ⟨b7,0,none⟩),.pointer (some ⟨pb,0,none⟩),E,u10,u11,u12,u13,u14,u15,u16,u17,u18,u19,u20,u21,u22,u23,u24,u25,u26,u27,u28,u29,u30,u31,u32,u33,u34,u35,u36,u37,u38,u39,u40,u41,u42,u43,u44,u45,u46,u47,u48,u49,u50,u51,u52,u53,u54,u55,u56,u57,u58,u59],[]⟩ W:=by
 conv=>arg 4;whnf
 refine wpIn_seq_k fun K hK=>?_
 replace hK:=hidT hK
 replace hQ:=hidT hQ
 refine rt7 l0 n (Q:=Exit.then K Q) hc6 (range_box (cs:=[v0,.int .i64 dep,v2,v3,v4,v5,v6,v7,v8,v9,v10,v11,v12,v13,v14,v15,v16,v17]) hbox) hN (fun h=>hL h) u0 u1 u2 u3 u4 u5 u10 u11 u12 u13 u14 u15 u16 u17 u18 u19 u20 u21 u22 u23 u24 u25 u26 u27 u28 u29 u30 u31 u32 u33 u34 u35 u36 u37 u38 u39 u40 u41 u42 u43 u44 u45 u46 u47 u48 u49 u50 u51 u52 u53 u54 u55 u56 u57 u58 u59 ?_
 intro x17 x18 x19 x20 x21 w1 hb1
 refine hK.out _ _ ?_
 have k6:=heap_on hc6 hb1
 have kp:=heap_on hbox hb1
 have bW:=hidT hb1
 clear hK hN hc6 hbox hb1
 cases hb:(fl==0&&lf) with
 | false=>
   rw[hb] at hQ
   simp only[Bool.false_eq_true,if_false] at hQ
   clear hb
   replace k6:=hidT k6
   gi_wp2
   exact hQ.out _ _ _ _ _ _ _ _ w1 ⟨bW.out.os,bW.out.tape,bW.out.output,bW.out.size,fun j hj _=>bW.out.block j hj⟩ k6.out
 | true=>
   rw[hb] at hQ
   simp only[if_true] at hQ
   clear hb
   have c6:=cell_rowL k6
   have f6:=frozen_rowL k6
   have c8:=cell_rowL kp
   replace k6:=hidT k6
   clear kp
   gi_wp2
   exact hQ.out _ _ _ _ _ _ _ _ _ ⟨bW.out.os,bW.out.tape,bW.out.output,by simp[World.setCell];exact bW.out.size,fun j hj hn=>(Below.heap_setCell _ _ _ _ (show j≠b6 from fun e=>hn (by rw[e]))).trans (bW.out.block j hj)⟩ (heap_set1 k6.out)
theorem rt10 (l0 n:Nat) {W:World} {b5 b7 pb cap:Nat} {ao:Option Addr} {met:List Int} {id:Int} {rb:Bool} {v0 v1 v2 v3 v4 v5 v6 v7 v8 v9 v10 v11 v12 v13 v14 v15 v16 v17:Value}
  (hc5:W.heap[b5]?=some (.cells #[.slice ao met.length cap] 32 (0,0))) (hc7:W.heap[b7]?=some (.cells #[.bool rb] 4 (0,0))) (hrP:W.rangeAt pb 0 [v0,v1,v2,v3,v4,v5,v6,v7,v8,v9,v10,v11,v12,v13,v14,v15,v16,v17]) (hrow:RowAt W ao cap met) (hup:Up met) (hlm:met.length≤700)
  (hN:Calls Tryz.prog 29 #[.agg #[v0,v1,v2,v3,v4,v5,v6,v7,v8,v9,v10,v11,v12,v13,v14,v15,v16,v17]] W fun e V'=>∃ g,e=.returned (.slice (some ⟨g,0,none⟩) 1 1)∧W.heap.size≤g∧V'.heap[g]?=some (.cells #[.int .i64 id] 3 (0,0))∧Below W.heap.size W V')
  {Q:Exit→Act→World→Prop} (u0 u1 u2 u3 u4 u6 u9 u10 u11 u12 u13 u14 u15 u16 u17 u18 u19 u20 u21 u22 u23 u24 u25 u26 u27 u28 u29 u30 u31 u32 u33 u34 u35 u36 u37 u38 u39 u40 u41 u42 u43 u44 u45 u46 u47 u48 u49 u50 u51 u52 u53 u54 u55 u56 u57 u58 u59:Value)
  (hQe:(rb&&!met.contains id)=false→∀ (x11 x40 x41 x42 x43 x44 x45 x46 x47 x48 x49 x50 x51 x52 x53 x54 x55 x56 x57 x58:Value) (w':World),W.grownBy w' (some b7)→w'.heap[b7]?=some (.cells #[.bool false] 4 (0,0))→Q (.exit 0) ⟨#[u0,u1,u2,u3,u4,.pointer (some ⟨b5,0,none⟩),u6,.pointer (some ⟨b7,0,none⟩),.pointer (some ⟨pb,0,none⟩),u9,u10,x11,u12,u13,u14,u15,u16,u17,u18,u19,u20,u21,u22,u23,u24,u25,u26,u27,u28,u29,u30,u31,u32,u33,u34,u35,u36,u37,u38,u39,x40,x41,x42,x43,x44,x45,x46,x47,x48,x49,x50,x51,x52,x53,x54,x55,x56,x57,x58,u59],[]⟩ w')
  (hQn:(rb&&!met.contains id)=true→∀ (x11 x40 x41 x42 x43 x44 x45 x46 x47 x48 x49 x50 x51 x52 x53 x54 x55 x56 x57 x58:Value) (u:Value) (w':World),W.grownBy w' (some b7)→w'.heap[b7]?=some (.cells #[.bool true] 4 (0,0))→H.OwnInts w' W.heap.size u (mergeL met [id])→Q .normal ⟨#[u0,u1,u2,u3,u4,.pointer (some ⟨b5,0,none⟩),u6,.pointer (some ⟨b7,0,none⟩),.pointer (some ⟨pb,0,none⟩),u9,u10,x11,u12,u13,u14,u15,u16,u17,u18,u19,u20,u21,u22,u23,u24,u25,u26,u27,u28,u29,u30,u31,u32,u33,u34,u35,u36,u37,u38,u39,x40,x41,x42,x43,x44,x45,x46,x47,x48,x49,x50,x51,x52,x53,x54,x55,x56,x57,x58,u59],[]⟩ (w'.setCell ⟨b5,0,none⟩ u)) :
  (atC Tryz.f11 [1,2,1,1,1,1,0,1,2,2,2,1,1]).wpIn (Fence.wide.inRound l0) n Tryz.prog Q ⟨#[u0,u1,u2,u3,u4,.pointer (some ⟨b5,0,none⟩),u6,.pointer (some ⟨b7,0,none⟩),.pointer (some ⟨pb,0,none⟩),u9,u10,u11,u12,u13,u14,u15,u16,u17,u18,u19,u20,u21,u22,u23,u24,u25,u26,u27,u28,u29,u30,u31,u32,u33,u34,u35,u36,u37,u38,u39,u40,u41,u42,u43,u44,u45,u46,u47,u48,u49,u50,u51,u52,u53,u54,u55,u56,u57,u58,u59],[]⟩ W:=by
 conv=>arg 4;whnf
 replace hQe:=hidT hQe
 replace hQn:=hidT hQn
 refine wpIn_seq_k fun K hK=>?_
 replace hK:=hidT hK
 have c7:=cell_rowL hc7
 cases rb with
 | false=>
   clear hN hrP hrow hc5 hQn
   replace hc7:=hidT hc7
   gi_wp2
   exact hQe.out (by simp) _ _ _ _ _ _ _ _ _ _ _ _ _ _ _ _ _ _ _ _ W (World.grownBy.refl _ _) hc7.out
 | true=>
   rw[Bool.true_and] at hQe hQn
   replace hc7:=hidT hc7
   replace hc5:=hidT hc5
   replace hrow:=hidT hrow
   replace hrP:=hidT hrP
   replace hN:=hidT hN
   gi_wp2
   refine hK.out _ _ ?_
   refine rt11 l0 n hc5.out hc7.out hrP.out hrow.out hup hlm hN.out _ _ _ _ _ _ _ _ _ _ _ _ _ _ _ _ _ _ _ _ _ _ _ _ _ _ _ _ _ _ _ _ _ _ _ _ _ _ _ _ _ _ _ _ _ _ _ _ _ _ _ _ _ _ _ _ _ ?_ ?_
   ·intro hc x11 x42 x43 x44 x45 x46 x47 x48 x49 x50 x51 x52 x53 x54 x55 x56 x57 x58 w' hb
    exact hQe.out (by simp only[hc,Bool.not_true]) _ _ _ _ _ _ _ _ _ _ _ _ _ _ _ _ _ _ _ _ _ ⟨hb.os,hb.tape,hb.output,by simp[World.setCell];exact hb.size,fun j hj hn=>(Below.heap_setCell _ _ _ _ (show j≠b7 from fun e=>hn (by rw[e]))).trans (hb.block j hj)⟩ (heap_set1 (heap_on hc7.out hb))
   ·intro hc x11 x42 x43 x44 x45 x46 x47 x48 x49 x50 x51 x52 x53 x54 x55 x56 x57 x58 u w' h1 h2 h3
    exact hQn.out (by simp only[hc,Bool.not_false]) _ _ _ _ _ _ _ _ _ _ _ _ _ _ _ _ _ _ _ _ u w' h1 h2 h3
end
section
open Go.RowKit Go.Shelf
open H (Up RowAt mergeL)
attribute [local go_sem] Oper.semAt_some
theorem block_ne {W:World} {i j:Nat} {a b:Array Value} {S T:TypeId} {f g:Nat × Nat} (h1:W.heap[i]?=some (.cells a S f)) (h2:W.heap[j]?=some (.cells b T g)) (h:S≠T):i≠j:=fun e=>by
 rw[e,h2] at h1
 simp only[qQ,qX] at h1
 exact h h1.2.1.symm
structure RightI (X:World) (pre:List SpotD) (W:World):Prop where
 a5:∃ v,W.heap[X.heap.size]?=some (.cells #[v] 32 (0,0))∧H.OwnInts W (X.heap.size+5) v (stR pre).2
 a6:W.heap[X.heap.size+1]?=some (.cells #[.int .i64 (stR pre).1] 3 (0,0))
 a7:W.heap[X.heap.size+2]?=some (.cells #[.bool true] 4 (0,0))
 ok:∀ rest,rightFrom 0 [] (pre++rest)=rightFrom (stR pre).1 (stR pre).2 rest
 bel:Below X.heap.size X W
 big:X.heap.size+5≤W.heap.size
structure RightX (X:World) (pre:List SpotD) (W:World):Prop where
 a7:W.heap[X.heap.size+2]?=some (.cells #[.bool false] 4 (0,0))
 no:∀ rest,rightFrom 0 [] (pre++rest)=false
 bel:Below X.heap.size X W
theorem RightI.turn {X:World} {pre:List SpotD} {W W':World} (h:RightI X pre W) {lo:Nat} (ht:Turn lo W W') (hl:X.heap.size≤lo):RightI X pre W':=by
 obtain⟨v,h1,h4⟩:=h.a5
 exact⟨⟨v,ht.cells h1,owns_kept h4 ht⟩,ht.cells h.a6,ht.cells h.a7,h.ok,ht.bel h.bel hl h.bel.size,qN h.big ht.size⟩
theorem RightX.turn {X:World} {pre:List SpotD} {W W':World} (h:RightX X pre W) {lo:Nat} (ht:Turn lo W W') (hl:X.heap.size≤lo):RightX X pre W':=
 ⟨ht.cells h.a7,h.no,ht.bel h.bel hl h.bel.size⟩
theorem rightT_any {w0 X:World} {sb mb fb:Nat} {s:StD} {L:List F.Sh} (hSf:Sf w0 X sb mb fb s L) (hL:ShOk L) (root:Int) (hr:InI root) (hsh:(spotsD (readS s L) root).length≤600) (hv:∀ x∈spotsD (readS s L) root,∀ it∈x.page.items,it.kind=1) :
  Calls Tryz.prog 11 #[.pointer (some ⟨sb,0,none⟩),.int .i64 root] X fun e Y=>e=.returned (.bool (rightFrom 0 [] (spotsD (readS s L) root)))∧Below X.heap.size X Y:=by
 have hT:=hidT (fun b1 b2 w hw h1 h2=>spots_tells hSf hL root hr b1 b2 8 w hw h1 h2)
 obtain⟨S,hS⟩:∃ S,S=spotsD (readS s L) root:=⟨_,rfl⟩
 have hfew:Hid (∀ x∈spotsD (readS s L) root,x.page.items.length≤4∧x.page.kids.length≤4∧(x.page.kind=1→1≤x.page.items.length)):=hidT (fun x hx=>spots_shape hx)
 rw[← hS] at hT hsh hv hfew ⊢
 clear hS
 replace hsh:=hidT hsh
 replace hv:=hidT hv
 obtain⟨ans,hans⟩:∃ b,Hid (b=rightFrom 0 [] S):=⟨_,hidT rfl⟩
 rw[← hans.out]
 refine (callsIn_wide (n:=9)).1 ?_
 refine callsIn_of_wp_marks Tryz.func11 rfl trivial ?_ rfl
 simp only[Tryz.ntmps11,List.size_toArray,qV,List.length_nil,Nat.reduceAdd,Nat.reduceSub,Array.replicate_succ,Array.replicate_zero,List.push_toArray,List.append_toArray,List.nil_append,List.cons_append]
 refine wpIn_wide.2 ?_
 go_wp2_with fail
 refine wp_scope_straight ?_
 go_wp2_with fail
 refine wp_label ?_
 go_wp2_with fail
 refine (spots_any sb root _).mono ?_
 rintro e W1 ⟨rfl,hW1⟩
 have h5:=five X (.cells #[.slice none 0 0] 32) (.cells #[.int .i64 0] 3) (.cells #[.bool true] 4) (.cells #[.pointer (some ⟨sb,0,none⟩)] 27) (.cells #[.int .i64 root] 3)
 rw[← hW1] at h5
 obtain⟨p1,p2,p3,p4,p5,p6,p7⟩:=h5
 have hI0:Hid (RightI X [] W1):=hidT ⟨⟨.slice none 0 0,p1,H.OwnInts.nil _ _⟩,p2,p3,fun _=>rfl,p7,by rw[p6];exact Nat.le_refl _⟩
 have hTW:=hidT (hT.out (X.heap.size+4) (X.heap.size+3) W1 p7 p5 p4)
 have hW1s:=hidT p6
 clear p1 p2 p3 p4 p5 p6 p7 hW1 hT
 simp only[World.size_alloc,Nat.add_assoc,Nat.reduceAdd]
 go_wp2
 refine (wpIn_wide (n:=9)).1 ?_
 refine range_tells (At:=AtS) (n0:=Own2 X.heap.size (X.heap.size+4) (X.heap.size+3)) (S:=S) (w0:=W1) rfl (by omega) (gf:=54) (lb:=#[.pointer (some ⟨X.heap.size+4,0,none⟩),.pointer (some ⟨X.heap.size+3,0,none⟩)]) rfl trivial (enters_of Tryz.func54 (by kernel_rfl) rfl) hTW.out (qB _ _) (RightI X) (fun c pre W=>c=.exit 0∧RightX X pre W)
  (fun xs W W' h ht=>h.turn ht (by have:=hW1s.out;omega)) (fun c xs W W' h ht=>⟨h.1,h.2.turn ht (by have:=hW1s.out;omega)⟩) hI0.out
  (fun x args a' W'=>∃ (pb:Nat) (cs:Array Value) (E:Value),args=#[.agg cs,E]∧a'={ tmps:=#[.pointer (some ⟨sb,0,none⟩),.int .i64 root,undef,undef,.bool false,.pointer (some ⟨X.heap.size,0,none⟩),.pointer (some ⟨X.heap.size+1,0,none⟩),.pointer (some ⟨X.heap.size+2,0,none⟩),.pointer (some ⟨pb,0,none⟩),E,undef,undef,.pointer (some ⟨sb,0,none⟩),.int .i64 root,.func (.func 54) #[] #[.pointer (some ⟨X.heap.size+4,0,none⟩),.pointer (some ⟨X.heap.size+3,0,none⟩)],.agg cs,E,undef,undef,undef,undef,undef,undef,undef,undef,undef,undef,undef,undef,undef,undef,undef,undef,undef,undef,undef,undef,undef,undef,undef,undef,undef,undef,undef,undef,undef,undef,undef,undef,undef,undef,undef,undef,undef,undef,undef,undef,undef,undef,undef],defers:=[] }∧W'.heap[pb]?=some (.cells cs 86 (0,0))) ?assign ?body ?done ?stop
 case assign=>
  intro l pre x args B W K hI hAt hK
  obtain⟨u,rfl,hH⟩:=hAt
  have hu:=(hH W ⟨Nat.le_refl _,fun _ _ _=>rfl⟩).slices
  replace hH:=hidT hH
  obtain⟨nr,p,ec⟩:=x
  obtain⟨ui,uk,ud,uv,uf⟩:=u
  obtain⟨⟨ai,ni,ci,rfl⟩,⟨ak,nk,ck,rfl⟩,⟨ad,nd,cd,rfl⟩,⟨av,nv,cv,rfl⟩,⟨af,nf,cf,rfl⟩⟩:=hu
  have hbX:=(qB W.heap.size W).alloc qL (.cells #[.int .i64 nr.id,.int .i64 (nr.depth:Int),.string nr.low,.string nr.high,.int .i64 p.kind,.slice ai ni ci,.slice ak nk ck,.slice ad nd cd,.string p.text,.slice av nv cv,.slice af nf cf,.int .i64 p.next,.int .u64 p.mt.txn,.int .i64 p.mt.main.page,.int .i64 p.mt.main.count,.int .i64 p.mt.main.flags,.int .i64 p.mt.free,.int .i64 p.mt.last] 86)
  have hK2:=hK { tmps:=#[.pointer (some ⟨sb,0,none⟩),.int .i64 root,undef,undef,.bool false,.pointer (some ⟨X.heap.size,0,none⟩),.pointer (some ⟨X.heap.size+1,0,none⟩),.pointer (some ⟨X.heap.size+2,0,none⟩),.pointer (some ⟨W.heap.size,0,none⟩),errV ec,undef,undef,.pointer (some ⟨sb,0,none⟩),.int .i64 root,.func (.func 54) #[] #[.pointer (some ⟨X.heap.size+4,0,none⟩),.pointer (some ⟨X.heap.size+3,0,none⟩)],.agg #[.int .i64 nr.id,.int .i64 (nr.depth:Int),.string nr.low,.string nr.high,.int .i64 p.kind,.slice ai ni ci,.slice ak nk ck,.slice ad nd cd,.string p.text,.slice av nv cv,.slice af nf cf,.int .i64 p.next,.int .u64 p.mt.txn,.int .i64 p.mt.main.page,.int .i64 p.mt.main.count,.int .i64 p.mt.main.flags,.int .i64 p.mt.free,.int .i64 p.mt.last],errV ec,undef,undef,undef,undef,undef,undef,undef,undef,undef,undef,undef,undef,undef,undef,undef,undef,undef,undef,undef,undef,undef,undef,undef,undef,undef,undef,undef,undef,undef,undef,undef,undef,undef,undef,undef,undef,undef,undef,undef,undef,undef,undef,undef],defers:=[] } _ hbX ⟨W.heap.size,_,_,rfl,rfl,heap_newL W _⟩
  clear hK
  rw[show (spotCells nr p ⟨.slice ai ni ci,.slice ak nk ck,.slice ad nd cd,.slice av nv cv,.slice af nf cf⟩).toArray=#[.int .i64 nr.id,.int .i64 (nr.depth:Int),.string nr.low,.string nr.high,.int .i64 p.kind,.slice ai ni ci,.slice ak nk ck,.slice ad nd cd,.string p.text,.slice av nv cv,.slice af nf cf,.int .i64 p.next,.int .u64 p.mt.txn,.int .i64 p.mt.main.page,.int .i64 p.mt.main.count,.int .i64 p.mt.main.flags,.int .i64 p.mt.free,.int .i64 p.mt.last] from rfl]
  gi_wp2
  exact hK2
 case body=>
  intro l pre x args a' W0 W1' Wa W hl hpre hIa hsz hb1 hAt hba hAx hWs hoth hI ht
  obtain⟨pb,cs,E,rfl,rfl,hbox⟩:=hAx
  obtain⟨u,e1,hH⟩:=hAt
  have e2:cs=(spotCells x.near x.page u).toArray∧E=errV x.err:=by simpa using e1
  obtain⟨rfl,rfl⟩:=e2
  have hbW:=box_kept hb1 hba hoth ht hbox
  have hHW:=hH W ⟨by have:=hba.size;omega,fun k h1 h2=>(hoth k (.inr h1)).trans (hba.block k h2)⟩
  have hu:=hHW.slices
  obtain⟨v,h5,ho⟩:=hI.a5
  have hrow:∀ g,v.ownBlock=some g→X.heap.size+5≤g∧g<W0.heap.size:=fun g hg=>by
   obtain⟨v0,k5,ko⟩:=hIa.a5
   have e3:=(ht.cells k5).symm.trans h5
   simp only[qQ,qX,Array.mk.injEq,List.cons.injEq,and_true] at e3
   rw[e3] at ko
   exact⟨(owns_cells ho hg).1,(owns_cells ko hg).2.1⟩
  have hlen:(stR pre).2.length≤700:=by
   have h1:=hsh.out
   obtain⟨r,hr⟩:=hpre
   rw[← hr] at h1
   have h2:=stR_len pre
   simp only[qO,qV,List.length_nil] at h1
   omega
  have hmem:x∈S:=by obtain⟨r,hr⟩:=hpre;rw[← hr];simp
  obtain⟨hs1,hs2,hs3⟩:=hfew.out x hmem
  have hvx:∀ it∈x.page.items,it.kind=1:=hv.out x hmem
  have hB5:X.heap.size+5≤W0.heap.size:=hIa.big
  have hW5:X.heap.size+5≤W.heap.size:=hI.big
  have hup:=stR_up pre
  have n5:pb≠X.heap.size:=block_ne hbW h5 (by decide)
  have n6:pb≠X.heap.size+1:=block_ne hbW hI.a6 (by decide)
  have n7:pb≠X.heap.size+2:=block_ne hbW hI.a7 (by decide)
  have hgo:=hI.ok
  have h6:=hI.a6
  have h7:=hI.a7
  have hbelW:=hI.bel
  have hpbB:pb<W.heap.size:=(qA hbW)
  have hAg:∀ V:World,W.heap.size≤V.heap.size→(∀ k,W0.heap.size≤k→k<W.heap.size→V.heap[k]?=W.heap[k]?)→Hangs V x.page u.i u.k u.d u.v u.f:=fun V hs hk=>hH V ⟨by have:=hba.size;omega,fun k h1 h2=>(hk k h1 (by have:=hba.size;omega)).trans ((hoth k (.inr h1)).trans (hba.block k h2))⟩
  clear hHW hI hIa hH
  generalize hfl:(stR pre).1=fl at *
  generalize hmet:(stR pre).2=met at *
  have hokT:=hidT (show okT fl x=((x.err==0)&&(fullD x.near x.page&&(withinD x.near x.page&&onD x.near x.page (flT fl x)))) from rfl)
  refine wpIn_block ?_
  refine wpIn_seq_k fun K hK=>?_
  replace hK:=hidT hK
  refine rt78 l 7 (Q:=Exit.then K (Exit.inBlock 1 (leaves (Own2 X.heap.size (X.heap.size+4) (X.heap.size+3)) W0.heap.size (RightI X) (fun c pre W=>c=.exit 0∧RightX X pre W) (pre++[x]) W))) (W:=W) (b6:=X.heap.size+1) (b7:=X.heap.size+2) (pb:=pb) (fl:=fl) (dep:=(x.near.depth:Int)) (lf:=x.page.kind==1) (v0:=.int .i64 x.near.id)  (v2:=.string x.near.low) (v3:=.string x.near.high) (v4:=.int .i64 x.page.kind) (v5:=u.i) (v6:=u.k) (v7:=u.d) (v8:=.string x.page.text) (v9:=u.v) (v10:=u.f) (v11:=.int .i64 x.page.next) (v12:=.int .u64 x.page.mt.txn) (v13:=.int .i64 x.page.mt.main.page) (v14:=.int .i64 x.page.mt.main.count) (v15:=.int .i64 x.page.mt.main.flags) (v16:=.int .i64 x.page.mt.free) (v17:=.int .i64 x.page.mt.last) h6 hbW (fun V hV=>leaf_spot x.near x.page u V hu) (fun ⟨_,_,h⟩=>h) _ _ _ _ _ _ _ _ _ _ _ _ _ _ _ _ _ _ _ _ _ _ _ _ _ _ _ _ _ _ _ _ _ _ _ _ _ _ _ _ _ _ _ _ _ _ _ _ _ _ _ _ _ _ _ _ ?hQ
  case hQ=>
  intro x17 x18 x19 x20 x21 x22 x23 x24 w1 hg1 h61
  refine hK.out _ _ ?_
  clear hK
  have h51:w1.heap[X.heap.size]?=some (.cells #[v] 32 (0,0)):=(hg1.block _ (by omega) (by simp)).trans h5
  have h71:w1.heap[X.heap.size+2]?=some (.cells #[.bool true] 4 (0,0)):=(hg1.block _ (by omega) (by simp)).trans h7
  have hb1':w1.heap[pb]?=some (.cells (spotCells x.near x.page u).toArray 86 (0,0)):=(hg1.block _ hpbB (by simpa using n6)).trans hbW
  have hA1:∀ V,Below w1.heap.size w1 V→Hangs V x.page u.i u.k u.d u.v u.f:=fun V hV=>hAg V (qN hg1.size hV.size) (fun k h1 h2=>(hV.block k (qM h2 hg1.size)).trans (hg1.block k h2 (by simp;omega)))
  have h61':w1.heap[X.heap.size+1]?=some (.cells #[.int .i64 (flT fl x)] 3 (0,0)):=h61
  have hE:((x.err==0)=true∧errV x.err=.nilIface)∨((x.err==0)=false∧∃ y,errV x.err=.iface 62 (.int .i64 y)):=by
   by_cases he:x.err=0
   ·exact .inl ⟨by simp[he],by rw[he];rfl⟩
   ·exact .inr ⟨by simp[he],x.err,if_neg he⟩
  refine wpIn_seq_k fun K hK=>?_
  replace hK:=hidT hK
  refine rt9 l 7 (Q:=Exit.then K (Exit.inBlock 1 (leaves (Own2 X.heap.size (X.heap.size+4) (X.heap.size+3)) W0.heap.size (RightI X) (fun c pre W=>c=.exit 0∧RightX X pre W) (pre++[x]) W))) (W:=w1) (b6:=X.heap.size+1) (b7:=X.heap.size+2) (pb:=pb) (fl:=flT fl x) (rb:=true) (b1:=x.err==0) (b2:=fullD x.near x.page) (b3:=withinD x.near x.page) (b4:=onD x.near x.page (flT fl x)) (v0:=.int .i64 x.near.id) (v1:=.int .i64 (x.near.depth:Int)) (v2:=.string x.near.low) (v3:=.string x.near.high) (v4:=.int .i64 x.page.kind) (v5:=u.i) (v6:=u.k) (v7:=u.d) (v8:=.string x.page.text) (v9:=u.v) (v10:=u.f) (v11:=.int .i64 x.page.next) (v12:=.int .u64 x.page.mt.txn) (v13:=.int .i64 x.page.mt.main.page) (v14:=.int .i64 x.page.mt.main.count) (v15:=.int .i64 x.page.mt.main.flags) (v16:=.int .i64 x.page.mt.free) (v17:=.int .i64 x.page.mt.last) h61' h71 (range_box (cs:=spotCells x.near x.page u) hb1') hE (fun V hV=>full_spot x.near x.page u V (hA1 V hV) (by omega) (by omega)) (fun V hV=>within_spot x.near x.page u V (hA1 V hV) (by omega) hs3) (fun V hV=>on_spot x.near x.page u V hu (flT fl x)) (fun ⟨_,_,h⟩=>h) _ _ _ _ _ _ _ _ _ _ _ _ _ _ _ _ _ _ _ _ _ _ _ _ _ _ _ _ _ _ _ _ _ _ _ _ _ _ _ _ _ _ _ _ _ _ _ _ _ _ _ _ _ _ _ _ ?hQ
  case hQ=>
  intro x25 x26 x27 x28 x29 x30 x31 x32 x33 x34 x35 x36 x37 x38 x39 w2 hb2
  refine hK.out _ _ ?_
  clear hK
  rw[← hokT.out]
  have h52:=heap_on h51 hb2
  have h62:=heap_on h61' hb2
  have h72:=heap_on h71 hb2
  have hb2':=heap_on hb1' hb2
  obtain⟨w3,hw3⟩:∃ w3,w3=w2.setCell ⟨X.heap.size+2,0,none⟩ (.bool (okT fl x)):=⟨_,rfl⟩
  have h53:w3.heap[X.heap.size]?=some (.cells #[v] 32 (0,0)):=by rw[hw3];exact (qD _ _ _ _ (show X.heap.size≠X.heap.size+2 by omega)).trans h52
  have h63:w3.heap[X.heap.size+1]?=some (.cells #[.int .i64 (flT fl x)] 3 (0,0)):=by rw[hw3];exact (qD _ _ _ _ (show X.heap.size+1≠X.heap.size+2 by omega)).trans h62
  have h73:w3.heap[X.heap.size+2]?=some (.cells #[.bool (okT fl x)] 4 (0,0)):=by rw[hw3];exact heap_set1 h72
  have hb3:w3.heap[pb]?=some (.cells (spotCells x.near x.page u).toArray 86 (0,0)):=by rw[hw3];exact (qD _ _ _ _ n7).trans hb2'
  have hs3':w3.heap.size=w2.heap.size:=by rw[hw3];simp
  have hk3:∀ k,k<W.heap.size→k≠X.heap.size+1→k≠X.heap.size+2→w3.heap[k]?=W.heap[k]?:=fun k hk h1 h2=>by
   rw[hw3]
   exact (Below.heap_setCell _ _ _ _ h2).trans ((hb2.block k (Nat.lt_of_lt_of_le hk hg1.size)).trans (hg1.block k hk (by simpa using h1)))
  have hBK3:BodyKeeps (Own2 X.heap.size (X.heap.size+4) (X.heap.size+3)) W0.heap.size W w3:=by
   rw[hw3]
   exact ((BodyKeeps.grown hg1 fun g hg=>by
    obtain rfl:X.heap.size+1=g:=by simpa using hg
    exact⟨.inl ⟨⟨by omega,by omega,by omega⟩,by omega⟩,_,_,_,h6⟩).then hb2).cell' _ ⟨by omega,by omega,by omega⟩ (by omega)
  have hbel3:Below X.heap.size X w3:=hBK3.bel hbelW (by omega)
  have hW3:W.heap.size≤w3.heap.size:=hBK3.size
  have ho3:H.OwnInts w3 (X.heap.size+5) v met:=owns_move ho fun g cs T fr h1 h2=>hk3 g (qA h2) (by omega) (by omega)
  obtain⟨ao,cap,rfl,hrow3⟩:=H.RowAt.own ho3
  have hA3:Hangs w3 x.page u.i u.k u.d u.v u.f:=hAg w3 hW3 (fun k h1 h2=>hk3 k h2 (by omega) (by omega))
  clear hg1 h61 h51 h71 hb1' hA1 h61' hE h52 h62 h72 hb2' hk3 hAg hokT
  rw[← hw3]
  clear hs3' hw3 hb2 w2
  refine rt10 l 7 (W:=w3) (b5:=X.heap.size) (b7:=X.heap.size+2) (pb:=pb) (cap:=cap) (ao:=ao) (met:=met) (id:=x.near.id) (rb:=okT fl x) (v0:=.int .i64 x.near.id) (v1:=.int .i64 (x.near.depth:Int)) (v2:=.string x.near.low) (v3:=.string x.near.high) (v4:=.int .i64 x.page.kind) (v5:=u.i) (v6:=u.k) (v7:=u.d) (v8:=.string x.page.text) (v9:=u.v) (v10:=u.f) (v11:=.int .i64 x.page.next) (v12:=.int .u64 x.page.mt.txn) (v13:=.int .i64 x.page.mt.main.page) (v14:=.int .i64 x.page.mt.main.count) (v15:=.int .i64 x.page.mt.main.flags) (v16:=.int .i64 x.page.mt.free) (v17:=.int .i64 x.page.mt.last) h53 h73 (range_box (cs:=spotCells x.near x.page u) hb3) hrow3 hup hlen (numbers_spot x.near x.page u w3 hA3 (by omega) hvx) _ _ _ _ _ _ _ _ _ _ _ _ _ _ _ _ _ _ _ _ _ _ _ _ _ _ _ _ _ _ _ _ _ _ _ _ _ _ _ _ _ _ _ _ _ _ _ _ _ _ _ _ _ _ _ _ _ ?hQe ?hQn
  case hQe=>
   intro hc x11 x40 x41 x42 x43 x44 x45 x46 x47 x48 x49 x50 x51 x52 x53 x54 x55 x56 x57 x58 w4 hg4 h74
   refine⟨hBK3.trans (BodyKeeps.grown hg4 fun g hg=>?_),rfl,h74,fun rest=>?_,?_⟩
   ·obtain rfl:X.heap.size+2=g:=by simpa using hg
    exact⟨.inl ⟨⟨by omega,by omega,by omega⟩,by omega⟩,_,_,_,h73⟩
   ·rw[List.append_assoc,hgo]
    show rightFrom fl met (x::rest)=false
    unfold rightFrom
    rw[hc]
    rfl
   ·exact hbel3.grown hg4 (by omega) (fun g hg=>by
     have e:X.heap.size+2=g:=by simpa using hg
     omega)
  case hQn=>
   intro hc x11 x40 x41 x42 x43 x44 x45 x46 x47 x48 x49 x50 x51 x52 x53 x54 x55 x56 x57 x58 u4 w4 hg4 h74 ho4
   have h54:w4.heap[X.heap.size]?=some (.cells #[.slice ao met.length cap] 32 (0,0)):=(hg4.block _ (by omega) (by simp)).trans h53
   have h64:=(hg4.block (X.heap.size+1) (by omega) (by simp)).trans h63
   have hst:=stR_snoc pre x
   rw[hfl,hmet] at hst
   have h4s:=hg4.size
   refine⟨(hBK3.trans (BodyKeeps.grown hg4 fun g hg=>?_)).cell' _ ⟨by omega,by omega,by omega⟩ (by omega),⟨u4,heap_set1 h54,?_⟩,?_,?_,fun rest=>?_,?_,?_⟩
   ·obtain rfl:X.heap.size+2=g:=by simpa using hg
    exact⟨.inl ⟨⟨by omega,by omega,by omega⟩,by omega⟩,_,_,_,h73⟩
   ·rw[hst]
    exact owns_move (ho4.mono (by omega)) fun g cs T fr h1 _=>qD _ _ _ _ (show g≠X.heap.size by omega)
   ·rw[hst]
    exact (qD _ _ _ _ (show X.heap.size+1≠X.heap.size by omega)).trans h64
   ·exact (qD _ _ _ _ (show X.heap.size+2≠X.heap.size by omega)).trans h74
   ·rw[List.append_assoc,hgo,hst]
    show rightFrom fl met (x::rest)=_
    rw[rightFrom,hc]
    rfl
   ·exact (hbel3.grown hg4 (by omega) (fun g hg=>by
     have e:X.heap.size+2=g:=by simpa using hg
     omega)).setCell qL _
   ·simp
    omega
 case done=>
  intro D W hD hI hm
  have hI:=hI
  have c7:=cell_rowL hI.a7
  replace hI:=hidT hI
  replace hm:=hidT hm
  go_wp2
  refine leave_mark (B:=X.heap.size) (by have:=hW1s.out;omega) hm.out ?_
  intro w' hk hb
  have e1:=hI.out.ok []
  rw[List.append_nil] at e1
  have e2:ans=true:=hans.out.trans e1
  exact⟨.bool true,by simp[results,Tryz.results11,go_sem],by rw[e2],hI.out.bel.trans hb⟩
 case stop=>
  intro D c pre x W hD hpre hX hm
  obtain⟨rfl,hX⟩:=hX
  have c7:=cell_rowL hX.a7
  replace hX:=hidT hX
  replace hm:=hidT hm
  replace hpre:=hidT hpre
  refine wpIn_wide.2 ?_
  go_wp2
  refine leave_mark (B:=X.heap.size) (by have:=hW1s.out;omega) hm.out ?_
  intro w' hk hb
  obtain⟨r,hr⟩:=hpre.out
  have e1:=hX.out.no r
  rw[hr] at e1
  have e2:ans=false:=hans.out.trans e1
  exact⟨.bool false,by simp[results,Tryz.results11,go_sem],by rw[e2],hX.out.bel.trans hb⟩
end
end Go.Proofs.YtbghhklbfnplbaaGreat

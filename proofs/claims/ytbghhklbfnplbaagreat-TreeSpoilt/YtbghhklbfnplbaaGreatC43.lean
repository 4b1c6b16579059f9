import Derived.Shelf.Slices.Clone
import Derived.Shelf.Slices.SearchI
import Derived.Shelf.Slices.Delete
import Derived.Shelf.Slices.Empties
import Derived.WalkKit
import Derived.WalkSpells
import Derived.WalkLawsBesides
import Derived.Deep.MidRow
import Derived.Deep.AppendLies
import Derived.Deep.RegionLaw
import Derived.Laws.AppendOwnNone
import Derived.Deep.QuietTactic
import Derived.BigQuiet
import Derived.Deep.LoopGhost
import Derived.RegionTactic
import Derived.OwnWalk
import Derived.Test.YtbghhklbfnplbaaGreatC00
import Derived.Test.YtbghhklbfnplbaaGreatProg
import Derived.Test.YtbghhklbfnplbaaGreatRows
set_option maxHeartbeats 4000000
set_option maxRecDepth 10000
namespace Go.Proofs.YtbghhklbfnplbaaGreat
end Go.Proofs.YtbghhklbfnplbaaGreat
namespace Go.Proofs
open Go.Shelf
def Tryz.laysNm215_ren:Go.Shelf.Ren:=⟨fun|15=>53|n=>n,fun|22=>32|3=>3|4=>4|n=>n,fun|n=>n⟩
theorem Tryz.laysNm215:Go.Proofs.Lays2.n15 Tryz.prog Tryz.laysNm215_ren:={
 mixed:=by kernel_rfl
 f15:=Tryz.func53.trans (congrArg some (by kernel_rfl))
 t3:=Tryz.underlying3
 a3:=Tryz.isAgg3
 z3:=Tryz.sizeOf3
 v3:=Tryz.zeroValue3
 t4:=Tryz.underlying4
 a4:=Tryz.isAgg4
 z4:=Tryz.sizeOf4
 v4:=Tryz.zeroValue4
 t22:=Tryz.underlying32
 a22:=Tryz.isAgg32
 z22:=Tryz.sizeOf32
 v22:=Tryz.zeroValue32
 i3:=by kernel_rfl }
open Go.RowKit Go.Lib in
theorem Tryz.slices_Clone_int (b off n c:Nat) (zs:List Int) (w:World) (hz:n≤zs.length) (hbig:n*8≤140737488355328) (hc:∀ j,j<zs.length→w.cell? ⟨b,off+j,none⟩=some (.int .i64 (zs.getD j 0))) :
  Calls Tryz.prog 53 #[.slice (some ⟨b,off,none⟩) n c] w fun e w'=>∃ v',e=.returned v'∧w'.ownsRow w.heap.size 3 1 v' n ((zs.take n).map (Value.int .i64))∧v'≠.slice none 0 0∧Below w.heap.size w w':=Any.slices_Clone_int Tryz.laysNm215 b off n c zs w hz hbig hc
open Go.RowKit Go.Lib in
theorem Tryz.slices_Clone_int_nil (n c:Nat) (w:World) :
  Calls Tryz.prog 53 #[.slice none n c] w fun e w'=>e=.returned (.slice none 0 0)∧w'=w:=Any.slices_Clone_int_nil Tryz.laysNm215 n c w
open Go.RowKit Go.Lib in
theorem Tryz.slices_Clone_int_zero (a:Addr) (c:Nat) (w:World) :
  Calls Tryz.prog 53 #[.slice (some a) 0 c] w fun e w'=>∃ v',e=.returned v'∧w'.ownsRow w.heap.size 3 1 v' 0 []∧v'≠.slice none 0 0∧Below w.heap.size w w':=Any.slices_Clone_int_zero Tryz.laysNm215 a c w
def Tryz.laysNm225_ren:Go.Shelf.Ren:=⟨fun|25=>58|31=>82|32=>83|37=>105|n=>n,fun|22=>32|3=>3|4=>4|40=>126|0=>0|n=>n,fun|n=>n⟩
theorem Tryz.laysNm225:Go.Proofs.Lays2.n25 Tryz.prog Tryz.laysNm225_ren:={
 mixed:=by kernel_rfl
 f25:=Tryz.func58.trans (congrArg some (by kernel_rfl))
 f31:=Tryz.func82.trans (congrArg some (by kernel_rfl))
 f32:=Tryz.func83.trans (congrArg some (by kernel_rfl))
 f37:=Tryz.func105.trans (congrArg some (by kernel_rfl))
 t0:=Tryz.underlying0
 a0:=Tryz.isAgg0
 z0:=Tryz.sizeOf0
 v0:=Tryz.zeroValue0
 t3:=Tryz.underlying3
 a3:=Tryz.isAgg3
 z3:=Tryz.sizeOf3
 v3:=Tryz.zeroValue3
 t4:=Tryz.underlying4
 a4:=Tryz.isAgg4
 z4:=Tryz.sizeOf4
 v4:=Tryz.zeroValue4
 t22:=Tryz.underlying32
 a22:=Tryz.isAgg32
 z22:=Tryz.sizeOf32
 v22:=Tryz.zeroValue32
 t40:=Tryz.underlying126
 a40:=Tryz.isAgg126
 z40:=Tryz.sizeOf126
 v40:=Tryz.zeroValue126 }
open Go.RowKit Go.Lib in
theorem Tryz.slices_BinarySearch_int (b off n c:Nat) (zs:List Int) (x:Int) (w:World) (hz:n≤zs.length) (hbig:n<4611686018427387904) (hc:∀ j,j<zs.length→w.cell? ⟨b,off+j,none⟩=some (.int .i64 (zs.getD j 0))) (hs:(zs.take n).Pairwise (·≤·)) :
  Calls Tryz.prog 58 #[.slice (some ⟨b,off,none⟩) n c,.int .i64 x] w fun e w'=>e=.returned (.tuple #[.int .i64 ((zs.take n).countP (·<x):Nat),.bool ((zs.take n).contains x)])∧∃ q,w'=w.drewN q:=Any.slices_BinarySearch_int Tryz.laysNm225 b off n c zs x w hz hbig hc hs
open Go.RowKit Go.Lib in
theorem Tryz.slices_BinarySearch_int_empty (a:Option Addr) (c:Nat) (x:Int) (w:World) :
  Calls Tryz.prog 58 #[.slice a 0 c,.int .i64 x] w fun e w'=>e=.returned (.tuple #[.int .i64 0,.bool false])∧w'=w:=Any.slices_BinarySearch_int_empty Tryz.laysNm225 a c x w
end Go.Proofs
namespace Go.Proofs.YtbghhklbfnplbaaGreat
namespace H
open Go.RowKit
theorem hid {p:Prop} (h:p):Hid p:=h
theorem heap_newL (w:World) (o:Obj):(w.alloc o).heap[w.heap.size]?=some o:=heap_alloc_new w o
theorem cell_rowL {w:World} {b:Nat} {cs:Array Value} {T:TypeId} {fr:Nat × Nat} (hb:w.heap[b]?=some (.cells cs T fr)) (j:Nat):w.cell? ⟨b,j,none⟩=cs[j]?:=by
 simp[World.cell?,hb]
theorem frozen_rowL {w:World} {b:Nat} {cs:Array Value} {T:TypeId} (hb:w.heap[b]?=some (.cells cs T (0,0))) (j:Nat):w.frozen? ⟨b,j,none⟩=false:=by
 simp[World.frozen?,hb]
theorem lt_of_heap {w:World} {b:Nat} {o:Obj} (h:w.heap[b]?=some o):b<w.heap.size:=(qA h)
theorem grown_setCell (w:World) (b o:Nat) (u:Value):w.grownBy (w.setCell ⟨b,o,none⟩ u) (some b):=
 ⟨rfl,rfl,rfl,by simp,fun k _ hne=>by rw[Below.heap_setCell _ _ _ _ (by simpa using fun e=>hne (by rw[e]))]⟩
theorem owns_stored {w:World} {base:Nat} {e:TypeId} {size g n cap:Nat} {xs:List Value} (h:w.ownsRow base e size (.slice (some ⟨g,0,none⟩) n cap) n xs) (i:Nat) (u:Value):(w.setCell ⟨g,i,none⟩ u).ownsRow base e size (.slice (some ⟨g,0,none⟩) n cap) n (xs.set i u):=by
 obtain⟨h1,h2⟩:=h
 refine⟨by simpa using h1,?_⟩
 rcases h2 with ⟨hv,_⟩|⟨g',cap',cur,hv,hb,hg,hn,hc,hs,ht⟩
 ·cases hv
 ·simp only[qR,qQ,Addr.mk.injEq,true_and,and_true] at hv
  obtain⟨rfl,rfl⟩:=hv
  refine .inr ⟨g,cap,cur.setIfInBounds i u,rfl,hb,heap_setCell_same w g i cur e u hg,hn,hc,by simpa using hs,?_⟩
  rw[Array.toList_setIfInBounds,List.take_set,ht]
theorem Tryz.infoInt:(Tryz.prog.info? 3).map (fun i=>(i.zero,i.size,i.bytes))=some (some (.int .i64 0),1,8):=by kernel_rfl
theorem grown_alloc {w w':World} {row:Option Nat} {o:Obj} (g:(w.alloc o).grownBy w' row):w.grownBy w' row:=
 ⟨g.os,g.tape,g.output,by have:=g.size;simp at this;omega,fun k hk hne=>(g.block k (by simp;omega) hne).trans (qE w o k hk)⟩
theorem cut_head {t:TypeId} {ao:Option Addr} {len cap n size:Nat} (ht:Tryz.prog.underlying t=some (.slice (Tryz.prog.elem t))) (hs:∀ w,(Go.sizeOf (Tryz.prog.elem t)).run Tryz.prog w=.ok size w) (h:n≤cap) (w:World) :
  (Instr.slice t (.slice ao len cap) none (some (.int .i64 (n:Int))) none).run Tryz.prog w=.ok (.slice ao n cap) w:=by
 rw[run_slice_h w t ao len cap ht .i64 (n:Int) (by omega) (by omega),hs]
 simp only[Result.andThen,sliced,Int.toNat_natCast,Nat.zero_mul,Nat.sub_zero]
 cases ao<;>simp[Addr.add]
theorem index_at {t:TypeId} {ao:Option Addr} {a:Addr} (ht:Tryz.prog.underlying t=some (.slice (Tryz.prog.elem t))) (hs:∀ w,(Go.sizeOf (Tryz.prog.elem t)).run Tryz.prog w=.ok 1 w) (len cap k:Nat) (ha:ao=some a) (h:k<len) (w:World) :
  (Instr.indexAt t (.slice ao len cap) (.int .i64 (k:Int))).run Tryz.prog w=.ok (.pointer (some (a.add k))) w:=by
 subst ha
 rw[run_indexAt_slice (P:=Tryz.prog) w t a len cap .i64 k ht,if_pos (by omega),hs]
 simp only[Result.andThen,Int.toNat_natCast,Nat.mul_one]
def intCells (l:List Int):List Value:=l.map (Value.int .i64)
def OwnInts (w:World) (base:Nat) (v:Value) (l:List Int):Prop:=w.ownsRow base 3 1 v l.length (intCells l)
theorem OwnInts.slice {w:World} {base:Nat} {v:Value} {l:List Int} (h:OwnInts w base v l):∃ ao cap,v=.slice ao l.length cap:=by
 rcases h.2 with ⟨rfl,h0⟩|⟨g,cap,cur,rfl,_⟩
 ·exact⟨none,0,by rw[h0]⟩
 ·exact⟨_,_,rfl⟩
def IntsAt (w:World) (v:Value) (l:List Int):Prop:=
 ∃ ao cap,v=.slice ao l.length cap∧l.length≤maxLen∧∀ i (h:i<l.length),∃ a,ao=some a∧w.cell? (a.add i)=some (.int .i64 l[i])
theorem IntsAt.below {w w':World} {v:Value} {l:List Int} (h:IntsAt w v l) (hb:Below w.heap.size w w'):IntsAt w' v l:=by
 obtain⟨ao,cap,h1,h2,h3⟩:=h
 refine⟨ao,cap,h1,h2,fun i hi=>?_⟩
 obtain⟨a,ha,hc⟩:=h3 i hi
 exact⟨a,ha,(hb.cell (p:=a.add i) (qF w _ hc)).trans hc⟩
theorem ints_nil (w:World):IntsAt w (.slice none 0 0) []:=⟨none,0,rfl,by simp,fun i hi=>absurd hi (by simp)⟩
theorem OwnInts.at {w:World} {base:Nat} {v:Value} {l:List Int} (h:OwnInts w base v l) (hl:l.length≤maxLen):IntsAt w v l:=by
 obtain⟨ao,cap,rfl⟩:=h.slice
 refine⟨ao,cap,rfl,hl,fun i hi=>?_⟩
 rcases h.2 with ⟨hv,h0⟩|⟨g,cap',cur,hv,_⟩
 ·omega
 ·simp only[qR,true_and] at hv
  obtain⟨rfl,rfl⟩:=hv
  refine⟨_,rfl,?_⟩
  have:=World.ownsRow.cellAt h i (by omega)
  rw[Addr.add_mid,Nat.zero_add,this]
  simp[intCells,hi]
theorem Tryz.elemInts:Tryz.prog.underlying 32=some (.slice (Tryz.prog.elem 32)):=by kernel_rfl
theorem Tryz.sizeInts (w:World):(Go.sizeOf (Tryz.prog.elem 32)).run Tryz.prog w=.ok 1 w:=by kernel_rfl
theorem atInts {ao:Option Addr} {a:Addr} (len cap k:Nat) (ha:ao=some a) (h:k<len) (w:World):(Instr.indexAt 32 (.slice ao len cap) (.int .i64 (k:Int))).run Tryz.prog w=.ok (.pointer (some (a.add k))) w:=
 index_at Tryz.elemInts Tryz.sizeInts len cap k ha h w
theorem below_draws (w:World) (n:Nat):Below w.heap.size w (w.drewN n):=⟨rfl,rfl,rfl,Nat.le_refl _,fun _ _=>rfl⟩
theorem ret_bool {a b:Bool} (h:a=b):Ending.returned (.bool a)=.returned (.bool b):=by rw[h]
theorem intCells_append (l m:List Int):intCells (l++m)=intCells l++intCells m:=by simp[intCells]
theorem intCells_length (l:List Int):(intCells l).length=l.length:=by simp[intCells]
theorem intCells_one (l:List Int):∀ u∈intCells l,u.oneCell'=true:=by
 intro u hu
 obtain⟨x,_,rfl⟩:=List.mem_map.1 hu
 rfl
theorem OwnInts.cells {w:World} {base g cap:Nat} {n:Nat} {l:List Int} (h:OwnInts w base (.slice (some ⟨g,0,none⟩) n cap) l) (hn:n=l.length):∀ j u,(intCells l)[j]?=some u→w.cell? ⟨g,j,none⟩=some u:=by
 subst hn
 intro j u hu
 have hj:j<l.length:=by have:=(List.getElem?_eq_some_iff.1 hu).1;rwa [intCells_length] at this
 have:=World.ownsRow.cellAt h j (by omega)
 rw[this]
 exact hu
theorem append_from (i0:TypeInfo) (hi:Tryz.prog.info? 3=some i0) (hz0:i0.zero=some (.int .i64 0)) (hz1:i0.size=1) (hz2:i0.bytes=8) {w:World} {B:Nat} (v:Value) (xs:List Int) (h:OwnInts w B v xs) (ty:TypeId) (ao:Option Addr) (cap:Nat) (news:List Int)
  (hc:news=[]∨∃ a,ao=some a∧∀ j u,(intCells news)[j]?=some u→w.cell? (a.add j)=some u) (hnil:ao=none→cap=0) (hB:B≤w.heap.size) (hl:xs.length+news.length≤1000) :
  ∃ v' w',(Builtin.append_ #[32,32] ty #[v,.slice ao news.length cap]).run Tryz.prog w=.ok v' w'∧OwnInts w' B v' (xs++news)∧w.grownBy w' v.ownBlock:=by
 by_cases hn:news=[]
 ·subst hn
  cases ao with
  | none=>
    by_cases hcap:cap=0
    ·subst hcap
     refine⟨v,w,run_append_owned_none (P:=Tryz.prog) (w:=w) B 32 ty 3 i0 1 Tryz.underlying32 hi v xs.length (intCells xs) h,by simpa using h,World.grownBy.refl _ _⟩
    ·exact absurd (hnil rfl) hcap
  | some a=>
    obtain⟨v',w',h1,h2,h3,h4⟩:=run_append_own (P:=Tryz.prog) w B 32 ty 3 i0 (.int .i64 0) 1 8 Tryz.underlying32 hi hz0 hz1 hz2 rfl (by omega) v xs.length (intCells xs) h a 0 cap [] rfl (by simp) (by simp) (by unfold maxLen;simp at hl;omega) (by simp at hl;omega) hB
    exact⟨v',w',h1,by simpa[OwnInts] using h2,h3⟩
 ·obtain⟨a,rfl,hcell⟩:=hc.resolve_left hn
  obtain⟨v',w',h1,h2,h3,h4⟩:=run_append_own (P:=Tryz.prog) w B 32 ty 3 i0 (.int .i64 0) 1 8 Tryz.underlying32 hi hz0 hz1 hz2 rfl (by omega) v xs.length (intCells xs) h a news.length cap (intCells news) (by rw[intCells_length];omega) hcell (intCells_one _) (by unfold maxLen;omega) (by omega) hB
  exact⟨v',w',h1,by unfold OwnInts;rw[intCells_append,qO];exact h2,h3⟩
section
variable {P:Program} {w:World}
theorem wp_append_any {o:Oper} {a:Act} {K:Act→World→Prop} {Q:Exit→Act→World→Prop} (s x:Operand) (t:TypeId) (ho:o.op=.call { callee:=.builtin .append,args:=#[s,x],argTypes:=#[t,t] })
  (v u:Value) (hs:a.eval s=v) (hx:a.eval x=u) {R:Value→World→Prop} (h:∃ v' w',(Builtin.append_ #[t,t] o.type #[v,u]).run P w=.ok v' w'∧R v' w') (hK:∀ v' w',R v' w'→K (a.put o.dst v') w'):o.wp P a w K Q:=by
 obtain⟨v',w',hrun,hR⟩:=h
 unfold Oper.wp
 simp[execOp,ho,resolve,invoke,builtin,hs,hx,hrun,Result.andThen]
 exact hK _ _ hR
theorem wpList_append_any {ops:Array Oper} {rest:List Oper} {o:Oper} {a:Act} {Q:Exit→Act→World→Prop} (hgd:o.guard=none) (s x:Operand) (t:TypeId) (ho:o.op=.call { callee:=.builtin .append,args:=#[s,x],argTypes:=#[t,t] })
  (v u:Value) (hs:a.eval s=v) (hx:a.eval x=u) {R:Value→World→Prop} (h:∃ v' w',(Builtin.append_ #[t,t] o.type #[v,u]).run P w=.ok v' w'∧R v' w') (hK:∀ v' w',R v' w'→wpList P ops Q rest (a.put o.dst v') w'):wpList P ops Q (o::rest) a w:=
 wpList_plain hgd fun _ hh=>wp_append_any s x t ho v u hs hx h fun v' w' hR=>hh _ _ (hK v' w' hR)
theorem step_append_any {ops:Array Oper} {o:Oper} {a:Act} {K:Act→World→Prop} {Q:Exit→Act→World→Prop} {E:Prop} (hgd:o.guard=none) (s x:Operand) (t:TypeId) (ho:o.op=.call { callee:=.builtin .append,args:=#[s,x],argTypes:=#[t,t] })
  (v u:Value) (hs:a.eval s=v) (hx:a.eval x=u) {R:Value→World→Prop} (h:∃ v' w',(Builtin.append_ #[t,t] o.type #[v,u]).run P w=.ok v' w'∧R v' w') (hK:∀ v' w',R v' w'→K (a.put o.dst v') w') :
  if Region.wanted o (yielded ops a.tmps)=true then Oper.wp P o a w K Q else E:=by
 have hw:Region.wanted o (yielded ops a.tmps)=true:=by simp[Region.wanted,hgd]
 rw[if_pos hw]
 exact wp_append_any s x t ho v u hs hx h hK
end
theorem OwnInts.nil (w:World) (B:Nat):OwnInts w B (.slice none 0 0) []:=World.ownsRow_nil _ _ _ _
theorem OwnInts.alloc {w:World} {B:Nat} {v:Value} {l:List Int} (h:OwnInts w B v l) (o:Obj):OwnInts (w.alloc o) B v l:=World.ownsRow.alloc h o
theorem OwnInts.mono {w:World} {B C:Nat} {v:Value} {l:List Int} (h:OwnInts w B v l) (hC:C≤B):OwnInts w C v l:=by
 obtain⟨h1,h2⟩:=h
 refine⟨h1,?_⟩
 rcases h2 with h2|⟨g,cap,cur,rfl,hb,rest⟩
 ·exact .inl h2
 ·exact .inr ⟨g,cap,cur,rfl,by omega,rest⟩
theorem OwnInts.after {w w0 w':World} {B:Nat} {v:Value} {l:List Int} (h:OwnInts w B v l) (hb:Below B w0 w) (hB:B≤w.heap.size) (hg:w.grownBy w' v.ownBlock):Below B w0 w':=
 hb.grown hg hB (fun r hr=>(World.ownsRow.lt h r hr).1)
theorem tail_at (g n cap k:Nat) (h:k<n) (hc:n≤cap) (w:World) :
  (Instr.slice 32 (.slice (some ⟨g,0,none⟩) n cap) (some (.int .i64 (k:Int))) none none).run Tryz.prog w=.ok (.slice (some ⟨g,k,none⟩) (n - k) (cap - k)) w:=by
 rw[run_slice_l w 32 (some ⟨g,0,none⟩) n cap Tryz.elemInts .i64 (k:Int) (by omega) (by omega),Tryz.sizeInts]
 simp only[Result.andThen,sliced,Int.toNat_natCast]
 rw[if_neg (by omega)]
 simp[Addr.add_mid]
theorem push_one (i0:TypeInfo) (hi:Tryz.prog.info? 3=some i0) (hz0:i0.zero=some (.int .i64 0)) (hz1:i0.size=1) (hz2:i0.bytes=8) {w:World} {B:Nat} (v:Value) (l:List Int) (x:Int) (h:OwnInts w B v l) (ty:TypeId) (b:Nat)
  (hb:w.heap[b]?=some (.cells #[.int .i64 x] 3 (0,0))) (hB:B≤w.heap.size) (hl:l.length≤1000) :
  ∃ g cap w',(Builtin.append_ #[32,32] ty #[v,.slice (some ⟨b,0,none⟩) 1 1]).run Tryz.prog w=.ok (.slice (some ⟨g,0,none⟩) (l.length+1) cap) w'∧OwnInts w' B (.slice (some ⟨g,0,none⟩) (l.length+1) cap) (l++[x])∧w.grownBy w' v.ownBlock∧(v.ownBlock=some g∨w.heap.size≤g):=by
 obtain⟨g,cap,w',h1,h2,h3,h4,_⟩:=run_append_lies (P:=Tryz.prog) w 32 ty B 3 i0 (.int .i64 0) 1 8 Tryz.underlying32 hi hz0 hz1 hz2 rfl (by omega) v l.length (intCells l) h ⟨b,0,none⟩ 1 1 [.int .i64 x] rfl (World.news_of_block hb) (by simp[Value.oneCell']) (by omega) (by unfold maxLen;omega) (by omega) hB w.heap.size rfl
 exact⟨g,cap,w',h1,by simpa[OwnInts,intCells] using h2,h3,h4.imp id (fun e=>by omega)⟩
end H
namespace H
open Go.RowKit
def Up (l:List Int):Prop:=l.Pairwise (·<·)
theorem up_cons {x:Int} {l:List Int}:Up (x::l)↔(∀ y∈l,x<y)∧Up l:=List.pairwise_cons
theorem up_nil:Up []:=List.Pairwise.nil
theorem up_ext:∀ (l m:List Int),Up l→Up m→(∀ x,x∈l↔x∈m)→l=m
 | [],[],_,_,_=>rfl
 | [],y::m,_,_,h=>absurd ((h y).2 (by simp)) (by simp)
 | x::l,[],_,_,h=>absurd ((h x).1 (by simp)) (by simp)
 | x::l,y::m,hl,hm,h=>by
   rw[up_cons] at hl hm
   have hxy:x=y:=by
    have h1:=(h x).1 (by simp)
    have h2:=(h y).2 (by simp)
    rcases List.mem_cons.1 h1 with e|e
    ·exact e
    ·rcases List.mem_cons.1 h2 with e2|e2
     ·exact e2.symm
     ·have:=hl.1 y e2
      have:=hm.1 x e
      omega
   subst hxy
   rw[up_ext l m hl.2 hm.2 ?_]
   intro z
   constructor
   ·intro hz
    have hne:z≠x:=by have:=hl.1 z hz;omega
    exact (List.mem_cons.1 ((h z).1 (List.mem_cons_of_mem _ hz))).resolve_left hne
   ·intro hz
    have hne:z≠x:=by have:=hm.1 z hz;omega
    exact (List.mem_cons.1 ((h z).2 (List.mem_cons_of_mem _ hz))).resolve_left hne
def skipOne (n:Int):List Int→List Int
 | []=>[]
 | y::a=>if y=n then a else y::a
def mergeL:List Int→List Int→List Int
 | a,[]=>a
 | a,n::b=>a.takeWhile (fun y=>decide (y<n))++n::mergeL (skipOne n (a.dropWhile (fun y=>decide (y<n)))) b
theorem mergeL_nil (b:List Int):mergeL [] b=b:=by
 induction b with
 | nil=>rfl
 | cons n b ih=>simp[mergeL,skipOne,ih]
theorem mergeL_none (a:List Int):mergeL a []=a:=rfl
theorem mergeL_lt {y n:Int} {a b:List Int} (h:y<n):mergeL (y::a) (n::b)=y::mergeL a (n::b):=by simp[mergeL,h]
theorem mergeL_eq {n:Int} {a b:List Int}:mergeL (n::a) (n::b)=n::mergeL a b:=by simp[mergeL,skipOne]
theorem mergeL_gt {y n:Int} {a b:List Int} (h:n<y):mergeL (y::a) (n::b)=n::mergeL (y::a) b:=by
 have h1:¬ y<n:=by omega
 have h2:¬ y=n:=by omega
 simp[mergeL,skipOne,h1,h2]
theorem merge_ind {P:List Int→List Int→Prop} (c1:∀ b,P [] b) (c2:∀ y a,P (y::a) []) (c3:∀ y a n b,y<n→P a (n::b)→P (y::a) (n::b)) (c4:∀ a n b,P a b→P (n::a) (n::b)) (c5:∀ y a n b,n<y→P (y::a) b→P (y::a) (n::b)) (a b:List Int):P a b:=by
 induction a generalizing b with
 | nil=>exact c1 b
 | cons y a iha=>
   induction b with
   | nil=>exact c2 y a
   | cons n b ihb=>
     rcases Int.lt_trichotomy y n with h|h|h
     ·exact c3 y a n b h (iha (n::b))
     ·subst h
      exact c4 a y b (iha b)
     ·exact c5 y a n b h ihb
theorem mergeL_mem (a b:List Int) (x:Int):x∈mergeL a b↔x∈a∨x∈b:=by
 induction a,b using merge_ind with
 | c1 b=>simp[mergeL_nil]
 | c2 y a=>simp[mergeL_none]
 | c3 y a n b h ih=>rw[mergeL_lt h,List.mem_cons,ih];simp[or_assoc]
 | c4 a n b ih=>
   rw[mergeL_eq,List.mem_cons,ih]
   simp only[List.mem_cons]
   grind
 | c5 y a n b h ih=>
   rw[mergeL_gt h,List.mem_cons,ih]
   simp only[List.mem_cons]
   grind
theorem mergeL_length (a b:List Int):(mergeL a b).length≤a.length+b.length:=by
 induction a,b using merge_ind with
 | c1 b=>simp[mergeL_nil]
 | c2 y a=>simp[mergeL_none]
 | c3 y a n b h ih=>rw[mergeL_lt h];simp at ih ⊢;omega
 | c4 a n b ih=>rw[mergeL_eq];simp at ih ⊢;omega
 | c5 y a n b h ih=>rw[mergeL_gt h];simp at ih ⊢;omega
theorem mergeL_up (a b:List Int) (ha:Up a) (hb:Up b):Up (mergeL a b):=by
 induction a,b using merge_ind with
 | c1 b=>simpa[mergeL_nil] using hb
 | c2 y a=>simpa[mergeL_none] using ha
 | c3 y a n b h ih=>
   rw[mergeL_lt h,up_cons]
   rw[up_cons] at ha
   refine⟨fun z hz=>?_,ih ha.2 hb⟩
   rw[mergeL_mem,List.mem_cons] at hz
   rw[up_cons] at hb
   rcases hz with hz|rfl|hz
   ·exact ha.1 z hz
   ·exact h
   ·have:=hb.1 z hz
    omega
 | c4 a n b ih=>
   rw[mergeL_eq,up_cons]
   rw[up_cons] at ha hb
   refine⟨fun z hz=>?_,ih ha.2 hb.2⟩
   rw[mergeL_mem] at hz
   rcases hz with hz|hz
   ·exact ha.1 z hz
   ·exact hb.1 z hz
 | c5 y a n b h ih=>
   rw[mergeL_gt h,up_cons]
   rw[up_cons] at hb
   refine⟨fun z hz=>?_,ih ha hb.2⟩
   rw[up_cons] at ha
   rw[mergeL_mem,List.mem_cons] at hz
   rcases hz with (rfl|hz)|hz
   ·exact h
   ·have:=ha.1 z hz
    omega
   ·exact hb.1 z hz
def dropL (l:List Int) (f n:Int):List Int:=l.filter fun x=>decide (x<f)||decide (max n 0≤x - f)
def RunI (l:List Int) (n i:Nat):Prop:=1≤n∧i+n≤l.length∧∀ j,j<n→l.getD (i+j) 0=l.getD i 0+(j:Int)
def RunIs (l:List Int) (n:Nat) (x:Int) (ok:Bool):Prop:=(ok=true∧∃ i,RunI l n i∧x=l.getD i 0∧∀ k,k<i→¬ RunI l n k)∨(ok=false∧x=0∧∀ i,¬ RunI l n i)
theorem up_get {l:List Int} (h:Up l) {i j:Nat} (hij:i<j) (hj:j<l.length):l.getD i 0<l.getD j 0:=by
 have:=List.pairwise_iff_getElem.1 h i j (by omega) hj hij
 simpa[List.getD,hj,show i<l.length by omega] using this
theorem up_far {l:List Int} (h:Up l) (i:Nat):∀ j,i+j<l.length→l.getD i 0+(j:Int)≤l.getD (i+j) 0
 | 0,_=>by simp
 | j+1,hj=>by
   have h1:=up_far h i j (by omega)
   have h2:=up_get h (i:=i+j) (j:=i+(j+1)) (by omega) hj
   omega
theorem get_mem {l:List Int} {i:Nat} (h:i<l.length):l.getD i 0∈l:=by
 simp[List.getD,h]
theorem up_short {l:List Int} (h:l.length≤1):Up l:=by
 match l,h with
 | [],_=>exact up_nil
 | [x],_=>exact up_cons.2 ⟨by simp,up_nil⟩
end H
namespace H
open Go.RowKit
structure RowAt (w:World) (ao:Option Addr) (cap:Nat) (l:List Int):Prop where
 room:l.length≤cap
 bare:ao=none→cap=0
 plain:∀ a,ao=some a→0<cap→∃ b o,a=⟨b,o,none⟩
 cells:∀ i (_:i<l.length),∃ b o,ao=some ⟨b,o,none⟩∧w.cell? ⟨b,o+i,none⟩=some (.int .i64 (l.getD i 0))
theorem RowAt.nil (w:World):RowAt w none 0 []:=⟨by simp,fun _=>rfl,by simp,fun i hi=>absurd hi (by simp)⟩
theorem RowAt.below {w w':World} {ao:Option Addr} {cap B:Nat} {l:List Int} (h:RowAt w ao cap l) (hb:Below B w w') (hB:w.heap.size≤B):RowAt w' ao cap l:=by
 refine⟨h.room,h.bare,h.plain,fun i hi=>?_⟩
 obtain⟨b,o,h1,h2⟩:=h.cells i hi
 have h3:=qF w _ h2
 exact⟨b,o,h1,(hb.cell (p:=⟨b,o+i,none⟩) (qM h3 hB)).trans h2⟩
theorem RowAt.own {w:World} {base:Nat} {v:Value} {l:List Int} (h:OwnInts w base v l):∃ ao cap,v=.slice ao l.length cap∧RowAt w ao cap l:=by
 rcases h.2 with ⟨rfl,h0⟩|⟨g,cap,cur,rfl,h2,h3,h4,h5⟩
 ·have:l=[]:=List.length_eq_zero_iff.1 h0
  subst this
  exact⟨_,_,rfl,RowAt.nil w⟩
 ·refine⟨_,_,rfl,h4,(fun e=>by cases e),(fun a e _=>⟨g,0,by simpa using e.symm⟩),fun i hi=>⟨g,0,rfl,?_⟩⟩
  rw[Nat.zero_add]
  exact h.cells rfl i _ (by simp[intCells,List.getD,hi])
theorem RowAt.get {w:World} {ao:Option Addr} {cap:Nat} {l:List Int} (h:RowAt w ao cap l) (k:Nat) (hk:k<l.length):∃ a:Addr,(∀ W,(Instr.indexAt 32 (.slice ao l.length cap) (.int .i64 (k:Int))).run Tryz.prog W=.ok (.pointer (some a)) W)∧w.cell? a=some (.int .i64 (l.getD k 0))∧a.block<w.heap.size:=by
 obtain⟨b,o,h1,h2⟩:=h.cells k hk
 refine⟨⟨b,o+k,none⟩,fun W=>?_,h2,qF w _ h2⟩
 have:=atInts l.length cap k h1 hk W
 rwa [Addr.add_mid] at this
theorem RowAt.tail {w:World} {ao:Option Addr} {cap:Nat} {l:List Int} (h:RowAt w ao cap l) (k:Nat) (hk:k≤l.length):∃ bo,(∀ W,(Instr.slice 32 (.slice ao l.length cap) (some (.int .i64 (k:Int))) none none).run Tryz.prog W=.ok (.slice bo (l.length - k) (cap - k)) W)∧RowAt w bo (cap - k) (l.drop k):=by
 have hroom:=h.room
 cases ao with
 | none=>
   have hc:=h.bare rfl
   subst hc
   have hk0:k=0:=by omega
   have hl0:l.length=0:=by omega
   subst hk0
   refine⟨none,fun W=>?_,⟨by simp[hl0],fun _=>rfl,by simp,fun i hi=>absurd hi (by simp[hl0])⟩⟩
   rw[hl0,run_slice_l W 32 none 0 0 Tryz.elemInts .i64 ((0:Nat):Int) (by omega) (by omega),Tryz.sizeInts]
   simp[Result.andThen,sliced]
 | some a=>
   by_cases hcap:cap - k=0
   ·refine⟨some a,fun W=>?_,?_⟩
    ·rw[run_slice_l W 32 (some a) l.length cap Tryz.elemInts .i64 (k:Int) (by omega) (by omega),Tryz.sizeInts]
     simp only[Result.andThen,sliced,Int.toNat_natCast]
     rw[if_pos (by omega)]
    ·exact⟨by simp;omega,(fun e=>by cases e),(fun a _ h0=>absurd h0 (by omega)),fun i hi=>absurd hi (by simp;omega)⟩
   ·obtain⟨b,o,rfl⟩:=h.plain _ rfl (by omega)
    refine⟨some ⟨b,o+k,none⟩,fun W=>?_,?_⟩
    ·rw[run_slice_l W 32 (some ⟨b,o,none⟩) l.length cap Tryz.elemInts .i64 (k:Int) (by omega) (by omega),Tryz.sizeInts]
     simp only[Result.andThen,sliced,Int.toNat_natCast]
     rw[if_neg (by omega)]
     simp[Addr.add_mid]
    ·refine⟨by simp;omega,(fun e=>by cases e),(fun a e _=>⟨b,o+k,by simpa using e.symm⟩),fun i hi=>?_⟩
     have hi2:k+i<l.length:=by simp at hi;omega
     obtain⟨b',o',e1,e2⟩:=h.cells (k+i) hi2
     simp only[qQ,Addr.mk.injEq,and_true] at e1
     obtain⟨rfl,rfl⟩:=e1
     refine⟨b,o+k,rfl,?_⟩
     rw[show o+k+i=o+(k+i) by omega,e2]
     simp[List.getD]
theorem append_row (i0:TypeInfo) (hi:Tryz.prog.info? 3=some i0) (hz0:i0.zero=some (.int .i64 0)) (hz1:i0.size=1) (hz2:i0.bytes=8) {w0 w:World} {B:Nat} (v:Value) (xs:List Int) (h:OwnInts w B v xs) {ao:Option Addr} {cap:Nat} {news:List Int} (hr:RowAt w ao cap news) (hb:Below B w0 w) (hB:B≤w.heap.size) (hl:xs.length+news.length≤1000) (n:Nat) (hn:n=news.length) (ty:TypeId) :
  ∃ v' w',(Builtin.append_ #[32,32] ty #[v,.slice ao n cap]).run Tryz.prog w=.ok v' w'∧OwnInts w' B v' (xs++news)∧Below B w0 w'∧w.grownBy w' v.ownBlock:=by
 subst hn
 have hc:news=[]∨∃ a,ao=some a∧∀ j u,(intCells news)[j]?=some u→w.cell? (a.add j)=some u:=by
  by_cases hn:news=[]
  ·exact .inl hn
  ·have hpos:0<news.length:=List.length_pos_iff.2 hn
   obtain⟨b,o,h1,_⟩:=hr.cells 0 hpos
   refine .inr ⟨_,h1,fun j u hu=>?_⟩
   have hj:j<news.length:=by have:=(List.getElem?_eq_some_iff.1 hu).1;rwa [intCells_length] at this
   obtain⟨b',o',h2,h3⟩:=hr.cells j hj
   rw[h1] at h2
   simp only[qQ,Addr.mk.injEq,and_true] at h2
   obtain⟨rfl,rfl⟩:=h2
   rw[Addr.add_mid,h3,← hu]
   simp[intCells,List.getD,hj]
 obtain⟨v',w',h1,h2,h3⟩:=append_from i0 hi hz0 hz1 hz2 v xs h ty ao cap news hc hr.bare hB hl
 exact⟨v',w',h1,h2,h.after hb hB h3,h3⟩
theorem append_one (i0:TypeInfo) (hi:Tryz.prog.info? 3=some i0) (hz0:i0.zero=some (.int .i64 0)) (hz1:i0.size=1) (hz2:i0.bytes=8) {w0 w:World} {B:Nat} (v:Value) (xs:List Int) (x:Int) (h:OwnInts w B v xs) (b:Nat) (hbk:w.heap[b]?=some (.cells #[.int .i64 x] 3 (0,0))) (hb:Below B w0 w) (hB:B≤w.heap.size) (hl:xs.length≤999) (ty:TypeId) :
  ∃ v' w',(Builtin.append_ #[32,32] ty #[v,.slice (some ⟨b,0,none⟩) 1 1]).run Tryz.prog w=.ok v' w'∧(∃ a c,v'=.slice a (xs.length+1) c)∧OwnInts w' B v' (xs++[x])∧Below B w0 w':=by
 obtain⟨g,cap,w',h1,h2,h3,h4⟩:=push_one i0 hi hz0 hz1 hz2 v xs x h ty b hbk hB (by omega)
 exact⟨_,w',h1,⟨_,_,rfl⟩,h2,h.after hb hB h3⟩
end H
namespace H
open Go.RowKit
end H
namespace H
open Go.RowKit
theorem RowAt.get0 {w:World} {ao:Option Addr} {cap:Nat} {l:List Int} {n:Nat} (h:RowAt w ao cap l) (hn:l.length=n+1):∃ a:Addr,(∀ W,(Instr.indexAt 32 (.slice ao (n+1) cap) (.int .i64 0)).run Tryz.prog W=.ok (.pointer (some a)) W)∧w.cell? a=some (.int .i64 (l.getD 0 0))∧a.block<w.heap.size:=by
 have:=h.get 0 (by omega)
 rwa [hn] at this
theorem RowAt.tail1 {w:World} {ao:Option Addr} {cap:Nat} {y:Int} {l:List Int} (h:RowAt w ao cap (y::l)):∃ bo,(∀ W,(Instr.slice 32 (.slice ao (l.length+1) cap) (some (.int .i64 1)) none none).run Tryz.prog W=.ok (.slice bo l.length (cap - 1)) W)∧RowAt w bo (cap - 1) l:=by
 obtain⟨bo,h1,h2⟩:=h.tail 1 (by simp)
 exact⟨bo,fun W=>by have:=h1 W;simpa using this,h2⟩
theorem OwnInts.drew {w:World} {B:Nat} {v:Value} {l:List Int} (h:OwnInts w B v l):OwnInts w.drew B v l:=h
theorem below_drew {w0 w:World} {B:Nat} (h:Below B w0 w):Below B w0 w.drew:=⟨h.os,h.tape,h.output,h.size,h.block⟩
theorem both_any (a b:List Int) (ao bo:Option Addr) (ca cb n m:Nat) (hn:n=a.length) (hm:m=b.length) (w:World) (ha:RowAt w ao ca a) (hb:RowAt w bo cb b) (hl:a.length+b.length≤900) :
  Calls Tryz.prog 59 #[.slice ao n ca,.slice bo m cb] w fun e w'=>∃ u,e=.returned u∧OwnInts w' w.heap.size u (mergeL a b)∧Below w.heap.size w w':=by
 subst hn hm
 obtain⟨i0,hi,hz0,hz1,hz2⟩:=info_parts Tryz.infoInt
 have HB:=hid hb
 have HA:=hid ha
 clear hb ha
 have hM0:Hid (([]:List Int)++mergeL a (b.drop 0)=mergeL a b):=hid (by simp)
 generalize mergeL a b=M at *
 go_enter Tryz.func59,Tryz.ntmps59
 go_wp2_with (first
  | (at_make;refine wpList_make_own _ rfl _ _ 32 rfl w.heap.size 3 i0 (.int .i64 0) 1 Tryz.underlying32 hi hz0 hz1 .i64 .i64 _ (a.length+b.length) rfl rfl (by simp) (by rw[hz2];omega) (by unfold maxLen;omega) qL ?_;intro w0 hown0 hgrow0)
  | fail)
 have hbel0:Below w.heap.size w w0:=(qB _ _).grown hgrow0 qL (fun r hr=>by cases hr)
 replace hown0:Hid (OwnInts w0 w.heap.size (.slice (some ⟨w.heap.size,0,none⟩) 0 (a.length+b.length)) []):=hid hown0
 replace hbel0:=hid hbel0
 clear hgrow0
 go_wp2
 go_loopg [0,5,16] b.length (fun g va vr j wr=>∃ (k:Nat) (A R:List Int) (ao' ro:Option Addr) (ca' cr:Nat),k+g=b.length∧va=.slice ao' A.length ca'∧vr=.slice ro R.length cr∧j=.int .i64 (k:Int)∧R.length+A.length≤a.length+k∧Hid (RowAt w ao' ca' A)∧Hid (OwnInts wr w.heap.size (.slice ro R.length cr) R)∧Hid (R++mergeL A (b.drop k)=M)∧Hid (Below w.heap.size w wr))
 case atStart=>exact⟨0,a,[],ao,_,_,_,by omega,rfl,rfl,rfl,by simp,HA,hown0,hM0,hbel0⟩
 case round=>
  obtain⟨k,A,R,ao',ro,ca',cr,hk,rfl,rfl,rfl,hlen,hA,hR,hM,hbel⟩:=hrel
  clear HA hown0 hM0 hbel0
  cases gk with
  | zero=>
    have hke:k=b.length:=by omega
    subst hke
    have hM2:=hM.out
    rw[List.drop_length,mergeL_none] at hM2
    replace hM2:=hid hM2
    clear hM HB
    have A1:=hid (append_row i0 hi hz0 hz1 hz2 (w0:=w) _ R hR.out (hA.out.below hbel.out qL) hbel.out hbel.out.size (by omega) A.length rfl)
    go_wp2_with (first
     | (at_builtin;refine wpList_append_any rfl (.tmp 55) (.tmp 56) 32 rfl _ _ rfl rfl (A1.out _) ?_;rintro v1 w1 ⟨h1,b1,_⟩;replace h1:=hid h1;replace b1:=hid b1)
     | fail)
    go_ret
    refine⟨_,rfl,?_,b1.out⟩
    rw[← hM2.out]
    exact h1.out
  | succ g=>
    have hkb:k<b.length:=by omega
    obtain⟨pa,hx,hc,hpa⟩:=HB.out.get k hkb
    have hcell:wr.cell? pa=some (Value.int .i64 (b.getD k 0)):=(hbel.out.cell (p:=pa) hpa).trans hc
    have hM2:=hM.out
    rw[List.drop_eq_getElem_cons hkb,show b[k]=b.getD k 0 by simp[List.getD,hkb]] at hM2
    replace hM2:=hid hM2
    generalize b.getD k 0=y at *
    clear hc hM HB
    replace hpa:=hid hpa
    go_wp2_with fail
    go_loopg [0,5] A.length (fun gg va vr wq=>∃ (A' R':List Int) (ao2 ro2:Option Addr) (ca2 cr2:Nat),A'.length=gg∧va=.slice ao2 A'.length ca2∧vr=.slice ro2 R'.length cr2∧R'.length+A'.length≤a.length+k∧Hid (RowAt w ao2 ca2 A')∧Hid (OwnInts wq w.heap.size (.slice ro2 R'.length cr2) R')∧Hid (R'++mergeL A' (y::b.drop (k+1))=M)∧Hid (Below w.heap.size w wq))
    case atStart=>exact⟨A,R,ao',ro,ca',cr,rfl,rfl,rfl,hlen,hA,hR,hM2,hbel⟩
    case round=>
     obtain⟨A',R',ao2,ro2,ca2,cr2,hAg,rfl,rfl,hlen2,hA2,hR2,hM3,hbel2⟩:=hrel
     clear hA hR hM2 hbel hcell
     have hsz:=hbel2.out.size
     match A',hAg,hlen2,hA2,hR2,hM3 with
     | [],hAg,hlen2,hA2,hR2,hM3=>
       have hg0:gk=0:=by simpa using hAg.symm
       subst hg0
       clear hAg
       have hM4:=hM3.out
       rw[mergeL_nil] at hM4
       replace hM4:=hid hM4
       clear hM3
       have bA:=hid (hbel2.out.alloc hsz (.cells #[.int .i64 y] 3))
       have A1:=hid (append_one i0 hi hz0 hz1 hz2 (w0:=w) _ R' y (hR2.out.alloc (.cells #[.int .i64 y] 3)) _ (heap_newL _ _) bA.out (by simp;omega) (by omega))
       go_wp2_with (first
        | (at_builtin;refine wpList_append_any rfl (.tmp 50) (.tmp 52) 32 rfl _ _ rfl rfl (A1.out _) ?_;rintro v1 w1 ⟨⟨ra,rc,rfl⟩,h1,b1⟩;replace h1:=hid h1;replace b1:=hid b1)
        | fail)
       go_roundg g
       case rel=>exact⟨k+1,[],R'++[y],ao2,ra,ca2,rc,by omega,rfl,by simp,by go_num,by simp at hlen2 ⊢;omega,hA2,by simpa using h1,by simpa[mergeL_nil] using hM4,b1⟩
       case measure=>omega
     | z::A2,hAg,hlen2,hA2,hR2,hM3=>
       obtain⟨pz,hxz,hcz,hpz⟩:=hA2.out.get0 (n:=A2.length) rfl
       obtain⟨bo2,hsl,hA3⟩:=hA2.out.tail1
       rw[show (z::A2).getD 0 0=z from rfl,← hbel2.out.cell (p:=pz) hpz] at hcz
       clear hpz
       rw[qV] at hAg hlen2 ⊢
       subst hAg
       replace hA3:=hid hA3
       rcases Int.lt_trichotomy z y with hzy|hzy|hzy
       ·have hd:decide (z<y)=true:=by simpa using hzy
        have hM4:=hM3.out
        rw[mergeL_lt hzy] at hM4
        replace hM4:=hid hM4
        have bA:=hid ((below_drew hbel2.out).alloc hsz (.cells #[.int .i64 z] 3))
        have A1:=hid (append_one i0 hi hz0 hz1 hz2 (w0:=w) _ R' z (hR2.out.drew.alloc (.cells #[.int .i64 z] 3)) _ (heap_newL _ _) bA.out (by simp;omega) (by omega))
        go_wp2_with fail
        go_region_law (first
         | (refine step_append_any rfl (.tmp 30) (.tmp 34) 32 rfl _ _ rfl rfl (A1.out _) ?_;rintro v1 w1 ⟨⟨ra,rc,rfl⟩,h1,b1⟩;replace h1:=hid h1;replace b1:=hid b1))
        all_goals go_wp2
        all_goals go_roundg A2.length
        all_goals first
         | exact⟨A2,R'++[z],bo2,ra,ca2 - 1,rc,rfl,rfl,by simp,by simp at hlen2 ⊢;omega,hA3,by simpa using h1,by simpa using hM4,b1⟩
         | omega
       ·subst hzy
        have hM4:=hM3.out
        rw[mergeL_eq] at hM4
        replace hM4:=hid hM4
        have bA:=hid (hbel2.out.alloc hsz (.cells #[.int .i64 z] 3))
        have A1:=hid (append_one i0 hi hz0 hz1 hz2 (w0:=w) _ R' z (hR2.out.alloc (.cells #[.int .i64 z] 3)) _ (heap_newL _ _) bA.out (by simp;omega) (by omega))
        go_wp2_with (first
         | (at_builtin;refine wpList_append_any rfl (.tmp 50) (.tmp 52) 32 rfl _ _ rfl rfl (A1.out _) ?_;rintro v1 w1 ⟨⟨ra,rc,rfl⟩,h1,b1⟩;replace h1:=hid h1;replace b1:=hid b1)
         | fail)
        go_roundg g
        case rel=>exact⟨k+1,A2,R'++[z],bo2,ra,(ca2 - 1),rc,by omega,rfl,by simp,by go_num,by simp at hlen2 ⊢;omega,hA3,by simpa using h1,by simpa using hM4,b1⟩
        case measure=>omega
       ·have hM4:=hM3.out
        rw[mergeL_gt hzy] at hM4
        replace hM4:=hid hM4
        have hd:decide (z<y)=false:=by simp;omega
        have hd2:(z==y)=false:=by simp;omega
        have bA:=hid (hbel2.out.alloc hsz (.cells #[.int .i64 y] 3))
        have A1:=hid (append_one i0 hi hz0 hz1 hz2 (w0:=w) _ R' y (hR2.out.alloc (.cells #[.int .i64 y] 3)) _ (heap_newL _ _) bA.out (by simp;omega) (by omega))
        go_wp2_with (first
         | (at_builtin;refine wpList_append_any rfl (.tmp 50) (.tmp 52) 32 rfl _ _ rfl rfl (A1.out _) ?_;rintro v1 w1 ⟨⟨ra,rc,rfl⟩,h1,b1⟩;replace h1:=hid h1;replace b1:=hid b1)
         | fail)
        go_roundg g
        case rel=>exact⟨k+1,z::A2,R'++[y],ao2,ra,ca2,rc,by omega,rfl,by simp,by go_num,by simp at hlen2 ⊢;omega,hA2,by simpa using h1,by simpa using hM4,b1⟩
        case measure=>omega
end H
namespace H
open Go.RowKit
theorem with_any7 (a:List Int) (x:Int) (ao:Option Addr) (ca n:Nat) (hn:n=a.length) (w:World) (ha:RowAt w ao ca a) (hl:a.length≤800) :
  Calls Tryz.prog 31 #[.slice ao n ca,.int .i64 x] w fun e w'=>∃ u,e=.returned u∧OwnInts w' w.heap.size u (mergeL a [x])∧Below w.heap.size w w':=by
 subst hn
 have bA:=(qB w.heap.size w).alloc qL (.cells #[.int .i64 x] 3)
 have hB:RowAt (w.alloc (.cells #[.int .i64 x] 3)) (some ⟨w.heap.size,0,none⟩) 1 [x]:=by
  refine⟨by simp,(fun e=>by cases e),(fun a e _=>⟨_,_,by simpa using e.symm⟩),fun i hi=>⟨_,_,rfl,?_⟩⟩
  have h0:i=0:=by simpa using hi
  subst h0
  rw[cell_rowL (heap_newL w _)]
  rfl
 have C1:=hid (both_any a [x] ao _ ca 1 a.length 1 rfl rfl _ (ha.below bA qL) hB (by simp;omega))
 replace bA:=hid bA
 have hs1:w.heap.size≤(w.alloc (.cells #[.int .i64 x] 3)).heap.size:=by simp
 clear hB ha
 go_enter Tryz.func31,Tryz.ntmps31
 go_wp2_with fail
 refine C1.out.mono ?_
 rintro e w1 ⟨u,rfl,h1,b1⟩
 replace h1:=hid (h1.mono hs1)
 have hb:=hid (bA.out.trans (b1.mono hs1))
 clear b1 hs1 C1 bA
 obtain⟨uo,uc,rfl⟩:=h1.out.slice
 go_wp2
 go_ret
 exact⟨_,rfl,h1.out,hb.out⟩
end H
namespace H
open Go.RowKit
theorem search_any7 (w:World) (l:List Int) (x:Int) (ao:Option Addr) (cap:Nat) (h:RowAt w ao cap l) (hl:l.length≤1000) (hp:Up l) :
  Calls Tryz.prog 58 #[.slice ao l.length cap,.int .i64 x] w fun e w'=>e=.returned (.tuple #[.int .i64 (l.countP (·<x):Nat),.bool (l.contains x)])∧∃ q,w'=w.drewN q:=by
 by_cases h0:l=[]
 ·subst h0
  refine (Tryz.slices_BinarySearch_int_empty ao cap x w).mono ?_
  rintro e w' ⟨rfl,rfl⟩
  exact⟨by simp,0,rfl⟩
 ·have hpos:0<l.length:=List.length_pos_iff.2 h0
  obtain⟨b,o,rfl,_⟩:=h.cells 0 hpos
  have hc:∀ j,j<l.length→w.cell? ⟨b,o+j,none⟩=some (.int .i64 (l.getD j 0)):=by
   intro j hj
   obtain⟨b',o',e1,e2⟩:=h.cells j hj
   simp only[qQ,Addr.mk.injEq,and_true] at e1
   obtain⟨rfl,rfl⟩:=e1
   exact e2
  have:=Tryz.slices_BinarySearch_int b o l.length cap l x w qL (by omega) hc (by rw[List.take_length];exact List.Pairwise.imp (fun h=>Int.le_of_lt h) hp)
  rw[List.take_length] at this
  exact this
theorem has_any7 (l:List Int) (x:Int) (ao:Option Addr) (cap n:Nat) (hn:n=l.length) (w:World) (h:RowAt w ao cap l) (hl:l.length≤1000) (hp:Up l) :
  Calls Tryz.prog 30 #[.slice ao n cap,.int .i64 x] w fun e w'=>e=.returned (.bool (l.contains x))∧Below w.heap.size w w':=by
 subst hn
 have HS:=hid (search_any7 w l x ao cap h hl hp)
 clear h hp
 generalize l.contains x=c at *
 generalize l.countP (·<x)=c2 at *
 go_enter Tryz.func30,Tryz.ntmps30
 go_wp2_with (go_at_call 58;refine HS.out.mono ?_;rintro e w1 ⟨rfl,q,rfl⟩;have hb:=hid (below_draws w q);generalize w.drewN q=X at *)
 go_ret
 exact⟨rfl,hb.out⟩
def Fit (l:List Int):Prop:=∀ x∈l,-9223372036854775808≤x∧x<9223372036854775808
end H
namespace H
open Go.RowKit
end H
end Go.Proofs.YtbghhklbfnplbaaGreat

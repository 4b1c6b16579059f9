import Derived.Shelf.Slices.Clone
import Derived.Shelf.Slices.SearchI
import Derived.Shelf.Slices.Delete
import Derived.Shelf.Slices.Empties
import Derived.WalkKit
import Derived.WalkSpells
import Derived.WalkLawsBesides
import Derived.Deep.MidRow
import Derived.Deep.AppendLies
import Derived.Deep.RegionLaw
import Derived.Laws.AppendOwnNone
import Derived.Deep.QuietTactic
import Derived.BigQuiet
import Derived.Deep.LoopGhost
import Derived.RegionTactic
import Derived.OwnWalk
import Derived.Test.YtdihdchfigemnaaGreatProg
import Derived.Test.YtdihdchfigemnaaGreatRows
namespace Go.Proofs
open Go.Shelf
def Tryz.laysNm215_ren:Go.Shelf.Ren:=⟨fun | 15 => 67 | n => n,fun | 22 => 32 | 3 => 3 | 4 => 4 | n => n,fun | n => n⟩
theorem Tryz.laysNm215:Go.Proofs.Lays2.n15 Tryz.prog Tryz.laysNm215_ren:={
  mixed:=by kernel_rfl
  f15:=Tryz.func67.trans (congrArg some (by kernel_rfl))
  t3:=Tryz.underlying3
  a3:=Tryz.isAgg3
  z3:=Tryz.sizeOf3
  v3:=Tryz.zeroValue3
  t4:=Tryz.underlying4
  a4:=Tryz.isAgg4
  z4:=Tryz.sizeOf4
  v4:=Tryz.zeroValue4
  t22:=Tryz.underlying32
  a22:=Tryz.isAgg32
  z22:=Tryz.sizeOf32
  v22:=Tryz.zeroValue32
  i3:=by kernel_rfl }
open Go.RowKit Go.Lib in
theorem Tryz.slices_Clone_int (b off n c:Nat) (zs:List Int) (w:World) (hz:n ≤ zs.length) (hbig:n * 8 ≤ 140737488355328) (hc:∀ j,j < zs.length → w.cell? ⟨b,off + j,none⟩ = some (.int .i64 (zs.getD j 0))) :
    Calls Tryz.prog 67 #[.slice (some ⟨b,off,none⟩) n c] w fun e w' => ∃ v',e = .returned v' ∧ w'.ownsRow w.heap.size 3 1 v' n ((zs.take n).map (Value.int .i64)) ∧ v' ≠ .slice none 0 0 ∧ Below w.heap.size w w':=Any.slices_Clone_int Tryz.laysNm215 b off n c zs w hz hbig hc
open Go.RowKit Go.Lib in
theorem Tryz.slices_Clone_int_nil (n c:Nat) (w:World) :
    Calls Tryz.prog 67 #[.slice none n c] w fun e w' => e = .returned (.slice none 0 0) ∧ w' = w:=Any.slices_Clone_int_nil Tryz.laysNm215 n c w
open Go.RowKit Go.Lib in
theorem Tryz.slices_Clone_int_zero (a:Addr) (c:Nat) (w:World) :
    Calls Tryz.prog 67 #[.slice (some a) 0 c] w fun e w' => ∃ v',e = .returned v' ∧ w'.ownsRow w.heap.size 3 1 v' 0 [] ∧ v' ≠ .slice none 0 0 ∧ Below w.heap.size w w':=Any.slices_Clone_int_zero Tryz.laysNm215 a c w
end Go.Proofs
namespace Go.Proofs.YtdihdchfigemnaaGreat.H
open Go.RowKit
theorem hid {p:Prop} (h:p):Hid p:=h
theorem heap_newL (w:World) (o:Obj):(w.alloc o).heap[w.heap.size]? = some o:=heap_alloc_new w o
theorem cell_rowL {w:World} {b:Nat} {cs:Array Value} {T:TypeId} {fr:Nat × Nat} (hb:w.heap[b]? = some (.cells cs T fr)) (j:Nat):w.cell? ⟨b,j,none⟩ = cs[j]?:=by
  simp [World.cell?,hb]
theorem frozen_rowL {w:World} {b:Nat} {cs:Array Value} {T:TypeId} (hb:w.heap[b]? = some (.cells cs T (0,0))) (j:Nat):w.frozen? ⟨b,j,none⟩ = false:=by
  simp [World.frozen?,hb]
theorem lt_of_heap {w:World} {b:Nat} {o:Obj} (h:w.heap[b]? = some o):b < w.heap.size:=(Array.getElem?_eq_some_iff.1 h).1
theorem grown_setCell (w:World) (b o:Nat) (u:Value):w.grownBy (w.setCell ⟨b,o,none⟩ u) (some b):=
  ⟨rfl,rfl,rfl,by simp,fun k _ hne => by rw [Below.heap_setCell _ _ _ _ (by simpa using fun e => hne (by rw [e]))]⟩
theorem owns_stored {w:World} {base:Nat} {e:TypeId} {size g n cap:Nat} {xs:List Value} (h:w.ownsRow base e size (.slice (some ⟨g,0,none⟩) n cap) n xs) (i:Nat) (u:Value):(w.setCell ⟨g,i,none⟩ u).ownsRow base e size (.slice (some ⟨g,0,none⟩) n cap) n (xs.set i u):=by
  obtain ⟨h1,h2⟩:=h
  refine ⟨by simpa using h1,?_⟩
  rcases h2 with ⟨hv,_⟩ | ⟨g',cap',cur,hv,hb,hg,hn,hc,hs,ht⟩
  · cases hv
  · simp only [Value.slice.injEq,Option.some.injEq,Addr.mk.injEq,true_and,and_true] at hv
    obtain ⟨rfl,rfl⟩:=hv
    refine .inr ⟨g,cap,cur.setIfInBounds i u,rfl,hb,heap_setCell_same w g i cur e u hg,hn,hc,by simpa using hs,?_⟩
    rw [Array.toList_setIfInBounds,List.take_set,ht]
theorem Tryz.infoInt:(Tryz.prog.info? 3).map (fun i => (i.zero,i.size,i.bytes)) = some (some (.int .i64 0),1,8):=by kernel_rfl
theorem grown_alloc {w w':World} {row:Option Nat} {o:Obj} (g:(w.alloc o).grownBy w' row):w.grownBy w' row:=
  ⟨g.os,g.tape,g.output,by have:=g.size; simp at this; omega,fun k hk hne => (g.block k (by simp; omega) hne).trans (Below.heap_alloc w o k hk)⟩
theorem cut_head {t:TypeId} {ao:Option Addr} {len cap n size:Nat} (ht:Tryz.prog.underlying t = some (.slice (Tryz.prog.elem t))) (hs:∀ w,(Go.sizeOf (Tryz.prog.elem t)).run Tryz.prog w = .ok size w) (h:n ≤ cap) (w:World) :
    (Instr.slice t (.slice ao len cap) none (some (.int .i64 (n:Int))) none).run Tryz.prog w = .ok (.slice ao n cap) w:=by
  rw [run_slice_h w t ao len cap ht .i64 (n:Int) (by omega) (by omega),hs]
  simp only [Result.andThen,sliced,Int.toNat_natCast,Nat.zero_mul,Nat.sub_zero]
  cases ao <;> simp [Addr.add]
theorem index_at {t:TypeId} {ao:Option Addr} {a:Addr} (ht:Tryz.prog.underlying t = some (.slice (Tryz.prog.elem t))) (hs:∀ w,(Go.sizeOf (Tryz.prog.elem t)).run Tryz.prog w = .ok 1 w) (len cap k:Nat) (ha:ao = some a) (h:k < len) (w:World) :
    (Instr.indexAt t (.slice ao len cap) (.int .i64 (k:Int))).run Tryz.prog w = .ok (.pointer (some (a.add k))) w:=by
  subst ha
  rw [run_indexAt_slice (P:=Tryz.prog) w t a len cap .i64 k ht,if_pos (by omega),hs]
  simp only [Result.andThen,Int.toNat_natCast,Nat.mul_one]
def intCells (l:List Int):List Value:=l.map (Value.int .i64)
def OwnInts (w:World) (base:Nat) (v:Value) (l:List Int):Prop:=w.ownsRow base 3 1 v l.length (intCells l)
theorem OwnInts.slice {w:World} {base:Nat} {v:Value} {l:List Int} (h:OwnInts w base v l):∃ ao cap,v = .slice ao l.length cap:=by
  rcases h.2 with ⟨rfl,h0⟩ | ⟨g,cap,cur,rfl,_⟩
  · exact ⟨none,0,by rw [h0]⟩
  · exact ⟨_,_,rfl⟩
def IntsAt (w:World) (v:Value) (l:List Int):Prop:=
  ∃ ao cap,v = .slice ao l.length cap ∧ l.length ≤ maxLen ∧ ∀ i (h:i < l.length),∃ a,ao = some a ∧ w.cell? (a.add i) = some (.int .i64 l[i])
theorem IntsAt.below {w w':World} {v:Value} {l:List Int} (h:IntsAt w v l) (hb:Below w.heap.size w w'):IntsAt w' v l:=by
  obtain ⟨ao,cap,h1,h2,h3⟩:=h
  refine ⟨ao,cap,h1,h2,fun i hi => ?_⟩
  obtain ⟨a,ha,hc⟩:=h3 i hi
  exact ⟨a,ha,(hb.cell (p:=a.add i) (World.block_lt_of_cell? w _ hc)).trans hc⟩
theorem ints_nil (w:World):IntsAt w (.slice none 0 0) []:=⟨none,0,rfl,by simp,fun i hi => absurd hi (by simp)⟩
theorem OwnInts.at {w:World} {base:Nat} {v:Value} {l:List Int} (h:OwnInts w base v l) (hl:l.length ≤ maxLen):IntsAt w v l:=by
  obtain ⟨ao,cap,rfl⟩:=h.slice
  refine ⟨ao,cap,rfl,hl,fun i hi => ?_⟩
  rcases h.2 with ⟨hv,h0⟩ | ⟨g,cap',cur,hv,_⟩
  · omega
  · simp only [Value.slice.injEq,true_and] at hv
    obtain ⟨rfl,rfl⟩:=hv
    refine ⟨_,rfl,?_⟩
    have:=World.ownsRow.cellAt h i (by omega)
    rw [Addr.add_mid,Nat.zero_add,this]
    simp [intCells,hi]
theorem Tryz.elemInts:Tryz.prog.underlying 32 = some (.slice (Tryz.prog.elem 32)):=by kernel_rfl
theorem Tryz.sizeInts (w:World):(Go.sizeOf (Tryz.prog.elem 32)).run Tryz.prog w = .ok 1 w:=by kernel_rfl
theorem atInts {ao:Option Addr} {a:Addr} (len cap k:Nat) (ha:ao = some a) (h:k < len) (w:World):(Instr.indexAt 32 (.slice ao len cap) (.int .i64 (k:Int))).run Tryz.prog w = .ok (.pointer (some (a.add k))) w:=
  index_at Tryz.elemInts Tryz.sizeInts len cap k ha h w
theorem below_draws (w:World) (n:Nat):Below w.heap.size w (w.drewN n):=⟨rfl,rfl,rfl,Nat.le_refl _,fun _ _ => rfl⟩
theorem ret_bool {a b:Bool} (h:a = b):Ending.returned (.bool a) = .returned (.bool b):=by rw [h]
theorem intCells_append (l m:List Int):intCells (l ++ m) = intCells l ++ intCells m:=by simp [intCells]
theorem intCells_length (l:List Int):(intCells l).length = l.length:=by simp [intCells]
theorem intCells_one (l:List Int):∀ u ∈ intCells l,u.oneCell' = true:=by
  intro u hu
  obtain ⟨x,_,rfl⟩:=List.mem_map.1 hu
  rfl
theorem OwnInts.cells {w:World} {base g cap:Nat} {n:Nat} {l:List Int} (h:OwnInts w base (.slice (some ⟨g,0,none⟩) n cap) l) (hn:n = l.length):∀ j u,(intCells l)[j]? = some u → w.cell? ⟨g,j,none⟩ = some u:=by
  subst hn
  intro j u hu
  have hj:j < l.length:=by have:=(List.getElem?_eq_some_iff.1 hu).1; rwa [intCells_length] at this
  have:=World.ownsRow.cellAt h j (by omega)
  rw [this]
  exact hu
theorem append_from (i0:TypeInfo) (hi:Tryz.prog.info? 3 = some i0) (hz0:i0.zero = some (.int .i64 0)) (hz1:i0.size = 1) (hz2:i0.bytes = 8) {w:World} {B:Nat} (v:Value) (xs:List Int) (h:OwnInts w B v xs) (ty:TypeId) (ao:Option Addr) (cap:Nat) (news:List Int)
    (hc:news = [] ∨ ∃ a,ao = some a ∧ ∀ j u,(intCells news)[j]? = some u → w.cell? (a.add j) = some u) (hnil:ao = none → cap = 0) (hB:B ≤ w.heap.size) (hl:xs.length + news.length ≤ 1000) :
    ∃ v' w',(Builtin.append_ #[32,32] ty #[v,.slice ao news.length cap]).run Tryz.prog w = .ok v' w' ∧ OwnInts w' B v' (xs ++ news) ∧ w.grownBy w' v.ownBlock:=by
  by_cases hn:news = []
  · subst hn
    cases ao with
    | none =>
      by_cases hcap:cap = 0
      · subst hcap
        refine ⟨v,w,run_append_owned_none (P:=Tryz.prog) (w:=w) B 32 ty 3 i0 1 Tryz.underlying32 hi v xs.length (intCells xs) h,by simpa using h,World.grownBy.refl _ _⟩
      · exact absurd (hnil rfl) hcap
    | some a =>
      obtain ⟨v',w',h1,h2,h3,h4⟩:=run_append_own (P:=Tryz.prog) w B 32 ty 3 i0 (.int .i64 0) 1 8 Tryz.underlying32 hi hz0 hz1 hz2 rfl (by omega) v xs.length (intCells xs) h a 0 cap [] rfl (by simp) (by simp) (by unfold maxLen; simp at hl; omega) (by simp at hl; omega) hB
      exact ⟨v',w',h1,by simpa [OwnInts] using h2,h3⟩
  · obtain ⟨a,rfl,hcell⟩:=hc.resolve_left hn
    obtain ⟨v',w',h1,h2,h3,h4⟩:=run_append_own (P:=Tryz.prog) w B 32 ty 3 i0 (.int .i64 0) 1 8 Tryz.underlying32 hi hz0 hz1 hz2 rfl (by omega) v xs.length (intCells xs) h a news.length cap (intCells news) (by rw [intCells_length]; omega) hcell (intCells_one _) (by unfold maxLen; omega) (by omega) hB
    exact ⟨v',w',h1,by unfold OwnInts; rw [intCells_append,List.length_append]; exact h2,h3⟩
section
variable {P:Program} {w:World}
theorem wp_append_any {o:Oper} {a:Act} {K:Act → World → Prop} {Q:Exit → Act → World → Prop} (s x:Operand) (t:TypeId) (ho:o.op = .call { callee:=.builtin .append,args:=#[s,x],argTypes:=#[t,t] })
    (v u:Value) (hs:a.eval s = v) (hx:a.eval x = u) {R:Value → World → Prop} (h:∃ v' w',(Builtin.append_ #[t,t] o.type #[v,u]).run P w = .ok v' w' ∧ R v' w') (hK:∀ v' w',R v' w' → K (a.put o.dst v') w'):o.wp P a w K Q:=by
  obtain ⟨v',w',hrun,hR⟩:=h
  unfold Oper.wp
  simp [execOp,ho,resolve,invoke,builtin,hs,hx,hrun,Result.andThen]
  exact hK _ _ hR
theorem wpList_append_any {ops:Array Oper} {rest:List Oper} {o:Oper} {a:Act} {Q:Exit → Act → World → Prop} (hgd:o.guard = none) (s x:Operand) (t:TypeId) (ho:o.op = .call { callee:=.builtin .append,args:=#[s,x],argTypes:=#[t,t] })
    (v u:Value) (hs:a.eval s = v) (hx:a.eval x = u) {R:Value → World → Prop} (h:∃ v' w',(Builtin.append_ #[t,t] o.type #[v,u]).run P w = .ok v' w' ∧ R v' w') (hK:∀ v' w',R v' w' → wpList P ops Q rest (a.put o.dst v') w'):wpList P ops Q (o :: rest) a w:=
  wpList_plain hgd fun _ hh => wp_append_any s x t ho v u hs hx h fun v' w' hR => hh _ _ (hK v' w' hR)
theorem step_append_any {ops:Array Oper} {o:Oper} {a:Act} {K:Act → World → Prop} {Q:Exit → Act → World → Prop} {E:Prop} (hgd:o.guard = none) (s x:Operand) (t:TypeId) (ho:o.op = .call { callee:=.builtin .append,args:=#[s,x],argTypes:=#[t,t] })
    (v u:Value) (hs:a.eval s = v) (hx:a.eval x = u) {R:Value → World → Prop} (h:∃ v' w',(Builtin.append_ #[t,t] o.type #[v,u]).run P w = .ok v' w' ∧ R v' w') (hK:∀ v' w',R v' w' → K (a.put o.dst v') w') :
    if Region.wanted o (yielded ops a.tmps) = true then Oper.wp P o a w K Q else E:=by
  have hw:Region.wanted o (yielded ops a.tmps) = true:=by simp [Region.wanted,hgd]
  rw [if_pos hw]
  exact wp_append_any s x t ho v u hs hx h hK
end
theorem OwnInts.nil (w:World) (B:Nat):OwnInts w B (.slice none 0 0) []:=World.ownsRow_nil _ _ _ _
theorem OwnInts.alloc {w:World} {B:Nat} {v:Value} {l:List Int} (h:OwnInts w B v l) (o:Obj):OwnInts (w.alloc o) B v l:=World.ownsRow.alloc h o
theorem OwnInts.mono {w:World} {B C:Nat} {v:Value} {l:List Int} (h:OwnInts w B v l) (hC:C ≤ B):OwnInts w C v l:=by
  obtain ⟨h1,h2⟩:=h
  refine ⟨h1,?_⟩
  rcases h2 with h2 | ⟨g,cap,cur,rfl,hb,rest⟩
  · exact .inl h2
  · exact .inr ⟨g,cap,cur,rfl,by omega,rest⟩
theorem OwnInts.after {w w0 w':World} {B:Nat} {v:Value} {l:List Int} (h:OwnInts w B v l) (hb:Below B w0 w) (hB:B ≤ w.heap.size) (hg:w.grownBy w' v.ownBlock):Below B w0 w':=
  hb.grown hg hB (fun r hr => (World.ownsRow.lt h r hr).1)
theorem tail_at (g n cap k:Nat) (h:k < n) (hc:n ≤ cap) (w:World) :
    (Instr.slice 32 (.slice (some ⟨g,0,none⟩) n cap) (some (.int .i64 (k:Int))) none none).run Tryz.prog w = .ok (.slice (some ⟨g,k,none⟩) (n - k) (cap - k)) w:=by
  rw [run_slice_l w 32 (some ⟨g,0,none⟩) n cap Tryz.elemInts .i64 (k:Int) (by omega) (by omega),Tryz.sizeInts]
  simp only [Result.andThen,sliced,Int.toNat_natCast]
  rw [if_neg (by omega)]
  simp [Addr.add_mid]
theorem push_one (i0:TypeInfo) (hi:Tryz.prog.info? 3 = some i0) (hz0:i0.zero = some (.int .i64 0)) (hz1:i0.size = 1) (hz2:i0.bytes = 8) {w:World} {B:Nat} (v:Value) (l:List Int) (x:Int) (h:OwnInts w B v l) (ty:TypeId) (b:Nat)
    (hb:w.heap[b]? = some (.cells #[.int .i64 x] 3 (0,0))) (hB:B ≤ w.heap.size) (hl:l.length ≤ 1000) :
    ∃ g cap w',(Builtin.append_ #[32,32] ty #[v,.slice (some ⟨b,0,none⟩) 1 1]).run Tryz.prog w = .ok (.slice (some ⟨g,0,none⟩) (l.length + 1) cap) w' ∧ OwnInts w' B (.slice (some ⟨g,0,none⟩) (l.length + 1) cap) (l ++ [x]) ∧ w.grownBy w' v.ownBlock ∧ (v.ownBlock = some g ∨ w.heap.size ≤ g):=by
  obtain ⟨g,cap,w',h1,h2,h3,h4,_⟩:=run_append_lies (P:=Tryz.prog) w 32 ty B 3 i0 (.int .i64 0) 1 8 Tryz.underlying32 hi hz0 hz1 hz2 rfl (by omega) v l.length (intCells l) h ⟨b,0,none⟩ 1 1 [.int .i64 x] rfl (World.news_of_block hb) (by simp [Value.oneCell']) (by omega) (by unfold maxLen; omega) (by omega) hB w.heap.size rfl
  exact ⟨g,cap,w',h1,by simpa [OwnInts,intCells] using h2,h3,h4.imp id (fun e => by omega)⟩
end Go.Proofs.YtdihdchfigemnaaGreat.H
namespace Go.Proofs.YtdihdchfigemnaaGreat.H
open Go.RowKit
def Up (l:List Int):Prop:=l.Pairwise (· < ·)
theorem up_cons {x:Int} {l:List Int}:Up (x :: l) ↔ (∀ y ∈ l,x < y) ∧ Up l:=List.pairwise_cons
theorem up_nil:Up []:=List.Pairwise.nil
theorem up_ext:∀ (l m:List Int),Up l → Up m → (∀ x,x ∈ l ↔ x ∈ m) → l = m
  | [],[],_,_,_ => rfl
  | [],y :: m,_,_,h => absurd ((h y).2 (by simp)) (by simp)
  | x :: l,[],_,_,h => absurd ((h x).1 (by simp)) (by simp)
  | x :: l,y :: m,hl,hm,h => by
    rw [up_cons] at hl hm
    have hxy:x = y:=by
      have h1:=(h x).1 (by simp)
      have h2:=(h y).2 (by simp)
      rcases List.mem_cons.1 h1 with e | e
      · exact e
      · rcases List.mem_cons.1 h2 with e2 | e2
        · exact e2.symm
        · have:=hl.1 y e2
          have:=hm.1 x e
          omega
    subst hxy
    rw [up_ext l m hl.2 hm.2 ?_]
    intro z
    constructor
    · intro hz
      have hne:z ≠ x:=by have:=hl.1 z hz; omega
      exact (List.mem_cons.1 ((h z).1 (List.mem_cons_of_mem _ hz))).resolve_left hne
    · intro hz
      have hne:z ≠ x:=by have:=hm.1 z hz; omega
      exact (List.mem_cons.1 ((h z).2 (List.mem_cons_of_mem _ hz))).resolve_left hne
def skipOne (n:Int):List Int → List Int
  | [] => []
  | y :: a => if y = n then a else y :: a
def mergeL:List Int → List Int → List Int
  | a,[] => a
  | a,n :: b => a.takeWhile (fun y => decide (y < n)) ++ n :: mergeL (skipOne n (a.dropWhile (fun y => decide (y < n)))) b
def dropL (l:List Int) (f n:Int):List Int:=l.filter fun x => decide (x < f) || decide (max n 0 ≤ x - f)
def RunI (l:List Int) (n i:Nat):Prop:=1 ≤ n ∧ i + n ≤ l.length ∧ ∀ j,j < n → l.getD (i + j) 0 = l.getD i 0 + (j:Int)
def RunIs (l:List Int) (n:Nat) (x:Int) (ok:Bool):Prop:=(ok = true ∧ ∃ i,RunI l n i ∧ x = l.getD i 0 ∧ ∀ k,k < i → ¬ RunI l n k) ∨ (ok = false ∧ x = 0 ∧ ∀ i,¬ RunI l n i)
theorem up_get {l:List Int} (h:Up l) {i j:Nat} (hij:i < j) (hj:j < l.length):l.getD i 0 < l.getD j 0:=by
  have:=List.pairwise_iff_getElem.1 h i j (by omega) hj hij
  simpa [List.getD,hj,show i < l.length by omega] using this
end Go.Proofs.YtdihdchfigemnaaGreat.H
namespace Go.Proofs.YtdihdchfigemnaaGreat.H
open Go.RowKit
structure RowAt (w:World) (ao:Option Addr) (cap:Nat) (l:List Int):Prop where
  room:l.length ≤ cap
  bare:ao = none → cap = 0
  plain:∀ a,ao = some a → 0 < cap → ∃ b o,a = ⟨b,o,none⟩
  cells:∀ i (_:i < l.length),∃ b o,ao = some ⟨b,o,none⟩ ∧ w.cell? ⟨b,o + i,none⟩ = some (.int .i64 (l.getD i 0))
theorem RowAt.nil (w:World):RowAt w none 0 []:=⟨by simp,fun _ => rfl,by simp,fun i hi => absurd hi (by simp)⟩
theorem RowAt.below {w w':World} {ao:Option Addr} {cap B:Nat} {l:List Int} (h:RowAt w ao cap l) (hb:Below B w w') (hB:w.heap.size ≤ B):RowAt w' ao cap l:=by
  refine ⟨h.room,h.bare,h.plain,fun i hi => ?_⟩
  obtain ⟨b,o,h1,h2⟩:=h.cells i hi
  have h3:=World.block_lt_of_cell? w _ h2
  exact ⟨b,o,h1,(hb.cell (p:=⟨b,o + i,none⟩) (Nat.lt_of_lt_of_le h3 hB)).trans h2⟩
theorem RowAt.get {w:World} {ao:Option Addr} {cap:Nat} {l:List Int} (h:RowAt w ao cap l) (k:Nat) (hk:k < l.length):∃ a:Addr,(∀ W,(Instr.indexAt 32 (.slice ao l.length cap) (.int .i64 (k:Int))).run Tryz.prog W = .ok (.pointer (some a)) W) ∧ w.cell? a = some (.int .i64 (l.getD k 0)) ∧ a.block < w.heap.size:=by
  obtain ⟨b,o,h1,h2⟩:=h.cells k hk
  refine ⟨⟨b,o + k,none⟩,fun W => ?_,h2,World.block_lt_of_cell? w _ h2⟩
  have:=atInts l.length cap k h1 hk W
  rwa [Addr.add_mid] at this
theorem append_one (i0:TypeInfo) (hi:Tryz.prog.info? 3 = some i0) (hz0:i0.zero = some (.int .i64 0)) (hz1:i0.size = 1) (hz2:i0.bytes = 8) {w0 w:World} {B:Nat} (v:Value) (xs:List Int) (x:Int) (h:OwnInts w B v xs) (b:Nat) (hbk:w.heap[b]? = some (.cells #[.int .i64 x] 3 (0,0))) (hb:Below B w0 w) (hB:B ≤ w.heap.size) (hl:xs.length ≤ 999) (ty:TypeId) :
    ∃ v' w',(Builtin.append_ #[32,32] ty #[v,.slice (some ⟨b,0,none⟩) 1 1]).run Tryz.prog w = .ok v' w' ∧ (∃ a c,v' = .slice a (xs.length + 1) c) ∧ OwnInts w' B v' (xs ++ [x]) ∧ Below B w0 w':=by
  obtain ⟨g,cap,w',h1,h2,h3,h4⟩:=push_one i0 hi hz0 hz1 hz2 v xs x h ty b hbk hB (by omega)
  exact ⟨_,w',h1,⟨_,_,rfl⟩,h2,h.after hb hB h3⟩
end Go.Proofs.YtdihdchfigemnaaGreat.H
namespace Go.Proofs.YtdihdchfigemnaaGreat.H
open Go.RowKit
end Go.Proofs.YtdihdchfigemnaaGreat.H
namespace Go.Proofs.YtdihdchfigemnaaGreat.H
open Go.RowKit
end Go.Proofs.YtdihdchfigemnaaGreat.H
namespace Go.Proofs.YtdihdchfigemnaaGreat.H
open Go.RowKit
end Go.Proofs.YtdihdchfigemnaaGreat.H
namespace Go.Proofs.YtdihdchfigemnaaGreat.H
open Go.RowKit
def Fit (l:List Int):Prop:=∀ x ∈ l,-9223372036854775808 ≤ x ∧ x < 9223372036854775808
end Go.Proofs.YtdihdchfigemnaaGreat.H
namespace Go.Proofs.YtdihdchfigemnaaGreat.H
open Go.RowKit
end Go.Proofs.YtdihdchfigemnaaGreat.H

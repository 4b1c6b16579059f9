import Derived.Lib.AppendZeros
import Derived.Deep.LoopGhost
import Derived.RangeFuncNested
import Derived.RangeFuncBound
import Derived.RangeFuncCalls
import Derived.RangeFuncLeaves
import Derived.Shelf.Abstract
import Derived.Shelf.RegionOpen
import Derived.WalkKit
import Derived.OwnWalkIn
import Derived.TacticsInMore
import Derived.LoopNIn
import Derived.LoopIn
import Derived.Below
import Derived.CallsIn
import Derived.Test.YtbghhklbfnplbaaGreatC00
import Derived.Test.YtbghhklbfnplbaaGreatC15
import Derived.Test.YtbghhklbfnplbaaGreatProg
import Derived.Test.YtbghhklbfnplbaaGreatT01
import Derived.Test.YtbghhklbfnplbaaGreatC42
import Derived.Test.YtbghhklbfnplbaaGreatC49
set_option maxHeartbeats 4000000
set_option maxRecDepth 10000
namespace Go.Proofs.YtbghhklbfnplbaaGreat
section
open Go.RowKit
theorem hidT {p:Prop} (h:p):Hid p:=h
theorem Tryz.infoSpotT:(Tryz.prog.info? 86).map (fun i=>(i.zero,i.size,i.bytes))=some (some (.agg #[.int .i64 0,.int .i64 0,.string ⟨#[]⟩,.string ⟨#[]⟩,.int .i64 0,.slice none 0 0,.slice none 0 0,.slice none 0 0,.string ⟨#[]⟩,.slice none 0 0,.slice none 0 0,.int .i64 0,.int .u64 0,.int .i64 0,.int .i64 0,.int .i64 0,.int .i64 0,.int .i64 0]),18,248):=by kernel_rfl
theorem Tryz.szSpotT (w:World):(Go.sizeOf 86).run Tryz.prog w=.ok 18 w:=by kernel_rfl
theorem zeroCells_size (z:Array Value) (n:Nat):(Builtin.zeroCells z n).size=n*z.size:=by simp[Builtin.zeroCells]
section
variable {P:Program} {w:World}
theorem wpList_append_make {ops:Array Oper} {rest:List Oper} {o:Oper} {a:Act} {Q:Exit→Act→World→Prop} (hgd:o.guard=none) (s x:Operand) (t t2:TypeId) (ho:o.op=.call { callee:=.builtin .append,args:=#[s,x],argTypes:=#[t,t2] })
  (v u:Value) (hs:a.eval s=v) (hx:a.eval x=u) {R:Value→World→Prop} (h:∃ v' w',(Builtin.append_ #[t,t2] o.type #[v,u]).run P w=.ok v' w'∧R v' w') (hK:∀ v' w',R v' w'→wpList P ops Q rest (a.put o.dst v') w'):wpList P ops Q (o::rest) a w:=
 wpList_plain hgd fun _ hh=>by
  obtain⟨v',w',hrun,hR⟩:=h
  unfold Oper.wp
  simp[execOp,ho,resolve,invoke,builtin,hs,hx,hrun,Result.andThen]
  exact hh _ _ (hK _ _ hR)
end
theorem grow_nil (n:Nat) (h0:0<n) (h1:n≤200000) (w:World):∃ v' W',(Builtin.append_ #[119,3] 119 #[.slice none 0 0,.int .i64 (n:Int)]).run Tryz.prog w=.ok v' W'∧∃ g cap,v'=.slice (some ⟨g,0,none⟩) n cap∧n≤cap∧W'.ownsRow w.heap.size 86 18 (.slice (some ⟨g,0,none⟩) 0 cap) 0 []∧Below w.heap.size w W':=by
 obtain⟨i,hi,hz,hs,hb⟩:=info_parts Tryz.infoSpotT
 have h:=Lib.run_append_nil_zeros (P:=Tryz.prog) w 119 3 119 86 i _ .i64 .i64 Tryz.underlying119 Tryz.underlying3 hi hz n h0 (by omega) (by omega) (by rw[hb];omega)
 have hge:=grownCap_ge w n 0 86
 have hle:=grownCap_le_maxLen w n 0 86 (by unfold maxLen;omega)
 refine⟨_,_,h,_,_,rfl,hge,?_,((qB _ w).drew).alloc qL _⟩
 refine World.ownsRow_made (base:=w.heap.size) (e:=86) (size:=18) w.drew _ _ qL hle ?_
 rw[Array.size_append,zeroCells_size,zeroCells_size,← Nat.add_mul,Nat.add_sub_cancel' hge]
 rfl
theorem grow_spots (n:Nat) (hn:n≤200000) (w:World) :
  Calls Tryz.prog 81 #[.slice none 0 0,.int .i64 (n:Int)] w fun e W=>∃ ao cap,e=.returned (.slice ao 0 cap)∧W.ownsRow w.heap.size 86 18 (.slice ao 0 cap) 0 []∧Below w.heap.size w W:=by
 have h1:¬ ((n:Int)<0):=by omega
 have h3:wrap64 ((n:Int) - 0)=(n:Int):=by unfold wrap64;omega
 by_cases h0:n=0
 ·subst h0
  go_enter Tryz.func81,Tryz.ntmps81
  go_wp2
  go_ret
  exact⟨none,0,rfl,World.ownsRow_nil _ _ _ _,qB _ _⟩
 ·have HG:=hidT (grow_nil n (by omega) hn w)
  have h4:decide ((n:Int) > 0)=true:=by simp;omega
  have hsl:Hid (∀ g cap V,n≤cap→(Instr.slice 119 (.slice (some ⟨g,0,none⟩) n cap) none (some (.int .i64 0)) none).run Tryz.prog V=.ok (.slice (some ⟨g,0,none⟩) 0 cap) V):=hidT (fun g cap V hcap=>by
   rw[run_slice_h V 119 (some ⟨g,0,none⟩) n cap Tryz.underlying119 .i64 0 (by omega) (by omega),elem_of Tryz.underlying119,Tryz.szSpotT]
   simp[Result.andThen,sliced,Addr.add])
  go_enter Tryz.func81,Tryz.ntmps81
  go_wp2_with (first|(at_builtin;refine wpList_append_make rfl (.tmp 20) (.tmp 21) 119 3 rfl _ _ rfl rfl HG.out ?_;rintro v2 W' ⟨g,cap,rfl,hcap,ho,hb⟩;have ho:=hidT ho;have hb:=hidT hb;have hs1:=hsl.out g cap W' hcap;clear hcap)|fail)
  go_ret
  exact⟨_,_,rfl,ho.out,hb.out⟩
section
variable {P:Program} {w:World}
theorem wpList_append_two {ops:Array Oper} {rest:List Oper} {o:Oper} {a:Act} {Q:Exit→Act→World→Prop} (hgd:o.guard=none) (s x:Operand) (t:TypeId) (ho:o.op=.call { callee:=.builtin .append,args:=#[s,x],argTypes:=#[t,t] })
  (v u:Value) (hs:a.eval s=v) (hx:a.eval x=u) {R:Value→World→Prop} (h:∃ v' w',(Builtin.append_ #[t,t] o.type #[v,u]).run P w=.ok v' w'∧R v' w') (hK:∀ v' w',R v' w'→wpList P ops Q rest (a.put o.dst v') w'):wpList P ops Q (o::rest) a w:=
 wpList_append_make hgd s x t t ho v u hs hx h hK
end
theorem concat_spots (b n1 n2 cap1 cap2:Nat) (ao1 ao2:Option Addr) (cs1 cs2:List Value) (w:World) (hb:w.heap[b]?=some (.cells #[.slice ao1 n1 cap1,.slice ao2 n2 cap2] 119 (0,0))) (h1:SlAt 18 w ao1 cap1 n1 cs1) (h2:SlAt 18 w ao2 cap2 n2 cs2) (hn:n1+n2≤100000) :
  Calls Tryz.prog 56 #[.slice (some ⟨b,0,none⟩) 2 2] w fun e W=>∃ ao cap,e=.returned (.slice ao (n1+n2) cap)∧W.ownsRow w.heap.size 86 18 (.slice ao (n1+n2) cap) (n1+n2) (cs1++cs2)∧Below w.heap.size w W:=by
 have CG:=hidT (fun n (hn:n≤200000) V=>grow_spots n hn V)
 have hlt:=hidT (qA hb)
 have c0:∀ j,w.cell? ⟨b,j,none⟩=(#[.slice ao1 n1 cap1,.slice ao2 n2 cap2]:Array Value)[j]?:=fun j=>by simp[World.cell?,hb]
 have H1:=hidT h1
 have H2:=hidT h2
 have hnH:=hidT hn
 clear hb h1 h2
 have i0:∀ V,(Instr.indexAt 159 (.slice (some ⟨b,0,none⟩) 2 2) (.int .i64 0)).run Tryz.prog V=.ok (.pointer (some ⟨b,0,none⟩)) V:=fun V=>by kernel_rfl
 have i1:∀ V,(Instr.indexAt 159 (.slice (some ⟨b,0,none⟩) 2 2) (.int .i64 1)).run Tryz.prog V=.ok (.pointer (some ⟨b,1,none⟩)) V:=fun V=>by kernel_rfl
 go_enter Tryz.func56,Tryz.ntmps56
 go_wp2
 go_loopg [3,11] 2 (fun g v3 v11 wr=>w=wr∧((g=2∧v11=.int .i64 0∧v3=.int .i64 0)∨(g=1∧v11=.int .i64 1∧v3=.int .i64 (n1:Int))∨(g=0∧v11=.int .i64 2∧v3=.int .i64 ((n1+n2:Nat):Int))))
 case atStart=>exact⟨rfl,.inl ⟨rfl,rfl,rfl⟩⟩
 case round=>
  obtain⟨rfl,⟨rfl,rfl,rfl⟩|⟨rfl,rfl,rfl⟩|⟨rfl,rfl,rfl⟩⟩:=hrel
  ·have hx:¬ ((n1:Int)<0):=by omega
   have hy:wrap64 ((n1:Int))=(n1:Int):=by unfold wrap64;omega
   go_wp2
   go_roundg 1
   case rel=>exact⟨rfl,.inr (.inl ⟨rfl,rfl,by go_num⟩)⟩
   case measure=>omega
  ·have hx:¬ ((n1:Int)+(n2:Int)<0):=by omega
   have hy:wrap64 ((n1:Int)+(n2:Int))=(n1:Int)+(n2:Int):=by unfold wrap64;omega
   go_wp2
   go_roundg 0
   case rel=>exact⟨rfl,.inr (.inr ⟨rfl,rfl,by go_num⟩)⟩
   case measure=>omega
  ·have CG2:=hidT (CG.out (n1+n2) (by omega) w)
   clear CG
   go_wp2_with fail
   refine CG2.out.mono ?_
   rintro e W ⟨ao,cap,rfl,ho,hB⟩
   have ho:=hidT ho
   have hB:=hidT hB
   clear CG2
   go_wp2
   go_loopg [6,27] 2 (fun g v6 v27 wr=>Hid (Below w.heap.size w wr)∧((∃ a c,g=2∧v27=.int .i64 0∧v6=.slice a 0 c∧Hid (wr.ownsRow w.heap.size 86 18 (.slice a 0 c) 0 []))∨(∃ a c,g=1∧v27=.int .i64 1∧v6=.slice a n1 c∧Hid (wr.ownsRow w.heap.size 86 18 (.slice a n1 c) n1 cs1))∨(∃ a c,g=0∧v27=.int .i64 2∧v6=.slice a (n1+n2) c∧Hid (wr.ownsRow w.heap.size 86 18 (.slice a (n1+n2) c) (n1+n2) (cs1++cs2)))))
   case atStart=>exact⟨hB,.inl ⟨_,_,rfl,rfl,rfl,ho⟩⟩
   case round=>
    clear ho hB
    obtain⟨hB,⟨a,c,rfl,rfl,rfl,hO⟩|⟨a,c,rfl,rfl,rfl,hO⟩|⟨a,c,rfl,rfl,rfl,hO⟩⟩:=hrel
    ·have cq:∀ j,wr.cell? ⟨b,j,none⟩=(#[.slice ao1 n1 cap1,.slice ao2 n2 cap2]:Array Value)[j]?:=fun j=>(World.cell?_of_block (a:=⟨b,j,none⟩) (hB.out.block _ hlt.out)).trans (c0 j)
     have HA:=hidT (fun ty=>app_formG (H1.out.below hB.out) (by omega) Tryz.underlying119 Tryz.infoSpotT rfl hO.out hB.out.size (by have:=hnH.out;omega) (by omega) hB.out ty)
     simp only[Nat.zero_add,List.nil_append] at HA
     clear c0
     go_wp2_with (first|(at_builtin;refine wpList_append_two rfl (.tmp 31) (.tmp 32) 119 rfl _ _ rfl rfl (HA.out _) ?_;rintro v2 w2 ⟨⟨a2,c2,rfl⟩,ho2,hb2,-⟩;replace ho2:=hidT ho2;replace hb2:=hidT hb2)|fail)
     go_roundg 1
     case rel=>exact⟨hb2,.inr (.inl ⟨a2,c2,rfl,rfl,rfl,ho2⟩)⟩
     case measure=>omega
    ·have cq:∀ j,wr.cell? ⟨b,j,none⟩=(#[.slice ao1 n1 cap1,.slice ao2 n2 cap2]:Array Value)[j]?:=fun j=>(World.cell?_of_block (a:=⟨b,j,none⟩) (hB.out.block _ hlt.out)).trans (c0 j)
     have HA:=hidT (fun ty=>app_formG (H2.out.below hB.out) (by omega) Tryz.underlying119 Tryz.infoSpotT rfl hO.out hB.out.size (by have:=hnH.out;omega) (by omega) hB.out ty)
     clear c0
     go_wp2_with (first|(at_builtin;refine wpList_append_two rfl (.tmp 31) (.tmp 32) 119 rfl _ _ rfl rfl (HA.out _) ?_;rintro v2 w2 ⟨⟨a2,c2,rfl⟩,ho2,hb2,-⟩;replace ho2:=hidT ho2;replace hb2:=hidT hb2)|fail)
     go_roundg 0
     case rel=>exact⟨hb2,.inr (.inr ⟨a2,c2,rfl,rfl,rfl,ho2⟩)⟩
     case measure=>omega
    ·go_wp2
     go_ret
     exact⟨a,c,rfl,hO.out,hB.out⟩
end
section
open Go.RowKit
def nearC (n:Near):List Value:=spotCells n noPage ⟨.slice none 0 0,.slice none 0 0,.slice none 0 0,.slice none 0 0,.slice none 0 0⟩
def nearsC (l:List Near):List Value:=l.flatMap nearC
theorem nearC_one (n:Near):∀ u∈nearC n,u.oneCell'=true:=by
 intro u hu
 simp only[nearC,spotCells,cellsPV,pageCells,noPage,List.mem_cons,List.not_mem_nil,or_false] at hu
 rcases hu with rfl|rfl|rfl|rfl|rfl|rfl|rfl|rfl|rfl|rfl|rfl|rfl|rfl|rfl|rfl|rfl|rfl|rfl<;>rfl
theorem nearsC_one (l:List Near):∀ u∈nearsC l,u.oneCell'=true:=by
 intro u hu
 obtain⟨n,_,h⟩:=List.mem_flatMap.1 hu
 exact nearC_one n u h
theorem under_take (n:Near) (p:PageD) {k:Nat} (hk:k<p.kids.length):kidsFrom (n.depth+1) p.keys n.high 0 n.low (p.kids.take (k+1))=kidsFrom (n.depth+1) p.keys n.high 0 n.low (p.kids.take k)++[⟨p.kids.getD k 0,n.depth+1,if k=0 then n.low else highOf p.keys n.high (k - 1),highOf p.keys n.high k⟩]:=by
 have hgd:p.kids.getD k 0=p.kids[k]:=by simp[List.getD,hk]
 rw[hgd,qT hk,kidsFrom_append]
 have hl:(p.kids.take k).length=k:=by simp;omega
 have he:(p.kids.take k=[])↔k=0:=by
  constructor
  ·intro h;rw[h] at hl;exact hl.symm
  ·rintro rfl;rfl
 rw[hl,Nat.zero_add]
 simp only[he]
def lowAt (n:Near) (p:PageD) (k:Nat):ByteArray:=if k=0 then n.low else highOf p.keys n.high (k - 1)
def firstUnder (n:Near) (p:PageD) (k:Nat):List Near:=kidsFrom (n.depth+1) p.keys n.high 0 n.low (p.kids.take k)
theorem firstUnder_step (n:Near) (p:PageD) {k:Nat} (hk:k<p.kids.length):nearsC (firstUnder n p (k+1))=nearsC (firstUnder n p k)++nearC ⟨p.kids.getD k 0,n.depth+1,lowAt n p k,highOf p.keys n.high k⟩:=by
 unfold firstUnder
 rw[under_take n p hk]
 simp[nearsC,lowAt]
theorem children_spot (n:Near) (p:PageD) (u:PV) (W:World) (hg:Hangs W p u.i u.k u.d u.v u.f) (hm:p.kids.length≤1000) (hd:n.depth≤100) :
  Calls Tryz.prog 57 #[.agg (spotCells n p u).toArray] W fun e w'=>∃ a c,e=.returned (.slice a p.kids.length c)∧w'.ownsRow (W.heap.size+1) 86 18 (.slice a p.kids.length c) p.kids.length (nearsC (under n p))∧Below W.heap.size W w':=by
 have hu:=hg.slices
 have HI:=hidT (fun V (hV:Below W.heap.size W V)=>(hg.below hV).kids)
 have HK:=hidT (fun V (hV:Below W.heap.size W V)=>(hg.below hV).keys)
 obtain⟨ao,co,e1,-⟩:=hg.keys
 obtain⟨ao3,co3,e3,-⟩:=hg.kids
 clear hg
 obtain⟨ui,uk,ud,uv,uf⟩:=u
 obtain⟨⟨ai,ni,ci,rfl⟩,⟨ak,nk,ck,rfl⟩,⟨ad,nd,cd,rfl⟩,⟨av,nv,cv,rfl⟩,⟨af,nf,cf,rfl⟩⟩:=hu
 simp only[qR] at e1 e3
 obtain⟨rfl,rfl,rfl⟩:=e1
 obtain⟨rfl,rfl,rfl⟩:=e3
 have hKI:=hidT (fun k hk=>ints_get (Q:=fun V=>Below W.heap.size W V) (qB _ _) HI.out (k:=k) hk)
 have hKK:=hidT (fun k hk=>strs_get (Q:=fun V=>Below W.heap.size W V) (qB _ _) HK.out (k:=k) hk)
 clear HI HK
 show Calls Tryz.prog 57 #[.agg #[.int .i64 n.id,.int .i64 (n.depth:Int),.string n.low,.string n.high,.int .i64 p.kind,.slice ai ni ci,.slice ak p.keys.length ck,.slice ad p.kids.length cd,.string p.text,.slice av nv cv,.slice af nf cf,.int .i64 p.next,.int .u64 p.mt.txn,.int .i64 p.mt.main.page,.int .i64 p.mt.main.count,.int .i64 p.mt.main.flags,.int .i64 p.mt.free,.int .i64 p.mt.last]] W _
 have cB:=cell_rowL (heap_newL W (.cells #[.int .i64 n.id,.int .i64 (n.depth:Int),.string n.low,.string n.high,.int .i64 p.kind,.slice ai ni ci,.slice ak p.keys.length ck,.slice ad p.kids.length cd,.string p.text,.slice av nv cv,.slice af nf cf,.int .i64 p.next,.int .u64 p.mt.txn,.int .i64 p.mt.main.page,.int .i64 p.mt.main.count,.int .i64 p.mt.main.flags,.int .i64 p.mt.free,.int .i64 p.mt.last] 86))
 have hW1:=hidT (belowBox W (.cells #[.int .i64 n.id,.int .i64 (n.depth:Int),.string n.low,.string n.high,.int .i64 p.kind,.slice ai ni ci,.slice ak p.keys.length ck,.slice ad p.kids.length cd,.string p.text,.slice av nv cv,.slice af nf cf,.int .i64 p.next,.int .u64 p.mt.txn,.int .i64 p.mt.main.page,.int .i64 p.mt.main.count,.int .i64 p.mt.main.flags,.int .i64 p.mt.free,.int .i64 p.mt.last] 86))
 have hsz:Hid ((W.alloc (.cells #[.int .i64 n.id,.int .i64 (n.depth:Int),.string n.low,.string n.high,.int .i64 p.kind,.slice ai ni ci,.slice ak p.keys.length ck,.slice ad p.kids.length cd,.string p.text,.slice av nv cv,.slice af nf cf,.int .i64 p.next,.int .u64 p.mt.txn,.int .i64 p.mt.main.page,.int .i64 p.mt.main.count,.int .i64 p.mt.main.flags,.int .i64 p.mt.free,.int .i64 p.mt.last] 86)).heap.size=W.heap.size+1):=hidT (by simp)
 have hmH:=hidT hm
 have hdH:=hidT hd
 clear hm hd
 go_enter Tryz.func57,Tryz.ntmps57
 go_wp2
 obtain⟨X,hX⟩:∃ X,W.alloc (.cells #[.int .i64 n.id,.int .i64 (n.depth:Int),.string n.low,.string n.high,.int .i64 p.kind,.slice ai ni ci,.slice ak p.keys.length ck,.slice ad p.kids.length cd,.string p.text,.slice av nv cv,.slice af nf cf,.int .i64 p.next,.int .u64 p.mt.txn,.int .i64 p.mt.main.page,.int .i64 p.mt.main.count,.int .i64 p.mt.main.flags,.int .i64 p.mt.free,.int .i64 p.mt.last] 86)=X:=⟨_,rfl⟩
 rw[hX] at cB hW1 hsz ⊢
 clear hX
 go_loopg [3,4,14] p.kids.length (fun g v3 v4 v14 wr=>∃ (k:Nat) (a:Option Addr) (c:Nat),k+g=p.kids.length∧v14=.int .i64 (k:Int)∧v3=.slice a k c∧v4=.string (lowAt n p k)∧Hid (wr.ownsRow (W.heap.size+1) 86 18 (.slice a k c) k (nearsC (firstUnder n p k)))∧Hid (Below (W.heap.size+1) X wr))
 case atStart=>exact⟨0,none,0,by omega,rfl,rfl,rfl,hidT (World.ownsRow_nil _ _ _ _),hidT (qB _ _)⟩
 case round=>
  obtain⟨k,a,c,hk,rfl,rfl,rfl,hO,hB⟩:=hrel
  cases gk with
  | zero=>
    obtain rfl:k=p.kids.length:=by omega
    clear hKI hKK
    go_wp2
    go_ret
    refine⟨a,c,rfl,?_,hW1.out.trans (hB.out.mono (by omega))⟩
    have:=hO.out
    unfold firstUnder at this
    rw[List.take_length] at this
    exact this
  | succ g=>
    have hlk:k<p.kids.length:=by omega
    have hkb:k≤1000:=by have:=hmH.out;omega
    have hdd:n.depth≤100:=hdH.out
    obtain⟨ka,hix,hkc⟩:=hKI.out k hlk
    have hBW:Below W.heap.size W wr:=hW1.out.trans (hB.out.mono (by omega))
    have hkc:=hkc wr hBW
    have hsz2:Hid (W.heap.size+1≤wr.heap.size):=hidT (by have:=hB.out.size;have:=hsz.out;omega)
    have cR:∀ j,wr.cell? ⟨W.heap.size,j,none⟩=(#[.int .i64 n.id,.int .i64 (n.depth:Int),.string n.low,.string n.high,.int .i64 p.kind,.slice ai ni ci,.slice ak p.keys.length ck,.slice ad p.kids.length cd,.string p.text,.slice av nv cv,.slice af nf cf,.int .i64 p.next,.int .u64 p.mt.txn,.int .i64 p.mt.main.page,.int .i64 p.mt.main.count,.int .i64 p.mt.main.flags,.int .i64 p.mt.free,.int .i64 p.mt.last]:Array Value)[j]?:=fun j=>(World.cell?_of_block (a:=⟨W.heap.size,j,none⟩) (hB.out.block _ (by simp))).trans (cB j)
    have hst:=hidT (firstUnder_step n p hlk)
    have hlow:Hid (lowAt n p (k+1)=highOf p.keys n.high k):=hidT (by simp[lowAt])
    clear hKI
    clear cB
    generalize p.kids.getD k 0=id at *
    by_cases hk1:k+1<p.keys.length
    ·obtain⟨kb,hiy,hyc⟩:=hKK.out (k+1) hk1
     have hyc:=hyc wr hBW
     have d1:decide ((k:Int)+1<(p.keys.length:Int))=true:=by simp;omega
     have hy1:Hid (highOf p.keys n.high k=p.keys.getD (k+1) ⟨#[]⟩):=hidT (if_pos hk1)
     have ecast:(((k+1:Nat)):Int)=(k:Int)+1:=by omega
     rw[ecast] at hiy
     clear hKK hk1 ecast
     generalize p.keys.getD (k+1) ⟨#[]⟩=y at *
     have HAP:Hid (∀ ty,∃ v' w',(Builtin.append_ #[119,119] ty #[.slice a k c,.slice (some ⟨wr.heap.size,0,none⟩) 1 1]).run Tryz.prog (wr.alloc (.cells #[.int .i64 id,.int .i64 ((n.depth:Int)+1),.string (lowAt n p k),.string y,.int .i64 0,.slice none 0 0,.slice none 0 0,.slice none 0 0,.string ⟨#[]⟩,.slice none 0 0,.slice none 0 0,.int .i64 0,.int .u64 0,.int .i64 0,.int .i64 0,.int .i64 0,.int .i64 0,.int .i64 0] 86))=.ok v' w'∧(∃ a c,v'=.slice a (k+1) c)∧w'.ownsRow (W.heap.size+1) 86 18 v' (k+1) (nearsC (firstUnder n p (k+1)))∧Below (W.heap.size+1) X w'):=hidT (fun ty=>by
      have hnb:=heap_newL wr (.cells #[.int .i64 id,.int .i64 ((n.depth:Int)+1),.string (lowAt n p k),.string y,.int .i64 0,.slice none 0 0,.slice none 0 0,.slice none 0 0,.string ⟨#[]⟩,.slice none 0 0,.slice none 0 0,.int .i64 0,.int .u64 0,.int .i64 0,.int .i64 0,.int .i64 0,.int .i64 0,.int .i64 0] 86)
      rw[show (#[.int .i64 id,.int .i64 ((n.depth:Int)+1),.string (lowAt n p k),.string y,.int .i64 0,.slice none 0 0,.slice none 0 0,.slice none 0 0,.string ⟨#[]⟩,.slice none 0 0,.slice none 0 0,.int .i64 0,.int .u64 0,.int .i64 0,.int .i64 0,.int .i64 0,.int .i64 0,.int .i64 0]:Array Value)=(nearC ⟨id,n.depth+1,lowAt n p k,y⟩).toArray from rfl] at hnb ⊢
      obtain⟨v',w',h1,h2,h3,h4,_⟩:=app_formG (n:=1) (cap:=1) (SlAt.ofBlock hnb (by rfl) (nearC_one _)) (by omega) Tryz.underlying119 Tryz.infoSpotT rfl (World.ownsRow.alloc hO.out _) (by have:=hsz2.out;simp;omega) (by omega) (by omega) (hB.out.alloc hsz2.out _) ty
      rw[hst.out,hy1.out]
      exact⟨v',w',h1,h2,h3,h4⟩)
     go_wp2_with (first|(at_builtin;refine wpList_append_two rfl (.tmp 35) (.tmp 43) 119 rfl _ _ rfl rfl (HAP.out _) ?_;rintro v2 w2 ⟨⟨a2,c2,rfl⟩,ho2,hb2⟩;replace ho2:=hidT ho2;replace hb2:=hidT hb2)|fail)
     go_roundg g
     case rel=>exact⟨k+1,a2,c2,by omega,by go_num,rfl,by rw[hlow.out,hy1.out],ho2,hb2⟩
     case measure=>omega
    ·have d1:decide ((k:Int)+1<(p.keys.length:Int))=false:=by simp;omega
     have hy1:Hid (highOf p.keys n.high k=n.high):=hidT (if_neg hk1)
     clear hKK hk1
     have HAP:Hid (∀ ty,∃ v' w',(Builtin.append_ #[119,119] ty #[.slice a k c,.slice (some ⟨wr.heap.size,0,none⟩) 1 1]).run Tryz.prog (wr.alloc (.cells #[.int .i64 id,.int .i64 ((n.depth:Int)+1),.string (lowAt n p k),.string n.high,.int .i64 0,.slice none 0 0,.slice none 0 0,.slice none 0 0,.string ⟨#[]⟩,.slice none 0 0,.slice none 0 0,.int .i64 0,.int .u64 0,.int .i64 0,.int .i64 0,.int .i64 0,.int .i64 0,.int .i64 0] 86))=.ok v' w'∧(∃ a c,v'=.slice a (k+1) c)∧w'.ownsRow (W.heap.size+1) 86 18 v' (k+1) (nearsC (firstUnder n p (k+1)))∧Below (W.heap.size+1) X w'):=hidT (fun ty=>by
      have hnb:=heap_newL wr (.cells #[.int .i64 id,.int .i64 ((n.depth:Int)+1),.string (lowAt n p k),.string n.high,.int .i64 0,.slice none 0 0,.slice none 0 0,.slice none 0 0,.string ⟨#[]⟩,.slice none 0 0,.slice none 0 0,.int .i64 0,.int .u64 0,.int .i64 0,.int .i64 0,.int .i64 0,.int .i64 0,.int .i64 0] 86)
      rw[show (#[.int .i64 id,.int .i64 ((n.depth:Int)+1),.string (lowAt n p k),.string n.high,.int .i64 0,.slice none 0 0,.slice none 0 0,.slice none 0 0,.string ⟨#[]⟩,.slice none 0 0,.slice none 0 0,.int .i64 0,.int .u64 0,.int .i64 0,.int .i64 0,.int .i64 0,.int .i64 0,.int .i64 0]:Array Value)=(nearC ⟨id,n.depth+1,lowAt n p k,n.high⟩).toArray from rfl] at hnb ⊢
      obtain⟨v',w',h1,h2,h3,h4,_⟩:=app_formG (n:=1) (cap:=1) (SlAt.ofBlock hnb (by rfl) (nearC_one _)) (by omega) Tryz.underlying119 Tryz.infoSpotT rfl (World.ownsRow.alloc hO.out _) (by have:=hsz2.out;simp;omega) (by omega) (by omega) (hB.out.alloc hsz2.out _) ty
      rw[hst.out,hy1.out]
      exact⟨v',w',h1,h2,h3,h4⟩)
     go_wp2_with (first|(at_builtin;refine wpList_append_two rfl (.tmp 35) (.tmp 43) 119 rfl _ _ rfl rfl (HAP.out _) ?_;rintro v2 w2 ⟨⟨a2,c2,rfl⟩,ho2,hb2⟩;replace ho2:=hidT ho2;replace hb2:=hidT hb2)|fail)
     go_roundg g
     case rel=>exact⟨k+1,a2,c2,by omega,by go_num,rfl,by rw[hlow.out,hy1.out],ho2,hb2⟩
     case measure=>omega
end
section
open Go.RowKit
theorem heap_setCell_other_kind (w:World) (k o:Nat) (u:Value) (h:∀ cs T fr,w.heap[k]?≠some (.cells cs T fr)):(w.setCell ⟨k,o,none⟩ u).heap[k]?=w.heap[k]?:=by
 simp only[World.setCell,Array.getElem?_modify]
 cases hh:w.heap[k]? with
 | none=>simp
 | some ob=>cases ob with
   | cells cs T fr=>exact absurd hh (h cs T fr)
   | _=>simp
structure BodyKeeps (n0:Nat→Prop) (B:Nat) (w w':World):Prop where
 os:w'.os=w.os
 tape:w'.tape=w.tape
 output:w'.output=w.output
 size:w.heap.size≤w'.heap.size
 block:∀ k,k<w.heap.size→(¬ n0 k∨B≤k∨∀ cs T fr,w.heap[k]?≠some (.cells cs T fr))→w'.heap[k]?=w.heap[k]?
structure Turn (lo:Nat) (w w':World):Prop where
 os:w'.os=w.os
 tape:w'.tape=w.tape
 output:w'.output=w.output
 size:w.heap.size≤w'.heap.size
 block:∀ k,k<w.heap.size→(k<lo∨∀ r,w.heap[k]?≠some (.loop r))→w'.heap[k]?=w.heap[k]?
theorem BodyKeeps.trans {n0:Nat→Prop} {B:Nat} {w w1 w2:World} (h:BodyKeeps n0 B w w1) (k:BodyKeeps n0 B w1 w2):BodyKeeps n0 B w w2:=
 ⟨k.os.trans h.os,k.tape.trans h.tape,k.output.trans h.output,qN h.size k.size,fun i hi hc=>by
  have e:=h.block i hi hc
  exact (k.block i (qM hi h.size) (by rw[e];exact hc)).trans e⟩
theorem BodyKeeps.below {n0:Nat→Prop} {B:Nat} {w w':World} (h:Below w.heap.size w w'):BodyKeeps n0 B w w':=⟨h.os,h.tape,h.output,h.size,fun k hk _=>h.block k hk⟩
theorem BodyKeeps.setCell {n0:Nat→Prop} {B b o:Nat} (w:World) (u:Value) (h1:n0 b) (h2:b<B):BodyKeeps n0 B w (w.setCell ⟨b,o,none⟩ u):=by
 refine⟨rfl,rfl,rfl,by simp,fun k hk hc=>?_⟩
 by_cases e:k=b
 ·subst e
  rcases hc with hc|hc|hc
  ·exact absurd h1 hc
  ·omega
  ·rw[heap_setCell_other_kind w k o u hc]
 ·exact Below.heap_setCell _ _ _ _ (by simpa using e)
theorem BodyKeeps.cell' {n0:Nat→Prop} {B b o:Nat} {w w':World} (h:BodyKeeps n0 B w w') (u:Value) (h1:n0 b) (h2:b<B):BodyKeeps n0 B w (w'.setCell ⟨b,o,none⟩ u):=h.trans (.setCell _ u h1 h2)
theorem BodyKeeps.then {n0:Nat→Prop} {B:Nat} {w w1 w2:World} (h:BodyKeeps n0 B w w1) (k:Below w1.heap.size w1 w2):BodyKeeps n0 B w w2:=h.trans (.below k)
theorem BodyKeeps.grown {n0:Nat→Prop} {B:Nat} {w w':World} {row:Option Nat} (h:w.grownBy w' row) (hr:∀ g,row=some g→(n0 g∧g<B∨w.heap.size≤g)∧∃ cs T fr,w.heap[g]?=some (.cells cs T fr)):BodyKeeps n0 B w w':=
 ⟨h.os,h.tape,h.output,h.size,fun k hk hc=>h.block k hk (fun e=>by
  obtain⟨h1,cs,T,fr,h2⟩:=hr k e.symm
  rcases h1 with ⟨h3,h4⟩|h3
  ·rcases hc with hc|hc|hc
   ·exact hc h3
   ·omega
   ·exact hc _ _ _ h2
  ·omega)⟩
theorem Turn.below {lo:Nat} {w w':World} (h:Below w.heap.size w w'):Turn lo w w':=⟨h.os,h.tape,h.output,h.size,fun k hk _=>h.block k hk⟩
theorem Turn.trans {lo:Nat} {w w1 w2:World} (h:Turn lo w w1) (k:Turn lo w1 w2):Turn lo w w2:=
 ⟨k.os.trans h.os,k.tape.trans h.tape,k.output.trans h.output,qN h.size k.size,fun i hi hc=>by
  have e:=h.block i hi hc
  exact (k.block i (qM hi h.size) (by rw[e];exact hc)).trans e⟩
theorem Turn.putObj {lo:Nat} {w:World} {l:Nat} {r:Loop} (o:Obj) (h:w.heap[l]?=some (.loop r)) (hl:lo≤l):Turn lo w (w.putObj l o):=
 ⟨rfl,rfl,rfl,by simp,fun k _ hc=>World.putObj_heap_other (fun e=>by
  rcases hc with hc|hc
  ·omega
  ·exact hc r (by rw[e];exact h))⟩
theorem Turn.cells {lo:Nat} {w w':World} (h:Turn lo w w') {k:Nat} {cs:Array Value} {T:TypeId} {fr:Nat × Nat} (hk:w.heap[k]?=some (.cells cs T fr)):w'.heap[k]?=some (.cells cs T fr):=
 (h.block k (qA hk) (.inr fun r e=>by rw[hk] at e;cases e)).trans hk
theorem Turn.bel {lo n:Nat} {X w w':World} (h:Turn lo w w') (hb:Below n X w) (hn:n≤lo) (hs:n≤w.heap.size):Below n X w':=
 ⟨h.os.trans hb.os,h.tape.trans hb.tape,h.output.trans hb.output,qN hb.size h.size,fun k hk=>(h.block k (by omega) (.inl (by omega))).trans (hb.block k hk)⟩
def Tells {α:Type} (F:Fence) (n:Nat) (P:Program) (g:Nat) (lb:Array Value) (arity:Nat) (At:α→Array Value→Nat→World→Prop) (n0:Nat→Prop) (S:List α) (w:World):Prop:=
 ∀ (l:Nat) (J Jx:List α→World→Prop) (W:World),Below w.heap.size w W→J [] W →
   (∀ pre x args W0 W1,pre++[x] <+: S→args.size=arity→J pre W0→Below W0.heap.size W0 W1→At x args W0.heap.size W1→YieldAt F (n - 1) P l args W1 fun e W'=>
    (e=.returned (.bool true)∧J (pre++[x]) W'∧BodyKeeps n0 W0.heap.size W1 W')∨(e=.returned (.bool false)∧Jx (pre++[x]) W')) →
   CallsIn F n P g (#[.func (.yield l) #[] #[]]++lb) W fun e W'=>(∃ v,e=.returned v)∧((∃ W0,J S W0∧Below W0.heap.size W0 W')∨(∃ pre x W0,pre++[x] <+: S∧Jx (pre++[x]) W0∧Below W0.heap.size W0 W'))
def leaves {α:Type} (n0:Nat→Prop) (B:Nat) (I:List α→World→Prop) (Ix:Code→List α→World→Prop) (xs:List α) (W:World):Exit→Act→World→Prop
 | .normal,_,W'=>BodyKeeps n0 B W W'∧I xs W'
 | .ret,_,W'=>BodyKeeps n0 B W W'∧Ix .ret xs W'
 | .exit id,_,W'=>BodyKeeps n0 B W W'∧Ix (.exit id) xs W'
 | .goto t,_,W'=>BodyKeeps n0 B W W'∧Ix (.goto t) xs W'
 | .panic _,_,_=>False
 | .outgrown,_,_=>False
section
variable {F:Fence} {n:Nat} {P:Program}
theorem range_tells {α:Type} {g:Operand} {ps:Array Tmp} {assign body:Code} {Q:Exit→Act→World→Prop} {a:Act} {w:World}
  (hro:F.round=none) (h1:1≤n) {gf:Nat} {lb:Array Value} (hg:a.eval g=.func (.func gf) #[] lb) (hFg:F.fn gf) (eg:∀ args w,(callFunc gf args).run P w=.ok (.enter gf args) w)
  {At:α→Array Value→Nat→World→Prop} {n0:Nat→Prop} {S:List α} {w0:World} (hT:Tells F (n - 1) P gf lb ps.size At n0 S w0) (hb0:Below w0.heap.size w0 w)
  (I:List α→World→Prop) (Ix:Code→List α→World→Prop) (hI:∀ xs W W',I xs W→Turn w.heap.size W W'→I xs W') (hIx:∀ c xs W W',Ix c xs W→Turn w.heap.size W W'→Ix c xs W') (h0:I [] w)
  (Ax:α→Array Value→Act→World→Prop)
  (hassign:∀ (l:Nat) (pre:List α) (x:α) (args:Array Value) (B:Nat) (W:World) (K:Act→World→Prop),I pre W→At x args B W→(∀ a' W',Below W.heap.size W W'→Ax x args a' W'→K a' W') →
   assign.wpIn (F.inRound l) (n - 1 - 1) P (Exit.then K (fun _ _ _=>False)) { tmps:=(ps.zip args).foldl (fun t (p,v)=>t.setIfInBounds p v) a.tmps,defers:=[] } W)
  (hbody:∀ (l:Nat) (pre:List α) (x:α) (args:Array Value) (a':Act) (W0 W1 Wa W:World),w.heap.size<l→pre++[x] <+: S→I pre W0→w.heap.size+1<W0.heap.size→Below W0.heap.size W0 W1→At x args W0.heap.size W1→Below W1.heap.size W1 Wa→Ax x args a' Wa →
   W.heap.size=Wa.heap.size→(∀ k,k<w.heap.size∨W0.heap.size≤k→W.heap[k]?=Wa.heap[k]?)→I pre W→Turn w.heap.size W0 W→body.wpIn (F.inRound l) (n - 1 - 1) P (leaves n0 W0.heap.size I Ix (pre++[x]) W) a' W)
  (hdone:∀ (D:Nat) (W:World),w.heap.size≤D→I S W→W.heap[D]?=some (.deferred (some []))→Q .normal { a with defers:={ target:=.collected D,args:=#[] }::a.defers } W)
  (hstop:∀ (D:Nat) (c:Code) (pre:List α) (x:α) (W:World),w.heap.size≤D→pre++[x] <+: S→Ix c (pre++[x]) W→W.heap[D]?=some (.deferred (some []))→c.wpIn F n P Q { a with defers:={ target:=.collected D,args:=#[] }::a.defers } W) :
  (Code.rangeFunc g ps assign body).wpIn F n P Q a w:=by
 refine wpIn_rangeFunc fun fn hfn=>?_
 rw[hro]
 -- the record's states,by a letter
 obtain⟨R,hR⟩:∃ R:LoopState→Option Code→Loop,∀ st pe,R st pe={ state:=st,pending:=pe,fn,tmps:=a.tmps,params:=ps,assign,body,defers:=w.heap.size }:=⟨_,fun _ _=>rfl⟩
 have hent:=run_enterLoop_outer (P:=P) (w:=w) fn a.tmps ps assign body
 rw[← hR .ready none] at hent
 obtain⟨V,hV⟩:∃ V,(w.alloc (.deferred (some []))).alloc (.loop (R .ready none))=V:=⟨_,rfl⟩
 rw[hV] at hent
 have hwV:Below w.heap.size w V:=by rw[← hV];exact ((qB _ w).alloc qL _).alloc (by simp) _
 have hVs:V.heap.size=w.heap.size+2:=by rw[← hV];simp
 have recV:V.heap[w.heap.size+1]?=some (.loop (R .ready none)):=by
  have e:=World.alloc_heap_new (w.alloc (.deferred (some []))) (.loop (R .ready none))
  rw[World.size_alloc,hV] at e
  exact e
 have defV:V.heap[w.heap.size]?=some (.deferred (some [])):=by
  rw[← hV];exact (qE _ _ _ (by simp)).trans (World.alloc_heap_new w _)
 refine⟨_,_,_,{ target:=.fn (.func gf) lb,args:=#[.func (.yield (w.heap.size+1)) #[] #[]] },V,gf,#[.func (.yield (w.heap.size+1)) #[] #[]]++lb,V,hent,?_,?_,?_,fun _=>h1,?_⟩
 ·simp only[resolve,hg]
  simp[go_sem]
 ·intro f' hf'
  simp[Target.leads] at hf'
  exact hf' ▸ hFg
 ·simp[invoke,go_sem,eg]
 refine (hT (w.heap.size+1) (fun pre W=>I pre W∧W.heap[w.heap.size+1]?=some (.loop (R .ready none))∧W.heap[w.heap.size]?=some (.deferred (some [])))
  (fun pre W=>∃ c,Ix c pre W∧W.heap[w.heap.size+1]?=some (.loop (R .done (some c)))∧W.heap[w.heap.size]?=some (.deferred (some [])))
  V (hb0.trans (hwV.mono hb0.size)) ⟨hI _ _ _ h0 (.below hwV),recV,defV⟩ ?_).mono ?_
 ·rintro pre x args W0 W1 hpre hargs ⟨hi,hl,hd⟩ hb1 hat
  have hlt:w.heap.size+1<W0.heap.size:=(qA hl)
  have hl1:=(hb1.block _ hlt).trans hl
  have hd1:=(hb1.block _ (Nat.lt_of_succ_lt hlt)).trans hd
  have hy:=run_yield (P:=P) (args:=args) hl1 (by rw[hR];exact hargs)
  rw[hR] at hy
  refine⟨_,_,_,_,hy,roundIn_of_wpIn hfn (hassign _ pre x args W0.heap.size W1 _ (hI _ _ _ hi (.below hb1)) hat fun a' Wa hba hax=>?_)⟩
  have hla:=(hba.block _ (qM hlt hb1.size)).trans hl1
  have hda:=(hba.block _ (qM (Nat.lt_of_succ_lt hlt) hb1.size)).trans hd1
  have hlta:w.heap.size+1<Wa.heap.size:=(qA hla)
  refine⟨_,run_beginRound hla (by rw[hR]),?_⟩
  obtain⟨W,hW⟩:∃ W,Wa.putObj (w.heap.size+1) (.loop { R .ready none with state:=.busy })=W:=⟨_,rfl⟩
  have hlW:W.heap[w.heap.size+1]?=some (.loop (R .busy none)):=by rw[← hW,hR,hR];exact World.putObj_heap_same hlta
  have hoth:∀ k,k≠w.heap.size+1→W.heap[k]?=Wa.heap[k]?:=fun k hk=>by rw[← hW];exact World.putObj_heap_other hk
  have hWs:W.heap.size=Wa.heap.size:=by rw[← hW];simp
  have hTa:Turn w.heap.size Wa W:=by rw[← hW];exact Turn.putObj _ hla (by omega)
  have hT0:Turn w.heap.size W0 W:=((Turn.below hb1).trans (.below hba)).trans hTa
  have hdW:W.heap[w.heap.size]?=some (.deferred (some [])):=(hoth _ (by omega)).trans hda
  rw[hW]
  refine wpIn_mono (hbody _ pre x args a' W0 W1 Wa W (by omega) hpre hi hlt hb1 hat hba hax hWs (fun k hk=>hoth k (by omega)) (hI _ _ _ hi hT0) hT0) ?_
  have fin:∀ (j:Option Code) (W3:World),BodyKeeps n0 W0.heap.size W W3→(Instr.endRound (w.heap.size+1) j).run P W3=.ok (.bool j.isNone) (W3.putObj (w.heap.size+1) (.loop (R (if j.isNone then .ready else .done) j))) ∧
    (W3.putObj (w.heap.size+1) (.loop (R (if j.isNone then .ready else .done) j))).heap[w.heap.size+1]?=some (.loop (R (if j.isNone then .ready else .done) j))∧(W3.putObj (w.heap.size+1) (.loop (R (if j.isNone then .ready else .done) j))).heap[w.heap.size]?=some (.deferred (some [])) ∧
    Turn w.heap.size W3 (W3.putObj (w.heap.size+1) (.loop (R (if j.isNone then .ready else .done) j)))∧(j=none→BodyKeeps n0 W0.heap.size W1 (W3.putObj (w.heap.size+1) (.loop (R (if j.isNone then .ready else .done) j)))):=by
   intro j W3 hk
   have h3:W3.heap[w.heap.size+1]?=some (.loop (R .busy none)):=(hk.block _ (qA hlW) (.inr (.inr fun _ _ _ e=>by rw[hlW] at e;cases e))).trans hlW
   have h4:W3.heap[w.heap.size]?=some (.deferred (some [])):=(hk.block _ (qA hdW) (.inr (.inr fun _ _ _ e=>by rw[hdW] at e;cases e))).trans hdW
   have h5:=run_endRound (P:=P) j h3
   rw[hR] at h5
   refine⟨by rw[hR];exact h5,World.putObj_heap_same (qA h3),(World.putObj_heap_other (by omega)).trans h4,Turn.putObj _ h3 (by omega),?_⟩
   rintro rfl
   refine⟨?_,?_,?_,?_,fun k hk1 hc=>?_⟩
   ·exact hk.os.trans (hTa.os.trans hba.os)
   ·exact hk.tape.trans (hTa.tape.trans hba.tape)
   ·exact hk.output.trans (hTa.output.trans hba.output)
   ·rw[World.putObj_size]
    exact qN hba.size (hWs ▸ hk.size)
   ·by_cases hne:k=w.heap.size+1
    ·subst hne
     rw[World.putObj_heap_same (qA h3),hl1]
     rfl
    have e1:W.heap[k]?=W1.heap[k]?:=(hoth k hne).trans (hba.block k hk1)
    rw[World.putObj_heap_other hne]
    exact (hk.block k (by rw[hWs];exact qM hk1 hba.size) (by rw[e1];exact hc)).trans e1
  rintro e a3 W3 hp
  cases e with
  | normal=>
    obtain⟨hk,hi3⟩:=hp
    obtain⟨h3,h4,h5,h6,h7⟩:=fin none W3 hk
    exact⟨_,_,h3,.inl ⟨rfl,⟨hI _ _ _ hi3 h6,h4,h5⟩,h7 rfl⟩⟩
  | ret=>
    obtain⟨hk,hi3⟩:=hp
    obtain⟨h3,h4,h5,h6,h7⟩:=fin (some .ret) W3 hk
    exact⟨_,_,h3,.inr ⟨rfl,.ret,hIx _ _ _ _ hi3 h6,h4,h5⟩⟩
  | exit id=>
    obtain⟨hk,hi3⟩:=hp
    obtain⟨h3,h4,h5,h6,h7⟩:=fin (some (.exit id)) W3 hk
    exact⟨_,_,h3,.inr ⟨rfl,.exit id,hIx _ _ _ _ hi3 h6,h4,h5⟩⟩
  | goto t=>
    obtain⟨hk,hi3⟩:=hp
    obtain⟨h3,h4,h5,h6,h7⟩:=fin (some (.goto t)) W3 hk
    exact⟨_,_,h3,.inr ⟨rfl,.goto t,hIx _ _ _ _ hi3 h6,h4,h5⟩⟩
  | panic ch=>exact hp.elim
  | outgrown=>exact hp.elim
 ·rintro e W2 ⟨⟨v,rfl⟩,(⟨W0,⟨hi,hl,hd⟩,hb⟩|⟨pre,x,W0,hpre,⟨c,hc,hl,hd⟩,hb⟩)⟩
  ·have hl2:=(hb.block _ (qA hl)).trans hl
   have hd2:=(hb.block _ (qA hd)).trans hd
   have h3:=run_endLoop (P:=P) hl2 (by rw[hR];simp)
   rw[hR] at h3
   exact⟨none,_,h3,hdone _ _ qL (hI _ _ _ hi ((Turn.below hb).trans (Turn.putObj _ hl2 (by omega)))) ((World.putObj_heap_other (by omega)).trans hd2)⟩
  ·have hl2:=(hb.block _ (qA hl)).trans hl
   have hd2:=(hb.block _ (qA hd)).trans hd
   have h3:=run_endLoop (P:=P) hl2 (by rw[hR];simp)
   rw[hR] at h3
   exact⟨some c,_,h3,hstop _ c pre x _ qL hpre (hIx _ _ _ _ hc ((Turn.below hb).trans (Turn.putObj _ hl2 (by omega)))) ((World.putObj_heap_other (by omega)).trans hd2)⟩
end
end
section
open Go.RowKit
attribute [local go_sem] Oper.semAt_some
def Own2 (lo b1 b2:Nat):Nat→Prop:=fun k=>lo≤k∧k≠b1∧k≠b2
theorem BodyKeeps.bel {lo b1 b2 B:Nat} {X W W':World} (h:BodyKeeps (Own2 lo b1 b2) B W W') (hb:Below lo X W) (hl:lo≤W.heap.size):Below lo X W':=
 ⟨h.os.trans hb.os,h.tape.trans hb.tape,h.output.trans hb.output,qN hb.size h.size,fun k hk=>(h.block k (by omega) (.inl fun hs=>by have:=hs.1;omega)).trans (hb.block k hk)⟩
def AtS (x:SpotD) (args:Array Value) (B:Nat) (W:World):Prop:=∃ u:PV,args=#[.agg (spotCells x.near x.page u).toArray,errV x.err]∧∀ V,Agree B W V→Hangs V x.page u.i u.k u.d u.v u.f
theorem view_ok {s:StD} {L:List F.Sh} {x:Int} (h:(readS s L x).2=0):isPB (readS s L x).1=true:=by
 unfold readS at h ⊢
 split at h
 ·simp at h
 ·rename_i h1
  rw[if_neg h1]
  simp only at h ⊢
  unfold readD
  cases hk:okR (bytesAt s L x).data.toList with
  | false=>rw[hk] at h;simp at h
  | true=>
    rw[if_pos rfl]
    unfold okR bytesD at hk
    cases hp:isPB (readV (bytesAt s L x).data.toList) with
    | true=>rfl
    | false=>
      rw[hp] at hk
      simp at hk
theorem page_few {p:PageD} (h:isPB p=true):(p.kind=1→1≤p.items.length)∧p.items.length≤4∧p.kids.length≤4∧p.keys.length=p.kids.length∧∀ k∈p.kids,2≤k∧k<400:=by
 simp only[isPB,qW] at h
 obtain⟨h1,h2⟩:=h
 simp only[samePB,sameItemsB,qW,decide_eq_true_eq] at h2
 obtain⟨⟨⟨⟨⟨⟨⟨⟨_,hI⟩,hY⟩,hK⟩,_⟩,_⟩,_⟩,_⟩,_⟩:=h2
 have hI:=hI.1
 unfold rightB at h1
 by_cases e1:p.kind=1
 ·have ho:(ownD p).kids=[]∧(ownD p).keys=[]:=by unfold ownD;rw[if_pos e1];exact⟨rfl,rfl⟩
  rw[if_pos e1] at h1
  simp only[rightItemsB,withinB,qW,decide_eq_true_eq] at h1
  rw[hK,hY,ho.1,ho.2]
  refine⟨fun _=>?_,?_,by simp,rfl,by simp⟩<;>omega
 ·by_cases e2:p.kind=2
  ·have ho:(ownD p).items=[]:=by unfold ownD;rw[if_neg e1,if_pos e2];rfl
   rw[if_neg e1,if_pos e2] at h1
   simp only[rightKidsB,withinB,qW,decide_eq_true_eq] at h1
   obtain⟨⟨⟨⟨⟨a,b⟩,c⟩,d⟩,e⟩,f⟩:=h1
   refine⟨fun h=>absurd h e1,by rw[hI,ho];simp,by omega,b,fun k hkk=>?_⟩
   have:=List.all_eq_true.1 f k hkk
   simp only[pageB,qW,decide_eq_true_eq] at this
   omega
  ·have h0:(ownD p).kids=[]∧(ownD p).items=[]∧(ownD p).keys=[]:=by
    unfold ownD
    rw[if_neg e1,if_neg e2]
    repeat' split
    all_goals simp[noPage]
   rw[hI,hK,hY,h0.1,h0.2.1,h0.2.2]
   exact⟨fun h=>absurd h e1,by simp,by simp,rfl,by simp⟩
theorem seen_small {s:StD} {L:List F.Sh} (n:Near):((seen (readS s L) n).2=0→(seen (readS s L) n).1.kind=1→1≤(seen (readS s L) n).1.items.length)∧(seen (readS s L) n).1.items.length≤4∧(seen (readS s L) n).1.kids.length≤4∧(seen (readS s L) n).1.keys.length=(seen (readS s L) n).1.kids.length∧∀ k∈(seen (readS s L) n).1.kids,2≤k∧k<400:=by
 by_cases h:(seen (readS s L) n).2=0
 ·obtain⟨h1,h2,_⟩:=seen_ok h
  rw[h2]
  obtain⟨p1,p2,p3,p4,p5⟩:=page_few (view_ok h1)
  exact⟨fun _=>p1,p2,p3,p4,p5⟩
 ·rw[seen_err h]
  exact⟨fun e=>absurd e h,by simp[noPage],by simp[noPage],rfl,by simp[noPage]⟩
theorem visit_count (s:StD) (L:List F.Sh):∀ (f:Nat) (n:Near),3*(visit (readS s L) f n).length+1≤4 ^ (f+1)
 | 0,n=>by simp[visit]
 | f+1,n=>by
   have hk:=(seen_small (s:=s) (L:=L) n).2.2.1
   have hl:∀ l:List Near,3*(l.flatMap (visit (readS s L) f)).length+l.length≤l.length*4 ^ (f+1):=by
    intro l
    induction l with
    | nil=>simp
    | cons a l ih=>
      have:=visit_count s L f a
      simp only[List.flatMap_cons,qO,qV,Nat.add_mul,Nat.one_mul]
      omega
   have h1:=hl (under n (seen (readS s L) n).1)
   have h2:(under n (seen (readS s L) n).1).length≤4:=by
    unfold under
    rw[kidsFrom_length]
    exact hk
   have h4:4 ^ (f+1+1)=4*4 ^ (f+1):=by rw[Nat.pow_succ];omega
   have h5:0<4 ^ (f+1):=Nat.pow_pos (by omega)
   simp only[visit,qV]
   rw[h4]
   generalize (under n (seen (readS s L) n).1).length=k at h1 h2
   generalize 4 ^ (f+1)=P at *
   rcases (by omega:k=0∨k=1∨k=2∨k=3∨k=4) with rfl|rfl|rfl|rfl|rfl<;>omega
theorem spots_count (s:StD) (L:List F.Sh) (r:Int):(spotsD (readS s L) r).length≤90000:=by
 unfold spotsD
 split
 ·simp
 ·have:=visit_count s L 8 (rootNear r)
  omega
theorem rest_le (V:View):∀ l:List Near,l.length≤(restD V l).length
 | []=>by simp
 | n::l=>by
   have:=rest_le V l
   have h1:1≤(visit V (9 - n.depth) n).length:=by cases 9 - n.depth<;>simp[visit]
   simp only[restD,List.flatMap_cons,qO,qV] at this ⊢
   omega
theorem kidsFrom_id (d:Nat) (keys:List ByteArray) (high:ByteArray):∀ (l:List Int) (i:Nat) (low:ByteArray),∀ m∈kidsFrom d keys high i low l,m.id∈l
 | [],_,_,_,h=>by cases h
 | _::l,i,_,m,h=>by
   simp only[kidsFrom,List.mem_cons] at h
   rcases h with rfl|h
   ·simp
   ·exact List.mem_cons_of_mem _ (kidsFrom_id d keys high l _ _ m h)
theorem nearsC_append (a b:List Near):nearsC (a++b)=nearsC a++nearsC b:=List.flatMap_append
structure SpHead (X0:World) (b2 sb:Nat) (V:View) (S:List SpotD) (J:List SpotD→World→Prop) (g:Nat) (a:Option Addr) (n c:Nat) (l:List Near) (wr:World):Prop where
 len:n=l.length
 cnt:g=(restD V l).length
 told:∃ pre Wj,S=pre++restD V l∧J pre Wj∧Below Wj.heap.size Wj wr∧X0.heap.size≤Wj.heap.size∧wr.ownsRow Wj.heap.size 86 18 (.slice a n c) n (nearsC l)
 ok:∀ m∈l,InI m.id∧m.depth≤9
 bel:Below X0.heap.size X0 wr
 box:wr.heap[b2]?=some (.cells #[.pointer (some ⟨sb,0,none⟩)] 27 (0,0))
end
section
open Go.RowKit
open H (Up mergeL)
theorem visit_shape {s:StD} {L:List F.Sh}:∀ (f:Nat) (n:Near),∀ x∈visit (readS s L) f n,x.page.items.length≤4∧x.page.kids.length≤4∧(x.page.kind=1→1≤x.page.items.length)
 | f,n,x,h=>by
   have one:∀ n:Near,(spotOf (readS s L) n).page.items.length≤4∧(spotOf (readS s L) n).page.kids.length≤4∧((spotOf (readS s L) n).page.kind=1→1≤(spotOf (readS s L) n).page.items.length):=fun n=>by
    obtain⟨h1,h2,h3,-⟩:=seen_small (s:=s) (L:=L) n
    refine⟨h2,h3,fun hk=>?_⟩
    by_cases he:(seen (readS s L) n).2=0
    ·exact h1 he hk
    ·have hk':(seen (readS s L) n).1.kind=1:=hk
     rw[seen_err he] at hk'
     simp[noPage] at hk'
   cases f with
   | zero=>
     obtain rfl:=List.mem_singleton.1 h
     exact one _
   | succ f=>
     rcases List.mem_cons.1 h with rfl|h
     ·exact one _
     ·obtain⟨m,_,h2⟩:=List.mem_flatMap.1 h
      exact visit_shape f m x h2
theorem spots_shape {s:StD} {L:List F.Sh} {r:Int} {x:SpotD} (h:x∈spotsD (readS s L) r):x.page.items.length≤4∧x.page.kids.length≤4∧(x.page.kind=1→1≤x.page.items.length):=by
 unfold spotsD at h
 split at h
 ·cases h
 ·exact visit_shape 8 _ x h
def flT (fl:Int) (x:SpotD):Int:=if (fl==0&&(x.page.kind==1))=true then (x.near.depth:Int) else fl
def okT (fl:Int) (x:SpotD):Bool:=(x.err==0)&&(fullD x.near x.page&&(withinD x.near x.page&&onD x.near x.page (flT fl x)))
def rightFrom:Int→List Int→List SpotD→Bool
 | _,_,[]=>true
 | fl,met,x::r=>(okT fl x&&!met.contains x.near.id)&&rightFrom (flT fl x) (mergeL met [x.near.id]) r
def stR (pre:List SpotD):Int × List Int:=pre.foldl (fun s x=>(flT s.1 x,mergeL s.2 [x.near.id])) (0,[])
theorem stR_snoc (pre:List SpotD) (x:SpotD):stR (pre++[x])=(flT (stR pre).1 x,mergeL (stR pre).2 [x.near.id]):=by simp[stR]
theorem stR_len:∀ (pre:List SpotD),(stR pre).2.length≤pre.length:=by
 have key:∀ (pre:List SpotD) (s:Int × List Int),(pre.foldl (fun s x=>(flT s.1 x,mergeL s.2 [x.near.id])) s).2.length≤s.2.length+pre.length:=by
  intro pre
  induction pre with
  | nil=>intro s;simp
  | cons x r ih=>
    intro s
    have h1:=ih (flT s.1 x,mergeL s.2 [x.near.id])
    have h2:=H.mergeL_length s.2 [x.near.id]
    simp only[List.foldl_cons,qV,List.length_nil] at h1 h2 ⊢
    omega
 intro pre
 have:=key pre (0,[])
 simpa[stR] using this
theorem stR_up:∀ (pre:List SpotD),Up (stR pre).2:=by
 have key:∀ (pre:List SpotD) (s:Int × List Int),Up s.2→Up (pre.foldl (fun s x=>(flT s.1 x,mergeL s.2 [x.near.id])) s).2:=by
  intro pre
  induction pre with
  | nil=>intro s h;simpa using h
  | cons x r ih=>
    intro s h
    exact ih _ (H.mergeL_up _ _ h (H.up_short (by simp)))
 intro pre
 exact key pre (0,[]) H.up_nil
end
section
open Go
open H (Up mergeL)
theorem lessB_ltB (a b:ByteArray):lessB a b=ltB a b:=rfl
theorem leafV_keys (vf:Nat→ByteArray) (L:List Nat):keysOf (leafV vf L).items=L.map key2:=by simp[keysOf,leafV,leafP,itV]
theorem good_ok {floor:Nat} {x:SpotD} {fl:Int} (h:GoodS floor x) (hf:fl=0∨fl=floor):okT fl x=true∧(flT fl x=0∨flT fl x=floor):=by
 by_cases hk:x.page.kind=1
 ·obtain⟨hd,L,vf,lo,hi,hp,hl,hr,hb,h256,hlo,hhi⟩:=h.leaf hk
  have hk':(x.page.kind==1)=true:=by simp[hk]
  have hfl:flT fl x=floor:=by
   unfold flT
   rw[hk',Bool.and_true]
   rcases hf with rfl|rfl
   ·rw[if_pos (by rfl),hd]
   ·by_cases h0:(floor:Int)=0
    ·rw[if_pos (by simp[h0]),hd]
    ·rw[if_neg (by simp;omega)]
  refine⟨?_,.inr hfl⟩
  have hon:onD x.near x.page (flT fl x)=true:=by unfold onD;rw[hfl,hd];simp
  have hfull:fullD x.near x.page=true:=by unfold fullD;rcases h.full with e|e<;>simp[e]
  have hwi:withinD x.near x.page=true:=by
   unfold withinD
   have h0:(keysOf x.page.items).getD 0 ⟨#[]⟩=key2 L[0]:=by
    rw[hp,leafV_keys]
    have:0<L.length:=by omega
    simp[List.getD,this]
   have hlen:x.page.items.length=L.length:=by rw[hp];simp[leafV,leafP]
   have h1:(keysOf x.page.items).getD (x.page.items.length - 1) ⟨#[]⟩=key2 L[L.length - 1]:=by
    rw[hlen,hp,leafV_keys]
    have:L.length - 1<L.length:=by omega
    simp[List.getD,this]
   have b0:=hb L[0] (List.getElem_mem _)
   have b1:=hb L[L.length - 1] (List.getElem_mem _)
   rw[h0,h1,Bool.or_eq_true]
   refine .inr ?_
   rw[qW]
   constructor
   ·unfold geB
    rw[lessB_ltB,hlo _ b0.1 (by omega)]
    rfl
   ·rcases hhi with e|e
    ·rw[e]
     have:emptyB ⟨#[]⟩=true:=by simp[emptyB]
     rw[this]
     rfl
    ·rw[lessB_ltB,e _ b1.2];simp
  unfold okT
  rw[hon,hwi,hfull,h.err]
  rfl
 ·have hk':(x.page.kind==1)=false:=by simp[hk]
  have hfl:flT fl x=fl:=by unfold flT;rw[hk',Bool.and_false,if_neg (by simp)]
  rw[hfl]
  refine⟨?_,hf⟩
  have hfull:fullD x.near x.page=true:=by unfold fullD;rcases h.full with e|e<;>simp[e]
  unfold okT onD withinD
  rw[hfl,hk',hfull,h.err]
  rfl
theorem right_true {floor:Nat}:∀ (S:List SpotD) (fl:Int) (met:List Int),(∀ x∈S,GoodS floor x)→(S.map fun x=>x.near.id).Nodup→(∀ x∈S,x.near.id ∉ met)→(fl=0∨fl=floor)→rightFrom fl met S=true
 | [],_,_,_,_,_,_=>rfl
 | x::r,fl,met,hg,hn,hm,hf=>by
   obtain⟨h1,h2⟩:=good_ok (hg x (by simp)) hf
   simp only[List.map_cons,List.nodup_cons] at hn
   have hnm:=hm x (by simp)
   have h3:met.contains x.near.id=false:=by simpa using hnm
   unfold rightFrom
   rw[h1,h3,right_true r _ _ (fun y hy=>hg y (by simp[hy])) hn.2 (fun y hy hc=>?_) h2]
   ·rfl
   ·rcases (H.mergeL_mem _ _ _).1 hc with hc|hc
    ·exact hm y (by simp[hy]) hc
    ·simp only[List.mem_singleton] at hc
     exact hn.1 (List.mem_map.2 ⟨y,hy,hc⟩)
theorem right_false:∀ (S:List SpotD) (fl:Int) (met:List Int) (x:SpotD),x∈S→x.err≠0→rightFrom fl met S=false
 | y::r,fl,met,x,hx,he=>by
   unfold rightFrom
   rcases List.mem_cons.1 hx with rfl|hx
   ·have:okT fl x=false:=by
     unfold okT
     rw[show (x.err==0)=false by simp[he]]
     rfl
    rw[this]
    rfl
   ·rw[right_false r _ _ x hx he,Bool.and_false]
structure Spoilt (ps:List PageD) (k:Nat) (V:View):Prop where
 other:∀ i p,ps[i]?=some p→i≠k→V (num i)=(p,0)
 here:(V (num k)).2≠0∨((V (num k)).1.kind≠1∧(V (num k)).1.kind≠2)
theorem spoilt_seen {ps:List PageD} {k:Nat} {V:View} (h:Spoilt ps k V) {n:Near} (hn:n.id=num k):∃ e,e≠0∧seen V n=(noPage,e):=by
 unfold seen
 rw[hn]
 by_cases h1:(V (num k)).2≠0
 ·rw[if_pos h1]
  exact⟨_,h1,rfl⟩
 ·rw[if_neg h1,if_pos (.inl (h.here.resolve_left h1))]
  exact⟨12,by decide,rfl⟩
theorem spoilt_walk {ps:List PageD} {k:Nat} {V:View} (hV:Spoilt ps k V):∀ (d f id lo hi:Nat) (top:Bool) (L I:List Nat) (n:Near),TreeAt ps d id lo hi top L I→d≤f→n.id=num id→n.depth+d≤8 →
  (visit V f n).length≤I.length∧(∀ x∈visit V f n,∀ it∈x.page.items,it.kind=1)∧(k∈I→∃ x∈visit V f n,x.err≠0):=by
 have bad:∀ (f id:Nat) (I:List Nat) (n:Near),id∈I→id=k→n.id=num id→(visit V f n).length≤I.length∧(∀ x∈visit V f n,∀ it∈x.page.items,it.kind=1)∧(k∈I→∃ x∈visit V f n,x.err≠0):=by
  intro f id I n hI e hn
  subst e
  obtain⟨e,he,hs⟩:=spoilt_seen hV hn
  have hv:visit V f n=[⟨n,noPage,e⟩]:=by
   cases f with
   | zero=>simp[visit,spotOf,hs]
   | succ f=>simp[visit,spotOf,hs,under,noPage,kidsFrom]
  have hl:1≤I.length:=by
   cases I with
   | nil=>cases hI
   | cons=>simp
  rw[hv]
  exact⟨hl,by simp[noPage],fun _=>⟨_,List.mem_singleton.2 rfl,he⟩⟩
 intro d
 induction d with
 | zero=>
   intro f id lo hi top L I n h _ hid hd
   by_cases e:id=k
   ·exact bad f id I n (tree_here h) e hid
   obtain⟨h1,rfl,_⟩:=h
   have hs:seen V n=(leafN L,0):=seen_of (by rw[hid];exact hV.other _ _ h1 e) (.inl rfl) (by omega)
   have hv:visit V f n=[⟨n,leafN L,0⟩]:=by
    cases f with
    | zero=>simp[visit,spotOf,hs]
    | succ f=>simp[visit,spotOf,hs,under,leafN,leafP,noPage,kidsFrom]
   rw[hv]
   refine⟨by simp,fun x hx it hit=>?_,fun hk=>absurd (List.mem_singleton.1 hk).symm e⟩
   obtain rfl:=List.mem_singleton.1 hx
   simp only[leafN,leafP,List.mem_map] at hit
   obtain⟨y,_,rfl⟩:=hit
   rfl
 | succ d ih=>
   intro f id lo hi top L I n h hf hid hd
   by_cases e:id=k
   ·exact bad f id I n (tree_here h) e hid
   obtain⟨ids,seps,I',h1,rfl,h3,h4,h5⟩:=h
   obtain⟨f,rfl⟩:∃ f',f=f'+1:=⟨f - 1,by omega⟩
   have hs:seen V n=(branchN ids seps,0):=seen_of (by rw[hid];exact hV.other _ _ h1 e) (.inr rfl) (by omega)
   obtain⟨_,g1,g2,g3⟩:=kids_fit (fun id lo hi L I h=>tree_fits d id lo hi false L I h) h3
   have hv:visit V (f+1) n=⟨n,branchN ids seps,0⟩::(under n (branchN ids seps)).flatMap (visit V f):=by simp[visit,spotOf,hs]
   have hkn:KidN (n.depth+1) n.low n.high ids seps (under n (branchN ids seps)):=kidsFrom_keys _ _ seps ids (keysN seps) 0 n.low g3 (by simp[keysN])
   have key:∀ {ids seps:List Nat} {lo hi:Nat} {L I:List Nat},KidsAt (fun id lo hi L I=>TreeAt ps d id lo hi false L I) ids seps lo hi L I→∀ (low:ByteArray) (l:List Near),KidN (n.depth+1) low n.high ids seps l →
     (l.flatMap (visit V f)).length≤I.length∧(∀ x∈l.flatMap (visit V f),∀ it∈x.page.items,it.kind=1)∧(k∈I→∃ x∈l.flatMap (visit V f),x.err≠0):=by
    intro ids seps lo hi L I h
    induction h using KidsAt.ind with
    | @one id lo hi L I h=>
      intro low l hk
      obtain⟨id',e,rfl⟩:=hk
      obtain rfl:id=id':=by simpa using e
      simpa using ih f id lo hi false L I ⟨num id,n.depth+1,low,n.high⟩ h (by omega) rfl (by simp only;omega)
    | @cons id m lo hi ids seps L1 I1 L2 I2 h h2 ih2=>
      intro low l hk
      obtain⟨id',ids',l',e,rfl,hk'⟩:=hk
      simp only[List.cons.injEq] at e
      obtain⟨rfl,rfl⟩:=e
      obtain⟨w1,w2,w3⟩:=ih f id lo m false L1 I1 ⟨num id,n.depth+1,low,key2 m⟩ h (by omega) rfl (by simp only;omega)
      obtain⟨v1,v2,v3⟩:=ih2 (key2 m) l' hk'
      refine⟨?_,fun x hx=>?_,fun hk=>?_⟩
      ·simp only[List.flatMap_cons,qO]
       omega
      ·simp only[List.flatMap_cons,qU] at hx
       rcases hx with hx|hx
       ·exact w2 x hx
       ·exact v2 x hx
      ·simp only[List.flatMap_cons,qU]
       rcases List.mem_append.1 hk with hk|hk
       ·obtain⟨x,hx,hxe⟩:=w3 hk
        exact⟨x,.inl hx,hxe⟩
       ·obtain⟨x,hx,hxe⟩:=v3 hk
        exact⟨x,.inr hx,hxe⟩
   obtain⟨k1,k2,k3⟩:=key h3 n.low _ hkn
   rw[hv]
   refine⟨by simp only[qV];omega,fun x hx=>?_,fun hk=>?_⟩
   ·rcases List.mem_cons.1 hx with rfl|hx
    ·simp[branchN,branchP,noPage]
    ·exact k2 x hx
   ·rcases List.mem_cons.1 hk with hk|hk
    ·exact absurd hk.symm e
    ·obtain⟨x,hx,hxe⟩:=k3 hk
     exact⟨x,List.mem_cons_of_mem _ hx,hxe⟩
theorem spoilt_spots {ps:List PageD} {root:Int} {L:List Nat} {k:Nat} {V:View} (hR:RootAt ps root L) (hl:L.length≤120) (hk:k<ps.length) (hV:Spoilt ps k V) :
  (spotsD V root).length≤120∧(∀ x∈spotsD V root,∀ it∈x.page.items,it.kind=1)∧∃ x∈spotsD V root,x.err≠0:=by
 have hf:=hR.fits.2.2
 rcases hR with ⟨_,rfl,_⟩|⟨d,id,I,rfl,hT,hp⟩
 ·simp at hk
 ·have hd:=tree_depth hT hl
  have hr:¬ num id=0:=by unfold num;omega
  have hI:=hp.length_eq
  simp only[List.length_range] at hI
  unfold spotsD
  rw[if_neg hr]
  obtain⟨h1,h2,h3⟩:=spoilt_walk hV d 8 id 0 256 true L I (rootNear (num id)) hT (by omega) rfl (by simp[rootNear];omega)
  exact⟨by omega,h2,h3 (hp.mem_iff.2 (List.mem_range.2 hk))⟩
theorem loB_empty:LoB ⟨#[]⟩ 0:=fun x _ hx=>by
 unfold ltB
 rw[key2_list,nil_listG]
 rfl
theorem grown_spots {ps:List PageD} {root:Int} {L:List Nat} {V:View} (hR:RootAt ps root L) (hl:L.length≤120) (hV:∀ i p,ps[i]?=some p→V (num i)=(p,0)) :
  (spotsD V root).length=ps.length∧(∃ floor,∀ x∈spotsD V root,GoodS floor x)∧(spotsD V root).flatMap (fun x=>x.page.items)=L.map it2∧((spotsD V root).map fun x=>x.near.id).Perm ((List.range ps.length).map num):=by
 rcases hR with ⟨rfl,rfl,rfl⟩|⟨d,id,I,rfl,hT,hp⟩
 ·exact⟨rfl,⟨0,by simp[spotsD]⟩,by simp[spotsD],by simp[spotsD]⟩
 ·have hd:=tree_depth hT hl
  have hr:¬ num id=0:=by unfold num;omega
  have hI:=hp.length_eq
  simp only[List.length_range] at hI
  unfold spotsD
  rw[if_neg hr]
  obtain⟨w1,w2,w3⟩:=walked d 8 id 0 256 true L I (rootNear (num id)) (treeV_of hV d id 0 256 true L I hT) qL (by omega) rfl (by simp[rootNear];omega) loB_empty (.inl rfl) (fun _=>rfl)
  have h3:=congrArg List.length w3
  simp only[List.length_map] at h3
  refine⟨by omega,⟨_,w1⟩,w2,?_⟩
  rw[w3]
  exact hp.map num
theorem grown_right {ps:List PageD} {root:Int} {L:List Nat} {V:View} (hR:RootAt ps root L) (hl:L.length≤120) (hV:∀ i p,ps[i]?=some p→V (num i)=(p,0)):rightFrom 0 [] (spotsD V root)=true:=by
 obtain⟨_,⟨floor,hg⟩,_,hp⟩:=grown_spots hR hl hV
 refine right_true _ _ _ hg (hp.nodup_iff.2 ?_) (fun _ _=>by simp) (.inl rfl)
 exact (List.nodup_range (n:=ps.length)).map num (fun a b (hne:a≠b) h=>hne (num_inj h))
end
section
open Go.RowKit
open H (RowAt)
theorem fileV_len (ps:List PageD):(fileV ps).length=ps.length+2:=by simp[fileV]
theorem fileV_get {ps:List PageD} {i:Nat} (h:i<ps.length):(fileV ps).getD (i+2) ⟨#[]⟩=bs (bytesD ps[i]):=by simp[fileV,List.getD,h]
theorem fileV_few {ps:List PageD} (hn:∀ i (h:i<ps.length),NumP ps[i]):∀ x∈fileV ps,x.size≤100000000000:=by
 intro x hx
 simp only[fileV,List.mem_cons,List.mem_map] at hx
 rcases hx with rfl|rfl|⟨p,hp,rfl⟩
 ·simp[ByteArray.size]
 ·simp[ByteArray.size]
 ·obtain⟨j,hj,rfl⟩:=List.getElem_of_mem hp
  exact bytesD_small _ (hn j hj).txn
theorem list_shOk {v:List ByteArray} (h:∀ x∈v,x.size≤100000000000):ShOk (F.newL v):=by
 intro t ht
 simp only[F.newL,List.mem_map] at ht
 obtain⟨b,hb,rfl⟩:=ht
 exact h b hb
theorem readL_list {v:List ByteArray} {i:Nat} (h:i+2<v.length):F.readL (F.newL v) (num i)=v.getD (i+2) ⟨#[]⟩:=by
 unfold F.readL F.newL num
 rw[if_pos (by omega)]
 have e:((i:Int)+2).toNat=i+2:=by omega
 rw[e]
 simp[List.getD,h]
theorem readS_list {v:List ByteArray} {last:Int} {i:Nat} (h:i+2<v.length) (hi:i<398) :
  readS (newD last 400 []) (F.newL v) (num i)=(readD (v.getD (i+2) ⟨#[]⟩).data.toList,if okR (v.getD (i+2) ⟨#[]⟩).data.toList then 0 else 12):=by
 have e:bytesAt (newD last 400 []) (F.newL v) (num i)=v.getD (i+2) ⟨#[]⟩:=by
  unfold bytesAt
  rw[if_neg (by simp[newD]),readL_list h]
 unfold readS
 rw[if_neg (by simp only[num,newD];have:heldN 400=400:=rfl;rw[this];omega),e]
theorem page_shown {p:PageD} (h:isPB p=true) (ht:TxnOk p):(readD (bs (bytesD p)).data.toList,if okR (bs (bytesD p)).data.toList then (0:Int) else 12)=(p,0):=by
 obtain⟨o1,o2⟩:=okR_bytes p h ht
 have e2:(bs (bytesD p)).data.toList=bytesD p:=by simp[bs]
 rw[e2,o1]
 simp[readD,o1,o2]
theorem grown_shown {ps:List PageD} (hn:∀ i (h:i<ps.length),NumP ps[i]) (hl:ps.length≤120) (last:Int):∀ i p,ps[i]?=some p→readS (newD last 400 []) (F.newL (fileV ps)) (num i)=(p,0):=by
 intro i p hp
 obtain⟨hi,rfl⟩:=List.getElem?_eq_some_iff.1 hp
 rw[readS_list (by rw[fileV_len];omega) (by omega),fileV_get hi]
 exact page_shown (hn i hi).2 (hn i hi).txn
theorem spoilt_shown {ps:List PageD} (hn:∀ i (h:i<ps.length),NumP ps[i]) (hl:ps.length≤120) (last:Int) {k:Nat} (hk:k<ps.length) {t:ByteArray} (ht:okR t.data.toList=false∨((readD t.data.toList).kind≠1∧(readD t.data.toList).kind≠2)) :
  Spoilt ps k (readS (newD last 400 []) (F.newL ((fileV ps).set (k+2) t))):=by
 constructor
 ·intro i p hp hne
  obtain⟨hi,rfl⟩:=List.getElem?_eq_some_iff.1 hp
  rw[readS_list (by rw[List.length_set,fileV_len];omega) (by omega)]
  have e:((fileV ps).set (k+2) t).getD (i+2) ⟨#[]⟩=bs (bytesD ps[i]):=by
   rw[← fileV_get hi]
   simp only[List.getD]
   rw[List.getElem?_set_ne (by omega)]
  rw[e]
  exact page_shown (hn i hi).2 (hn i hi).txn
 ·rw[readS_list (by rw[List.length_set,fileV_len];omega) (by omega)]
  have e:((fileV ps).set (k+2) t).getD (k+2) ⟨#[]⟩=t:=by
   simp[List.getD,fileV_len,hk]
  rw[e]
  rcases ht with h|h
  ·rw[h]
   exact .inl (by simp)
  ·exact .inr h
theorem file_made {w:World} {uV:Value} {v:List ByteArray} (h:F.StrsAt w uV v) (hl:v.length≤400) :
  Calls Tryz.prog 9 #[uV] w fun e w'=>e=.returned (.pointer (some ⟨w.heap.size,0,none⟩))∧∃ u,F.FileAt w' w.heap.size w.heap.size u (F.newL v)∧Below w.heap.size w w':=F.new_any v uV w h hl
theorem store_made {w X:World} {fb:Nat} {u:Value} {v:List ByteArray} (hf:F.FileAt X w.heap.size fb u (F.newL v)) (hX:Below w.heap.size w X) (last:Int) :
  Calls Tryz.prog 8 #[.pointer (some ⟨fb,0,none⟩),.int .i64 last,.int .i64 400,.slice none 0 0] X fun r Y=>∃ sb mb,r=.returned (.pointer (some ⟨sb,0,none⟩))∧Sf w Y sb mb fb (newD last 400 []) (F.newL v):=
 new_sf (w:=w) (X:=X) (L:=F.newL v) fb last 400 [] none 0 0 rfl hX hf (RowAt.nil _) (by simp)
end
end Go.Proofs.YtbghhklbfnplbaaGreat

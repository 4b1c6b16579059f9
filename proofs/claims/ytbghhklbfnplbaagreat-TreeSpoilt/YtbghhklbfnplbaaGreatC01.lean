import Derived.WalkKit
import Derived.WalkSpells
import Derived.WalkLawsBesides
import Derived.Deep.MidRow
import Derived.Deep.AppendLies
import Derived.Deep.LoopGhost
import Derived.RegionTactic
import Derived.ChangeAlike
import Derived.Deep.QuietTactic
import Derived.BigQuiet
import Derived.Deep.RegionLaw
import Derived.Laws.AppendOwnNone
import Derived.Deep.Cut
import Derived.Conc.LoneSelect
import Derived.Tactics2
import Derived.Test.YtbghhklbfnplbaaGreatC00
import Derived.Test.YtbghhklbfnplbaaGreatRows
set_option maxHeartbeats 4000000
set_option maxRecDepth 10000
namespace Go.Proofs.YtbghhklbfnplbaaGreat
namespace F
open Go.RowKit
theorem hid {p:Prop} (h:p):Hid p:=h
theorem heap_newL (w:World) (o:Obj):(w.alloc o).heap[w.heap.size]?=some o:=heap_alloc_new w o
theorem cell_rowL {w:World} {b:Nat} {cs:Array Value} {T:TypeId} {fr:Nat × Nat} (hb:w.heap[b]?=some (.cells cs T fr)) (j:Nat):w.cell? ⟨b,j,none⟩=cs[j]?:=by
 simp[World.cell?,hb]
theorem frozen_rowL {w:World} {b:Nat} {cs:Array Value} {T:TypeId} (hb:w.heap[b]?=some (.cells cs T (0,0))) (j:Nat):w.frozen? ⟨b,j,none⟩=false:=by
 simp[World.frozen?,hb]
theorem lt_of_heap {w:World} {b:Nat} {o:Obj} (h:w.heap[b]?=some o):b<w.heap.size:=(qA h)
theorem grown_setCell (w:World) (b o:Nat) (u:Value):w.grownBy (w.setCell ⟨b,o,none⟩ u) (some b):=
 ⟨rfl,rfl,rfl,by simp,fun k _ hne=>by rw[Below.heap_setCell _ _ _ _ (by simpa using fun e=>hne (by rw[e]))]⟩
structure Sh where
 now:ByteArray
 syn:ByteArray
 loose:Bool
def shC (s:Sh):List Value:=[.string s.now,.string s.syn,.bool s.loose]
def rowS (l:List Sh):List Value:=(l.map shC).flatten
theorem rowS_snoc (l:List Sh) (s:Sh):rowS (l++[s])=rowS l++shC s:=by simp[rowS]
theorem rowS_cons (l:List Sh) (s:Sh):rowS (s::l)=shC s++rowS l:=by simp[rowS]
theorem rowS_at:∀ (l:List Sh) (i:Nat) (h:i<l.length) (j:Nat),j<3→(rowS l)[i*3+j]?=(shC l[i])[j]?
 | [],i,h,j,hj=>absurd h (by simp)
 | a::l,0,h,j,hj=>by
   rw[rowS_cons,List.getElem?_append_left (by simp[shC];omega)]
   simp
 | a::l,i+1,h,j,hj=>by
   rw[rowS_cons,List.getElem?_append_right (by simp[shC];omega)]
   have:=rowS_at l i (by simpa using h) j hj
   simp only[qI]
   rw[← this]
   congr 1
   simp[shC]
   omega
structure FileAt (w:World) (B fb:Nat) (v:Value) (l:List Sh):Prop where
 obj:w.heap[fb]?=some (.cells #[v] 79 (0,0))
 base:B≤fb
 row:w.ownsRow B 81 3 v l.length (rowS l)
 len:l.length≤400
theorem FileAt.lt {w:World} {B fb:Nat} {v:Value} {l:List Sh} (h:FileAt w B fb v l):fb<w.heap.size:=lt_of_heap h.obj
theorem FileAt.baseLe {w:World} {B fb:Nat} {v:Value} {l:List Sh} (h:FileAt w B fb v l):B≤w.heap.size:=by have:=h.lt;have:=h.base;omega
theorem FileAt.form {w:World} {B fb:Nat} {v:Value} {l:List Sh} (h:FileAt w B fb v l):(v=.slice none 0 0∧l=[])∨∃ g cap,v=.slice (some ⟨g,0,none⟩) l.length cap∧l.length≤cap∧cap≤maxLen∧g≠fb∧g<w.heap.size∧B≤g:=by
 rcases h.row.2 with ⟨rfl,h0⟩|⟨g,cap,cur,rfl,hB,hg,hn,hm,hs,ht⟩
 ·exact .inl ⟨rfl,List.length_eq_zero_iff.1 h0⟩
 ·refine .inr ⟨g,cap,rfl,hn,hm,fun e=>?_,lt_of_heap hg,hB⟩
  subst e
  have:=h.obj
  rw[hg] at this
  simp at this
theorem FileAt.slice {w:World} {B fb:Nat} {v:Value} {l:List Sh} (h:FileAt w B fb v l):∃ ao cap,v=.slice ao l.length cap:=by
 rcases h.form with ⟨rfl,rfl⟩|⟨g,cap,rfl,_⟩
 ·exact⟨_,_,rfl⟩
 ·exact⟨_,_,rfl⟩
theorem FileAt.kept {w w':World} {B fb:Nat} {v:Value} {l:List Sh} (h:FileAt w B fb v l) (hf:w'.heap[fb]?=w.heap[fb]?) (hr:∀ g,v.ownBlock=some g→w'.heap[g]?=w.heap[g]?):FileAt w' B fb v l:=by
 refine⟨hf.trans h.obj,h.base,⟨h.row.1,?_⟩,h.len⟩
 rcases h.row.2 with hn|⟨g,cap,cur,rfl,hb,hgg,rest⟩
 ·exact .inl hn
 ·exact .inr ⟨g,cap,cur,rfl,hb,(hr g rfl).trans hgg,rest⟩
theorem FileAt.rowLt {w:World} {B fb:Nat} {v:Value} {l:List Sh} (h:FileAt w B fb v l):∀ g,v.ownBlock=some g→B≤g∧g<w.heap.size:=h.row.lt
theorem FileAt.below {w w':World} {B fb:Nat} {v:Value} {l:List Sh} (h:FileAt w B fb v l) (hb:Below w.heap.size w w'):FileAt w' B fb v l:=
 h.kept (hb.block fb h.lt) (fun g hg=>hb.block g (h.rowLt g hg).2)
theorem FileAt.alloc {w:World} {B fb:Nat} {v:Value} {l:List Sh} (h:FileAt w B fb v l) (o:Obj):FileAt (w.alloc o) B fb v l:=
 h.below ((qB _ w).alloc qL o)
structure Fo (fb:Nat) (w:World) (v:Value) (w':World) (v':Value):Prop where
 os:w'.os=w.os
 tape:w'.tape=w.tape
 output:w'.output=w.output
 size:w.heap.size≤w'.heap.size
 block:∀ k,k<w.heap.size→k≠fb→v.ownBlock≠some k→w'.heap[k]?=w.heap[k]?
 row:∀ g,v'.ownBlock=some g→v.ownBlock=some g∨w.heap.size≤g
theorem Fo.trans {fb:Nat} {w w1 w2:World} {v v1 v2:Value} (h:Fo fb w v w1 v1) (k:Fo fb w1 v1 w2 v2):Fo fb w v w2 v2:=by
 refine⟨k.os.trans h.os,k.tape.trans h.tape,k.output.trans h.output,qN h.size k.size,fun i hi hf hv=>?_,fun g hg=>?_⟩
 ·refine (k.block i (qM hi h.size) hf (fun e=>?_)).trans (h.block i hi hf hv)
  rcases h.row i e with h'|h'
  ·exact hv h'
  ·omega
 ·rcases k.row g hg with h'|h'
  ·exact h.row g h'
  ·exact .inr (qN h.size h')
theorem Fo.below {fb B:Nat} {w w':World} {v v':Value} {l:List Sh} (h:Fo fb w v w' v') (hf:FileAt w B fb v l):Below B w w':=
 ⟨h.os,h.tape,h.output,h.size,fun k hk=>h.block k (by have:=hf.baseLe;omega) (by have:=hf.base;omega) (fun e=>by have:=(hf.rowLt k e).1;omega)⟩
theorem Fo.grown {fb:Nat} {w w':World} {v v':Value} (h:w.grownBy w' v.ownBlock) (hr:∀ g,v'.ownBlock=some g→v.ownBlock=some g∨w.heap.size≤g):Fo fb w v w' v':=
 ⟨h.os,h.tape,h.output,h.size,fun k hk _ hv=>h.block k hk (fun e=>hv e.symm),hr⟩
theorem Fo.obj {fb:Nat} {w:World} {v:Value} (u:Value):Fo fb w v (w.setCell ⟨fb,0,none⟩ u) v:=
 ⟨rfl,rfl,rfl,by simp,fun k _ hf _=>by rw[Below.heap_setCell _ _ _ _ (by simpa using hf)],fun _ h=>.inl h⟩
theorem owns_stored {w:World} {base:Nat} {e:TypeId} {size g n cap:Nat} {xs:List Value} (h:w.ownsRow base e size (.slice (some ⟨g,0,none⟩) n cap) n xs) (i:Nat) (u:Value):(w.setCell ⟨g,i,none⟩ u).ownsRow base e size (.slice (some ⟨g,0,none⟩) n cap) n (xs.set i u):=by
 obtain⟨h1,h2⟩:=h
 refine⟨by simpa using h1,?_⟩
 rcases h2 with ⟨hv,_⟩|⟨g',cap',cur,hv,hb,hg,hn,hc,hs,ht⟩
 ·cases hv
 ·simp only[qR,qQ,Addr.mk.injEq,true_and,and_true] at hv
  obtain⟨rfl,rfl⟩:=hv
  refine .inr ⟨g,cap,cur.setIfInBounds i u,rfl,hb,heap_setCell_same w g i cur e u hg,hn,hc,by simpa using hs,?_⟩
  rw[Array.toList_setIfInBounds,List.take_set,ht]
theorem FileAt.cell {w:World} {B fb g n cap:Nat} {l:List Sh} (h:FileAt w B fb (.slice (some ⟨g,0,none⟩) n cap) l) (hn:n=l.length) (i:Nat) (hi:i<l.length) :
  w.cell? ⟨g,i*3,none⟩=some (.string l[i].now)∧w.cell? ⟨g,i*3+1,none⟩=some (.string l[i].syn)∧w.cell? ⟨g,i*3+2,none⟩=some (.bool l[i].loose):=by
 subst hn
 refine⟨?_,?_,?_⟩
 ·have h1:=h.row.cellAt (i*3+0) (by omega)
  rw[rowS_at l i hi 0 (by omega)] at h1
  exact h1
 ·rw[h.row.cellAt (i*3+1) (by omega),rowS_at l i hi 1 (by omega)];rfl
 ·rw[h.row.cellAt (i*3+2) (by omega),rowS_at l i hi 2 (by omega)];rfl
theorem FileAt.put {w w':World} {B fb:Nat} {v u:Value} {l m:List Sh} (h:FileAt w B fb v l) (hf:w'.heap[fb]?=w.heap[fb]?) (hr:w'.ownsRow B 81 3 u m.length (rowS m)) (hm:m.length≤400):FileAt (w'.setCell ⟨fb,0,none⟩ u) B fb u m:=by
 have ho:=hf.trans h.obj
 refine⟨one_setCell ho,h.base,ownsRow_setCell_other hr (fun e=>?_) u,hm⟩
 rcases hr.2 with ⟨rfl,_⟩|⟨g,cap,cur,rfl,hb,hgg,rest⟩
 ·simp[Value.ownBlock] at e
 ·simp[Value.ownBlock] at e
  subst e
  rw[hgg] at ho
  simp at ho
theorem Tryz.infoSheet:(Tryz.prog.info? 81).map (fun i=>(i.zero,i.size,i.bytes))=some (some (.agg #[.string ⟨#[]⟩,.string ⟨#[]⟩,.bool false]),3,40):=by kernel_rfl
theorem Tryz.infoInt:(Tryz.prog.info? 3).map (fun i=>(i.zero,i.size,i.bytes))=some (some (.int .i64 0),1,8):=by kernel_rfl
theorem Tryz.elemSheets:Tryz.prog.underlying 77=some (.slice (Tryz.prog.elem 77)):=by kernel_rfl
theorem Tryz.sizeSheets (w:World):(Go.sizeOf (Tryz.prog.elem 77)).run Tryz.prog w=.ok 3 w:=by kernel_rfl
theorem atSheets (g len cap k:Nat) (h:k<len) (w:World):(Instr.indexAt 77 (.slice (some ⟨g,0,none⟩) len cap) (.int .i64 (k:Int))).run Tryz.prog w=.ok (.pointer (some ⟨g,k*3,none⟩)) w:=by
 rw[run_indexAt_slice (P:=Tryz.prog) w 77 ⟨g,0,none⟩ len cap .i64 k Tryz.elemSheets,if_pos (by omega),Tryz.sizeSheets]
 simp only[Result.andThen,Int.toNat_natCast,Addr.add_mid,Nat.zero_add]
theorem grown_alloc {w w':World} {row:Option Nat} {o:Obj} (g:(w.alloc o).grownBy w' row):w.grownBy w' row:=
 ⟨g.os,g.tape,g.output,by have:=g.size;simp at this;omega,fun k hk hne=>(g.block k (by simp;omega) hne).trans (qE w o k hk)⟩
end F
namespace F
open Go.RowKit
def noSh:Sh:=⟨⟨#[]⟩,⟨#[]⟩,false⟩
def emptySh:Sh:=⟨⟨#[]⟩,⟨#[]⟩,true⟩
def readL (l:List Sh) (i:Int):ByteArray:=if 0≤i then (l.getD i.toNat noSh).now else ⟨#[]⟩
def padTo (l:List Sh) (n:Nat):List Sh:=l++List.replicate (n - l.length) emptySh
def writeL (l:List Sh) (i:Nat) (s:ByteArray):List Sh:=(padTo l (i+1)).set i ⟨s,((padTo l (i+1)).getD i noSh).syn,true⟩
theorem padTo_length (l:List Sh) (n:Nat):(padTo l n).length=max l.length n:=by simp[padTo];omega
theorem padTo_le (l:List Sh) (n:Nat) (h:n≤l.length):padTo l n=l:=by simp[padTo,Nat.sub_eq_zero_of_le h]
theorem read_any (w:World) (B fb:Nat) (v:Value) (l:List Sh) (i:Int) (h:FileAt w B fb v l) :
  Calls Tryz.prog 104 #[.pointer (some ⟨fb,0,none⟩),.int .i64 i] w fun e w'=>e=.returned (.string (readL l i))∧w'=w:=by
 have hc:=cell_of_one h.obj
 have hl:=h.len
 by_cases h0:i<0
 ·have hr:readL l i=⟨#[]⟩:=if_neg (by omega)
  rw[hr]
  clear hr
  go_enter Tryz.func104,Tryz.ntmps104
  go_wp2
  go_ret
  exact⟨rfl,rfl⟩
 ·obtain⟨k,rfl⟩:∃ k:Nat,i=(k:Int):=⟨i.toNat,by omega⟩
  by_cases hk:k<l.length
  ·have hr:readL l (k:Int)=l[k].now:=by simp[readL,hk]
   rcases h.form with ⟨rfl,rfl⟩|⟨g,cap,rfl,_⟩
   ·simp at hk
   have hx:=atSheets g l.length cap k hk
   have hcc:=(h.cell rfl k hk).1
   rw[hr]
   clear hr h h0
   generalize l[k].now=s at *
   go_enter Tryz.func104,Tryz.ntmps104
   go_wp2
   go_ret
   exact⟨rfl,rfl⟩
  ·have hr:readL l (k:Int)=⟨#[]⟩:=by simp[readL,List.getElem?_eq_none (Nat.le_of_not_lt hk),noSh]
   rw[hr]
   clear hr
   rcases h.form with ⟨rfl,rfl⟩|⟨g,cap,rfl,_⟩
   all_goals
    clear h
    try simp only[List.length_nil] at *
    go_enter Tryz.func104,Tryz.ntmps104
    go_wp2
    go_ret
    exact⟨rfl,rfl⟩
theorem FileAt.own_ne {w:World} {B fb:Nat} {v:Value} {l:List Sh} (h:FileAt w B fb v l):some fb≠v.ownBlock:=by
 intro e
 rcases h.form with ⟨rfl,_⟩|⟨g,cap,rfl,_,_,hne,_⟩
 ·simp[Value.ownBlock] at e
 ·simp[Value.ownBlock] at e;omega
theorem FileAt.pushed {w w':World} {B fb g n cap:Nat} {v:Value} {l:List Sh} {o:Obj} (h:FileAt w B fb v l) (x:Sh) (hr:w'.ownsRow B 81 3 (.slice (some ⟨g,0,none⟩) n cap) (l.length+1) (rowS l++shC x)) (hg:(w.alloc o).grownBy w' v.ownBlock) (hrow:v.ownBlock=some g∨g=w.heap.size+1) (hl:l.length<400) :
  FileAt (w'.setCell ⟨fb,0,none⟩ (.slice (some ⟨g,0,none⟩) n cap)) B fb (.slice (some ⟨g,0,none⟩) n cap) (l++[x])∧Fo fb w v (w'.setCell ⟨fb,0,none⟩ (.slice (some ⟨g,0,none⟩) n cap)) (.slice (some ⟨g,0,none⟩) n cap)∧w'.heap[fb]?=some (.cells #[v] 79 (0,0)):=by
 have hg':=grown_alloc hg
 have ho:=hg'.block fb h.lt h.own_ne
 refine⟨h.put ho (by rw[rowS_snoc];simpa using hr) (by simp;omega),Fo.trans (Fo.grown hg' (fun k hk=>?_)) (Fo.obj _),ho.trans h.obj⟩
 simp only[Value.ownBlock,qQ] at hk
 subst hk
 rcases hrow with e|e
 ·exact .inl e
 ·exact .inr (by omega)
end F
namespace F
open Go.RowKit
def StrsAt (w:World) (v:Value) (l:List ByteArray):Prop:=
 ∃ ao cap,v=.slice ao l.length cap∧(l.length≤maxLen∧l.length≤cap)∧∀ i (h:i<l.length),∃ a,ao=some a∧w.cell? (a.add i)=some (.string l[i])∧l[i].size≤maxLen
theorem StrsAt.below {w w':World} {v:Value} {l:List ByteArray} (h:StrsAt w v l) (hb:Below w.heap.size w w'):StrsAt w' v l:=by
 obtain⟨ao,cap,h1,h2,h3⟩:=h
 refine⟨ao,cap,h1,h2,fun i hi=>?_⟩
 obtain⟨a,ha,hc,hs⟩:=h3 i hi
 exact⟨a,ha,(hb.cell (p:=a.add i) (qF w _ hc)).trans hc,hs⟩
theorem strs_nil (w:World):StrsAt w (.slice none 0 0) []:=⟨none,0,rfl,⟨by simp,Nat.zero_le _⟩,fun i hi=>absurd hi (by simp)⟩
theorem cut_head {t:TypeId} {ao:Option Addr} {len cap n size:Nat} (ht:Tryz.prog.underlying t=some (.slice (Tryz.prog.elem t))) (hs:∀ w,(Go.sizeOf (Tryz.prog.elem t)).run Tryz.prog w=.ok size w) (h:n≤cap) (w:World) :
  (Instr.slice t (.slice ao len cap) none (some (.int .i64 (n:Int))) none).run Tryz.prog w=.ok (.slice ao n cap) w:=by
 rw[run_slice_h w t ao len cap ht .i64 (n:Int) (by omega) (by omega),hs]
 simp only[Result.andThen,sliced,Int.toNat_natCast,Nat.zero_mul,Nat.sub_zero]
 cases ao<;>simp[Addr.add]
theorem index_at {t:TypeId} {ao:Option Addr} {a:Addr} (ht:Tryz.prog.underlying t=some (.slice (Tryz.prog.elem t))) (hs:∀ w,(Go.sizeOf (Tryz.prog.elem t)).run Tryz.prog w=.ok 1 w) (len cap k:Nat) (ha:ao=some a) (h:k<len) (w:World) :
  (Instr.indexAt t (.slice ao len cap) (.int .i64 (k:Int))).run Tryz.prog w=.ok (.pointer (some (a.add k))) w:=by
 subst ha
 rw[run_indexAt_slice (P:=Tryz.prog) w t a len cap .i64 k ht,if_pos (by omega),hs]
 simp only[Result.andThen,Int.toNat_natCast,Nat.mul_one]
theorem Tryz.elemStrs:Tryz.prog.underlying 31=some (.slice (Tryz.prog.elem 31)):=by kernel_rfl
theorem Tryz.sizeStrs (w:World):(Go.sizeOf (Tryz.prog.elem 31)).run Tryz.prog w=.ok 1 w:=by kernel_rfl
def newL (ss:List ByteArray):List Sh:=ss.map fun s=>⟨s,s,false⟩
theorem newL_take (ss:List ByteArray) (k:Nat) (h:k<ss.length):newL (ss.take (k+1))=newL (ss.take k)++[⟨ss[k],ss[k],false⟩]:=by
 unfold newL
 rw[qT h,List.map_append]
 rfl
theorem new_any (ss:List ByteArray) (v:Value) (w:World) (h:StrsAt w v ss) (hl:ss.length≤400) :
  Calls Tryz.prog 9 #[v] w fun e w'=>e=.returned (.pointer (some ⟨w.heap.size,0,none⟩))∧∃ u,FileAt w' w.heap.size w.heap.size u (newL ss)∧Below w.heap.size w w':=by
 obtain⟨i0,hi,hz0,hz1,hz2⟩:=info_parts Tryz.infoSheet
 obtain⟨ao,cap,rfl,⟨_,hcap⟩,h3⟩:=h
 have hcut:=cut_head (ao:=ao) (len:=ss.length) (cap:=cap) (n:=ss.length) Tryz.elemStrs Tryz.sizeStrs hcap
 have h3:=hid h3
 have F0:FileAt (w.alloc (.cells #[.slice none 0 0] 79)) w.heap.size w.heap.size (.slice none 0 0) (newL (ss.take 0)):=
  ⟨heap_newL w _,Nat.le_refl _,World.ownsRow_nil _ _ _ _,by simp[newL]⟩
 have F0:=hid F0
 have B0:=hid ((qB w.heap.size w).alloc qL (.cells #[.slice none 0 0] 79))
 have hmin:min ss.length 400=ss.length:=by omega
 go_enter Tryz.func9,Tryz.ntmps9
 go_wp2
 clear hcut hmin
 go_loopg [14] ss.length (fun g i wr=>∃ (k:Nat) (u:Value),k+g=ss.length∧i=.int .i64 k∧Hid (FileAt wr w.heap.size w.heap.size u (newL (ss.take k)))∧Hid (Below w.heap.size w wr))
 case atStart=>exact⟨0,_,by omega,rfl,F0,B0⟩
 case round=>
  obtain⟨k,u,hk,rfl,hf,hb⟩:=hrel
  clear F0 B0
  cases gk with
  | zero=>
    have hke:k=ss.length:=by omega
    subst hke
    go_wp2
    go_ret
    rw[List.take_length] at hf
    exact⟨rfl,u,hf.out,hb.out⟩
  | succ g=>
    have hlk:k<ss.length:=by omega
    obtain⟨a,ha,hcell,_⟩:=h3.out k hlk
    have hx:=index_at (len:=ss.length) (cap:=cap) Tryz.elemStrs Tryz.sizeStrs k ha hlk
    have hc:=cell_of_one hf.out.obj
    have hfr:=free_of_one hf.out.obj
    have hlt:=hf.out.lt
    have hcs:wr.cell? (a.add k)=some (.string ss[k]):=(hb.out.cell (p:=a.add k) (qF w _ hcell)).trans hcell
    have hln:(newL (ss.take k)).length=k:=by simp[newL];omega
    have HR:=hid hf.out.row
    rw[hln] at HR
    obtain⟨bo,cp,rfl⟩:=hf.out.slice
    rw[hln] at hc HR hf
    have hsz:=hb.out.size
    obtain⟨s,hs⟩:∃ s,ss[k]=s:=⟨_,rfl⟩
    rw[hs] at hcs
    have hs:=hid hs
    clear hcell ha
    go_wp2_with (first
     | (at_builtin;refine wpList_append_lies _ rfl (.tmp 22) (.tmp 26) 77 rfl w.heap.size 81 i0 (.agg #[.string ⟨#[]⟩,.string ⟨#[]⟩,.bool false]) 3 40 Tryz.underlying77 hi hz0 hz1 hz2 rfl (by omega) _ k (rowS (newL (ss.take k))) rfl (HR.out.alloc _) ⟨wr.heap.size,0,none⟩ 1 1 (shC ⟨s,s,false⟩) rfl rfl (World.news_of_block (heap_newL wr _)) (by simp[shC,Value.oneCell']) (by omega) (by unfold maxLen;omega) (by omega) (by simp;omega) (wr.heap.size+1) (by simp) ?_)
     | fail)
    intro g' cap' w1 hown hgrow hg hgs
    obtain⟨hF,hO,ho1⟩:=hf.out.pushed ⟨s,s,false⟩ (by rw[hln];exact hown) hgrow hg (by omega)
    have hB:=hid ((hO.below hf.out))
    have hF:=hid hF
    have hc1:=cell_of_one ho1
    have hf1:=free_of_one ho1
    clear hown hgrow hg ho1 HR hO
    go_wp2
    go_roundg g
    case rel=>exact⟨k+1,_,by omega,by go_num,by show FileAt _ _ _ _ _;rw[newL_take ss k hlk];rw[hs.out];exact hF.out,hb.out.trans hB.out⟩
    case measure=>omega
end F
namespace F
open Go.RowKit
def looseL:List Sh→Nat→List Int
 | [],_=>[]
 | x::l,n=>if x.loose then (n:Int)::looseL l (n+1) else looseL l (n+1)
theorem looseL_append:∀ (l m:List Sh) (n:Nat),looseL (l++m) n=looseL l n++looseL m (n+l.length)
 | [],m,n=>by simp[looseL]
 | x::l,m,n=>by
   simp only[List.cons_append,looseL,looseL_append l m (n+1),qV]
   rw[show n+1+l.length=n+(l.length+1) by omega]
   split<;>simp
theorem looseL_le:∀ (l:List Sh) (n:Nat),(looseL l n).length≤l.length
 | [],n=>by simp[looseL]
 | x::l,n=>by
   have:=looseL_le l (n+1)
   simp only[looseL,qV]
   split<;>simp<;>omega
def intCells (l:List Int):List Value:=l.map (Value.int .i64)
def OwnInts (w:World) (base:Nat) (v:Value) (l:List Int):Prop:=w.ownsRow base 3 1 v l.length (intCells l)
theorem OwnInts.slice {w:World} {base:Nat} {v:Value} {l:List Int} (h:OwnInts w base v l):∃ ao cap,v=.slice ao l.length cap:=by
 rcases h.2 with ⟨rfl,h0⟩|⟨g,cap,cur,rfl,_⟩
 ·exact⟨none,0,by rw[h0]⟩
 ·exact⟨_,_,rfl⟩
end F
namespace F
open Go.RowKit
def IntsAt (w:World) (v:Value) (l:List Int):Prop:=
 ∃ ao cap,v=.slice ao l.length cap∧l.length≤maxLen∧∀ i (h:i<l.length),∃ a,ao=some a∧w.cell? (a.add i)=some (.int .i64 l[i])
theorem IntsAt.below {w w':World} {v:Value} {l:List Int} (h:IntsAt w v l) (hb:Below w.heap.size w w'):IntsAt w' v l:=by
 obtain⟨ao,cap,h1,h2,h3⟩:=h
 refine⟨ao,cap,h1,h2,fun i hi=>?_⟩
 obtain⟨a,ha,hc⟩:=h3 i hi
 exact⟨a,ha,(hb.cell (p:=a.add i) (qF w _ hc)).trans hc⟩
theorem ints_nil (w:World):IntsAt w (.slice none 0 0) []:=⟨none,0,rfl,by simp,fun i hi=>absurd hi (by simp)⟩
theorem OwnInts.at {w:World} {base:Nat} {v:Value} {l:List Int} (h:OwnInts w base v l) (hl:l.length≤maxLen):IntsAt w v l:=by
 obtain⟨ao,cap,rfl⟩:=h.slice
 refine⟨ao,cap,rfl,hl,fun i hi=>?_⟩
 rcases h.2 with ⟨hv,h0⟩|⟨g,cap',cur,hv,_⟩
 ·omega
 ·simp only[qR,true_and] at hv
  obtain⟨rfl,rfl⟩:=hv
  refine⟨_,rfl,?_⟩
  have:=World.ownsRow.cellAt h i (by omega)
  rw[Addr.add_mid,Nat.zero_add,this]
  simp[intCells,hi]
theorem Tryz.elemInts:Tryz.prog.underlying 32=some (.slice (Tryz.prog.elem 32)):=by kernel_rfl
theorem Tryz.sizeInts (w:World):(Go.sizeOf (Tryz.prog.elem 32)).run Tryz.prog w=.ok 1 w:=by kernel_rfl
theorem atInts {ao:Option Addr} {a:Addr} (len cap k:Nat) (ha:ao=some a) (h:k<len) (w:World):(Instr.indexAt 32 (.slice ao len cap) (.int .i64 (k:Int))).run Tryz.prog w=.ok (.pointer (some (a.add k))) w:=
 index_at Tryz.elemInts Tryz.sizeInts len cap k ha h w
theorem below_draws (w:World) (n:Nat):Below w.heap.size w (w.drewN n):=⟨rfl,rfl,rfl,Nat.le_refl _,fun _ _=>rfl⟩
theorem ret_bool {a b:Bool} (h:a=b):Ending.returned (.bool a)=.returned (.bool b):=by rw[h]
theorem Tryz.callComparable (w:World):(callFunc 198 #[.agg #[.pointer (some ⟨1,62,none⟩)]]).run Tryz.prog w=.ok (.value (.bool true)) w:=by kernel_rfl
theorem Tryz.methodComparable (v : Value) (w : World) : (Go.method 366 139 v "Comparable").run Tryz.prog w = .ok (198, v) w := by kernel_rfl
end F
namespace F
open Go.RowKit
theorem OwnInts.block {w w':World} {base:Nat} {u:Value} {l:List Int} (h:OwnInts w base u l) (hk:∀ (b:Nat) (cs:Array Value) (fr:Nat × Nat),w.heap[b]?=some (Obj.cells cs 3 fr)→w'.heap[b]?=w.heap[b]?):OwnInts w' base u l:=by
 refine⟨h.1,?_⟩
 rcases h.2 with hn|⟨g,cap,cur,rfl,hb,hgg,rest⟩
 ·exact .inl hn
 ·exact .inr ⟨g,cap,cur,rfl,hb,(hk g _ _ hgg).trans hgg,rest⟩
theorem OwnInts.below {w w':World} {base:Nat} {u:Value} {l:List Int} (h:OwnInts w base u l) (hb:Below w.heap.size w w'):OwnInts w' base u l:=
 h.block fun b _ _ hh=>hb.block b (lt_of_heap hh)
theorem bel {w W W':World} {B:Nat} (h:Below B w W) (h':Below W.heap.size W W') (hB:B≤W.heap.size):Below B w W':=h.trans (h'.mono hB)
def aB:ByteArray:=⟨#[97]⟩
def cB:ByteArray:=⟨#[99]⟩
def eB:ByteArray:=⟨#[]⟩
def L1:List Sh:=[⟨aB,aB,false⟩]
def L2:List Sh:=[⟨aB,aB,false⟩,⟨eB,eB,true⟩,⟨cB,eB,true⟩]
end F
namespace F
open Go.RowKit
def withL:List Int→Int→List Int
 | [],n=>[n]
 | x::l,n=>if x=n then x::l else if n<x then n::x::l else x::withL l n
theorem withL_skip:∀ (l:List Int) (k:Nat) (n:Int),(∀ x∈l.take k,x<n)→withL l n=l.take k++withL (l.drop k) n
 | _,0,_,_=>by simp
 | [],k+1,_,_=>by simp
 | x::l,k+1,n,h=>by
   have hx:x<n:=h x (by simp)
   simp only[List.take_succ_cons,List.drop_succ_cons,List.cons_append]
   rw[withL,if_neg (by omega),if_neg (by omega),withL_skip l k n (fun y hy=>h y (by simp[hy]))]
theorem intCells_append (l m:List Int):intCells (l++m)=intCells l++intCells m:=by simp[intCells]
theorem intCells_length (l:List Int):(intCells l).length=l.length:=by simp[intCells]
theorem intCells_one (l:List Int):∀ u∈intCells l,u.oneCell'=true:=by
 intro u hu
 obtain⟨x,_,rfl⟩:=List.mem_map.1 hu
 rfl
theorem OwnInts.cells {w:World} {base g cap:Nat} {n:Nat} {l:List Int} (h:OwnInts w base (.slice (some ⟨g,0,none⟩) n cap) l) (hn:n=l.length):∀ j u,(intCells l)[j]?=some u→w.cell? ⟨g,j,none⟩=some u:=by
 subst hn
 intro j u hu
 have hj:j<l.length:=by have:=(List.getElem?_eq_some_iff.1 hu).1;rwa [intCells_length] at this
 have:=World.ownsRow.cellAt h j (by omega)
 rw[this]
 exact hu
theorem append_from (i0:TypeInfo) (hi:Tryz.prog.info? 3=some i0) (hz0:i0.zero=some (.int .i64 0)) (hz1:i0.size=1) (hz2:i0.bytes=8) {w:World} {B:Nat} (v:Value) (xs:List Int) (h:OwnInts w B v xs) (ty:TypeId) (ao:Option Addr) (cap:Nat) (news:List Int)
  (hc:news=[]∨∃ a,ao=some a∧∀ j u,(intCells news)[j]?=some u→w.cell? (a.add j)=some u) (hnil:ao=none→cap=0) (hB:B≤w.heap.size) (hl:xs.length+news.length≤1000) :
  ∃ v' w',(Builtin.append_ #[32,32] ty #[v,.slice ao news.length cap]).run Tryz.prog w=.ok v' w'∧OwnInts w' B v' (xs++news)∧w.grownBy w' v.ownBlock:=by
 by_cases hn:news=[]
 ·subst hn
  cases ao with
  | none=>
    by_cases hcap:cap=0
    ·subst hcap
     refine⟨v,w,run_append_owned_none (P:=Tryz.prog) (w:=w) B 32 ty 3 i0 1 Tryz.underlying32 hi v xs.length (intCells xs) h,by simpa using h,World.grownBy.refl _ _⟩
    ·exact absurd (hnil rfl) hcap
  | some a=>
    obtain⟨v',w',h1,h2,h3,h4⟩:=run_append_own (P:=Tryz.prog) w B 32 ty 3 i0 (.int .i64 0) 1 8 Tryz.underlying32 hi hz0 hz1 hz2 rfl (by omega) v xs.length (intCells xs) h a 0 cap [] rfl (by simp) (by simp) (by unfold maxLen;simp at hl;omega) (by simp at hl;omega) hB
    exact⟨v',w',h1,by simpa[OwnInts] using h2,h3⟩
 ·obtain⟨a,rfl,hcell⟩:=hc.resolve_left hn
  obtain⟨v',w',h1,h2,h3,h4⟩:=run_append_own (P:=Tryz.prog) w B 32 ty 3 i0 (.int .i64 0) 1 8 Tryz.underlying32 hi hz0 hz1 hz2 rfl (by omega) v xs.length (intCells xs) h a news.length cap (intCells news) (by rw[intCells_length];omega) hcell (intCells_one _) (by unfold maxLen;omega) (by omega) hB
  exact⟨v',w',h1,by unfold OwnInts;rw[intCells_append,qO];exact h2,h3⟩
section
variable {P:Program} {w:World}
theorem wp_append_any {o:Oper} {a:Act} {K:Act→World→Prop} {Q:Exit→Act→World→Prop} (s x:Operand) (t:TypeId) (ho:o.op=.call { callee:=.builtin .append,args:=#[s,x],argTypes:=#[t,t] })
  (v u:Value) (hs:a.eval s=v) (hx:a.eval x=u) {R:Value→World→Prop} (h:∃ v' w',(Builtin.append_ #[t,t] o.type #[v,u]).run P w=.ok v' w'∧R v' w') (hK:∀ v' w',R v' w'→K (a.put o.dst v') w'):o.wp P a w K Q:=by
 obtain⟨v',w',hrun,hR⟩:=h
 unfold Oper.wp
 simp[execOp,ho,resolve,invoke,builtin,hs,hx,hrun,Result.andThen]
 exact hK _ _ hR
theorem wpList_append_any {ops:Array Oper} {rest:List Oper} {o:Oper} {a:Act} {Q:Exit→Act→World→Prop} (hgd:o.guard=none) (s x:Operand) (t:TypeId) (ho:o.op=.call { callee:=.builtin .append,args:=#[s,x],argTypes:=#[t,t] })
  (v u:Value) (hs:a.eval s=v) (hx:a.eval x=u) {R:Value→World→Prop} (h:∃ v' w',(Builtin.append_ #[t,t] o.type #[v,u]).run P w=.ok v' w'∧R v' w') (hK:∀ v' w',R v' w'→wpList P ops Q rest (a.put o.dst v') w'):wpList P ops Q (o::rest) a w:=
 wpList_plain hgd fun _ hh=>wp_append_any s x t ho v u hs hx h fun v' w' hR=>hh _ _ (hK v' w' hR)
theorem step_append_any {ops:Array Oper} {o:Oper} {a:Act} {K:Act→World→Prop} {Q:Exit→Act→World→Prop} {E:Prop} (hgd:o.guard=none) (s x:Operand) (t:TypeId) (ho:o.op=.call { callee:=.builtin .append,args:=#[s,x],argTypes:=#[t,t] })
  (v u:Value) (hs:a.eval s=v) (hx:a.eval x=u) {R:Value→World→Prop} (h:∃ v' w',(Builtin.append_ #[t,t] o.type #[v,u]).run P w=.ok v' w'∧R v' w') (hK:∀ v' w',R v' w'→K (a.put o.dst v') w') :
  if Region.wanted o (yielded ops a.tmps)=true then Oper.wp P o a w K Q else E:=by
 have hw:Region.wanted o (yielded ops a.tmps)=true:=by simp[Region.wanted,hgd]
 rw[if_pos hw]
 exact wp_append_any s x t ho v u hs hx h hK
end
theorem OwnInts.nil (w:World) (B:Nat):OwnInts w B (.slice none 0 0) []:=World.ownsRow_nil _ _ _ _
theorem OwnInts.alloc {w:World} {B:Nat} {v:Value} {l:List Int} (h:OwnInts w B v l) (o:Obj):OwnInts (w.alloc o) B v l:=World.ownsRow.alloc h o
theorem OwnInts.mono {w:World} {B C:Nat} {v:Value} {l:List Int} (h:OwnInts w B v l) (hC:C≤B):OwnInts w C v l:=by
 obtain⟨h1,h2⟩:=h
 refine⟨h1,?_⟩
 rcases h2 with h2|⟨g,cap,cur,rfl,hb,rest⟩
 ·exact .inl h2
 ·exact .inr ⟨g,cap,cur,rfl,by omega,rest⟩
theorem OwnInts.after {w w0 w':World} {B:Nat} {v:Value} {l:List Int} (h:OwnInts w B v l) (hb:Below B w0 w) (hB:B≤w.heap.size) (hg:w.grownBy w' v.ownBlock):Below B w0 w':=
 hb.grown hg hB (fun r hr=>(World.ownsRow.lt h r hr).1)
theorem tail_at (g n cap k:Nat) (h:k<n) (hc:n≤cap) (w:World) :
  (Instr.slice 32 (.slice (some ⟨g,0,none⟩) n cap) (some (.int .i64 (k:Int))) none none).run Tryz.prog w=.ok (.slice (some ⟨g,k,none⟩) (n - k) (cap - k)) w:=by
 rw[run_slice_l w 32 (some ⟨g,0,none⟩) n cap Tryz.elemInts .i64 (k:Int) (by omega) (by omega),Tryz.sizeInts]
 simp only[Result.andThen,sliced,Int.toNat_natCast]
 rw[if_neg (by omega)]
 simp[Addr.add_mid]
theorem with_any (l:List Int) (n:Int) (v:Value) (B:Nat) (w:World) (h:OwnInts w B v l) (hB:B≤w.heap.size) (hl:l.length≤500) :
  Calls Tryz.prog 50 #[v,.int .i64 n] w fun e w'=>∃ u,e=.returned u∧OwnInts w' B u (withL l n)∧Below w.heap.size w w':=by
 obtain⟨i0,hi,hz0,hz1,hz2⟩:=info_parts Tryz.infoInt
 have hat:=hid (h.at (by unfold maxLen;omega))
 have H:=hid h
 obtain⟨ao,cap,rfl⟩:=h.slice
 have hcap:l.length≤cap∧(ao=none→cap=0):=by
  rcases h.2 with ⟨hv,h0⟩|⟨g,cap',cur,hv,_,_,hc,_⟩
  ·simp only[qR] at hv
   obtain⟨rfl,_,rfl⟩:=hv
   exact⟨by omega,fun _=>rfl⟩
  ·simp only[qR,true_and] at hv
   obtain⟨rfl,rfl⟩:=hv
   exact⟨hc,fun e=>by cases e⟩
 obtain⟨hcap,hnil⟩:=hcap
 have HW:Hid (∀ k,(∀ x∈l.take k,x<n)→withL l n=l.take k++withL (l.drop k) n):=hid (fun k hk=>withL_skip l k n hk)
 generalize withL l n=RL at *
 replace hnil:=hid hnil
 clear h
 go_enter Tryz.func50,Tryz.ntmps50
 go_wp2
 go_loopg [5] l.length (fun g i wr=>∃ (k:Nat),k+g=l.length∧i=.int .i64 k∧Hid (∀ x∈l.take k,x<n)∧wr=w)
 case atStart=>exact⟨0,by omega,rfl,hid (by simp),rfl⟩
 case round=>
  obtain⟨k,hk,rfl,hlt,rfl⟩:=hrel
  have hRL:=hid (HW.out k hlt.out)
  clear HW
  cases gk with
  | zero=>
    have hke:k=l.length:=by omega
    subst hke
    have hRL2:=hRL.out
    rw[List.take_length,List.drop_length,withL] at hRL2
    replace hRL2:=hid hRL2
    have hsrc:l=[]∨∃ a,ao=some a∧∀ j u,(intCells l)[j]?=some u→wr.cell? (a.add j)=some u:=by
     rcases H.out.2 with ⟨hv,h0⟩|⟨g,cap',cur,hv,_⟩
     ·exact .inl (List.length_eq_zero_iff.1 h0)
     ·simp only[qR,true_and] at hv
      obtain⟨rfl,rfl⟩:=hv
      exact .inr ⟨_,rfl,fun j u hu=>by rw[Addr.add_mid,Nat.zero_add];exact H.out.cells rfl j u hu⟩
    replace hsrc:=hid hsrc
    clear hlt hRL hat
    go_wp2_with (first
     | (at_builtin;refine wpList_append_any rfl (.const (.slice none 0 0)) (.tmp 36) 32 rfl _ _ rfl rfl (append_from i0 hi hz0 hz1 hz2 (.slice none 0 0) [] (OwnInts.nil wr wr.heap.size) _ ao cap l hsrc.out hnil.out qL (by simp;omega)) ?_;rintro v1 w1 ⟨h1,g1⟩;rw[List.nil_append] at h1;have HB1:=hid ((OwnInts.nil wr wr.heap.size).after (qB _ _) qL g1);replace h1:=hid h1;clear g1;have hs1:=HB1.out.size)
     | (at_builtin;refine wpList_append_any rfl (.tmp 37) (.tmp 39) 32 rfl _ _ rfl rfl (append_from i0 hi hz0 hz1 hz2 _ l (h1.out.alloc _) _ (some ⟨w1.heap.size,0,none⟩) 1 [n] (.inr ⟨_,rfl,World.news_of_block (heap_newL w1 _)⟩) (by simp) (by simp;omega) (by simp;omega)) ?_;rintro v2 w2 ⟨h2,g2⟩;have HB2:=hid ((h1.out.alloc _).after (HB1.out.alloc hs1 _) (by simp;omega) g2);replace h2:=hid h2;clear g2)
     | fail)
    go_ret
    refine⟨_,rfl,?_,HB2.out⟩
    rw[hRL2.out]
    exact h2.out.mono hB
  | succ g=>
    have hlk:k<l.length:=by omega
    obtain⟨ao',cap',hv',_,hcs⟩:=hat.out
    simp only[qR,true_and] at hv'
    obtain⟨rfl,rfl⟩:=hv'
    obtain⟨a,ha,hcell⟩:=hcs k hlk
    have hx:=index_at (len:=l.length) (cap:=cap) Tryz.elemInts Tryz.sizeInts k ha hlk
    by_cases he:l[k]=n
    ·rw[he] at hcell
     have hRL2:=hRL.out
     rw[List.drop_eq_getElem_cons hlk,withL,if_pos he,← List.drop_eq_getElem_cons hlk,List.take_append_drop] at hRL2
     replace hRL2:=hid hRL2
     clear hlt hRL hat he ha hcs
     go_wp2
     go_ret
     refine⟨_,rfl,?_,qB _ _⟩
     rw[hRL2.out]
     exact H.out
    ·by_cases hg:n<l[k]
     ·obtain⟨g0,rfl⟩:∃ g0,ao=some ⟨g0,0,none⟩:=by
       rcases H.out.2 with ⟨hv,h0⟩|⟨g,cap',cur,hv,_⟩
       ·omega
       ·simp only[qR,true_and] at hv
        exact⟨g,hv.1⟩
      have hRL2:=hRL.out
      rw[List.drop_eq_getElem_cons hlk,withL,if_neg he,if_pos hg,← List.drop_eq_getElem_cons hlk] at hRL2
      replace hRL2:=hid hRL2
      have he2:(l[k]==n)=false:=by simpa using he
      have hch:=fun W=>cut_head (ao:=some ⟨g0,0,none⟩) (len:=l.length) (cap:=cap) (n:=k) Tryz.elemInts Tryz.sizeInts (by omega) W
      have hct:=fun W=>tail_at g0 l.length cap k hlk hcap W
      have hlen1:(l.take k).length=k:=by rw[List.length_take];omega
      have hlen2:(l.drop k).length=l.length - k:=List.length_drop
      have hcl:=H.out.cells rfl
      have S1:Hid (∀ X,Below wr.heap.size wr X→l.take k=[]∨∃ a:Addr,(some ⟨g0,0,none⟩:Option Addr)=some a∧∀ j u,(intCells (l.take k))[j]?=some u→X.cell? (a.add j)=some u):=hid (by
       intro X hX
       refine .inr ⟨_,rfl,fun j u hu=>?_⟩
       have hu2:(intCells l)[j]?=some u:=by
        have hj:=(List.getElem?_eq_some_iff.1 hu).1
        rw[intCells_length] at hj
        rw[← hu,intCells,intCells,List.map_take,List.getElem?_take,if_pos (by omega)]
       have h3:=hcl j u hu2
       rw[Addr.add_mid,Nat.zero_add,hX.cell (p:=⟨g0,j,none⟩) (qF wr _ h3)]
       exact h3)
      have S2:Hid (∀ X,Below wr.heap.size wr X→l.drop k=[]∨∃ a:Addr,(some ⟨g0,k,none⟩:Option Addr)=some a∧∀ j u,(intCells (l.drop k))[j]?=some u→X.cell? (a.add j)=some u):=hid (by
       intro X hX
       refine .inr ⟨_,rfl,fun j u hu=>?_⟩
       have hu2:(intCells l)[k+j]?=some u:=by
        rw[← hu,intCells,intCells,List.map_drop,List.getElem?_drop]
       have h3:=hcl (k+j) u hu2
       rw[Addr.add_mid,hX.cell (p:=⟨g0,k+j,none⟩) (qF wr _ h3)]
       exact h3)
      have A1:Hid (∀ X,Below wr.heap.size wr X→∀ ty,∃ v' w',(Builtin.append_ #[32,32] ty #[.slice none 0 0,.slice (some ⟨g0,0,none⟩) k cap]).run Tryz.prog X=.ok v' w'∧OwnInts w' wr.heap.size v' (l.take k)∧Below wr.heap.size wr w'∧X.grownBy w' none):=hid (by
       intro X hX ty
       obtain⟨v',w',e1,e2,e3⟩:=append_from i0 hi hz0 hz1 hz2 (.slice none 0 0) [] (OwnInts.nil X wr.heap.size) ty (some ⟨g0,0,none⟩) cap (l.take k) (S1.out X hX) (by simp) hX.size (by simp;omega)
       rw[hlen1] at e1
       exact⟨v',w',e1,by simpa using e2,(OwnInts.nil X wr.heap.size).after hX hX.size e3,e3⟩)
      have A3:Hid (∀ X,Below wr.heap.size wr X→∀ u,OwnInts X wr.heap.size u (l.take k++[n])→∀ ty,∃ v' w',(Builtin.append_ #[32,32] ty #[u,.slice (some ⟨g0,k,none⟩) (l.length - k) (cap - k)]).run Tryz.prog X=.ok v' w'∧OwnInts w' wr.heap.size v' ((l.take k++[n])++l.drop k)∧Below wr.heap.size wr w'):=hid (by
       intro X hX u hu ty
       obtain⟨v',w',e1,e2,e3⟩:=append_from i0 hi hz0 hz1 hz2 u _ hu ty (some ⟨g0,k,none⟩) (cap - k) (l.drop k) (S2.out X hX) (by simp) hX.size (by simp;omega)
       rw[hlen2] at e1
       exact⟨v',w',e1,e2,hu.after hX hX.size e3⟩)
      have A2:Hid (∀ X,Below wr.heap.size wr X→∀ u,OwnInts X wr.heap.size u (l.take k)→∀ b,wr.heap.size≤b→X.heap[b]?=some (.cells #[.int .i64 n] 3 (0,0))→∀ ty,∃ v' w',(Builtin.append_ #[32,32] ty #[u,.slice (some ⟨b,0,none⟩) 1 1]).run Tryz.prog X=.ok v' w'∧OwnInts w' wr.heap.size v' (l.take k++[n])∧Below wr.heap.size wr w'):=hid (by
       intro X hX u hu b hb hbk ty
       obtain⟨v',w',e1,e2,e3⟩:=append_from i0 hi hz0 hz1 hz2 u _ hu ty (some ⟨b,0,none⟩) 1 [n] (.inr ⟨_,rfl,World.news_of_block hbk⟩) (by simp) hX.size (by simp;omega)
       exact⟨v',w',e1,e2,hu.after hX hX.size e3⟩)
      clear hlt hRL hat he ha hcs S1 S2 hcl hlen1 hlen2
      generalize l[k]=y at *
      have b0:Below wr.heap.size wr wr.drew:=⟨rfl,rfl,rfl,Nat.le_refl _,fun _ _=>rfl⟩
      have bA:=fun o=>b0.alloc qL o
      replace b0:=hid b0
      replace bA:=hid bA
      go_wp2_with fail
      go_region_law (first
       | (refine step_append_any rfl (.const (.slice none 0 0)) (.tmp 27) 32 rfl _ _ rfl rfl (A1.out _ (by first|exact b0.out|exact bA.out _) _) ?_;rintro v1 w1 ⟨h1,b1,g1⟩;have hk1:w1.heap.size=w1.heap.size:=rfl;(first|(have hk1:=(g1.block wr.heap.size (by simp) (by simp)).trans (heap_newL wr (.cells #[.int .i64 n] 3)))|skip);have s1:=b1.size;replace h1:=hid h1;replace b1:=hid b1;replace hk1:=hid hk1;clear g1)
       | (refine step_append_any rfl (.tmp 28) (.tmp 30) 32 rfl _ _ rfl rfl (A2.out _ (by first|exact b1.out|exact b1.out.alloc s1 _) _ (by first|exact h1.out|exact h1.out.alloc _) _ (by first|exact Nat.le_refl _|exact s1) (by first|exact hk1.out|exact heap_newL w1 _) _) ?_;rintro v2 w2 ⟨h2,b2⟩;replace h2:=hid h2;replace b2:=hid b2)
       | (refine step_append_any rfl (.tmp 31) (.tmp 34) 32 rfl _ _ rfl rfl (A3.out _ b2.out _ h2.out _) ?_;rintro v3 w3 ⟨h3,b3⟩;replace h3:=hid h3;replace b3:=hid b3))
      all_goals go_wp2
      all_goals go_ret
      all_goals
       refine⟨_,rfl,?_,b3.out⟩
       rw[hRL2.out]
       have:=h3.out.mono hB
       simpa using this
     ·have hlt2:l[k]<n:=by omega
      have he2:(l[k]==n)=false:=by simpa using he
      have hlt3:Hid (∀ x∈l.take (k+1),x<n):=hid (by
       intro x hx
       rw[qT hlk,qU] at hx
       rcases hx with hx|hx
       ·exact hlt.out x hx
       ·have:x=l[k]:=by simpa using hx
        omega)
      generalize l[k]=y at *
      clear hlt hRL hat he ha hcs hg
      go_wp2
      go_roundg g
      case rel=>exact⟨k+1,by omega,by go_num,hlt3,rfl⟩
      case measure=>omega
end F
namespace F
open Go.RowKit
theorem withL_last (l:List Int) (n:Int) (h:∀ x∈l,x<n):withL l n=l++[n]:=by
 have:=withL_skip l l.length n (by simpa using h)
 rw[this,List.take_length,List.drop_length,withL]
theorem withL_first (l:List Int) (n:Int) (h:∀ x∈l,n<x):withL l n=n::l:=by
 cases l with
 | nil=>rfl
 | cons x l=>
   have:=h x (by simp)
   rw[withL,if_neg (by omega),if_pos this]
theorem looseL_mem:∀ (l:List Sh) (n:Nat) (x:Int),x∈looseL l n→(n:Int)≤x∧x<(n:Int)+l.length
 | [],n,x,h=>by simp[looseL] at h
 | s::l,n,x,h=>by
   have ih:=looseL_mem l (n+1) x
   simp only[looseL] at h
   simp only[qV]
   split at h
   ·rcases List.mem_cons.1 h with h|h
    ·omega
    ·have:=ih h;omega
   ·have:=ih h;omega
theorem loose_set:∀ (l:List Sh) (i:Nat) (_:i<l.length) (n:Nat) (x:Sh),x.loose=true→looseL (l.set i x) n=withL (looseL l n) ((n+i:Nat):Int)
 | [],i,h,_,_,_=>absurd h (by simp)
 | y::l,0,_,n,x,hx=>by
   rw[qZ]
   simp only[looseL,hx,if_true,Nat.add_zero]
   cases hy:y.loose
   ·simp only[Bool.false_eq_true,if_false]
    rw[withL_first _ _ (fun z hz=>by have:=looseL_mem l (n+1) z hz;omega)]
   ·simp only[if_true]
    rw[withL,if_pos rfl]
 | y::l,i+1,h,n,x,hx=>by
   rw[qC]
   have ih:=loose_set l i (by simpa using h) (n+1) x hx
   simp only[looseL]
   rw[ih,show n+1+i=n+(i+1) by omega]
   cases hy:y.loose
   ·simp
   ·simp only[if_true]
    rw[withL,if_neg (by omega),if_neg (by omega)]
theorem loose_snoc (l:List Sh) (x:Sh) (hx:x.loose=true):looseL (l++[x]) 0=withL (looseL l 0) (l.length:Int):=by
 rw[looseL_append,withL_last _ _ (fun z hz=>by have:=looseL_mem l 0 z hz;omega)]
 simp[looseL,hx]
theorem pad_succ (l:List Sh) (k:Nat) (h:l.length≤k):padTo l (k+1)=padTo l k++[emptySh]:=by
 simp only[padTo]
 rw[show k+1 - l.length=(k - l.length)+1 by omega,List.replicate_succ',List.append_assoc]
theorem loose_pad (l:List Sh) (j:Nat) (h:l.length≤j):looseL (padTo l (j+1)) 0=withL (looseL (padTo l j) 0) (j:Int):=by
 have hl:(padTo l j).length=j:=by rw[padTo_length];omega
 have:=loose_snoc (padTo l j) emptySh rfl
 rw[hl] at this
 rw[pad_succ l j h,this]
theorem writeL_length (l:List Sh) (k:Nat) (s:ByteArray):(writeL l k s).length=max l.length (k+1):=by
 unfold writeL
 rw[List.length_set,padTo_length]
theorem maxInt (ats:Array TypeId) (ty:TypeId) (a b:Nat) (w:World):(Builtin.max_ ats ty #[.int .i64 (a:Int),.int .i64 (b:Int)]).run Tryz.prog w=.ok (.int .i64 ((max a b:Nat):Int)) w:=by
 by_cases h:a≤b
 ·simp[Builtin.max_,Builtin.max2,Nat.max_eq_right h]
  omega
 ·simp[Builtin.max_,Builtin.max2,Nat.max_eq_left (Nat.le_of_not_le h)]
  omega
end F
namespace F
open Go.RowKit Go.Conc
theorem minInt (ats:Array TypeId) (ty:TypeId) (a b:Nat) (w:World):(Builtin.min_ ats ty #[.int .i64 (a:Int),.int .i64 (b:Int)]).run Tryz.prog w=.ok (.int .i64 ((min a b:Nat):Int)) w:=by
 by_cases h:a≤b
 ·simp[Builtin.min_,Builtin.min2,Nat.min_eq_left h]
  omega
 ·simp[Builtin.min_,Builtin.min2,Nat.min_eq_right (Nat.le_of_not_le h),h]
end F
namespace F
open Go.RowKit
def strC (l:List ByteArray):List Value:=l.map Value.string
theorem strC_length (l:List ByteArray):(strC l).length=l.length:=by simp[strC]
theorem strC_append (l m:List ByteArray):strC (l++m)=strC l++strC m:=by simp[strC]
theorem strC_one (l:List ByteArray):∀ u∈strC l,u.oneCell'=true:=by
 intro u hu
 obtain⟨x,_,rfl⟩:=List.mem_map.1 hu
 rfl
def OwnStrs (w:World) (B:Nat) (v:Value) (l:List ByteArray):Prop:=w.ownsRow B 9 1 v l.length (strC l)
theorem OwnStrs.nil (w:World) (B:Nat):OwnStrs w B (.slice none 0 0) []:=World.ownsRow_nil _ _ _ _
theorem OwnStrs.alloc {w:World} {B:Nat} {v:Value} {l:List ByteArray} (h:OwnStrs w B v l) (o:Obj):OwnStrs (w.alloc o) B v l:=World.ownsRow.alloc h o
theorem OwnStrs.slice {w:World} {base:Nat} {v:Value} {l:List ByteArray} (h:OwnStrs w base v l):∃ ao cap,v=.slice ao l.length cap:=by
 rcases h.2 with ⟨rfl,h0⟩|⟨g,cap,cur,rfl,_⟩
 ·exact⟨none,0,by rw[h0]⟩
 ·exact⟨_,_,rfl⟩
theorem OwnStrs.mono {w:World} {B C:Nat} {v:Value} {l:List ByteArray} (h:OwnStrs w B v l) (hC:C≤B):OwnStrs w C v l:=by
 obtain⟨h1,h2⟩:=h
 refine⟨h1,?_⟩
 rcases h2 with h2|⟨g,cap,cur,rfl,hb,rest⟩
 ·exact .inl h2
 ·exact .inr ⟨g,cap,cur,rfl,by omega,rest⟩
theorem OwnStrs.block {w w':World} {base:Nat} {u:Value} {l:List ByteArray} (h:OwnStrs w base u l) (hk:∀ (b:Nat) (cs:Array Value) (fr:Nat × Nat),w.heap[b]?=some (Obj.cells cs 9 fr)→w'.heap[b]?=w.heap[b]?):OwnStrs w' base u l:=by
 refine⟨h.1,?_⟩
 rcases h.2 with hn|⟨g,cap,cur,rfl,hb,hgg,rest⟩
 ·exact .inl hn
 ·exact .inr ⟨g,cap,cur,rfl,hb,(hk g _ _ hgg).trans hgg,rest⟩
theorem OwnStrs.below {w w':World} {base:Nat} {u:Value} {l:List ByteArray} (h:OwnStrs w base u l) (hb:Below w.heap.size w w'):OwnStrs w' base u l:=
 h.block fun b _ _ hh=>hb.block b (lt_of_heap hh)
theorem OwnStrs.after {w w0 w':World} {B:Nat} {v:Value} {l:List ByteArray} (h:OwnStrs w B v l) (hb:Below B w0 w) (hB:B≤w.heap.size) (hg:w.grownBy w' v.ownBlock):Below B w0 w':=
 hb.grown hg hB (fun r hr=>(World.ownsRow.lt h r hr).1)
theorem OwnStrs.src {w:World} {B cap:Nat} {ao:Option Addr} {n:Nat} {l:List ByteArray} (h:OwnStrs w B (.slice ao n cap) l) (hn:n=l.length) :
  l.length≤cap∧(ao=none→cap=0)∧∀ X,Below w.heap.size w X→(strC l=[]∨∃ a,ao=some a∧∀ j u,(strC l)[j]?=some u→X.cell? (a.add j)=some u):=by
 subst hn
 rcases h.2 with ⟨hv,h0⟩|⟨g,cap',cur,hv,hb,hg,hc,hm,_⟩
 ·simp only[qR] at hv
  obtain⟨rfl,_,rfl⟩:=hv
  exact⟨by omega,fun _=>rfl,fun X hX=>.inl (List.length_eq_zero_iff.1 (by rw[strC_length];exact h0))⟩
 ·simp only[qR,true_and] at hv
  obtain⟨rfl,rfl⟩:=hv
  refine⟨hc,fun e=>(by cases e),fun X hX=>.inr ⟨_,rfl,fun j u hu=>?_⟩⟩
  have hj:j<l.length:=by have:=(List.getElem?_eq_some_iff.1 hu).1;rwa [strC_length] at this
  have h3:w.cell? ⟨g,j,none⟩=some u:=(World.ownsRow.cellAt h j (by omega)).trans hu
  rw[Addr.add_mid,Nat.zero_add,hX.cell (p:=⟨g,j,none⟩) (qF w _ h3)]
  exact h3
theorem Tryz.infoStr:(Tryz.prog.info? 9).map (fun i=>(i.zero,i.size,i.bytes))=some (some (.string ⟨#[]⟩),1,16):=by kernel_rfl
theorem app_strs {w:World} {B:Nat} (v:Value) (xs:List ByteArray) (h:OwnStrs w B v xs) (ty:TypeId) (ao:Option Addr) (cap:Nat) (news:List ByteArray)
  (hc:strC news=[]∨∃ a,ao=some a∧∀ j u,(strC news)[j]?=some u→w.cell? (a.add j)=some u) (hnil:ao=none→cap=0) (hB:B≤w.heap.size) (hl:xs.length+news.length≤1000) :
  ∃ v' w',(Builtin.append_ #[31,31] ty #[v,.slice ao news.length cap]).run Tryz.prog w=.ok v' w'∧OwnStrs w' B v' (xs++news)∧w.grownBy w' v.ownBlock:=by
 obtain⟨i0,hi,hz0,hz1,hz2⟩:=info_parts Tryz.infoStr
 by_cases hn:news=[]
 ·subst hn
  cases ao with
  | none=>
    have hcap:=hnil rfl
    subst hcap
    exact⟨v,w,run_append_owned_none (P:=Tryz.prog) (w:=w) B 31 ty 9 i0 1 Tryz.underlying31 hi v xs.length (strC xs) h,by simpa using h,World.grownBy.refl _ _⟩
  | some a=>
    obtain⟨v',w',h1,h2,h3,h4⟩:=run_append_own (P:=Tryz.prog) w B 31 ty 9 i0 (.string ⟨#[]⟩) 1 16 Tryz.underlying31 hi hz0 hz1 hz2 rfl (by omega) v xs.length (strC xs) h a 0 cap [] rfl (by simp) (by simp) (by unfold maxLen;simp at hl;omega) (by simp at hl;omega) hB
    exact⟨v',w',h1,by simpa[OwnStrs] using h2,h3⟩
 ·obtain⟨a,rfl,hcell⟩:=hc.resolve_left (fun e=>hn (List.length_eq_zero_iff.1 (by rw[← strC_length,e];rfl)))
  obtain⟨v',w',h1,h2,h3,h4⟩:=run_append_own (P:=Tryz.prog) w B 31 ty 9 i0 (.string ⟨#[]⟩) 1 16 Tryz.underlying31 hi hz0 hz1 hz2 rfl (by omega) v xs.length (strC xs) h a news.length cap (strC news) (by rw[strC_length];omega) hcell (strC_one _) (by unfold maxLen;omega) (by omega) hB
  exact⟨v',w',h1,by unfold OwnStrs;rw[strC_append,qO];exact h2,h3⟩
theorem copy_strs {w X:World} {B C cap n:Nat} {ao:Option Addr} {l:List ByteArray} (h:OwnStrs w B (.slice ao n cap) l) (hn:n=l.length) (hX:Below w.heap.size w X) (hC:C≤X.heap.size) (hl:l.length≤1000) (ty:TypeId) :
  ∃ v' w',(Builtin.append_ #[31,31] ty #[.slice none 0 0,.slice ao n cap]).run Tryz.prog X=.ok v' w'∧OwnStrs w' C v' l∧X.grownBy w' none:=by
 obtain⟨h1,h2,h3⟩:=h.src hn
 subst hn
 obtain⟨v',w',e1,e2,e3⟩:=app_strs (.slice none 0 0) [] (OwnStrs.nil X C) ty ao cap l (h3 X hX) h2 hC (by simp;omega)
 exact⟨v',w',e1,by simpa using e2,e3⟩
theorem OwnStrs.at {w:World} {base:Nat} {v:Value} {l:List ByteArray} (h:OwnStrs w base v l) (hs:∀ x∈l,x.size≤maxLen) (hl:l.length≤maxLen):StrsAt w v l:=by
 obtain⟨ao,cap,rfl⟩:=h.slice
 obtain⟨h1,h2,h3⟩:=h.src rfl
 refine⟨ao,cap,rfl,⟨hl,h1⟩,fun i hi=>?_⟩
 rcases h3 w (qB _ _) with e|⟨a,ha,hc⟩
 ·have:l.length=0:=by rw[← strC_length,e];rfl
  omega
 ·exact⟨a,ha,hc i _ (by simp[strC,hi]),hs _ (List.getElem_mem hi)⟩
structure RfAt (w:World) (B rb:Nat) (vV vD vL:Value) (V D:List ByteArray) (Ls:List Int):Prop where
 obj:w.heap[rb]?=some (.cells #[vV,vD,vL] 34 (0,0))
 base:B≤rb
 rowV:OwnStrs w B vV V
 rowD:OwnStrs w B vD D
 rowL:OwnInts w B vL Ls
 lenV:V.length≤400
 lenD:D.length≤400
 lenL:Ls.length≤400
theorem RfAt.lt {w:World} {B rb:Nat} {vV vD vL:Value} {V D:List ByteArray} {Ls:List Int} (h:RfAt w B rb vV vD vL V D Ls):rb<w.heap.size:=lt_of_heap h.obj
theorem RfAt.baseLe {w:World} {B rb:Nat} {vV vD vL:Value} {V D:List ByteArray} {Ls:List Int} (h:RfAt w B rb vV vD vL V D Ls):B≤w.heap.size:=by have:=h.lt;have:=h.base;omega
theorem RfAt.kept {w w':World} {B rb:Nat} {vV vD vL:Value} {V D:List ByteArray} {Ls:List Int} (h:RfAt w B rb vV vD vL V D Ls) (hk:∀ (b:Nat) (cs:Array Value) (T:TypeId) (fr:Nat × Nat),w.heap[b]?=some (Obj.cells cs T fr)→T=9∨T=3∨T=34→w'.heap[b]?=w.heap[b]?):RfAt w' B rb vV vD vL V D Ls:=
 ⟨(hk rb _ _ _ h.obj (.inr (.inr rfl))).trans h.obj,h.base,h.rowV.block (fun b cs fr hb=>hk b cs _ fr hb (.inl rfl)),h.rowD.block (fun b cs fr hb=>hk b cs _ fr hb (.inl rfl)),h.rowL.block (fun b cs fr hb=>hk b cs _ fr hb (.inr (.inl rfl))),h.lenV,h.lenD,h.lenL⟩
theorem RfAt.below {w w':World} {B rb:Nat} {vV vD vL:Value} {V D:List ByteArray} {Ls:List Int} (h:RfAt w B rb vV vD vL V D Ls) (hb:Below w.heap.size w w'):RfAt w' B rb vV vD vL V D Ls:=
 h.kept fun b _ _ _ hh _=>hb.block b (lt_of_heap hh)
theorem cells3c {w:World} {b:Nat} {x y z:Value} {T:TypeId} (h:w.heap[b]?=some (.cells #[x,y,z] T (0,0))):w.cell? ⟨b,0,none⟩=some x∧w.cell? ⟨b,1,none⟩=some y∧w.cell? ⟨b,2,none⟩=some z:=
 ⟨cell_rowL h 0,cell_rowL h 1,cell_rowL h 2⟩
end F
namespace F
open Go.RowKit
theorem grown_weak {w w1:World} (h:w.grownBy w1 none) (rb:Nat):w.grownBy w1 (some rb):=⟨h.os,h.tape,h.output,h.size,fun k hk _=>h.block k hk (by simp)⟩
theorem grown_rb {w w1:World} {rb:Nat} (h:w.grownBy w1 (some rb)) (o:Nat) (u:Value):w.grownBy (w1.setCell ⟨rb,o,none⟩ u) (some rb):=
 ⟨h.os,h.tape,h.output,by simpa using h.size,fun k hk hne=>(Below.heap_setCell w1 ⟨rb,o,none⟩ u k (fun e=>hne (by rw[show k=rb from e]))).trans (h.block k hk hne)⟩
theorem grown_seq {w w1 w2:World} {row:Option Nat} (h:w.grownBy w1 row) (g:w1.grownBy w2 row):w.grownBy w2 row:=
 ⟨g.os.trans h.os,g.tape.trans h.tape,g.output.trans h.output,qN h.size g.size,fun k hk hne=>(g.block k (qM hk h.size) hne).trans (h.block k hk hne)⟩
theorem grown_below {w w1:World} {row:Option Nat} (h:Below w.heap.size w w1):w.grownBy w1 row:=⟨h.os,h.tape,h.output,h.size,fun k hk _=>h.block k hk⟩
theorem grown_none_below {w w1:World} (h:w.grownBy w1 none):Below w.heap.size w w1:=⟨h.os,h.tape,h.output,h.size,fun k hk=>h.block k hk (by simp)⟩
theorem RfAt.of {w1 w2:World} {B rb:Nat} {cs:Array Value} {uV uD uL:Value} {V D:List ByteArray} {Ls:List Int} (h1:w1.heap[rb]?=some (.cells cs 34 (0,0))) (hB:B≤rb)
  (hobj:w2.heap[rb]?=some (.cells #[uV,uD,uL] 34 (0,0))) (hne:∀ b,b≠rb→w2.heap[b]?=w1.heap[b]?) (rV:OwnStrs w1 B uV V) (rD:OwnStrs w1 B uD D) (rL:OwnInts w1 B uL Ls) (lV:V.length≤400) (lD:D.length≤400) (lL:Ls.length≤400):RfAt w2 B rb uV uD uL V D Ls:=by
 have hk:∀ (b:Nat) (cs':Array Value) (T:TypeId) (fr:Nat × Nat),w1.heap[b]?=some (Obj.cells cs' T fr)→T≠34→w2.heap[b]?=w1.heap[b]?:=by
  intro b cs' T fr hb hT
  refine hne b (fun e=>?_)
  subst e
  rw[h1] at hb
  simp only[qQ,qX] at hb
  exact hT hb.2.1.symm
 exact⟨hobj,hB,rV.block (fun b cs fr hb=>hk b cs _ fr hb (by decide)),rD.block (fun b cs fr hb=>hk b cs _ fr hb (by decide)),rL.block (fun b cs fr hb=>hk b cs _ fr hb (by decide)),lV,lD,lL⟩
theorem rsync_any (w:World) (B rb:Nat) (vV vD vL:Value) (V D:List ByteArray) (Ls:List Int) (h:RfAt w B rb vV vD vL V D Ls) :
  Calls Tryz.prog 21 #[.pointer (some ⟨rb,0,none⟩)] w fun e w'=>e=.returned (.tuple #[])∧∃ uV uD uL,RfAt w' B rb uV uD uL V V []∧w.grownBy w' (some rb):=by
 obtain⟨c0,c1,c2⟩:=cells3c h.obj
 have hfr:=frozen_rowL h.obj
 obtain⟨ao,cap,rfl⟩:=h.rowV.slice
 have hlV:=h.lenV
 have H:=hid h
 have HC:=hid (fun ty=>copy_strs (C:=B) h.rowV rfl (qB _ w) h.baseLe (by omega) ty)
 clear h
 go_enter Tryz.func21,Tryz.ntmps21
 go_wp2_with (first
  | (at_builtin;refine wpList_append_any rfl (.const (.slice none 0 0)) (.tmp 7) 31 rfl _ _ rfl rfl (HC.out _) ?_;rintro v1 w1 ⟨h1,g1⟩;obtain⟨ao1,cp1,rfl⟩:=h1.slice;have hobj1:=(g1.block rb H.out.lt (by simp)).trans H.out.obj;obtain⟨d0,d1,d2⟩:=cells3c hobj1;have hfr1:=frozen_rowL hobj1;replace hobj1:=hid hobj1;replace h1:=hid h1;replace g1:=hid g1)
  | fail)
 go_end0
 have e1:=heap_setCell_same _ rb 1 _ _ (Value.slice ao1 V.length cp1) hobj1.out
 have e2:=heap_setCell_same _ rb 2 _ _ (Value.slice none 0 0) e1
 refine⟨rfl,_,_,_,RfAt.of hobj1.out H.out.base e2 (fun b hb=>?_) (H.out.rowV.below (grown_none_below g1.out)) h1.out (OwnInts.nil _ _) hlV hlV (by simp),grown_rb (grown_rb (grown_weak g1.out rb) _ _) _ _⟩
 rw[qD _ _ _ _ hb,qD _ _ _ _ hb]
theorem rnew_any (ss:List ByteArray) (v:Value) (w:World) (h:StrsAt w v ss) (hl:ss.length≤400) (hn:∀ n c,v=.slice none n c→c=0) :
  Calls Tryz.prog 17 #[v] w fun e w'=>∃ rb uV uD uL,e=.returned (.pointer (some ⟨rb,0,none⟩))∧RfAt w' w.heap.size rb uV uD uL ss ss []∧Below w.heap.size w w':=by
 obtain⟨ao,cap,rfl,⟨_,hcap⟩,h3⟩:=h
 have hcut:=fun W=>cut_head (ao:=ao) (len:=ss.length) (cap:=cap) (n:=ss.length) Tryz.elemStrs Tryz.sizeStrs hcap W
 have hmin:=fun ats ty=>minInt ats ty ss.length 400
 rw[show min ss.length 400=ss.length by omega] at hmin
 have hsrc:∀ X,Below w.heap.size w X→(strC ss=[]∨∃ a,ao=some a∧∀ j u,(strC ss)[j]?=some u→X.cell? (a.add j)=some u):=by
  intro X hX
  by_cases h0:0<ss.length
  ·obtain⟨a,ha,_⟩:=h3 0 h0
   refine .inr ⟨a,ha,fun j u hu=>?_⟩
   have hj:j<ss.length:=by have:=(List.getElem?_eq_some_iff.1 hu).1;rwa [strC_length] at this
   obtain⟨a',ha',hc,_⟩:=h3 j hj
   rw[ha] at ha'
   cases ha'
   rw[hX.cell (p:=a.add j) (qF w _ hc),hc,← hu]
   simp[strC,hj]
  ·exact .inl (List.length_eq_zero_iff.1 (by rw[strC_length];omega))
 have hnil:ao=none→cap=0:=fun e=>hn _ _ (by rw[e])
 have HC:Hid (∀ X,Below w.heap.size w X→∀ ty,∃ v' w',(Builtin.append_ #[31,31] ty #[.slice none 0 0,.slice ao ss.length cap]).run Tryz.prog X=.ok v' w'∧OwnStrs w' w.heap.size v' ss∧Below w.heap.size w w'∧X.grownBy w' none):=hid (by
  intro X hX ty
  obtain⟨v',w',e1,e2,e3⟩:=app_strs (.slice none 0 0) [] (OwnStrs.nil X w.heap.size) ty ao cap ss (hsrc X hX) hnil hX.size (by simp;omega)
  exact⟨v',w',e1,by simpa using e2,(OwnStrs.nil X w.heap.size).after hX hX.size e3,e3⟩)
 have bX:Hid (Below w.heap.size w w.drew):=hid ⟨rfl,rfl,rfl,Nat.le_refl _,fun _ _=>rfl⟩
 clear hsrc hnil h3 hn
 go_enter Tryz.func17,Tryz.ntmps17
 go_wp2
 go_region_law (first
  | (refine step_append_any rfl (.const (.slice none 0 0)) (.tmp 9) 31 rfl _ _ rfl rfl (HC.out _ bX.out _) ?_;rintro v1 w1 ⟨h1,b1,g1⟩;obtain⟨ao1,cp1,rfl⟩:=h1.slice;replace h1:=hid h1;replace bX:=hid b1;(first|(replace h2:=hid (h2.out.below (grown_none_below g1)))|skip);clear g1 b1)
  | (refine step_append_any rfl (.const (.slice none 0 0)) (.tmp 13) 31 rfl _ _ rfl rfl (HC.out _ bX.out _) ?_;rintro v2 w2 ⟨h2,b2,g2⟩;obtain⟨ao2,cp2,rfl⟩:=h2.slice;replace h2:=hid h2;replace bX:=hid b2;(first|(replace h1:=hid (h1.out.below (grown_none_below g2)))|skip);clear g2 b2))
 all_goals go_wp2
 all_goals go_ret
 all_goals exact⟨_,_,_,_,rfl,⟨heap_newL _ _,bX.out.size,h1.out.alloc _,h2.out.alloc _,OwnInts.nil _ _,hl,hl,by simp⟩,bX.out.alloc bX.out.size _⟩
end F
namespace F
open Go.RowKit
def nowL (l:List Sh):List ByteArray:=l.map Sh.now
theorem nowL_length (l:List Sh):(nowL l).length=l.length:=by simp[nowL]
theorem row_keeps {w w':World} {base:Nat} {e:TypeId} {size:Nat} {u:Value} {n:Nat} {xs:List Value} (hu:w.ownsRow base e size u n xs) (hg:w.grownBy w' u.ownBlock) {b:Nat} {cs:Array Value} {T:TypeId} {fr:Nat × Nat} (hb:w.heap[b]?=some (.cells cs T fr)) (hT:T≠e):w'.heap[b]?=w.heap[b]?:=by
 refine hg.block b (lt_of_heap hb) (fun e'=>?_)
 rcases hu.2 with ⟨rfl,_⟩|⟨g,cap,cur,rfl,_,hgg,_⟩
 ·simp[Value.ownBlock] at e'
 ·simp[Value.ownBlock] at e'
  subst e'
  rw[hgg] at hb
  simp only[qQ,qX] at hb
  exact hT hb.2.1.symm
theorem grown_own {w w1 w2:World} {rb:Nat} {row:Option Nat} (h:w.grownBy w1 (some rb)) (g:w1.grownBy w2 row) (hr:∀ k,row=some k→w.heap.size≤k):w.grownBy w2 (some rb):=
 ⟨g.os.trans h.os,g.tape.trans h.tape,g.output.trans h.output,qN h.size g.size,fun k hk hne=>(g.block k (qM hk h.size) (fun e=>by have:=hr k e.symm;omega)).trans (h.block k hk hne)⟩
structure RfIn (w wr:World) (B rb:Nat) (vV vD uL u:Value) (V:List ByteArray) (Ls:List Int):Prop where
 obj:wr.heap[rb]?=some (.cells #[vV,vD,uL] 34 (0,0))
 rowL:OwnInts wr B uL Ls
 row:OwnStrs wr w.heap.size u V
 grown:w.grownBy wr (some rb)
theorem RfIn.loose {w wr w':World} {B rb:Nat} {vV vD uL u uL':Value} {V:List ByteArray} {Ls Ls':List Int} (h:RfIn w wr B rb vV vD uL u V Ls) (hb:Below wr.heap.size wr w') (hL:OwnInts w' B uL' Ls'):RfIn w (w'.setCell ⟨rb,2,none⟩ uL') B rb vV vD uL' u V Ls':=by
 have ho:=(hb.block rb (lt_of_heap h.obj)).trans h.obj
 have hk:∀ (b:Nat) (cs':Array Value) (T:TypeId) (fr:Nat × Nat),w'.heap[b]?=some (Obj.cells cs' T fr)→T≠34→(w'.setCell ⟨rb,2,none⟩ uL').heap[b]?=w'.heap[b]?:=by
  intro b cs' T fr hbb hT
  refine qD _ _ _ _ (fun e=>?_)
  have e:b=rb:=e
  subst e
  rw[ho] at hbb
  simp only[qQ,qX] at hbb
  exact hT hbb.2.1.symm
 exact⟨by rw[heap_setCell_same _ rb 2 _ _ uL' ho];rfl,hL.block (fun b cs fr hh=>hk b cs _ fr hh (by decide)),(h.row.below hb).block (fun b cs fr hh=>hk b cs _ fr hh (by decide)),grown_rb (grown_seq h.grown (grown_below hb)) _ _⟩
theorem RfIn.alloc {w wr:World} {B rb:Nat} {vV vD uL u:Value} {V:List ByteArray} {Ls:List Int} (h:RfIn w wr B rb vV vD uL u V Ls) (o:Obj):RfIn w (wr.alloc o) B rb vV vD uL u V Ls:=
 ⟨(qE _ _ _ (lt_of_heap h.obj)).trans h.obj,h.rowL.alloc o,h.row.alloc o,grown_seq h.grown (World.grownBy_alloc wr o _)⟩
theorem RfIn.app {w wr w':World} {B rb:Nat} {vV vD uL u u':Value} {V V':List ByteArray} {Ls:List Int} (h:RfIn w wr B rb vV vD uL u V Ls) (hg:wr.grownBy w' u.ownBlock) (hr:OwnStrs w' w.heap.size u' V'):RfIn w w' B rb vV vD uL u' V' Ls:=
 ⟨(row_keeps h.row hg h.obj (by decide)).trans h.obj,h.rowL.block (fun b cs fr hh=>row_keeps h.row hg hh (by decide)),hr,grown_own h.grown hg (fun k hk=>(World.ownsRow.lt h.row k hk).1)⟩
theorem RfIn.set {w wr:World} {B rb g n cap:Nat} {vV vD uL:Value} {V:List ByteArray} {Ls:List Int} (h:RfIn w wr B rb vV vD uL (.slice (some ⟨g,0,none⟩) n cap) V Ls) (hn:n=V.length) (i:Nat) (s:ByteArray):RfIn w (wr.setCell ⟨g,i,none⟩ (.string s)) B rb vV vD uL (.slice (some ⟨g,0,none⟩) n cap) (V.set i s) Ls:=by
 subst hn
 have hg:wr.grownBy (wr.setCell ⟨g,i,none⟩ (.string s)) (Value.slice (some ⟨g,0,none⟩) V.length cap).ownBlock:=grown_setCell wr g i _
 refine h.app hg ?_
 have:=owns_stored h.row i (.string s)
 unfold OwnStrs
 rw[List.length_set]
 simpa[strC,List.map_set] using this
theorem looseL_le400 (l:List Sh) (h:l.length≤400):(looseL l 0).length≤400:=by have:=looseL_le l 0;omega
theorem rwrite_any (w:World) (B rb:Nat) (vV vD vL:Value) (L:List Sh) (D:List ByteArray) (i:Nat) (s:ByteArray) (h:RfAt w B rb vV vD vL (nowL L) D (looseL L 0)) (hi4:i<400) :
  Calls Tryz.prog 20 #[.pointer (some ⟨rb,0,none⟩),.int .i64 i,.string s] w fun e w'=>e=.returned (.int .i64 0)∧∃ uV uD uL,RfAt w' B rb uV uD uL (nowL (writeL L i s)) D (looseL (writeL L i s) 0)∧w.grownBy w' (some rb):=by
 obtain⟨c0,c1,c2⟩:=cells3c h.obj
 obtain⟨ao,cap,rfl⟩:=h.rowV.slice
 have hlV:=h.lenV
 rw[nowL_length] at hlV
 have H:=hid h
 have hbl:=h.baseLe
 have HC:=hid (fun ty=>copy_strs (C:=w.heap.size) h.rowV rfl (qB _ w) qL (by rw[nowL_length];omega) ty)
 rw[nowL_length] at HC c0
 have hwl:(writeL L i s).length≤400:=by rw[writeL_length];omega
 have HWs:Hid (writeL L i s=(padTo L (i+1)).set i ⟨s,((padTo L (i+1)).getD i noSh).syn,true⟩):=hid rfl
 generalize writeL L i s=RL at *
 clear h
 go_enter Tryz.func20,Tryz.ntmps20
 go_wp2_with (first
  | (at_builtin;refine wpList_append_any rfl (.const (.slice none 0 0)) (.tmp 17) 31 rfl _ _ rfl rfl (HC.out _) ?_;rintro v1 w1 ⟨h1,g1⟩;have HI:=RfIn.mk ((g1.block rb H.out.lt (by simp)).trans H.out.obj) (H.out.rowL.below (grown_none_below g1)) h1 (grown_weak g1 rb);replace HI:=hid HI;clear h1 g1)
  | fail)
 clear c0 c1 c2 HC
 go_loopg [7] (i+1 - L.length) (fun g u wr=>∃ (j:Nat) (uL:Value),g=i+1 - j∧L.length≤j∧(j≤i+1∨j=L.length)∧Hid (RfIn w wr B rb (.slice ao (nowL L).length cap) vD uL u (nowL (padTo L j)) (looseL (padTo L j) 0)))
 case atStart=>exact⟨L.length,_,rfl,Nat.le_refl _,.inr rfl,by rw[padTo_le L L.length qL];exact HI⟩
 case round=>
  obtain⟨j,uL,hg,hLj,hji,hI⟩:=hrel
  clear HI
  have hpl:(padTo L j).length=j:=by rw[padTo_length];omega
  obtain⟨uo,uc,rfl⟩:=hI.out.row.slice
  have hnl:(nowL (padTo L j)).length=j:=by rw[nowL_length,hpl]
  rw[hnl] at hI
  obtain⟨c0,c1,c2⟩:=cells3c hI.out.obj
  have hfr:=frozen_rowL hI.out.obj
  have hsz:=hI.out.grown.size
  obtain⟨lo,lc,rfl⟩:=hI.out.rowL.slice
  have hll:=looseL_le400 (padTo L j) (by omega)
  by_cases hj:j≤i
  ·replace hg:=hid hg
   go_wp2_with fail
   refine (with_any _ (j:Int) _ B _ hI.out.rowL (by omega) (by omega)).mono ?_
   rw[← loose_pad L j hLj]
   rintro e w5 ⟨u5,rfl,U5,B5⟩
   have ho5:=(B5.block rb (lt_of_heap hI.out.obj)).trans hI.out.obj
   obtain⟨d0,d1,d2⟩:=cells3c ho5
   have hfr5:=frozen_rowL ho5
   obtain⟨lo5,lc5,rfl⟩:=U5.slice
   have I5:=hI.out.loose B5 U5
   replace I5:=hid I5
   have hs5:=B5.size
   have A5:Hid (∀ ty,∃ v' w',(Builtin.append_ #[31,31] ty #[.slice uo j uc,.slice (some ⟨w5.heap.size,0,none⟩) 1 1]).run Tryz.prog ((w5.setCell ⟨rb,2,none⟩ (.slice lo5 (looseL (padTo L (j+1)) 0).length lc5)).alloc (.cells #[.string ⟨#[]⟩] 9))=.ok v' w'∧OwnStrs w' w.heap.size v' (nowL (padTo L (j+1)))∧((w5.setCell ⟨rb,2,none⟩ (.slice lo5 (looseL (padTo L (j+1)) 0).length lc5)).alloc (.cells #[.string ⟨#[]⟩] 9)).grownBy w' (Value.slice uo j uc).ownBlock):=hid (by
    intro ty
    have hh:=heap_newL (w5.setCell ⟨rb,2,none⟩ (.slice lo5 (looseL (padTo L (j+1)) 0).length lc5)) (.cells #[.string ⟨#[]⟩] 9)
    have hsz2:(w5.setCell ⟨rb,2,none⟩ (.slice lo5 (looseL (padTo L (j+1)) 0).length lc5)).heap.size=w5.heap.size:=by simp
    rw[hsz2] at hh
    obtain⟨v',w',e1,e2,e3⟩:=app_strs (.slice uo j uc) (nowL (padTo L j)) (I5.out.alloc _).row ty (some ⟨w5.heap.size,0,none⟩) 1 [⟨#[]⟩] (.inr ⟨_,rfl,World.news_of_block hh⟩) (by simp) (by simp;omega) (by rw[hnl];simp;omega)
    refine⟨v',w',e1,?_,e3⟩
    rw[pad_succ L j hLj]
    simpa[nowL,emptySh] using e2)
   have I6:=hid (I5.out.alloc (.cells #[.string ⟨#[]⟩] 9))
   clear B5 U5 ho5 hI I5 c0 c1 c2 hfr
   go_wp2_with (first
    | (at_builtin;refine wpList_append_any rfl (.tmp 33) (.tmp 34) 31 rfl _ _ rfl rfl (A5.out _) ?_;rintro v6 w6 ⟨h6,g6⟩;have I7:=hid (I6.out.app g6 h6);clear h6 g6)
    | fail)
   go_roundg (i+1 - (j+1))
   case rel=>exact⟨j+1,_,rfl,by omega,.inl (by omega),I7⟩
   case measure=>have:=hg.out;omega
  ·have hpad:padTo L j=padTo L (i+1):=by
    rcases hji with h|h
    ·rw[show j=i+1 by omega]
    ·rw[padTo_le L j (by omega),padTo_le L (i+1) (by omega)]
   obtain⟨g0,rfl⟩:∃ g0,uo=some ⟨g0,0,none⟩:=by
    rcases hI.out.row.2 with ⟨hv,h0⟩|⟨g,cap',cur,hv,_⟩
    ·rw[hnl] at h0;omega
    ·simp only[qR] at hv
     exact⟨g,hv.1⟩
   have hx:=index_at (a:=⟨g0,0,none⟩) (len:=j) (cap:=uc) Tryz.elemStrs Tryz.sizeStrs i rfl (by omega)
   simp only[Addr.add_mid,Nat.zero_add] at hx
   have hcell:∃ y,wr.cell? ⟨g0,i,none⟩=some y:=by
    have:=World.ownsRow.cellAt (g:=g0) (cap:=uc) (n:=(nowL (padTo L j)).length) (by have:=hI.out.row;unfold OwnStrs at this;rw[hnl] at this ⊢;exact this) i (by rw[hnl];omega)
    exact⟨_,this.trans (List.getElem?_eq_getElem (by rw[strC_length,hnl];omega))⟩
   obtain⟨y,hcell⟩:=hcell
   have hgfr:wr.frozen? ⟨g0,i,none⟩=false:=World.ownsRow.frozenAt (g:=g0) (cap:=uc) (n:=(nowL (padTo L j)).length) (by have:=hI.out.row;unfold OwnStrs at this;rw[hnl] at this ⊢;exact this) i
   have hne:g0≠rb:=by
    intro e
    subst e
    rcases hI.out.row.2 with ⟨hv,h0⟩|⟨g,cap',cur,hv,_,hgg,_⟩
    ·cases hv
    ·simp only[qR,qQ,Addr.mk.injEq,and_true] at hv
     obtain⟨rfl,_⟩:=hv
     have:=hI.out.obj
     rw[hgg] at this
     simp at this
   have I8:=hI.out.set hnl.symm i s
   have hoI:=I8.obj
   have hrL:=I8.rowL
   rw[hpad] at hrL
   rw[hpad] at hll
   obtain⟨d0,d1,d2⟩:=cells3c hoI
   have hfr8:=frozen_rowL hoI
   have hlt:=lt_of_heap hI.out.obj
   rw[hpad] at I8 d2 hoI
   replace I8:=hid I8
   replace hoI:=hid hoI
   replace hrL:=hid hrL
   clear hI hpad
   have hin:i<(padTo L (i+1)).length:=by rw[padTo_length];omega
   have hRLl:withL (looseL (padTo L (i+1)) 0) (i:Int)=looseL RL 0:=by
    have:=loose_set (padTo L (i+1)) i hin 0 ⟨s,((padTo L (i+1)).getD i noSh).syn,true⟩ rfl
    rw[Nat.zero_add] at this
    rw[HWs.out,this]
   have hRLn:(nowL (padTo L (i+1))).set i s=nowL RL:=by
    rw[HWs.out]
    simp[nowL,List.map_set]
   replace hRLl:=hid hRLl
   replace hRLn:=hid hRLn
   clear HWs
   go_wp2_with fail
   refine (with_any _ (i:Int) _ B _ hrL.out (by simp;omega) (by omega)).mono ?_
   rw[hRLl.out]
   rintro e w9 ⟨u9,rfl,U9,B9⟩
   have ho9:=(B9.block rb (by simpa using hlt)).trans hoI.out
   obtain⟨f0,f1,f2⟩:=cells3c ho9
   have hfr9:=frozen_rowL ho9
   obtain⟨lo9,lc9,rfl⟩:=U9.slice
   have HB9:=hid B9
   replace U9:=hid U9
   replace ho9:=hid ho9
   have hs9:=B9.size
   clear B9
   go_wp2
   go_ret
   have e1:=heap_setCell_same _ rb 0 _ _ (Value.slice (some ⟨g0,0,none⟩) j uc) ho9.out
   have e2:=heap_setCell_same _ rb 2 _ _ (Value.slice lo9 (looseL RL 0).length lc9) e1
   have rV:=I8.out.row.below HB9.out
   rw[hRLn.out] at rV
   have gD:OwnStrs w9 B vD D:=H.out.rowD.block (fun b cs fr hb=>(grown_seq I8.out.grown (grown_below HB9.out)).block b (lt_of_heap hb) (by
    intro e
    simp only[qQ] at e
    subst e
    rw[H.out.obj] at hb
    simp at hb))
   refine⟨rfl,_,_,_,RfAt.of ho9.out H.out.base e2 (fun b hb=>?_) (rV.mono hbl) gD U9.out (by rw[nowL_length];exact hwl) H.out.lenD (looseL_le400 RL hwl),grown_rb (grown_rb (grown_seq I8.out.grown (grown_below HB9.out)) _ _) _ _⟩
   rw[qD _ _ _ _ hb,qD _ _ _ _ hb]
end F
end Go.Proofs.YtbghhklbfnplbaaGreat

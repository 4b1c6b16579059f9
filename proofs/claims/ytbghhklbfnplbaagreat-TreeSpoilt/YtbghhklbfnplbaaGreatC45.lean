import Derived.Maps.OwnSet
import Derived.Lib.SlKeysI
import Derived.Test.YtbghhklbfnplbaaGreatC00
import Derived.Test.YtbghhklbfnplbaaGreatC43
import Derived.Test.YtbghhklbfnplbaaGreatC01
namespace Go.Proofs.YtbghhklbfnplbaaGreat
section
open Go.RowKit
open H (Up up_ext mergeL dropL Fit)
def sheetElem:Value→Option (DataW Unit × List MemPlace)
 | .agg cs=>match cs.toList with
   | [.string s]=>some (.lit (.string s.data.toList),[])
   | _=>none
 | _=>none
theorem sheetElem_mk (s:ByteArray):sheetElem (.agg #[.string s])=some (.lit (.string s.data.toList),[]):=rfl
theorem sheetElem_inv {v:Value} {z:DataW Unit × List MemPlace} (h:sheetElem v=some z):∃ s:ByteArray,v=.agg #[.string s]∧z=(.lit (.string s.data.toList),[]):=by
 unfold sheetElem at h
 split at h
 ·rename_i cs
  split at h
  ·rename_i s he
   refine⟨s,?_,by simpa using h.symm⟩
   congr 1
   exact Array.toList_inj.1 (by simpa using he)
  ·cases h
 ·cases h
theorem bytes_ext {a b:ByteArray} (h:a.data.toList=b.data.toList):a=b:=by
 cases a;cases b
 simp only[ByteArray.mk.injEq]
 exact Array.toList_inj.1 h
theorem Tryz.undInt:Tryz.prog.underlying 3=some (.int .i64):=by kernel_rfl
theorem Tryz.undMap:Tryz.prog.underlying 73=some (.map 3 180):=by kernel_rfl
theorem Tryz.zeroSheet (w:World):(zeroValue 180).run Tryz.prog w=.ok (.agg #[.string ⟨#[]⟩]) w:=by kernel_rfl
def InI (x:Int):Prop:=-9223372036854775808≤x∧x<9223372036854775808
theorem wf_int {x:Int} (h:InI x):(Lit.int .i64 x).wf=true:=WalkArith.wf_i64 ⟨h.1,by have:=h.2;omega⟩
theorem key_int {x:Int} (h:InI x):keyOf Tryz.prog 3 (.int .i64 x)=some (.int .i64 x):=Maps.keyOf_int_mk Tryz.undInt (wf_int h)
theorem Tryz.keyed:Maps.Keyed Tryz.prog 3:=Maps.int_keyed Tryz.undInt
def upd (sh:Int→ByteArray) (x:Int) (s:ByteArray):Int→ByteArray:=fun y=>if y=x then s else sh y
def DirtyAt (w:World) (mb:Nat) (ks:List Int) (sh:Int→ByteArray):Prop:=
 ∃ D:DataW Unit,w.ownsMap Tryz.prog 3 sheetElem mb ks.length D∧(∀ x,Maps.has D (.int .i64 x)=true↔x∈ks)∧(∀ x∈ks,D.atKey (.int .i64 x) (.lit (.string []))=.lit (.string (sh x).data.toList))∧Maps.size D=ks.length
theorem DirtyAt.lt {w:World} {mb:Nat} {ks:List Int} {sh:Int→ByteArray} (h:DirtyAt w mb ks sh):mb<w.heap.size:=by
 obtain⟨D,h1,_⟩:=h
 exact h1.lt
theorem DirtyAt.kept {w w':World} {mb:Nat} {ks:List Int} {sh:Int→ByteArray} (h:DirtyAt w mb ks sh) (hb:w'.heap[mb]?=w.heap[mb]?):DirtyAt w' mb ks sh:=by
 obtain⟨D,⟨es,clock,h1,F,hs,hD⟩,h2⟩:=h
 exact⟨D,⟨es,clock,hb.trans h1,F,hs,hD⟩,h2⟩
theorem dirty_made (w:World) (sh:Int→ByteArray):DirtyAt (w.alloc (.map #[] 0)) w.heap.size [] sh:=
 ⟨.map [],World.ownsMap_made _ _ _ _,by simp[Maps.has],by simp,rfl⟩
theorem DirtyAt.look {w:World} {mb:Nat} {ks:List Int} {sh:Int→ByteArray} (h:DirtyAt w mb ks sh) {x:Int} (hx:InI x) :
  (Instr.lookup 73 (.map (some mb)) (.int .i64 x) true).run Tryz.prog w=.ok (.tuple #[.agg #[.string (if ks.contains x then sh x else ⟨#[]⟩)],.bool (ks.contains x)]) w:=by
 obtain⟨D,h1,h2,h3,h4⟩:=h
 obtain⟨v,ps,hrun,hR⟩:=h1.look_ok Tryz.keyed Tryz.undMap (Tryz.zeroSheet w) (sheetElem_mk _) (key_int hx)
 obtain⟨s,rfl,hz⟩:=sheetElem_inv hR
 have e1:Maps.has D (.int .i64 x)=ks.contains x:=by
  have:=h2 x
  cases hc:ks.contains x
  ·cases hh:Maps.has D (.int .i64 x)
   ·rfl
   ·have:=this.1 hh
    simp at hc
    exact absurd this hc
  ·simp at hc
   exact this.2 hc
 have e2:s=if ks.contains x then sh x else ⟨#[]⟩:=by
  apply bytes_ext
  cases hc:ks.contains x
  ·rw[hc] at e1
   have:=Maps.atKey_of_not_has e1 (.lit (.string ([]:List UInt8)))
   have hz2:D.atKey (.int .i64 x) (.lit (.string []))=.lit (.string s.data.toList):=by simpa using congrArg Prod.fst hz
   rw[this] at hz2
   simp at hz2
   simp[← hz2]
  ·have hm:x∈ks:=by simpa using hc
   have hz2:D.atKey (.int .i64 x) (.lit (.string []))=.lit (.string s.data.toList):=by simpa using congrArg Prod.fst hz
   rw[h3 x hm] at hz2
   simp at hz2
   simp[hz2]
 rw[hrun,e1,e2]
end
section
open Go.RowKit
open H (Up up_ext mergeL dropL Fit RunI RunIs OwnInts RowAt)
def blank (sh:Int→ByteArray) (x:Int):Nat→Int→ByteArray
 | 0=>sh
 | n+1=>upd (blank sh x n) (x+(n:Int)) ⟨#[]⟩
structure StD where
 last:Nat
 most:Nat
 dirty:List Int
 sh:Int→ByteArray
 freed:List Int
 avail:List Int
structure StOk (s:StD):Prop where
 last:2≤s.last∧s.last≤400
 most:2≤s.most∧s.most≤400
 upD:Up s.dirty
 upF:Up s.freed
 upA:Up s.avail
 inD:∀ x∈s.dirty,2≤x∧x<(s.last:Int)
 inF:∀ x∈s.freed,2≤x∧x<(s.last:Int)
 inA:∀ x∈s.avail,2≤x∧x<(s.last:Int)
 few:s.dirty.length≤120
 noDA:∀ x∈s.dirty,x ∉ s.avail
 noDF:∀ x∈s.dirty,x ∉ s.freed
 noAF:∀ x∈s.avail,x ∉ s.freed
 small:∀ x,(s.sh x).size≤100000000000
theorem up_short {l:List Int} {a b:Int} (h:Up l) (hin:∀ x∈l,a≤x∧x<b) (hab:a≤b):(l.length:Int)≤b - a:=by
 cases hl:l.length with
 | zero=>simp;omega
 | succ n=>
   have h1:=H.up_far h 0 n (by omega)
   have h2:=hin _ (H.get_mem (l:=l) (i:=0+n) (by omega))
   have h3:=hin _ (H.get_mem (l:=l) (i:=0) (by omega))
   omega
def errV (e:Int):Value:=if e=0 then .nilIface else .iface 62 (.int .i64 e)
theorem errV_0:errV 0=.nilIface:=rfl
def stCells (fb mb:Nat) (s:StD) (vf va:Value):Array Value:=#[.pointer (some ⟨fb,0,none⟩),.int .i64 (s.last:Int),.int .i64 (s.most:Int),.map (some mb),vf,va]
structure StoreAt (w:World) (sb mb fb:Nat) (s:StD) (vf va:Value):Prop where
 obj:w.heap[sb]?=some (.cells (stCells fb mb s vf va) 76 (0,0))
 dirty:DirtyAt w mb s.dirty s.sh
 freed:OwnInts w 0 vf s.freed
 avail:OwnInts w 0 va s.avail
 ok:StOk s
structure So (sb mb:Nat) (w w':World):Prop where
 os:w'.os=w.os
 tape:w'.tape=w.tape
 output:w'.output=w.output
 size:w.heap.size≤w'.heap.size
 block:∀ k,k<w.heap.size→k≠sb→k≠mb→w'.heap[k]?=w.heap[k]?
section
variable {w w':World} {sb mb fb:Nat} {s:StD} {vf va:Value}
theorem StoreAt.lt (h:StoreAt w sb mb fb s vf va):sb<w.heap.size:=H.lt_of_heap h.obj
theorem StoreAt.ltM (h:StoreAt w sb mb fb s vf va):mb<w.heap.size:=h.dirty.lt
theorem own_block {B:Nat} {v:Value} {l:List Int} (h:OwnInts w B v l):∀ g,v.ownBlock=some g→g<w.heap.size∧∃ cs,w.heap[g]?=some (.cells cs 3 (0,0)):=by
 intro g hg
 rcases h.2 with ⟨rfl,_⟩|⟨g',cap,cur,rfl,_,hh,_⟩
 ·cases hg
 ·simp only[Value.ownBlock,qQ] at hg
  subst hg
  exact⟨H.lt_of_heap hh,cur,hh⟩
theorem own_kept {B:Nat} {v:Value} {l:List Int} (h:OwnInts w B v l) (hr:∀ g,v.ownBlock=some g→w'.heap[g]?=w.heap[g]?):OwnInts w' B v l:=by
 refine⟨h.1,?_⟩
 rcases h.2 with hn|⟨g,cap,cur,rfl,hb,hgg,rest⟩
 ·exact .inl hn
 ·exact .inr ⟨g,cap,cur,rfl,hb,(hr g rfl).trans hgg,rest⟩
theorem own_below {B:Nat} {v:Value} {l:List Int} (ho:OwnInts w B v l) (hb:Below w.heap.size w w'):OwnInts w' B v l:=
 own_kept ho (fun g hg=>hb.block g (own_block ho g hg).1)
theorem StoreAt.below (h:StoreAt w sb mb fb s vf va) (hb:Below w.heap.size w w'):StoreAt w' sb mb fb s vf va:=
 ⟨(hb.block sb h.lt).trans h.obj,h.dirty.kept (hb.block mb h.ltM),own_below h.freed hb,own_below h.avail hb,h.ok⟩
theorem StoreAt.alloc (h:StoreAt w sb mb fb s vf va) (o:Obj):StoreAt (w.alloc o) sb mb fb s vf va:=h.below ((qB _ w).alloc qL o)
theorem StoreAt.cells (h:StoreAt w sb mb fb s vf va):∀ j,w.cell? ⟨sb,j,none⟩=(stCells fb mb s vf va)[j]?:=H.cell_rowL h.obj
end
end
end Go.Proofs.YtbghhklbfnplbaaGreat

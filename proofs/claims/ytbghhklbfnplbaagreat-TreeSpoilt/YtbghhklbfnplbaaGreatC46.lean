import Derived.Deep.Cut
import Derived.Conc.LoneSelect
import Derived.Tactics2
import Derived.Test.YtbghhklbfnplbaaGreatC00
import Derived.Test.YtbghhklbfnplbaaGreatC45
import Derived.Test.YtbghhklbfnplbaaGreatC44
import Derived.Test.YtbghhklbfnplbaaGreatC43
import Derived.Test.YtbghhklbfnplbaaGreatRows
namespace Go.Proofs.YtbghhklbfnplbaaGreat
section
open Go.RowKit Go.Sort
open H (Up up_ext mergeL dropL Fit RunI RunIs OwnInts RowAt)
theorem compact_le (zs:List Int):(Lib.compact zs).length≤zs.length:=by
 unfold Lib.compact Lib.compactUpTo
 rw[List.length_map]
 have:=List.length_filter_le (Lib.keeps zs.toArray) (List.range zs.length)
 rwa [List.length_range] at this
theorem compact_rises (zs:List Int) (hs:zs.Pairwise (·≤·)):Up (Lib.compact zs)∧∀ x,x∈Lib.compact zs↔x∈zs:=by
 have mono:∀ i j,i≤j→j<zs.length→zs.toArray[i]!≤zs.toArray[j]!:=by
  intro i j hij hj
  rw[getElem!_pos _ i (by simp;omega),getElem!_pos _ j (by simpa using hj)]
  simp only[qG]
  rcases Nat.lt_or_ge i j with h|h
  ·exact List.pairwise_iff_getElem.1 hs i j _ _ h
  ·have:i=j:=by omega
   subst this
   exact Int.le_refl _
 have key:∀ m,m≤zs.length→Up (Lib.compactUpTo zs.toArray m)∧(∀ x∈Lib.compactUpTo zs.toArray m,∃ i,i<m∧x=zs.toArray[i]!)∧∀ i,i<m→zs.toArray[i]!∈Lib.compactUpTo zs.toArray m:=by
  intro m
  induction m with
  | zero=>exact fun _=>⟨by simp[Lib.compactUpTo,Up],by simp[Lib.compactUpTo],by omega⟩
  | succ m ih=>
    intro hm
    obtain⟨h1,h2,h3⟩:=ih (by omega)
    rw[Lib.compactUpTo_succ]
    by_cases hk:Lib.keeps zs.toArray m=true
    ·rw[if_pos hk]
     refine⟨List.pairwise_append.2 ⟨h1,by simp,fun a ha b hb=>?_⟩,fun x hx=>?_,fun i hi=>?_⟩
     ·obtain⟨i,hi,rfl⟩:=h2 a ha
      simp only[List.mem_singleton] at hb
      subst hb
      have hne:zs.toArray[m]!≠zs.toArray[m - 1]!:=by
       intro e
       rw[Lib.keeps_neg (by omega) e] at hk
       cases hk
      have e1:=mono i (m - 1) (by omega) (by omega)
      have e2:=mono (m - 1) m (by omega) (by omega)
      omega
     ·rcases List.mem_append.1 hx with hx|hx
      ·obtain⟨i,hi,rfl⟩:=h2 x hx
       exact⟨i,by omega,rfl⟩
      ·simp only[List.mem_singleton] at hx
       exact⟨m,by omega,hx⟩
     ·rcases Nat.lt_or_ge i m with h|h
      ·exact List.mem_append_left _ (h3 i h)
      ·have:i=m:=by omega
       subst this
       exact List.mem_append_right _ (by simp)
    ·rw[if_neg hk,List.append_nil]
     refine⟨h1,fun x hx=>?_,fun i hi=>?_⟩
     ·obtain⟨i,hi,rfl⟩:=h2 x hx
      exact⟨i,by omega,rfl⟩
     ·rcases Nat.lt_or_ge i m with h|h
      ·exact h3 i h
      ·have:i=m:=by omega
       subst this
       rcases Nat.eq_zero_or_pos i with h0|h0
       ·subst h0
        exact absurd (Lib.keeps_lt_one _ 0 (by omega)) hk
       ·have he:zs.toArray[i]! = zs.toArray[i - 1]!:=by
         apply Classical.byContradiction
         intro hne
         exact hk (Lib.keeps_pos hne)
        rw[he]
        exact h3 (i - 1) (by omega)
 obtain⟨h1,h2,h3⟩:=key zs.length qL
 refine⟨h1,fun x=>⟨fun hx=>?_,fun hx=>?_⟩⟩
 ·obtain⟨i,hi,rfl⟩:=h2 x hx
  rw[getElem!_pos _ i (by simpa using hi)]
  simp
 ·obtain⟨i,hi,rfl⟩:=List.getElem_of_mem hx
  have:=h3 i hi
  rwa [getElem!_pos _ i (by simpa using hi),List.getElem_toArray] at this
def sortL (l:List Int):List Int:=Lib.compact (l.mergeSort fun x y=>decide (x≤y))
def siftL (l:List Int) (e:Int):List Int:=(sortL l).filter fun x=>decide (2≤x∧x<e)
theorem sortL_is (l:List Int):Up (sortL l)∧∀ x,x∈sortL l↔x∈l:=by
 have h:=compact_rises (l.mergeSort fun x y=>decide (x≤y)) (by
  have:=List.pairwise_mergeSort (le:=fun x y:Int=>decide (x≤y)) (fun a b c h1 h2=>by simp only[decide_eq_true_eq] at *;omega) (fun a b=>by simp only[Bool.or_eq_true,decide_eq_true_eq];omega) l
  exact this.imp (fun h=>by simpa using h))
 refine⟨h.1,fun x=>(h.2 x).trans ?_⟩
 exact (List.mergeSort_perm l _).mem_iff
theorem siftL_up (l:List Int) (e:Int):Up (siftL l e):=List.Pairwise.filter _ (sortL_is l).1
theorem siftL_mem (l:List Int) (e x:Int):x∈siftL l e↔x∈l∧2≤x∧x<e:=by
 simp[siftL,(sortL_is l).2]
theorem sortL_length (l:List Int):(sortL l).length≤l.length:=by
 have:=compact_le (l.mergeSort fun x y=>decide (x≤y))
 simpa[sortL] using this
theorem clone_row (l:List Int) (ao:Option Addr) (cap:Nat) (w:World) (h:RowAt w ao cap l) (hl:l.length≤1000) :
  Calls Tryz.prog 53 #[.slice ao l.length cap] w fun e w'=>∃ u,e=.returned u∧OwnInts w' w.heap.size u l∧Below w.heap.size w w':=by
 cases l with
 | nil=>
   cases ao with
   | none=>
     refine (Tryz.slices_Clone_int_nil 0 cap w).mono ?_
     rintro e w' ⟨rfl,rfl⟩
     exact⟨_,rfl,OwnInts.nil _ _,qB _ _⟩
   | some a=>
     refine (Tryz.slices_Clone_int_zero a cap w).mono ?_
     rintro e w' ⟨u,rfl,h1,_,h2⟩
     exact⟨u,rfl,h1,h2⟩
 | cons x r=>
   obtain⟨b,o,rfl,_⟩:=h.cells 0 (by simp)
   have:=Tryz.slices_Clone_int b o (x::r).length cap (x::r) w qL (by omega) (fun j hj=>by
    obtain⟨b',o',e1,e2⟩:=h.cells j hj
    simp only[qQ,Addr.mk.injEq,and_true] at e1
    obtain⟨rfl,rfl⟩:=e1
    exact e2)
   rw[List.take_length] at this
   refine this.mono ?_
   rintro e w' ⟨u,rfl,h1,_,h2⟩
   exact⟨u,rfl,h1,h2⟩
theorem sort_row (w:World) (B:Nat) (v:Value) (l:List Int) (h:OwnInts w B v l) (hl:l.length≤1000) :
  Calls Tryz.prog 38 #[v] w fun e w'=>e=.returned (.tuple #[])∧OwnInts w' B v (l.mergeSort fun x y=>decide (x≤y))∧w.grownBy w' v.ownBlock:=by
 rcases h.2 with ⟨rfl,h0⟩|⟨g,cap,cur,rfl,h2,h3,h4,h5,h6,h7⟩
 ·have:l=[]:=List.length_eq_zero_iff.1 h0
  subst this
  refine (Any.slices_Sort_int_none Tryz.lays189 none 0 w).mono ?_
  rintro e w' ⟨rfl,rfl⟩
  exact⟨rfl,by simpa using h,World.grownBy.refl _ _⟩
 ·have hH:Holds (Value.int .i64) w g 0 l.toArray:=holds_of_block_i h3 (by simpa[H.intCells] using h7)
  refine (Any.slices_Sort_int Tryz.lays189 g 0 cap l w hH (H.lt_of_heap h3) (by omega)).mono ?_
  rintro e w' ⟨rfl,n,os,rfl⟩
  refine⟨rfl,?_,grownBy_sorted_i _⟩
  have:=ownsRow_sorted_i (w:=w) (n:=n) (os:=os) (ss:=l) (ts:=l.mergeSort fun x y=>decide (x≤y)) (by simp) h2 h3 h4 h5 h6
  unfold OwnInts
  rw[show (l.mergeSort fun x y=>decide (x≤y)).length=l.length by simp]
  exact this
theorem compact_row (w:World) (B:Nat) (v:Value) (l:List Int) (h:OwnInts w B v l) (hl:l.length≤1000) :
  Calls Tryz.prog 39 #[v] w fun e w'=>∃ ao cap,e=.returned (.slice ao (Lib.compact l).length cap)∧RowAt w' ao cap (Lib.compact l)∧w.grownBy w' v.ownBlock:=by
 rcases h.2 with ⟨rfl,h0⟩|⟨g,cap,cur,rfl,h2,h3,h4,h5,h6,h7⟩
 ·have:l=[]:=List.length_eq_zero_iff.1 h0
  subst this
  refine (Any.slices_Compact_int_empty Tryz.laysNm220 none 0 w).mono ?_
  rintro e w' ⟨rfl,rfl⟩
  exact⟨none,0,rfl,RowAt.nil _,World.grownBy.refl _ _⟩
 ·have hH:Holds (Value.int .i64) w g 0 l.toArray:=holds_of_block_i h3 (by simpa[H.intCells] using h7)
  have hle:=compact_le l
  refine (Any.slices_Compact_int Tryz.laysNm220 g 0 cap l w hH (by omega) h4).mono ?_
  rintro e w' ⟨rfl,q,rfl⟩
  refine⟨_,_,rfl,⟨by omega,(fun e=>by cases e),(fun a e _=>⟨g,0,by simpa using e.symm⟩),fun i hi=>⟨g,0,rfl,?_⟩⟩,?_⟩
  ·have hp:=holds_putRow (Value.int .i64) (Sort.ahead w q) g 0 l.toArray (Lib.compact l++List.replicate (l.length - (Lib.compact l).length) 0).toArray hH (by simp;omega)
   have:=(hp i (by simp;omega)).1
   rw[this]
   congr 2
   rw[getElem!_pos _ i (by simp;omega)]
   simp[List.getElem_append_left hi,List.getD,hi]
  ·have:=grownBy_sorted_i (w:=w) (g:=g) (n:=q) (os:=#[]) (Lib.compact l++List.replicate (l.length - (Lib.compact l).length) 0).toArray
   rw[grow_empty] at this
   exact this
end
section
open Go.RowKit Go.Sort Go.Conc
open H (Up up_ext mergeL dropL Fit RunI RunIs OwnInts RowAt hid)
section
variable {w:World} {sb mb fb:Nat} {s:StD} {vf va:Value}
theorem maxInt (ats:Array TypeId) (ty:TypeId) (a b:Int) (w:World):(Builtin.max_ ats ty #[.int .i64 a,.int .i64 b]).run Tryz.prog w=.ok (.int .i64 (max a b)) w:=by
 by_cases h:a≤b
 ·simp only[Int.max_eq_right h]
  by_cases h2:a=b
  ·subst h2;simp[Builtin.max_,Builtin.max2]
  ·simp[Builtin.max_,Builtin.max2];omega
 ·simp only[Int.max_eq_left (Int.le_of_not_le h)]
  simp[Builtin.max_,Builtin.max2];omega
theorem minInt (ats:Array TypeId) (ty:TypeId) (a b:Int) (w:World):(Builtin.min_ ats ty #[.int .i64 a,.int .i64 b]).run Tryz.prog w=.ok (.int .i64 (min a b)) w:=by
 by_cases h:a≤b
 ·simp only[Int.min_eq_left h]
  simp[Builtin.min_,Builtin.min2];omega
 ·simp only[Int.min_eq_right (Int.le_of_not_le h)]
  simp[Builtin.min_,Builtin.min2];omega
theorem held_any (x:Int) (w:World) :
  Calls Tryz.prog 22 #[.int .i64 x] w fun e w'=>e=.returned (.int .i64 (min (max x 2) 400))∧w'=w:=by
 have h1:=fun ats ty=>maxInt ats ty x 2
 have h2:=fun ats ty=>minInt ats ty (max x 2) 400
 generalize min (max x 2) 400=b at *
 generalize max x 2=a at *
 go_enter Tryz.func22,Tryz.ntmps22
 go_wp2
 go_ret
 exact⟨rfl,rfl⟩
end
end
end Go.Proofs.YtbghhklbfnplbaaGreat

import Derived.RangeFuncNested
import Derived.RangeFuncBound
import Derived.RangeFuncCalls
import Derived.RangeFuncLeaves
import Derived.Shelf.Abstract
import Derived.Shelf.RegionOpen
import Derived.WalkKit
import Derived.OwnWalkIn
import Derived.TacticsInMore
import Derived.LoopNIn
import Derived.LoopIn
import Derived.Below
import Derived.RangeFuncFrom
import Derived.Test.YtdihdchfigemnaaGreatC50
import Derived.Test.YtdihdchfigemnaaGreatC15
import Derived.Test.YtdihdchfigemnaaGreatC35
namespace Go.Proofs.YtdihdchfigemnaaGreat
open Go.RowKit
structure BodyKeeps (n0 B:Nat) (w w':World):Prop where
  os:w'.os = w.os
  tape:w'.tape = w.tape
  output:w'.output = w.output
  size:w.heap.size ≤ w'.heap.size
  block:∀ k,k < w.heap.size → (k < n0 ∨ B ≤ k ∨ ∀ cs T fr,w.heap[k]? ≠ some (.cells cs T fr)) → w'.heap[k]? = w.heap[k]?
def leaves {α:Type} (n0 B:Nat) (I:List α → World → Prop) (Ix:Code → List α → World → Prop) (xs:List α) (W:World):Exit → Act → World → Prop
  | .normal,_,W' => BodyKeeps n0 B W W' ∧ I xs W'
  | .ret,_,W' => BodyKeeps n0 B W W' ∧ Ix .ret xs W'
  | .exit id,_,W' => BodyKeeps n0 B W W' ∧ Ix (.exit id) xs W'
  | .goto t,_,W' => BodyKeeps n0 B W W' ∧ Ix (.goto t) xs W'
  | .panic _,_,_ => False
  | .outgrown,_,_ => False
section
variable {F:Fence} {n:Nat} {P:Program}
end
end Go.Proofs.YtdihdchfigemnaaGreat
namespace Go.Proofs.YtdihdchfigemnaaGreat
open Go.RowKit Go.Shelf
attribute [local go_sem] Oper.semAt_some
def revF (m:Nat):List (Fin m):=(List.finRange m).reverse
theorem revF_take {m g:Nat} (hg:g + 1 ≤ m):(revF m).take (m - g) = (revF m).take (m - (g + 1)) ++ [⟨g,by omega⟩]:=by
  have hl:(revF m).length = m:=by simp [revF]
  have hlt:m - (g + 1) < (revF m).length:=by omega
  rw [show m - g = m - (g + 1) + 1 by omega,List.take_succ_eq_append_getElem hlt]
  congr 2
  simp only [revF,List.getElem_reverse,List.getElem_finRange,List.length_finRange]
  ext
  simp
  omega
set_option maxRecDepth 100000 in
set_option maxHeartbeats 2000000 in
theorem back1_in (F:Fence) (n:Nat) (hF:F.fn 115) (hro:F.round = none) (hn:1 ≤ n) (l Bs m:Nat) (hm:m ≤ 1000) (ao:Option Addr) (cap:Nat) (f:Nat → Int) (S:Nat → Prop) (J Jx:List (Fin m) → World → Prop)
    (hY:∀ pre (x:Fin m) W,J pre W → pre.length < m → YieldAt F (n - 1) Tryz.prog l #[.int .i64 ((x.1:Nat):Int),.int .i64 (f x.1)] W fun e W' =>
      (e = .returned (.bool true) ∧ J (pre ++ [x]) W' ∧ Ks S W W') ∨ (e = .returned (.bool false) ∧ Jx (pre ++ [x]) W'))
    (W:World) (hBs:Hid (∀ V,Ks S W V → V.cell? ⟨Bs,0,none⟩ = some (.slice ao m cap)))
    (hix:Hid (∀ k,k < m → ∃ a,(∀ V,(Instr.indexAt 32 (.slice ao m cap) (.int .i64 (k:Int))).run Tryz.prog V = .ok (.pointer (some a)) V) ∧ ∀ V,Ks S W V → V.cell? a = some (.int .i64 (f k)))) (h0:J [] W) :
    CallsIn F n Tryz.prog 115 #[.func (.yield l) #[] #[],.pointer (some ⟨Bs,0,none⟩)] W fun e W' => (∃ v,e = .returned v) ∧
      ((∃ ys,ys = revF m ∧ J ys W') ∨ (∃ pre,pre <+: revF m ∧ Jx pre W')):=by
  have hl:(revF m).length = m:=by simp [revF]
  have c0:=hBs.out W (Ks.refl _ _)
  refine callsIn_of_wp Tryz.func115 rfl hF ?_ hro
  simp only [Tryz.ntmps115,List.size_toArray,List.length_cons,List.length_nil,Nat.reduceAdd,Nat.reduceSub,Array.replicate_succ,Array.replicate_zero,List.push_toArray,List.append_toArray,List.nil_append,List.cons_append]
  gi_wp2
  gi_loopw [3] (fun i wr => ∃ g:Nat,g ≤ m ∧ i = .int .i64 ((g:Int) - 1) ∧ J ((revF m).take (m - g)) wr ∧ Hid (Ks S W wr))
    (fun i _ => (intOf i + 1).toNat)
  case atStart => exact ⟨m,Nat.le_refl _,by go_num,by simpa using h0,hidA (Ks.refl _ _)⟩
  case round =>
    obtain ⟨g,hg,rfl,hJs,hnx⟩:=hrel
    clear c0
    have c0:=hBs.out wr hnx.out
    cases g with
    | succ g =>
      have eg:((g + 1:Nat):Int) - 1 = (g:Int):=by omega
      rw [eg]
      have d1:decide ((g:Int) ≥ 0) = true:=by simp
      obtain ⟨fn,tmps,assign,body,hy,hR⟩:=hY _ ⟨g,by omega⟩ wr hJs (by simp [hl]; omega)
      dsimp only at hy
      obtain ⟨a,hi,hc⟩:=hix.out g (by omega)
      have hc1:=hc wr hnx.out
      clear hc
      gi_wp2
      refine hR.mono ?_
      rintro e W3 (⟨rfl,hJ3,hk3⟩ | ⟨rfl,hJx3⟩)
      · gi_wp2
        go_roundw
        case rel => exact ⟨g,by omega,by go_num,by rw [revF_take (by omega)]; exact hJ3,hidA (hnx.out.trans hk3)⟩
        case measure => simp [intOf]
      · gi_wp2
        refine bodyPost_ret (results_none rfl _ _ _) rfl ?_
        exact ⟨⟨_,rfl⟩,.inr ⟨_,by rw [← revF_take (by omega)]; exact List.take_prefix _ _,hJx3⟩⟩
    | zero =>
      have d1:decide ((((0:Nat):Int) - 1) ≥ 0) = false:=rfl
      gi_wp2
      go_end0
      rw [Nat.sub_zero,show (revF m).take m = revF m from List.take_of_length_le (by rw [hl]; exact Nat.le_refl _)] at hJs
      exact ⟨⟨_,rfl⟩,.inl ⟨_,rfl,hJs⟩⟩
theorem back_in (F:Fence) (n:Nat) (hF:F.fn 88) (hro:F.round = none) (ao:Option Addr) (len cap:Nat) (w:World) :
    CallsIn F n Tryz.prog 88 #[.slice ao len cap] w fun e w' => e = .returned (.func (.func 115) #[] #[.pointer (some ⟨w.heap.size,0,none⟩)]) ∧ w' = w.alloc (.cells #[.slice ao len cap] 32):=by
  refine callsIn_of_wp Tryz.func88 rfl hF ?_ hro
  simp only [Tryz.ntmps88,List.size_toArray,List.length_cons,List.length_nil,Nat.reduceAdd,Nat.reduceSub,Array.replicate_succ,Array.replicate_zero,List.push_toArray,List.append_toArray,List.nil_append,List.cons_append]
  gi_wp2
  go_ret
  exact ⟨rfl,rfl⟩
theorem back_stops (F:Fence) (n:Nat) (hF:F.fn 115) (hro:F.round = none) (hn:1 ≤ n) (Bs m:Nat) (hm:m ≤ 1000) (ao:Option Addr) (cap:Nat) (f:Nat → Int) (S:Nat → Prop) (w:World)
    (hBs:∀ V,Ks S w V → V.cell? ⟨Bs,0,none⟩ = some (.slice ao m cap))
    (hix:∀ k,k < m → ∃ a,(∀ V,(Instr.indexAt 32 (.slice ao m cap) (.int .i64 (k:Int))).run Tryz.prog V = .ok (.pointer (some a)) V) ∧ ∀ V,Ks S w V → V.cell? a = some (.int .i64 (f k))) :
    SeqStopsK F n Tryz.prog 115 #[.pointer (some ⟨Bs,0,none⟩)] (fun x:Fin m => #[.int .i64 ((x.1:Nat):Int),.int .i64 (f x.1)]) (Ks S) (fun ys => ys = revF m) (fun pre => pre <+: revF m) m w:=fun l J Jx W hW _ _ hY h0 =>
  back1_in F n hF hro hn l Bs m hm ao cap f S J Jx hY W (hidA fun V hV => hBs V ((Ks.below hW).trans hV))
    (hidA fun k hk => by
      obtain ⟨a,h1,h2⟩:=hix k hk
      exact ⟨a,h1,fun V hV => h2 V ((Ks.below hW).trans hV)⟩) h0
end Go.Proofs.YtdihdchfigemnaaGreat
namespace Go.Proofs.YtdihdchfigemnaaGreat
open Go
theorem kids_cut {A:Nat → Nat → Nat → List Nat → List Nat → Prop} (hA:∀ id lo hi L I,A id lo hi L I → Fits lo hi L) {ids seps L I:List Nat} {lo hi:Nat} (h:KidsAt A ids seps lo hi L I) :
    ∀ k,k < ids.length → ∃ lo' hi' Lk Ik La Lb,A (ids.getD k 0) lo' hi' Lk Ik ∧ hi' ≤ hi ∧ L = La ++ Lk ++ Lb ∧ (∀ y ∈ La,0 < k ∧ y < seps.getD (k - 1) 0) ∧ (∀ y ∈ Lb,k + 1 < ids.length ∧ seps.getD k 0 ≤ y) ∧
      (k + 1 < ids.length → ∃ lo2 hi2 Lj Ij r,A (ids.getD (k + 1) 0) lo2 hi2 Lj Ij ∧ hi2 ≤ hi ∧ Lb = Lj ++ r):=by
  induction h using KidsAt.ind with
  | @one id lo hi L I h =>
    intro k hk
    obtain rfl:k = 0:=by simpa using hk
    exact ⟨lo,hi,L,I,[],[],h,Nat.le_refl _,by simp,by simp,by simp,by simp⟩
  | @cons id m lo hi ids seps L1 I1 L2 I2 h h2 ih =>
    intro k hk
    obtain ⟨⟨f1,f2,f3⟩,f4,f5,f6⟩:=kids_fit hA h2
    have l2:=Fits.lt ⟨f1,f2,f3⟩
    obtain ⟨g1,g2,g3⟩:=hA _ _ _ _ _ h
    cases k with
    | zero =>
      have h0:0 < ids.length:=by omega
      refine ⟨lo,m,L1,I1,[],L2,h,Nat.le_of_lt l2,by simp,by simp,fun y hy => ⟨by simp; omega,by simpa using (f2 y hy).1⟩,fun _ => ?_⟩
      obtain ⟨lo',hi',Lk,Ik,La,Lb,e1,e2,e3,e4,_⟩:=ih 0 h0
      have:La = []:=by
        cases La with
        | nil => rfl
        | cons a l => exact absurd (e4 a (by simp)).1 (by omega)
      subst this
      exact ⟨lo',hi',Lk,Ik,Lb,by simpa using e1,e2,by simpa using e3⟩
    | succ k =>
      obtain ⟨lo',hi',Lk,Ik,La,Lb,e1,e2,e3,e4,e5,e6⟩:=ih k (by simpa using hk)
      refine ⟨lo',hi',Lk,Ik,L1 ++ La,Lb,by simpa using e1,e2,by rw [e3]; simp,fun y hy => ⟨by omega,?_⟩,fun y hy => ⟨?_,?_⟩,fun hk2 => ?_⟩
      · rw [Nat.add_sub_cancel]
        rcases List.mem_append.1 hy with hy | hy
        · have:=g2 y hy
          cases k with
          | zero => simpa using this.2
          | succ j =>
            have hj:j < seps.length:=by simp at hk; omega
            have h5:=f5 seps[j] (List.getElem_mem hj)
            have:(m :: seps).getD (j + 1) 0 = seps[j]:=by simp [List.getD,hj]
            omega
        · obtain ⟨p1,p2⟩:=e4 y hy
          cases k with
          | zero => omega
          | succ j => simpa using p2
      · have:=(e5 y hy).1
        simp
        omega
      · simpa using (e5 y hy).2
      · obtain ⟨lo2,hi2,Lj,Ij,r,q1,q2,q3⟩:=e6 (by simp at hk2; omega)
        exact ⟨lo2,hi2,Lj,Ij,r,by simpa using q1,q2,q3⟩
def Beside (ps:List PageD) (t:Nat) (Lb:List Nat) (q:Int × Nat):Prop:=
  (q = (0,0) ∧ Lb = []) ∨ ∃ j dj lo hi Lj Ij r,q.1 = num j ∧ q.2 + dj = t ∧ TreeAt ps dj j lo hi false Lj Ij ∧ hi ≤ 256 ∧ Lb = Lj ++ r
def Way (ps:List PageD) (L:List Nat) (le:Nat → Bool) (t i d dep:Nat) (L':List Nat) (q:Int × Nat):Prop:=
  dep + d = t ∧ ∃ top lo hi I La Lb,TreeAt ps d i lo hi top L' I ∧ hi ≤ 256 ∧ L = La ++ L' ++ Lb ∧ (∀ y ∈ La,∃ m,y < m ∧ m < 256 ∧ le m = true) ∧ (∀ y ∈ Lb,le y = false) ∧ Beside ps t Lb q
def leK (le:Nat → Bool) (seps:List Nat) (k:Nat):Bool:=k == 0 || le (seps.getD (k - 1) 0)
theorem way_start {ps:List PageD} {le:Nat → Bool} {i d lo hi dep:Nat} {top:Bool} {L I:List Nat} (h:TreeAt ps d i lo hi top L I) (hh:hi ≤ 256):Way ps L le (dep + d) i d dep L (0,0):=
  ⟨rfl,top,lo,hi,I,[],[],h,hh,by simp,by simp,by simp,.inl ⟨rfl,rfl⟩⟩
theorem way_node {ps:List PageD} {L L':List Nat} {le:Nat → Bool} {t i d dep:Nat} {q:Int × Nat} (hm:∀ a b,a ≤ b → b < 256 → le b = true → le a = true) (h:Way ps L le t i (d + 1) dep L' q) :
    ∃ ids seps,ps[i]? = some (branchN ids seps) ∧ 2 ≤ ids.length ∧ ids.length ≤ 4 ∧ ids.length = seps.length + 1 ∧ (∀ m ∈ seps,m < 256) ∧ ∀ k,k < ids.length → leK le seps k = true → (k + 1 < ids.length → leK le seps (k + 1) = false) →
      ∃ L'',Way ps L le t (ids.getD k 0) d (dep + 1) L'' (if k + 1 < ids.length then (num (ids.getD (k + 1) 0),dep + 1) else q):=by
  obtain ⟨ht,top,lo,hi,I,La,Lb,hT,hh,hL,hA,hB,hq⟩:=h
  obtain ⟨ids,seps,I',hp,_,hK,h2,h4⟩:=hT
  have hF:∀ id lo hi L I,TreeAt ps d id lo hi false L I → Fits lo hi L:=fun id lo hi L I h => tree_fits d id lo hi false L I h
  obtain ⟨⟨f1,f2,f3⟩,f4,f5,f6⟩:=kids_fit hF hK
  have hs256:∀ m ∈ seps,m < 256:=fun m hm' => by have:=f5 m hm'; omega
  refine ⟨ids,seps,hp,h2,h4,f6,hs256,fun k hk hle hn => ?_⟩
  obtain ⟨lo',hi',Lk,Ik,La',Lb',e1,e2,e3,e4,e5,e6⟩:=kids_cut hF hK k hk
  refine ⟨Lk,by omega,false,lo',hi',Ik,La ++ La',Lb' ++ Lb,e1,by omega,by rw [hL,e3]; simp,fun y hy => ?_,fun y hy => ?_,?_⟩
  · rcases List.mem_append.1 hy with hy | hy
    · exact hA y hy
    · obtain ⟨p1,p2⟩:=e4 y hy
      have hj:k - 1 < seps.length:=by omega
      have he:seps.getD (k - 1) 0 = seps[k - 1]:=by simp [List.getD,hj]
      refine ⟨seps.getD (k - 1) 0,p2,by rw [he]; exact hs256 _ (List.getElem_mem hj),?_⟩
      have:(k == 0) = false:=by simp; omega
      simpa [leK,this] using hle
  · rcases List.mem_append.1 hy with hy | hy
    · obtain ⟨p1,p2⟩:=e5 y hy
      have hn':=hn p1
      simp only [leK,Nat.add_sub_cancel,Bool.or_eq_false_iff] at hn'
      have hyL:y ∈ L':=by rw [e3]; simp [hy]
      have hy256:y < 256:=by have:=f2 y hyL; omega
      cases hc:le y with
      | false => rfl
      | true => rw [hm _ y p2 hy256 hc] at hn'; exact absurd hn'.2 (by simp)
    · exact hB y hy
  · by_cases hk2:k + 1 < ids.length
    · rw [if_pos hk2]
      obtain ⟨lo2,hi2,Lj,Ij,r,q1,q2,q3⟩:=e6 hk2
      exact .inr ⟨ids.getD (k + 1) 0,d,lo2,hi2,Lj,Ij,r ++ Lb,rfl,by simp only; omega,q1,by omega,by rw [q3]; simp⟩
    · rw [if_neg hk2]
      have:Lb' = []:=by
        cases Lb' with
        | nil => rfl
        | cons a l => exact absurd (e5 a (by simp)).1 hk2
      subst this
      simpa using hq
theorem way_leaf {ps:List PageD} {L L':List Nat} {le:Nat → Bool} {t i dep:Nat} {q:Int × Nat} (h:Way ps L le t i 0 dep L' q):ps[i]? = some (leafN L') ∧ L'.length ≤ 4 ∧ 1 ≤ L'.length ∧ (∀ y ∈ L',y < 256) ∧ dep = t ∧
    ∃ La Lb,L = La ++ L' ++ Lb ∧ (∀ y ∈ La,∃ m,y < m ∧ m < 256 ∧ le m = true) ∧ (∀ y ∈ Lb,le y = false) ∧ Beside ps t Lb q:=by
  obtain ⟨ht,top,lo,hi,I,La,Lb,⟨h1,_,_,h3,h4,h5,_⟩,hh,hL,hA,hB,hq⟩:=h
  exact ⟨h1,h5,h4,fun y hy => by have:=h3 y hy; omega,by omega,La,Lb,hL,hA,hB,hq⟩
theorem way_here {ps:List PageD} {L L':List Nat} {le:Nat → Bool} {t i d dep:Nat} {q:Int × Nat} (h:Way ps L le t i d dep L' q):dep + d = t ∧ ∃ top lo hi I,TreeAt ps d i lo hi top L' I ∧ hi ≤ 256:=by
  obtain ⟨ht,top,lo,hi,I,La,Lb,hT,hh,_⟩:=h
  exact ⟨ht,top,lo,hi,I,hT,hh⟩
end Go.Proofs.YtdihdchfigemnaaGreat
namespace Go.Proofs.YtdihdchfigemnaaGreat
open Go
def geN (L:List Nat) (k:Nat):Option Nat:=L.find? fun y => decide (k ≤ y)
theorem ge_skip {L:List Nat} {k:Nat} (hk:k ∉ L):geN L k = geN L (k + 1):=by
  unfold geN
  induction L with
  | nil => rfl
  | cons a l ih =>
    have ha:k ≠ a:=fun e => hk (by simp [e])
    have hl:k ∉ l:=fun e => hk (by simp [e])
    rw [List.find?_cons,List.find?_cons,ih hl]
    by_cases h:k ≤ a
    · have h2:k + 1 ≤ a:=by omega
      simp [h,h2]
    · have h2:¬ k + 1 ≤ a:=by omega
      simp [h,h2]
theorem ge_none {L:List Nat} {k:Nat} (h:∀ y ∈ L,y < k):geN L k = none:=List.find?_eq_none.2 fun y hy => by
  have:=h y hy
  simp; omega
theorem ge_some {L:List Nat} (h:Ri L) {k y:Nat} (hy:geN L k = some y):y ∈ L ∧ k ≤ y ∧ ∀ z ∈ L,k ≤ z → y ≤ z:=by
  have h1:=List.mem_of_find?_eq_some hy
  have h2:=List.find?_some hy
  refine ⟨h1,by simpa using h2,?_⟩
  clear h1 h2
  unfold geN at hy
  induction L with
  | nil => cases hy
  | cons a l ih =>
    intro z hz hkz
    rw [List.find?_cons] at hy
    have hr:=List.pairwise_cons.1 h
    by_cases ha:k ≤ a
    · simp only [ha,decide_true,Option.some.injEq] at hy
      subst hy
      rcases List.mem_cons.1 hz with rfl | hz
      · exact Nat.le_refl _
      · exact Nat.le_of_lt (hr.1 z hz)
    · simp only [ha,decide_false] at hy
      rcases List.mem_cons.1 hz with rfl | hz
      · exact absurd hkz ha
      · exact ih hr.2 hy z hz hkz
theorem ge_hit {L:List Nat} (h:Ri L) {k:Nat} (hk:k ∈ L):geN L k = some k:=by
  cases hg:geN L k with
  | none => exact absurd (List.find?_eq_none.1 hg k hk) (by simp)
  | some y =>
    obtain ⟨h1,h2,h3⟩:=ge_some h hg
    have:=h3 k hk (Nat.le_refl _)
    rw [Nat.le_antisymm h2 this]
def leastN (keys:List Nat) (k:Nat):Nat → Nat
  | 0 => 256
  | j + 1 => if k ≤ keys.getD j 0 then min (leastN keys k j) (keys.getD j 0) else leastN keys k j
theorem take_succ_mem {keys:List Nat} {j:Nat} (hj:j < keys.length) {y:Nat}:y ∈ keys.take (j + 1) ↔ y ∈ keys.take j ∨ y = keys.getD j 0:=by
  rw [List.take_add_one]
  simp only [List.getElem?_eq_getElem hj,Option.toList_some,List.mem_append,List.mem_singleton,List.getD,Option.getD_some]
theorem least_is (keys:List Nat) (k:Nat):∀ j,j ≤ keys.length → (leastN keys k j = 256 ∨ (leastN keys k j ∈ keys.take j ∧ k ≤ leastN keys k j)) ∧ ∀ y ∈ keys.take j,k ≤ y → leastN keys k j ≤ y
  | 0,_ => ⟨.inl rfl,by simp⟩
  | j + 1,hj => by
    obtain ⟨h1,h2⟩:=least_is keys k j (by omega)
    have hj':j < keys.length:=by omega
    unfold leastN
    by_cases hk:k ≤ keys.getD j 0
    · rw [if_pos hk]
      refine ⟨?_,fun y hy hky => ?_⟩
      · by_cases hle:leastN keys k j ≤ keys.getD j 0
        · rw [Nat.min_eq_left hle]
          rcases h1 with h1 | ⟨h1,h1'⟩
          · exact .inl h1
          · exact .inr ⟨(take_succ_mem hj').2 (.inl h1),h1'⟩
        · rw [Nat.min_eq_right (by omega)]
          exact .inr ⟨(take_succ_mem hj').2 (.inr rfl),hk⟩
      · rcases (take_succ_mem hj').1 hy with hy | rfl
        · have:=h2 y hy hky
          omega
        · exact Nat.min_le_right _ _
    · rw [if_neg hk]
      refine ⟨?_,fun y hy hky => ?_⟩
      · rcases h1 with h1 | ⟨h1,h1'⟩
        · exact .inl h1
        · exact .inr ⟨(take_succ_mem hj').2 (.inl h1),h1'⟩
      · rcases (take_succ_mem hj').1 hy with hy | rfl
        · exact h2 y hy hky
        · exact absurd hky hk
theorem ge_least {keys L:List Nat} (hr:Ri L) (hm:∀ y,y ∈ L ↔ y ∈ keys) (h256:∀ y ∈ keys,y < 256) (k:Nat):leastN keys k keys.length = (geN L k).getD 256:=by
  obtain ⟨h1,h2⟩:=least_is keys k keys.length (Nat.le_refl _)
  rw [List.take_length] at h1 h2
  cases hg:geN L k with
  | none =>
    rcases h1 with h1 | ⟨h1,h1'⟩
    · simpa using h1
    · have:=List.find?_eq_none.1 hg _ ((hm _).2 h1)
      simp at this
      omega
  | some y =>
    obtain ⟨g1,g2,g3⟩:=ge_some hr hg
    have hyk:=(hm y).1 g1
    have:=h256 y hyk
    have h3:=h2 y hyk g2
    rcases h1 with h1 | ⟨h1,h1'⟩
    · omega
    · have:=g3 _ ((hm _).2 h1) h1'
      simp only [Option.getD_some]
      omega
end Go.Proofs.YtdihdchfigemnaaGreat
namespace Go.Proofs.YtdihdchfigemnaaGreat
open Go
theorem revF_get {m j:Nat} (hj:j < m):(revF m)[j]? = some ⟨m - 1 - j,by omega⟩:=by
  have hl:j < (revF m).length:=by simpa [revF] using hj
  rw [List.getElem?_eq_getElem hl]
  congr 1
  simp only [revF,List.getElem_reverse,List.getElem_finRange,List.length_finRange]
  ext
  simp
theorem rev_prefix {m:Nat} {pr:List (Fin m)} {x:Fin m} (h:pr ++ [x] <+: revF m):(∀ h1:x.1 + 1 < m,pr.getLast? = some ⟨x.1 + 1,h1⟩) ∧ (¬ x.1 + 1 < m → pr = []):=by
  obtain ⟨r,hr⟩:=h
  have hlen:=congrArg List.length hr
  simp [revF] at hlen
  have hx:=x.2
  have hlt:pr.length < m:=by omega
  have e1:=revF_get hlt
  rw [← hr] at e1
  simp at e1
  have e2:x.1 = m - 1 - pr.length:=by rw [e1]
  refine ⟨fun h1 => ?_,fun h1 => List.eq_nil_of_length_eq_zero (by omega)⟩
  have e3:=revF_get (m:=m) (j:=pr.length - 1) (by omega)
  rw [← hr,List.append_assoc,List.getElem?_append_left (by omega)] at e3
  rw [List.getLast?_eq_getElem?,e3]
  congr 1
  ext
  simp only
  omega
theorem leB_empty (key:ByteArray):leB ⟨#[]⟩ key = true:=by
  unfold leB
  have e:(⟨#[]⟩:ByteArray).toList = []:=by rw [ByteArray.toList_eq]
  rw [e]
  cases key.toList with
  | nil => rfl
  | cons a l => simp [Op.bytesLess]
theorem branch_keys {le:Nat → Bool} {key:ByteArray} (hkey:∀ m,m < 256 → leB (key2 m) key = le m) {ids seps:List Nat} (hs:∀ m ∈ seps,m < 256) (k:Nat) (hk:k < seps.length + 1):leB ((branchN ids seps).keys.getD k ⟨#[]⟩) key = leK le seps k:=by
  cases k with
  | zero => simpa [branchN,branchP,keysN,leK] using leB_empty key
  | succ k =>
    have hk':k < seps.length:=by omega
    have e:(branchN ids seps).keys.getD (k + 1) ⟨#[]⟩ = key2 seps[k]:=by simp [branchN,branchP,keysN,List.getD,hk']
    rw [e,hkey _ (hs _ (List.getElem_mem hk'))]
    simp [leK,List.getD,hk']
theorem branch_kid {ids seps:List Nat} {k:Nat} (hk:k < ids.length):(branchN ids seps).kids.getD k 0 = num (ids.getD k 0):=by
  simp [branchN,branchP,List.getD,hk]
end Go.Proofs.YtdihdchfigemnaaGreat

import Derived.Deep.LoopGhost
import Derived.WalkMore
import Derived.OrdersIn
import Derived.RangeFuncCalls
import Derived.Test.YtdihdchfigemnaaGreatC51
import Derived.Test.YtdihdchfigemnaaGreatC27
namespace Go.Proofs.YtdihdchfigemnaaGreat
open Go.RowKit Go.Shelf
attribute [local go_sem] Oper.semAt_some
def SpN (b4 b9 n:Nat):Nat → Prop:=fun k => k = b4 ∨ k = b9 ∨ n ≤ k
structure Rn (wr w':World) (b4 b9:Nat) (id:Int) (dep:Nat) (q:Int × Nat):Prop where
  a4:w'.heap[b4]? = some (.cells #[.int .i64 id,.int .i64 (dep:Int)] 121 (0,0))
  a9:w'.heap[b9]? = some (.cells #[.int .i64 q.1,.int .i64 (q.2:Int)] 121 (0,0))
  ks:Ks (SpN b4 b9 wr.heap.size) wr w'
  os:w'.os = wr.os
  tape:w'.tape = wr.tape
  output:w'.output = wr.output
theorem Rn.own {wr A A':World} {b4 b9:Nat} {id:Int} {dep:Nat} {q:Int × Nat} {row:Option Nat} (h:Rn wr A b4 b9 id dep q) (h4:b4 < wr.heap.size) (h9:b9 < wr.heap.size) (hg:A.grownBy A' row) (hr:∀ r,row = some r → wr.heap.size ≤ r ∧ ∃ o:Obj,A.heap[r]? = some o ∧ o.isCells = false):Rn wr A' b4 b9 id dep q:=by
  have hs:=h.ks.size
  have hne:∀ b,b < wr.heap.size → A'.heap[b]? = A.heap[b]?:=fun b hb => hg.block b (by omega) (fun e => by
    have:=(hr b e.symm).1
    omega)
  exact ⟨(hne _ h4).trans h.a4,(hne _ h9).trans h.a9,h.ks.trans (.grown hg fun g e => .inl (.inr (.inr (hr g e).1))),hg.os.trans h.os,hg.tape.trans h.tape,hg.output.trans h.output⟩
structure Dn (W wr:World) (b4 b5 b7 b9:Nat) (id:Int) (dep:Nat) (q:Int × Nat) (key:ByteArray) (ds:List Deferred):Prop where
  a4:wr.heap[b4]? = some (.cells #[.int .i64 id,.int .i64 (dep:Int)] 121 (0,0))
  a5:wr.heap[b5]? = some (.cells #[.string key] 9 (0,0))
  a7:wr.heap[b7]? = some (.cells #[.int .i64 0,.int .i64 0] 121 (0,0))
  a9:wr.heap[b9]? = some (.cells #[.int .i64 q.1,.int .i64 (q.2:Int)] 121 (0,0))
  bel:Below W.heap.size W wr
  marks:∀ x ∈ ds,∃ D,x = { target:=.collected D,args:=#[] } ∧ W.heap.size ≤ D ∧ wr.heap[D]? = some (.deferred (some []))
  nd:ds.Nodup
theorem Dn.below {W wr w':World} {b4 b5 b7 b9:Nat} {id:Int} {dep:Nat} {q:Int × Nat} {key:ByteArray} {ds:List Deferred} (h:Dn W wr b4 b5 b7 b9 id dep q key ds) (hb:Below wr.heap.size wr w'):Dn W w' b4 b5 b7 b9 id dep q key ds:=by
  have e:∀ (b:Nat) (o:Obj),wr.heap[b]? = some o → w'.heap[b]? = some o:=fun b o hh => (hb.block b (F.lt_of_heap hh)).trans hh
  refine ⟨e _ _ h.a4,e _ _ h.a5,e _ _ h.a7,e _ _ h.a9,h.bel.trans (hb.mono h.bel.size),fun x hx => ?_,h.nd⟩
  obtain ⟨D,h1,h2,h3⟩:=h.marks x hx
  exact ⟨D,h1,h2,e _ _ h3⟩
theorem Dn.next {W wr w':World} {b4 b5 b7 b9:Nat} {id id':Int} {dep dep':Nat} {q q':Int × Nat} {key:ByteArray} {ds:List Deferred} (h:Dn W wr b4 b5 b7 b9 id dep q key ds) (hr:Rn wr w' b4 b9 id' dep' q') (h5:b5 ≠ b4 ∧ b5 ≠ b9) (h7:b7 ≠ b4 ∧ b7 ≠ b9) (hB:W.heap.size ≤ b4 ∧ W.heap.size ≤ b9) {D:Nat} (hD:wr.heap.size ≤ D) (hDd:w'.heap[D]? = some (.deferred (some []))) :
    Dn W w' b4 b5 b7 b9 id' dep' q' key ({ target:=.collected D,args:=#[] } :: ds):=by
  have l5:=F.lt_of_heap h.a5
  have l7:=F.lt_of_heap h.a7
  have hbs:=h.bel.size
  have e:∀ b,b < wr.heap.size → b ≠ b4 → b ≠ b9 → w'.heap[b]? = wr.heap[b]?:=fun b hb e4 e9 => hr.ks.block b hb (fun hs => by
    rcases hs with hs | hs | hs
    · exact e4 hs
    · exact e9 hs
    · omega)
  refine ⟨hr.a4,(e _ l5 h5.1 h5.2).trans h.a5,(e _ l7 h7.1 h7.2).trans h.a7,hr.a9,⟨hr.os.trans h.bel.os,hr.tape.trans h.bel.tape,hr.output.trans h.bel.output,Nat.le_trans hbs hr.ks.size,fun k hk => (e k (by omega) (by omega) (by omega)).trans (h.bel.block k hk)⟩,fun x hx => ?_,List.nodup_cons.2 ⟨fun hx => ?_,h.nd⟩⟩
  · rcases List.mem_cons.1 hx with rfl | hx
    · exact ⟨D,rfl,by omega,hDd⟩
    · obtain ⟨D',h1,h2,h3⟩:=h.marks x hx
      have l3:=F.lt_of_heap h3
      exact ⟨D',h1,h2,(e D' l3 (fun e' => by rw [e',h.a4] at h3; cases h3) (fun e' => by rw [e',h.a9] at h3; cases h3)).trans h3⟩
  · obtain ⟨D',h1,h2,h3⟩:=h.marks _ hx
    have l3:=F.lt_of_heap h3
    have:D = D':=by simpa using h1
    omega
theorem leaves_marks {n:Nat} {P:Program} {fn:Func} {tmps:Array Value} {R:Ending → World → Prop} {B:Nat}:∀ (ds:List Deferred) (w:World),(∀ x ∈ ds,∃ D,x = { target:=.collected D,args:=#[] } ∧ B ≤ D ∧ w.heap[D]? = some (.deferred (some []))) → ds.Nodup →
    (∀ w',Ks (fun k => ({ target:=.collected k,args:=#[] }:Deferred) ∈ ds) w w' → Below B w w' → ∃ v,(results fn tmps).run P w' = .ok v w' ∧ R (.returned v) w') → LeavesInM Fence.wide n P fn tmps R ds .returning w
  | [],w,_,_,h => h w (.refl _ _) (.refl _ _)
  | x :: ds,w,hm,hn,h => by
    obtain ⟨D,rfl,hD,hd⟩:=hm x (by simp)
    obtain ⟨hn1,hn2⟩:=List.nodup_cons.1 hn
    have hlt:=F.lt_of_heap hd
    refine ⟨by simp,.inl ⟨D,_,rfl,run_takeDeferred hd,leaves_marks (B:=B) ds _ (fun y hy => ?_) hn2 fun w' hk hb => h w' ?_ ?_⟩⟩
    · obtain ⟨D',h1,h2,h3⟩:=hm y (by simp [hy])
      refine ⟨D',h1,h2,(World.putObj_heap_other (fun e => ?_)).trans h3⟩
      subst e
      exact hn1 (h1 ▸ hy)
    · refine ⟨by have:=hk.size; simpa using this,fun k hk1 hk2 => ?_⟩
      have hne:k ≠ D:=fun e => hk2 (by subst e; simp)
      exact (hk.block k (by simpa using hk1) (fun hm => hk2 (List.mem_cons_of_mem _ hm))).trans (World.putObj_heap_other hne)
    · have h0:Below B w (w.putObj D (.deferred none)):=⟨rfl,rfl,rfl,by simp,fun k hk1 => World.putObj_heap_other (show k ≠ D by omega)⟩
      exact h0.trans hb
theorem range_back {Q:Exit → Act → World → Prop} {a:Act} {w:World} {assign body:Code} (Bs m:Nat) (hm:m ≤ 1000) (ao:Option Addr) (cap:Nat) (f:Nat → Int) (S:Nat → Prop) (hS:∀ k,w.heap.size ≤ k → S k) (hg:a.eval (.tmp 30) = .func (.func 115) #[] #[.pointer (some ⟨Bs,0,none⟩)])
    (hBs:∀ V,Ks S w V → V.cell? ⟨Bs,0,none⟩ = some (.slice ao m cap))
    (hix:∀ k,k < m → ∃ a,(∀ V,(Instr.indexAt 32 (.slice ao m cap) (.int .i64 (k:Int))).run Tryz.prog V = .ok (.pointer (some a)) V) ∧ ∀ V,Ks S w V → V.cell? a = some (.int .i64 (f k)))
    (I:List (Fin m) → World → Prop) (Ix:Code → List (Fin m) → World → Prop) (hI:OwnFrom w.heap.size I) (hIx:∀ c,OwnFrom w.heap.size (Ix c)) (h0:I [] w)
    (hassign:∀ (l:Nat) (x:Fin m) (W:World) (K:Act → World → Prop),K { tmps:=(((a.tmps.setIfInBounds 31 (.int .i64 ((x.1:Nat):Int))).setIfInBounds 32 (.int .i64 (f x.1))).setIfInBounds 12 (.int .i64 ((x.1:Nat):Int))).setIfInBounds 13 (.int .i64 (f x.1)),defers:=[] } W →
      assign.wpIn (Fence.wide.inRound l) 7 Tryz.prog (Exit.then K (fun _ _ _ => False)) { tmps:=((#[31,32]:Array Tmp).zip #[.int .i64 ((x.1:Nat):Int),.int .i64 (f x.1)]).foldl (fun t (p,v) => t.setIfInBounds p v) a.tmps,defers:=[] } W)
    (hbody:∀ (l:Nat) (pre:List (Fin m)) (x:Fin m) (W:World),I pre W → body.wpIn (Fence.wide.inRound l) 7 Tryz.prog (ownPostK (Ks S) I Ix (pre ++ [x]) W) { tmps:=(((a.tmps.setIfInBounds 31 (.int .i64 ((x.1:Nat):Int))).setIfInBounds 32 (.int .i64 (f x.1))).setIfInBounds 12 (.int .i64 ((x.1:Nat):Int))).setIfInBounds 13 (.int .i64 (f x.1)),defers:=[] } W)
    (hdone:∀ (D:Nat) (W:World),w.heap.size ≤ D → I (revF m) W → W.heap[D]? = some (.deferred (some [])) → Q .normal { a with defers:={ target:=.collected D,args:=#[] } :: a.defers } W)
    (hstop:∀ (D:Nat) (c:Code) (pre:List (Fin m)) (W:World),w.heap.size ≤ D → pre <+: revF m → Ix c pre W → W.heap[D]? = some (.deferred (some [])) → c.wp Tryz.prog Q { a with defers:={ target:=.collected D,args:=#[] } :: a.defers } W) :
    (Code.rangeFunc (.tmp 30) #[31,32] assign body).wp Tryz.prog Q a w:=by
  refine (wpIn_wide (n:=9)).1 ?_
  refine wpIn_rangeFunc_ownF rfl (by omega) (gf:=115) (lb:=#[.pointer (some ⟨Bs,0,none⟩)]) hg trivial (enters_of Tryz.func115 (by kernel_rfl) rfl)
    (back_stops Fence.wide (9 - 1) trivial rfl (by omega) Bs m hm ao cap f S w hBs hix) (fun h k => h.trans k) (fun W l o o' hl h _ _ => ⟨by simp,fun k _ hk => World.putObj_heap_other (fun e => hk (hS k (by omega)))⟩) (Below.refl _ _) (fun _ => rfl)
    I Ix hI hIx h0 (fun x => { tmps:=(((a.tmps.setIfInBounds 31 (.int .i64 ((x.1:Nat):Int))).setIfInBounds 32 (.int .i64 (f x.1))).setIfInBounds 12 (.int .i64 ((x.1:Nat):Int))).setIfInBounds 13 (.int .i64 (f x.1)),defers:=[] }) ?_ ?_ ?_ ?_
  · exact fun l x W K hK => hassign l x W K hK
  · exact fun l pre x W hi _ => hbody l pre x W hi
  · rintro D xs W hD rfl hi hd
    exact hdone D W hD hi hd
  · exact fun D c pre W hD hp hx hd => wpIn_wide.2 (hstop D c pre W hD hp hx hd)
end Go.Proofs.YtdihdchfigemnaaGreat
namespace Go.Proofs.YtdihdchfigemnaaGreat
open Go
section
variable {P:Program} {ops:Array Oper} {Q:Exit → Act → World → Prop} {n:Nat}
theorem opWp_in (l:Nat) {o:Oper} (hd:∀ c,o.op ≠ .defer c) {a:Act} {w:World} {K K':Act → World → Prop} (hK:∀ a w,K a w → K' a w) (h:o.wp P a w K Q):o.wpIn (Fence.wide.inRound l) n P a w K' Q:=by
  refine ⟨fun _ _ => trivial,?_⟩
  have h:=Oper.wp_mono hK h
  unfold Oper.wp at h
  rw [Fence.inRound_round,Oper.semAt_some l _ o hd]
  generalize (execOp a.eval o).run P w = r at *
  cases r with
  | ok x w' =>
    cases x with
    | value v => exact h
    | skip => exact h
    | defer d => exact h
    | enter f args => exact ⟨fun e => (by cases e),CallsIn.inRound l (callsIn_wide.2 h)⟩
    | row row args => exact ⟨fun e => (by cases e),fun c cs _ => let ⟨v,w'',r,s⟩:=h c cs; ⟨v,w'',r,stepsIn_wide.2 s⟩⟩
    | _ => exact h.elim
  | halt s w' =>
    cases s with
    | panic v => exact h
    | _ => exact h.elim
theorem wpAny_in (l:Nat) {md:Region.Mode} (hd:∀ o ∈ ops,∀ c,o.op ≠ .defer c) (hL:¬ LetsOut Q):∀ (fuel:Nat) (listed:Array Bool) (a:Act) (w:World),wpAny P md ops Q fuel listed a w → wpAnyIn (Fence.wide.inRound l) n P md ops Q fuel listed a w
  | 0,_,_,_,h => h
  | fuel + 1,listed,a,w,h => by
    refine ⟨h.1,fun i hi => ?_⟩
    have h2:=h.2 i hi
    have ih:=wpAny_in (md:=md) l hd hL fuel (listed.setIfInBounds i true)
    unfold wpOp at h2
    unfold wpOpIn
    cases ho:ops[i]? with
    | none =>
      rw [ho] at h2
      exact ih _ _ h2
    | some o =>
      rw [ho] at h2
      simp only at h2 ⊢
      have hmem:o ∈ ops:=Array.mem_of_getElem? ho
      by_cases hw:Region.wanted o (yielded ops a.tmps) = true
      · rw [if_pos hw] at h2 ⊢
        rcases h2 with h2 | ⟨_,h2⟩
        · exact opWp_in l (hd o hmem) ih h2
        · exact absurd h2 hL
      · rw [if_neg hw] at h2 ⊢
        exact ⟨fun _ _ => trivial,ih _ _ h2⟩
def noDeferB (ops:Array Oper):Bool:=ops.toList.all fun o => match o.op with | .defer _ => false | _ => true
theorem noDefer_of (h:noDeferB ops = true):∀ o ∈ ops,∀ c,o.op ≠ .defer c:=fun o ho c e => by
  have:=List.all_eq_true.1 h o (by simpa using ho)
  rw [e] at this
  cases this
variable {a0:Act}
theorem wpIn_region_facts (l:Nat) {id:Nat} {w:World} (todo xs:List Nat) (dead:Nat → Nat → Bool) (pred:Nat → List Nat) (slots:Nat → List Tmp) (B:World → Prop) (R:Nat → World → World → Prop) (G:Nat → (Operand → Value) → World → Prop) (hm:P.follows .mixedOrders = true)
    (hk:hkB ops todo xs dead pred slots = true) (hnd:noDeferB ops = true) (hL:¬ LetsOut Q)
    (hB0:B w.drew) (hB:∀ j ∈ todo,∀ w w',B w → R j w w' → B w')
    (hst:∀ i ∈ todo,∀ j ∈ todo,i ≠ j → j ∉ pred i → dead i j = false → ∀ ρ w w',B w → R j w w' → G i ρ w → G i ρ w')
    (hcg:∀ j ∈ todo,∀ ρ ρ':Operand → Value,∀ w,(∀ t ∈ slots j,ρ (.tmp t) = ρ' (.tmp t)) → G j ρ w → G j ρ' w)
    (hop:∀ j ∈ todo,OpDoes P ops Q B R (fun j a w => G j a.eval w) todo a0 pred j)
    (hend:Ends P ops Q B (fun j a w => G j a.eval w) todo xs dead a0):(Code.region id ops true).wpIn (Fence.wide.inRound l) n P Q a0 w:=by
  have hA:=asks_of (P:=P) (a0:=a0) (B:=B) (R:=R) (F:=fun j a w => G j a.eval w) (Q:=Q) todo xs dead pred slots hk hB (fun i hi j hj hne hp hd a w w' => hst i hi j hj hne hp hd a.eval w w') (fun j hj a a' w => hcg j hj a.eval a'.eval w) hop hend
  exact wpIn_region_any hm (wpAny_in l (noDefer_of hnd) hL _ _ _ _ (region_any_facts hA hB0))
end
end Go.Proofs.YtdihdchfigemnaaGreat
namespace Go.Proofs.YtdihdchfigemnaaGreat
open Go.RowKit
def pred_dn10:Nat → List Nat | 1 => [0] | 3 => [1,2] | 4 => [3] | 6 => [4,5] | _ => []
def slots_dn10:Nat → List Tmp | 0 => [38] | 1 => [39] | 2 => [40] | 3 => [41] | 4 => [42] | 5 => [43] | 6 => [44] | _ => []
def dead_dn10:Nat → Nat → Bool | _,_ => false
def G_dn10 (pb:Nat) (m:Nat) (k:Nat) (ak:Option Addr) (ck:Nat) (ka:Addr) (y:ByteArray) (key:ByteArray):Nat → (Operand → Value) → World → Prop
  | 0,ρ,_ => ρ (.tmp 38) = .pointer (some ⟨pb,2,none⟩)
  | 1,ρ,_ => ρ (.tmp 39) = .slice ak m ck
  | 2,ρ,_ => ρ (.tmp 40) = .int .i64 (k:Int)
  | 3,ρ,_ => ρ (.tmp 41) = .pointer (some ka)
  | 4,ρ,_ => ρ (.tmp 42) = .string y
  | 5,ρ,_ => ρ (.tmp 43) = .string key
  | 6,ρ,_ => ρ (.tmp 44) = .bool (leB y key)
  | _,_,_ => True
set_option maxRecDepth 100000 in
theorem hk_dn10:hkB (opsOf Tryz.f60 10) [0,1,2,3,4,5,6] [] dead_dn10 pred_dn10 slots_dn10 = true:=by kernel_rfl
set_option maxRecDepth 10000 in
theorem dn10 (l n:Nat) (w0:World) (b5 pb m k:Nat) (ak:Option Addr) (ck:Nat) (ka:Addr) (y key:ByteArray) {ops:Array Oper} (hops:ops = opsOf Tryz.f60 10) {a0:Act} {Q:Exit → Act → World → Prop} (hL:¬ LetsOut Q) (hsz:a0.tmps.size = 51) (h5:a0.eval (.tmp 5) = .pointer (some ⟨b5,0,none⟩)) (h10:a0.eval (.tmp 10) = .pointer (some ⟨pb,0,none⟩)) (h12:a0.eval (.tmp 12) = .int .i64 (k:Int)) (hC5:∀ W,Below w0.heap.size w0 W → W.cell? ⟨b5,0,none⟩ = some (.string key)) (hC2:∀ W,Below w0.heap.size w0 W → W.cell? ⟨pb,2,none⟩ = some (.slice ak m ck))
    (hix:∀ W,(Instr.indexAt 31 (.slice ak m ck) (.int .i64 (k:Int))).run Tryz.prog W = .ok (.pointer (some ka)) W) (hCk:∀ W,Below w0.heap.size w0 W → W.cell? ka = some (.string y))
    (hQ:∀ w',Below w0.heap.size w0 w' → Q .normal ([(38,.pointer (some ⟨pb,2,none⟩)),(39,.slice ak m ck),(40,.int .i64 (k:Int)),(41,.pointer (some ka)),(42,.string y),(43,.string key),(44,.bool (leB y key))].foldl (fun b (x:Nat × Value) => b.put (some x.1) x.2) a0) w'):(Code.region 10 ops true).wpIn (Fence.wide.inRound l) n Tryz.prog Q a0 w0:=by
  subst hops
  refine wpIn_region_facts l [0,1,2,3,4,5,6] [] dead_dn10 pred_dn10 slots_dn10 (fun W => Below w0.heap.size w0 W) (fun _ w w' => Below w.heap.size w w') (G_dn10 pb m k ak ck ka y key) (by kernel_rfl) hk_dn10 (by kernel_rfl) hL ?_ ?_ ?_ ?_ ?_ ?_
  · exact (Below.refl _ _).drew
  · intro j hj w w' hB hR
    exact hB.trans (hR.mono hB.size)
  · intro i hi j hj hne hnp hdd ρ w w' hB hR hG
    rcases (by simpa using hi:i = 0 ∨ i = 1 ∨ i = 2 ∨ i = 3 ∨ i = 4 ∨ i = 5 ∨ i = 6) with rfl | rfl | rfl | rfl | rfl | rfl | rfl
    · exact hG
    · exact hG
    · exact hG
    · exact hG
    · exact hG
    · exact hG
    · exact hG
  · intro i hi ρ ρ' w h hG
    rcases (by simpa using hi:i = 0 ∨ i = 1 ∨ i = 2 ∨ i = 3 ∨ i = 4 ∨ i = 5 ∨ i = 6) with rfl | rfl | rfl | rfl | rfl | rfl | rfl
    · have e38:=h 38 (by simp [slots_dn10]); simp only [G_dn10] at hG ⊢; rw [← e38]; exact hG
    · have e39:=h 39 (by simp [slots_dn10]); simp only [G_dn10] at hG ⊢; rw [← e39]; exact hG
    · have e40:=h 40 (by simp [slots_dn10]); simp only [G_dn10] at hG ⊢; rw [← e40]; exact hG
    · have e41:=h 41 (by simp [slots_dn10]); simp only [G_dn10] at hG ⊢; rw [← e41]; exact hG
    · have e42:=h 42 (by simp [slots_dn10]); simp only [G_dn10] at hG ⊢; rw [← e42]; exact hG
    · have e43:=h 43 (by simp [slots_dn10]); simp only [G_dn10] at hG ⊢; rw [← e43]; exact hG
    · have e44:=h 44 (by simp [slots_dn10]); simp only [G_dn10] at hG ⊢; rw [← e44]; exact hG
  · intro i hi
    rcases (by simpa using hi:i = 0 ∨ i = 1 ∨ i = 2 ∨ i = 3 ∨ i = 4 ∨ i = 5 ∨ i = 6) with rfl | rfl | rfl | rfl | rfl | rfl | rfl
    · refine opDoes_val 38 (.fieldAddr 59 (.tmp 10) 2) (by kernel_rfl) (by rw [hsz]; decide) (fun w => Below.refl _ _) fun ρ w ty pos af hb => ?_
      have h10:=(hb.out 10 (by kernel_rfl)).trans h10
      have hc:=hb.const
      have hB:=hb.base
      exact ⟨.pointer (some ⟨pb,2,none⟩),by simp [execOp,go_sem,h10],fun ρ_ e1 _ => e1⟩
    · refine opDoes_val 39 (.load 31 (.tmp 38)) (by kernel_rfl) (by rw [hsz]; decide) (fun w => Below.refl _ _) fun ρ w ty pos af hb => ?_
      have g0:=hb.pre 0 (by simp [pred_dn10])
      simp only [G_dn10] at g0
      have hc:=hb.const
      have hB:=hb.base
      have hcell:=hC2 w hB
      exact ⟨.slice ak m ck,by simp [execOp,g0,hcell,go_sem],fun ρ_ e1 _ => e1⟩
    · refine opDoes_val 40 (.move (.tmp 12)) (by kernel_rfl) (by rw [hsz]; decide) (fun w => Below.refl _ _) fun ρ w ty pos af hb => ?_
      have h12:=(hb.out 12 (by kernel_rfl)).trans h12
      have hc:=hb.const
      have hB:=hb.base
      exact ⟨.int .i64 (k:Int),by simp [execOp,go_sem,h12],fun ρ_ e1 _ => e1⟩
    · refine opDoes_val 41 (.indexAddr 31 (.tmp 39) (.tmp 40)) (by kernel_rfl) (by rw [hsz]; decide) (fun w => Below.refl _ _) fun ρ w ty pos af hb => ?_
      have g1:=hb.pre 1 (by simp [pred_dn10])
      simp only [G_dn10] at g1
      have g2:=hb.pre 2 (by simp [pred_dn10])
      simp only [G_dn10] at g2
      have hc:=hb.const
      have hB:=hb.base
      exact ⟨.pointer (some ka),by simp [execOp,g1,g2,hix,go_sem],fun ρ_ e1 _ => e1⟩
    · refine opDoes_val 42 (.load 9 (.tmp 41)) (by kernel_rfl) (by rw [hsz]; decide) (fun w => Below.refl _ _) fun ρ w ty pos af hb => ?_
      have g3:=hb.pre 3 (by simp [pred_dn10])
      simp only [G_dn10] at g3
      have hc:=hb.const
      have hB:=hb.base
      have hcell:=hCk w hB
      exact ⟨.string y,by simp [execOp,g3,hcell,go_sem],fun ρ_ e1 _ => e1⟩
    · refine opDoes_val 43 (.load 9 (.tmp 5)) (by kernel_rfl) (by rw [hsz]; decide) (fun w => Below.refl _ _) fun ρ w ty pos af hb => ?_
      have h5:=(hb.out 5 (by kernel_rfl)).trans h5
      have hc:=hb.const
      have hB:=hb.base
      have hcell:=hC5 w hB
      exact ⟨.string key,by simp [execOp,h5,hcell,go_sem],fun ρ_ e1 _ => e1⟩
    · refine opDoes_val 44 (.binOp .leq 9 (.tmp 42) (.tmp 43) 9) (by kernel_rfl) (by rw [hsz]; decide) (fun w => Below.refl _ _) fun ρ w ty pos af hb => ?_
      have g4:=hb.pre 4 (by simp [pred_dn10])
      simp only [G_dn10] at g4
      have g5:=hb.pre 5 (by simp [pred_dn10])
      simp only [G_dn10] at g5
      have hc:=hb.const
      have hB:=hb.base
      exact ⟨.bool (leB y key),by simp [execOp,g4,g5,leB,go_sem],fun ρ_ e1 _ => e1⟩
  · refine ends_of [38,39,40,41,42,43,44] (by kernel_rfl) fun ρ w hB hG => ?_
    have g0:=hG 0 (by simp) (by kernel_rfl)
    simp only [G_dn10] at g0
    have g1:=hG 1 (by simp) (by kernel_rfl)
    simp only [G_dn10] at g1
    have g2:=hG 2 (by simp) (by kernel_rfl)
    simp only [G_dn10] at g2
    have g3:=hG 3 (by simp) (by kernel_rfl)
    simp only [G_dn10] at g3
    have g4:=hG 4 (by simp) (by kernel_rfl)
    simp only [G_dn10] at g4
    have g5:=hG 5 (by simp) (by kernel_rfl)
    simp only [G_dn10] at g5
    have g6:=hG 6 (by simp) (by kernel_rfl)
    simp only [G_dn10] at g6
    simp only [List.foldl_cons,List.foldl_nil,g0,g1,g2,g3,g4,g5,g6]
    exact hQ w hB
end Go.Proofs.YtdihdchfigemnaaGreat

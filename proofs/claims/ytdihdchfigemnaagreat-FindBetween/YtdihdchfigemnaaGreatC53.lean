import Derived.Test.YtdihdchfigemnaaGreatC52
import Derived.Test.YtdihdchfigemnaaGreatC51
namespace Go.Proofs.YtdihdchfigemnaaGreat
open Go.RowKit Go.Shelf
attribute [local go_sem] Oper.semAt_some
theorem keeps_below {w w':World} (h:Below w.heap.size w w'):KeepsOthers w w':=⟨h.size,fun k _ hk _ => (h.block k (F.lt_of_heap hk)).trans hk⟩
theorem Rn.beside {wr V w':World} {b4 b9:Nat} {id kid:Int} {dep d:Nat} {q:Int × Nat} (h:Rn wr V b4 b9 id dep q) (hb:Below V.heap.size V w') (hne:b4 ≠ b9):Rn wr ((w'.setCell ⟨b9,0,none⟩ (.int .i64 kid)).setCell ⟨b9,1,none⟩ (.int .i64 (d:Int))) b4 b9 id dep (kid,d):=by
  have e4:=(hb.block _ (F.lt_of_heap h.a4)).trans h.a4
  have e9:=(hb.block _ (F.lt_of_heap h.a9)).trans h.a9
  refine ⟨?_,?_,((h.ks.trans (.below hb)).setCell _ (.inl (.inr (.inl rfl)))).setCell _ (.inl (.inr (.inl rfl))),hb.os.trans h.os,hb.tape.trans h.tape,hb.output.trans h.output⟩
  · exact ((Below.heap_setCell _ _ _ _ (show b4 ≠ b9 from hne)).trans (Below.heap_setCell _ _ _ _ (show b4 ≠ b9 from hne))).trans e4
  · exact heap_setCell_same _ b9 1 _ _ _ (heap_setCell_same w' b9 0 _ _ _ e9)
theorem Rn.step {wr V w':World} {b4 b9:Nat} {id kid:Int} {dep d:Nat} {q:Int × Nat} (h:Rn wr V b4 b9 id dep q) (hb:Below V.heap.size V w') (hne:b4 ≠ b9):Rn wr ((w'.setCell ⟨b4,0,none⟩ (.int .i64 kid)).setCell ⟨b4,1,none⟩ (.int .i64 (d:Int))) b4 b9 kid d q:=by
  have e4:=(hb.block _ (F.lt_of_heap h.a4)).trans h.a4
  have e9:=(hb.block _ (F.lt_of_heap h.a9)).trans h.a9
  refine ⟨?_,?_,((h.ks.trans (.below hb)).setCell _ (.inl (.inl rfl))).setCell _ (.inl (.inl rfl)),hb.os.trans h.os,hb.tape.trans h.tape,hb.output.trans h.output⟩
  · exact heap_setCell_same _ b4 1 _ _ _ (heap_setCell_same w' b4 0 _ _ _ e4)
  · exact ((Below.heap_setCell _ _ _ _ (show b9 ≠ b4 from hne.symm)).trans (Below.heap_setCell _ _ _ _ (show b9 ≠ b4 from hne.symm))).trans e9
theorem ints_get {Q:World → Prop} {w:World} {ao:Option Addr} {cap:Nat} {l:List Int} (hw:Q w) (h:∀ V,Q V → IntsAt V (.slice ao l.length cap) l) {k:Nat} (hk:k < l.length):∃ a,(∀ V,(Instr.indexAt 32 (.slice ao l.length cap) (.int .i64 (k:Int))).run Tryz.prog V = .ok (.pointer (some a)) V) ∧ ∀ V,Q V → V.cell? a = some (.int .i64 (l.getD k 0)):=by
  have key:∀ V,Q V → ∃ a,ao = some a ∧ V.cell? (a.add k) = some (.int .i64 (l.getD k 0)):=fun V hV => by
    obtain ⟨ao',cap',e,_,h1⟩:=h V hV
    simp only [Value.slice.injEq,true_and] at e
    obtain ⟨rfl,rfl⟩:=e
    obtain ⟨a,ha,hc⟩:=h1 k hk
    exact ⟨a,ha,by simpa [List.getD,hk] using hc⟩
  obtain ⟨a,rfl,_⟩:=key w hw
  refine ⟨a.add k,fun V => ?_,fun V hV => ?_⟩
  · rw [run_indexAt_slice (P:=Tryz.prog) V 32 a l.length cap .i64 k Tryz.elemInts,if_pos (by omega),Tryz.sizeInts]
    simp [Result.andThen]
  · obtain ⟨a',e,hc⟩:=key V hV
    cases e
    exact hc
theorem strs_get {Q:World → Prop} {w:World} {ao:Option Addr} {cap:Nat} {l:List ByteArray} (hw:Q w) (h:∀ V,Q V → StrsAt V (.slice ao l.length cap) l) {k:Nat} (hk:k < l.length):∃ a,(∀ V,(Instr.indexAt 31 (.slice ao l.length cap) (.int .i64 (k:Int))).run Tryz.prog V = .ok (.pointer (some a)) V) ∧ ∀ V,Q V → V.cell? a = some (.string (l.getD k ⟨#[]⟩)):=by
  have key:∀ V,Q V → ∃ a,ao = some a ∧ V.cell? (a.add k) = some (.string (l.getD k ⟨#[]⟩)):=fun V hV => by
    obtain ⟨ao',cap',e,_,h1⟩:=h V hV
    simp only [Value.slice.injEq,true_and] at e
    obtain ⟨rfl,rfl⟩:=e
    obtain ⟨a,ha,hc,_⟩:=h1 k hk
    exact ⟨a,ha,by simpa [List.getD,hk] using hc⟩
  obtain ⟨a,rfl,_⟩:=key w hw
  refine ⟨a.add k,fun V => ?_,fun V hV => ?_⟩
  · rw [run_indexAt_slice (P:=Tryz.prog) V 31 a l.length cap .i64 k Tryz.elemStrs,if_pos (by omega),Tryz.sizeStrs]
    simp [Result.andThen]
  · obtain ⟨a',e,hc⟩:=key V hV
    cases e
    exact hc
theorem way_page {ps:List PageD} {L L':List Nat} {le:Nat → Bool} {t i d dep:Nat} {q:Int × Nat} (h:Way ps L le t i d dep L' q):∃ p,ps[i]? = some p ∧ p.keys.length = p.kids.length ∧ p.kids.length ≤ 4:=by
  obtain ⟨_,top,lo,hi,I,La,Lb,hT,_⟩:=h
  cases d with
  | zero =>
    obtain ⟨h1,_⟩:=hT
    exact ⟨_,h1,rfl,by simp [leafN,leafP,noPage]⟩
  | succ d =>
    obtain ⟨ids,seps,I',h1,_,hK,h2,h4⟩:=hT
    obtain ⟨_,_,_,h6⟩:=kids_fit (fun id lo hi L I h => tree_fits d id lo hi false L I h) hK
    exact ⟨_,h1,by simp [branchN,branchP,keysN,h6],by simpa [branchN,branchP] using h4⟩
def qOf {m:Nat} (kf:Nat → Int) (dep:Nat) (q:Int × Nat) (pre:List (Fin m)):Int × Nat:=match pre.getLast? with
  | none => q
  | some x => (kf x.1,dep + 1)
set_option maxRecDepth 100000 in
set_option maxHeartbeats 4000000 in
theorem down_way {X:World} {sb:Nat} {ps:List PageD} (hR:Rd X sb ps) (hps:∀ i (h:i < ps.length),NumP ps[i]) {L L0:List Nat} {le:Nat → Bool} {t i0 d0 dep0:Nat} (key:ByteArray) (hkey:∀ m,m < 256 → leB (key2 m) key = le m) (hm:∀ a b,a ≤ b → b < 256 → le b = true → le a = true)
    (hWy:Way ps L le t i0 d0 dep0 L0 (0,0)) (ht:t ≤ 8) (W:World) (hW:Below X.heap.size X W) :
    Calls Tryz.prog 60 #[.pointer (some ⟨sb,0,none⟩),.agg #[.int .i64 (num i0),.int .i64 (dep0:Int)],.string key] W fun e W' => ∃ (l La Lb:List Nat) (q:Int × Nat) (u:Value),e = .returned (.tuple #[u,.agg #[.int .i64 q.1,.int .i64 (q.2:Int)],.nilIface]) ∧ (∀ V,Agree W.heap.size W' V → ItemsAt V u (l.map it2)) ∧ L = La ++ l ++ Lb ∧ l.length ≤ 4 ∧ 1 ≤ l.length ∧ (∀ y ∈ l,y < 256) ∧ (∀ y ∈ La,∃ m,y < m ∧ m < 256 ∧ le m = true) ∧ (∀ y ∈ Lb,le y = false) ∧ Beside ps t Lb q ∧ Below W.heap.size W W':=by
  obtain ⟨B,hB⟩:∃ B,W.heap.size = B:=⟨_,rfl⟩
  have hD0:Hid (Dn W ((((W.alloc (.cells #[.int .i64 (num i0),.int .i64 (dep0:Int)] 121)).alloc (.cells #[.string key] 9)).alloc (.cells #[.int .i64 0,.int .i64 0] 121)).alloc (.cells #[.int .i64 0,.int .i64 0] 121)) B (B + 1) (B + 1 + 1) (B + 1 + 1 + 1) (num i0) dep0 (0,0) key []):=hidA (by
    subst hB
    refine ⟨?_,?_,?_,?_,?_,by simp,List.nodup_nil⟩
    · exact (((Below.heap_alloc _ _ _ (by simp <;> omega)).trans (Below.heap_alloc _ _ _ (by simp <;> omega))).trans (Below.heap_alloc _ _ _ (by simp <;> omega))).trans (heap_newL W _)
    · have:=heap_newL (W.alloc (.cells #[.int .i64 (num i0),.int .i64 (dep0:Int)] 121)) (.cells #[.string key] 9)
      rw [World.size_alloc] at this
      exact ((Below.heap_alloc _ _ _ (by simp <;> omega)).trans (Below.heap_alloc _ _ _ (by simp <;> omega))).trans this
    · have:=heap_newL ((W.alloc (.cells #[.int .i64 (num i0),.int .i64 (dep0:Int)] 121)).alloc (.cells #[.string key] 9)) (.cells #[.int .i64 0,.int .i64 0] 121)
      rw [World.size_alloc,World.size_alloc] at this
      exact (Below.heap_alloc _ _ _ (by simp <;> omega)).trans this
    · have:=heap_newL (((W.alloc (.cells #[.int .i64 (num i0),.int .i64 (dep0:Int)] 121)).alloc (.cells #[.string key] 9)).alloc (.cells #[.int .i64 0,.int .i64 0] 121)) (.cells #[.int .i64 0,.int .i64 0] 121)
      rw [World.size_alloc,World.size_alloc,World.size_alloc] at this
      exact this
    · exact ((((Below.refl _ _).alloc (Nat.le_refl _) _).alloc (by simp <;> omega) _).alloc (by simp <;> omega) _).alloc (by simp <;> omega) _)
  have hRR:=hidA hR
  have hps':=hidA hps
  have hky:=hidA hkey
  have hmm:=hidA hm
  have hWW:=hidA hW
  have hW0:=hidA hWy
  have ht':=hidA ht
  clear hR hps hkey hm hW hWy ht
  refine (callsIn_wide (n:=9)).1 ?_
  refine callsIn_of_wp_marks Tryz.func60 rfl trivial ?_ rfl
  simp only [Tryz.ntmps60,List.size_toArray,List.length_cons,List.length_nil,Nat.reduceAdd,Nat.reduceSub,Array.replicate_succ,Array.replicate_zero,List.push_toArray,List.append_toArray,List.nil_append,List.cons_append]
  refine wpIn_wide.2 ?_
  go_wp2
  go_step3
  go_wp2
  go_step3
  go_wp2
  have hBH:Hid (B ≤ B + 1 ∧ B ≤ B + 1 + 1 ∧ B ≤ B + 1 + 1 + 1 ∧ B + 1 ≠ B ∧ B + 1 ≠ B + 1 + 1 + 1 ∧ B + 1 + 1 ≠ B ∧ B + 1 + 1 ≠ B + 1 + 1 + 1 ∧ B ≠ B + 1 + 1 + 1):=hidA (by omega)
  generalize ((((W.alloc (.cells #[.int .i64 (num i0),.int .i64 (dep0:Int)] 121)).alloc (.cells #[.string key] 9)).alloc (.cells #[.int .i64 0,.int .i64 0] 121)).alloc (.cells #[.int .i64 0,.int .i64 0] 121)) = w0 at *
  generalize B + 1 + 1 + 1 = b9 at *
  generalize B + 1 + 1 = b7 at *
  generalize B + 1 = b5 at *
  refine wp_loop_ghost_k (fun g a wr => ∃ (i dep:Nat) (L':List Nat) (q:Int × Nat) (ds:List Deferred) (u10 u11 u12 u13 u14 u15 u16 u17 u18 u19 u20 u21 u22 u23 u24 u25 u26 u27 u28 u29 u30 u31 u32 u33 u34 u35 u36 u37 u38 u39 u40 u41 u42 u43 u44 u45 u46 u47 u48 u49 u50:Value),Hid (Way ps L le t i g dep L' q) ∧ Hid (Dn W wr B b5 b7 b9 (num i) dep q key ds) ∧ a = { tmps:=#[.pointer (some ⟨sb,0,none⟩),.agg #[.int .i64 (num i0),.int .i64 (dep0:Int)],.string key,undef,.pointer (some ⟨B,0,none⟩),.pointer (some ⟨b5,0,none⟩),.slice none 0 0,.pointer (some ⟨b7,0,none⟩),.nilIface,.pointer (some ⟨b9,0,none⟩),u10,u11,u12,u13,u14,u15,u16,u17,u18,u19,u20,u21,u22,u23,u24,u25,u26,u27,u28,u29,u30,u31,u32,u33,u34,u35,u36,u37,u38,u39,u40,u41,u42,u43,u44,u45,u46,u47,u48,u49,u50],defers:=ds }) d0 ⟨i0,dep0,L0,(0,0),[],_,_,_,_,_,_,_,_,_,_,_,_,_,_,_,_,_,_,_,_,_,_,_,_,_,_,_,_,_,_,_,_,_,_,_,_,_,_,_,_,_,hW0,hD0,rfl⟩ ?_
  rintro g a wr ⟨i,dep,L',q,ds,u10,u11,u12,u13,u14,u15,u16,u17,u18,u19,u20,u21,u22,u23,u24,u25,u26,u27,u28,u29,u30,u31,u32,u33,u34,u35,u36,u37,u38,u39,u40,u41,u42,u43,u44,u45,u46,u47,u48,u49,u50,hWy,hD,rfl⟩ J K hJ hK
  clear hD0 hW0
  obtain ⟨p,hpi,hlk,hl4⟩:=way_page hWy.out
  have hi:i < ps.length:=(List.getElem?_eq_some_iff.1 hpi).1
  obtain rfl:ps[i] = p:=(List.getElem?_eq_some_iff.1 hpi).2
  have hdep:dep ≤ 8:=by have:=(way_here hWy.out).1; have:=ht'.out; omega
  have hn0:(num i != 0) = true:=by simp [num]; omega
  have CR:=hidA (fread_any hRR.out hi (hps'.out i hi) dep hdep wr (hWW.out.trans (by have:=hD.out.bel.mono (by rw [hB]; exact Nat.le_refl _); exact this.mono (by have:=hWW.out.size; omega))))
  have hpiH:=hidA hpi
  generalize hpp:ps[i] = p at *
  have c4:=cell_rowL hD.out.a4
  clear hpi hpp
  go_wp2_with fail
  refine CR.out.mono ?_
  rintro e w1 ⟨⟨vi,vk,vd,vv,vf⟩,rfl,hg,hb1⟩
  have hgh:=hg w1 ⟨Nat.le_refl _,fun _ _ _ => rfl⟩
  obtain ⟨ai,ci,ei,_⟩:=hgh.items
  obtain ⟨ak,ck,ek,_⟩:=hgh.keys
  obtain ⟨ad,cd,ed,_⟩:=hgh.kids
  obtain ⟨av,nv,cv,rfl⟩:=hgh.vals.slice
  obtain ⟨af,nf,cf,rfl⟩:=hgh.free.slice
  rw [hlk] at ek
  subst ei ek ed
  rw [show (cellsPV p ⟨.slice ai p.items.length ci,.slice ak p.kids.length ck,.slice ad p.kids.length cd,.slice av nv cv,.slice af nf cf⟩).toArray = #[.int .i64 p.kind,.slice ai p.items.length ci,.slice ak p.kids.length ck,.slice ad p.kids.length cd,.string p.text,.slice av nv cv,.slice af nf cf,.int .i64 p.next,.int .u64 p.mt.txn,.int .i64 p.mt.main.page,.int .i64 p.mt.main.count,.int .i64 p.mt.main.flags,.int .i64 p.mt.free,.int .i64 p.mt.last] from rfl]
  have hD1:=hidA (hD.out.below hb1)
  have HG:=hidA hg
  have hs1:=hidA hb1.size
  have hPg:=hidA (heap_newL w1 (.cells #[.int .i64 p.kind,.slice ai p.items.length ci,.slice ak p.kids.length ck,.slice ad p.kids.length cd,.string p.text,.slice av nv cv,.slice af nf cf,.int .i64 p.next,.int .u64 p.mt.txn,.int .i64 p.mt.main.page,.int .i64 p.mt.main.count,.int .i64 p.mt.main.flags,.int .i64 p.mt.free,.int .i64 p.mt.last] 59))
  have hD2:=hidA (hD1.out.below ((Below.refl _ _).alloc (Nat.le_refl _) (.cells #[.int .i64 p.kind,.slice ai p.items.length ci,.slice ak p.kids.length ck,.slice ad p.kids.length cd,.string p.text,.slice av nv cv,.slice af nf cf,.int .i64 p.next,.int .u64 p.mt.txn,.int .i64 p.mt.main.page,.int .i64 p.mt.main.count,.int .i64 p.mt.main.flags,.int .i64 p.mt.free,.int .i64 p.mt.last] 59)))
  have cP:=cell_rowL hPg.out
  clear hg hgh c4 hb1
  go_wp2_with fail
  refine ((callsIn_wide (n:=5)).1 (back_in Fence.wide 5 trivial rfl ad p.kids.length cd _)).mono ?_
  rintro e w3 ⟨rfl,rfl⟩
  clear CR
  go_wp2_with fail
  have hlk':=hidA hlk
  clear hlk
  have hx1:∃ w3,(w1.alloc (.cells #[.int .i64 p.kind,.slice ai p.items.length ci,.slice ak p.kids.length ck,.slice ad p.kids.length cd,.string p.text,.slice av nv cv,.slice af nf cf,.int .i64 p.next,.int .u64 p.mt.txn,.int .i64 p.mt.main.page,.int .i64 p.mt.main.count,.int .i64 p.mt.main.flags,.int .i64 p.mt.free,.int .i64 p.mt.last] 59)).alloc (.cells #[.slice ad p.kids.length cd] 32) = w3:=⟨_,rfl⟩
  have hb3:=hidA (((Below.refl _ w1).alloc (Nat.le_refl _) (.cells #[.int .i64 p.kind,.slice ai p.items.length ci,.slice ak p.kids.length ck,.slice ad p.kids.length cd,.string p.text,.slice av nv cv,.slice af nf cf,.int .i64 p.next,.int .u64 p.mt.txn,.int .i64 p.mt.main.page,.int .i64 p.mt.main.count,.int .i64 p.mt.main.flags,.int .i64 p.mt.free,.int .i64 p.mt.last] 59)).alloc (by simp) (.cells #[.slice ad p.kids.length cd] 32))
  have hD3:=hidA (hD1.out.below hb3.out)
  have hP3:=hidA ((Below.heap_alloc (w1.alloc (.cells #[.int .i64 p.kind,.slice ai p.items.length ci,.slice ak p.kids.length ck,.slice ad p.kids.length cd,.string p.text,.slice av nv cv,.slice af nf cf,.int .i64 p.next,.int .u64 p.mt.txn,.int .i64 p.mt.main.page,.int .i64 p.mt.main.count,.int .i64 p.mt.main.flags,.int .i64 p.mt.free,.int .i64 p.mt.last] 59)) (.cells #[.slice ad p.kids.length cd] 32) _ (by simp)).trans hPg.out)
  have hX3:=hidA (heap_newL (w1.alloc (.cells #[.int .i64 p.kind,.slice ai p.items.length ci,.slice ak p.kids.length ck,.slice ad p.kids.length cd,.string p.text,.slice av nv cv,.slice af nf cf,.int .i64 p.next,.int .u64 p.mt.txn,.int .i64 p.mt.main.page,.int .i64 p.mt.main.count,.int .i64 p.mt.main.flags,.int .i64 p.mt.free,.int .i64 p.mt.last] 59)) (.cells #[.slice ad p.kids.length cd] 32))
  have hs3:Hid (((w1.alloc (.cells #[.int .i64 p.kind,.slice ai p.items.length ci,.slice ak p.kids.length ck,.slice ad p.kids.length cd,.string p.text,.slice av nv cv,.slice af nf cf,.int .i64 p.next,.int .u64 p.mt.txn,.int .i64 p.mt.main.page,.int .i64 p.mt.main.count,.int .i64 p.mt.main.flags,.int .i64 p.mt.free,.int .i64 p.mt.last] 59)).alloc (.cells #[.slice ad p.kids.length cd] 32)).heap.size = w1.heap.size + 2):=hidA (by simp)
  rw [World.size_alloc] at hX3
  obtain ⟨w3,hw3⟩:=hx1
  rw [hw3] at hb3 hD3 hP3 hX3 hs3 ⊢
  clear hw3 hD2 hPg cP
  have l4:=hidA (F.lt_of_heap hD.out.a4)
  have l9:=hidA (F.lt_of_heap hD.out.a9)
  have HH:Hid (∀ V,Ks (SpN B b9 w3.heap.size) w3 V → Hangs V p (.slice ai p.items.length ci) (.slice ak p.kids.length ck) (.slice ad p.kids.length cd) (.slice av nv cv) (.slice af nf cf)):=hidA (fun V hV => HG.out V ⟨by have:=hb3.out.size; have:=hV.size; omega,fun k hk1 hk2 => by
    refine (hV.block k (Nat.lt_of_lt_of_le hk2 hb3.out.size) (fun hs => ?_)).trans (hb3.out.block k hk2)
    have h4:=l4.out
    have h9:=l9.out
    have h3:=hs3.out
    rcases hs with hs | hs | hs <;> omega⟩)
  obtain ⟨kf,hkf⟩:∃ kf:Nat → Int,Hid (∀ k,kf k = p.kids.getD k 0):=⟨_,hidA fun _ => rfl⟩
  obtain ⟨yf,hyf⟩:∃ yf:Nat → ByteArray,Hid (∀ k,yf k = p.keys.getD k ⟨#[]⟩):=⟨_,hidA fun _ => rfl⟩
  have Hkid:Hid (∀ k,k < p.kids.length → ∃ a,(∀ V,(Instr.indexAt 32 (.slice ad p.kids.length cd) (.int .i64 (k:Int))).run Tryz.prog V = .ok (.pointer (some a)) V) ∧ ∀ V,Ks (SpN B b9 w3.heap.size) w3 V → V.cell? a = some (.int .i64 (kf k))):=hidA (fun k hk => by
    rw [hkf.out]
    exact ints_get (Ks.refl (SpN B b9 w3.heap.size) w3) (fun V hV => (HH.out V hV).kids) hk)
  have Hkey:Hid (∀ k,k < p.kids.length → ∃ a,(∀ V,(Instr.indexAt 31 (.slice ak p.kids.length ck) (.int .i64 (k:Int))).run Tryz.prog V = .ok (.pointer (some a)) V) ∧ ∀ V,Ks (SpN B b9 w3.heap.size) w3 V → V.cell? a = some (.string (yf k))):=hidA (fun k hk => by
    rw [hyf.out]
    have:=strs_get (ao:=ak) (cap:=ck) (Ks.refl (SpN B b9 w3.heap.size) w3) (fun V hV => by
      have:=(HH.out V hV).keys
      rw [← hlk'.out] at this
      exact this) (by rw [hlk'.out]; exact hk:k < p.keys.length)
    rw [hlk'.out] at this
    exact this)
  refine range_back (w1.heap.size + 1) p.kids.length (by omega) ad cd kf (SpN B b9 w3.heap.size) (fun k hk => .inr (.inr hk)) rfl ?_ Hkid.out
    (fun pre V => Rn w3 V B b9 (num i) dep (qOf kf dep q pre) ∧ ∀ x ∈ pre,leB (yf x.1) key = false)
    (fun c pre V => c = .exit 1 ∧ ∃ pr x,pre = pr ++ [x] ∧ Rn w3 V B b9 (kf x.1) (dep + 1) (qOf kf dep q pr) ∧ (∀ y ∈ pr,leB (yf y.1) key = false) ∧ leB (yf x.1) key = true) ?_ ?_ ?_ ?assign ?body ?done ?stop
  · intro V hV
    have h4:=l4.out
    have h9:=l9.out
    have h3:=hs3.out
    have:=hs1.out
    exact cell_rowL ((hV.block _ (by omega) (fun hs => by rcases hs with hs | hs | hs <;> omega)).trans hX3.out) 0
  · intro pre A A' row hI hg hr
    exact ⟨hI.1.own (by have:=l4.out; have:=hs3.out; have:=hs1.out; omega) (by have:=l9.out; have:=hs3.out; have:=hs1.out; omega) hg hr,hI.2⟩
  · rintro c pre A A' row ⟨rfl,pr,x,rfl,hI,h2⟩ hg hr
    exact ⟨rfl,pr,x,rfl,hI.own (by have:=l4.out; have:=hs3.out; have:=hs1.out; omega) (by have:=l9.out; have:=hs3.out; have:=hs1.out; omega) hg hr,h2⟩
  · exact ⟨⟨hD3.out.a4,hD3.out.a9,.refl _ _,rfl,rfl,rfl⟩,by simp⟩
  case assign =>
    intro l x V K' hK'
    simp only [List.setIfInBounds_toArray,List.set_cons_zero,List.set_cons_succ] at hK'
    gi_wp2
    exact hK'
  case body =>
    rintro l pre x V ⟨hRn,hpre⟩
    simp only [List.setIfInBounds_toArray,List.set_cons_zero,List.set_cons_succ]
    have hlx:=x.2
    have h4s:=l4.out
    have h9s:=l9.out
    have h3s:=hs3.out
    have h1s:=hs1.out
    have hVs:=hRn.ks.size
    have hb9:=hBH.out
    have bV:=hidA ((Below.refl V.heap.size V).alloc (Nat.le_refl _) (.cells #[.int .i64 (kf x.1),.int .i64 ((dep:Int) + 1)] 121))
    have kV:Hid (Ks (SpN B b9 w3.heap.size) w3 (V.alloc (.cells #[.int .i64 (kf x.1),.int .i64 ((dep:Int) + 1)] 121))):=hidA (hRn.ks.trans (.below bV.out))
    have c4:=cell_rowL hRn.a4
    have c9:=cell_rowL ((bV.out.block _ (F.lt_of_heap hRn.a9)).trans hRn.a9)
    have c4':=cell_rowL ((bV.out.block _ (F.lt_of_heap hRn.a4)).trans hRn.a4)
    have cK:=cell_rowL (heap_newL V (.cells #[.int .i64 (kf x.1),.int .i64 ((dep:Int) + 1)] 121))
    have h5s:=F.lt_of_heap hD.out.a5
    have c5:=cell_rowL ((kV.out.block b5 (by omega) (fun hs => by rcases hs with hs | hs | hs <;> omega)).trans hD3.out.a5)
    have cP:=cell_rowL ((kV.out.block w1.heap.size (by omega) (fun hs => by rcases hs with hs | hs | hs <;> omega)).trans hP3.out)
    obtain ⟨ka,hix,hkc⟩:=Hkey.out x.1 hlx
    have hkc:=hkc _ kV.out
    have hdd:wrap64 ((dep:Int) + 1) = (dep:Int) + 1:=by have:=hdep; unfold wrap64; omega
    have hqx:Hid (qOf kf dep q (pre ++ [x]) = (kf x.1,dep + 1)):=hidA (by simp [qOf])
    obtain ⟨xv,hxv⟩:∃ xv,x.1 = xv:=⟨_,rfl⟩
    rw [hxv] at hix hkc hqx cK bV kV c9 c4' c5 cP ⊢
    gi_wp2
    have hC5:=hidA (fun (Z:World) (hZ:Below (V.alloc (.cells #[.int .i64 (kf xv),.int .i64 ((dep:Int) + 1)] 121)).heap.size (V.alloc (.cells #[.int .i64 (kf xv),.int .i64 ((dep:Int) + 1)] 121)) Z) => (hZ.cell (p:=⟨b5,0,none⟩) (World.block_lt_of_cell? _ _ (c5 0))).trans (c5 0))
    have hC2:=hidA (fun (Z:World) (hZ:Below (V.alloc (.cells #[.int .i64 (kf xv),.int .i64 ((dep:Int) + 1)] 121)).heap.size (V.alloc (.cells #[.int .i64 (kf xv),.int .i64 ((dep:Int) + 1)] 121)) Z) => (hZ.cell (p:=⟨w1.heap.size,2,none⟩) (World.block_lt_of_cell? _ _ (cP 2))).trans (cP 2))
    have hCk:=hidA (fun (Z:World) (hZ:Below (V.alloc (.cells #[.int .i64 (kf xv),.int .i64 ((dep:Int) + 1)] 121)).heap.size (V.alloc (.cells #[.int .i64 (kf xv),.int .i64 ((dep:Int) + 1)] 121)) Z) => (hZ.cell (p:=ka) (World.block_lt_of_cell? _ _ hkc)).trans hkc)
    refine dn10 l _ (V.alloc (.cells #[.int .i64 (kf xv),.int .i64 ((dep:Int) + 1)] 121)) b5 w1.heap.size p.kids.length xv ak ck ka (yf xv) key (by kernel_rfl) (fun ⟨_,_,h⟩ => h) rfl rfl rfl rfl hC5.out hC2.out hix hCk.out (fun w' hb' => ?_)
    simp only [List.foldl_cons,List.foldl_nil,Act.put,List.setIfInBounds_toArray,List.set_cons_zero,List.set_cons_succ]
    have hbV:=hidA (bV.out.trans (hb'.mono bV.out.size))
    have r4:=(hbV.out.block _ (F.lt_of_heap hRn.a4)).trans hRn.a4
    have r9:=(hbV.out.block _ (F.lt_of_heap hRn.a9)).trans hRn.a9
    have rK:=(hb'.block V.heap.size (by simp)).trans (heap_newL V (.cells #[.int .i64 (kf xv),.int .i64 ((dep:Int) + 1)] 121))
    clear c4 c9 c4' cK c5 cP hkc hC5 hC2 hCk
    have c4:=cell_rowL r4
    have c9:=cell_rowL r9
    have cK:=cell_rowL rK
    have f4:=frozen_rowL r4
    have f9:=frozen_rowL r9
    have hRn':=hidA hRn
    have hpre':=hidA hpre
    have hbe:=hidA hb'
    have ecast:(((dep + 1:Nat):Int)) = (dep:Int) + 1:=by omega
    have RB:Hid (Rn w3 ((w'.setCell ⟨b9,0,none⟩ (.int .i64 (kf xv))).setCell ⟨b9,1,none⟩ (.int .i64 ((dep:Int) + 1))) B b9 (num i) dep (kf xv,dep + 1)):=hidA (by
      have:=hRn'.out.beside (kid:=kf xv) (d:=dep + 1) hbV.out hb9.2.2.2.2.2.2.2
      rw [ecast] at this
      exact this)
    have RS:Hid (Rn w3 ((w'.setCell ⟨B,0,none⟩ (.int .i64 (kf xv))).setCell ⟨B,1,none⟩ (.int .i64 ((dep:Int) + 1))) B b9 (kf xv) (dep + 1) (qOf kf dep q pre)):=hidA (by
      have:=hRn'.out.step (kid:=kf xv) (d:=dep + 1) hbV.out hb9.2.2.2.2.2.2.2
      rw [ecast] at this
      exact this)
    have hKO:=hidA (keeps_below hbV.out)
    have hKs:=hidA (Ks.below (S:=SpN B b9 w3.heap.size) hbV.out)
    clear hRn hpre hb' r4 r9 rK ecast
    cases hlt:leB (yf xv) key with
    | false =>
      gi_wp2
      refine ⟨(hKO.out.trans (KeepsOthers.setCell _ _ _)).trans (KeepsOthers.setCell _ _ _),(hKs.out.setCell _ (.inl (.inr (.inl rfl)))).setCell _ (.inl (.inr (.inl rfl))),by rw [hqx.out]; exact RB.out,fun y hy => ?_⟩
      rcases List.mem_append.1 hy with hy | hy
      · exact hpre'.out y hy
      · rw [List.mem_singleton.1 hy,hxv]
        exact hlt
    | true =>
      gi_wp2
      refine ⟨(hKO.out.trans (KeepsOthers.setCell _ _ _)).trans (KeepsOthers.setCell _ _ _),rfl,pre,x,rfl,by rw [hxv]; exact RS.out,hpre'.out,by rw [hxv]; exact hlt⟩
  case done =>
    rintro D V hDD ⟨hRn,hall⟩ hmark
    cases g with
    | succ d =>
      obtain ⟨ids,seps,h1,h2,h3,h4,h5,_⟩:=way_node hmm.out hWy.out
      rw [hpiH.out] at h1
      cases h1
      have h0:0 < (branchN ids seps).kids.length:=by simp [branchN,branchP]; omega
      have hf:=hall ⟨0,h0⟩ (by simp [revF])
      simp only at hf
      rw [hyf.out,branch_keys hky.out h5 0 (by omega)] at hf
      cases hf
    | zero =>
      obtain ⟨h1,h2,h3,h4,h5,La,Lb,e1,e2,e3,e4⟩:=way_leaf hWy.out
      rw [hpiH.out] at h1
      cases h1
      have hq0:qOf kf dep q (revF (leafN L').kids.length) = q:=by
        have:revF (leafN L').kids.length = []:=List.eq_nil_of_length_eq_zero (by simp [revF,leafN,leafP,noPage])
        rw [this]
        rfl
      rw [hq0] at hRn
      have hb9:=hBH.out
      have hDn:=hidA (hD3.out.next hRn ⟨hb9.2.2.2.1,hb9.2.2.2.2.1⟩ ⟨hb9.2.2.2.2.2.1,hb9.2.2.2.2.2.2.1⟩ ⟨by omega,by omega⟩ hDD hmark)
      have hRs:=hidA hRn
      have cP:=cell_rowL ((hRn.ks.block w1.heap.size (by have:=hs3.out; omega) (fun hs => by
        have:=l4.out; have:=l9.out; have:=hs3.out; have:=hs1.out
        rcases hs with hs | hs | hs <;> omega)).trans hP3.out)
      have c9:=cell_rowL hRn.a9
      have c7:=cell_rowL hDn.out.a7
      have f7:=frozen_rowL hDn.out.a7
      have hWW2:=hidA e1
      clear hall hmark hRn Hkid Hkey HH
      go_wp2
      go_region
      go_wp2
      rw [Exit.noGoto_ret]
      have hl7:=F.lt_of_heap hD.out.a7
      have hs4:=l4.out
      have hs9:=l9.out
      have hss3:=hs3.out
      have hss1:=hs1.out
      have hz7:(((V.setCell ⟨b7,0,none⟩ (.int .i64 q.1)).setCell ⟨b7,1,none⟩ (.int .i64 (q.2:Int))).drew).heap[b7]? = some (.cells #[.int .i64 q.1,.int .i64 (q.2:Int)] 121 (0,0)):=heap_setCell_same _ b7 1 _ _ _ (heap_setCell_same V b7 0 _ _ _ hDn.out.a7)
      have hzo:∀ k,k ≠ b7 → (((V.setCell ⟨b7,0,none⟩ (.int .i64 q.1)).setCell ⟨b7,1,none⟩ (.int .i64 (q.2:Int))).drew).heap[k]? = V.heap[k]?:=fun k hk => (Below.heap_setCell _ _ _ _ (show k ≠ b7 from hk)).trans (Below.heap_setCell _ _ _ _ (show k ≠ b7 from hk))
      have hmk:∀ y ∈ ({ target:=.collected D,args:=#[] } :: ds:List Deferred),∃ D',y = { target:=.collected D',args:=#[] } ∧ W.heap.size ≤ D' ∧ (((V.setCell ⟨b7,0,none⟩ (.int .i64 q.1)).setCell ⟨b7,1,none⟩ (.int .i64 (q.2:Int))).drew).heap[D']? = some (.deferred (some [])):=fun y hy => by
        obtain ⟨D',m1,m2,m3⟩:=hDn.out.marks y hy
        exact ⟨D',m1,m2,(hzo D' (fun e => by rw [e,hDn.out.a7] at m3; cases m3)).trans m3⟩
      refine leaves_marks (B:=W.heap.size) _ _ hmk hDn.out.nd (fun w' hk hb => ?_)
      have hk7:w'.heap[b7]? = some (.cells #[.int .i64 q.1,.int .i64 (q.2:Int)] 121 (0,0)):=(hk.block b7 (F.lt_of_heap hz7) (fun hm => by
        obtain ⟨D',m1,_,m3⟩:=hmk _ hm
        have:b7 = D':=by simpa using m1
        rw [← this,hz7] at m3
        cases m3)).trans hz7
      have cR:=cell_rowL hk7
      have hAg:Agree wr.heap.size w1 w':=by
        have hsz:=hk.size
        have hVs:=hRs.out.ks.size
        refine ⟨by simp at hsz; omega,fun k hk1 hk2 => ?_⟩
        have s1:w3.heap[k]? = w1.heap[k]?:=hb3.out.block k hk2
        have s2:V.heap[k]? = w3.heap[k]?:=hRs.out.ks.block k (by omega) (fun hs => by rcases hs with hs | hs | hs <;> omega)
        have s3:=hzo k (show k ≠ b7 by omega)
        refine (hk.block k (by simp; omega) (fun hm => ?_)).trans (s3.trans (s2.trans s1))
        rcases List.mem_cons.1 hm with hm | hm
        · have:k = D:=by simpa using hm
          omega
        · obtain ⟨D',m1,_,m3⟩:=hD.out.marks _ hm
          have:k = D':=by simpa using m1
          have:=F.lt_of_heap m3
          omega
      refine ⟨.tuple #[.slice ai (leafN L').items.length ci,.agg #[.int .i64 q.1,.int .i64 (q.2:Int)],.nilIface],by simp [results,Tryz.results60,go_sem,cR],L',La,Lb,q,_,rfl,fun V hV => (HG.out V ⟨Nat.le_trans hAg.1 hV.1,fun k h1 h2 => (hV.2 k (Nat.le_trans hD.out.bel.size h1) (Nat.lt_of_lt_of_le h2 hAg.1)).trans (hAg.2 k h1 h2)⟩).items,hWW2.out,h2,h3,h4,e2,e3,e4,?_⟩
      refine Below.trans ?_ hb
      refine ⟨hDn.out.bel.os,hDn.out.bel.tape,hDn.out.bel.output,by simpa using hDn.out.bel.size,fun k hk1 => (hzo k (by omega)).trans (hDn.out.bel.block k hk1)⟩
  case stop =>
    rintro D c pre V hD hp ⟨rfl,pr,x,rfl,hRn,hpr,hlx⟩ hmark
    cases g with
    | zero =>
      obtain ⟨h1,_⟩:=way_leaf hWy.out
      rw [hpiH.out] at h1
      cases h1
      exact absurd x.2 (by simp [leafN,leafP,noPage])
    | succ d =>
      obtain ⟨ids,seps,h1,h2,h3,h4,h5,hnext⟩:=way_node hmm.out hWy.out
      rw [hpiH.out] at h1
      cases h1
      have hml:(branchN ids seps).kids.length = ids.length:=by simp [branchN,branchP]
      have hxl:x.1 < ids.length:=by have:=x.2; omega
      obtain ⟨r1,r2⟩:=rev_prefix hp
      rw [hyf.out,branch_keys hky.out h5 _ (by omega)] at hlx
      have hno:x.1 + 1 < ids.length → leK le seps (x.1 + 1) = false:=fun hlt => by
        have hm1:=List.mem_of_getLast? (r1 (by omega))
        have:=hpr _ hm1
        simp only at this
        rwa [hyf.out,branch_keys hky.out h5 _ (by omega)] at this
      obtain ⟨L'',hway⟩:=hnext x.1 hxl hlx hno
      have hqq:qOf kf dep q pr = if x.1 + 1 < ids.length then (num (ids.getD (x.1 + 1) 0),dep + 1) else q:=by
        by_cases hlt:x.1 + 1 < ids.length
        · rw [if_pos hlt]
          unfold qOf
          rw [r1 (by omega)]
          simp only
          rw [hkf.out,branch_kid hlt]
        · rw [if_neg hlt,r2 (by omega)]
          rfl
      rw [hqq,hkf.out,branch_kid hxl] at hRn
      have hb9:=hBH.out
      have hDn:=hD3.out.next hRn ⟨hb9.2.2.2.1,hb9.2.2.2.2.1⟩ ⟨hb9.2.2.2.2.2.1,hb9.2.2.2.2.2.2.1⟩ ⟨by omega,by omega⟩ hD hmark
      have hway:=hidA hway
      have hDn:=hidA hDn
      clear hnext Hkid Hkey HH hRn hpr
      go_wp2
      exact Handed.intro d (by omega) (hJ _ _ _ ⟨ids.getD x.1 0,dep + 1,L'',_,_,_,_,_,_,_,_,_,_,_,_,_,_,_,_,_,_,_,_,_,_,_,_,_,_,_,_,_,_,_,_,_,_,_,_,_,_,_,_,_,_,_,hway,hDn,rfl⟩)
end Go.Proofs.YtdihdchfigemnaaGreat

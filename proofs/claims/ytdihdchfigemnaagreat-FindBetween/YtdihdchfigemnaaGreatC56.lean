import Derived.Test.YtdihdchfigemnaaGreatC54
import Derived.Test.YtdihdchfigemnaaGreatC51
import Derived.Test.YtdihdchfigemnaaGreatC27
namespace Go.Proofs.YtdihdchfigemnaaGreat
open Go.RowKit
structure KeyIs (key:ByteArray) (le:Nat → Bool):Prop where
  is:∀ m,m < 256 → leB (key2 m) key = le m
  mono:∀ a b,a ≤ b → b < 256 → le b = true → le a = true
theorem key_num {k:Nat} (hk:k < 256):KeyIs (key2 k) (fun m => decide (m ≤ k)):=⟨fun m hm => leB_key2 hm hk,fun a b h _ hl => by
  have:=of_decide_eq_true hl
  exact decide_eq_true (by omega)⟩
theorem empty_list:(⟨#[]⟩:ByteArray).toList = []:=by rw [ByteArray.toList_eq]
theorem key_none:KeyIs ⟨#[]⟩ (fun _ => false):=⟨fun m _ => by
  unfold leB
  rw [key2_list,empty_list]
  simp [Op.bytesLess],fun _ _ _ _ h => h⟩
theorem way_root {ps:List PageD} {root:Int} {L:List Nat} (le:Nat → Bool) (h:RootAt ps root L) (hl:L.length ≤ 120):∃ t,t ≤ 8 ∧ ((root = 0 ∧ L = []) ∨ ∃ i0 d0,root = num i0 ∧ Way ps L le t i0 d0 1 L (0,0)):=by
  rcases h with ⟨h,_,h3⟩ | ⟨d,id,I,h,hT,_⟩
  · exact ⟨0,by omega,.inl ⟨h,h3⟩⟩
  · exact ⟨1 + d,by have:=tree_depth hT hl; omega,.inr ⟨id,d,h,way_start hT (Nat.le_refl _)⟩⟩
set_option maxRecDepth 10000 in
set_option maxHeartbeats 2000000 in
theorem above_way {X:World} {sb:Nat} {ps:List PageD} {root:Int} {L:List Nat} (hR:Rd X sb ps) (hRt:RootAt ps root L) (hl:L.length ≤ 120) (key:ByteArray) {le:Nat → Bool} (hk:KeyIs key le) (k:Nat) (hpr:∀ y,y < 256 → (!Op.bytesLess (key2 y).toList key.toList) = decide (k ≤ y)) (h1:∀ y,y < 256 → le y = false → k ≤ y) (h2:∀ y m,y < m → m < 256 → le m = true → y < k) (W:World) (hW:Below X.heap.size X W) :
    Calls Tryz.prog 20 #[.pointer (some ⟨sb,0,none⟩),.int .i64 root,.string key] W fun e W' => Fnd (geN L k) e ∧ Below W.heap.size W W':=by
  obtain ⟨hri,h256,_⟩:=hRt.fits
  have hps:∀ i (h:i < ps.length),NumP ps[i]:=fun i h => hRt.page hl h
  obtain ⟨t,ht,hS⟩:=way_root le hRt hl
  obtain ⟨B,hB⟩:∃ B,W.heap.size = B:=⟨_,rfl⟩
  have hbk:=hidA ((Below.refl W.heap.size W).alloc (Nat.le_refl _) (.cells #[.string key] 9))
  have hb0:=hidA (hbk.out.alloc (by simp) (.cells #[.string ⟨#[]⟩,.int .i64 0,.string ⟨#[]⟩,.int .i64 0,.int .i64 0,.slice none 0 0,.int .i64 0,.int .i64 0,.int .i64 0,.int .i64 0] 45))
  have hK0:=hidA ((Below.heap_alloc _ (.cells #[.string ⟨#[]⟩,.int .i64 0,.string ⟨#[]⟩,.int .i64 0,.int .i64 0,.slice none 0 0,.int .i64 0,.int .i64 0,.int .i64 0,.int .i64 0] 45) _ (by simp)).trans (heap_newL W (.cells #[.string key] 9)))
  have hZ0:=hidA (heap_newL (W.alloc (.cells #[.string key] 9)) (.cells #[.string ⟨#[]⟩,.int .i64 0,.string ⟨#[]⟩,.int .i64 0,.int .i64 0,.slice none 0 0,.int .i64 0,.int .i64 0,.int .i64 0,.int .i64 0] 45))
  rw [World.size_alloc] at hZ0
  rw [hB] at hZ0 hK0
  have CF:=hidA (first_way (t:=t) (L:=L) (le:=le) (fr:=fun y => decide (k ≤ y)) hR hps key hk.is hk.mono hS ht h256 (fun y hy hle => decide_eq_true (h1 y (h256 y hy) hle)) (fun y _ m hym hm hle => decide_eq_false (by have:=h2 y m hym hm hle; omega)) 56 B (fun x => !Op.bytesLess x.key.toList key.toList) (fun y hy => hpr y hy) (fun _ _ => by go_simp)
    ((W.alloc (.cells #[.string key] 9)).alloc (.cells #[.string ⟨#[]⟩,.int .i64 0,.string ⟨#[]⟩,.int .i64 0,.int .i64 0,.slice none 0 0,.int .i64 0,.int .i64 0,.int .i64 0,.int .i64 0] 45)) (hW.trans (hb0.out.mono hW.size)) (fun x ya yn yc V hV => above1_any x ya yn yc key B V ((hV.cell (p:=⟨B,0,none⟩) (F.lt_of_heap hK0.out)).trans (cell_rowL hK0.out 0))))
  have cK:=cell_rowL hK0.out
  clear hR hRt hk hpr h1 h2 hW hri h256 hps hS ht hl
  go_enter Tryz.func20,Tryz.ntmps20
  go_wp2_with fail
  refine CF.out.mono ?_
  rintro e w1 ⟨he0,hb1⟩
  have he:Fnd (geN L k) e:=he0
  clear he0
  obtain ⟨ya,yn,yc,rfl⟩:=id he
  generalize hxx:foundI (geN L k) = x at *
  generalize hee:foundE (geN L k) = er at *
  rw [show (itemCells x (.slice ya yn yc)).toArray = #[.string x.key,.int .i64 x.kind,.string x.val,.int .i64 x.run,.int .i64 x.len,.slice ya yn yc,.int .i64 x.dup,.int .i64 x.root.page,.int .i64 x.root.count,.int .i64 x.root.flags] from rfl]
  have hZ1:=(hb1.block _ (F.lt_of_heap hZ0.out)).trans hZ0.out
  have cR:=cell_rowL hZ1
  have fR:=frozen_rowL hZ1
  have hBl:=hidA (show W.heap.size ≤ B + 1 by omega)
  have hbz:=hidA (hb0.out.trans (hb1.mono hb0.out.size))
  clear CF he hb1 cK hZ1 hZ0 hK0 hbk hb0
  go_wp2
  refine bodyPost_ret (v:=.tuple #[.agg #[.string x.key,.int .i64 x.kind,.string x.val,.int .i64 x.run,.int .i64 x.len,.slice ya yn yc,.int .i64 x.dup,.int .i64 x.root.page,.int .i64 x.root.count,.int .i64 x.root.flags],er]) (by simp [results,Tryz.results20,go_sem,cR]) rfl ⟨by subst hxx hee; exact ⟨ya,yn,yc,rfl⟩,?_⟩
  repeat (refine Below.setCell ?_ (by simpa using hBl.out) _)
  exact hbz.out
set_option maxRecDepth 10000 in
set_option maxHeartbeats 2000000 in
theorem behind_way {X:World} {sb:Nat} {ps:List PageD} {root:Int} {L:List Nat} (hR:Rd X sb ps) (hRt:RootAt ps root L) (hl:L.length ≤ 120) (key:ByteArray) {le:Nat → Bool} (hk:KeyIs key le) (k:Nat) (hpr:∀ y,y < 256 → (!Op.bytesLess (key2 y).toList key.toList && !((key2 y).toList == key.toList)) = decide (k ≤ y)) (h1:∀ y,y < 256 → le y = false → k ≤ y) (h2:∀ y m,y < m → m < 256 → le m = true → y < k) (W:World) (hW:Below X.heap.size X W) :
    Calls Tryz.prog 21 #[.pointer (some ⟨sb,0,none⟩),.int .i64 root,.string key] W fun e W' => Fnd (geN L k) e ∧ Below W.heap.size W W':=by
  obtain ⟨hri,h256,_⟩:=hRt.fits
  have hps:∀ i (h:i < ps.length),NumP ps[i]:=fun i h => hRt.page hl h
  obtain ⟨t,ht,hS⟩:=way_root le hRt hl
  obtain ⟨B,hB⟩:∃ B,W.heap.size = B:=⟨_,rfl⟩
  have hbk:=hidA ((Below.refl W.heap.size W).alloc (Nat.le_refl _) (.cells #[.string key] 9))
  have hb0:=hidA (hbk.out.alloc (by simp) (.cells #[.string ⟨#[]⟩,.int .i64 0,.string ⟨#[]⟩,.int .i64 0,.int .i64 0,.slice none 0 0,.int .i64 0,.int .i64 0,.int .i64 0,.int .i64 0] 45))
  have hK0:=hidA ((Below.heap_alloc _ (.cells #[.string ⟨#[]⟩,.int .i64 0,.string ⟨#[]⟩,.int .i64 0,.int .i64 0,.slice none 0 0,.int .i64 0,.int .i64 0,.int .i64 0,.int .i64 0] 45) _ (by simp)).trans (heap_newL W (.cells #[.string key] 9)))
  have hZ0:=hidA (heap_newL (W.alloc (.cells #[.string key] 9)) (.cells #[.string ⟨#[]⟩,.int .i64 0,.string ⟨#[]⟩,.int .i64 0,.int .i64 0,.slice none 0 0,.int .i64 0,.int .i64 0,.int .i64 0,.int .i64 0] 45))
  rw [World.size_alloc] at hZ0
  rw [hB] at hZ0 hK0
  have CF:=hidA (first_way (t:=t) (L:=L) (le:=le) (fr:=fun y => decide (k ≤ y)) hR hps key hk.is hk.mono hS ht h256 (fun y hy hle => decide_eq_true (h1 y (h256 y hy) hle)) (fun y _ m hym hm hle => decide_eq_false (by have:=h2 y m hym hm hle; omega)) 57 B (fun x => !Op.bytesLess x.key.toList key.toList && !(x.key.toList == key.toList)) (fun y hy => hpr y hy) (fun _ _ => by go_simp)
    ((W.alloc (.cells #[.string key] 9)).alloc (.cells #[.string ⟨#[]⟩,.int .i64 0,.string ⟨#[]⟩,.int .i64 0,.int .i64 0,.slice none 0 0,.int .i64 0,.int .i64 0,.int .i64 0,.int .i64 0] 45)) (hW.trans (hb0.out.mono hW.size)) (fun x ya yn yc V hV => behind1_any x ya yn yc key B V ((hV.cell (p:=⟨B,0,none⟩) (F.lt_of_heap hK0.out)).trans (cell_rowL hK0.out 0))))
  have cK:=cell_rowL hK0.out
  clear hR hRt hk hpr h1 h2 hW hri h256 hps hS ht hl
  go_enter Tryz.func21,Tryz.ntmps21
  go_wp2_with fail
  refine CF.out.mono ?_
  rintro e w1 ⟨he0,hb1⟩
  have he:Fnd (geN L k) e:=he0
  clear he0
  obtain ⟨ya,yn,yc,rfl⟩:=id he
  generalize hxx:foundI (geN L k) = x at *
  generalize hee:foundE (geN L k) = er at *
  rw [show (itemCells x (.slice ya yn yc)).toArray = #[.string x.key,.int .i64 x.kind,.string x.val,.int .i64 x.run,.int .i64 x.len,.slice ya yn yc,.int .i64 x.dup,.int .i64 x.root.page,.int .i64 x.root.count,.int .i64 x.root.flags] from rfl]
  have hZ1:=(hb1.block _ (F.lt_of_heap hZ0.out)).trans hZ0.out
  have cR:=cell_rowL hZ1
  have fR:=frozen_rowL hZ1
  have hBl:=hidA (show W.heap.size ≤ B + 1 by omega)
  have hbz:=hidA (hb0.out.trans (hb1.mono hb0.out.size))
  clear CF he hb1 cK hZ1 hZ0 hK0 hbk hb0
  go_wp2
  refine bodyPost_ret (v:=.tuple #[.agg #[.string x.key,.int .i64 x.kind,.string x.val,.int .i64 x.run,.int .i64 x.len,.slice ya yn yc,.int .i64 x.dup,.int .i64 x.root.page,.int .i64 x.root.count,.int .i64 x.root.flags],er]) (by simp [results,Tryz.results21,go_sem,cR]) rfl ⟨by subst hxx hee; exact ⟨ya,yn,yc,rfl⟩,?_⟩
  repeat (refine Below.setCell ?_ (by simpa using hBl.out) _)
  exact hbz.out
theorem beq_key2 {a b:Nat} (ha:a < 256) (hb:b < 256):((key2 a).toList == (key2 b).toList) = decide (a = b):=by
  rw [Bool.eq_iff_iff]
  simp only [beq_iff_eq,decide_eq_true_eq]
  rw [key2_list,key2_list]
  simp only [List.cons.injEq,and_true]
  rw [u8_eq (by omega) (by omega),u8_eq (by omega) (by omega)]
  omega
theorem above_num {X:World} {sb:Nat} {ps:List PageD} {root:Int} {L:List Nat} (hR:Rd X sb ps) (hRt:RootAt ps root L) (hl:L.length ≤ 120) (k:Nat) (hk:k < 256) (W:World) (hW:Below X.heap.size X W) :
    Calls Tryz.prog 20 #[.pointer (some ⟨sb,0,none⟩),.int .i64 root,.string (key2 k)] W fun e W' => Fnd (geN L k) e ∧ Below W.heap.size W W':=
  above_way hR hRt hl (key2 k) (key_num hk) k (fun y hy => by
    have:=ltB_key2 hy hk
    unfold ltB at this
    rw [this]
    by_cases h:y < k
    · have h2:¬ k ≤ y:=by omega
      simp [h,h2]
    · have h2:k ≤ y:=by omega
      simp [h,h2]) (fun y _ h => by have:=of_decide_eq_false h; omega) (fun y m h1 _ h => by have:=of_decide_eq_true h; omega) W hW
theorem above_first {X:World} {sb:Nat} {ps:List PageD} {root:Int} {L:List Nat} (hR:Rd X sb ps) (hRt:RootAt ps root L) (hl:L.length ≤ 120) (W:World) (hW:Below X.heap.size X W) :
    Calls Tryz.prog 20 #[.pointer (some ⟨sb,0,none⟩),.int .i64 root,.string ⟨#[]⟩] W fun e W' => Fnd (geN L 0) e ∧ Below W.heap.size W W':=
  above_way hR hRt hl ⟨#[]⟩ key_none 0 (fun y _ => by rw [empty_list,key2_list]; simp [Op.bytesLess]) (fun _ _ _ => Nat.zero_le _) (fun _ _ _ _ h => by cases h) W hW
theorem behind_num {X:World} {sb:Nat} {ps:List PageD} {root:Int} {L:List Nat} (hR:Rd X sb ps) (hRt:RootAt ps root L) (hl:L.length ≤ 120) (k:Nat) (hk:k < 256) (W:World) (hW:Below X.heap.size X W) :
    Calls Tryz.prog 21 #[.pointer (some ⟨sb,0,none⟩),.int .i64 root,.string (key2 k)] W fun e W' => Fnd (geN L (k + 1)) e ∧ Below W.heap.size W W':=
  behind_way hR hRt hl (key2 k) (key_num hk) (k + 1) (fun y hy => by
    have:=ltB_key2 hy hk
    unfold ltB at this
    rw [this,beq_key2 hy hk]
    by_cases h:y < k
    · have h2:¬ k + 1 ≤ y:=by omega
      simp [h,h2]
    · by_cases h3:y = k
      · subst h3
        simp
      · have h2:k + 1 ≤ y:=by omega
        simp [h,h2,h3]) (fun y _ h => by have:=of_decide_eq_false h; omega) (fun y m h1 _ h => by have:=of_decide_eq_true h; omega) W hW
end Go.Proofs.YtdihdchfigemnaaGreat
namespace Go.Proofs.YtdihdchfigemnaaGreat
open Go.RowKit
structure SpR (n:Nat) (w w':World):Prop where
  os:w'.os = w.os
  tape:w'.tape = w.tape
  output:w'.output = w.output
  size:w.heap.size ≤ w'.heap.size
  block:∀ k,k < w.heap.size → w'.heap[k]? = w.heap[k]? ∨ (n ≤ k ∧ ∃ x y x' y',w.heap[k]? = some (.cells #[.int .i64 x,.int .i64 y] 121 (0,0)) ∧ w'.heap[k]? = some (.cells #[.int .i64 x',.int .i64 y'] 121 (0,0)))
theorem SpR.below {n:Nat} {w w':World} (h:Below w.heap.size w w'):SpR n w w':=⟨h.os,h.tape,h.output,h.size,fun k hk => .inl (h.block k hk)⟩
theorem SpR.refl (n:Nat) (w:World):SpR n w w:=.below (Below.refl _ _)
theorem SpR.base {w0 w w':World} (hR:SpR w0.heap.size w w') (hB:Below w0.heap.size w0 w):Below w0.heap.size w0 w':=
  ⟨hR.os.trans hB.os,hR.tape.trans hB.tape,hR.output.trans hB.output,Nat.le_trans hB.size hR.size,fun k hk => by
    rcases hR.block k (Nat.lt_of_lt_of_le hk hB.size) with h | ⟨h,_⟩
    · exact h.trans (hB.block k hk)
    · omega⟩
theorem SpR.spot {n:Nat} {w w':World} (hR:SpR n w w') {nb:Nat} {x y:Int} (hc:w.heap[nb]? = some (.cells #[.int .i64 x,.int .i64 y] 121 (0,0))):∃ x' y',w'.heap[nb]? = some (.cells #[.int .i64 x',.int .i64 y'] 121 (0,0)):=by
  rcases hR.block nb (F.lt_of_heap hc) with h | ⟨_,_,_,x',y',_,h⟩
  · exact ⟨x,y,h.trans hc⟩
  · exact ⟨x',y',h⟩
theorem SpR.spots {n:Nat} {w:World} {nb:Nat} {x y x' y':Int} (hn:n ≤ nb) (hc:w.heap[nb]? = some (.cells #[.int .i64 x,.int .i64 y] 121 (0,0))):SpR n w ((w.setCell ⟨nb,0,none⟩ (.int .i64 x')).setCell ⟨nb,1,none⟩ (.int .i64 y')):=by
  refine ⟨rfl,rfl,rfl,by simp,fun k hk => ?_⟩
  by_cases e:k = nb
  · subst e
    exact .inr ⟨hn,x,y,x',y',hc,heap_setCell_same _ k 1 _ _ _ (heap_setCell_same w k 0 _ _ _ hc)⟩
  · exact .inl ((Below.heap_setCell _ _ _ _ (show k ≠ nb from e)).trans (Below.heap_setCell _ _ _ _ (show k ≠ nb from e)))
theorem SpR.items {n:Nat} {w w':World} (hR:SpR n w w') {u:Value} {l:List Nat} (h:ItemsAt w u (l.map it2)):ItemsAt w' u (l.map it2):=by
  obtain ⟨ao,cap,h1,h2,h3⟩:=h
  refine ⟨ao,cap,h1,h2,fun i hi => ?_⟩
  obtain ⟨b,o,v,ha,hlt,hr,hu,hk,hv⟩:=h3 i hi
  have hb:w'.heap[b]? = w.heap[b]?:=by
    rcases hR.block b hlt with e | ⟨_,x,y,_,_,e,_⟩
    · exact e
    · have h0:=hr 0 (.string ((l.map it2)[i]).key) rfl
      have h5:=cell_rowL e (o + i * 10 + 0)
      rw [h0] at h5
      rcases (by omega:o + i * 10 + 0 = 0 ∨ o + i * 10 + 0 = 1 ∨ 2 ≤ o + i * 10 + 0) with e2 | e2 | e2
      · rw [e2] at h5; simp at h5
      · rw [e2] at h5; simp at h5
      · rw [Array.getElem?_eq_none (by simpa using e2)] at h5
        cases h5
  have hvals:((l.map it2)[i]).vals = []:=by simp [it2,noItem]
  refine ⟨b,o,v,ha,Nat.lt_of_lt_of_le hlt hR.size,fun j x hj => ?_,?_,hk,hv⟩
  · have:=hr j x hj
    unfold World.cell? at this ⊢
    simp only at this ⊢
    rw [hb]
    exact this
  · rw [hvals] at hu ⊢
    obtain ⟨ao',cap',e1,e2,_⟩:=hu
    exact ⟨ao',cap',e1,e2,fun j hj => absurd hj (by simp)⟩
def pred_gt1:Nat → List Nat | 2 => [1] | 4 => [0,2,3] | 5 => [4] | 6 => [5] | 7 => [5] | 8 => [5] | 10 => [6] | 11 => [7,9] | 12 => [8] | _ => []
def slots_gt1:Nat → List Tmp | 0 => [13] | 1 => [14] | 2 => [15] | 3 => [16] | 4 => [17] | 5 => [12] | 6 => [18] | 7 => [19] | 8 => [20] | 9 => [9] | 10 => [8] | 11 => [] | 12 => [10] | _ => []
def dead_gt1:Nat → Nat → Bool | _,_ => false
def G_gt1 (w0:World) (sb:Nat) (root:Int) (key:ByteArray) (Fl:List Nat → Prop):Nat → (Operand → Value) → World → Prop
  | 0,ρ,_ => ρ (.tmp 13) = .pointer (some ⟨sb,0,none⟩)
  | 1,ρ,_ => ρ (.tmp 14) = .int .i64 root
  | 2,ρ,_ => ρ (.tmp 15) = .agg #[.int .i64 root,.int .i64 1]
  | 3,ρ,_ => ρ (.tmp 16) = .string key
  | 4,ρ,w => ∃ u s0 s1 l,ρ (.tmp 17) = .tuple #[u,.agg #[.int .i64 s0,.int .i64 s1],.nilIface] ∧ ItemsAt w u (l.map it2) ∧ Fl l
  | 5,ρ,w => ∃ u s0 s1 l,ρ (.tmp 12) = .tuple #[u,.agg #[.int .i64 s0,.int .i64 s1],.nilIface] ∧ ItemsAt w u (l.map it2) ∧ Fl l
  | 6,ρ,w => ∃ l,ItemsAt w (ρ (.tmp 18)) (l.map it2) ∧ Fl l
  | 7,ρ,_ => ∃ s0 s1,ρ (.tmp 19) = .agg #[.int .i64 s0,.int .i64 s1]
  | 8,ρ,_ => ρ (.tmp 20) = .nilIface
  | 9,ρ,w => ∃ nb x y,ρ (.tmp 9) = .pointer (some ⟨nb,0,none⟩) ∧ w0.heap.size ≤ nb ∧ w.heap[nb]? = some (.cells #[.int .i64 x,.int .i64 y] 121 (0,0))
  | 10,ρ,w => ∃ l,ItemsAt w (ρ (.tmp 8)) (l.map it2) ∧ Fl l
  | 11,_,_ => True
  | 12,ρ,_ => ρ (.tmp 10) = .nilIface
  | _,_,_ => True
set_option maxRecDepth 100000 in
theorem hk_gt1:hkB (opsOf Tryz.f23 1) [0,1,2,3,4,5,6,7,8,9,10,11,12] [] dead_gt1 pred_gt1 slots_gt1 = true:=by kernel_rfl
set_option maxRecDepth 10000 in
theorem gt1 (w0:World) (sb kb:Nat) (root:Int) (key:ByteArray) (Fl:List Nat → Prop) {ops:Array Oper} (hops:ops = opsOf Tryz.f23 1) {a0:Act} {Q:Exit → Act → World → Prop} (hsz:a0.tmps.size = 36) (h0:a0.eval (.tmp 0) = .pointer (some ⟨sb,0,none⟩)) (h1:a0.eval (.tmp 1) = .int .i64 root) (h5:a0.eval (.tmp 5) = .pointer (some ⟨kb,0,none⟩)) (hC5:∀ W,Below w0.heap.size w0 W → W.cell? ⟨kb,0,none⟩ = some (.string key))
    (hD:∀ W,Below w0.heap.size w0 W → Calls Tryz.prog 60 #[.pointer (some ⟨sb,0,none⟩),.agg #[.int .i64 root,.int .i64 1],.string key] W fun e W' => ∃ u s0 s1 l,e = .returned (.tuple #[u,.agg #[.int .i64 s0,.int .i64 s1],.nilIface]) ∧ ItemsAt W' u (l.map it2) ∧ Fl l ∧ Below W.heap.size W W')
    (hQ:∀ v17 v12 v18 v19 v9 u l w',Below w0.heap.size w0 w' → ItemsAt w' u (l.map it2) → Fl l → Q .normal ([(13,.pointer (some ⟨sb,0,none⟩)),(14,.int .i64 root),(15,.agg #[.int .i64 root,.int .i64 1]),(16,.string key),(17,v17),(12,v12),(18,v18),(19,v19),(20,.nilIface),(9,v9),(8,u),(10,.nilIface)].foldl (fun b (x:Nat × Value) => b.put (some x.1) x.2) a0) w'):(Code.region 1 ops true).wp Tryz.prog Q a0 w0:=by
  subst hops
  refine wp_region_facts [0,1,2,3,4,5,6,7,8,9,10,11,12] [] dead_gt1 pred_gt1 slots_gt1 (fun W => Below w0.heap.size w0 W) (fun _ w w' => SpR w0.heap.size w w') (G_gt1 w0 sb root key Fl) (by kernel_rfl) hk_gt1 ?_ ?_ ?_ ?_ ?_ ?_
  · exact ⟨Below.refl _ _,(Below.refl _ _).drew⟩
  · intro j hj w w' hB hR
    exact hR.base hB
  · intro i hi j hj hne hnp hdd ρ w w' hB hR hG
    rcases (by simpa using hi:i = 0 ∨ i = 1 ∨ i = 2 ∨ i = 3 ∨ i = 4 ∨ i = 5 ∨ i = 6 ∨ i = 7 ∨ i = 8 ∨ i = 9 ∨ i = 10 ∨ i = 11 ∨ i = 12) with rfl | rfl | rfl | rfl | rfl | rfl | rfl | rfl | rfl | rfl | rfl | rfl | rfl
    · exact hG
    · exact hG
    · exact hG
    · exact hG
    · obtain ⟨u,s0,s1,l,e,hI,hF⟩:=hG
      exact ⟨u,s0,s1,l,e,hR.items hI,hF⟩
    · obtain ⟨u,s0,s1,l,e,hI,hF⟩:=hG
      exact ⟨u,s0,s1,l,e,hR.items hI,hF⟩
    · obtain ⟨l,hI,hF⟩:=hG
      exact ⟨l,hR.items hI,hF⟩
    · exact hG
    · exact hG
    · obtain ⟨nb,x,y,e,hn,hc⟩:=hG
      obtain ⟨x',y',hc'⟩:=hR.spot hc
      exact ⟨nb,x',y',e,hn,hc'⟩
    · obtain ⟨l,hI,hF⟩:=hG
      exact ⟨l,hR.items hI,hF⟩
    · exact hG
    · exact hG
  · intro i hi ρ ρ' w h hG
    rcases (by simpa using hi:i = 0 ∨ i = 1 ∨ i = 2 ∨ i = 3 ∨ i = 4 ∨ i = 5 ∨ i = 6 ∨ i = 7 ∨ i = 8 ∨ i = 9 ∨ i = 10 ∨ i = 11 ∨ i = 12) with rfl | rfl | rfl | rfl | rfl | rfl | rfl | rfl | rfl | rfl | rfl | rfl | rfl
    · have e13:=h 13 (by simp [slots_gt1]); simp only [G_gt1] at hG ⊢; rw [← e13]; exact hG
    · have e14:=h 14 (by simp [slots_gt1]); simp only [G_gt1] at hG ⊢; rw [← e14]; exact hG
    · have e15:=h 15 (by simp [slots_gt1]); simp only [G_gt1] at hG ⊢; rw [← e15]; exact hG
    · have e16:=h 16 (by simp [slots_gt1]); simp only [G_gt1] at hG ⊢; rw [← e16]; exact hG
    · have e17:=h 17 (by simp [slots_gt1]); simp only [G_gt1] at hG ⊢; rw [← e17]; exact hG
    · have e12:=h 12 (by simp [slots_gt1]); simp only [G_gt1] at hG ⊢; rw [← e12]; exact hG
    · have e18:=h 18 (by simp [slots_gt1]); simp only [G_gt1] at hG ⊢; rw [← e18]; exact hG
    · have e19:=h 19 (by simp [slots_gt1]); simp only [G_gt1] at hG ⊢; rw [← e19]; exact hG
    · have e20:=h 20 (by simp [slots_gt1]); simp only [G_gt1] at hG ⊢; rw [← e20]; exact hG
    · have e9:=h 9 (by simp [slots_gt1]); simp only [G_gt1] at hG ⊢; rw [← e9]; exact hG
    · have e8:=h 8 (by simp [slots_gt1]); simp only [G_gt1] at hG ⊢; rw [← e8]; exact hG
    · exact trivial
    · have e10:=h 10 (by simp [slots_gt1]); simp only [G_gt1] at hG ⊢; rw [← e10]; exact hG
  · intro i hi
    rcases (by simpa using hi:i = 0 ∨ i = 1 ∨ i = 2 ∨ i = 3 ∨ i = 4 ∨ i = 5 ∨ i = 6 ∨ i = 7 ∨ i = 8 ∨ i = 9 ∨ i = 10 ∨ i = 11 ∨ i = 12) with rfl | rfl | rfl | rfl | rfl | rfl | rfl | rfl | rfl | rfl | rfl | rfl | rfl
    · refine opDoes_val 13 (.move (.tmp 0)) (by kernel_rfl) (by rw [hsz]; decide) (fun w => SpR.refl _ _) fun ρ w ty pos af hb => ?_
      have h0:=(hb.out 0 (by kernel_rfl)).trans h0
      have hc:=hb.const
      have hB:=hb.base
      exact ⟨.pointer (some ⟨sb,0,none⟩),by simp [execOp,go_sem,h0],fun ρ_ e1 _ => e1⟩
    · refine opDoes_val 14 (.move (.tmp 1)) (by kernel_rfl) (by rw [hsz]; decide) (fun w => SpR.refl _ _) fun ρ w ty pos af hb => ?_
      have h1:=(hb.out 1 (by kernel_rfl)).trans h1
      have hc:=hb.const
      have hB:=hb.base
      exact ⟨.int .i64 root,by simp [execOp,go_sem,h1],fun ρ_ e1 _ => e1⟩
    · refine opDoes_call 15 61 #[(.tmp 14)] #[3] (by kernel_rfl) (by rw [hsz]; decide) (fun _ _ => by go_simp) fun ρ w hb => ?_
      have g1:=hb.pre 1 (by simp [pred_gt1])
      simp only [G_gt1] at g1
      have hc:=hb.const
      have hB:=hb.base
      simp only [List.map_toArray,List.map_cons,List.map_nil,g1]
      refine (top_any root w).mono ?_
      rintro e w' ⟨rfl,hb1⟩
      exact ⟨_,rfl,.below hb1,fun ρ_ e1 _ => e1⟩
    · refine opDoes_val 16 (.load 9 (.tmp 5)) (by kernel_rfl) (by rw [hsz]; decide) (fun w => SpR.refl _ _) fun ρ w ty pos af hb => ?_
      have h5:=(hb.out 5 (by kernel_rfl)).trans h5
      have hc:=hb.const
      have hB:=hb.base
      have hcell:=hC5 w hB
      exact ⟨.string key,by simp [execOp,h5,hcell,go_sem],fun ρ_ e1 _ => e1⟩
    · refine opDoes_call 17 60 #[(.tmp 13),(.tmp 15),(.tmp 16)] #[27,121,9] (by kernel_rfl) (by rw [hsz]; decide) (fun _ _ => by go_simp) fun ρ w hb => ?_
      have g0:=hb.pre 0 (by simp [pred_gt1])
      simp only [G_gt1] at g0
      have g2:=hb.pre 2 (by simp [pred_gt1])
      simp only [G_gt1] at g2
      have g3:=hb.pre 3 (by simp [pred_gt1])
      simp only [G_gt1] at g3
      have hc:=hb.const
      have hB:=hb.base
      simp only [List.map_toArray,List.map_cons,List.map_nil,g0,g2,g3]
      refine (hD w hB).mono ?_
      rintro e w' ⟨u,s0,s1,l,rfl,hI,hF,hb1⟩
      exact ⟨_,rfl,.below hb1,fun ρ_ e1 _ => ⟨u,s0,s1,l,e1,hI,hF⟩⟩
    · refine opDoes_run 12 (.move (.tmp 17)) (by kernel_rfl) (by rw [hsz]; decide) fun ρ w ty pos af hb => ?_
      have g4:=hb.pre 4 (by simp [pred_gt1])
      simp only [G_gt1] at g4
      have hc:=hb.const
      have hB:=hb.base
      obtain ⟨u,s0,s1,l,e4,hI,hF⟩:=g4
      exact ⟨.tuple #[u,.agg #[.int .i64 s0,.int .i64 s1],.nilIface],w,by simp [execOp,e4,go_sem],.refl _ _,fun ρ_ e1 _ => ⟨u,s0,s1,l,e1,hI,hF⟩⟩
    · refine opDoes_run 18 (.extract (.tmp 12) 0) (by kernel_rfl) (by rw [hsz]; decide) fun ρ w ty pos af hb => ?_
      have g5:=hb.pre 5 (by simp [pred_gt1])
      simp only [G_gt1] at g5
      have hc:=hb.const
      have hB:=hb.base
      obtain ⟨u,s0,s1,l,e4,hI,hF⟩:=g5
      exact ⟨u,w,by simp [execOp,e4,go_sem],.refl _ _,fun ρ_ e1 _ => ⟨l,by rw [e1]; exact hI,hF⟩⟩
    · refine opDoes_run 19 (.extract (.tmp 12) 1) (by kernel_rfl) (by rw [hsz]; decide) fun ρ w ty pos af hb => ?_
      have g5:=hb.pre 5 (by simp [pred_gt1])
      simp only [G_gt1] at g5
      have hc:=hb.const
      have hB:=hb.base
      obtain ⟨u,s0,s1,l,e4,hI,hF⟩:=g5
      exact ⟨.agg #[.int .i64 s0,.int .i64 s1],w,by simp [execOp,e4,go_sem],.refl _ _,fun ρ_ e1 _ => ⟨s0,s1,e1⟩⟩
    · refine opDoes_run 20 (.extract (.tmp 12) 2) (by kernel_rfl) (by rw [hsz]; decide) fun ρ w ty pos af hb => ?_
      have g5:=hb.pre 5 (by simp [pred_gt1])
      simp only [G_gt1] at g5
      have hc:=hb.const
      have hB:=hb.base
      obtain ⟨u,s0,s1,l,e4,hI,hF⟩:=g5
      exact ⟨.nilIface,w,by simp [execOp,e4,go_sem],.refl _ _,fun ρ_ e1 _ => e1⟩
    · refine opDoes_run 9 (.alloc 121) (by kernel_rfl) (by rw [hsz]; decide) fun ρ w ty pos af hb => ?_
      have hc:=hb.const
      have hB:=hb.base
      refine ⟨.pointer (some ⟨w.heap.size,0,none⟩),w.alloc (.cells #[.int .i64 0,.int .i64 0] 121),by simp [execOp,go_sem],.below ((Below.refl _ _).alloc (Nat.le_refl _) _),fun ρ_ e1 _ => ⟨w.heap.size,0,0,e1,hB.size,heap_newL w _⟩⟩
    · refine opDoes_run 8 (.assign (.tmp 18)) (by kernel_rfl) (by rw [hsz]; decide) fun ρ w ty pos af hb => ?_
      have g6:=hb.pre 6 (by simp [pred_gt1])
      simp only [G_gt1] at g6
      have hc:=hb.const
      have hB:=hb.base
      obtain ⟨l,hI,hF⟩:=g6
      exact ⟨ρ (.tmp 18),w,by simp [execOp,go_sem],.refl _ _,fun ρ_ e1 _ => ⟨l,by rw [e1]; exact hI,hF⟩⟩
    · refine opDoes_store 121 (.tmp 9) (.tmp 19) (by kernel_rfl) fun ρ w hb => ?_
      have g7:=hb.pre 7 (by simp [pred_gt1])
      simp only [G_gt1] at g7
      have g9:=hb.pre 9 (by simp [pred_gt1])
      simp only [G_gt1] at g9
      have hc:=hb.const
      have hB:=hb.base
      obtain ⟨nb,x,y,e9,hn,hc⟩:=g9
      obtain ⟨s0,s1,e19⟩:=g7
      have c1:=cell_rowL hc
      have f1:=frozen_rowL hc
      refine ⟨(w.setCell ⟨nb,0,none⟩ (.int .i64 s0)).setCell ⟨nb,1,none⟩ (.int .i64 s1),by simp [execOp,e9,e19,c1,f1,go_sem],.spots hn hc,?_⟩
      simp only [G_gt1]
    · refine opDoes_run 10 (.assign (.tmp 20)) (by kernel_rfl) (by rw [hsz]; decide) fun ρ w ty pos af hb => ?_
      have g8:=hb.pre 8 (by simp [pred_gt1])
      simp only [G_gt1] at g8
      have hc:=hb.const
      have hB:=hb.base
      exact ⟨.nilIface,w,by simp [execOp,g8,go_sem],.refl _ _,fun ρ_ e1 _ => e1⟩
  · refine ends_of [13,14,15,16,17,12,18,19,20,9,8,10] (by kernel_rfl) fun ρ w hB hG => ?_
    have g0:=hG 0 (by simp) (by kernel_rfl)
    simp only [G_gt1] at g0
    have g1:=hG 1 (by simp) (by kernel_rfl)
    simp only [G_gt1] at g1
    have g2:=hG 2 (by simp) (by kernel_rfl)
    simp only [G_gt1] at g2
    have g3:=hG 3 (by simp) (by kernel_rfl)
    simp only [G_gt1] at g3
    have g4:=hG 4 (by simp) (by kernel_rfl)
    simp only [G_gt1] at g4
    have g5:=hG 5 (by simp) (by kernel_rfl)
    simp only [G_gt1] at g5
    have g6:=hG 6 (by simp) (by kernel_rfl)
    simp only [G_gt1] at g6
    have g7:=hG 7 (by simp) (by kernel_rfl)
    simp only [G_gt1] at g7
    have g8:=hG 8 (by simp) (by kernel_rfl)
    simp only [G_gt1] at g8
    have g9:=hG 9 (by simp) (by kernel_rfl)
    simp only [G_gt1] at g9
    have g10:=hG 10 (by simp) (by kernel_rfl)
    simp only [G_gt1] at g10
    have g11:=hG 11 (by simp) (by kernel_rfl)
    simp only [G_gt1] at g11
    have g12:=hG 12 (by simp) (by kernel_rfl)
    simp only [G_gt1] at g12
    obtain ⟨l,hI,hF⟩:=g10
    simp only [List.foldl_cons,List.foldl_nil,g0,g1,g2,g3,g8,g12]
    exact hQ _ _ _ _ _ _ l w hB hI hF
end Go.Proofs.YtdihdchfigemnaaGreat
namespace Go.Proofs.YtdihdchfigemnaaGreat
open Go.RowKit
set_option maxRecDepth 100000 in
set_option maxHeartbeats 2000000 in
theorem down_zero (sb:Nat) (key:ByteArray) (W:World) :
    Calls Tryz.prog 60 #[.pointer (some ⟨sb,0,none⟩),.agg #[.int .i64 0,.int .i64 1],.string key] W fun e W' => e = .returned (.tuple #[.slice none 0 0,.agg #[.int .i64 0,.int .i64 0],.nilIface]) ∧ Below W.heap.size W W':=by
  obtain ⟨B,hB⟩:∃ B,W.heap.size = B:=⟨_,rfl⟩
  have hb0:=hidA (((((Below.refl W.heap.size W).alloc (Nat.le_refl _) (.cells #[.int .i64 0,.int .i64 1] 121)).alloc (by simp) (.cells #[.string key] 9)).alloc (by simp <;> omega) (.cells #[.int .i64 0,.int .i64 0] 121)).alloc (by simp <;> omega) (.cells #[.int .i64 0,.int .i64 0] 121))
  have h4:=hidA ((((Below.heap_alloc _ (.cells #[.int .i64 0,.int .i64 0] 121) _ (by simp <;> omega)).trans (Below.heap_alloc _ (.cells #[.int .i64 0,.int .i64 0] 121) _ (by simp <;> omega))).trans (Below.heap_alloc _ (.cells #[.string key] 9) _ (by simp))).trans (heap_newL W (.cells #[.int .i64 0,.int .i64 1] 121)))
  have h7:Hid (((((W.alloc (.cells #[.int .i64 0,.int .i64 1] 121)).alloc (.cells #[.string key] 9)).alloc (.cells #[.int .i64 0,.int .i64 0] 121)).alloc (.cells #[.int .i64 0,.int .i64 0] 121)).heap[B + 1 + 1]? = some (.cells #[.int .i64 0,.int .i64 0] 121 (0,0))):=hidA (by
    subst hB
    have:=heap_newL ((W.alloc (.cells #[.int .i64 0,.int .i64 1] 121)).alloc (.cells #[.string key] 9)) (.cells #[.int .i64 0,.int .i64 0] 121)
    rw [World.size_alloc,World.size_alloc] at this
    exact (Below.heap_alloc _ _ _ (by simp <;> omega)).trans this)
  rw [hB] at h4
  have c4:=cell_rowL h4.out
  have c7:=cell_rowL h7.out
  go_enter Tryz.func60,Tryz.ntmps60
  go_wp2
  go_step3
  go_wp2
  go_step3
  go_wp2
  refine wp_loop_rounds 1 ?_
  rw [rounds_succ]
  go_wp2
  rw [Exit.noGoto_ret]
  exact bodyPost_ret (v:=.tuple #[.slice none 0 0,.agg #[.int .i64 0,.int .i64 0],.nilIface]) (by simp [results,Tryz.results60,go_sem,c7]) rfl ⟨rfl,hb0.out⟩
theorem down_root {X:World} {sb:Nat} {ps:List PageD} {root:Int} {L:List Nat} (hR:Rd X sb ps) (hRt:RootAt ps root L) (hl:L.length ≤ 120) (key:ByteArray) {le gr:Nat → Bool} (hk:KeyIs key le) (h1:∀ y,y < 256 → le y = false → gr y = false) (h2:∀ y m,y < m → m < 256 → le m = true → gr y = false) (W:World) (hW:Below X.heap.size X W) :
    Calls Tryz.prog 60 #[.pointer (some ⟨sb,0,none⟩),.agg #[.int .i64 root,.int .i64 1],.string key] W fun e W' => ∃ (u:Value) (s0 s1:Int) (l:List Nat),e = .returned (.tuple #[u,.agg #[.int .i64 s0,.int .i64 s1],.nilIface]) ∧ ItemsAt W' u (l.map it2) ∧ (l.length ≤ 4 ∧ (∀ y ∈ l,y < 256) ∧ L.find? gr = l.find? gr) ∧ Below W.heap.size W W':=by
  obtain ⟨hri,h256,_⟩:=hRt.fits
  obtain ⟨t,ht,hS⟩:=way_root le hRt hl
  rcases hS with ⟨rfl,rfl⟩ | ⟨i0,d0,rfl,hWy⟩
  · refine (down_zero sb key W).mono ?_
    rintro e W' ⟨rfl,hb⟩
    exact ⟨_,0,0,[],rfl,items_nil _,⟨by simp,by simp,rfl⟩,hb⟩
  · refine (down_way hR (fun i h => hRt.page hl h) key hk.is hk.mono hWy ht W hW).mono ?_
    rintro e W' ⟨l,La,Lb,q,u,rfl,hI,hL,h4,_,hl256,hLa,hLb,_,hb⟩
    refine ⟨u,q.1,q.2,l,rfl,hI W' ⟨Nat.le_refl _,fun _ _ _ => rfl⟩,⟨h4,hl256,?_⟩,hb⟩
    have e1:La.find? gr = none:=find_none fun y hy => by
      obtain ⟨m,m1,m2,m3⟩:=hLa y hy
      exact h2 y m m1 m2 m3
    have e2:Lb.find? gr = none:=find_none fun y hy => h1 y (h256 y (by rw [hL]; simp [hy])) (hLb y hy)
    rw [hL,List.find?_append,List.find?_append,e1,e2]
    simp
set_option maxRecDepth 10000 in
set_option maxHeartbeats 4000000 in
theorem get_way {X:World} {sb:Nat} {ps:List PageD} {root:Int} {L:List Nat} (hR:Rd X sb ps) (hRt:RootAt ps root L) (hl:L.length ≤ 120) (key:ByteArray) {le gr:Nat → Bool} (hk:KeyIs key le) (hpr:∀ y,y < 256 → ((key2 y).toList == key.toList) = gr y) (h1:∀ y,y < 256 → le y = false → gr y = false) (h2:∀ y m,y < m → m < 256 → le m = true → gr y = false) (W:World) (hW:Below X.heap.size X W) :
    Calls Tryz.prog 23 #[.pointer (some ⟨sb,0,none⟩),.int .i64 root,.string key] W fun e W' => Fnd (L.find? gr) e ∧ Below W.heap.size W W':=by
  obtain ⟨B,hB⟩:∃ B,W.heap.size = B:=⟨_,rfl⟩
  have hbk:=hidA ((Below.refl W.heap.size W).alloc (Nat.le_refl _) (.cells #[.string key] 9))
  have hb0:=hidA (hbk.out.alloc (by simp) (.cells #[.string ⟨#[]⟩,.int .i64 0,.string ⟨#[]⟩,.int .i64 0,.int .i64 0,.slice none 0 0,.int .i64 0,.int .i64 0,.int .i64 0,.int .i64 0] 45))
  have hK0:=hidA ((Below.heap_alloc _ (.cells #[.string ⟨#[]⟩,.int .i64 0,.string ⟨#[]⟩,.int .i64 0,.int .i64 0,.slice none 0 0,.int .i64 0,.int .i64 0,.int .i64 0,.int .i64 0] 45) _ (by simp)).trans (heap_newL W (.cells #[.string key] 9)))
  have hZ0:=hidA (heap_newL (W.alloc (.cells #[.string key] 9)) (.cells #[.string ⟨#[]⟩,.int .i64 0,.string ⟨#[]⟩,.int .i64 0,.int .i64 0,.slice none 0 0,.int .i64 0,.int .i64 0,.int .i64 0,.int .i64 0] 45))
  rw [World.size_alloc] at hZ0
  rw [hB] at hZ0 hK0
  have HD:=hidA (fun (V:World) (hV:Below X.heap.size X V) => down_root hR hRt hl key hk h1 h2 V hV)
  have hPR:=hidA hpr
  have hBl:=hidA (show W.heap.size ≤ B ∧ W.heap.size ≤ B + 1 by omega)
  have hX0:=hidA (hW.trans (hb0.out.mono hW.size))
  clear hR hRt hl hk hpr h1 h2 hW hbk
  go_enter Tryz.func23,Tryz.ntmps23
  go_upto_region 1 with fail
  generalize ((W.alloc (.cells #[.string key] 9)).alloc (.cells #[.string ⟨#[]⟩,.int .i64 0,.string ⟨#[]⟩,.int .i64 0,.int .i64 0,.slice none 0 0,.int .i64 0,.int .i64 0,.int .i64 0,.int .i64 0] 45)) = w0 at *
  refine gt1 w0 sb B root key (fun l => l.length ≤ 4 ∧ (∀ y ∈ l,y < 256) ∧ L.find? gr = l.find? gr) (by kernel_rfl) rfl rfl rfl rfl (fun V hV => (hV.cell (p:=⟨B,0,none⟩) (F.lt_of_heap hK0.out)).trans (cell_rowL hK0.out 0)) (fun V hV => HD.out V (hX0.out.trans (hV.mono hX0.out.size))) (fun v17 v12 v18 v19 v9 u l w1 hb1 hI1 hF1 => ?_)
  simp only [List.foldl_cons,List.foldl_nil,Act.put,List.setIfInBounds_toArray,List.set_cons_zero,List.set_cons_succ]
  obtain ⟨ao,cap,rfl,_⟩:=id hI1
  have hI1:=hidA hI1
  have hF1:=hidA hF1
  have hZ1:=hidA ((hb1.block _ (F.lt_of_heap hZ0.out)).trans hZ0.out)
  have hK1:=hidA ((hb1.block _ (F.lt_of_heap hK0.out)).trans hK0.out)
  have hbA:=hidA (hb0.out.trans (hb1.mono hb0.out.size))
  have hlm:=hidA (show (l.map it2).length ≤ 1000 by rw [List.length_map]; have:=hF1.out.1; omega)
  have hic:=hidA (idx_cases (pr:=fun x => x.key.toList == key.toList) (gr:=gr) (l:=l) (fun y hy => hPR.out y (hF1.out.2.1 y hy)))
  have CI:=hidA (idx_any (l.map it2) ao cap 63 B (fun x => x.key.toList == key.toList) w1 hI1.out hlm.out (fun _ _ => by go_simp) (fun x _ ya yn yc V hV => get1_any x ya yn yc key B V ((hV.cell (p:=⟨B,0,none⟩) (F.lt_of_heap hK1.out)).trans (cell_rowL hK1.out 0))))
  clear hb1 hb0 hK0 hZ0 HD hX0 hPR
  obtain ⟨n1,hn1⟩:∃ n1,Hid (n1 = (l.map it2).length):=⟨_,hidA rfl⟩
  rw [← hn1.out] at CI ⊢
  go_wp2_with fail
  refine CI.out.mono ?_
  rintro e w2 ⟨rfl,hb2⟩
  have hbB:=hidA (hbA.out.trans (hb2.mono hbA.out.size))
  have hZ2:=(hb2.block _ (F.lt_of_heap hZ1.out)).trans hZ1.out
  have cR:=cell_rowL hZ2
  have fR:=frozen_rowL hZ2
  rcases hic.out with ⟨k,hk,e1,_,_,e2⟩ | ⟨e1,e2,_⟩
  · rw [e1]
    have hfd:=hidA (hF1.out.2.2.trans e2)
    have hI2:=hI1.out.below hb2
    have hkm:k < (l.map it2).length:=by rw [List.length_map]; exact hk
    obtain ⟨b,o,ya,yn,yc,hix,hr⟩:=items_get hI2 hkm
    rw [← hn1.out] at hix
    have hr:=hr _ (Below.refl _ _)
    have ex:(l.map it2)[k] = it2 l[k]:=by simp
    rw [ex] at hr
    generalize hxx:it2 l[k] = x at *
    have q0:w2.cell? ⟨b,o,none⟩ = some (.string x.key):=hr 0 _ rfl
    have q1:w2.cell? ⟨b,o + 1,none⟩ = some (.int .i64 x.kind):=hr 1 _ rfl
    have q2:w2.cell? ⟨b,o + 2,none⟩ = some (.string x.val):=hr 2 _ rfl
    have q3:w2.cell? ⟨b,o + 3,none⟩ = some (.int .i64 x.run):=hr 3 _ rfl
    have q4:w2.cell? ⟨b,o + 4,none⟩ = some (.int .i64 x.len):=hr 4 _ rfl
    have q5:w2.cell? ⟨b,o + 5,none⟩ = some (.slice ya yn yc):=hr 5 _ rfl
    have q6:w2.cell? ⟨b,o + 6,none⟩ = some (.int .i64 x.dup):=hr 6 _ rfl
    have q7:w2.cell? ⟨b,o + 7,none⟩ = some (.int .i64 x.root.page):=hr 7 _ rfl
    have q8:w2.cell? ⟨b,o + 8,none⟩ = some (.int .i64 x.root.count):=hr 8 _ rfl
    have q9:w2.cell? ⟨b,o + 9,none⟩ = some (.int .i64 x.root.flags):=hr 9 _ rfl
    have hk1:(decide ((k:Int) < 0)) = false:=by simp
    clear CI e1 e2 ex
    go_wp2
    refine bodyPost_ret (v:=.tuple #[.agg #[.string x.key,.int .i64 x.kind,.string x.val,.int .i64 x.run,.int .i64 x.len,.slice ya yn yc,.int .i64 x.dup,.int .i64 x.root.page,.int .i64 x.root.count,.int .i64 x.root.flags],.nilIface]) (by simp [results,Tryz.results23,go_sem,cR]) rfl ⟨by rw [hfd.out]; exact ⟨ya,yn,yc,by rw [← hxx]; rfl⟩,?_⟩
    repeat (refine Below.setCell ?_ (by simpa using hBl.out.2) _)
    exact hbB.out
  · rw [e1]
    have hfd:=hidA (hF1.out.2.2.trans e2)
    clear CI e1 e2 hZ2
    go_wp2
    refine bodyPost_ret (v:=.tuple #[.agg #[.string ⟨#[]⟩,.int .i64 0,.string ⟨#[]⟩,.int .i64 0,.int .i64 0,.slice none 0 0,.int .i64 0,.int .i64 0,.int .i64 0,.int .i64 0],.iface 64 (.int .i64 21)]) (by simp [results,Tryz.results23,go_sem,cR]) rfl ⟨by rw [hfd.out]; exact ⟨none,0,0,rfl⟩,?_⟩
    repeat (refine Below.setCell ?_ (by simpa using hBl.out.2) _)
    exact hbB.out
end Go.Proofs.YtdihdchfigemnaaGreat

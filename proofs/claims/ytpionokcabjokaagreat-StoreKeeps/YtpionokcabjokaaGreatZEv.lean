/- StoreKeeps, as data: a row of texts of the call's own; what stays in a store whatever is done. -/
import Derived.Test.YtpionokcabjokaaGreatZEu
namespace Go.Proofs.YtpionokcabjokaaGreat
open Go.RowKit Go.Sort Go.Conc
open H (Up up_ext mergeL dropL Fit RunI RunIs RowAt)

/-- A row of texts of the call's own. -/
def OwnTx (w : World) (B : Nat) (v : Value) (l : List ByteArray) : Prop := w.ownsRow B 9 1 v l.length (strCellsL l)
theorem Tryz.infoTx : (Tryz.prog.info? 9).map (fun i => (i.zero, i.size, i.bytes)) = some (some (.string ⟨#[]⟩), 1, 16) := by kernel_rfl
theorem push_text (i0 : TypeInfo) (hi : Tryz.prog.info? 9 = some i0) (hz0 : i0.zero = some (.string ⟨#[]⟩)) (hz1 : i0.size = 1) (hz2 : i0.bytes = 16) {w0 w : World} {B : Nat} (v : Value) (l : List ByteArray) (x : ByteArray) (h : OwnTx w B v l) (b : Nat)
    (hbk : w.heap[b]? = some (.cells #[.string x] 9 (0, 0))) (hb : Below B w0 w) (hB : B ≤ w.heap.size) (hl : l.length ≤ 999) (ty : TypeId) :
    ∃ v' w', (Builtin.append_ #[26, 26] ty #[v, .slice (some ⟨b, 0, none⟩) 1 1]).run Tryz.prog w = .ok v' w' ∧ (∃ a c, v' = .slice a (l.length + 1) c) ∧ OwnTx w' B v' (l ++ [x]) ∧ Below B w0 w' := by
  obtain ⟨g, cap, w', h1, h2, h3, h4, _⟩ := run_append_lies (P := Tryz.prog) w 26 ty B 9 i0 (.string ⟨#[]⟩) 1 16 Tryz.underlying26 hi hz0 hz1 hz2 rfl (by omega) v l.length (strCellsL l) h ⟨b, 0, none⟩ 1 1 [.string x] rfl (World.news_of_block hbk) (by simp [Value.oneCell']) (by omega) (by unfold maxLen; omega) (by omega) hB w.heap.size rfl
  refine ⟨_, w', h1, ⟨_, _, rfl⟩, by simpa [OwnTx, strCellsL] using h2, ?_⟩
  exact hb.grown h3 hB (fun k hk => by
    rcases h.2 with ⟨e, _⟩ | ⟨g', c', cu, e, hg, _⟩
    · rw [e] at hk; cases hk
    · rw [e] at hk
      simp only [Value.ownBlock, Option.some.injEq] at hk
      omega)
theorem OwnTx.keptBy {w w' : World} {B : Nat} {v : Value} {l : List ByteArray} (h : OwnTx w B v l) (hr : ∀ g, v.ownBlock = some g → w'.heap[g]? = w.heap[g]?) : OwnTx w' B v l := by
  refine ⟨h.1, ?_⟩
  rcases h.2 with hn | ⟨g, cap, cur, rfl, hb, hgg, rest⟩
  · exact .inl hn
  · exact .inr ⟨g, cap, cur, rfl, hb, (hr g rfl).trans hgg, rest⟩
theorem OwnTx.blk {w : World} {B : Nat} {v : Value} {l : List ByteArray} (h : OwnTx w B v l) : ∀ g, v.ownBlock = some g → g < w.heap.size ∧ ∃ cs, w.heap[g]? = some (.cells cs 9 (0, 0)) := by
  intro g hg
  rcases h.2 with ⟨rfl, _⟩ | ⟨g', cap, cur, rfl, _, hh, _⟩
  · cases hg
  · simp only [Value.ownBlock, Option.some.injEq] at hg
    subst hg
    exact ⟨(Array.getElem?_eq_some_iff.1 hh).1, cur, hh⟩
theorem OwnTx.below {w w' : World} {B : Nat} {v : Value} {l : List ByteArray} (h : OwnTx w B v l) (hb : Below w.heap.size w w') : OwnTx w' B v l :=
  h.keptBy (fun g hg => hb.block g (h.blk g hg).1)
theorem OwnTx.texts {w : World} {B : Nat} {v : Value} {l : List ByteArray} (h : OwnTx w B v l) (hs : ∀ x ∈ l, x.size ≤ 100000000000) (hl : l.length ≤ 1000) : F.StrsAt w v l :=
  strs_own h (fun x hx => by have := hs x hx; unfold maxLen; omega) (by unfold maxLen; omega)
theorem OwnTx.slice {w : World} {B : Nat} {v : Value} {l : List ByteArray} (h : OwnTx w B v l) : ∃ ao cap, v = .slice ao l.length cap := by
  rcases h.2 with ⟨rfl, h0⟩ | ⟨g, cap, cur, rfl, _⟩
  · exact ⟨none, 0, by rw [h0]⟩
  · exact ⟨_, _, rfl⟩
/-- Texts that stay whatever the store does. -/
theorem texts_stay {w X V : World} {sb mb fb : Nat} {s : StD} {L : List F.Sh} (h : Sf w X sb mb fb s L) {B : Nat} {v : Value} {l : List ByteArray} (ho : OwnTx X B v l) (hV : So sb mb X V) : OwnTx V B v l := by
  obtain ⟨vf, va, h1⟩ := h.st
  obtain ⟨es, c, hm⟩ := h1.dirty.isMap
  refine ho.keptBy (fun g hg => ?_)
  obtain ⟨h2, cs, h3⟩ := ho.blk g hg
  refine hV.block g h2 ?_ ?_
  · rintro rfl
    have := h1.obj
    rw [h3] at this
    simp at this
  · rintro rfl
    rw [h3] at hm
    cases hm

/-- The texts of the file: two with nothing, then so many pages. -/
def textsB (l : List PageD) (k : Nat) : List ByteArray := [⟨#[]⟩, ⟨#[]⟩] ++ (l.take k).map fun p => bs (bytesD p)
theorem textsB_len (l : List PageD) {k : Nat} (h : k ≤ l.length) : (textsB l k).length = k + 2 := by simp [textsB]; omega
theorem textsB_succ (l : List PageD) (k : Nat) (h : k < l.length) : textsB l (k + 1) = textsB l k ++ [bs (bytesD l[k])] := by
  unfold textsB
  rw [List.take_succ_eq_append_getElem h, List.map_append]
  simp
theorem textsB_small (l : List PageD) (k : Nat) (h : ∀ p ∈ l, TxnOk p) : ∀ x ∈ textsB l k, x.size ≤ 100000000000 := by
  intro x hx
  simp only [textsB, List.cons_append, List.nil_append, List.mem_cons, List.mem_map] at hx
  rcases hx with rfl | rfl | ⟨p, hp, rfl⟩
  · simp [ByteArray.size]
  · simp [ByteArray.size]
  · exact bytesD_small p (h p (List.mem_of_mem_take hp))
theorem newL_small {l : List ByteArray} (h : ∀ x ∈ l, x.size ≤ 100000000000) : ShOk (F.newL l) := by
  intro t ht
  obtain ⟨x, hx, rfl⟩ := List.mem_map.1 ht
  exact h x hx
theorem newL_read (l : List ByteArray) (i : Nat) (h : i < l.length) : F.readL (F.newL l) (i : Int) = l[i] := by
  unfold F.readL
  rw [if_pos (by omega), Int.toNat_natCast]
  simp [F.newL, List.getD, h]

/-- What is dirty or available below n was available at first. -/
structure KeepI (s : StD) (n : Nat) (W : List Int) : Prop where
  last : n ≤ s.last
  mem : ∀ x, x ∈ s.dirty ∨ x ∈ s.avail → x < (n : Int) → x ∈ W
theorem keep_new (n : Nat) (l : List Int) (h1 : 2 ≤ n) (h2 : n ≤ 400) : KeepI (newD (n : Int) 400 l) n (newD (n : Int) 400 l).avail := by
  refine ⟨by simp only [newD, heldN]; omega, fun x hx _ => ?_⟩
  rcases hx with hx | hx
  · simp [newD] at hx
  · exact hx
theorem keep_take {s : StD} {n : Nat} {W : List Int} (h : KeepI s n W) (k : Nat) : KeepI (takeD s k).2.2 n W := by
  unfold takeD
  split
  · exact h
  cases hr : runF s.avail k with
  | some x =>
    have hin := runIs_some hr
    refine ⟨h.last, fun y hy hn => h.mem y ?_ hn⟩
    simp only [madeD] at hy
    rcases hy with hy | hy
    · rcases (addRun_mem _ _ _ _).1 hy with hy | hy
      · exact .inl hy
      · have := hin (y - x).toNat (by omega)
        rw [show x + ((y - x).toNat : Int) = y by omega] at this
        exact .inr this
    · exact .inr ((H.dropL_mem _ _ _ _).1 hy).1
  | none =>
    simp only
    split
    · exact h
    · refine ⟨by simp only [madeD]; have := h.last; omega, fun y hy hn => ?_⟩
      simp only [madeD] at hy
      rcases hy with hy | hy
      · rcases (addRun_mem _ _ _ _).1 hy with hy | hy
        · exact h.mem y (.inl hy) hn
        · have := h.last; omega
      · exact h.mem y (.inr hy) hn
theorem keep_put {s : StD} {n : Nat} {W : List Int} (h : KeepI s n W) (x : Int) (b : ByteArray) : KeepI (putB s x b) n W := ⟨h.last, h.mem⟩
theorem keep_drop {s : StD} {n : Nat} {W : List Int} (h : KeepI s n W) (x : Int) : KeepI (dropD s x) n W := by
  unfold dropD
  split
  · rename_i hc
    have hx : x ∈ s.dirty := by simpa using hc
    refine ⟨h.last, fun y hy hn => h.mem y ?_ hn⟩
    rcases hy with hy | hy
    · exact .inl (drop_one_mem.1 hy).1
    · rcases (H.mergeL_mem _ _ _).1 hy with hy | hy
      · exact .inr hy
      · simp only [List.mem_singleton] at hy
        subst hy
        exact .inl hx
  split
  · exact ⟨h.last, h.mem⟩
  · exact h
theorem keep_add {s : StD} {n : Nat} {W : List Int} (h : KeepI s n W) (p : PageD) : KeepI (addD s p).2.2 n W := by
  unfold addD
  split
  · split
    · exact keep_put (keep_take h 1) _ _
    · exact h
  · exact h
theorem keep_set {s : StD} {n : Nat} {W : List Int} (h : KeepI s n W) (x : Int) (p : PageD) : KeepI (setD s x p).2 n W := by
  unfold setD
  split
  · exact keep_put h _ _
  · exact h
theorem keep_touch {s : StD} {n : Nat} {W : List Int} (h : KeepI s n W) (L : List F.Sh) (x : Int) : KeepI (touchD s L x).2.2 n W := by
  unfold touchD
  split
  · exact h
  split
  · split
    · exact keep_drop (keep_add h _) x
    · exact h
  · exact h
theorem keep_run {s : StD} {n : Nat} {W : List Int} (h : KeepI s n W) (k : Int) : KeepI (runD s k).2.2 n W := by
  unfold runD
  split
  · exact h
  · exact keep_take h _
theorem newL_loose : ∀ (l : List ByteArray) (n : Nat), F.looseL (F.newL l) n = []
  | [], _ => rfl
  | _ :: l, n => newL_loose l (n + 1)
end Go.Proofs.YtpionokcabjokaaGreat

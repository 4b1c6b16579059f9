/- Contract of package file's Power. -/
import Derived.Test.YtehfhacghfagoaaFf
namespace Go.Proofs.Ytehfhacghfagoaa
open Go.RowKit Go.Conc

/-- What becomes of pages when power is lost, and which truths are left. -/
def keptP : List Sh → List Bool → List Sh
  | [], _ => []
  | x :: l, ks => if x.loose then (if nextL ks then x else ⟨x.syn, x.syn, x.loose⟩) :: keptP l ks.tail else x :: keptP l ks
def powerL (l : List Sh) (ks : List Bool) : List Sh := syncL (cutL (keptP l (ks.take l.length)))
theorem keptP_length : ∀ (l : List Sh) (ks : List Bool), (keptP l ks).length = l.length
  | [], _ => rfl
  | x :: l, ks => by
    unfold keptP
    split <;> simp [keptP_length l]
theorem Fo.chan {fb c : Nat} {w w' w'' : World} {v v' : Value} (h : Fo fb w v w' v') (hg : w'.grownBy w'' (some c)) (hc : w.heap.size ≤ c) : Fo fb w v w'' v' :=
  ⟨hg.os.trans h.os, hg.tape.trans h.tape, hg.output.trans h.output, Nat.le_trans h.size hg.size, fun k hk hf hv => (hg.block k (Nat.lt_of_lt_of_le hk h.size) (by simp; omega)).trans (h.block k hk hf hv), h.row⟩
theorem FileAt.chan {w w' : World} {B fb c : Nat} {v : Value} {l : List Sh} (h : FileAt w B fb v l) (hg : w.grownBy w' (some c)) (hf : fb ≠ c) (hr : ∀ g, v.ownBlock = some g → g ≠ c) : FileAt w' B fb v l :=
  h.kept (hg.block fb h.lt (by simp; omega)) (fun g e => hg.block g (h.rowLt g e).2 (by have := hr g e; simp; omega))
theorem set_here (d : List Sh) (x y : Sh) (l : List Sh) (k : Nat) (h : d.length = k) : (d ++ x :: l).set k y = d ++ y :: l := by
  subst h
  simp

set_option maxRecDepth 10000 in
set_option maxHeartbeats 4000000 in
theorem power_any (w : World) (B fb : Nat) (v : Value) (l : List Sh) (u : Value) (ks : List Bool) (h : FileAt w B fb v l) (hk : BoolsAt w u ks) :
    Calls Try.prog 15 #[.pointer (some ⟨fb, 0, none⟩), u] w fun e w' => e = .returned (.tuple #[]) ∧ ∃ v', FileAt w' B fb v' (powerL l ks) ∧ Fo fb w v w' v' := by
  have hc := cell_of_one h.obj
  have hl4 := h.len
  have hlt := h.lt
  have HT := hid (fun (l : List Sh) (hl : l.length ≤ 400) => inTurn_any ks u l.length w hk hl)
  have HL : Hid (powerL l ks = syncL (cutL (keptP l (ks.take l.length)))) := hid rfl
  generalize powerL l ks = RL at *
  clear hk
  rcases h.form with ⟨rfl, rfl⟩ | ⟨g, cap, rfl, h1, h2, hne, h3, h4⟩
  · replace h := hid h
    go_enter Try.func15, Try.ntmps15
    go_wp2_with fail
    refine (HT.out [] (by simp)).mono ?_
    rintro e w1 ⟨rfl, hch, hb⟩
    have F1 := h.out.below hb
    have hc1 := cell_of_one F1.obj
    have O1 := hid (Fo.of_below (fb := fb) (v := .slice none 0 0) hb)
    replace F1 := hid F1
    clear hch hb
    go_wp2
    refine wp_loop_rounds 1 ?_
    rw [rounds_succ]
    go_wp2_with fail
    refine (cut_any _ B fb _ _ F1.out).mono ?_
    rintro e w2 ⟨rfl, v2, F2, O2⟩
    go_wp2_with fail
    refine (sync_any _ B fb _ _ F2).mono ?_
    rintro e w3 ⟨rfl, F3, O3⟩
    go_wp2
    go_end0
    refine ⟨rfl, v2, ?_, O1.out.trans (O2.trans O3)⟩
    rw [HL.out]
    exact F3
  · replace h := hid h
    go_enter Try.func15, Try.ntmps15
    go_wp2_with fail
    refine (HT.out l hl4).mono ?_
    rintro e w1 ⟨rfl, hch, hb⟩
    have F1 := h.out.below hb
    have hc1 := cell_of_one F1.obj
    have O1 := hid (Fo.of_below (fb := fb) (v := .slice (some ⟨g, 0, none⟩) l.length cap) hb)
    replace F1 := hid F1
    replace hch := hid hch
    generalize hcs : w.heap.size = c at *
    replace hcs := hid hcs
    generalize ks.take l.length = rs0 at *
    clear hb hc HT
    go_wp2
    clear hc1
    go_loopg [19] l.length (fun gk i wr => ∃ (k : Nat) (d m : List Sh) (rs : List Bool), k + gk = l.length ∧ i = .int .i64 k ∧ Hid (d.length = k) ∧ Hid (m.length = gk) ∧ Hid (FileAt wr B fb (.slice (some ⟨g, 0, none⟩) l.length cap) (d ++ m)) ∧ Hid (ChanAt wr c rs) ∧ Hid (d ++ keptP m rs = keptP l rs0) ∧ Hid (Fo fb w (.slice (some ⟨g, 0, none⟩) l.length cap) wr (.slice (some ⟨g, 0, none⟩) l.length cap)))
    case atStart => exact ⟨0, [], l, rs0, by omega, rfl, hid rfl, hid rfl, F1, hch, hid rfl, O1⟩
    case round =>
      obtain ⟨k, d, m, rs, hk, rfl, hd, hm, hf, hcc, hkp, hfo⟩ := hrel
      clear F1 hch O1 h
      cases gk with
      | zero =>
        have hke : k = l.length := by omega
        subst hke
        have hm0 : m = [] := List.length_eq_zero_iff.1 hm.out
        subst hm0
        have e1 : d = keptP l rs0 := by have := hkp.out; simpa [keptP] using this
        have F2 := hf.out
        rw [List.append_nil, e1] at F2
        replace F2 := hid F2
        clear hf hkp e1 hd hm
        go_wp2_with fail
        refine (cut_any _ B fb _ _ F2.out).mono ?_
        rintro e w2 ⟨rfl, v2, F2', O2⟩
        go_wp2_with fail
        refine (sync_any _ B fb _ _ F2').mono ?_
        rintro e w3 ⟨rfl, F3, O3⟩
        go_wp2
        go_end0
        refine ⟨rfl, v2, ?_, hfo.out.trans (O2.trans O3)⟩
        rw [HL.out]
        exact F3
      | succ gg =>
        match m, hm with
        | [], hm => exact absurd hm.out (by simp)
        | x :: m, hm =>
        have hlk : k < l.length := by omega
        have hx := atSheets g l.length cap k hlk
        have hc := cell_of_one hf.out.obj
        have hlen : l.length = (d ++ x :: m).length := by have := hd.out; have := hm.out; simp at *; omega
        have hin : k < (d ++ x :: m).length := by omega
        have hat : (d ++ x :: m)[k] = x := by have := hd.out; subst this; simp
        obtain ⟨c0, c1, c2⟩ := hf.out.cell hlen k hin
        rw [hat] at c0 c1 c2
        have hgl : g < wr.heap.size := World.block_lt_of_cell? wr _ c0
        have hfl := hf.out.lt
        obtain ⟨xn, xs, xl⟩ := x
        have HF1 := hid (hf.out.alloc (.cells #[.string xn, .string xs, .bool xl] 58))
        have HO1 := hid (hfo.out.alloc (.cells #[.string xn, .string xs, .bool xl] 58))
        have HC1 := hid (hcc.out.kept (Below.heap_alloc wr (.cells #[.string xn, .string xs, .bool xl] 58) c hcc.out.lt))
        replace hlen := hid hlen
        replace hat := hid hat
        replace hin := hid hin
        cases xl
        · clear hf hfo hcc
          go_wp2
          go_roundg gg
          case rel =>
            refine ⟨k + 1, d ++ [⟨xn, xs, false⟩], m, rs, by omega, by go_num, hid (by simp [hd.out]), hid (by simpa using hm.out), ?_, HC1, ?_, HO1⟩
            · show FileAt _ _ _ _ _
              rw [List.append_assoc]
              exact HF1.out
            · have := hkp.out
              show _ = _
              rw [List.append_assoc]
              simpa [keptP] using this
          case measure => omega
        · have hp := heap_newL wr (.cells #[.string xn, .string xs, .bool true] 58)
          have hcl := hcc.out.lt
          clear hf hfo hcc
          replace hp := hid hp
          go_wp2_with fail
          clear hc c0 c1 c2
          refine (next_any c rs _ HC1.out).mono ?_
          rintro e w2 ⟨rfl, hch2, hg2⟩
          have F2 := HF1.out.chan hg2 (by omega) (fun r hr => by simp [Value.ownBlock] at hr; omega)
          have O2 := HO1.out.chan hg2 (by rw [hcs.out]; exact Nat.le_refl _)
          have hp2 := (hg2.block wr.heap.size (by simp) (by simp; omega)).trans hp.out
          have cp := cell_rowL hp2
          have hc2 := cell_of_one F2.obj
          have hfz := F2.frozen hlen.out
          obtain ⟨c0, _, _⟩ := F2.cell hlen.out k hin.out
          rw [hat.out] at c0
          have hsz := hg2.size
          simp only [World.size_alloc] at hsz
          have HN := hid (F2.stored hlen.out k hin.out 0 (by omega) (.string xs) ⟨xs, xs, true⟩ (by rw [hat.out]; rfl)).drew
          have HO := hid ((O2.trans (Fo.cell (g := g) (o := k * 3) (n := l.length) (cap := cap) (.string xs))).drew)
          replace F2 := hid F2
          replace O2 := hid O2
          replace hch2 := hid hch2
          have hkp2 := hkp.out
          simp only [keptP, if_true] at hkp2
          replace hkp2 := hid hkp2
          clear hg2 hp2 HF1 HO1 HC1 hp hkp
          generalize hnb : nextL rs = b at *
          replace hnb := hid hnb
          cases b
          · go_wp2
            go_region
            all_goals go_wp2
            all_goals go_roundg gg
            case rel =>
              refine ⟨k + 1, d ++ [⟨xs, xs, true⟩], m, rs.tail, by omega, by go_num, hid (by simp [hd.out]), hid (by simpa using hm.out), ?_, hid (hch2.out.kept ?_), ?_, HO⟩
              · have := HN.out
                rw [set_here d _ _ m k hd.out] at this
                show FileAt _ _ _ _ _
                rw [List.append_assoc]
                exact this
              · show (w2.setCell _ _).heap[c]? = _
                rw [Below.heap_setCell _ _ _ _ (by simp; omega)]
              · show _ = _
                rw [List.append_assoc]
                simpa using hkp2.out
            case measure => omega
          · go_wp2
            go_roundg gg
            case rel =>
              refine ⟨k + 1, d ++ [⟨xn, xs, true⟩], m, rs.tail, by omega, by go_num, hid (by simp [hd.out]), hid (by simpa using hm.out), ?_, hch2, ?_, O2⟩
              · show FileAt _ _ _ _ _
                rw [List.append_assoc]
                exact F2.out
              · show _ = _
                rw [List.append_assoc]
                simpa using hkp2.out
            case measure => omega
end Go.Proofs.Ytehfhacghfagoaa

import Derived.Deep.LoopGhost
import Derived.Test.YtdihdchfigemnaaGreatC50
import Derived.Test.YtdihdchfigemnaaGreatC53
namespace Go.Proofs.YtdihdchfigemnaaGreat
open Go.RowKit
theorem above1_any (x:ItemD) (ya:Option Addr) (yn yc:Nat) (key:ByteArray) (kb:Nat) (W:World) (hk:W.cell? ⟨kb,0,none⟩ = some (.string key)) :
    Calls Tryz.prog 56 #[.agg (itemCells x (.slice ya yn yc)).toArray,.pointer (some ⟨kb,0,none⟩)] W fun e w' => e = .returned (.bool (!Op.bytesLess x.key.toList key.toList)) ∧ Below W.heap.size W w':=by
  have hb0:=hidA ((Below.refl W.heap.size W).alloc (Nat.le_refl _) (.cells #[.string x.key,.int .i64 x.kind,.string x.val,.int .i64 x.run,.int .i64 x.len,.slice ya yn yc,.int .i64 x.dup,.int .i64 x.root.page,.int .i64 x.root.count,.int .i64 x.root.flags] 45))
  have ck:=(hb0.out.cell (p:=⟨kb,0,none⟩) (World.block_lt_of_cell? _ _ hk)).trans hk
  have cR:=cell_rowL (heap_newL W (.cells #[.string x.key,.int .i64 x.kind,.string x.val,.int .i64 x.run,.int .i64 x.len,.slice ya yn yc,.int .i64 x.dup,.int .i64 x.root.page,.int .i64 x.root.count,.int .i64 x.root.flags] 45))
  show Calls Tryz.prog 56 #[.agg #[.string x.key,.int .i64 x.kind,.string x.val,.int .i64 x.run,.int .i64 x.len,.slice ya yn yc,.int .i64 x.dup,.int .i64 x.root.page,.int .i64 x.root.count,.int .i64 x.root.flags],.pointer (some ⟨kb,0,none⟩)] W _
  clear hk
  go_enter Tryz.func56,Tryz.ntmps56
  go_wp2
  go_ret
  exact ⟨rfl,hb0.out⟩
theorem behind1_any (x:ItemD) (ya:Option Addr) (yn yc:Nat) (key:ByteArray) (kb:Nat) (W:World) (hk:W.cell? ⟨kb,0,none⟩ = some (.string key)) :
    Calls Tryz.prog 57 #[.agg (itemCells x (.slice ya yn yc)).toArray,.pointer (some ⟨kb,0,none⟩)] W fun e w' => e = .returned (.bool (!Op.bytesLess x.key.toList key.toList && !(x.key.toList == key.toList))) ∧ Below W.heap.size W w':=by
  have hb0:=hidA ((Below.refl W.heap.size W).alloc (Nat.le_refl _) (.cells #[.string x.key,.int .i64 x.kind,.string x.val,.int .i64 x.run,.int .i64 x.len,.slice ya yn yc,.int .i64 x.dup,.int .i64 x.root.page,.int .i64 x.root.count,.int .i64 x.root.flags] 45))
  have ck:=(hb0.out.cell (p:=⟨kb,0,none⟩) (World.block_lt_of_cell? _ _ hk)).trans hk
  have cR:=cell_rowL (heap_newL W (.cells #[.string x.key,.int .i64 x.kind,.string x.val,.int .i64 x.run,.int .i64 x.len,.slice ya yn yc,.int .i64 x.dup,.int .i64 x.root.page,.int .i64 x.root.count,.int .i64 x.root.flags] 45))
  show Calls Tryz.prog 57 #[.agg #[.string x.key,.int .i64 x.kind,.string x.val,.int .i64 x.run,.int .i64 x.len,.slice ya yn yc,.int .i64 x.dup,.int .i64 x.root.page,.int .i64 x.root.count,.int .i64 x.root.flags],.pointer (some ⟨kb,0,none⟩)] W _
  clear hk
  go_enter Tryz.func57,Tryz.ntmps57
  go_wp2
  go_ret
  exact ⟨rfl,hb0.out⟩
theorem get1_any (x:ItemD) (ya:Option Addr) (yn yc:Nat) (key:ByteArray) (kb:Nat) (W:World) (hk:W.cell? ⟨kb,0,none⟩ = some (.string key)) :
    Calls Tryz.prog 63 #[.agg (itemCells x (.slice ya yn yc)).toArray,.pointer (some ⟨kb,0,none⟩)] W fun e w' => e = .returned (.bool (x.key.toList == key.toList)) ∧ Below W.heap.size W w':=by
  have hb0:=hidA ((Below.refl W.heap.size W).alloc (Nat.le_refl _) (.cells #[.string x.key,.int .i64 x.kind,.string x.val,.int .i64 x.run,.int .i64 x.len,.slice ya yn yc,.int .i64 x.dup,.int .i64 x.root.page,.int .i64 x.root.count,.int .i64 x.root.flags] 45))
  have ck:=(hb0.out.cell (p:=⟨kb,0,none⟩) (World.block_lt_of_cell? _ _ hk)).trans hk
  have cR:=cell_rowL (heap_newL W (.cells #[.string x.key,.int .i64 x.kind,.string x.val,.int .i64 x.run,.int .i64 x.len,.slice ya yn yc,.int .i64 x.dup,.int .i64 x.root.page,.int .i64 x.root.count,.int .i64 x.root.flags] 45))
  show Calls Tryz.prog 63 #[.agg #[.string x.key,.int .i64 x.kind,.string x.val,.int .i64 x.run,.int .i64 x.len,.slice ya yn yc,.int .i64 x.dup,.int .i64 x.root.page,.int .i64 x.root.count,.int .i64 x.root.flags],.pointer (some ⟨kb,0,none⟩)] W _
  clear hk
  go_enter Tryz.func63,Tryz.ntmps63
  go_wp2
  go_ret
  exact ⟨rfl,hb0.out⟩
end Go.Proofs.YtdihdchfigemnaaGreat
namespace Go.Proofs.YtdihdchfigemnaaGreat
open Go.RowKit
def idxD (pr:ItemD → Bool) (l:List ItemD):Int:=match l.findIdx? pr with
  | some k => (k:Int)
  | none => -1
theorem items_get {W:World} {ao:Option Addr} {cap:Nat} {l:List ItemD} (h:ItemsAt W (.slice ao l.length cap) l) {k:Nat} (hk:k < l.length):∃ b o ya yn yc,(∀ V,(Instr.indexAt 36 (.slice ao l.length cap) (.int .i64 (k:Int))).run Tryz.prog V = .ok (.pointer (some ⟨b,o,none⟩)) V) ∧ ∀ V,Below W.heap.size W V → V.rangeAt b o (itemCells l[k] (.slice ya yn yc)):=by
  obtain ⟨ao',cap',e,_,h3⟩:=h
  simp only [Value.slice.injEq,true_and] at e
  obtain ⟨rfl,rfl⟩:=e
  obtain ⟨b,o,u,rfl,hb,hr,hs,_⟩:=h3 k hk
  obtain ⟨ya,yn,yc,rfl⟩:=hs.slice
  refine ⟨b,o + k * 10,ya,yn,yc,fun V => ?_,fun V hV => range_below hr hV hb⟩
  rw [run_indexAt_slice (P:=Tryz.prog) V 36 ⟨b,o,none⟩ l.length cap .i64 k Tryz.elemItems,if_pos (by omega),Tryz.sizeItems]
  simp [Result.andThen,Addr.add]
set_option maxRecDepth 10000 in
set_option maxHeartbeats 2000000 in
theorem idx_any (l:List ItemD) (ao:Option Addr) (cap g kb:Nat) (pr:ItemD → Bool) (W:World) (hI:ItemsAt W (.slice ao l.length cap) l) (hl:l.length ≤ 1000) (eg:∀ args w,(callFunc g args).run Tryz.prog w = .ok (.enter g args) w)
    (hg:∀ x ∈ l,∀ ya yn yc V,Below W.heap.size W V → Calls Tryz.prog g #[.agg (itemCells x (.slice ya yn yc)).toArray,.pointer (some ⟨kb,0,none⟩)] V fun e w' => e = .returned (.bool (pr x)) ∧ Below V.heap.size V w') :
    Calls Tryz.prog 62 #[.slice ao l.length cap,.func (.func g) #[] #[.pointer (some ⟨kb,0,none⟩)]] W fun e w' => e = .returned (.int .i64 (idxD pr l)) ∧ Below W.heap.size W w':=by
  have HI:=hidA hI
  have HG:=hidA hg
  clear hI hg
  go_enter Tryz.func62,Tryz.ntmps62
  go_wp2
  go_loopg [8] l.length (fun n v8 wr => ∃ k:Nat,k + n = l.length ∧ v8 = .int .i64 k ∧ Hid (Below W.heap.size W wr) ∧ Hid (∀ j (h:j < l.length),j < k → pr l[j] = false))
  case atStart => exact ⟨0,by omega,rfl,hidA (Below.refl _ _),hidA (fun j _ h => absurd h (by omega))⟩
  case round =>
    obtain ⟨k,hk,rfl,hb,hno⟩:=hrel
    cases gk with
    | zero =>
      obtain rfl:k = l.length:=by omega
      have hz:Hid (idxD pr l = -1):=hidA (by
        have h0:l.findIdx? pr = none:=List.findIdx?_eq_none_iff.2 fun x hx => by
          obtain ⟨j,hj,rfl⟩:=List.getElem_of_mem hx
          exact hno.out j hj hj
        simp only [idxD,h0])
      go_wp2
      go_ret
      exact ⟨by rw [hz.out]; rfl,hb.out⟩
    | succ n =>
      have hkl:k < l.length:=by omega
      obtain ⟨b,o,ya,yn,yc,hix,hr⟩:=items_get HI.out hkl
      have hr:=hr _ hb.out
      have e0:wr.cell? ⟨b,o,none⟩ = some (.string l[k].key):=hr 0 _ rfl
      have e1:wr.cell? ⟨b,o + 1,none⟩ = some (.int .i64 l[k].kind):=hr 1 _ rfl
      have e2:wr.cell? ⟨b,o + 2,none⟩ = some (.string l[k].val):=hr 2 _ rfl
      have e3:wr.cell? ⟨b,o + 3,none⟩ = some (.int .i64 l[k].run):=hr 3 _ rfl
      have e4:wr.cell? ⟨b,o + 4,none⟩ = some (.int .i64 l[k].len):=hr 4 _ rfl
      have e5:wr.cell? ⟨b,o + 5,none⟩ = some (.slice ya yn yc):=hr 5 _ rfl
      have e6:wr.cell? ⟨b,o + 6,none⟩ = some (.int .i64 l[k].dup):=hr 6 _ rfl
      have e7:wr.cell? ⟨b,o + 7,none⟩ = some (.int .i64 l[k].root.page):=hr 7 _ rfl
      have e8:wr.cell? ⟨b,o + 8,none⟩ = some (.int .i64 l[k].root.count):=hr 8 _ rfl
      have e9:wr.cell? ⟨b,o + 9,none⟩ = some (.int .i64 l[k].root.flags):=hr 9 _ rfl
      have hcl:Hid (Calls Tryz.prog g #[.agg #[.string l[k].key,.int .i64 l[k].kind,.string l[k].val,.int .i64 l[k].run,.int .i64 l[k].len,.slice ya yn yc,.int .i64 l[k].dup,.int .i64 l[k].root.page,.int .i64 l[k].root.count,.int .i64 l[k].root.flags],.pointer (some ⟨kb,0,none⟩)] wr fun e w' => e = .returned (.bool (pr l[k])) ∧ Below wr.heap.size wr w'):=hidA (HG.out l[k] (List.getElem_mem hkl) ya yn yc wr hb.out)
      clear hr
      go_wp2_with fail
      refine hcl.out.mono ?_
      rintro e w3 ⟨rfl,hb3⟩
      have hb3:=hidA (hb.out.trans (hb3.mono hb.out.size))
      cases hp:pr l[k] with
      | true =>
        have hz:Hid (idxD pr l = (k:Int)):=hidA (by
          have h0:l.findIdx? pr = some k:=List.findIdx?_eq_some_iff_getElem.2 ⟨hkl,hp,fun j hj => by simpa using hno.out j (by omega) hj⟩
          simp only [idxD,h0])
        go_wp2
        go_ret
        exact ⟨by rw [hz.out]; rfl,hb3.out⟩
      | false =>
        have hno2:Hid (∀ j (h:j < l.length),j < k + 1 → pr l[j] = false):=hidA (fun j h hj => by
          by_cases e:j = k
          · subst e; exact hp
          · exact hno.out j h (by omega))
        go_wp2
        go_roundg n
        case rel => exact ⟨k + 1,by omega,by go_num,hb3,hno2⟩
        case measure => omega
end Go.Proofs.YtdihdchfigemnaaGreat
namespace Go.Proofs.YtdihdchfigemnaaGreat
open Go.RowKit
theorem top_any (x:Int) (W:World):Calls Tryz.prog 61 #[.int .i64 x] W fun e w' => e = .returned (.agg #[.int .i64 x,.int .i64 1]) ∧ Below W.heap.size W w':=by
  go_enter Tryz.func61,Tryz.ntmps61
  go_wp2
  refine bodyPost_ret (v:=.agg #[.int .i64 x,.int .i64 1]) (by simp [results,Tryz.results61,go_sem]) rfl ⟨rfl,?_⟩
  exact (Below.refl _ _).alloc (Nat.le_refl _) _
def foundI (o:Option Nat):ItemD:=match o with
  | some y => it2 y
  | none => noItem
def foundE (o:Option Nat):Value:=match o with
  | some _ => .nilIface
  | none => .iface 64 (.int .i64 21)
def Fnd (o:Option Nat) (e:Ending):Prop:=∃ ya yn yc,e = .returned (.tuple #[.agg (itemCells (foundI o) (.slice ya yn yc)).toArray,foundE o])
theorem find_first {fr:Nat → Bool} {L P l R:List Nat} {k:Nat} (hL:L = P ++ l ++ R) (hP:∀ y ∈ P,fr y = false) (hk:k < l.length) (hf:fr l[k] = true) (hb:∀ j (h:j < l.length),j < k → fr l[j] = false):L.find? fr = some l[k]:=by
  subst hL
  have h1:P.find? fr = none:=List.find?_eq_none.2 fun y hy => by simp [hP y hy]
  have h2:l.find? fr = some l[k]:=List.find?_eq_some_iff_getElem.2 ⟨hf,k,hk,rfl,fun j hj => by simp [hb j (by omega) hj]⟩
  rw [List.append_assoc,List.find?_append,h1,List.find?_append,h2]
  rfl
theorem find_none {fr:Nat → Bool} {L:List Nat} (h:∀ y ∈ L,fr y = false):L.find? fr = none:=List.find?_eq_none.2 fun y hy => by simp [h y hy]
theorem idx_cases {pr:ItemD → Bool} {gr:Nat → Bool} {l:List Nat} (h:∀ y ∈ l,pr (it2 y) = gr y) :
    (∃ k,∃ hk:k < l.length,idxD pr (l.map it2) = (k:Int) ∧ gr l[k] = true ∧ (∀ j (hj:j < l.length),j < k → gr l[j] = false) ∧ l.find? gr = some l[k]) ∨ (idxD pr (l.map it2) = -1 ∧ l.find? gr = none ∧ ∀ y ∈ l,gr y = false):=by
  unfold idxD
  rw [List.findIdx?_map]
  cases hf:l.findIdx? (pr ∘ it2) with
  | none =>
    have h0:∀ y ∈ l,gr y = false:=fun y hy => by
      have:=List.findIdx?_eq_none_iff.1 hf y hy
      rw [← h y hy]
      exact this
    exact .inr ⟨rfl,find_none h0,h0⟩
  | some k =>
    obtain ⟨hk,h1,h2⟩:=List.findIdx?_eq_some_iff_getElem.1 hf
    have g1:gr l[k] = true:=by
      rw [← h _ (List.getElem_mem hk)]
      exact h1
    have g2:∀ j (hj:j < l.length),j < k → gr l[j] = false:=fun j hj hjk => by
      rw [← h _ (List.getElem_mem hj)]
      simpa using h2 j hjk
    refine .inl ⟨k,hk,rfl,g1,g2,?_⟩
    exact find_first (P:=[]) (R:=[]) (by simp) (by simp) hk g1 g2
end Go.Proofs.YtdihdchfigemnaaGreat
namespace Go.Proofs.YtdihdchfigemnaaGreat
open Go.RowKit
def StF (ps:List PageD) (L:List Nat) (le fr:Nat → Bool) (t:Nat) (root:Int):Nat → Int × Nat → Prop
  | 2,q => q = (root,1) ∧ ((root = 0 ∧ L = []) ∨ ∃ i0 d0,root = num i0 ∧ Way ps L le t i0 d0 1 L (0,0))
  | 1,q => ∃ P Lb,L = P ++ Lb ∧ (∀ y ∈ P,fr y = false) ∧ (∀ y ∈ Lb,le y = false) ∧ Beside ps t Lb q
  | _,_ => False
set_option maxRecDepth 100000 in
set_option maxHeartbeats 4000000 in
theorem first_way {X:World} {sb:Nat} {ps:List PageD} (hR:Rd X sb ps) (hps:∀ i (h:i < ps.length),NumP ps[i]) {L:List Nat} {le fr:Nat → Bool} {t:Nat} {root:Int} (key:ByteArray) (hkey:∀ m,m < 256 → leB (key2 m) key = le m) (hm:∀ a b,a ≤ b → b < 256 → le b = true → le a = true)
    (hWy:(root = 0 ∧ L = []) ∨ ∃ i0 d0,root = num i0 ∧ Way ps L le t i0 d0 1 L (0,0)) (ht:t ≤ 8) (hL:∀ y ∈ L,y < 256) (hf1:∀ y ∈ L,le y = false → fr y = true) (hf2:∀ y ∈ L,∀ m,y < m → m < 256 → le m = true → fr y = false) (g kb:Nat) (pr:ItemD → Bool) (hpr:∀ y,y < 256 → pr (it2 y) = fr y) (eg:∀ args w,(callFunc g args).run Tryz.prog w = .ok (.enter g args) w) (W:World) (hW:Below X.heap.size X W)
    (hg:∀ x ya yn yc V,Below W.heap.size W V → Calls Tryz.prog g #[.agg (itemCells x (.slice ya yn yc)).toArray,.pointer (some ⟨kb,0,none⟩)] V fun e w' => e = .returned (.bool (pr x)) ∧ Below V.heap.size V w') :
    Calls Tryz.prog 55 #[.pointer (some ⟨sb,0,none⟩),.int .i64 root,.string key,.func (.func g) #[] #[.pointer (some ⟨kb,0,none⟩)]] W fun e W' =>
      Fnd (L.find? fr) e ∧ Below W.heap.size W W':=by
  have hRR:=hidA hR
  have hps':=hidA hps
  have hky:=hidA hkey
  have hmm:=hidA hm
  have hW0:=hidA hWy
  have ht':=hidA ht
  have hLH:=hidA hL
  have h1H:=hidA hf1
  have h2H:=hidA hf2
  have hprH:=hidA hpr
  have hWW:=hidA hW
  have HG:=hidA hg
  have hD:=hidA (fun (V:World) (hV:Below X.heap.size X V) (j d lo hi dep:Nat) (top:Bool) (Lj Ij:List Nat) (hT:TreeAt ps d j lo hi top Lj Ij) (hh:hi ≤ 256) (hdt:dep + d ≤ 8) => down_way hR hps key hkey hm (way_start (le:=le) (dep:=dep) hT hh) hdt V hV)
  clear hR hps hkey hm hWy ht hL hf1 hf2 hpr hW hg
  obtain ⟨B,hB⟩:∃ B,W.heap.size = B:=⟨_,rfl⟩
  have hb0:=hidA ((Below.refl W.heap.size W).alloc (Nat.le_refl _) (.cells #[.string ⟨#[]⟩,.int .i64 0,.string ⟨#[]⟩,.int .i64 0,.int .i64 0,.slice none 0 0,.int .i64 0,.int .i64 0,.int .i64 0,.int .i64 0] 45))
  have hZ0:=hidA (heap_newL W (.cells #[.string ⟨#[]⟩,.int .i64 0,.string ⟨#[]⟩,.int .i64 0,.int .i64 0,.slice none 0 0,.int .i64 0,.int .i64 0,.int .i64 0,.int .i64 0] 45))
  rw [hB] at hZ0
  go_enter Tryz.func55,Tryz.ntmps55
  go_wp2_with fail
  refine (top_any root _).mono ?_
  rintro e w1 ⟨rfl,hb1⟩
  have hbA:=hidA (hb0.out.trans (hb1.mono hb0.out.size))
  have hZ1:=hidA ((hb1.block _ (F.lt_of_heap hZ0.out)).trans hZ0.out)
  clear hb1 hb0 hZ0
  have hb2:=hidA (hbA.out.trans (((Below.refl w1.heap.size w1).alloc (Nat.le_refl _) (.cells #[.int .i64 root,.int .i64 1] 121)).mono hbA.out.size))
  have hZ2:=hidA ((Below.heap_alloc w1 (.cells #[.int .i64 root,.int .i64 1] 121) _ (F.lt_of_heap hZ1.out)).trans hZ1.out)
  have hT2:=hidA (heap_newL w1 (.cells #[.int .i64 root,.int .i64 1] 121))
  go_wp2
  go_loopg [10] 2 (fun n v10 wr => ∃ (b10:Nat) (q:Int × Nat),v10 = .pointer (some ⟨b10,0,none⟩) ∧ Hid (wr.heap[b10]? = some (.cells #[.int .i64 q.1,.int .i64 (q.2:Int)] 121 (0,0))) ∧ Hid (wr.heap[B]? = some (.cells #[.string ⟨#[]⟩,.int .i64 0,.string ⟨#[]⟩,.int .i64 0,.int .i64 0,.slice none 0 0,.int .i64 0,.int .i64 0,.int .i64 0,.int .i64 0] 45 (0,0))) ∧ Hid (Below W.heap.size W wr) ∧ Hid (StF ps L le fr t root n q) ∧ Hid (W.heap.size ≤ b10))
  case atStart => exact ⟨_,(root,1),rfl,hT2,hZ2,hb2,hidA ⟨rfl,hW0.out⟩,hidA hbA.out.size⟩
  case round =>
    obtain ⟨b10,q,rfl,hT,hZ,hb,hSt,hB10⟩:=hrel
    have c10:=cell_rowL hT.out
    have hcase:((∃ d,q = (0,d)) ∧ Hid (L.find? fr = none)) ∨ ∃ (j d dep lo hi:Nat) (top:Bool) (P Lj Ij r:List Nat),q = (num j,dep) ∧ Hid (TreeAt ps d j lo hi top Lj Ij) ∧ Hid (hi ≤ 256) ∧ Hid (dep + d = t) ∧ Hid (L = P ++ Lj ++ r) ∧ Hid (∀ y ∈ P,fr y = false) ∧ Hid ((gk = 2 ∧ r = []) ∨ (gk = 1 ∧ ∀ y ∈ Lj,le y = false)):=by
      match gk,hSt.out with
      | 2,h =>
        obtain ⟨rfl,⟨rfl,hw⟩ | ⟨i0,d0,rfl,hw⟩⟩:=h
        · exact .inl ⟨⟨1,rfl⟩,hidA (by rw [hw]; rfl)⟩
        obtain ⟨h1,top,lo,hi,I,h2,h3⟩:=way_here hw
        exact .inr ⟨i0,d0,1,lo,hi,top,[],L,I,[],rfl,hidA h2,hidA h3,hidA h1,hidA (by simp),hidA (by simp),hidA (.inl ⟨rfl,rfl⟩)⟩
      | 1,h =>
        obtain ⟨P,Lb,h1,h2,h3,h4⟩:=h
        rcases h4 with ⟨rfl,rfl⟩ | ⟨j,dj,lo,hi,Lj,Ij,r,e1,e2,e3,e4,rfl⟩
        · exact .inl ⟨⟨0,rfl⟩,hidA (find_none (by rw [h1]; simpa using h2))⟩
        · exact .inr ⟨j,dj,q.2,lo,hi,false,P,Lj,Ij,r,by rw [← e1],hidA e3,hidA e4,hidA e2,hidA (by rw [h1]; simp),hidA h2,hidA (.inr ⟨rfl,fun y hy => h3 y (by simp [hy])⟩)⟩
    rcases hcase with ⟨⟨d0,rfl⟩,hfn⟩ | ⟨j,d,dep,lo,hi,top,P,Lj,Ij,r,rfl,hTj,hhi,hdt,hLe,hPf,hgk⟩
    · have cB:=cell_rowL hZ.out
      have fB:=frozen_rowL hZ.out
      have hBl:=hidA (show W.heap.size ≤ B by rw [hB]; exact Nat.le_refl _)
      go_wp2
      refine bodyPost_ret (v:=.tuple #[.agg #[.string ⟨#[]⟩,.int .i64 0,.string ⟨#[]⟩,.int .i64 0,.int .i64 0,.slice none 0 0,.int .i64 0,.int .i64 0,.int .i64 0,.int .i64 0],.iface 64 (.int .i64 21)]) (by simp [results,Tryz.results55,go_sem,cB]) rfl ⟨by rw [hfn.out]; exact ⟨none,0,0,rfl⟩,?_⟩
      repeat (refine Below.setCell ?_ (by simp) _)
      rw [← hB]
      exact hb.out
    · have hn0:(num j != 0) = true:=by simp [num]; omega
      have CD:=hidA (hD.out wr (hWW.out.trans (hb.out.mono hWW.out.size)) j d lo hi dep top Lj Ij hTj.out hhi.out (by rw [hdt.out]; exact ht'.out))
      go_wp2_with fail
      refine CD.out.mono ?_
      rintro e w3 ⟨l,La,Lb,q',u,rfl,hIt,hLj,hl4,hl1,hl256,hLa,hLb,hBs,hb3⟩
      clear CD c10 hn0
      have hI3:=hIt w3 ⟨Nat.le_refl _,fun _ _ _ => rfl⟩
      obtain ⟨ao,cap,rfl,_⟩:=id hI3
      have hbn:=hidA (show Below w3.heap.size w3 (w3.alloc (.cells #[.int .i64 q'.1,.int .i64 (q'.2:Int)] 121)) from (Below.refl _ _).alloc (Nat.le_refl _) _)
      have hI4:=hidA (hI3.below hbn.out)
      have hT4:=hidA (heap_newL w3 (.cells #[.int .i64 q'.1,.int .i64 (q'.2:Int)] 121))
      have hb4:=hidA ((hb.out.trans (hb3.mono hb.out.size)).trans (hbn.out.mono (Nat.le_trans hb.out.size hb3.size)))
      have hZ4:=hidA ((hbn.out.block _ (Nat.lt_of_lt_of_le (F.lt_of_heap hZ.out) hb3.size)).trans ((hb3.block _ (F.lt_of_heap hZ.out)).trans hZ.out))
      have hT10:=hidA ((hbn.out.block _ (Nat.lt_of_lt_of_le (F.lt_of_heap hT.out) hb3.size)).trans ((hb3.block _ (F.lt_of_heap hT.out)).trans hT.out))
      have hLj:=hidA hLj
      have hl1:=hidA hl1
      have hl4:=hidA hl4
      have hl256:=hidA hl256
      have hLa:=hidA hLa
      have hLb:=hidA hLb
      have hBs:=hidA hBs
      obtain ⟨ls,hls⟩:∃ ls,Hid (ls = l.map it2):=⟨_,hidA rfl⟩
      rw [← hls.out] at hI4 ⊢
      have hll:=hidA (show ls.length ≤ 4 by rw [hls.out,List.length_map]; exact hl4.out)
      clear hIt hI3 hb3 hbn
      have hpq:Hid (∀ y ∈ l,pr (it2 y) = fr y):=hidA (fun y hy => hprH.out y (hl256.out y hy))
      have hic:=hidA (idx_cases hpq.out)
      rw [← hls.out] at hic
      have hPL:Hid (∀ y ∈ P ++ La,fr y = false):=hidA (fun y hy => by
        rcases List.mem_append.1 hy with h | h
        · exact hPf.out y h
        · obtain ⟨m,m1,m2,m3⟩:=hLa.out y h
          exact h2H.out y (by rw [hLe.out,hLj.out]; simp [h]) m m1 m2 m3)
      have hLL:Hid (L = (P ++ La) ++ l ++ (Lb ++ r)):=hidA (by rw [hLe.out,hLj.out]; simp)
      have CI:=hidA (idx_any ls ao cap g kb pr _ hI4.out (by have:=hll.out; omega) eg (fun x _ ya yn yc V hV => HG.out x ya yn yc V (hb4.out.trans (hV.mono hb4.out.size))))
      clear hpq
      go_wp2_with fail
      refine CI.out.mono ?_
      rintro e w5 ⟨rfl,hb5⟩
      have hI5:=hidA (hI4.out.below hb5)
      have hbB:=hidA (hb4.out.trans (hb5.mono hb4.out.size))
      have hZ5:=hidA ((hb5.block _ (F.lt_of_heap hZ4.out)).trans hZ4.out)
      have hT5:=hidA ((hb5.block _ (F.lt_of_heap hT4.out)).trans hT4.out)
      have hS5:=hidA ((hb5.block _ (F.lt_of_heap hT10.out)).trans hT10.out)
      clear CI hI4 hb4 hb5 hZ4 hT4 hT10
      have hBl:=hidA (show W.heap.size ≤ B by rw [hB]; exact Nat.le_refl _)
      rcases hic.out with ⟨k,hk,e1,g1,g2,e2⟩ | ⟨e1,e2,g0⟩
      · rw [e1]
        have hkm:k < ls.length:=by rw [hls.out,List.length_map]; exact hk
        obtain ⟨b,o,ya,yn,yc,hix,hr⟩:=items_get hI5.out hkm
        have hr:=hr _ (Below.refl _ _)
        have ex:ls[k] = it2 l[k]:=by simp only [hls.out,List.getElem_map]
        rw [ex] at hr
        have hfd:=hidA (find_first hLL.out hPL.out hk g1 g2)
        generalize hxx:it2 l[k] = x at *
        have q0:w5.cell? ⟨b,o,none⟩ = some (.string x.key):=hr 0 _ rfl
        have q1:w5.cell? ⟨b,o + 1,none⟩ = some (.int .i64 x.kind):=hr 1 _ rfl
        have q2:w5.cell? ⟨b,o + 2,none⟩ = some (.string x.val):=hr 2 _ rfl
        have q3:w5.cell? ⟨b,o + 3,none⟩ = some (.int .i64 x.run):=hr 3 _ rfl
        have q4:w5.cell? ⟨b,o + 4,none⟩ = some (.int .i64 x.len):=hr 4 _ rfl
        have q5:w5.cell? ⟨b,o + 5,none⟩ = some (.slice ya yn yc):=hr 5 _ rfl
        have q6:w5.cell? ⟨b,o + 6,none⟩ = some (.int .i64 x.dup):=hr 6 _ rfl
        have q7:w5.cell? ⟨b,o + 7,none⟩ = some (.int .i64 x.root.page):=hr 7 _ rfl
        have q8:w5.cell? ⟨b,o + 8,none⟩ = some (.int .i64 x.root.count):=hr 8 _ rfl
        have q9:w5.cell? ⟨b,o + 9,none⟩ = some (.int .i64 x.root.flags):=hr 9 _ rfl
        have cB:=cell_rowL hZ5.out
        have fB:=frozen_rowL hZ5.out
        have hk1:(decide ((k:Int) < 0)) = false:=by simp
        clear e1 e2 ex hic
        go_wp2
        refine bodyPost_ret (v:=.tuple #[.agg #[.string x.key,.int .i64 x.kind,.string x.val,.int .i64 x.run,.int .i64 x.len,.slice ya yn yc,.int .i64 x.dup,.int .i64 x.root.page,.int .i64 x.root.count,.int .i64 x.root.flags],.nilIface]) (by simp [results,Tryz.results55,go_sem,cB]) rfl ⟨by rw [hfd.out]; exact ⟨ya,yn,yc,by rw [← hxx]; rfl⟩,?_⟩
        repeat (refine Below.setCell ?_ (by simpa using hBl.out) _)
        exact hbB.out
      · have hg2:gk = 2 ∧ r = []:=by
          rcases hgk.out with h | ⟨_,ha⟩
          · exact h
          · exfalso
            have hm0:l[0]'(hl1.out) ∈ l:=List.getElem_mem _
            have hmj:l[0]'(hl1.out) ∈ Lj:=by rw [hLj.out]; simp
            have h5:=h1H.out _ (by rw [hLe.out]; simp [hmj]) (ha _ hmj)
            rw [g0 _ hm0] at h5
            cases h5
        obtain ⟨rfl,rfl⟩:=hg2
        rw [e1]
        have c10:=cell_rowL hS5.out
        have f10:=frozen_rowL hS5.out
        have c12:=cell_rowL hT5.out
        have hSt1:Hid (StF ps L le fr t root 1 q'):=hidA ⟨(P ++ La) ++ l,Lb ++ [],hLL.out,fun y hy => by
          rcases List.mem_append.1 hy with h | h
          · exact hPL.out y h
          · exact g0 y h,fun y hy => hLb.out y (by simpa using hy),by rw [List.append_nil,← hdt.out]; exact hBs.out⟩
        have hne:B ≠ b10:=fun e => by
          have h5:=hZ5.out
          rw [e,hS5.out] at h5
          simp at h5
        clear e1 e2 hic g0
        go_wp2
        go_roundg 1
        case rel =>
          refine ⟨w5.heap.size,q',rfl,hidA ?_,hidA ?_,hidA ?_,hSt1,hidA hbB.out.size⟩
          · have h5:=heap_newL ((w5.setCell ⟨b10,0,none⟩ (.int .i64 q'.1)).setCell ⟨b10,1,none⟩ (.int .i64 (q'.2:Int))) (.cells #[.int .i64 q'.1,.int .i64 (q'.2:Int)] 121)
            simpa using h5
          · exact (Below.heap_alloc _ _ _ (by simpa using F.lt_of_heap hZ5.out)).trans ((Below.heap_setCell _ _ _ _ (show B ≠ b10 from hne)).trans ((Below.heap_setCell _ _ _ _ (show B ≠ b10 from hne)).trans hZ5.out))
          · exact ((hbB.out.setCell (by simpa using hB10.out) _).setCell (by simpa using hB10.out) _).alloc (by simpa using hbB.out.size) _
        case measure => omega
end Go.Proofs.YtdihdchfigemnaaGreat

import Derived.Deep.RegionWith
import Derived.Test.YtbghhklbfnplbaaGreatC00
import Derived.Test.YtbghhklbfnplbaaGreatC47
import Derived.Test.YtbghhklbfnplbaaGreatC03
import Derived.Test.YtbghhklbfnplbaaGreatC14
set_option maxHeartbeats 2000000
set_option maxRecDepth 10000
namespace Go.Proofs.YtbghhklbfnplbaaGreat
section
open Go.RowKit Go.Sort Go.Conc
open H (Up up_ext mergeL dropL Fit RunI RunIs OwnInts RowAt)
theorem hidS {p:Prop} (h:p):Hid p:=h
def bytesAt (s:StD) (L:List F.Sh) (x:Int):ByteArray:=if s.dirty.contains x then s.sh x else F.readL L x
def readS (s:StD) (L:List F.Sh) (x:Int):PageD × Int:=
 if x<2∨(s.most:Int)≤x then (noPage,14) else (readD (bytesAt s L x).data.toList,if okR (bytesAt s L x).data.toList then 0 else 12)
theorem readE_errV (l:List UInt8):readE l=errV (if okR l then 0 else 12):=by
 unfold readE
 cases okR l<;>rfl
def ShOk (L:List F.Sh):Prop:=∀ t∈L,t.now.size≤100000000000
theorem readL_small {L:List F.Sh} (h:ShOk L) (x:Int):(F.readL L x).size≤100000000000:=by
 unfold F.readL
 split
 ·rcases Nat.lt_or_ge x.toNat L.length with hl|hl
  ·rw[show L.getD x.toNat F.noSh=L[x.toNat] by simp[List.getD,hl]]
   exact h _ (List.getElem_mem hl)
  ·rw[show L.getD x.toNat F.noSh=F.noSh by simp[List.getD,List.getElem?_eq_none hl]]
   simp[F.noSh,ByteArray.size]
 ·simp[ByteArray.size]
theorem read_cells (b:ByteArray) (W:World) (hs:b.size≤100000000000) :
  Calls Tryz.prog 103 #[.string b] W fun e w'=>∃ (p:PageD) (vi vk vd vv vg:Value),e=.returned (.tuple #[.agg #[.int .i64 p.kind,vi,vk,vd,.string p.text,vv,vg,.int .i64 p.next,.int .u64 p.mt.txn,.int .i64 p.mt.main.page,.int .i64 p.mt.main.count,.int .i64 p.mt.main.flags,.int .i64 p.mt.free,.int .i64 p.mt.last],readE b.data.toList])∧p=readD b.data.toList∧(∀ V,Agree W.heap.size w' V→Hangs V p vi vk vd vv vg)∧Below W.heap.size W w':=by
 refine (read_new b W (by unfold maxLen;omega)).mono ?_
 rintro e w' ⟨vi,vk,vd,vv,vg,rfl,h1,h2⟩
 exact⟨_,vi,vk,vd,vv,vg,rfl,rfl,h1,h2⟩
theorem agree_set {base R:Nat} {a b c:World} (hR:R<base) (hg:a.grownBy b (some R)) (h:Agree R b c):Agree base a c:=
 ⟨qN hg.size h.1,fun q h1 h2=>(h.2 q (by omega) (qM h2 hg.size)).trans (hg.block q h2 (by simp;omega))⟩
section
variable {w:World} {sb mb fb:Nat} {s:StD} {vf va:Value}
theorem read_st_no (h:StoreAt w sb mb fb s vf va) (x:Int) (hno:x<2∨(s.most:Int)≤x) :
  Calls Tryz.prog 80 #[.pointer (some ⟨sb,0,none⟩),.int .i64 x] w fun e w'=>e=.returned (.tuple #[.agg #[.int .i64 0,.slice none 0 0,.slice none 0 0,.slice none 0 0,.string ⟨#[]⟩,.slice none 0 0,.slice none 0 0,.int .i64 0,.int .u64 0,.int .i64 0,.int .i64 0,.int .i64 0,.int .i64 0,.int .i64 0],.iface 62 (.int .i64 14)])∧Below w.heap.size w w':=by
 have hc:∀ j,(w.alloc (.cells #[.int .i64 0,.slice none 0 0,.slice none 0 0,.slice none 0 0,.string ⟨#[]⟩,.slice none 0 0,.slice none 0 0,.int .i64 0,.int .u64 0,.int .i64 0,.int .i64 0,.int .i64 0,.int .i64 0,.int .i64 0] 59)).cell? ⟨sb,j,none⟩=(#[.pointer (some ⟨fb,0,none⟩),.int .i64 (s.last:Int),.int .i64 (s.most:Int),.map (some mb),vf,va]:Array Value)[j]?:=(h.alloc _).cells
 have hb0:=hidS ((qB w.heap.size w).alloc qL (.cells #[.int .i64 0,.slice none 0 0,.slice none 0 0,.slice none 0 0,.string ⟨#[]⟩,.slice none 0 0,.slice none 0 0,.int .i64 0,.int .u64 0,.int .i64 0,.int .i64 0,.int .i64 0,.int .i64 0,.int .i64 0] 59))
 have cR:=cell_rowL (heap_newL w (.cells #[.int .i64 0,.slice none 0 0,.slice none 0 0,.slice none 0 0,.string ⟨#[]⟩,.slice none 0 0,.slice none 0 0,.int .i64 0,.int .u64 0,.int .i64 0,.int .i64 0,.int .i64 0,.int .i64 0,.int .i64 0] 59))
 clear h
 by_cases h2:x<2
 ·have d1:decide (x<2)=true:=by simpa using h2
  clear h2 hno
  go_enter Tryz.func80,Tryz.ntmps80
  go_wp2
  refine bodyPost_ret (v:=.tuple #[.agg #[.int .i64 0,.slice none 0 0,.slice none 0 0,.slice none 0 0,.string ⟨#[]⟩,.slice none 0 0,.slice none 0 0,.int .i64 0,.int .u64 0,.int .i64 0,.int .i64 0,.int .i64 0,.int .i64 0,.int .i64 0],.iface 62 (.int .i64 14)]) (by simp[results,Tryz.results80,go_sem,cR]) rfl ⟨rfl,?_⟩
  repeat (refine Below.setCell ?_ (by simp) _)
  exact hb0.out
 ·have d1:decide (x<2)=false:=by simpa using h2
  have d2:decide (x ≥ (s.most:Int))=true:=by simp;omega
  clear h2 hno
  go_enter Tryz.func80,Tryz.ntmps80
  go_wp2
  refine bodyPost_ret (v:=.tuple #[.agg #[.int .i64 0,.slice none 0 0,.slice none 0 0,.slice none 0 0,.string ⟨#[]⟩,.slice none 0 0,.slice none 0 0,.int .i64 0,.int .u64 0,.int .i64 0,.int .i64 0,.int .i64 0,.int .i64 0,.int .i64 0],.iface 62 (.int .i64 14)]) (by simp[results,Tryz.results80,go_sem,cR]) rfl ⟨rfl,?_⟩
  repeat (refine Below.setCell ?_ (by simp) _)
  exact hb0.out
theorem read_st_in (h:StoreAt w sb mb fb s vf va) {B:Nat} {fv:Value} {L:List F.Sh} (hf:F.FileAt w B fb fv L) (hL:ShOk L) (x:Int) (hx:InI x) (h2:2≤x) (hm:x<(s.most:Int)) :
  Calls Tryz.prog 80 #[.pointer (some ⟨sb,0,none⟩),.int .i64 x] w fun e w'=>∃ vi vk vd vv vg,e=.returned (.tuple #[.agg (pageCells (readD (bytesAt s L x).data.toList) vi vk vd vv vg).toArray,readE (bytesAt s L x).data.toList])∧(∀ W,Agree w.heap.size w' W→Hangs W (readD (bytesAt s L x).data.toList) vi vk vd vv vg)∧Below w.heap.size w w':=by
 have h1:=h.alloc (.cells #[.int .i64 0,.slice none 0 0,.slice none 0 0,.slice none 0 0,.string ⟨#[]⟩,.slice none 0 0,.slice none 0 0,.int .i64 0,.int .u64 0,.int .i64 0,.int .i64 0,.int .i64 0,.int .i64 0,.int .i64 0] 59)
 have hc:∀ j,(w.alloc (.cells #[.int .i64 0,.slice none 0 0,.slice none 0 0,.slice none 0 0,.string ⟨#[]⟩,.slice none 0 0,.slice none 0 0,.int .i64 0,.int .u64 0,.int .i64 0,.int .i64 0,.int .i64 0,.int .i64 0,.int .i64 0] 59)).cell? ⟨sb,j,none⟩=(#[.pointer (some ⟨fb,0,none⟩),.int .i64 (s.last:Int),.int .i64 (s.most:Int),.map (some mb),vf,va]:Array Value)[j]?:=h1.cells
 have hl0:=h1.dirty.look hx
 have hb0:=hidS ((qB w.heap.size w).alloc qL (.cells #[.int .i64 0,.slice none 0 0,.slice none 0 0,.slice none 0 0,.string ⟨#[]⟩,.slice none 0 0,.slice none 0 0,.int .i64 0,.int .u64 0,.int .i64 0,.int .i64 0,.int .i64 0,.int .i64 0,.int .i64 0] 59))
 have hR0:=heap_newL w (.cells #[.int .i64 0,.slice none 0 0,.slice none 0 0,.slice none 0 0,.string ⟨#[]⟩,.slice none 0 0,.slice none 0 0,.int .i64 0,.int .u64 0,.int .i64 0,.int .i64 0,.int .i64 0,.int .i64 0,.int .i64 0] 59)
 have hs0:(w.alloc (.cells #[.int .i64 0,.slice none 0 0,.slice none 0 0,.slice none 0 0,.string ⟨#[]⟩,.slice none 0 0,.slice none 0 0,.int .i64 0,.int .u64 0,.int .i64 0,.int .i64 0,.int .i64 0,.int .i64 0,.int .i64 0] 59)).heap.size=w.heap.size+1:=by simp
 have d1:decide (x<2)=false:=by simpa using h2
 have d2:decide (x ≥ (s.most:Int))=false:=by simp;omega
 have hf1:=hf.alloc (.cells #[.int .i64 0,.slice none 0 0,.slice none 0 0,.slice none 0 0,.string ⟨#[]⟩,.slice none 0 0,.slice none 0 0,.int .i64 0,.int .u64 0,.int .i64 0,.int .i64 0,.int .i64 0,.int .i64 0,.int .i64 0] 59)
 have hsm:Hid ((bytesAt s L x).size≤100000000000):=hidS (by unfold bytesAt;split;exact h.ok.small x;exact readL_small hL x)
 unfold bytesAt at hsm ⊢
 cases hd:s.dirty.contains x with
 | true=>
   rw[hd] at hl0 hsm
   simp only[↓reduceIte] at hl0 hsm ⊢
   generalize s.sh x=SB at *
   have HX:=hidS hR0
   have hbY:=hidS ((qB (w.alloc (.cells #[.int .i64 0,.slice none 0 0,.slice none 0 0,.slice none 0 0,.string ⟨#[]⟩,.slice none 0 0,.slice none 0 0,.int .i64 0,.int .u64 0,.int .i64 0,.int .i64 0,.int .i64 0,.int .i64 0,.int .i64 0] 59)).heap.size (w.alloc (.cells #[.int .i64 0,.slice none 0 0,.slice none 0 0,.slice none 0 0,.string ⟨#[]⟩,.slice none 0 0,.slice none 0 0,.int .i64 0,.int .u64 0,.int .i64 0,.int .i64 0,.int .i64 0,.int .i64 0,.int .i64 0] 59))).alloc qL (.cells #[.string SB] 180))
   have hsY:Hid (((w.alloc (.cells #[.int .i64 0,.slice none 0 0,.slice none 0 0,.slice none 0 0,.string ⟨#[]⟩,.slice none 0 0,.slice none 0 0,.int .i64 0,.int .u64 0,.int .i64 0,.int .i64 0,.int .i64 0,.int .i64 0,.int .i64 0] 59)).alloc (.cells #[.string SB] 180)).heap.size=w.heap.size+2):=hidS (by simp[hs0])
   replace hs0:=hidS hs0
   clear h h1 h2 hm hx hf hf1 hL hR0 hd
   go_enter Tryz.func80,Tryz.ntmps80
   go_wp2_with fail
   refine (read_cells SB _ hsm.out).mono ?_
   rintro e w3 ⟨p,vi,vk,vd,vv,vg,rfl,hp,hH,hb3⟩
   have hB3:=hidS (hb0.out.trans ((hbY.out.trans (hb3.mono (by have:=hsY.out;have:=hs0.out;omega))).mono (by have:=hs0.out;omega)))
   have hR3:w3.heap[w.heap.size]?=some (.cells #[.int .i64 0,.slice none 0 0,.slice none 0 0,.slice none 0 0,.string ⟨#[]⟩,.slice none 0 0,.slice none 0 0,.int .i64 0,.int .u64 0,.int .i64 0,.int .i64 0,.int .i64 0,.int .i64 0,.int .i64 0] 59 (0,0)):=(hb3.block w.heap.size (by have:=hsY.out;omega)).trans ((hbY.out.block w.heap.size (by have:=hs0.out;omega)).trans HX.out)
   have cR:=cell_rowL hR3
   have fR:=frozen_rowL hR3
   have hg:=hH w3 ⟨Nat.le_refl _,fun _ _ _=>rfl⟩
   obtain⟨ai,mi,ci,rfl⟩:=hg.items.slice
   obtain⟨ak,mk,ck,rfl⟩:=hg.keys.slice
   obtain⟨ad,md,cd,rfl⟩:=hg.kids.slice
   obtain⟨av,mv,cv,rfl⟩:=hg.vals.slice
   obtain⟨af,mf,cf,rfl⟩:=hg.free.slice
   clear hg
   have HH:=hidS hH
   have HP:=hidS hp
   clear hH hp hb3 hR3 hc hl0
   generalize hE:readE SB.data.toList=er at *
   replace hE:=hidS hE
   go_wp2
   refine bodyPost_ret (v:=.tuple #[.agg #[.int .i64 p.kind,.slice ai mi ci,.slice ak mk ck,.slice ad md cd,.string p.text,.slice av mv cv,.slice af mf cf,.int .i64 p.next,.int .u64 p.mt.txn,.int .i64 p.mt.main.page,.int .i64 p.mt.main.count,.int .i64 p.mt.main.flags,.int .i64 p.mt.free,.int .i64 p.mt.last],er]) (by simp[results,Tryz.results80,go_sem,cR]) rfl ⟨.slice ai mi ci,.slice ak mk ck,.slice ad md cd,.slice av mv cv,.slice af mf cf,by rw[← HP.out,hE.out];rfl,?_,?_⟩
   ·intro V hV
    rw[← HP.out]
    refine HH.out V (agree_set (R:=w.heap.size) (by have:=hsY.out;omega) ?_ hV)
    repeat (refine grown_trans ?_ (grown_setCell _ _ _ _))
    exact grown_refl _ _
   ·repeat (refine Below.setCell ?_ (by simp) _)
    exact hB3.out
 | false=>
   rw[hd] at hl0 hsm
   simp only[Bool.false_eq_true,↓reduceIte] at hl0 hsm ⊢
   have CF:=hidS (fun W (hW:Below (w.alloc (.cells #[.int .i64 0,.slice none 0 0,.slice none 0 0,.slice none 0 0,.string ⟨#[]⟩,.slice none 0 0,.slice none 0 0,.int .i64 0,.int .u64 0,.int .i64 0,.int .i64 0,.int .i64 0,.int .i64 0,.int .i64 0] 59)).heap.size (w.alloc (.cells #[.int .i64 0,.slice none 0 0,.slice none 0 0,.slice none 0 0,.string ⟨#[]⟩,.slice none 0 0,.slice none 0 0,.int .i64 0,.int .u64 0,.int .i64 0,.int .i64 0,.int .i64 0,.int .i64 0,.int .i64 0] 59)) W)=>F.read_any W B fb fv L x (hf1.below hW))
   generalize F.readL L x=SB at *
   have HX:=hidS hR0
   have hbY:=hidS ((qB (w.alloc (.cells #[.int .i64 0,.slice none 0 0,.slice none 0 0,.slice none 0 0,.string ⟨#[]⟩,.slice none 0 0,.slice none 0 0,.int .i64 0,.int .u64 0,.int .i64 0,.int .i64 0,.int .i64 0,.int .i64 0,.int .i64 0] 59)).heap.size (w.alloc (.cells #[.int .i64 0,.slice none 0 0,.slice none 0 0,.slice none 0 0,.string ⟨#[]⟩,.slice none 0 0,.slice none 0 0,.int .i64 0,.int .u64 0,.int .i64 0,.int .i64 0,.int .i64 0,.int .i64 0,.int .i64 0] 59))).alloc qL (.cells #[.string ⟨#[]⟩] 180))
   have hsY:Hid (((w.alloc (.cells #[.int .i64 0,.slice none 0 0,.slice none 0 0,.slice none 0 0,.string ⟨#[]⟩,.slice none 0 0,.slice none 0 0,.int .i64 0,.int .u64 0,.int .i64 0,.int .i64 0,.int .i64 0,.int .i64 0,.int .i64 0] 59)).alloc (.cells #[.string ⟨#[]⟩] 180)).heap.size=w.heap.size+2):=hidS (by simp[hs0])
   have hcY:∀ j,((w.alloc (.cells #[.int .i64 0,.slice none 0 0,.slice none 0 0,.slice none 0 0,.string ⟨#[]⟩,.slice none 0 0,.slice none 0 0,.int .i64 0,.int .u64 0,.int .i64 0,.int .i64 0,.int .i64 0,.int .i64 0,.int .i64 0] 59)).alloc (.cells #[.string ⟨#[]⟩] 180)).cell? ⟨sb,j,none⟩=(#[.pointer (some ⟨fb,0,none⟩),.int .i64 (s.last:Int),.int .i64 (s.most:Int),.map (some mb),vf,va]:Array Value)[j]?:=(h1.alloc _).cells
   replace hs0:=hidS hs0
   clear h h1 h2 hm hx hf hf1 hL hR0 hd
   go_enter Tryz.func80,Tryz.ntmps80
   go_wp2_with fail
   refine (CF.out _ hbY.out).mono ?_
   rintro e w2 ⟨rfl,hw2⟩
   rw[hw2]
   clear hw2
   go_wp2_with fail
   refine (read_cells SB _ hsm.out).mono ?_
   rintro e w3 ⟨p,vi,vk,vd,vv,vg,rfl,hp,hH,hb3⟩
   have hB3:=hidS (hb0.out.trans ((hbY.out.trans (hb3.mono (by have:=hsY.out;have:=hs0.out;omega))).mono (by have:=hs0.out;omega)))
   have hR3:w3.heap[w.heap.size]?=some (.cells #[.int .i64 0,.slice none 0 0,.slice none 0 0,.slice none 0 0,.string ⟨#[]⟩,.slice none 0 0,.slice none 0 0,.int .i64 0,.int .u64 0,.int .i64 0,.int .i64 0,.int .i64 0,.int .i64 0,.int .i64 0] 59 (0,0)):=(hb3.block w.heap.size (by have:=hsY.out;omega)).trans ((hbY.out.block w.heap.size (by have:=hs0.out;omega)).trans HX.out)
   have cR:=cell_rowL hR3
   have fR:=frozen_rowL hR3
   have hg:=hH w3 ⟨Nat.le_refl _,fun _ _ _=>rfl⟩
   obtain⟨ai,mi,ci,rfl⟩:=hg.items.slice
   obtain⟨ak,mk,ck,rfl⟩:=hg.keys.slice
   obtain⟨ad,md,cd,rfl⟩:=hg.kids.slice
   obtain⟨av,mv,cv,rfl⟩:=hg.vals.slice
   obtain⟨af,mf,cf,rfl⟩:=hg.free.slice
   clear hg
   have HH:=hidS hH
   have HP:=hidS hp
   clear hH hp hb3 hR3 hc hcY hl0
   generalize hE:readE SB.data.toList=er at *
   replace hE:=hidS hE
   go_wp2
   refine bodyPost_ret (v:=.tuple #[.agg #[.int .i64 p.kind,.slice ai mi ci,.slice ak mk ck,.slice ad md cd,.string p.text,.slice av mv cv,.slice af mf cf,.int .i64 p.next,.int .u64 p.mt.txn,.int .i64 p.mt.main.page,.int .i64 p.mt.main.count,.int .i64 p.mt.main.flags,.int .i64 p.mt.free,.int .i64 p.mt.last],er]) (by simp[results,Tryz.results80,go_sem,cR]) rfl ⟨.slice ai mi ci,.slice ak mk ck,.slice ad md cd,.slice av mv cv,.slice af mf cf,by rw[← HP.out,hE.out];rfl,?_,?_⟩
   ·intro V hV
    rw[← HP.out]
    refine HH.out V (agree_set (R:=w.heap.size) (by have:=hsY.out;omega) ?_ hV)
    repeat (refine grown_trans ?_ (grown_setCell _ _ _ _))
    exact grown_refl _ _
   ·repeat (refine Below.setCell ?_ (by simp) _)
    exact hB3.out
theorem read_st (h:StoreAt w sb mb fb s vf va) {B:Nat} {fv:Value} {L:List F.Sh} (hf:F.FileAt w B fb fv L) (hL:ShOk L) (x:Int) (hx:InI x) :
  Calls Tryz.prog 80 #[.pointer (some ⟨sb,0,none⟩),.int .i64 x] w fun e w'=>∃ vi vk vd vv vg,e=.returned (.tuple #[.agg (pageCells (readS s L x).1 vi vk vd vv vg).toArray,errV (readS s L x).2])∧(∀ W,Agree w.heap.size w' W→Hangs W (readS s L x).1 vi vk vd vv vg)∧Below w.heap.size w w':=by
 by_cases hno:x<2∨(s.most:Int)≤x
 ·have e1:readS s L x=(noPage,14):=if_pos hno
  rw[e1]
  refine (read_st_no h x hno).mono ?_
  rintro e w' ⟨rfl,hb⟩
  exact⟨_,_,_,_,_,rfl,fun _ _=>⟨items_nil _,strs_nil _,ints_nil _,text_nil_le,strs_nil _,frees_nil _⟩,hb⟩
 ·have e1:readS s L x=(readD (bytesAt s L x).data.toList,if okR (bytesAt s L x).data.toList then 0 else 12):=if_neg hno
  rw[e1]
  simp only[← readE_errV]
  exact read_st_in h hf hL x hx (by omega) (by omega)
end
end
end Go.Proofs.YtbghhklbfnplbaaGreat

import Derived.Deep.MidRow
import Derived.Test.YtbghhklbfnplbaaGreatC00
import Derived.Test.YtbghhklbfnplbaaGreatC16
import Derived.Test.YtbghhklbfnplbaaGreatC24
set_option maxHeartbeats 4000000
set_option maxRecDepth 10000
namespace Go.Proofs.YtbghhklbfnplbaaGreat
section
open Go.RowKit
theorem belowA (w:World) (o:Obj):Below w.heap.size w (w.alloc o):=(qB _ _).alloc qL o
theorem half_any (n:Nat) (hn:n≤1000) (w:World):Calls Tryz.prog 79 #[.int .i64 (n:Int)] w fun e w'=>e=.returned (.int .i64 (((n+1) / 2:Nat):Int))∧w'=w:=by
 have h1:((n:Int)+1).tdiv 2=(((n+1) / 2:Nat):Int):=by
  rw[Int.tdiv_eq_ediv_of_nonneg (by omega)];omega
 go_enter Tryz.func79,Tryz.ntmps79
 go_wp2
 go_ret
 exact⟨by simp,rfl⟩
section
variable {S:Nat→Prop} {w:World} {rb fb:Nat} {s:RSt} {va vf vi vp:Value}
theorem touch_dirty (h:RStAt S w rb fb s va vf vi vp) (x:Int) (hx:0≤placeR s x) :
  Calls Tryz.prog 74 #[.pointer (some ⟨rb,0,none⟩),.int .i64 x] w fun e w'=>e=.returned (.tuple #[.int .i64 x,.int .i64 0])∧w'=w:=by
 have CP:=hidA (place_any h x)
 have d1:decide (placeR s x ≥ 0)=true:=by simpa using hx
 clear h hx
 generalize placeR s x=k at *
 go_enter Tryz.func74,Tryz.ntmps74
 go_wp2_with fail
 refine CP.out.mono ?_
 rintro e w1 ⟨rfl,rfl⟩
 go_wp2
 go_ret2
 exact⟨rfl,rfl⟩
theorem PagesS.get {v:Value} {ps:List PageD} (h:PagesS S w v ps) {k:Nat} (hk:k<ps.length):∃ ao cap u b o,v=.slice ao ps.length cap∧HangsS S w ps[k] u∧(∀ W,(Instr.indexAt 68 (.slice ao ps.length cap) (.int .i64 (k:Int))).run Tryz.prog W=.ok (.pointer (some ⟨b,o+k*14,none⟩)) W)∧b<w.heap.size∧∀ W,Ks S w W→W.rangeAt b (o+k*14) (cellsPV ps[k] u):=by
 obtain⟨ao,cap,us,e,h1,h2,h3⟩:=h
 obtain⟨b,o,ha,hb,hi,_⟩:=h2.here.get (by omega) Tryz.underlying68 Tryz.szPage k hk
 refine⟨ao,cap,us[k]'(by omega),b,o,e,h3 k hk (by omega),hi,hb,fun W hW=>?_⟩
 obtain⟨b',o',ha',_,_,hr⟩:=(h2 W hW).get (by omega) Tryz.underlying68 Tryz.szPage k hk
 rw[ha] at ha'
 simp only[qQ,Addr.mk.injEq,and_true] at ha'
 obtain⟨rfl,rfl⟩:=ha'
 have e2:((rowsPV ps us).drop (k*14)).take 14=cellsPV ps[k] (us[k]'(by omega)):=by
  rw[rowsPV_drop _ _ _ h1,List.drop_eq_getElem_cons hk,List.drop_eq_getElem_cons (show k<us.length by omega),rowsPV]
  rw[List.take_append_of_le_length (by simp[cellsPV_length]),List.take_of_length_le (by simp[cellsPV_length])]
 rw[e2] at hr
 exact hr
theorem rread_dirty (h:RStAt S w rb fb s va vf vi vp) (x:Int) {k:Nat} (hx:placeR s x=(k:Int)) (hk:k<s.ps.length) (h2:2≤x) (hm:x<s.most) (hkind:s.ps[k].kind≠0) :
  ∃ u,HangsS S w s.ps[k] u∧Calls Tryz.prog 75 #[.pointer (some ⟨rb,0,none⟩),.int .i64 x] w fun e w'=>e=.returned (.tuple #[.agg (cellsPV s.ps[k] u).toArray,.int .i64 0])∧Below w.heap.size w w':=by
 have HH:=hidA h
 have c2:w.cell? ⟨rb,2,none⟩=some (.int .i64 s.most):=h.cells 2
 obtain⟨ao,cap,u,b,o,rfl,hu,hix,hb,hr⟩:=h.pages.get hk
 refine⟨u,hu,?_⟩
 have hlt:=hidA h.lt
 clear h
 obtain⟨ui,uk,ud,uv,uf⟩:=u
 obtain⟨⟨ai,ni,ci,e1⟩,⟨ak,nk,ck,e2⟩,⟨ad,nd,cd,e3⟩,⟨av,nv,cv,e4⟩,⟨af,nf,cf,e5⟩⟩:=hu.here.slices
 simp only at e1 e2 e3 e4 e5
 subst e1 e2 e3 e4 e5
 have c6:∀ ob,(w.alloc ob).cell? ⟨rb,6,none⟩=some (.slice ao s.ps.length cap):=fun ob=>(HH.out.below (belowA w ob)).cells 6
 have c2b:∀ ob,(w.alloc ob).cell? ⟨rb,2,none⟩=some (.int .i64 s.most):=fun ob=>(HH.out.below (belowA w ob)).cells 2
 have CP:=hidA (fun ob=>place_any (HH.out.below (belowA w ob)) x)
 have hr0:=hidA (fun ob=>range14 (hr (w.alloc ob) (.below (belowA w ob))))
 have hg:s.ps[k].kind≠0:=hkind
 have hbk:(s.ps[k].kind==0)=false:=by simpa using hg
 have d1:decide (x<2)=false:=by simp;omega
 have d2:decide (x ≥ s.most)=false:=by simp;omega
 have d3:decide ((k:Int) ≥ 0)=true:=by simp
 rw[hx] at CP
 generalize s.ps[k]=p at *
 clear hr HH hm h2 hu hg hkind hx hk
 show Calls Tryz.prog 75 #[.pointer (some ⟨rb,0,none⟩),.int .i64 x] w fun e w'=>e=.returned (.tuple #[.agg #[.int .i64 p.kind,.slice ai ni ci,.slice ak nk ck,.slice ad nd cd,.string p.text,.slice av nv cv,.slice af nf cf,.int .i64 p.next,.int .u64 p.mt.txn,.int .i64 p.mt.main.page,.int .i64 p.mt.main.count,.int .i64 p.mt.main.flags,.int .i64 p.mt.free,.int .i64 p.mt.last],.int .i64 0])∧Below w.heap.size w w'
 obtain⟨r0,r1,r2,r3,r4,r5,r6,r7,r8,r9,r10,r11,r12,r13⟩:=hr0.out (.cells #[.int .i64 0,.slice none 0 0,.slice none 0 0,.slice none 0 0,.string ⟨#[]⟩,.slice none 0 0,.slice none 0 0,.int .i64 0,.int .u64 0,.int .i64 0,.int .i64 0,.int .i64 0,.int .i64 0,.int .i64 0] 59)
 clear hr0
 go_enter Tryz.func75,Tryz.ntmps75
 go_wp2_with fail
 refine (CP.out _).mono ?_
 rintro e w1 ⟨rfl,rfl⟩
 go_wp2
 refine bodyPost_ret (v:=.tuple #[.agg #[.int .i64 p.kind,.slice ai ni ci,.slice ak nk ck,.slice ad nd cd,.string p.text,.slice av nv cv,.slice af nf cf,.int .i64 p.next,.int .u64 p.mt.txn,.int .i64 p.mt.main.page,.int .i64 p.mt.main.count,.int .i64 p.mt.main.flags,.int .i64 p.mt.free,.int .i64 p.mt.last],.int .i64 0]) (by simp[results,Tryz.results75,go_sem]) rfl ⟨rfl,belowA _ _⟩
theorem radd_last (h:RStAt S w rb fb s va vf vi vp) (hS:∀ k,S k→k<w.heap.size) (hrb:S rb) (p:PageD) (u:PV) (hu:HangsS S w p u) (hfr:p.free.length≤1000) (ht:TxnOk p) (hav:s.avail=[]) (hx:∀ y∈s.ids,y<s.last) :
  Calls Tryz.prog 51 #[.pointer (some ⟨rb,0,none⟩),.agg (cellsPV p u).toArray] w fun e w'=>e=.returned (.tuple #[.int .i64 (addR s p).1,.int .i64 (addR s p).2.1])∧∃ vi' vp',RStAt S w' rb fb (addR s p).2.2 va vf vi' vp'∧w.grownBy w' (some rb):=by
 have hav0:=hidA hav
 have HH:=hidA h
 have HU:=hidA hu
 have hlt:=hidA h.lt
 have hok:=hidA h.ok
 have CI:=hidA (fun V (hV:Below w.heap.size w V)=>refIs_any p u.i u.k u.d u.v u.f V (hu.at V (.below hV)) (by omega) ht)
 obtain⟨qa,qc,eva,_⟩:=h.avail
 rw[hav] at eva
 subst eva
 obtain⟨ai0,ci0,rfl,_⟩:=h.ids
 have CD:=hidA (fun V va' vi' s' (hV:RStAt S V rb fb s' va' vf vi' vp) (hK:Ks S w V) (h1:∀ k,S k→k<V.heap.size) (h2:∀ y∈s'.ids,y<s.last) (h3:s'.ids.length≤119)=>dirty_any hV h1 hrb s.last p u (hu.on hK) h2 h3)
 clear h
 obtain⟨ui,uk,ud,uv,uf⟩:=u
 obtain⟨⟨ai,ni,ci,e1⟩,⟨ak,nk,ck,e2⟩,⟨ad,nd,cd,e3⟩,⟨av,nv,cv,e4⟩,⟨af,nf,cf,e5⟩⟩:=hu.here.slices
 simp only at e1 e2 e3 e4 e5
 subst e1 e2 e3 e4 e5
 have hW1:Hid (Below w.heap.size w (w.alloc (.cells #[.int .i64 p.kind,.slice ai ni ci,.slice ak nk ck,.slice ad nd cd,.string p.text,.slice av nv cv,.slice af nf cf,.int .i64 p.next,.int .u64 p.mt.txn,.int .i64 p.mt.main.page,.int .i64 p.mt.main.count,.int .i64 p.mt.main.flags,.int .i64 p.mt.free,.int .i64 p.mt.last] 59))):=hidA (belowA _ _)
 have hS1:=hidA (HH.out.below hW1.out)
 have hc:∀ j,(w.alloc (.cells #[.int .i64 p.kind,.slice ai ni ci,.slice ak nk ck,.slice ad nd cd,.string p.text,.slice av nv cv,.slice af nf cf,.int .i64 p.next,.int .u64 p.mt.txn,.int .i64 p.mt.main.page,.int .i64 p.mt.main.count,.int .i64 p.mt.main.flags,.int .i64 p.mt.free,.int .i64 p.mt.last] 59)).cell? ⟨rb,j,none⟩=(#[.pointer (some ⟨fb,0,none⟩),.int .i64 s.last,.int .i64 s.most,.slice qa 0 qc,vf,.slice ai0 s.ids.length ci0,vp]:Array Value)[j]?:=hS1.out.cells
 have hz:∀ j,(w.alloc (.cells #[.int .i64 p.kind,.slice ai ni ci,.slice ak nk ck,.slice ad nd cd,.string p.text,.slice av nv cv,.slice af nf cf,.int .i64 p.next,.int .u64 p.mt.txn,.int .i64 p.mt.main.page,.int .i64 p.mt.main.count,.int .i64 p.mt.main.flags,.int .i64 p.mt.free,.int .i64 p.mt.last] 59)).frozen? ⟨rb,j,none⟩=false:=hS1.out.frozen
 have cB:=cell_rowL (heap_newL w (.cells #[.int .i64 p.kind,.slice ai ni ci,.slice ak nk ck,.slice ad nd cd,.string p.text,.slice av nv cv,.slice af nf cf,.int .i64 p.next,.int .u64 p.mt.txn,.int .i64 p.mt.main.page,.int .i64 p.mt.main.count,.int .i64 p.mt.main.flags,.int .i64 p.mt.free,.int .i64 p.mt.last] 59))
 show Calls Tryz.prog 51 #[.pointer (some ⟨rb,0,none⟩),.agg #[.int .i64 p.kind,.slice ai ni ci,.slice ak nk ck,.slice ad nd cd,.string p.text,.slice av nv cv,.slice af nf cf,.int .i64 p.next,.int .u64 p.mt.txn,.int .i64 p.mt.main.page,.int .i64 p.mt.main.count,.int .i64 p.mt.main.flags,.int .i64 p.mt.free,.int .i64 p.mt.last]] w _
 have CI2:Hid (∀ V,Below w.heap.size w V→Calls Tryz.prog 40 #[.agg #[.int .i64 p.kind,.slice ai ni ci,.slice ak nk ck,.slice ad nd cd,.string p.text,.slice av nv cv,.slice af nf cf,.int .i64 p.next,.int .u64 p.mt.txn,.int .i64 p.mt.main.page,.int .i64 p.mt.main.count,.int .i64 p.mt.main.flags,.int .i64 p.mt.free,.int .i64 p.mt.last]] V fun e w'=>e=.returned (.bool (isPB p))∧Below V.heap.size V w'):=CI
 clear CI hav
 have hav:=hav0
 unfold addR
 cases hi:isPB p with
 | false=>
   rw[hi] at CI2
   rw[if_pos rfl]
   go_enter Tryz.func51,Tryz.ntmps51
   go_wp2_with fail
   refine (CI2.out _ hW1.out).mono ?_
   rintro e w2 ⟨rfl,hb2⟩
   have hB:=hidA (hW1.out.trans (hb2.mono hW1.out.size))
   clear hb2 hc hz cB
   go_wp2
   go_ret2
   exact⟨rfl,_,_,HH.out.below hB.out,⟨hB.out.os,hB.out.tape,hB.out.output,hB.out.size,fun k hk _=>hB.out.block k hk⟩⟩
 | true=>
   rw[hi] at CI2
   rw[if_neg (by simp)]
   by_cases hfew:120≤s.ids.length
   ·rw[if_pos hfew]
    have d1:decide ((s.ids.length:Int) ≥ 120)=true:=by simp;omega
    clear hfew
    go_enter Tryz.func51,Tryz.ntmps51
    go_wp2_with fail
    refine (CI2.out _ hW1.out).mono ?_
    rintro e w2 ⟨rfl,hb2⟩
    have hB:=hidA (hW1.out.trans (hb2.mono hW1.out.size))
    have c5:w2.cell? ⟨rb,5,none⟩=some (.slice ai0 s.ids.length ci0):=(HH.out.below hB.out).cells 5
    clear hb2 hc hz cB
    go_wp2
    go_ret2
    exact⟨rfl,_,_,HH.out.below hB.out,⟨hB.out.os,hB.out.tape,hB.out.output,hB.out.size,fun k hk _=>hB.out.block k hk⟩⟩
   ·rw[if_neg hfew,hav.out]
    have d1:decide ((s.ids.length:Int) ≥ 120)=false:=by simp;omega
    by_cases hm:s.most≤s.last
    ·simp only[hm,↓reduceIte]
     have d2:decide (s.last ≥ s.most)=true:=by simpa using hm
     clear hm hfew
     go_enter Tryz.func51,Tryz.ntmps51
     go_wp2_with fail
     refine (CI2.out _ hW1.out).mono ?_
     rintro e w2 ⟨rfl,hb2⟩
     have hB:=hidA (hW1.out.trans (hb2.mono hW1.out.size))
     have hS2:=hidA (HH.out.below hB.out)
     have c5:w2.cell? ⟨rb,5,none⟩=some (.slice ai0 s.ids.length ci0):=hS2.out.cells 5
     have c1:w2.cell? ⟨rb,1,none⟩=some (.int .i64 s.last):=hS2.out.cells 1
     have c2:w2.cell? ⟨rb,2,none⟩=some (.int .i64 s.most):=hS2.out.cells 2
     have c3:w2.cell? ⟨rb,3,none⟩=some (.slice qa 0 qc):=hS2.out.cells 3
     clear hb2 hc hz cB
     go_wp2
     all_goals go_region
     all_goals go_wp2
     all_goals go_ret2
     all_goals exact⟨rfl,_,_,HH.out.below (drewA hB.out),⟨hB.out.os,hB.out.tape,hB.out.output,hB.out.size,fun k hk _=>hB.out.block k hk⟩⟩
    ·simp only[hm,↓reduceIte]
     have d2:decide (s.last ≥ s.most)=false:=by simp;omega
     have hlb:=hidA (show 2≤s.last∧s.last+1≤400 by have:=hok.out.last;have:=hok.out.most;omega)
     have hw:IntKind.i64.wrap (s.last+1)=s.last+1:=by have:=hlb.out;rw[IntKind.wrap_i64];omega
     have hn:=hidA (show s.ids.length≤119 by omega)
     clear hm hfew
     go_enter Tryz.func51,Tryz.ntmps51
     go_wp2_with fail
     refine (CI2.out _ hW1.out).mono ?_
     rintro e w2 ⟨rfl,hb2⟩
     have hB:=hidA (hW1.out.trans (hb2.mono hW1.out.size))
     have hS2:=hidA (HH.out.below hB.out)
     have c5:w2.cell? ⟨rb,5,none⟩=some (.slice ai0 s.ids.length ci0):=hS2.out.cells 5
     have c1:w2.cell? ⟨rb,1,none⟩=some (.int .i64 s.last):=hS2.out.cells 1
     have c2:w2.cell? ⟨rb,2,none⟩=some (.int .i64 s.most):=hS2.out.cells 2
     have c3:w2.cell? ⟨rb,3,none⟩=some (.slice qa 0 qc):=hS2.out.cells 3
     have hbk2:=hidA ((hb2.block _ (by simp)).trans (heap_newL w (.cells #[.int .i64 p.kind,.slice ai ni ci,.slice ak nk ck,.slice ad nd cd,.string p.text,.slice av nv cv,.slice af nf cf,.int .i64 p.next,.int .u64 p.mt.txn,.int .i64 p.mt.main.page,.int .i64 p.mt.main.count,.int .i64 p.mt.main.flags,.int .i64 p.mt.free,.int .i64 p.mt.last] 59)))
     have hz2:=frozen_rowL hS2.out.obj
     have hxb:Hid (w.heap.size<w2.heap.size):=hidA (by have:=hb2.size;simp at this;omega)
     clear hb2 hc hz cB
     have hS3:Hid (RStAt S (w2.setCell ⟨rb,1,none⟩ (.int .i64 (s.last+1))).drew rb fb { s with last:=s.last+1 } (.slice qa 0 qc) vf (.slice ai0 s.ids.length ci0) vp):=hidA (by
      have h0:=HH.out.below hB.out
      have hk:Ks S w2 (w2.setCell ⟨rb,1,none⟩ (.int .i64 (s.last+1))):=(Ks.refl _ _).setCell _ (.inl hrb)
      refine RStAt.below (w:=w2.setCell ⟨rb,1,none⟩ (.int .i64 (s.last+1))) ⟨?_,h0.avail.on hk,h0.freed.on hk,h0.ids.on hk,h0.pages.on hk,⟨hok.out.len,hok.out.few,hok.out.fewA,hok.out.fewF,⟨?_,?_⟩,hok.out.most⟩⟩ (drewA (qB _ _))
      ·rw[heap_setCell_same _ rb 1 _ _ (.int .i64 (s.last+1)) h0.obj]
       simp[rsCells]
      ·have:=hlb.out;show 2≤s.last+1;omega
      ·exact hlb.out.2)
     have hK3:Hid (Ks S w (w2.setCell ⟨rb,1,none⟩ (.int .i64 (s.last+1))).drew):=hidA (((Ks.below hB.out).setCell _ (.inl hrb)).trans (.below (drewA (qB _ _))))
     have CD2:Hid (Calls Tryz.prog 73 #[.pointer (some ⟨rb,0,none⟩),.int .i64 s.last,.agg #[.int .i64 p.kind,.slice ai ni ci,.slice ak nk ck,.slice ad nd cd,.string p.text,.slice av nv cv,.slice af nf cf,.int .i64 p.next,.int .u64 p.mt.txn,.int .i64 p.mt.main.page,.int .i64 p.mt.main.count,.int .i64 p.mt.main.flags,.int .i64 p.mt.free,.int .i64 p.mt.last]] (w2.setCell ⟨rb,1,none⟩ (.int .i64 (s.last+1))).drew fun e w'=>e=.returned (.tuple #[])∧∃ vi' vp',RStAt S w' rb fb (dirtyR { s with last:=s.last+1 } s.last p) (.slice qa 0 qc) vf vi' vp'∧(w2.setCell ⟨rb,1,none⟩ (.int .i64 (s.last+1))).drew.grownBy w' (some rb)):=CD.out _ _ _ _ hS3.out hK3.out (fun k hk=>by have:=hS k hk;have:=hB.out.size;simp;omega) hx hn.out
     have hg3:Hid (w.grownBy (w2.setCell ⟨rb,1,none⟩ (.int .i64 (s.last+1))).drew (some rb)):=hidA ⟨hB.out.os,hB.out.tape,hB.out.output,by have:=hB.out.size;simpa using this,fun k hk hne=>(Below.heap_setCell _ _ _ _ (show k≠rb by simpa using hne)).trans (hB.out.block k hk)⟩
     have cB3:=cell_rowL (w:=(w2.setCell ⟨rb,1,none⟩ (.int .i64 (s.last+1))).drew) ((qD w2 ⟨rb,1,none⟩ (.int .i64 (s.last+1)) w.heap.size (show w.heap.size≠rb by have:=hlt.out;omega)).trans hbk2.out)
     clear CD hS3 hK3
     go_wp2
     all_goals go_region
     all_goals go_wp2_with fail
     all_goals refine CD2.out.mono ?_
     all_goals rintro e w3 ⟨rfl,vi',vp',hR,hg⟩
     all_goals have hR:=hidA hR
     all_goals have hg:=hidA hg
     all_goals go_wp2
     all_goals go_ret2
     all_goals exact⟨rfl,_,_,(by have h9:=hR.out;rw[hav.out] at h9;exact h9),grown_then hg3.out hg.out⟩
end
end
section
open Go.RowKit
open F (wpList_append_any)
theorem grown_cellsA {g:Nat}:∀ (vs:List Value) (o:Nat) (w:World),w.grownBy (w.setCells g o vs) (some g)
 | [],_,w=>World.grownBy.refl w _
 | v::r,o,w=>by
   have h1:w.grownBy (w.setCell ⟨g,o,none⟩ v) (some g):=⟨rfl,rfl,rfl,by simp,fun k _ hne=>Below.heap_setCell _ _ _ _ (show k≠g by simpa using hne)⟩
   exact grown_then h1 (grown_cellsA r (o+1) _)
theorem own_store {P:Program} {T E:TypeId} {w:World} {base sz n:Nat} {v:Value} {cs news:List Value} (h:w.ownsRow base E sz v n cs) (hs:0<sz) (h1:∀ u∈cs,u.oneCell'=true) (hT:P.underlying T=some (.slice E)) (hsz:∀ w,(Go.sizeOf E).run P w=.ok sz w) {k:Nat} (hk:k<n) (hl:news.length=sz) (hn1:∀ u∈news,u.oneCell'=true) :
  ∃ g c,v=.slice (some ⟨g,0,none⟩) n c∧base≤g∧g<w.heap.size∧w.there g (k*sz) sz∧(∀ W,(Instr.indexAt T (.slice (some ⟨g,0,none⟩) n c) (.int .i64 (k:Int))).run P W=.ok (.pointer (some ⟨g,k*sz,none⟩)) W) ∧
    SlAt sz (w.setCells g (k*sz) news) (some ⟨g,0,none⟩) c n (cs.take (k*sz)++news++cs.drop ((k+1)*sz)):=by
 have hlen:=h.1
 have hle:(k+1)*sz≤n*sz:=Nat.mul_le_mul_right _ hk
 have hks:(k+1)*sz=k*sz+sz:=Nat.succ_mul _ _
 obtain⟨ao,cap,e,hA,hB⟩:=SlAt.own h h1
 obtain⟨b,o,ha,hb,hi,_⟩:=hA.get hs hT hsz k hk
 have hform:v=.slice (some ⟨b,0,none⟩) n cap∧o=0:=by
  rcases h.2 with ⟨_,h0⟩|⟨g,c,cur,hv,_⟩
  ·omega
  ·rw[e] at hv
   simp only[qR,true_and] at hv
   obtain⟨rfl,rfl⟩:=hv
   simp only[qQ,Addr.mk.injEq,and_true] at ha
   obtain⟨rfl,rfl⟩:=ha
   exact⟨e,rfl⟩
 obtain⟨hv,rfl⟩:=hform
 subst hv
 subst ha
 have hbb:=hB b 0 rfl
 have hcell:∀ j,j<n*sz→w.cell? ⟨b,j,none⟩=cs[j]?:=fun j hj=>by
  have:=World.ownsRow.cellAt h j hj
  exact this
 have hth:w.there b (k*sz) sz:=fun j hj=>⟨by
   rw[hcell _ (by omega),List.getElem?_eq_getElem (by omega)];rfl,World.ownsRow.frozenAt h _⟩
 refine⟨b,cap,rfl,hbb.1,hbb.2,hth,fun W=>by simpa using hi W,?_⟩
 refine⟨by simp only[List.length_append,List.length_take,List.length_drop,hl];omega,hA.room,(fun e=>by cases e),(fun a e _=>⟨b,0,by simpa using e.symm⟩),fun j u hu=>⟨b,0,rfl,?_⟩,fun u hu=>?_⟩
 ·rw[Nat.zero_add]
  have hjl:=(List.getElem?_eq_some_iff.1 hu).1
  simp only[qO,List.length_take,List.length_drop,hl] at hjl
  by_cases hj1:j<k*sz
  ·rw[World.cell?_setCells_out b _ _ _ _ (fun _ _=>Or.inl hj1),hcell j (by omega),← hu,List.append_assoc,List.getElem?_append_left (by simp;omega),List.getElem?_take_of_lt hj1]
  ·by_cases hj2:j<k*sz+sz
   ·have e3:j=k*sz+(j - k*sz):=by omega
    rw[e3,World.cell?_setCells_in b news (k*sz) w (fun i hi=>(hth i (by omega)).1) (j - k*sz) (by omega),← hu]
    rw[List.append_assoc,List.getElem?_append_right (by simp;omega),List.getElem?_append_left (by simp;omega)]
    simp only[List.length_take]
    rw[show min (k*sz) cs.length=k*sz by omega,List.getElem?_eq_getElem (by omega)]
   ·rw[World.cell?_setCells_out b _ _ _ _ (fun _ _=>Or.inr (by show k*sz+news.length≤j;omega)),hcell j (by omega),← hu,List.getElem?_append_right (by simp;omega),List.getElem?_drop]
    congr 1
    simp only[qO,List.length_take]
    omega
 ·rw[qU,qU] at hu
  rcases hu with (hu|hu)|hu
  ·exact h1 u (List.mem_of_mem_take hu)
  ·exact hn1 u hu
  ·exact h1 u (List.mem_of_mem_drop hu)
theorem rowsPV_set:∀ (ps:List PageD) (us:List PV) (k:Nat) (p:PageD) (u:PV),us.length=ps.length→k<ps.length→(rowsPV ps us).take (k*14)++cellsPV p u++(rowsPV ps us).drop ((k+1)*14)=rowsPV (ps.set k p) (us.set k u)
 | [],_,_,_,_,_,h=>by simp at h
 | _::_,[],_,_,_,h,_=>by simp at h
 | q::ps,v::us,0,p,u,h,_=>by
   rw[rowsPV_drop _ _ _ h]
   simp[rowsPV]
 | q::ps,v::us,k+1,p,u,h,hk=>by
   have ih:=rowsPV_set ps us k p u (by simpa using h) (by simpa using hk)
   rw[rowsPV_take _ _ _ h,rowsPV_drop _ _ _ h]
   rw[rowsPV_take _ _ _ (by simpa using h),rowsPV_drop _ _ _ (by simpa using h)] at ih
   simp only[List.take_succ_cons,List.drop_succ_cons,qC,rowsPV,List.append_assoc] at ih ⊢
   rw[ih]
section
variable {S:Nat→Prop} {w:World} {rb fb:Nat} {s:RSt} {va vf vi vp:Value}
theorem Tryz.sizePage:(Tryz.prog.info? 59).map (·.size)=some 14:=by kernel_rfl
theorem set_end {w w3:World} {rb fb:Nat} {s:RSt} {va vf vi vp:Value} (h:RStAt S w rb fb s va vf vi vp) (hS:∀ k,S k→k<w.heap.size) (hrb:S rb) {k:Nat} {p:PageD} {u:PV} (hu:HangsS S w p u) {us:List PV} (hus:us.length=s.ps.length) (hPH:∀ i (h:i<s.ps.length) (h':i<us.length),HangsS S w s.ps[i] us[i])
  (hb3:Below w.heap.size w w3) {g c:Nat} (hg:w.heap.size≤g)
  (hA:SlAt 14 (w3.setCells g (k*14) (cellsPV p u)) (some ⟨g,0,none⟩) c s.ps.length (rowsPV (s.ps.set k p) (us.set k u))) :
  RStAt S ((w3.setCells g (k*14) (cellsPV p u)).setCell ⟨rb,6,none⟩ (.slice (some ⟨g,0,none⟩) s.ps.length c)) rb fb { s with ps:=s.ps.set k p } va vf vi (.slice (some ⟨g,0,none⟩) s.ps.length c)∧w.grownBy ((w3.setCells g (k*14) (cellsPV p u)).setCell ⟨rb,6,none⟩ (.slice (some ⟨g,0,none⟩) s.ps.length c)) (some rb):=by
 have hgs:=grown_cellsA (g:=g) (cellsPV p u) (k*14) w3
 generalize w3.setCells g (k*14) (cellsPV p u)=X at *
 have hlt:=h.lt
 have hs3:=hb3.size
 have e0:=(hb3.block rb hlt).trans h.obj
 have e1:=(hgs.block rb (by omega) (by simp;omega)).trans e0
 have e2:=heap_setCell_same _ rb 6 _ _ (.slice (some ⟨g,0,none⟩) s.ps.length c) e1
 have k3:Ks S w X:=⟨by have:=hgs.size;omega,fun i hi _=>(hgs.block i (by omega) (by simp;omega)).trans (hb3.block i hi)⟩
 have k4:Ks S X (X.setCell ⟨rb,6,none⟩ (.slice (some ⟨g,0,none⟩) s.ps.length c)):=(Ks.refl _ _).setCell _ (.inl hrb)
 have hgr:w.grownBy (X.setCell ⟨rb,6,none⟩ (.slice (some ⟨g,0,none⟩) s.ps.length c)) (some rb):=⟨hgs.os.trans hb3.os,hgs.tape.trans hb3.tape,hgs.output.trans hb3.output,by have:=hgs.size;simp;omega,fun i hi hne=>by
  have hne2:i≠rb:=by simpa using hne
  rw[qD _ _ _ _ hne2]
  exact (hgs.block i (by omega) (by simp;omega)).trans (hb3.block i hi)⟩
 have h6:SlK S 14 X (some ⟨g,0,none⟩) c s.ps.length (rowsPV (s.ps.set k p) (us.set k u)):=hA.kOf fun b o e hs=>by
  simp only[qQ,Addr.mk.injEq,and_true] at e
  have:=hS b hs
  omega
 have h7:=h6.on k4
 generalize X.setCell ⟨rb,6,none⟩ (.slice (some ⟨g,0,none⟩) s.ps.length c)=Y at *
 have kk:=k3.trans k4
 have hP:PagesS S Y (.slice (some ⟨g,0,none⟩) s.ps.length c) (s.ps.set k p):=by
  refine⟨some ⟨g,0,none⟩,c,us.set k u,by simp,by simp[hus],by simpa using h7,fun i hi hi'=>?_⟩
  simp only[List.length_set] at hi hi'
  by_cases e:k=i
  ·subst e
   simpa using hu.on kk
  ·simpa[List.getElem_set_ne e] using (hPH i hi hi').on kk
 have hok:RSok { s with ps:=s.ps.set k p }:=⟨by simpa using h.ok.len,h.ok.few,h.ok.fewA,h.ok.fewF,h.ok.last,h.ok.most⟩
 have hobj:Y.heap[rb]?=some (.cells (rsCells fb { s with ps:=s.ps.set k p } va vf vi (.slice (some ⟨g,0,none⟩) s.ps.length c)) 70 (0,0)):=by
  rw[e2]
  simp[rsCells]
 exact⟨⟨hobj,h.avail.on kk,h.freed.on kk,h.ids.on kk,hP,hok⟩,hgr⟩
theorem rset_dirty (h:RStAt S w rb fb s va vf vi vp) (hS:∀ k,S k→k<w.heap.size) (hrb:S rb) (x:Int) {k:Nat} (hx:placeR s x=(k:Int)) (hk:k<s.ps.length) (p:PageD) (u:PV) (hu:HangsS S w p u) (hfr:p.free.length≤1000) (ht:TxnOk p) :
  Calls Tryz.prog 78 #[.pointer (some ⟨rb,0,none⟩),.int .i64 x,.agg (cellsPV p u).toArray] w fun e w'=>e=.returned (.int .i64 (setR s x p).1)∧∃ vp',RStAt S w' rb fb (setR s x p).2 va vf vi vp'∧w.grownBy w' (some rb):=by
 have HH:=hidA h
 have HU:=hidA hu
 have hlt:=hidA h.lt
 have hok:=hidA h.ok
 have CI:=hidA (fun V (hV:Below w.heap.size w V)=>refIs_any p u.i u.k u.d u.v u.f V (hu.at V (.below hV)) (by omega) ht)
 have CP:=hidA (fun V (hV:Below w.heap.size w V)=>place_any (h.below hV) x)
 rw[hx] at CP
 obtain⟨ap,cp,us,rfl,hus,hP,hPH⟩:=h.pages
 have hone:=cellsPV_one (p:=p) hu.here.slices
 clear h
 obtain⟨ui,uk,ud,uv,uf⟩:=u
 obtain⟨⟨ai,ni,ci,e1⟩,⟨ak,nk,ck,e2⟩,⟨ad,nd,cd,e3⟩,⟨av,nv,cv,e4⟩,⟨af,nf,cf,e5⟩⟩:=hu.here.slices
 simp only at e1 e2 e3 e4 e5
 subst e1 e2 e3 e4 e5
 have hW1:Hid (Below w.heap.size w (w.alloc (.cells #[.int .i64 p.kind,.slice ai ni ci,.slice ak nk ck,.slice ad nd cd,.string p.text,.slice av nv cv,.slice af nf cf,.int .i64 p.next,.int .u64 p.mt.txn,.int .i64 p.mt.main.page,.int .i64 p.mt.main.count,.int .i64 p.mt.main.flags,.int .i64 p.mt.free,.int .i64 p.mt.last] 59))):=hidA (belowA _ _)
 have hbk:=hidA (heap_newL w (.cells #[.int .i64 p.kind,.slice ai ni ci,.slice ak nk ck,.slice ad nd cd,.string p.text,.slice av nv cv,.slice af nf cf,.int .i64 p.next,.int .u64 p.mt.txn,.int .i64 p.mt.main.page,.int .i64 p.mt.main.count,.int .i64 p.mt.main.flags,.int .i64 p.mt.free,.int .i64 p.mt.last] 59))
 have cB:=cell_rowL hbk.out
 have CI2:Hid (∀ V,Below w.heap.size w V→Calls Tryz.prog 40 #[.agg #[.int .i64 p.kind,.slice ai ni ci,.slice ak nk ck,.slice ad nd cd,.string p.text,.slice av nv cv,.slice af nf cf,.int .i64 p.next,.int .u64 p.mt.txn,.int .i64 p.mt.main.page,.int .i64 p.mt.main.count,.int .i64 p.mt.main.flags,.int .i64 p.mt.free,.int .i64 p.mt.last]] V fun e w'=>e=.returned (.bool (isPB p))∧Below V.heap.size V w'):=CI
 clear CI
 have d1:decide ((k:Int)<0)=false:=by simp
 unfold setR
 rw[hx]
 show Calls Tryz.prog 78 #[.pointer (some ⟨rb,0,none⟩),.int .i64 x,.agg #[.int .i64 p.kind,.slice ai ni ci,.slice ak nk ck,.slice ad nd cd,.string p.text,.slice av nv cv,.slice af nf cf,.int .i64 p.next,.int .u64 p.mt.txn,.int .i64 p.mt.main.page,.int .i64 p.mt.main.count,.int .i64 p.mt.main.flags,.int .i64 p.mt.free,.int .i64 p.mt.last]] w _
 cases hi:isPB p with
 | false=>
   rw[hi] at CI2
   rw[if_pos (.inl rfl)]
   clear hP hPH hone hus
   go_enter Tryz.func78,Tryz.ntmps78
   go_wp2_with fail
   refine (CP.out _ hW1.out).mono ?_
   rintro e w1 ⟨rfl,rfl⟩
   go_wp2_with fail
   refine (CI2.out _ hW1.out).mono ?_
   rintro e w2 ⟨rfl,hb2⟩
   have hB:=hidA (hW1.out.trans (hb2.mono hW1.out.size))
   clear hb2 cB
   go_wp2
   all_goals go_ret
   all_goals exact⟨rfl,_,HH.out.below hB.out,⟨hB.out.os,hB.out.tape,hB.out.output,hB.out.size,fun k hk _=>hB.out.block k hk⟩⟩
 | true=>
   rw[hi] at CI2
   rw[if_neg (by simp)]
   have HP:=hidA hP
   have HPH:=hidA hPH
   have HUS:=hidA hus
   have HO:=hidA hone
   have hps:Hid (s.ps.length≤120):=hidA (by have:=hok.out.few;have:=hok.out.len;omega)
   have hkk:=hidA hk
   clear hP hPH hone hus hk hx
   go_enter Tryz.func78,Tryz.ntmps78
   go_wp2_with fail
   refine (CP.out _ hW1.out).mono ?_
   rintro e w1 ⟨rfl,rfl⟩
   go_wp2_with fail
   refine (CI2.out _ hW1.out).mono ?_
   rintro e w2 ⟨rfl,hb2⟩
   have hB:=hidA (hW1.out.trans (hb2.mono hW1.out.size))
   have hbk2:=hidA ((hb2.block _ (by simp)).trans hbk.out)
   have hS2:=hidA (HH.out.below hB.out)
   have c6:w2.cell? ⟨rb,6,none⟩=some (.slice ap s.ps.length cp):=hS2.out.cells 6
   have HA:Hid (∀ ty,∃ v' w',(Builtin.append_ #[68,68] ty #[.slice none 0 0,.slice ap s.ps.length cp]).run Tryz.prog w2=.ok v' w'∧(∃ a c,v'=.slice a s.ps.length c)∧w'.ownsRow w.heap.size 59 14 v' s.ps.length (rowsPV s.ps us)∧Below w.heap.size w w'∧w2.grownBy w' none):=hidA (fun ty=>by
    have h0:=app_form (B:=w.heap.size) (w0:=w) (v:=.slice none 0 0) (xs:=[]) (m:=0) (HP.out w2 (.below hB.out)) (by omega) Tryz.underlying68 Tryz.infoPage rfl (World.ownsRow_nil _ _ _ _) hB.out.size (by have:=hps.out;omega) (by omega) hB.out ty
    simpa[Value.ownBlock] using h0)
   clear hb2 cB
   go_wp2_with (first
    | (at_builtin;refine wpList_append_any rfl (.const (.slice none 0 0)) (.tmp 22) 68 rfl _ _ rfl rfl (HA.out _) ?_;rintro v3 w3 ⟨⟨a3,c3,rfl⟩,ho3,hb3,hg3⟩;obtain⟨g,c,e,hgB,hgl,hth,hix,hSA⟩:=own_store ho3 (by omega) (HP.out.here.one) Tryz.underlying68 Tryz.szPage hkk.out (cellsPV_length p ⟨.slice ai ni ci,.slice ak nk ck,.slice ad nd cd,.slice av nv cv,.slice af nf cf⟩) HO.out;simp only[qR,true_and] at e;obtain⟨rfl,rfl⟩:=e;rw[rowsPV_set _ _ _ _ _ HUS.out hkk.out] at hSA;have hEND:=hidA (set_end HH.out hS hrb HU.out HUS.out HPH.out hb3 hgB hSA);have cB3:=cell_rowL ((hg3.block _ (qA hbk2.out) (by simp)).trans hbk2.out);have hth:=hidA hth;have hz3:Hid (∀ j,w3.frozen? ⟨rb,j,none⟩=false):=hidA (frozen_rowL ((hb3.block rb hlt.out).trans HH.out.obj));have c63:Hid (w3.cell? ⟨rb,6,none⟩=some (.slice ap s.ps.length cp)):=hidA ((hb3.cell (p:=⟨rb,6,none⟩) hlt.out).trans (HH.out.cells 6));have hgne:Hid (rb≠g):=hidA (by have:=hlt.out;omega);clear ho3 hb3 hg3 hSA)
    | (refine wpList_store_mid rfl 59 (.tmp 27) (.tmp 26) rfl g (k*14) #[.int .i64 p.kind,.slice ai ni ci,.slice ak nk ck,.slice ad nd cd,.string p.text,.slice av nv cv,.slice af nf cf,.int .i64 p.next,.int .u64 p.mt.txn,.int .i64 p.mt.main.page,.int .i64 p.mt.main.count,.int .i64 p.mt.main.flags,.int .i64 p.mt.free,.int .i64 p.mt.last] rfl rfl hth.out Tryz.sizePage (all_oneCell_toArray HO.out) ?_;have c64:(w3.setCells g (k*14) (cellsPV p ⟨.slice ai ni ci,.slice ak nk ck,.slice ad nd cd,.slice av nv cv,.slice af nf cf⟩)).cell? ⟨rb,6,none⟩=some (.slice ap s.ps.length cp):=(World.cell?_setCells_out g _ _ _ _ (fun hb _=>absurd hb hgne.out)).trans c63.out;have z64:(w3.setCells g (k*14) (cellsPV p ⟨.slice ai ni ci,.slice ak nk ck,.slice ad nd cd,.slice av nv cv,.slice af nf cf⟩)).frozen? ⟨rb,6,none⟩=false:=(World.frozen?_setCells g _ _ _ _).trans (hz3.out 6);rw[show (#[.int .i64 p.kind,.slice ai ni ci,.slice ak nk ck,.slice ad nd cd,.string p.text,.slice av nv cv,.slice af nf cf,.int .i64 p.next,.int .u64 p.mt.txn,.int .i64 p.mt.main.page,.int .i64 p.mt.main.count,.int .i64 p.mt.main.flags,.int .i64 p.mt.free,.int .i64 p.mt.last]:Array Value).toList=cellsPV p ⟨.slice ai ni ci,.slice ak nk ck,.slice ad nd cd,.slice av nv cv,.slice af nf cf⟩ from rfl];generalize w3.setCells g (k*14) (cellsPV p ⟨.slice ai ni ci,.slice ak nk ck,.slice ad nd cd,.slice av nv cv,.slice af nf cf⟩)=X4 at *;clear cB3)
    | fail)
   all_goals go_ret
   all_goals exact⟨rfl,_,hEND.out⟩
end
end
end Go.Proofs.YtbghhklbfnplbaaGreat

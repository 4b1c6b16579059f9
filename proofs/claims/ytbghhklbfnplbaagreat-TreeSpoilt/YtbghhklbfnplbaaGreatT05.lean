import Derived.Deep.Cut
import Derived.Shelf.RegionOpen
import Derived.Test.YtbghhklbfnplbaaGreatC00
import Derived.Test.YtbghhklbfnplbaaGreatT02
import Derived.Test.YtbghhklbfnplbaaGreatT04
import Derived.Test.YtbghhklbfnplbaaGreatC15
set_option maxHeartbeats 4000000
set_option maxRecDepth 100000
namespace Go.Proofs.YtbghhklbfnplbaaGreat
section
open Go.RowKit
attribute [local go_sem] Oper.semAt_some
theorem spots_any (sb:Nat) (root:Int) (w:World) :
  Calls Tryz.prog 24 #[.pointer (some ⟨sb,0,none⟩),.int .i64 root] w fun e W=>e=.returned (.func (.func 54) #[] #[.pointer (some ⟨w.heap.size+1,0,none⟩),.pointer (some ⟨w.heap.size,0,none⟩)])∧W=(w.alloc (.cells #[.pointer (some ⟨sb,0,none⟩)] 27)).alloc (.cells #[.int .i64 root] 3):=by
 go_enter Tryz.func24,Tryz.ntmps24
 go_wp2
 go_ret
 exact⟨by simp,rfl⟩
theorem restD_nil (V:View):restD V []=[]:=rfl
theorem pre_next {α:Type} {pre r S:List α} {x:α} (h:S=pre++x::r):pre++[x] <+: S:=⟨r,by rw[h];simp⟩
theorem spots_tells_zero {X0:World} {sb:Nat} {s:StD} {L:List F.Sh} (root:Int) (hr0:root=0) (b1 b2:Nat) (n:Nat) (w:World) (hw:Below X0.heap.size X0 w)
  (hb1:w.heap[b1]?=some (.cells #[.int .i64 root] 3 (0,0))) (hb2:w.heap[b2]?=some (.cells #[.pointer (some ⟨sb,0,none⟩)] 27 (0,0))) :
  Tells Fence.wide n Tryz.prog 54 #[.pointer (some ⟨b1,0,none⟩),.pointer (some ⟨b2,0,none⟩)] 2 AtS (Own2 X0.heap.size b1 b2) (spotsD (readS s L) root) w:=by
 intro l J Jx W hW hJ0 hY
 have hbelW:=hidT (hw.trans (hW.mono hw.size))
 have hlen:=hidT (show X0.heap.size≤W.heap.size from qN hw.size hW.size)
 have hb1W:=(hW.block _ (qA hb1)).trans hb1
 have hb2W:=hidT ((hW.block _ (qA hb2)).trans hb2)
 replace hY:=hidT hY
 obtain⟨S,hS⟩:∃ S,Hid (S=spotsD (readS s L) root):=⟨_,hidT rfl⟩
 rw[← hS.out] at hY ⊢
 have hcount:Hid (S.length≤90000):=hidT (by rw[hS.out];exact spots_count s L root)
 clear hw hW hb1 hb2
 have c1:=cell_rowL hb1W
 refine callsIn_of_wp Tryz.func54 rfl trivial ?_ rfl
 simp only[Tryz.ntmps54,List.size_toArray,qV,List.length_nil,Nat.reduceAdd,Nat.reduceSub,Array.replicate_succ,Array.replicate_zero,List.push_toArray,List.append_toArray,List.nil_append,List.cons_append]
 refine wpIn_wide.2 ?_
 have hSl:=hidT (show S=[] by rw[hS.out,spotsD_rest,if_pos hr0];rfl)
 have d0:(root != 0)=false:=by simp[hr0]
 have START:Hid (SpHead X0 b2 sb (readS s L) S J S.length none 0 0 [] W):=hidT ⟨rfl,by rw[hS.out,spotsD_rest,if_pos hr0],⟨[],W,by rw[hS.out,spotsD_rest,if_pos hr0];rfl,hJ0,qB _ _,hlen.out,World.ownsRow_nil _ _ _ _⟩,by simp,hbelW.out,hb2W.out⟩
 replace hJ0:=hidT hJ0
 clear hr0 hS
 go_wp2
 go_loopg [4] S.length (fun g v4 wr=>∃ a nn c,v4=.slice a nn c∧Hid (∃ l,SpHead X0 b2 sb (readS s L) S J g a nn c l wr))
 case atStart=>exact⟨_,_,_,rfl,hidT ⟨_,START.out⟩⟩
 case round=>
  obtain⟨a,nn,c,rfl,H⟩:=hrel
  clear START c1 d0
  obtain⟨ls,hH⟩:=H.out
  clear H
  cases ls with
  | nil=>
    obtain rfl:nn=0:=hH.len
    obtain⟨pre,Wj,e1,e2,e3,_⟩:=hH.told
    rw[restD_nil,List.append_nil] at e1
    subst e1
    replace e2:=hidT e2
    replace e3:=hidT e3
    clear hH
    go_wp2
    go_end0
    exact⟨⟨_,rfl⟩,.inl ⟨Wj,e2.out,e3.out⟩⟩
  | cons m r=>
    obtain⟨pre,Wj,e1,_⟩:=hH.told
    have h0:=hH.cnt
    have:=congrArg List.length e1
    rw[hSl.out] at this
    simp[restD_cons] at this
theorem spots_tells_root {w0 X0:World} {sb mb fb:Nat} {s:StD} {L:List F.Sh} (hSf:Sf w0 X0 sb mb fb s L) (hL:ShOk L) (root:Int) (hr:InI root) (hr0:root≠0) (b1 b2:Nat) (n:Nat) (w:World) (hw:Below X0.heap.size X0 w)
  (hb1:w.heap[b1]?=some (.cells #[.int .i64 root] 3 (0,0))) (hb2:w.heap[b2]?=some (.cells #[.pointer (some ⟨sb,0,none⟩)] 27 (0,0))) :
  Tells Fence.wide n Tryz.prog 54 #[.pointer (some ⟨b1,0,none⟩),.pointer (some ⟨b2,0,none⟩)] 2 AtS (Own2 X0.heap.size b1 b2) (spotsD (readS s L) root) w:=by
 intro l J Jx W hW hJ0 hY
 have hbelW:=hidT (hw.trans (hW.mono hw.size))
 have hlen:=hidT (show X0.heap.size≤W.heap.size from qN hw.size hW.size)
 have hb1W:=(hW.block _ (qA hb1)).trans hb1
 have hb2W:=hidT ((hW.block _ (qA hb2)).trans hb2)
 replace hSf:=hidT hSf
 replace hY:=hidT hY
 replace hr:=hidT hr
 obtain⟨S,hS⟩:∃ S,Hid (S=spotsD (readS s L) root):=⟨_,hidT rfl⟩
 rw[← hS.out] at hY ⊢
 have hcount:Hid (S.length≤90000):=hidT (by rw[hS.out];exact spots_count s L root)
 clear hw hW hb1 hb2
 have c1:=cell_rowL hb1W
 refine callsIn_of_wp Tryz.func54 rfl trivial ?_ rfl
 simp only[Tryz.ntmps54,List.size_toArray,qV,List.length_nil,Nat.reduceAdd,Nat.reduceSub,Array.replicate_succ,Array.replicate_zero,List.push_toArray,List.append_toArray,List.nil_append,List.cons_append]
 refine wpIn_wide.2 ?_
 have d0:(root != 0)=true:=by simp[hr0]
 have START:Hid (SpHead X0 b2 sb (readS s L) S J S.length (some ⟨W.heap.size,0,none⟩) 1 1 [rootNear root] (W.alloc (.cells (nearC (rootNear root)).toArray 86))):=hidT ⟨rfl,by rw[hS.out,spotsD_rest,if_neg hr0],⟨[],W,by rw[hS.out,spotsD_rest,if_neg hr0];rfl,hJ0,(qB _ _).alloc qL _,hlen.out,(by
  have:=World.ownsRow_lit (base:=W.heap.size) (e:=86) (size:=18) W (nearC (rootNear root)).toArray 1 qL (by unfold maxLen;omega) rfl
  exact this)⟩,(by
  intro m hm
  obtain rfl:=List.mem_singleton.1 hm
  exact⟨hr.out,by simp[rootNear]⟩),hbelW.out.alloc hlen.out _,(Below.heap_alloc _ _ _ (qA hb2W.out)).trans hb2W.out⟩
 replace hJ0:=hidT hJ0
 rw[show (nearC (rootNear root)).toArray=#[.int .i64 root,.int .i64 1,.string ⟨#[]⟩,.string ⟨#[]⟩,.int .i64 0,.slice none 0 0,.slice none 0 0,.slice none 0 0,.string ⟨#[]⟩,.slice none 0 0,.slice none 0 0,.int .i64 0,.int .u64 0,.int .i64 0,.int .i64 0,.int .i64 0,.int .i64 0,.int .i64 0] from rfl] at START
 clear hr0 hS
 go_wp2
 go_loopg [4] S.length (fun g v4 wr=>∃ a nn c,v4=.slice a nn c∧Hid (∃ l,SpHead X0 b2 sb (readS s L) S J g a nn c l wr))
 case atStart=>exact⟨_,_,_,rfl,hidT ⟨_,START.out⟩⟩
 case round=>
  obtain⟨a,nn,c,rfl,H⟩:=hrel
  clear START c1 d0
  obtain⟨ls,hH⟩:=H.out
  clear H
  cases ls with
  | nil=>
    obtain rfl:nn=0:=hH.len
    obtain⟨pre,Wj,e1,e2,e3,_⟩:=hH.told
    rw[restD_nil,List.append_nil] at e1
    subst e1
    replace e2:=hidT e2
    replace e3:=hidT e3
    clear hH
    go_wp2
    go_end0
    exact⟨⟨_,rfl⟩,.inl ⟨Wj,e2.out,e3.out⟩⟩
  | cons m r=>
    have hnn:nn=r.length+1:=hH.len
    obtain⟨pre,Wj,e1,e2,e3,e4,e5⟩:=hH.told
    have hcnt:=hH.cnt
    rw[restD_cons] at e1 hcnt
    have hm:=hH.ok m (by simp)
    have hok:=hidT (fun x hx=>hH.ok x (List.mem_cons_of_mem m hx))
    have hbel:=hH.bel
    have hbox:=hH.box
    clear hH
    have hsmall:=seen_small (s:=s) (L:=L) m
    have hdeep:=hidT (fun h:8<m.depth=>seen_deep (V:=readS s L) h)
    have e1:S=pre++⟨m,(seen (readS s L) m).1,(seen (readS s L) m).2⟩::restD (readS s L) (under m (seen (readS s L) m).1++r):=e1
    obtain⟨aa,cc,e6,hsl,hown⟩:=SlAt.own e5 (nearsC_one _)
    simp only[qR,true_and] at e6
    obtain⟨rfl,rfl⟩:=e6
    obtain⟨bo,hT,hTb,hTs⟩:=hsl.tail (P:=Tryz.prog) Tryz.underlying119 Tryz.szSpotT 1 (by omega)
    obtain⟨bq,oq,rfl,hlt,hix,hrg⟩:=hsl.get (P:=Tryz.prog) (by omega) Tryz.underlying119 Tryz.szSpotT 0 (by omega)
    have hqj:=(hown bq oq rfl).1
    have hcs:nearsC (m::r)=nearC m++nearsC r:=rfl
    rw[Nat.zero_mul,List.drop_zero,Nat.add_zero,hcs,List.take_left' (by rfl)] at hrg
    have hix:∀ W,(Instr.indexAt 119 (.slice (some ⟨bq,oq,none⟩) nn c) (.int .i64 0)).run Tryz.prog W=.ok (.pointer (some ⟨bq,oq,none⟩)) W:=fun W=>by simpa using hix W
    have d1:0<nn:=by omega
    have d2:decide (0<nn)=true:=by simp;omega
    have bX:=(qB wr.heap.size wr).alloc qL (.cells #[.int .i64 m.id,.int .i64 (m.depth:Int),.string m.low,.string m.high,.int .i64 0,.slice none 0 0,.slice none 0 0,.slice none 0 0,.string ⟨#[]⟩,.slice none 0 0,.slice none 0 0,.int .i64 0,.int .u64 0,.int .i64 0,.int .i64 0,.int .i64 0,.int .i64 0,.int .i64 0] 86)
    have hnX:=heap_newL wr (.cells #[.int .i64 m.id,.int .i64 (m.depth:Int),.string m.low,.string m.high,.int .i64 0,.slice none 0 0,.slice none 0 0,.slice none 0 0,.string ⟨#[]⟩,.slice none 0 0,.slice none 0 0,.int .i64 0,.int .u64 0,.int .i64 0,.int .i64 0,.int .i64 0,.int .i64 0,.int .i64 0] 86)
    have hlb2:=(qA hbox)
    have hboxX:=(bX.block _ hlb2).trans hbox
    have c2:=cell_rowL hboxX
    have CR:=hidT (sread_any (hSf.out.below (hbel.trans (bX.mono hbel.size))) hL wr.heap.size m hnX hm.1 (by have:=hm.2;omega))
    have hXs:(wr.alloc (.cells #[.int .i64 m.id,.int .i64 (m.depth:Int),.string m.low,.string m.high,.int .i64 0,.slice none 0 0,.slice none 0 0,.slice none 0 0,.string ⟨#[]⟩,.slice none 0 0,.slice none 0 0,.int .i64 0,.int .u64 0,.int .i64 0,.int .i64 0,.int .i64 0,.int .i64 0,.int .i64 0] 86)).heap.size=wr.heap.size+1:=by simp
    replace hbel:=hidT hbel
    replace e1:=hidT e1
    replace e2:=hidT e2
    replace e3:=hidT e3
    replace e4:=hidT e4
    replace hcnt:=hidT hcnt
    replace hsl:=hidT hsl
    have hbX:=hidT bX
    replace hboxX:=hidT hboxX
    replace hlb2:=hidT hlb2
    have hnnH:=hidT hnn
    have hmH:=hidT hm
    replace hTs:=hidT hTs
    replace hqj:=hidT hqj
    replace hlt:=hidT hlt
    replace hsmall:=hidT hsmall
    have hTr:=hidT hT
    replace hXs:=hidT hXs
    replace hrg:=hidT hrg
    clear e5 hown hbox hm hnn hT hTb hnX bX
    generalize seen (readS s L) m=q at *
    obtain⟨p,ec⟩:=q
    go_wp2_with (first|(refine wpList_load_mid rfl 86 (.tmp 16) rfl bq oq rfl (nearC m) _ hrg.out Tryz.underlying86 rfl Tryz.infoSpotG ?_;rw[show (nearC m).toArray=#[.int .i64 m.id,.int .i64 (m.depth:Int),.string m.low,.string m.high,.int .i64 0,.slice none 0 0,.slice none 0 0,.slice none 0 0,.string ⟨#[]⟩,.slice none 0 0,.slice none 0 0,.int .i64 0,.int .u64 0,.int .i64 0,.int .i64 0,.int .i64 0,.int .i64 0,.int .i64 0] from rfl])|fail)
    obtain⟨X1,hX1⟩:∃ X1,wr.alloc (.cells #[.int .i64 m.id,.int .i64 (m.depth:Int),.string m.low,.string m.high,.int .i64 0,.slice none 0 0,.slice none 0 0,.slice none 0 0,.string ⟨#[]⟩,.slice none 0 0,.slice none 0 0,.int .i64 0,.int .u64 0,.int .i64 0,.int .i64 0,.int .i64 0,.int .i64 0,.int .i64 0] 86)=X1:=⟨_,rfl⟩
    rw[hX1] at CR hbX hboxX hXs c2 ⊢
    clear hX1 hrg hix d1 d2 c2
    refine CR.out.mono ?_
    rintro e Y ⟨rfl,u,hbY,hgY,hg⟩
    have hgh:=hgY Y ⟨Nat.le_refl _,fun _ _ _=>rfl⟩
    have hu:=hgh.slices
    clear CR hgh
    have hwj:=e3.out.size
    have hYs:X1.heap.size≤Y.heap.size:=hg.size
    have hbelX:Below X0.heap.size X0 X1:=hbel.out.trans (hbX.out.mono hbel.out.size)
    have hX0:X0.heap.size≤wr.heap.size:=qN e4.out hwj
    have hbelY:Below X0.heap.size X0 Y:=hbelX.grown hg (by have:=hXs.out;omega) (fun k hk=>by cases hk;exact hX0)
    have hWjY:Below Wj.heap.size Wj Y:=(e3.out.trans (hbX.out.mono hwj)).grown hg (by have:=hXs.out;omega) (fun k hk=>by cases hk;exact hwj)
    have hb2Y:Y.heap[b2]?=some (.cells #[.pointer (some ⟨sb,0,none⟩)] 27 (0,0)):=(hg.block b2 (by have:=hXs.out;have:=hlb2.out;omega) (fun h=>by have:=hlb2.out;simp only[qQ] at h;omega)).trans hboxX.out
    have hqY:Y.heap[bq]?=wr.heap[bq]?:=(hg.block bq (by have:=hXs.out;have:=hlt.out;omega) (fun h=>by have:=hlt.out;simp only[qQ] at h;omega)).trans (hbX.out.block bq hlt.out)
    have hpre:pre++[⟨m,p,ec⟩] <+: S:=pre_next e1.out
    have hYat:=hY.out pre ⟨m,p,ec⟩ #[.agg (spotCells m p u).toArray,errV ec] Wj Y hpre rfl e2.out hWjY ⟨u,rfl,fun V hV=>hgY V ⟨hV.1,fun k hk=>hV.2 k (by have:=hXs.out;omega)⟩⟩
    have hunder:(under m p).length=p.kids.length:=by unfold under;rw[kidsFrom_length]
    have hcl:p.kids.length+(nn - 1)=(under m p++r).length:=by rw[qO,hunder,hnnH.out];omega
    have hSl:S.length≤90000:=hcount.out
    have hrl:(under m p++r).length≤S.length:=by
     have h1:=rest_le (readS s L) (under m p++r)
     have h2:=congrArg List.length e1.out
     simp only[qO,qV] at h1 h2 ⊢
     omega
    have hbox':∀ V,BodyKeeps (Own2 X0.heap.size b1 b2) Wj.heap.size Y V→Y.heap.size≤V.heap.size∧V.heap[wr.heap.size]?=some (.cells (spotCells m p u).toArray 86 (0,0)):=fun V hk=>⟨hk.size,(hk.block wr.heap.size (by have:=hXs.out;omega) (.inr (.inl hwj))).trans hbY⟩
    dsimp only
    repeat ((fail_if_success (apply wp_seq_k));go_step)
    refine sp_rest (A:=fun V=>J (pre++[⟨m,p,ec⟩]) V∧BodyKeeps (Own2 X0.heap.size b1 b2) Wj.heap.size Y V) (B:=fun V=>Jx (pre++[⟨m,p,ec⟩]) V) (n:=n - 1) (m:=p.kids.length) (n1:=nn) (cap:=c) (ao:=some ⟨bq,oq,none⟩) (bo:=bo) (b:=wr.heap.size) (cs1:=nearsC (under m p)) (cs2:=(nearsC (m::r)).drop (1*18)) (v0:=.int .i64 m.id) (v1:=.int .i64 (m.depth:Int)) (v2:=.string m.low) (v3:=.string m.high) (v4:=.int .i64 p.kind) (v5:=u.i) (v6:=u.k) (v7:=u.d) (v8:=.string p.text) (v9:=u.v) (v10:=u.f) (v11:=.int .i64 p.next) (v12:=.int .u64 p.mt.txn) (v13:=.int .i64 p.mt.main.page) (v14:=.int .i64 p.mt.main.count) (v15:=.int .i64 p.mt.main.flags) (v16:=.int .i64 p.mt.free) (v17:=.int .i64 p.mt.last) (E:=errV ec)
     (range_box (cs:=spotCells m p u) hbY) ?yat ?hC ?hCh (nearsC_one _) hTr.out ?h2 (by omega) _ ?ret _ _ _ _ _ _ _ _ _ _ _ _ _ _ _ _ _ _ _ _ _ _ _ _ _ _ _ ?next
    case yat=>
     refine hYat.mono ?_
     rintro e V (⟨a1,a2,a3⟩|⟨a1,a2⟩)
     ·exact .inl ⟨a1,a2,a3⟩
     ·exact .inr ⟨a1,a2⟩
    case hC=>
     intro V hA W hW
     have h3:=hbox' V hA.2
     exact range_box (cs:=spotCells m p u) ((hW.block _ (qA h3.2)).trans h3.2)
    case hCh=>
     intro V hA W hW
     have h3:=hbox' V hA.2
     exact children_spot m p u W (hgY W ⟨qN h3.1 hW.size,fun k hk1 hk2=>(hW.block k (by omega)).trans (hA.2.block k hk2 (.inr (.inl (by have:=hXs.out;omega))))⟩) (by have:=hsmall.out.2.2.1;omega) (by have:=hmH.out.2;omega)
    case h2=>
     intro V hA W hW
     have h3:=hbox' V hA.2
     refine hTs.out W (hsl.out.block fun b hb ⟨o,ho⟩=>?_)
     simp only[qQ,Addr.mk.injEq,and_true] at ho
     obtain⟨rfl,rfl⟩:=ho
     have hqlt:bq<Y.heap.size:=by have:=hXs.out;have:=hlt.out;omega
     exact ((hW.block bq (by omega)).trans (hA.2.block bq hqlt (.inr (.inl hqj.out)))).trans hqY
    case ret=>
     intro x W' hB hx
     repeat go_step
     exact bodyPost_ret (results_none rfl _ _ _) hx ⟨⟨_,rfl⟩,.inr ⟨pre,⟨m,p,ec⟩,W',hpre,hB,qB _ _⟩⟩
    case next=>
     intro V hA x20 x21 x22 x23 x24 x25 x26 x27 x28 x29 x30 a' c' w' hb ho
     have hbV:Below X0.heap.size X0 V:=hA.2.bel hbelY (by have:=hXs.out;omega)
     have hVs:X0.heap.size≤V.heap.size:=hbV.size
     have hb2V:V.heap[b2]?=some (.cells #[.pointer (some ⟨sb,0,none⟩)] 27 (0,0)):=(hA.2.block b2 (qA hb2Y) (.inl fun hs=>hs.2.2 rfl)).trans hb2Y
     have hdr:(nearsC (m::r)).drop (1*18)=nearsC r:=List.drop_left' (l₁:=nearC m) rfl
     rw[hdr,← nearsC_append] at ho
     have hNEXT:Hid (SpHead X0 b2 sb (readS s L) S J (restD (readS s L) (under m p++r)).length a' (p.kids.length+(nn - 1)) c' (under m p++r) w'):=hidT ⟨hcl,rfl,⟨pre++[⟨m,p,ec⟩],V,by rw[e1.out];simp,hA.1,hb,hVs,ho⟩,(by
      intro x hx
      rcases List.mem_append.1 hx with hx|hx
      ·have h1:=hsmall.out.2.2.2.2 _ (kidsFrom_id _ _ _ _ _ _ x hx)
       have h2:=under_depth m p x hx
       refine⟨⟨by omega,by omega⟩,?_⟩
       rcases Nat.lt_or_ge 8 m.depth with h3|h3
       ·have h4:=hdeep.out h3
        rw[h4] at hx
        cases hx
       ·omega
      ·exact hok.out x hx),hbV.trans (hb.mono hVs),(hb.block _ (qA hb2V)).trans hb2V⟩
     have hcnt':gk=(restD (readS s L) (under m p++r)).length+1:=hcnt.out.trans (qV)
     generalize (restD (readS s L) (under m p++r)).length=g' at *
     clear hA hb ho hYat hY hSf
     repeat go_step
     go_roundg g'
     case rel=>exact⟨a',_,c',rfl,hidT ⟨_,hNEXT.out⟩⟩
     case measure=>omega
theorem spots_tells {w0 X0:World} {sb mb fb:Nat} {s:StD} {L:List F.Sh} (hSf:Sf w0 X0 sb mb fb s L) (hL:ShOk L) (root:Int) (hr:InI root) (b1 b2:Nat) (n:Nat) (w:World) (hw:Below X0.heap.size X0 w)
  (hb1:w.heap[b1]?=some (.cells #[.int .i64 root] 3 (0,0))) (hb2:w.heap[b2]?=some (.cells #[.pointer (some ⟨sb,0,none⟩)] 27 (0,0))) :
  Tells Fence.wide n Tryz.prog 54 #[.pointer (some ⟨b1,0,none⟩),.pointer (some ⟨b2,0,none⟩)] 2 AtS (Own2 X0.heap.size b1 b2) (spotsD (readS s L) root) w:=by
 by_cases hr0:root=0
 ·exact spots_tells_zero root hr0 b1 b2 n w hw hb1 hb2
 ·exact spots_tells_root hSf hL root hr hr0 b1 b2 n w hw hb1 hb2
end
section
open Go.RowKit
theorem Tryz.infoItemT:(Tryz.prog.info? 45).map (fun i=>(i.zero,i.size,i.bytes))=some (some (.agg #[.string ⟨#[]⟩,.int .i64 0,.string ⟨#[]⟩,.int .i64 0,.int .i64 0,.slice none 0 0,.int .i64 0,.int .i64 0,.int .i64 0,.int .i64 0]),10,112):=by kernel_rfl
theorem run_append_bare {P:Program} {w:World} {base:Nat} {t ty e:TypeId} {i:TypeInfo} {size:Nat} (ht:P.underlying t=some (.slice e)) (hi:P.info? e=some i) {v:Value} {n:Nat} {xs:List Value} (hown:w.ownsRow base e size v n xs) (c:Nat) :
  (Builtin.append_ #[t,t] ty #[v,.slice none 0 c]).run P w=.ok v w:=by
 rcases hown.2 with ⟨rfl,rfl⟩|⟨g,cap,cur,rfl,_,_,hnc,_⟩
 ·simp[Builtin.append_,run_underlying ht,sizeOf,typeInfo,hi,Builtin.lenOf,Builtin.firstCells]
 ·simp[Builtin.append_,run_underlying ht,sizeOf,typeInfo,hi,Builtin.lenOf,Builtin.firstCells,hnc,storeCells]
theorem ItemsAt.rows {w:World} {v:Value} {l:List ItemD} (h:ItemsAt w v l):∃ ao cap us,v=.slice ao l.length cap∧us.length=l.length∧(∀ u∈us,SliceV u)∧∀ j u,(rowsIV l us)[j]?=some u→∃ b o,ao=some ⟨b,o,none⟩∧w.cell? ⟨b,o+j,none⟩=some u:=by
 obtain⟨ao,cap,e,_,h3⟩:=h
 have hx:∀ i:Fin l.length,∃ u,SliceV u∧∃ b o,ao=some ⟨b,o,none⟩∧w.rangeAt b (o+i.1*10) (itemCells l[i.1] u):=fun i=>by
  obtain⟨b,o,u,ha,_,hr,hs,_⟩:=h3 i.1 i.2
  obtain⟨a',c',e',_⟩:=hs
  exact⟨u,⟨_,_,_,e'⟩,b,o,ha,hr⟩
 have hus:(List.ofFn fun i=>Classical.choose (hx i)).length=l.length:=by simp
 refine⟨ao,cap,List.ofFn fun i=>Classical.choose (hx i),e,hus,fun u hu=>?_,fun j u hu=>?_⟩
 ·obtain⟨i,rfl⟩:=List.mem_ofFn.1 hu
  exact (Classical.choose_spec (hx i)).1
 ·have hj:=(List.getElem?_eq_some_iff.1 hu).1
  rw[rowsIV_length _ _ hus] at hj
  have hi:j / 10<l.length:=by omega
  have hg:=rowsIV_get hus hi (by rw[hus];exact hi)
  have hu2:(itemCells l[j / 10] ((List.ofFn fun i=>Classical.choose (hx i))[j / 10]'(by rw[hus];exact hi)))[j % 10]?=some u:=by
   rw[← hg,List.getElem?_take_of_lt (by omega),List.getElem?_drop,show j / 10*10+j % 10=j by omega]
   exact hu
  rw[List.getElem_ofFn] at hu2
  obtain⟨_,b,o,ha,hr⟩:=Classical.choose_spec (hx ⟨j / 10,hi⟩)
  refine⟨b,o,ha,?_⟩
  have:=hr _ _ hu2
  rw[show o+j / 10*10+j % 10=o+j by omega] at this
  exact this
theorem rowsIV_oneT:∀ (l:List ItemD) (us:List Value),(∀ u∈us,SliceV u)→∀ x∈rowsIV l us,x.oneCell'=true
 | [],_,_,x,h=>by simp[rowsIV] at h
 | _::_,[],_,x,h=>by simp[rowsIV] at h
 | y::l,u::us,hs,x,h=>by
   rw[rowsIV] at h
   rcases List.mem_append.1 h with h|h
   ·exact itemCells_one (hs u (by simp)) x h
   ·exact rowsIV_oneT l us (fun u hu=>hs u (by simp[hu])) x h
theorem app_items {B m:Nat} {Y w0:World} {v x:Value} {l:List ItemD} {xs:List Value} (h:ItemsAt Y x l) (hv:Y.ownsRow B 45 10 v m xs) (hB:B≤Y.heap.size) (hmax:m+l.length≤1000000) (hb:Below B w0 Y) (ty:TypeId) :
  ∃ v' w',(Builtin.append_ #[36,36] ty #[v,x]).run Tryz.prog Y=.ok v' w'∧(∃ a c,v'=.slice a (m+l.length) c)∧(∃ us,us.length=l.length∧(∀ u∈us,SliceV u)∧w'.ownsRow B 45 10 v' (m+l.length) (xs++rowsIV l us))∧Below B w0 w'∧Y.grownBy w' v.ownBlock:=by
 obtain⟨ao,cap,us,rfl,hus,hsl,hc⟩:=h.rows
 obtain⟨i0,hi0,hz0,hz1,hz2⟩:=info_parts Tryz.infoItemT
 have hform:∀ {w':World} {v':Value} {n:Nat} {ys:List Value},w'.ownsRow B 45 10 v' n ys→∃ a c,v'=.slice a n c:=fun h=>by
  rcases h.2 with ⟨rfl,h0⟩|⟨g,c,cur,rfl,_⟩
  ·exact⟨none,0,by rw[h0]⟩
  ·exact⟨_,_,rfl⟩
 cases ao with
 | none=>
   have hl:l=[]:=by
    cases l with
    | nil=>rfl
    | cons y l=>
      cases us with
      | nil=>simp at hus
      | cons u us=>
        obtain⟨b,o,e,_⟩:=hc 0 (.string y.key) (by simp[rowsIV,itemCells])
        cases e
   subst hl
   have hr:=run_append_bare (P:=Tryz.prog) (ty:=ty) Tryz.underlying36 hi0 hv cap
   refine⟨v,Y,hr,hform hv,⟨us,hus,hsl,by simpa[rowsIV] using hv⟩,hb,World.grownBy.refl _ _⟩
 | some a=>
   by_cases hl:l=[]
   ·subst hl
    obtain⟨v',w',h1,h2,h3,_⟩:=run_append_own (P:=Tryz.prog) (w:=Y) B 36 ty 45 i0 _ 10 112 Tryz.underlying36 hi0 hz0 hz1 hz2 rfl (by omega) v m xs hv a 0 cap [] (by simp) (by simp) (by simp) (by unfold maxLen;omega) (by omega) hB
    exact⟨v',w',h1,hform h2,⟨us,hus,hsl,by simpa[rowsIV] using h2⟩,hb.grown h3 hB (fun r hr=>(World.ownsRow.lt hv r hr).1),h3⟩
   ·obtain⟨y,l',rfl⟩:∃ y l',l=y::l':=by cases l with|nil=>exact absurd rfl hl|cons y l'=>exact⟨y,l',rfl⟩
    obtain⟨u,us',rfl⟩:∃ u us',us=u::us':=by cases us with|nil=>simp at hus|cons u us'=>exact⟨u,us',rfl⟩
    obtain⟨b,o,e,_⟩:=hc 0 (.string y.key) (by simp[rowsIV,itemCells])
    simp only[qQ] at e
    subst e
    obtain⟨v',w',h1,h2,h3,_⟩:=run_append_own (P:=Tryz.prog) (w:=Y) B 36 ty 45 i0 _ 10 112 Tryz.underlying36 hi0 hz0 hz1 hz2 rfl (by omega) v m xs hv ⟨b,o,none⟩ (y::l').length cap (rowsIV (y::l') (u::us')) (rowsIV_length _ _ hus) (fun j x hx=>by
     obtain⟨b',o',e',hx'⟩:=hc j x hx
     simp only[qQ,Addr.mk.injEq,and_true] at e'
     obtain⟨rfl,rfl⟩:=e'
     rw[Addr.add_mid]
     exact hx') (rowsIV_oneT _ _ hsl) (by unfold maxLen;omega) (by omega) hB
    exact⟨v',w',h1,hform h2,⟨u::us',hus,hsl,h2⟩,hb.grown h3 hB (fun r hr=>(World.ownsRow.lt hv r hr).1),h3⟩
end
section
open Go.RowKit Go.Shelf
attribute [local go_sem] Oper.semAt_some
theorem wpListIn_append_two {F:Fence} {n:Nat} {P:Program} {w:World} {ops:Array Oper} {rest:List Oper} {o:Oper} {a:Act} {Q:Exit→Act→World→Prop} (hg:o.guard=none) (s x:Operand) (t:TypeId) (hop:o.op=Op.call { callee:=Callee.builtin Builtin.append,args:=#[s,x],argTypes:=#[t,t] })
  (v u:Value) (hs:a.eval s=v) (hx:a.eval x=u) {R:Value→World→Prop} (h:∃ v' w',(Builtin.append_ #[t,t] o.type #[v,u]).run P w=.ok v' w'∧R v' w') (hK:∀ v' w',R v' w'→wpListIn F n P ops Q rest (a.put o.dst v') w'):wpListIn F n P ops Q (o::rest) a w:=by
 refine wpListIn_plain hg fun K hK'=>?_
 obtain⟨v',w',hrun,hR⟩:=h
 unfold Oper.wpIn
 refine⟨?_,?_⟩
 ·simp[Oper.about,hop,resolve,Target.leads,Sem.run_pure]
 ·rw[Oper.semAt_plain F _ _ (by rw[hop];intro c hc';cases hc')]
  simp[execOp,hop,resolve,invoke,builtin,hs,hx,hrun,Result.andThen]
  exact hK' _ _ (hK v' w' hR)
theorem leave_mark {n:Nat} {P:Program} {fn:Func} {tmps:Array Value} {R:Ending→World→Prop} {B D:Nat} {w:World} (hB:B≤D) (hd:w.heap[D]?=some (.deferred (some []))) (h:∀ w',(∀ k,k≠D→w'.heap[k]?=w.heap[k]?)→Below B w w'→∃ v,(results fn tmps).run P w'=.ok v w'∧R (.returned v) w') :
  LeavesInM Fence.wide n P fn tmps R [{ target:=.collected D,args:=#[] }] .returning w:=
 ⟨by simp,.inl ⟨D,_,rfl,run_takeDeferred hd,h _ (fun k hk=>World.putObj_heap_other hk) ⟨rfl,rfl,rfl,by simp,fun k hk1=>World.putObj_heap_other (show k≠D by omega)⟩⟩⟩
theorem owns_slice {w:World} {B sz n:Nat} {E:TypeId} {v:Value} {xs:List Value} (h:w.ownsRow B E sz v n xs):∃ a c,v=.slice a n c:=by
 rcases h.2 with ⟨rfl,h0⟩|⟨g,c,cur,rfl,_⟩
 ·exact⟨none,0,by rw[h0]⟩
 ·exact⟨_,_,rfl⟩
theorem owns_move {W W':World} {base:Nat} {e:TypeId} {size:Nat} {v:Value} {n:Nat} {xs:List Value} (h:W.ownsRow base e size v n xs) (hk:∀ g cs T fr,base≤g→W.heap[g]?=some (.cells cs T fr)→W'.heap[g]?=W.heap[g]?):W'.ownsRow base e size v n xs:=by
 obtain⟨h1,h2|⟨g,cap,cur,h2,h3,h4,h5⟩⟩:=h
 ·exact⟨h1,.inl h2⟩
 ·exact⟨h1,.inr ⟨g,cap,cur,h2,h3,(hk g _ _ _ h3 h4).trans h4,h5⟩⟩
theorem owns_cells {w:World} {B sz n:Nat} {E:TypeId} {v:Value} {xs:List Value} (h:w.ownsRow B E sz v n xs) {g:Nat} (hg:v.ownBlock=some g):B≤g∧g<w.heap.size∧∃ cs T fr,w.heap[g]?=some (.cells cs T fr):=by
 obtain⟨l1,l2⟩:=World.ownsRow.lt h g hg
 rcases h.2 with ⟨rfl,h0⟩|⟨g',c,cur,rfl,_,hh,_⟩
 ·cases hg
 ·simp only[Value.ownBlock,qQ] at hg
  subst hg
  exact⟨l1,l2,_,_,_,hh⟩
def itemsOf (pre:List SpotD):List ItemD:=pre.flatMap fun x=>x.page.items
theorem five (X:World) (o1 o2 o3 o4 o5:Obj):(((((X.alloc o1).alloc o2).alloc o3).alloc o4).alloc o5).heap[X.heap.size]?=some o1∧(((((X.alloc o1).alloc o2).alloc o3).alloc o4).alloc o5).heap[X.heap.size+1]?=some o2∧(((((X.alloc o1).alloc o2).alloc o3).alloc o4).alloc o5).heap[X.heap.size+2]?=some o3∧(((((X.alloc o1).alloc o2).alloc o3).alloc o4).alloc o5).heap[X.heap.size+3]?=some o4∧(((((X.alloc o1).alloc o2).alloc o3).alloc o4).alloc o5).heap[X.heap.size+4]?=some o5∧(((((X.alloc o1).alloc o2).alloc o3).alloc o4).alloc o5).heap.size=X.heap.size+5∧Below X.heap.size X (((((X.alloc o1).alloc o2).alloc o3).alloc o4).alloc o5):=by
 have n1:=heap_newL X o1
 have n2:=heap_newL (X.alloc o1) o2
 have n3:=heap_newL ((X.alloc o1).alloc o2) o3
 have n4:=heap_newL (((X.alloc o1).alloc o2).alloc o3) o4
 have n5:=heap_newL ((((X.alloc o1).alloc o2).alloc o3).alloc o4) o5
 simp only[World.size_alloc] at n2 n3 n4 n5
 refine⟨?_,?_,?_,?_,n5,by simp,((((((qB _ X).alloc qL o1).alloc (by simp) o2).alloc (by simp<;>omega) o3).alloc (by simp<;>omega) o4).alloc (by simp<;>omega) o5)⟩
 ·exact (qE _ _ _ (by simp<;>omega)).trans ((qE _ _ _ (by simp<;>omega)).trans ((qE _ _ _ (by simp<;>omega)).trans ((qE _ _ _ (by simp)).trans n1)))
 ·exact (qE _ _ _ (by simp<;>omega)).trans ((qE _ _ _ (by simp<;>omega)).trans ((qE _ _ _ (by simp)).trans n2))
 ·exact (qE _ _ _ (by simp<;>omega)).trans ((qE _ _ _ (by simp)).trans n3)
 ·exact (qE _ _ _ (by simp)).trans n4
structure ListI (X:World) (pre:List SpotD) (W:World):Prop where
 a4:W.heap[X.heap.size]?=some (.cells #[.slice none 0 0] 36 (0,0))
 a5:W.heap[X.heap.size+1]?=some (.cells #[.nilIface] 38 (0,0))
 a6:∃ v us,W.heap[X.heap.size+2]?=some (.cells #[v] 36 (0,0))∧us.length=(itemsOf pre).length∧(∀ u∈us,SliceV u)∧W.ownsRow (X.heap.size+5) 45 10 v (itemsOf pre).length (rowsIV (itemsOf pre) us)
 ok:∀ x∈pre,x.err=0
 bel:Below X.heap.size X W
 big:X.heap.size+5≤W.heap.size
structure ListX (X:World) (pre:List SpotD) (W:World):Prop where
 a4:W.heap[X.heap.size]?=some (.cells #[.slice none 0 0] 36 (0,0))
 a5:∃ p x,pre=p++[x]∧x.err≠0∧W.heap[X.heap.size+1]?=some (.cells #[errV x.err] 38 (0,0))
 bel:Below X.heap.size X W
theorem owns_kept {lo:Nat} {W W':World} {base:Nat} {e:TypeId} {size:Nat} {v:Value} {n:Nat} {xs:List Value} (h:W.ownsRow base e size v n xs) (ht:Turn lo W W'):W'.ownsRow base e size v n xs:=by
 obtain⟨h1,h2|⟨g,cap,cur,h2,h3,h4,h5⟩⟩:=h
 ·exact⟨h1,.inl h2⟩
 ·exact⟨h1,.inr ⟨g,cap,cur,h2,h3,ht.cells h4,h5⟩⟩
theorem ListI.turn {X:World} {pre:List SpotD} {W W':World} (h:ListI X pre W) {lo:Nat} (ht:Turn lo W W') (hl:X.heap.size≤lo):ListI X pre W':=by
 obtain⟨v,us,h1,h2,h3,h4⟩:=h.a6
 exact⟨ht.cells h.a4,ht.cells h.a5,⟨v,us,ht.cells h1,h2,h3,owns_kept h4 ht⟩,h.ok,ht.bel h.bel hl h.bel.size,qN h.big ht.size⟩
theorem ListX.turn {X:World} {pre:List SpotD} {W W':World} (h:ListX X pre W) {lo:Nat} (ht:Turn lo W W') (hl:X.heap.size≤lo):ListX X pre W':=by
 obtain⟨p,x,h1,h2,h3⟩:=h.a5
 exact⟨ht.cells h.a4,⟨p,x,h1,h2,ht.cells h3⟩,ht.bel h.bel hl h.bel.size⟩
theorem box_kept {lo:Nat} {W0 W1 Wa W:World} (h1:Below W0.heap.size W0 W1) (h2:Below W1.heap.size W1 Wa) (h3:∀ k,k<lo∨W0.heap.size≤k→W.heap[k]?=Wa.heap[k]?) (ht:Turn lo W0 W) {k:Nat} {cs:Array Value} {T:TypeId} {fr:Nat × Nat} (h:Wa.heap[k]?=some (.cells cs T fr)):W.heap[k]?=some (.cells cs T fr):=by
 rcases Nat.lt_or_ge k W0.heap.size with hk|hk
 ·have e:Wa.heap[k]?=W0.heap[k]?:=(h2.block k (qM hk h1.size)).trans (h1.block k hk)
  exact ht.cells (e.symm.trans h)
 ·exact (h3 k (.inr hk)).trans h
theorem neqNilT (w:World):(binOp .neq 38 .nilIface .nilIface).run Tryz.prog w=.ok (.bool false) w:=by kernel_rfl
theorem neqErrT (e:Int) (w:World):(binOp .neq 38 (.iface 62 (.int .i64 e)) .nilIface).run Tryz.prog w=.ok (.bool true) w:=by kernel_rfl
theorem itemsOf_snoc (pre:List SpotD) (x:SpotD):itemsOf (pre++[x])=itemsOf pre++x.page.items:=by simp[itemsOf]
theorem list_any {w0 X:World} {sb mb fb:Nat} {s:StD} {L:List F.Sh} (hSf:Sf w0 X sb mb fb s L) (hL:ShOk L) (root:Int) (hr:InI root) (hsh:(itemsOf (spotsD (readS s L) root)).length≤400000) :
  Calls Tryz.prog 10 #[.pointer (some ⟨sb,0,none⟩),.int .i64 root] X fun e Y=>Below X.heap.size X Y ∧
   ((∃ v us,e=.returned (.tuple #[v,.nilIface])∧(∀ x∈spotsD (readS s L) root,x.err=0)∧us.length=(itemsOf (spotsD (readS s L) root)).length∧Y.ownsRow (X.heap.size+5) 45 10 v (itemsOf (spotsD (readS s L) root)).length (rowsIV (itemsOf (spotsD (readS s L) root)) us)) ∨
    (∃ x∈spotsD (readS s L) root,x.err≠0∧e=.returned (.tuple #[.slice none 0 0,errV x.err]))):=by
 have hT:=hidT (fun b1 b2 w hw h1 h2=>spots_tells hSf hL root hr b1 b2 8 w hw h1 h2)
 obtain⟨S,hS⟩:∃ S,S=spotsD (readS s L) root:=⟨_,rfl⟩
 rw[← hS] at hT hsh ⊢
 clear hS
 replace hsh:=hidT hsh
 refine (callsIn_wide (n:=9)).1 ?_
 refine callsIn_of_wp_marks Tryz.func10 rfl trivial ?_ rfl
 simp only[Tryz.ntmps10,List.size_toArray,qV,List.length_nil,Nat.reduceAdd,Nat.reduceSub,Array.replicate_succ,Array.replicate_zero,List.push_toArray,List.append_toArray,List.nil_append,List.cons_append]
 refine wpIn_wide.2 ?_
 go_wp2_with fail
 refine (spots_any sb root _).mono ?_
 rintro e W1 ⟨rfl,hW1⟩
 have h5:=five X (.cells #[.slice none 0 0] 36) (.cells #[.nilIface] 38) (.cells #[.slice none 0 0] 36) (.cells #[.pointer (some ⟨sb,0,none⟩)] 27) (.cells #[.int .i64 root] 3)
 rw[← hW1] at h5
 obtain⟨p1,p2,p3,p4,p5,p6,p7⟩:=h5
 have hI0:Hid (ListI X [] W1):=hidT ⟨p1,p2,⟨.slice none 0 0,[],p3,rfl,by simp,World.ownsRow_nil _ _ _ _⟩,by simp,p7,by rw[p6];exact Nat.le_refl _⟩
 have hTW:=hidT (hT.out (X.heap.size+4) (X.heap.size+3) W1 p7 p5 p4)
 have hW1s:=hidT p6
 clear p1 p2 p3 p4 p5 p6 p7 hW1 hT
 simp only[World.size_alloc,Nat.add_assoc,Nat.reduceAdd]
 go_wp2
 refine (wpIn_wide (n:=9)).1 ?_
 refine range_tells (At:=AtS) (n0:=Own2 X.heap.size (X.heap.size+4) (X.heap.size+3)) (S:=S) (w0:=W1) rfl (by omega) (gf:=54) (lb:=#[.pointer (some ⟨X.heap.size+4,0,none⟩),.pointer (some ⟨X.heap.size+3,0,none⟩)]) rfl trivial (enters_of Tryz.func54 (by kernel_rfl) rfl) hTW.out (qB _ _) (ListI X) (fun c pre W=>c=.ret∧ListX X pre W)
  (fun xs W W' h ht=>h.turn ht (by have:=hW1s.out;omega)) (fun c xs W W' h ht=>⟨h.1,h.2.turn ht (by have:=hW1s.out;omega)⟩) hI0.out
  (fun x args a' W'=>∃ (pb:Nat) (cs:Array Value) (E:Value),args=#[.agg cs,E]∧a'={ tmps:=#[.pointer (some ⟨sb,0,none⟩),.int .i64 root,undef,undef,.pointer (some ⟨X.heap.size,0,none⟩),.pointer (some ⟨X.heap.size+1,0,none⟩),.pointer (some ⟨X.heap.size+2,0,none⟩),.pointer (some ⟨pb,0,none⟩),E,.pointer (some ⟨sb,0,none⟩),.int .i64 root,.func (.func 54) #[] #[.pointer (some ⟨X.heap.size+4,0,none⟩),.pointer (some ⟨X.heap.size+3,0,none⟩)],.agg cs,E,undef,undef,undef,undef,undef,undef,undef,undef,undef],defers:=[] }∧W'.heap[pb]?=some (.cells cs 86 (0,0))) ?assign ?body ?done ?stop
 case assign=>
  intro l pre x args B W K hI hAt hK
  obtain⟨u,rfl,hH⟩:=hAt
  have hu:=(hH W ⟨Nat.le_refl _,fun _ _ _=>rfl⟩).slices
  replace hH:=hidT hH
  obtain⟨nr,p,ec⟩:=x
  obtain⟨ui,uk,ud,uv,uf⟩:=u
  obtain⟨⟨ai,ni,ci,rfl⟩,⟨ak,nk,ck,rfl⟩,⟨ad,nd,cd,rfl⟩,⟨av,nv,cv,rfl⟩,⟨af,nf,cf,rfl⟩⟩:=hu
  have hbX:=(qB W.heap.size W).alloc qL (.cells #[.int .i64 nr.id,.int .i64 (nr.depth:Int),.string nr.low,.string nr.high,.int .i64 p.kind,.slice ai ni ci,.slice ak nk ck,.slice ad nd cd,.string p.text,.slice av nv cv,.slice af nf cf,.int .i64 p.next,.int .u64 p.mt.txn,.int .i64 p.mt.main.page,.int .i64 p.mt.main.count,.int .i64 p.mt.main.flags,.int .i64 p.mt.free,.int .i64 p.mt.last] 86)
  have hK2:=hK { tmps:=#[.pointer (some ⟨sb,0,none⟩),.int .i64 root,undef,undef,.pointer (some ⟨X.heap.size,0,none⟩),.pointer (some ⟨X.heap.size+1,0,none⟩),.pointer (some ⟨X.heap.size+2,0,none⟩),.pointer (some ⟨W.heap.size,0,none⟩),errV ec,.pointer (some ⟨sb,0,none⟩),.int .i64 root,.func (.func 54) #[] #[.pointer (some ⟨X.heap.size+4,0,none⟩),.pointer (some ⟨X.heap.size+3,0,none⟩)],.agg #[.int .i64 nr.id,.int .i64 (nr.depth:Int),.string nr.low,.string nr.high,.int .i64 p.kind,.slice ai ni ci,.slice ak nk ck,.slice ad nd cd,.string p.text,.slice av nv cv,.slice af nf cf,.int .i64 p.next,.int .u64 p.mt.txn,.int .i64 p.mt.main.page,.int .i64 p.mt.main.count,.int .i64 p.mt.main.flags,.int .i64 p.mt.free,.int .i64 p.mt.last],errV ec,undef,undef,undef,undef,undef,undef,undef,undef,undef],defers:=[] } _ hbX ⟨W.heap.size,_,_,rfl,rfl,heap_newL W _⟩
  clear hK
  rw[show (spotCells nr p ⟨.slice ai ni ci,.slice ak nk ck,.slice ad nd cd,.slice av nv cv,.slice af nf cf⟩).toArray=#[.int .i64 nr.id,.int .i64 (nr.depth:Int),.string nr.low,.string nr.high,.int .i64 p.kind,.slice ai ni ci,.slice ak nk ck,.slice ad nd cd,.string p.text,.slice av nv cv,.slice af nf cf,.int .i64 p.next,.int .u64 p.mt.txn,.int .i64 p.mt.main.page,.int .i64 p.mt.main.count,.int .i64 p.mt.main.flags,.int .i64 p.mt.free,.int .i64 p.mt.last] from rfl]
  gi_wp2
  exact hK2
 case body=>
  intro l pre x args a' W0 W1' Wa W hl hpre hIa hsz hb1 hAt hba hAx hWs hoth hI ht
  obtain⟨pb,cs,E,rfl,rfl,hbox⟩:=hAx
  obtain⟨u,e1,hH⟩:=hAt
  have e2:cs=(spotCells x.near x.page u).toArray∧E=errV x.err:=by simpa using e1
  obtain⟨rfl,rfl⟩:=e2
  have hbW:=box_kept hb1 hba hoth ht hbox
  have hHW:=hH W ⟨by have:=hba.size;omega,fun k h1 h2=>(hoth k (.inr h1)).trans (hba.block k h2)⟩
  have hu:=hHW.slices
  obtain⟨v,us,h6,hus,hsl,ho⟩:=hI.a6
  obtain⟨ra,rc,rfl⟩:=owns_slice ho
  have hrow:∀ g,(Value.slice ra (itemsOf pre).length rc).ownBlock=some g→X.heap.size+5≤g∧g<W0.heap.size∧∃ cs T fr,W.heap[g]?=some (.cells cs T fr):=fun g hg=>by
   obtain⟨v0,us0,k6,_,_,ko⟩:=hIa.a6
   have e3:=(ht.cells k6).symm.trans h6
   simp only[qQ,qX,Array.mk.injEq,List.cons.injEq,and_true] at e3
   rw[e3] at ko
   exact⟨(owns_cells ho hg).1,(owns_cells ko hg).2.1,(owns_cells ho hg).2.2⟩
  have hlen:(itemsOf pre).length+x.page.items.length≤400000:=by
   have h1:=hsh.out
   obtain⟨r,hr⟩:=hpre
   rw[← hr] at h1
   simp only[itemsOf,List.flatMap_append,qO,List.flatMap_cons,List.flatMap_nil,List.append_nil] at h1 ⊢
   omega
  have c6:=cell_rowL h6
  have f4:=frozen_rowL hI.a4
  have f5:=frozen_rowL hI.a5
  have c4:=cell_rowL hI.a4
  have c5:=cell_rowL hI.a5
  have hB5:X.heap.size+5≤W0.heap.size:=hIa.big
  replace hI:=hidT hI
  replace hrow:=hidT hrow
  replace hH:=hidT hH
  replace hbox:=hidT hbox
  have hHW':=hidT hHW
  clear hHW
  by_cases he:x.err=0
  ·have eE:errV x.err=.nilIface:=by rw[he];rfl
   rw[eE]
   have hn:=neqNilT
   have cP5:=(cell_rowL hbW) 5
   have HA:=hidT (fun ty=>app_items hHW'.out.items ho hI.out.big (by omega) (qB _ W) ty)
   obtain⟨ai,ni,ci,eI⟩:=hu.1
   rw[eI] at HA
   replace cP5:W.cell? ⟨pb,5,none⟩=some (.slice ai ni ci):=cP5.trans (by rw[← eI];rfl)
   have hlt6:=(qA h6)
   replace ho:=hidT ho
   have hE0:=hidT he
   clear he
   gi_wp2_with (first|(gi_at_builtin;refine wpListIn_append_two rfl (.tmp 17) (.tmp 20) 36 rfl _ _ rfl rfl (HA.out _) ?_;rintro v2 w2 ⟨⟨a2,c2,rfl⟩,⟨us2,q1,q2,q3⟩,hb2,hg2⟩;have g6:=(hg2.block (X.heap.size+2) hlt6 (fun e=>by have:=(hrow.out _ e.symm).1;omega)).trans h6;have c6':=cell_rowL g6;have f6':=frozen_rowL g6;replace q3:=hidT q3;replace hg2:=hidT hg2;replace g6:=hidT g6;clear hb2)|fail)
   have hb5:Hid (∀ k,k<X.heap.size+5→k≠X.heap.size+2→(w2.setCell ⟨X.heap.size+2,0,none⟩ (.slice a2 ((itemsOf pre).length+x.page.items.length) c2)).heap[k]?=W.heap[k]?):=hidT (fun k h1 h2=>(qD _ _ _ _ (show k≠X.heap.size+2 from h2)).trans (hg2.out.block k (by have:=hI.out.big;omega) (fun e=>by have:=(hrow.out _ e.symm).1;omega)))
   have s6:=heap_setCell_same w2 (X.heap.size+2) 0 _ _ (.slice a2 ((itemsOf pre).length+x.page.items.length) c2) g6.out
   simp only[qS,qZ] at s6
   have hsz2:=hg2.out.size
   refine⟨(BodyKeeps.grown hg2.out fun g hg=>?_).cell' _ ⟨by omega,by omega,by omega⟩ (by omega),(hb5.out _ (by omega) (by omega)).trans hI.out.a4,(hb5.out _ (by omega) (by omega)).trans hI.out.a5,⟨_,us++us2,s6,?_,?_,?_⟩,?_,?_,?_⟩
   ·obtain⟨h1,h2,h3⟩:=hrow.out g hg
    exact⟨.inl ⟨⟨by omega,by omega,by omega⟩,h2⟩,h3⟩
   ·rw[itemsOf_snoc,qO,qO,q1,hus]
   ·intro y hy
    rcases List.mem_append.1 hy with hy|hy
    ·exact hsl y hy
    ·exact q2 y hy
   ·rw[itemsOf_snoc,qO,← rowsIV_append _ _ _ _ hus]
    exact owns_move q3.out fun g cs T fr h1 _=>qD _ _ _ _ (show g≠X.heap.size+2 by omega)
   ·intro y hy
    rcases List.mem_append.1 hy with hy|hy
    ·exact hI.out.ok y hy
    ·rw[List.mem_singleton.1 hy];exact hE0.out
   ·exact ((hI.out.bel.grown hg2.out hI.out.bel.size (fun g hg=>qN (Nat.le_add_right _ 5) (hrow.out g hg).1))).setCell (by simp) _
   ·have:=hI.out.big
    simp
    omega
  ·have eE:errV x.err=.iface 62 (.int .i64 x.err):=if_neg he
   have hE:=hidT eE
   rw[eE]
   clear eE
   have hn:=neqErrT
   clear hu
   gi_wp2
   have s4:=heap_setCell_same W X.heap.size 0 _ _ (.slice none 0 0) hI.out.a4
   have s5:=heap_setCell_same (W.setCell ⟨X.heap.size,0,none⟩ (.slice none 0 0)) (X.heap.size+1) 0 _ _ (.iface 62 (.int .i64 x.err)) ((qD _ _ _ _ (show X.heap.size+1≠X.heap.size by omega)).trans hI.out.a5)
   simp only[qS,qZ] at s4 s5
   refine⟨(BodyKeeps.setCell W _ ⟨by omega,by omega,by omega⟩ (by omega)).cell' _ ⟨by omega,by omega,by omega⟩ (by omega),rfl,(qD _ _ _ _ (show X.heap.size≠X.heap.size+1 by omega)).trans s4,⟨pre,x,rfl,he,by rw[hE.out];exact s5⟩,(hI.out.bel.setCell qL _).setCell (by simp) _⟩
 case done=>
  intro D W hD hI hm
  obtain⟨v,us,h6,hus,hsl,ho⟩:=hI.a6
  obtain⟨ra,rc,rfl⟩:=owns_slice ho
  have c6:=cell_rowL h6
  have f4:=frozen_rowL hI.a4
  have f5:=frozen_rowL hI.a5
  have c4:=cell_rowL hI.a4
  have c5:=cell_rowL hI.a5
  replace hI:=hidT hI
  replace ho:=hidT ho
  replace hsl:=hidT hsl
  replace hus:=hidT hus
  replace h6:=hidT h6
  replace hm:=hidT hm
  go_wp2
  have s4:=heap_setCell_same W X.heap.size 0 _ _ (.slice ra (itemsOf S).length rc) hI.out.a4
  have s5:=heap_setCell_same (W.setCell ⟨X.heap.size,0,none⟩ (.slice ra (itemsOf S).length rc)) (X.heap.size+1) 0 _ _ .nilIface ((qD _ _ _ _ (show X.heap.size+1≠X.heap.size by omega)).trans hI.out.a5)
  simp only[qS,qZ] at s4 s5
  have hDs:=hW1s.out
  have hoth:∀ k,k≠X.heap.size→k≠X.heap.size+1→((W.setCell ⟨X.heap.size,0,none⟩ (.slice ra (itemsOf S).length rc)).setCell ⟨X.heap.size+1,0,none⟩ .nilIface).heap[k]?=W.heap[k]?:=fun k h1 h2=>(qD _ _ _ _ (show k≠X.heap.size+1 from h2)).trans (qD _ _ _ _ (show k≠X.heap.size from h1))
  refine leave_mark (B:=X.heap.size) (by omega) ((hoth D (by omega) (by omega)).trans hm.out) ?_
  intro w' hk hb
  have c4':=cell_rowL ((hk X.heap.size (by omega)).trans ((qD _ _ _ _ (show X.heap.size≠X.heap.size+1 by omega)).trans s4))
  have c5':=cell_rowL ((hk (X.heap.size+1) (by omega)).trans s5)
  refine⟨.tuple #[.slice ra (itemsOf S).length rc,.nilIface],by simp[results,Tryz.results10,go_sem,c4',c5'],((hI.out.bel.setCell qL _).setCell (by simp) _).trans hb,.inl ⟨_,us,rfl,hI.out.ok,hus.out,owns_move ho.out fun g cs T fr hg hc=>?_⟩⟩
  exact (hk g (fun e=>by rw[e,hm.out] at hc;cases hc)).trans (hoth g (by omega) (by omega))
 case stop=>
  intro D c pre x W hD hpre hX hm
  obtain⟨rfl,hX⟩:=hX
  replace hX:=hidT hX
  replace hm:=hidT hm
  replace hpre:=hidT hpre
  refine wpIn_wide.2 ?_
  go_wp2
  refine leave_mark (B:=X.heap.size) (by have:=hW1s.out;omega) hm.out ?_
  intro w' hk hb
  obtain⟨q,y,e1,e2,e3⟩:=hX.out.a5
  obtain⟨e4,e5⟩:=List.append_inj' e1 rfl
  simp only[List.cons.injEq,and_true] at e5
  subst e5
  have hDs:=hW1s.out
  have c4:=cell_rowL ((hk X.heap.size (by omega)).trans hX.out.a4)
  have c5:=cell_rowL ((hk (X.heap.size+1) (by omega)).trans e3)
  refine⟨.tuple #[.slice none 0 0,errV x.err],by simp[results,Tryz.results10,go_sem,c4,c5],hX.out.bel.trans hb,.inr ⟨x,?_,e2,rfl⟩⟩
  obtain⟨r,hr⟩:=hpre.out
  rw[← hr]
  simp
end
end Go.Proofs.YtbghhklbfnplbaaGreat

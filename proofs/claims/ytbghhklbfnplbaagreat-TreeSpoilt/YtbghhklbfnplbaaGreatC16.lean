import Derived.Deep.RegionHeld
import Derived.Deep.DeepCutAuto
import Derived.Deep.RegionLaw
import Derived.Test.YtbghhklbfnplbaaGreatC00
import Derived.Test.YtbghhklbfnplbaaGreatC15
set_option maxHeartbeats 8000000
set_option maxRecDepth 10000
namespace Go.Proofs.YtbghhklbfnplbaaGreat
section
open Go
section
variable {P:Program} {ops:Array Oper} {Q:Exit→Act→World→Prop} {md:Region.Mode} {S:World→Prop} {x:Nat}
def closedB (md:Region.Mode) (ops:Array Oper) (l:Array Bool):Bool:=
 (List.range ops.size).all fun k=>!(l.getD k false)||(match ops[k]? with|some o=>o.after.toList.all fun e=>!(Region.binds md e)||l.getD e.on false|none=>true)
def waitsB (md:Region.Mode) (ops:Array Oper):Nat→Nat→Nat→Bool
 | 0,_,_=>false
 | n+1,x,i=>match ops[x]? with|some o=>o.after.toList.any fun e=>Region.binds md e&&(e.on==i||waitsB md ops n e.on i)|none=>false
theorem closed_spec {l:Array Bool} (h:closedB md ops l=true) {k:Nat} {o:Oper} (ho:ops[k]?=some o) (hk:l.getD k false=true):∀ e∈o.after,Region.binds md e=true→l.getD e.on false=true:=by
 intro e he hb
 have hlt:k<ops.size:=(qA ho)
 have h1:=List.all_eq_true.1 h k (List.mem_range.2 hlt)
 rw[hk,ho] at h1
 simp only[Bool.not_true,Bool.false_or] at h1
 have h2:=List.all_eq_true.1 h1 e (Array.mem_toList_iff.2 he)
 rw[hb] at h2
 simpa using h2
theorem waits_listed {l:Array Bool} (h:closedB md ops l=true):∀ (n k i:Nat),waitsB md ops n k i=true→(∀ o,ops[k]?=some o→∀ e∈o.after,Region.binds md e=true→l.getD e.on false=true)→l.getD i false=true
 | 0,_,_,hw,_=>by simp[waitsB] at hw
 | n+1,k,i,hw,hl=>by
   unfold waitsB at hw
   split at hw
   ·rename_i o ho
    obtain⟨e,he,h2⟩:=List.any_eq_true.1 hw
    simp only[qW,Bool.or_eq_true,beq_iff_eq] at h2
    have h3:=hl o ho e (Array.mem_toList_iff.1 he) h2.1
    rcases h2.2 with h4|h4
    ·rw[← h4];exact h3
    ·exact waits_listed h n e.on i h4 fun o' ho'=>closed_spec h ho' h3
   ·cases hw
theorem ready_waits {l:Array Bool} (h:closedB md ops l=true) {n i:Nat} (hw:waitsB md ops n x i=true) (hr:x∈Region.ready md ops l):l.getD i false=true:=by
 obtain⟨_,o,ho,hall⟩:=mem_ready.1 hr
 exact waits_listed h n x i hw fun o' ho'=>by rw[ho] at ho';cases ho';exact hall
theorem closed_set {l:Array Bool} (h:closedB md ops l=true) {j:Nat} (hj:j∈Region.ready md ops l):closedB md ops (l.setIfInBounds j true)=true:=by
 obtain⟨_,oj,hoj,hall⟩:=mem_ready.1 hj
 refine List.all_eq_true.2 fun k hk=>?_
 cases ho:ops[k]? with
 | none=>simp
 | some o=>
   simp only[Bool.or_eq_true,Bool.not_eq_true']
   cases hl:(l.setIfInBounds j true).getD k false with
   | false=>exact .inl rfl
   | true=>
     refine .inr (List.all_eq_true.2 fun e he0=>?_)
     have he:=Array.mem_toList_iff.1 he0
     cases hb:Region.binds md e with
     | false=>rfl
     | true=>
       simp only[Bool.not_true,Bool.false_or]
       refine getD_set_true ?_
       by_cases e1:j=k
       ·subst e1
        rw[hoj] at ho
        cases ho
        exact hall e he hb
       ·rw[getD_set_ne false e1] at hl
        exact closed_spec h ho hl e he hb
def wpAnyX (P:Program) (md:Region.Mode) (ops:Array Oper) (Q:Exit→Act→World→Prop) (S:World→Prop) (x:Nat):Nat→Array Bool→Act→World→Prop
 | 0,l,a,w=>Region.ready md ops l=[]∧Q .normal a w
 | n + 1,l,a,w=>(Region.ready md ops l=[]→Q .normal a w) ∧
     ∀ i∈Region.ready md ops l,wpOp P ops Q i (fun a' w'=>(i≠x→S w')∧wpAnyX P md ops Q S x n (l.setIfInBounds i true) a' w') a w
theorem any_of_X:∀ (n:Nat) (l:Array Bool) (a:Act) (w:World),wpAnyX P md ops Q S x n l a w→wpAny P md ops Q n l a w
 | 0,_,_,_,h=>h
 | n+1,_,_,_,h=>⟨h.1,fun i hi=>wpOp_mono (fun _ _ h'=>any_of_X n _ _ _ h'.2) (h.2 i hi)⟩
theorem anyX_first {i f:Nat} {oi:Oper} {v:Value} (hi:ops[i]?=some oi) (hs:Region.noSelect ops=true) (hQ:∀ c a w,Q (.panic c) (a.put oi.dst v) w→Q (.panic c) a w) (hw:waitsB md ops f x i=true) :
  ∀ (n:Nat) (l:Array Bool) (a:Act) (w:World),closedB md ops l=true→(∀ j oj,ops[j]?=some oj→j≠i→l.getD j true=false→(∀ e∈oj.after,Region.binds md e=true→e.on≠i)→oi.apart ops oj=true) →
    i∈Region.ready md ops l→YieldsIf P ops S oi v a→S w→wpAnyX P md ops Q S x n (l.setIfInBounds i true) (a.put oi.dst v) w→wpAnyX P md ops Q S x (n+1) l a w:=by
 have hsel:=Region.noSelect_spec hs
 intro n
 induction n with
 | zero=>
   intro l a w _ _ hr hy hS H
   refine⟨fun h=>absurd hr (by simp[h]),fun j hj=>?_⟩
   by_cases e:j=i
   ·subst e
    exact hy.wpOp hi hS ⟨fun _=>hS,H⟩
   ·exact absurd (ready_mono hj e) (by simp[H.1])
 | succ n ih=>
   intro l a w hcl hfree hr hy hS H
   refine⟨fun h=>absurd hr (by simp[h]),fun j hj=>?_⟩
   by_cases e:j=i
   ·subst e
    exact hy.wpOp hi hS ⟨fun _=>hS,H⟩
   obtain⟨hj0,oj,hoj,hall⟩:=mem_ready.1 hj
   have hun:l.getD i true=false:=(mem_ready.1 hr).1
   have hunF:¬ l.getD i false=true:=fun h1=>by
    rcases Nat.lt_or_ge i l.size with h'|h'
    ·simp[h'] at hun h1
     rw[hun] at h1
     cases h1
    ·simp[Array.getElem?_eq_none h'] at h1
   have hjx:j≠x:=fun e1=>hunF (ready_waits hcl hw (e1 ▸ hj))
   have hno:∀ e∈oj.after,Region.binds md e=true→e.on≠i:=fun e he hb heq=>hunF (heq ▸ hall e he hb)
   have hr':=ready_mono hr (fun h=>e h.symm)
   refine wpOp_mono (fun a' w' h3=>⟨fun _=>h3.2.1 hjx,ih (l.setIfInBounds j true) a' w' (closed_set hcl hj) (fun k ok hk hki hku hkn=>?_) hr' h3.1 (h3.2.1 hjx) ?_⟩) (wpOp_putIf hoj (hfree j oj hoj e hj0 hno) (fun cs b=>hsel i oi cs b hi) (fun cs b=>hsel j oj cs b hoj) hQ hy (H.2 j (ready_mono hj e)))
   ·refine hfree k ok hk hki ?_ hkn
    by_cases hjk:j=k
    ·subst hjk;exact hj0
    ·rwa [getD_set_ne true hjk] at hku
   ·rw[Array.setIfInBounds_comm _ _ e]
    exact h3.2.2
theorem anyX_take {i:Nat} {oi:Oper} {v:Value} {n:Nat} {l:Array Bool} {a:Act} {w:World} (hi:ops[i]?=some oi) (hs:Region.noSelect ops=true) (hf:Region.free md ops l i=true) (hr:(Region.ready md ops l).contains i=true)
  (hcl:closedB md ops l=true) (hw:waitsB md ops 40 x i=true) (hQ:∀ c a w,Q (.panic c) (a.put oi.dst v) w→Q (.panic c) a w) (hy:YieldsIf P ops S oi v a) (hS:S w)
  (h:wpAnyX P md ops Q S x n (l.setIfInBounds i true) (a.put oi.dst v) w):wpAnyX P md ops Q S x (n+1) l a w:=
 anyX_first hi hs hQ hw n l a w hcl (Region.free_spec hi hf) (by simpa using hr) hy hS h
def AllX (P:Program) (md:Region.Mode) (ops:Array Oper) (Q:Exit→Act→World→Prop) (S:World→Prop) (x n:Nat) (l:Array Bool) (a:Act) (w:World) (rs:List Nat):Prop:=
 ∀ i∈rs,wpOp P ops Q i (fun a' w'=>(i≠x→S w')∧wpAnyX P md ops Q S x n (l.setIfInBounds i true) a' w') a w
theorem AllX.nil {n:Nat} {l:Array Bool} {a:Act} {w:World}:AllX P md ops Q S x n l a w []:=fun _ h=>by cases h
theorem AllX.cons {n:Nat} {l:Array Bool} {a:Act} {w:World} {i:Nat} {o:Oper} {rs:List Nat} (ho:ops[i]?=some o)
  (h:∀ K':Act→World→Prop,Shut (∀ a w,S w→(S w→wpAnyX P md ops Q S x n (l.setIfInBounds i true) a w)→K' a w)→if Region.wanted o (yielded ops a.tmps)=true then Oper.wp P o a w K' Q else K' (a.put o.dst undef) w)
  (hs:AllX P md ops Q S x n l a w rs):AllX P md ops Q S x n l a w (i::rs):=fun j hj=>by
 rcases List.mem_cons.1 hj with rfl|hj
 ·exact wpOp_step ho (fun K' hK=>h K' (fun a w hS hW=>hK a w ⟨fun _=>hS,hW hS⟩))
 ·exact hs j hj
theorem AllX.last {n:Nat} {l:Array Bool} {a:Act} {w:World} {o:Oper} (ho:ops[x]?=some o)
  (h:∀ K':Act→World→Prop,Shut (∀ a w,wpAnyX P md ops Q S x n (l.setIfInBounds x true) a w→K' a w)→if Region.wanted o (yielded ops a.tmps)=true then Oper.wp P o a w K' Q else K' (a.put o.dst undef) w) :
  AllX P md ops Q S x n l a w [x]:=fun j hj=>by
 rcases List.mem_cons.1 hj with rfl|hj
 ·exact wpOp_step ho (fun K' hK=>h K' (fun a w hW=>hK a w ⟨fun e=>absurd rfl e,hW⟩))
 ·cases hj
theorem anyX_ready {rs:List Nat} {n:Nat} {l:Array Bool} {a:Act} {w:World} (hr:Region.ready md ops l=rs) (hne:rs≠[]) (h:AllX P md ops Q S x n l a w rs):wpAnyX P md ops Q S x (n+1) l a w:=
 ⟨fun h0=>absurd (hr ▸ h0) hne,hr ▸ h⟩
theorem anyX_done {l:Array Bool} {a:Act} {w:World} (hr:Region.ready md ops l=[]) (h:Q .normal a w):∀ n,wpAnyX P md ops Q S x n l a w
 | 0=>⟨hr,h⟩
 | _+1=>⟨fun _=>h,by rw[hr];simp⟩
theorem region_X {id:Nat} {a:Act} {w:World} (x:Nat) (hm:P.follows .mixedOrders=true) (hS:S w.drew) (h:S w.drew→wpAnyX P .any ops Q S x ops.size (Array.replicate ops.size false) a w.drew):(Code.region id ops true).wp P Q a w:=
 wp_region_any hm (any_of_X _ _ _ _ (h hS))
end
end
section
open Go.RowKit
open F (step_append_any)
theorem countB_end {s:RSt} {x:Int} (h:∀ y∈s.ids,y<x):countB s x=s.ids.length:=by
 unfold countB
 have:∀ l:List Int,(∀ y∈l,y<x)→l.takeWhile (fun y=>decide (y<x))=l:=by
  intro l
  induction l with
  | nil=>intro _;rfl
  | cons a l ih=>intro h;rw[List.takeWhile_cons,if_pos (by simpa using h a (by simp)),ih fun y hy=>h y (by simp[hy])]
 rw[this _ h]
theorem dirtyR_end {s:RSt} {x:Int} (h:∀ y∈s.ids,y<x) (hl:s.ids.length=s.ps.length) (p:PageD):dirtyR s x p={ s with ids:=s.ids++[x],ps:=s.ps++[p] }:=by
 unfold dirtyR
 rw[countB_end h,List.take_length,List.drop_length,hl,List.take_length,List.drop_length]
theorem drewA {w0 w:World} {B:Nat} (h:Below B w0 w):Below B w0 w.drew:=⟨h.os,h.tape,h.output,h.size,h.block⟩
theorem Tryz.infoInt1:(Tryz.prog.info? 3).map (fun i=>(i.zero,i.size,i.bytes))=some (some (.int .i64 0),1,8):=by kernel_rfl
section
variable {S:Nat→Prop} {w:World} {rb fb:Nat} {s:RSt} {va vf vi vp:Value}
theorem app_form {P:Program} {T E:TypeId} {sz m n cap by' B:Nat} {z:Value} {Y w0:World} {ao:Option Addr} {v:Value} {xs cs:List Value} (h:SlAt sz Y ao cap n cs) (hs:0<sz) (hT:P.underlying T=some (.slice E)) (hi:(P.info? E).map (fun i=>(i.zero,i.size,i.bytes))=some (some z,sz,by')) (hz:z.cells.size=sz) (hv:Y.ownsRow B E sz v m xs) (hB:B≤Y.heap.size) (hmax:m+n≤100000) (hby:by'≤1000000) (hb:Below B w0 Y) (ty:TypeId) :
  ∃ v' w',(Builtin.append_ #[T,T] ty #[v,.slice ao n cap]).run P Y=.ok v' w'∧(∃ a c,v'=.slice a (m+n) c)∧w'.ownsRow B E sz v' (m+n) (xs++cs)∧Below B w0 w'∧Y.grownBy w' v.ownBlock:=by
 obtain⟨v',w',h1,h2,h3⟩:=h.app hs hT hi hz hv hB hmax hby
 refine⟨v',w',h1,?_,h2,hb.grown h3 hB (fun r hr=>(World.ownsRow.lt hv r hr).1),h3⟩
 rcases h2.2 with ⟨rfl,h0⟩|⟨g,c,cur,rfl,_⟩
 ·exact⟨none,0,by rw[h0]⟩
 ·exact⟨_,_,rfl⟩
theorem Tryz.infoPage:(Tryz.prog.info? 59).map (fun i=>(i.zero,i.size,i.bytes))=some (some (.agg #[.int .i64 0,.slice none 0 0,.slice none 0 0,.slice none 0 0,.string ⟨#[]⟩,.slice none 0 0,.slice none 0 0,.int .i64 0,.int .u64 0,.int .i64 0,.int .i64 0,.int .i64 0,.int .i64 0,.int .i64 0]),14,200):=by kernel_rfl
theorem dirty_end {w wr w3 W3:World} {rb fb:Nat} {s:RSt} {va vf vi:Value} {ap:Option Addr} {cp:Nat} {us:List PV} (h:RStAt S w rb fb s va vf vi (.slice ap s.ps.length cp)) (hS:∀ k,S k→k<w.heap.size) (hrb:S rb) {x:Int} {p:PageD} {u:PV} (HU:HangsS S w p u) (hx:∀ y∈s.ids,y<x) (hfew:s.ids.length≤119)
  (hwr:Below w.heap.size w wr) {a3:Option Addr} {c3:Nat} (ho3:w3.ownsRow wr.heap.size 3 1 (.slice a3 (s.ids.length+1) c3) (s.ids.length+1) (intsC s.ids++[.int .i64 x])) (hb3:Below wr.heap.size wr w3) (hus:us.length=s.ps.length) (hone:∀ v∈rowsPV s.ps us,v.oneCell'=true)
  (hPH:∀ i (h:i<s.ps.length) (h':i<us.length),HangsS S w s.ps[i] us[i]) {a:Option Addr} {c:Nat}
  (hoW:W3.ownsRow (w3.setCell ⟨rb,5,none⟩ (.slice a3 (s.ids.length+1) c3)).heap.size 59 14 (.slice a (s.ps.length+1) c) (s.ps.length+1) (rowsPV s.ps us++cellsPV p u)) (hbW:Below (w3.setCell ⟨rb,5,none⟩ (.slice a3 (s.ids.length+1) c3)).heap.size (w3.setCell ⟨rb,5,none⟩ (.slice a3 (s.ids.length+1) c3)) W3) :
  RStAt S (W3.setCell ⟨rb,6,none⟩ (.slice a (s.ps.length+1) c)) rb fb (dirtyR s x p) va vf (.slice a3 (s.ids.length+1) c3) (.slice a (s.ps.length+1) c)∧w.grownBy (W3.setCell ⟨rb,6,none⟩ (.slice a (s.ps.length+1) c)) (some rb):=by
 have hlen:=h.ok.len
 rw[dirtyR_end hx hlen p]
 have e0:wr.heap[rb]?=_:=(hwr.block rb h.lt).trans h.obj
 have hlr:=(qA e0)
 have e1:=(hb3.block rb hlr).trans e0
 have e2:=heap_setCell_same _ rb 5 _ _ (.slice a3 (s.ids.length+1) c3) e1
 have e3:=(hbW.block rb (qA e2)).trans e2
 have e4:=heap_setCell_same _ rb 6 _ _ (.slice a (s.ps.length+1) c) e3
 have hsz1:=hwr.size
 have hsz3:=hb3.size
 have k1:Ks S w w3:=(Ks.below hwr).trans (.below hb3)
 have k2:Ks S w3 (W3.setCell ⟨rb,6,none⟩ (.slice a (s.ps.length+1) c)):=(((Ks.refl S w3).setCell _ (.inl hrb)).trans (.below hbW)).setCell _ (.inl hrb)
 have k3:Ks S W3 (W3.setCell ⟨rb,6,none⟩ (.slice a (s.ps.length+1) c)):=(Ks.refl S W3).setCell _ (.inl hrb)
 have kk:=k1.trans k2
 have huo:=cellsPV_one (p:=p) HU.here.slices
 refine⟨⟨?_,h.avail.on kk,h.freed.on kk,?_,?_,?_⟩,?_⟩
 ·rw[e4]
  simp[rsCells]
 ·obtain⟨ao,cap,e,h5⟩:=SlK.own (S:=S) ho3 (fun v hv=>by
   rw[qU] at hv
   rcases hv with hv|hv
   ·exact intsC_one _ v hv
   ·simp at hv;subst hv;rfl) (fun k hk=>by have:=hS k hk;omega)
  refine⟨ao,cap,by rw[e];simp,?_⟩
  have:=h5.on k2
  rw[show intsC s.ids++[Value.int .i64 x]=intsC (s.ids++[x]) by simp[intsC]] at this
  simpa using this
 ·obtain⟨ao,cap,e,h5⟩:=SlK.own (S:=S) hoW (fun v hv=>by
   rw[qU] at hv
   rcases hv with hv|hv
   ·exact hone v hv
   ·exact huo v hv) (fun k hk=>by have:=hS k hk;simp;omega)
  refine⟨ao,cap,us++[u],by rw[e];simp,by simp[hus],?_,fun i hi hi'=>?_⟩
  ·have h6:=h5.on k3
   rw[show rowsPV s.ps us++cellsPV p u=rowsPV (s.ps++[p]) (us++[u]) by rw[← rowsPV_append _ _ _ _ hus];simp[rowsPV]] at h6
   simpa using h6
  ·rcases Nat.lt_or_ge i s.ps.length with hl|hl
   ·have:=(hPH i hl (by omega)).on kk
    simpa[List.getElem_append_left hl,List.getElem_append_left (show i<us.length by omega)] using this
   ·obtain rfl:i=s.ps.length:=by simp at hi;omega
    have:=HU.on kk
    simpa[List.getElem_append_right,hus] using this
 ·exact⟨by simp[hlen],by simp;omega,h.ok.fewA,h.ok.fewF,h.ok.last,h.ok.most⟩
 ·refine⟨?_,?_,?_,?_,fun k hk hne=>?_⟩
  ·exact hbW.os.trans (hb3.os.trans hwr.os)
  ·exact hbW.tape.trans (hb3.tape.trans hwr.tape)
  ·exact hbW.output.trans (hb3.output.trans hwr.output)
  ·have:=hbW.size;simp at this ⊢;omega
  ·have hkn:k≠rb:=by simpa using hne
   rw[qD _ _ _ _ hkn,hbW.block k (by simp;omega),qD _ _ _ _ hkn,hb3.block k (by omega),hwr.block k hk]
theorem dirty_any (h:RStAt S w rb fb s va vf vi vp) (hS:∀ k,S k→k<w.heap.size) (hrb:S rb) (x:Int) (p:PageD) (u:PV) (hu:HangsS S w p u) (hx:∀ y∈s.ids,y<x) (hfew:s.ids.length≤119) :
  Calls Tryz.prog 73 #[.pointer (some ⟨rb,0,none⟩),.int .i64 x,.agg (cellsPV p u).toArray] w fun e w'=>e=.returned (.tuple #[])∧∃ vi' vp',RStAt S w' rb fb (dirtyR s x p) va vf vi' vp'∧w.grownBy w' (some rb):=by
 have HU:=hidA hu
 obtain⟨⟨ai0,ni0,ci0,e1⟩,⟨ak,nk,ck,e2⟩,⟨ad,nd,cd,e3⟩,⟨av,nv,cv,e4⟩,⟨af,nf,cf,e5⟩⟩:=hu.here.slices
 clear hu
 obtain⟨ui,uk,ud,uv,uf⟩:=u
 simp only at e1 e2 e3 e4 e5
 subst e1 e2 e3 e4 e5
 have HH:=hidA h
 have hlen:=hidA h.ok.len
 obtain⟨ai,ci,rfl,hI⟩:=h.ids
 obtain⟨ap,cp,us,rfl,hus,hP,hPH⟩:=h.pages
 have hR0:=hidA h.obj
 have hlt:=hidA h.lt
 have hget:Hid (∀ k,k<s.ids.length→∃ a:Addr,(∀ W,(Instr.indexAt 32 (.slice ai s.ids.length ci) (.int .i64 (k:Int))).run Tryz.prog W=.ok (.pointer (some a)) W)∧∀ W,Ks S w W→W.cell? a=some (.int .i64 (s.ids.getD k 0))):=hidA (by
  obtain⟨_,_,e0,hg⟩:=h.ids.get
  simp only[qR,true_and] at e0
  obtain⟨rfl,rfl⟩:=e0
  exact hg)
 have hsl1:=hI.here.headRun Tryz.underlying32 Tryz.szInt s.ids.length qL
 obtain⟨bo,hsl2,hT⟩:=hI.tail Tryz.underlying32 Tryz.szInt s.ids.length qL
 have hsp1:=hP.here.headRun Tryz.underlying68 Tryz.szPage s.ps.length qL
 obtain⟨bp,hsp2,hTP⟩:=hP.tail Tryz.underlying68 Tryz.szPage s.ps.length qL
 rw[Nat.sub_self] at hsl2 hsp2 hT hTP
 have hgp:∀ W,(Instr.slice 68 (.slice ap s.ps.length cp) none (some (.int .i64 (s.ids.length:Int))) none).run Tryz.prog W=.ok (.slice ap s.ps.length cp) W:=fun W=>by rw[hlen.out];exact hsp1 W
 have hgq:∀ W,(Instr.slice 68 (.slice ap s.ps.length cp) (some (.int .i64 (s.ids.length:Int))) none none).run Tryz.prog W=.ok (.slice bp 0 (cp - s.ps.length)) W:=fun W=>by rw[hlen.out];exact hsp2 W
 clear hsp1 hsp2
 show Calls Tryz.prog 73 #[.pointer (some ⟨rb,0,none⟩),.int .i64 x,.agg #[.int .i64 p.kind,.slice ai0 ni0 ci0,.slice ak nk ck,.slice ad nd cd,.string p.text,.slice av nv cv,.slice af nf cf,.int .i64 p.next,.int .u64 p.mt.txn,.int .i64 p.mt.main.page,.int .i64 p.mt.main.count,.int .i64 p.mt.main.flags,.int .i64 p.mt.free,.int .i64 p.mt.last]] w _
 replace hI:=hidA hI
 replace hT:=hidA hT
 replace hP:=hidA hP
 replace hTP:=hidA hTP
 replace hPH:=hidA hPH
 replace hus:=hidA hus
 replace hS:=hidA hS
 replace hrb:=hidA hrb
 replace hx:=hidA hx
 have hn:Hid (s.ids.length≤119):=hidA hfew
 have hW1:Hid (Below w.heap.size w (w.alloc (.cells #[.int .i64 p.kind,.slice ai0 ni0 ci0,.slice ak nk ck,.slice ad nd cd,.string p.text,.slice av nv cv,.slice af nf cf,.int .i64 p.next,.int .u64 p.mt.txn,.int .i64 p.mt.main.page,.int .i64 p.mt.main.count,.int .i64 p.mt.main.flags,.int .i64 p.mt.free,.int .i64 p.mt.last] 59))):=hidA ((qB _ _).alloc qL _)
 have hbox:Hid ((w.alloc (.cells #[.int .i64 p.kind,.slice ai0 ni0 ci0,.slice ak nk ck,.slice ad nd cd,.string p.text,.slice av nv cv,.slice af nf cf,.int .i64 p.next,.int .u64 p.mt.txn,.int .i64 p.mt.main.page,.int .i64 p.mt.main.count,.int .i64 p.mt.main.flags,.int .i64 p.mt.free,.int .i64 p.mt.last] 59)).heap[w.heap.size]?=some (.cells #[.int .i64 p.kind,.slice ai0 ni0 ci0,.slice ak nk ck,.slice ad nd cd,.string p.text,.slice av nv cv,.slice af nf cf,.int .i64 p.next,.int .u64 p.mt.txn,.int .i64 p.mt.main.page,.int .i64 p.mt.main.count,.int .i64 p.mt.main.flags,.int .i64 p.mt.free,.int .i64 p.mt.last] 59 (0,0))):=hidA (heap_newL w _)
 have hsz1:Hid ((w.alloc (.cells #[.int .i64 p.kind,.slice ai0 ni0 ci0,.slice ak nk ck,.slice ad nd cd,.string p.text,.slice av nv cv,.slice af nf cf,.int .i64 p.next,.int .u64 p.mt.txn,.int .i64 p.mt.main.page,.int .i64 p.mt.main.count,.int .i64 p.mt.main.flags,.int .i64 p.mt.free,.int .i64 p.mt.last] 59)).heap.size=w.heap.size+1):=hidA (by simp)
 clear h hfew
 go_enter Tryz.func73,Tryz.ntmps73
 go_wp2
 go_loopg [6] s.ids.length (fun g i wr=>∃ (k:Nat),k+g=s.ids.length∧i=.int .i64 k∧Hid (wr=w.alloc (.cells #[.int .i64 p.kind,.slice ai0 ni0 ci0,.slice ak nk ck,.slice ad nd cd,.string p.text,.slice av nv cv,.slice af nf cf,.int .i64 p.next,.int .u64 p.mt.txn,.int .i64 p.mt.main.page,.int .i64 p.mt.main.count,.int .i64 p.mt.main.flags,.int .i64 p.mt.free,.int .i64 p.mt.last] 59)))
 case atStart=>exact⟨0,by omega,rfl,hidA rfl⟩
 case round=>
  obtain⟨k,hk,rfl,hwr⟩:=hrel
  rw[← hwr.out] at hW1 hbox hsz1
  have c5:wr.cell? ⟨rb,5,none⟩=some (.slice ai s.ids.length ci):=(hW1.out.cell (p:=⟨rb,5,none⟩) hlt.out).trans (HH.out.cells 5)
  cases gk with
  | succ g=>
    have hlk:k<s.ids.length:=by omega
    have hkb:k≤119:=by have:=hn.out;omega
    obtain⟨a,hix,hcell⟩:=hget.out k hlk
    replace hcell:=hcell wr (.below hW1.out)
    have hlt2:decide (s.ids.getD k 0<x)=true:=by
     simp only[decide_eq_true_eq]
     refine hx.out _ ?_
     rw[show s.ids.getD k 0=s.ids[k] by simp[List.getD,hlk]]
     exact List.getElem_mem hlk
    generalize s.ids.getD k 0=y at *
    clear hsl1 hsl2 hgp hgq hget
    go_wp2
    go_roundg g
    case rel=>exact⟨k+1,by omega,by go_num,hwr⟩
    case measure=>omega
  | zero=>
    obtain rfl:k=s.ids.length:=by omega
    have hobj:Hid (wr.heap[rb]?=some (.cells (rsCells fb s va vf (.slice ai s.ids.length ci) (.slice ap s.ps.length cp)) 70 (0,0))):=hidA ((hW1.out.block _ hlt.out).trans hR0.out)
    have hrbW:Hid (rb<wr.heap.size):=hidA (qM hlt.out hW1.out.size)
    clear hget hk hwr
    go_upto_region 4 with fail
    go_cut [] (fun wc=>∃ a3 c3 w3,Hid (wc=w3.setCell ⟨rb,5,none⟩ (.slice a3 (s.ids.length+1) c3)∧w3.ownsRow wr.heap.size 3 1 (.slice a3 (s.ids.length+1) c3) (s.ids.length+1) (intsC s.ids++[.int .i64 x])∧Below wr.heap.size wr w3))
    case first=>
     have hbD:Hid (Below wr.heap.size wr wr.drew):=hidA (drewA (qB _ _))
     have hcl:∀ W,Below wr.heap.size wr W→W.cell? ⟨rb,5,none⟩=some (.slice ai s.ids.length ci):=fun W hW=>(hW.cell (p:=⟨rb,5,none⟩) hrbW.out).trans c5
     have HA1:Hid (∀ Y ty,Below wr.heap.size wr Y→∃ v' w',(Builtin.append_ #[32,32] ty #[.slice none 0 0,.slice ai s.ids.length ci]).run Tryz.prog Y=.ok v' w'∧(∃ a c,v'=.slice a s.ids.length c)∧w'.ownsRow wr.heap.size 3 1 v' s.ids.length (intsC s.ids)∧Below wr.heap.size wr w'∧Y.grownBy w' none):=hidA (fun Y ty hY=>by
      have h0:=app_form (B:=wr.heap.size) (w0:=wr) (v:=.slice none 0 0) (xs:=[]) (m:=0) (hI.out Y ((Ks.below hW1.out).trans (.below hY))) (by omega) Tryz.underlying32 Tryz.infoInt1 rfl (World.ownsRow_nil _ _ _ _) hY.size (by have:=hn.out;omega) (by omega) hY ty
      simpa[Value.ownBlock] using h0)
     have HA2:Hid (∀ Y v1 nb ty,Y.ownsRow wr.heap.size 3 1 v1 s.ids.length (intsC s.ids)→Y.heap[nb]?=some (.cells #[.int .i64 x] 3 (0,0))→Below wr.heap.size wr Y→∃ v' w',(Builtin.append_ #[32,32] ty #[v1,.slice (some ⟨nb,0,none⟩) 1 1]).run Tryz.prog Y=.ok v' w'∧(∃ a c,v'=.slice a (s.ids.length+1) c)∧w'.ownsRow wr.heap.size 3 1 v' (s.ids.length+1) (intsC s.ids++[.int .i64 x])∧Below wr.heap.size wr w'∧Y.grownBy w' v1.ownBlock):=hidA (fun Y v1 nb ty ho hnb hY=>
      app_form (cs:=[.int .i64 x]) (SlAt.ofBlock hnb (by simp) (by simp[Value.oneCell'])) (by omega) Tryz.underlying32 Tryz.infoInt1 rfl ho hY.size (by have:=hn.out;omega) (by omega) hY ty)
     have HA3:Hid (∀ Y v2 ty,Y.ownsRow wr.heap.size 3 1 v2 (s.ids.length+1) (intsC s.ids++[.int .i64 x])→Below wr.heap.size wr Y→∃ v' w',(Builtin.append_ #[32,32] ty #[v2,.slice bo 0 (ci - s.ids.length)]).run Tryz.prog Y=.ok v' w'∧(∃ a c,v'=.slice a (s.ids.length+1) c)∧w'.ownsRow wr.heap.size 3 1 v' (s.ids.length+1) (intsC s.ids++[.int .i64 x])∧Below wr.heap.size wr w'∧Y.grownBy w' v2.ownBlock):=hidA (fun Y v2 ty ho hY=>by
      have h0:=app_form (hT.out Y ((Ks.below hW1.out).trans (.below hY))) (by omega) Tryz.underlying32 Tryz.infoInt1 rfl ho hY.size (by have:=hn.out;omega) (by omega) hY ty
      rw[show (intsC s.ids).drop (s.ids.length*1)=[] by simp[intsC]] at h0
      simpa using h0)
     refine region_X 20 (by kernel_rfl) (S:=fun w'=>w'.cell? ⟨rb,5,none⟩=some (.slice ai s.ids.length ci)) (hcl _ hbD.out) (fun hHeld=>?_)
     refine anyX_take (i:=0) (v:=?_) rfl (by kernel_rfl) (by kernel_rfl) (by kernel_rfl) (by kernel_rfl) (by kernel_rfl) (fun _ _ _ h=>h) (Or.inl ⟨by rfl,?_⟩) (by assumption) ?_
     rotate_left
     ·intro w' hSw;go_simp;try with_reducible rfl
     try simp only[Act.put,qG,qH,qS,qZ,qC]
     refine anyX_take (i:=1) (v:=?_) rfl (by kernel_rfl) (by kernel_rfl) (by kernel_rfl) (by kernel_rfl) (by kernel_rfl) (fun _ _ _ h=>h) (Or.inl ⟨by rfl,?_⟩) (by assumption) ?_
     rotate_left
     ·intro w' hSw;go_simp;try with_reducible rfl
     try simp only[Act.put,qG,qH,qI,qS,qZ,qC]
     refine anyX_take (i:=2) (v:=?_) rfl (by kernel_rfl) (by kernel_rfl) (by kernel_rfl) (by kernel_rfl) (by kernel_rfl) (fun _ _ _ h=>h) (Or.inl ⟨by rfl,?_⟩) (by assumption) ?_
     rotate_left
     ·intro w' hSw;go_simp;try with_reducible rfl
     try simp only[Act.put,qG,qH,qI,qS,qZ,qC]
     refine anyX_take (i:=3) (v:=?_) rfl (by kernel_rfl) (by kernel_rfl) (by kernel_rfl) (by kernel_rfl) (by kernel_rfl) (fun _ _ _ h=>h) (Or.inl ⟨by rfl,?_⟩) (by assumption) ?_
     rotate_left
     ·intro w' hSw;go_simp;try with_reducible rfl
     try simp only[Act.put,qG,qH,qI,qS,qZ,qC]
     refine anyX_take (i:=4) (v:=?_) rfl (by kernel_rfl) (by kernel_rfl) (by kernel_rfl) (by kernel_rfl) (by kernel_rfl) (fun _ _ _ h=>h) (Or.inl ⟨by rfl,?_⟩) (by assumption) ?_
     rotate_left
     ·intro w' hSw;go_simp;try with_reducible rfl
     try simp only[Act.put,qG,qH,qI,qS,qZ,qC]
     refine anyX_take (i:=5) (v:=?_) rfl (by kernel_rfl) (by kernel_rfl) (by kernel_rfl) (by kernel_rfl) (by kernel_rfl) (fun _ _ _ h=>h) (Or.inl ⟨by rfl,?_⟩) (by assumption) ?_
     rotate_left
     ·intro w' hSw;go_simp;try with_reducible rfl
     try simp only[Act.put,qG,qH,qI,qS,qZ,qC]
     refine anyX_take (i:=6) (v:=?_) rfl (by kernel_rfl) (by kernel_rfl) (by kernel_rfl) (by kernel_rfl) (by kernel_rfl) (fun _ _ _ h=>h) (Or.inl ⟨by rfl,?_⟩) (by assumption) ?_
     rotate_left
     ·intro w' hSw;go_simp;try with_reducible rfl
     try simp only[Act.put,qG,qH,qI,qS,qZ,qC]
     refine anyX_take (i:=8) (v:=?_) rfl (by kernel_rfl) (by kernel_rfl) (by kernel_rfl) (by kernel_rfl) (by kernel_rfl) (fun _ _ _ h=>h) (Or.inl ⟨by rfl,?_⟩) (by assumption) ?_
     rotate_left
     ·intro w' hSw;go_simp;try with_reducible rfl
     try simp only[Act.put,qG,qH,qI,qS,qZ,qC]
     refine anyX_take (i:=11) (v:=?_) rfl (by kernel_rfl) (by kernel_rfl) (by kernel_rfl) (by kernel_rfl) (by kernel_rfl) (fun _ _ _ h=>h) (Or.inl ⟨by rfl,?_⟩) (by assumption) ?_
     rotate_left
     ·intro w' hSw;go_simp;try with_reducible rfl
     try simp only[Act.put,qG,qH,qI,qS,qZ,qC]
     refine anyX_take (i:=12) (v:=?_) rfl (by kernel_rfl) (by kernel_rfl) (by kernel_rfl) (by kernel_rfl) (by kernel_rfl) (fun _ _ _ h=>h) (Or.inl ⟨by rfl,?_⟩) (by assumption) ?_
     rotate_left
     ·intro w' hSw;go_simp;try with_reducible rfl
     try simp only[Act.put,qG,qH,qI,qS,qZ,qC]
     refine anyX_take (i:=13) (v:=?_) rfl (by kernel_rfl) (by kernel_rfl) (by kernel_rfl) (by kernel_rfl) (by kernel_rfl) (fun _ _ _ h=>h) (Or.inl ⟨by rfl,?_⟩) (by assumption) ?_
     rotate_left
     ·intro w' hSw;go_simp;try with_reducible rfl
     try simp only[Act.put,qG,qH,qI,qS,qZ,qC]
     refine anyX_take (i:=14) (v:=?_) rfl (by kernel_rfl) (by kernel_rfl) (by kernel_rfl) (by kernel_rfl) (by kernel_rfl) (fun _ _ _ h=>h) (Or.inl ⟨by rfl,?_⟩) (by assumption) ?_
     rotate_left
     ·intro w' hSw;go_simp;try with_reducible rfl
     try simp only[Act.put,qG,qH,qI,qS,qZ,qC]
     refine anyX_take (i:=15) (v:=?_) rfl (by kernel_rfl) (by kernel_rfl) (by kernel_rfl) (by kernel_rfl) (by kernel_rfl) (fun _ _ _ h=>h) (Or.inl ⟨by rfl,?_⟩) (by assumption) ?_
     rotate_left
     ·intro w' hSw;go_simp;try with_reducible rfl
     try simp only[Act.put,qG,qH,qI,qS,qZ,qC]
     refine anyX_take (i:=16) (v:=?_) rfl (by kernel_rfl) (by kernel_rfl) (by kernel_rfl) (by kernel_rfl) (by kernel_rfl) (fun _ _ _ h=>h) (Or.inl ⟨by rfl,?_⟩) (by assumption) ?_
     rotate_left
     ·intro w' hSw;go_simp;try with_reducible rfl
     try simp only[Act.put,qG,qH,qI,qS,qZ,qC]
     refine anyX_ready (rs:=[7,9]) (by kernel_rfl) (by simp) ?_
     refine AllX.cons rfl (fun K hK=>?_) ?_
     ·refine step_append_any rfl (.const (.slice none 0 0)) (.tmp 33) 32 rfl _ _ rfl rfl (HA1.out _ _ hbD.out) ?_
      rintro v1 w1 ⟨⟨a1,c1,rfl⟩,ho1,hb1,hg1⟩
      have hF1:=hcl _ hb1
      replace ho1:=hidA ho1
      replace hb1:=hidA hb1
      replace hg1:=hidA hg1
      refine hK.out _ _ hF1 (fun hHeld=>?_)
      clear hK
      try simp only[Act.put,qG,qH,qI,qS,qZ,qC]
      refine anyX_ready (rs:=[9]) (by kernel_rfl) (by simp) ?_
      refine AllX.cons rfl (fun K hK=>?_) AllX.nil
      go_simp
      have hF4:=hcl _ (hb1.out.alloc hb1.out.size (.cells #[.int .i64 x] 3))
      refine hK.out _ _ hF4 (fun hHeld=>?_)
      clear hK
      try simp only[Act.put,qG,qH,qI,qS,qZ,qC]
      refine anyX_ready (rs:=[10]) (by kernel_rfl) (by simp) ?_
      refine AllX.cons rfl (fun K hK=>?_) AllX.nil
      refine step_append_any rfl (.tmp 34) (.tmp 36) 32 rfl _ _ rfl rfl (HA2.out _ _ _ _ (World.ownsRow.alloc ho1.out _) (heap_newL w1 _) (hb1.out.alloc hb1.out.size (.cells #[.int .i64 x] 3))) ?_
      rintro v2 w2 ⟨⟨a2,c2,rfl⟩,ho2,hb2,_⟩
      have hF2:=hcl _ hb2
      replace ho2:=hidA ho2
      replace hb2:=hidA hb2
      refine hK.out _ _ hF2 (fun hHeld=>?_)
      clear hK
      try simp only[Act.put,qG,qH,qI,qS,qZ,qC]
      refine anyX_ready (rs:=[17]) (by kernel_rfl) (by simp) ?_
      refine AllX.cons rfl (fun K hK=>?_) AllX.nil
      refine step_append_any rfl (.tmp 37) (.tmp 43) 32 rfl _ _ rfl rfl (HA3.out _ _ _ ho2.out hb2.out) ?_
      rintro v3 w3 ⟨⟨a3,c3,rfl⟩,ho3,hb3,_⟩
      have hF3:=hcl _ hb3
      replace ho3:=hidA ho3
      replace hb3:=hidA hb3
      refine hK.out _ _ hF3 (fun hHeld=>?_)
      clear hK
      try simp only[Act.put,qG,qH,qI,qS,qZ,qC]
      refine anyX_take (i:=18) (v:=?_) rfl (by kernel_rfl) (by kernel_rfl) (by kernel_rfl) (by kernel_rfl) (by kernel_rfl) (fun _ _ _ h=>h) (Or.inl ⟨by rfl,?_⟩) (by assumption) ?_
      rotate_left
      ·intro w' hSw;go_simp;try with_reducible rfl
      try simp only[Act.put,qG,qH,qI,qS,qZ,qC]
      refine anyX_take (i:=19) (v:=?_) rfl (by kernel_rfl) (by kernel_rfl) (by kernel_rfl) (by kernel_rfl) (by kernel_rfl) (fun _ _ _ h=>h) (Or.inl ⟨by rfl,?_⟩) (by assumption) ?_
      rotate_left
      ·intro w' hSw;go_simp;try with_reducible rfl
      try simp only[Act.put,qG,qH,qI,qS,qZ,qC]
      refine anyX_ready (rs:=[20]) (by kernel_rfl) (by simp) ?_
      refine AllX.last rfl (fun K hK=>?_)
      have hz3:=frozen_rowL ((hb3.out.block _ hrbW.out).trans hobj.out)
      go_simp
      go_wp2_with fail
      refine hK.out _ _ ?_
      clear hK
      try simp only[Act.put,qG,qH,qI,qS,qZ,qC]
      refine anyX_done (by kernel_rfl) ?_ _
      try go_wp2_with fail
      go_meet
      exact⟨_,_,w3,hidA ⟨rfl,ho3.out,hb3.out⟩⟩
     refine AllX.cons rfl (fun K hK=>?_) AllX.nil
     ·go_simp
      have hF4:=hcl _ (hbD.out.alloc hbD.out.size (.cells #[.int .i64 x] 3))
      refine hK.out _ _ hF4 (fun hHeld=>?_)
      clear hK
      try simp only[Act.put,qG,qH,qI,qS,qZ,qC]
      refine anyX_ready (rs:=[7]) (by kernel_rfl) (by simp) ?_
      refine AllX.cons rfl (fun K hK=>?_) AllX.nil
      refine step_append_any rfl (.const (.slice none 0 0)) (.tmp 33) 32 rfl _ _ rfl rfl (HA1.out _ _ (hbD.out.alloc hbD.out.size (.cells #[.int .i64 x] 3))) ?_
      rintro v1 w1 ⟨⟨a1,c1,rfl⟩,ho1,hb1,hg1⟩
      have hF1:=hcl _ hb1
      replace ho1:=hidA ho1
      replace hb1:=hidA hb1
      replace hg1:=hidA hg1
      refine hK.out _ _ hF1 (fun hHeld=>?_)
      clear hK
      try simp only[Act.put,qG,qH,qI,qS,qZ,qC]
      refine anyX_ready (rs:=[10]) (by kernel_rfl) (by simp) ?_
      refine AllX.cons rfl (fun K hK=>?_) AllX.nil
      refine step_append_any rfl (.tmp 34) (.tmp 36) 32 rfl _ _ rfl rfl (HA2.out _ _ _ _ ho1.out ((hg1.out.block _ (by simp) (by simp)).trans (heap_newL _ _)) hb1.out) ?_
      rintro v2 w2 ⟨⟨a2,c2,rfl⟩,ho2,hb2,_⟩
      have hF2:=hcl _ hb2
      replace ho2:=hidA ho2
      replace hb2:=hidA hb2
      refine hK.out _ _ hF2 (fun hHeld=>?_)
      clear hK
      try simp only[Act.put,qG,qH,qI,qS,qZ,qC]
      refine anyX_ready (rs:=[17]) (by kernel_rfl) (by simp) ?_
      refine AllX.cons rfl (fun K hK=>?_) AllX.nil
      refine step_append_any rfl (.tmp 37) (.tmp 43) 32 rfl _ _ rfl rfl (HA3.out _ _ _ ho2.out hb2.out) ?_
      rintro v3 w3 ⟨⟨a3,c3,rfl⟩,ho3,hb3,_⟩
      have hF3:=hcl _ hb3
      replace ho3:=hidA ho3
      replace hb3:=hidA hb3
      refine hK.out _ _ hF3 (fun hHeld=>?_)
      clear hK
      try simp only[Act.put,qG,qH,qI,qS,qZ,qC]
      refine anyX_take (i:=18) (v:=?_) rfl (by kernel_rfl) (by kernel_rfl) (by kernel_rfl) (by kernel_rfl) (by kernel_rfl) (fun _ _ _ h=>h) (Or.inl ⟨by rfl,?_⟩) (by assumption) ?_
      rotate_left
      ·intro w' hSw;go_simp;try with_reducible rfl
      try simp only[Act.put,qG,qH,qI,qS,qZ,qC]
      refine anyX_take (i:=19) (v:=?_) rfl (by kernel_rfl) (by kernel_rfl) (by kernel_rfl) (by kernel_rfl) (by kernel_rfl) (fun _ _ _ h=>h) (Or.inl ⟨by rfl,?_⟩) (by assumption) ?_
      rotate_left
      ·intro w' hSw;go_simp;try with_reducible rfl
      try simp only[Act.put,qG,qH,qI,qS,qZ,qC]
      refine anyX_ready (rs:=[20]) (by kernel_rfl) (by simp) ?_
      refine AllX.last rfl (fun K hK=>?_)
      have hz3:=frozen_rowL ((hb3.out.block _ hrbW.out).trans hobj.out)
      go_simp
      go_wp2_with fail
      refine hK.out _ _ ?_
      clear hK
      try simp only[Act.put,qG,qH,qI,qS,qZ,qC]
      refine anyX_done (by kernel_rfl) ?_ _
      try go_wp2_with fail
      go_meet
      exact⟨_,_,w3,hidA ⟨rfl,ho3.out,hb3.out⟩⟩
    case rest=>
     obtain⟨a3,c3,w3,hJ⟩:=hcut
     clear hsl1 hsl2
     have hobj2:Hid (wc.heap[rb]?=some (.cells (rsCells fb s va vf (.slice a3 (s.ids.length+1) c3) (.slice ap s.ps.length cp)) 70 (0,0))):=hidA (by
      rw[hJ.out.1,heap_setCell_same _ rb 5 _ _ (.slice a3 (s.ids.length+1) c3) ((hJ.out.2.2.block _ hrbW.out).trans hobj.out)]
      simp[rsCells])
     have hrbC:Hid (rb<wc.heap.size):=hidA (qA hobj2.out)
     have hbox2:Hid (wc.heap[w.heap.size]?=some (.cells #[.int .i64 p.kind,.slice ai0 ni0 ci0,.slice ak nk ck,.slice ad nd cd,.string p.text,.slice av nv cv,.slice af nf cf,.int .i64 p.next,.int .u64 p.mt.txn,.int .i64 p.mt.main.page,.int .i64 p.mt.main.count,.int .i64 p.mt.main.flags,.int .i64 p.mt.free,.int .i64 p.mt.last] 59 (0,0))):=hidA (by
      rw[hJ.out.1,qD _ _ _ _ (show w.heap.size≠rb by have:=hlt.out;omega),hJ.out.2.2.block _ (qA hbox.out)]
      exact hbox.out)
     have hkw:Hid (Ks S w wc):=hidA (by
      rw[hJ.out.1]
      exact ((Ks.below hW1.out).trans (.below hJ.out.2.2)).setCell _ (.inl hrb.out))
     have HEND:Hid (∀ a c W3,W3.ownsRow wc.heap.size 59 14 (.slice a (s.ps.length+1) c) (s.ps.length+1) (rowsPV s.ps us++cellsPV p ⟨.slice ai0 ni0 ci0,.slice ak nk ck,.slice ad nd cd,.slice av nv cv,.slice af nf cf⟩)→Below wc.heap.size wc W3→∃ vi' vp',RStAt S (W3.setCell ⟨rb,6,none⟩ (.slice a (s.ps.length+1) c)) rb fb (dirtyR s x p) va vf vi' vp'∧w.grownBy (W3.setCell ⟨rb,6,none⟩ (.slice a (s.ps.length+1) c)) (some rb)):=hidA (fun a c W3 h1 h2=>by
      rw[hJ.out.1] at h1 h2
      exact⟨_,_,dirty_end HH.out hS.out hrb.out HU.out hx.out hn.out hW1.out hJ.out.2.1 hJ.out.2.2 hus.out hP.out.here.one hPH.out h1 h2⟩)
     have hbD:Hid (Below wc.heap.size wc wc.drew):=hidA (drewA (qB _ _))
     have c6:wc.cell? ⟨rb,6,none⟩=some (.slice ap s.ps.length cp):=cell_rowL hobj2.out 6
     have cB:=cell_rowL hbox2.out
     have hxb:Hid (w.heap.size<wc.heap.size):=hidA (qA hbox2.out)
     have hcl2:∀ W,Below wc.heap.size wc W→W.cell? ⟨rb,6,none⟩=some (.slice ap s.ps.length cp)∧∀ j,W.cell? ⟨w.heap.size,j,none⟩=(#[.int .i64 p.kind,.slice ai0 ni0 ci0,.slice ak nk ck,.slice ad nd cd,.string p.text,.slice av nv cv,.slice af nf cf,.int .i64 p.next,.int .u64 p.mt.txn,.int .i64 p.mt.main.page,.int .i64 p.mt.main.count,.int .i64 p.mt.main.flags,.int .i64 p.mt.free,.int .i64 p.mt.last]:Array Value)[j]?:=fun W hW=>⟨(hW.cell (p:=⟨rb,6,none⟩) hrbC.out).trans c6,fun j=>(hW.cell (p:=⟨w.heap.size,j,none⟩) hxb.out).trans (cB j)⟩
     have hps:Hid (s.ps.length≤119):=hidA (by have:=hn.out;have:=hlen.out;omega)
     have HA1:Hid (∀ Y ty,Below wc.heap.size wc Y→∃ v' w',(Builtin.append_ #[68,68] ty #[.slice none 0 0,.slice ap s.ps.length cp]).run Tryz.prog Y=.ok v' w'∧(∃ a c,v'=.slice a s.ps.length c)∧w'.ownsRow wc.heap.size 59 14 v' s.ps.length (rowsPV s.ps us)∧Below wc.heap.size wc w'∧Y.grownBy w' none):=hidA (fun Y ty hY=>by
      have h0:=app_form (B:=wc.heap.size) (w0:=wc) (v:=.slice none 0 0) (xs:=[]) (m:=0) (hP.out Y (hkw.out.trans (.below hY))) (by omega) Tryz.underlying68 Tryz.infoPage rfl (World.ownsRow_nil _ _ _ _) hY.size (by have:=hps.out;omega) (by omega) hY ty
      simpa[Value.ownBlock] using h0)
     have HA2:Hid (∀ Y v1 nb ty,Y.ownsRow wc.heap.size 59 14 v1 s.ps.length (rowsPV s.ps us)→Y.heap[nb]?=some (.cells #[.int .i64 p.kind,.slice ai0 ni0 ci0,.slice ak nk ck,.slice ad nd cd,.string p.text,.slice av nv cv,.slice af nf cf,.int .i64 p.next,.int .u64 p.mt.txn,.int .i64 p.mt.main.page,.int .i64 p.mt.main.count,.int .i64 p.mt.main.flags,.int .i64 p.mt.free,.int .i64 p.mt.last] 59 (0,0))→Below wc.heap.size wc Y→∃ v' w',(Builtin.append_ #[68,68] ty #[v1,.slice (some ⟨nb,0,none⟩) 1 1]).run Tryz.prog Y=.ok v' w'∧(∃ a c,v'=.slice a (s.ps.length+1) c)∧w'.ownsRow wc.heap.size 59 14 v' (s.ps.length+1) (rowsPV s.ps us++cellsPV p ⟨.slice ai0 ni0 ci0,.slice ak nk ck,.slice ad nd cd,.slice av nv cv,.slice af nf cf⟩)∧Below wc.heap.size wc w'∧Y.grownBy w' v1.ownBlock):=hidA (fun Y v1 nb ty ho hnb hY=>
      app_form (cs:=cellsPV p ⟨.slice ai0 ni0 ci0,.slice ak nk ck,.slice ad nd cd,.slice av nv cv,.slice af nf cf⟩) (SlAt.ofBlock hnb (by simp[cellsPV_length]) (cellsPV_one HU.out.here.slices)) (by omega) Tryz.underlying68 Tryz.infoPage rfl ho hY.size (by have:=hps.out;omega) (by omega) hY ty)
     have HA3:Hid (∀ Y v2 ty,Y.ownsRow wc.heap.size 59 14 v2 (s.ps.length+1) (rowsPV s.ps us++cellsPV p ⟨.slice ai0 ni0 ci0,.slice ak nk ck,.slice ad nd cd,.slice av nv cv,.slice af nf cf⟩)→Below wc.heap.size wc Y→∃ v' w',(Builtin.append_ #[68,68] ty #[v2,.slice bp 0 (cp - s.ps.length)]).run Tryz.prog Y=.ok v' w'∧(∃ a c,v'=.slice a (s.ps.length+1) c)∧w'.ownsRow wc.heap.size 59 14 v' (s.ps.length+1) (rowsPV s.ps us++cellsPV p ⟨.slice ai0 ni0 ci0,.slice ak nk ck,.slice ad nd cd,.slice av nv cv,.slice af nf cf⟩)∧Below wc.heap.size wc w'∧Y.grownBy w' v2.ownBlock):=hidA (fun Y v2 ty ho hY=>by
      have h0:=app_form (hTP.out Y (hkw.out.trans (.below hY))) (by omega) Tryz.underlying68 Tryz.infoPage rfl ho hY.size (by have:=hps.out;omega) (by omega) hY ty
      rw[show (rowsPV s.ps us).drop (s.ps.length*14)=[] from List.drop_eq_nil_of_le (by rw[rowsPV_length _ _ hus.out];omega)] at h0
      simpa using h0)
     have hrbW:=hrbC
     have hobj:=hobj2
     clear hbox hbox2 HH hJ c5
     go_upto_region 5 with fail
     refine region_X 20 (by kernel_rfl) (S:=fun w'=>w'.cell? ⟨rb,6,none⟩=some (.slice ap s.ps.length cp)∧∀ j,w'.cell? ⟨w.heap.size,j,none⟩=(#[.int .i64 p.kind,.slice ai0 ni0 ci0,.slice ak nk ck,.slice ad nd cd,.string p.text,.slice av nv cv,.slice af nf cf,.int .i64 p.next,.int .u64 p.mt.txn,.int .i64 p.mt.main.page,.int .i64 p.mt.main.count,.int .i64 p.mt.main.flags,.int .i64 p.mt.free,.int .i64 p.mt.last]:Array Value)[j]?) (hcl2 _ hbD.out) (fun hHeld=>?_)
     refine anyX_take (i:=0) (v:=?_) rfl (by kernel_rfl) (by kernel_rfl) (by kernel_rfl) (by kernel_rfl) (by kernel_rfl) (fun _ _ _ h=>h) (Or.inl ⟨by rfl,?_⟩) (by assumption) ?_
     rotate_left
     ·rintro w' ⟨hS1,hS2⟩;go_simp;try with_reducible rfl
     try simp only[Act.put,qG,qH,qS,qZ,qC]
     refine anyX_take (i:=1) (v:=?_) rfl (by kernel_rfl) (by kernel_rfl) (by kernel_rfl) (by kernel_rfl) (by kernel_rfl) (fun _ _ _ h=>h) (Or.inl ⟨by rfl,?_⟩) (by assumption) ?_
     rotate_left
     ·rintro w' ⟨hS1,hS2⟩;go_simp;try with_reducible rfl
     try simp only[Act.put,qG,qH,qI,qS,qZ,qC]
     refine anyX_take (i:=2) (v:=?_) rfl (by kernel_rfl) (by kernel_rfl) (by kernel_rfl) (by kernel_rfl) (by kernel_rfl) (fun _ _ _ h=>h) (Or.inl ⟨by rfl,?_⟩) (by assumption) ?_
     rotate_left
     ·rintro w' ⟨hS1,hS2⟩;go_simp;try with_reducible rfl
     try simp only[Act.put,qG,qH,qI,qS,qZ,qC]
     refine anyX_take (i:=3) (v:=?_) rfl (by kernel_rfl) (by kernel_rfl) (by kernel_rfl) (by kernel_rfl) (by kernel_rfl) (fun _ _ _ h=>h) (Or.inl ⟨by rfl,?_⟩) (by assumption) ?_
     rotate_left
     ·rintro w' ⟨hS1,hS2⟩;go_simp;try with_reducible rfl
     try simp only[Act.put,qG,qH,qI,qS,qZ,qC]
     refine anyX_take (i:=4) (v:=?_) rfl (by kernel_rfl) (by kernel_rfl) (by kernel_rfl) (by kernel_rfl) (by kernel_rfl) (fun _ _ _ h=>h) (Or.inl ⟨by rfl,?_⟩) (by assumption) ?_
     rotate_left
     ·rintro w' ⟨hS1,hS2⟩;go_simp;try with_reducible rfl
     try simp only[Act.put,qG,qH,qI,qS,qZ,qC]
     refine anyX_take (i:=5) (v:=?_) rfl (by kernel_rfl) (by kernel_rfl) (by kernel_rfl) (by kernel_rfl) (by kernel_rfl) (fun _ _ _ h=>h) (Or.inl ⟨by rfl,?_⟩) (by assumption) ?_
     rotate_left
     ·rintro w' ⟨hS1,hS2⟩;go_simp;try with_reducible rfl
     try simp only[Act.put,qG,qH,qI,qS,qZ,qC]
     refine anyX_take (i:=6) (v:=?_) rfl (by kernel_rfl) (by kernel_rfl) (by kernel_rfl) (by kernel_rfl) (by kernel_rfl) (fun _ _ _ h=>h) (Or.inl ⟨by rfl,?_⟩) (by assumption) ?_
     rotate_left
     ·rintro w' ⟨hS1,hS2⟩;go_simp;try with_reducible rfl
     try simp only[Act.put,qG,qH,qI,qS,qZ,qC]
     refine anyX_take (i:=8) (v:=?_) rfl (by kernel_rfl) (by kernel_rfl) (by kernel_rfl) (by kernel_rfl) (by kernel_rfl) (fun _ _ _ h=>h) (Or.inl ⟨by rfl,?_⟩) (by assumption) ?_
     rotate_left
     ·rintro w' ⟨hS1,hS2⟩;go_simp;try with_reducible rfl
     try simp only[Act.put,qG,qH,qI,qS,qZ,qC]
     refine anyX_take (i:=11) (v:=?_) rfl (by kernel_rfl) (by kernel_rfl) (by kernel_rfl) (by kernel_rfl) (by kernel_rfl) (fun _ _ _ h=>h) (Or.inl ⟨by rfl,?_⟩) (by assumption) ?_
     rotate_left
     ·rintro w' ⟨hS1,hS2⟩;go_simp;try with_reducible rfl
     try simp only[Act.put,qG,qH,qI,qS,qZ,qC]
     refine anyX_take (i:=12) (v:=?_) rfl (by kernel_rfl) (by kernel_rfl) (by kernel_rfl) (by kernel_rfl) (by kernel_rfl) (fun _ _ _ h=>h) (Or.inl ⟨by rfl,?_⟩) (by assumption) ?_
     rotate_left
     ·rintro w' ⟨hS1,hS2⟩;go_simp;try with_reducible rfl
     try simp only[Act.put,qG,qH,qI,qS,qZ,qC]
     refine anyX_take (i:=13) (v:=?_) rfl (by kernel_rfl) (by kernel_rfl) (by kernel_rfl) (by kernel_rfl) (by kernel_rfl) (fun _ _ _ h=>h) (Or.inl ⟨by rfl,?_⟩) (by assumption) ?_
     rotate_left
     ·rintro w' ⟨hS1,hS2⟩;go_simp;try with_reducible rfl
     try simp only[Act.put,qG,qH,qI,qS,qZ,qC]
     refine anyX_take (i:=14) (v:=?_) rfl (by kernel_rfl) (by kernel_rfl) (by kernel_rfl) (by kernel_rfl) (by kernel_rfl) (fun _ _ _ h=>h) (Or.inl ⟨by rfl,?_⟩) (by assumption) ?_
     rotate_left
     ·rintro w' ⟨hS1,hS2⟩;go_simp;try with_reducible rfl
     try simp only[Act.put,qG,qH,qI,qS,qZ,qC]
     refine anyX_take (i:=15) (v:=?_) rfl (by kernel_rfl) (by kernel_rfl) (by kernel_rfl) (by kernel_rfl) (by kernel_rfl) (fun _ _ _ h=>h) (Or.inl ⟨by rfl,?_⟩) (by assumption) ?_
     rotate_left
     ·rintro w' ⟨hS1,hS2⟩;go_simp;try with_reducible rfl
     try simp only[Act.put,qG,qH,qI,qS,qZ,qC]
     refine anyX_take (i:=16) (v:=?_) rfl (by kernel_rfl) (by kernel_rfl) (by kernel_rfl) (by kernel_rfl) (by kernel_rfl) (fun _ _ _ h=>h) (Or.inl ⟨by rfl,?_⟩) (by assumption) ?_
     rotate_left
     ·rintro w' ⟨hS1,hS2⟩;go_simp;try with_reducible rfl
     try simp only[Act.put,qG,qH,qI,qS,qZ,qC]
     refine anyX_ready (rs:=[7,9]) (by kernel_rfl) (by simp) ?_
     refine AllX.cons rfl (fun K hK=>?_) ?_
     ·refine step_append_any rfl (.const (.slice none 0 0)) (.tmp 53) 68 rfl _ _ rfl rfl (HA1.out _ _ hbD.out) ?_
      rintro v1 w1 ⟨⟨a1,c1,rfl⟩,ho1,hb1,hg1⟩
      have hF1:=hcl2 _ hb1
      replace ho1:=hidA ho1
      replace hb1:=hidA hb1
      replace hg1:=hidA hg1
      refine hK.out _ _ hF1 (fun hHeld=>?_)
      clear hK
      try simp only[Act.put,qG,qH,qI,qS,qZ,qC]
      refine anyX_ready (rs:=[9]) (by kernel_rfl) (by simp) ?_
      refine AllX.cons rfl (fun K hK=>?_) AllX.nil
      go_simp
      have hF4:=hcl2 _ (hb1.out.alloc hb1.out.size (.cells #[.int .i64 p.kind,.slice ai0 ni0 ci0,.slice ak nk ck,.slice ad nd cd,.string p.text,.slice av nv cv,.slice af nf cf,.int .i64 p.next,.int .u64 p.mt.txn,.int .i64 p.mt.main.page,.int .i64 p.mt.main.count,.int .i64 p.mt.main.flags,.int .i64 p.mt.free,.int .i64 p.mt.last] 59))
      refine hK.out _ _ hF4 (fun hHeld=>?_)
      clear hK
      try simp only[Act.put,qG,qH,qI,qS,qZ,qC]
      refine anyX_ready (rs:=[10]) (by kernel_rfl) (by simp) ?_
      refine AllX.cons rfl (fun K hK=>?_) AllX.nil
      refine step_append_any rfl (.tmp 54) (.tmp 56) 68 rfl _ _ rfl rfl (HA2.out _ _ _ _ (World.ownsRow.alloc ho1.out _) (heap_newL w1 _) (hb1.out.alloc hb1.out.size (.cells #[.int .i64 p.kind,.slice ai0 ni0 ci0,.slice ak nk ck,.slice ad nd cd,.string p.text,.slice av nv cv,.slice af nf cf,.int .i64 p.next,.int .u64 p.mt.txn,.int .i64 p.mt.main.page,.int .i64 p.mt.main.count,.int .i64 p.mt.main.flags,.int .i64 p.mt.free,.int .i64 p.mt.last] 59))) ?_
      rintro v2 w2 ⟨⟨a2,c2,rfl⟩,ho2,hb2,_⟩
      have hF2:=hcl2 _ hb2
      replace ho2:=hidA ho2
      replace hb2:=hidA hb2
      refine hK.out _ _ hF2 (fun hHeld=>?_)
      clear hK
      try simp only[Act.put,qG,qH,qI,qS,qZ,qC]
      refine anyX_ready (rs:=[17]) (by kernel_rfl) (by simp) ?_
      refine AllX.cons rfl (fun K hK=>?_) AllX.nil
      refine step_append_any rfl (.tmp 57) (.tmp 63) 68 rfl _ _ rfl rfl (HA3.out _ _ _ ho2.out hb2.out) ?_
      rintro v3 w3 ⟨⟨a3,c3,rfl⟩,ho3,hb3,_⟩
      have hF3:=hcl2 _ hb3
      replace ho3:=hidA ho3
      replace hb3:=hidA hb3
      refine hK.out _ _ hF3 (fun hHeld=>?_)
      clear hK
      try simp only[Act.put,qG,qH,qI,qS,qZ,qC]
      refine anyX_take (i:=18) (v:=?_) rfl (by kernel_rfl) (by kernel_rfl) (by kernel_rfl) (by kernel_rfl) (by kernel_rfl) (fun _ _ _ h=>h) (Or.inl ⟨by rfl,?_⟩) (by assumption) ?_
      rotate_left
      ·rintro w' ⟨hS1,hS2⟩;go_simp;try with_reducible rfl
      try simp only[Act.put,qG,qH,qI,qS,qZ,qC]
      refine anyX_take (i:=19) (v:=?_) rfl (by kernel_rfl) (by kernel_rfl) (by kernel_rfl) (by kernel_rfl) (by kernel_rfl) (fun _ _ _ h=>h) (Or.inl ⟨by rfl,?_⟩) (by assumption) ?_
      rotate_left
      ·rintro w' ⟨hS1,hS2⟩;go_simp;try with_reducible rfl
      try simp only[Act.put,qG,qH,qI,qS,qZ,qC]
      refine anyX_ready (rs:=[20]) (by kernel_rfl) (by simp) ?_
      refine AllX.last rfl (fun K hK=>?_)
      have hz3:=frozen_rowL ((hb3.out.block _ hrbW.out).trans hobj.out)
      go_simp
      go_wp2_with fail
      refine hK.out _ _ ?_
      clear hK
      try simp only[Act.put,qG,qH,qI,qS,qZ,qC]
      refine anyX_done (by kernel_rfl) ?_ _
      go_wp2
      go_end0
      exact⟨rfl,HEND.out _ _ _ ho3.out hb3.out⟩
     refine AllX.cons rfl (fun K hK=>?_) AllX.nil
     ·go_simp
      have hF4:=hcl2 _ (hbD.out.alloc hbD.out.size (.cells #[.int .i64 p.kind,.slice ai0 ni0 ci0,.slice ak nk ck,.slice ad nd cd,.string p.text,.slice av nv cv,.slice af nf cf,.int .i64 p.next,.int .u64 p.mt.txn,.int .i64 p.mt.main.page,.int .i64 p.mt.main.count,.int .i64 p.mt.main.flags,.int .i64 p.mt.free,.int .i64 p.mt.last] 59))
      refine hK.out _ _ hF4 (fun hHeld=>?_)
      clear hK
      try simp only[Act.put,qG,qH,qI,qS,qZ,qC]
      refine anyX_ready (rs:=[7]) (by kernel_rfl) (by simp) ?_
      refine AllX.cons rfl (fun K hK=>?_) AllX.nil
      refine step_append_any rfl (.const (.slice none 0 0)) (.tmp 53) 68 rfl _ _ rfl rfl (HA1.out _ _ (hbD.out.alloc hbD.out.size (.cells #[.int .i64 p.kind,.slice ai0 ni0 ci0,.slice ak nk ck,.slice ad nd cd,.string p.text,.slice av nv cv,.slice af nf cf,.int .i64 p.next,.int .u64 p.mt.txn,.int .i64 p.mt.main.page,.int .i64 p.mt.main.count,.int .i64 p.mt.main.flags,.int .i64 p.mt.free,.int .i64 p.mt.last] 59))) ?_
      rintro v1 w1 ⟨⟨a1,c1,rfl⟩,ho1,hb1,hg1⟩
      have hF1:=hcl2 _ hb1
      replace ho1:=hidA ho1
      replace hb1:=hidA hb1
      replace hg1:=hidA hg1
      refine hK.out _ _ hF1 (fun hHeld=>?_)
      clear hK
      try simp only[Act.put,qG,qH,qI,qS,qZ,qC]
      refine anyX_ready (rs:=[10]) (by kernel_rfl) (by simp) ?_
      refine AllX.cons rfl (fun K hK=>?_) AllX.nil
      refine step_append_any rfl (.tmp 54) (.tmp 56) 68 rfl _ _ rfl rfl (HA2.out _ _ _ _ ho1.out ((hg1.out.block _ (by simp) (by simp)).trans (heap_newL _ _)) hb1.out) ?_
      rintro v2 w2 ⟨⟨a2,c2,rfl⟩,ho2,hb2,_⟩
      have hF2:=hcl2 _ hb2
      replace ho2:=hidA ho2
      replace hb2:=hidA hb2
      refine hK.out _ _ hF2 (fun hHeld=>?_)
      clear hK
      try simp only[Act.put,qG,qH,qI,qS,qZ,qC]
      refine anyX_ready (rs:=[17]) (by kernel_rfl) (by simp) ?_
      refine AllX.cons rfl (fun K hK=>?_) AllX.nil
      refine step_append_any rfl (.tmp 57) (.tmp 63) 68 rfl _ _ rfl rfl (HA3.out _ _ _ ho2.out hb2.out) ?_
      rintro v3 w3 ⟨⟨a3,c3,rfl⟩,ho3,hb3,_⟩
      have hF3:=hcl2 _ hb3
      replace ho3:=hidA ho3
      replace hb3:=hidA hb3
      refine hK.out _ _ hF3 (fun hHeld=>?_)
      clear hK
      try simp only[Act.put,qG,qH,qI,qS,qZ,qC]
      refine anyX_take (i:=18) (v:=?_) rfl (by kernel_rfl) (by kernel_rfl) (by kernel_rfl) (by kernel_rfl) (by kernel_rfl) (fun _ _ _ h=>h) (Or.inl ⟨by rfl,?_⟩) (by assumption) ?_
      rotate_left
      ·rintro w' ⟨hS1,hS2⟩;go_simp;try with_reducible rfl
      try simp only[Act.put,qG,qH,qI,qS,qZ,qC]
      refine anyX_take (i:=19) (v:=?_) rfl (by kernel_rfl) (by kernel_rfl) (by kernel_rfl) (by kernel_rfl) (by kernel_rfl) (fun _ _ _ h=>h) (Or.inl ⟨by rfl,?_⟩) (by assumption) ?_
      rotate_left
      ·rintro w' ⟨hS1,hS2⟩;go_simp;try with_reducible rfl
      try simp only[Act.put,qG,qH,qI,qS,qZ,qC]
      refine anyX_ready (rs:=[20]) (by kernel_rfl) (by simp) ?_
      refine AllX.last rfl (fun K hK=>?_)
      have hz3:=frozen_rowL ((hb3.out.block _ hrbW.out).trans hobj.out)
      go_simp
      go_wp2_with fail
      refine hK.out _ _ ?_
      clear hK
      try simp only[Act.put,qG,qH,qI,qS,qZ,qC]
      refine anyX_done (by kernel_rfl) ?_ _
      go_wp2
      go_end0
      exact⟨rfl,HEND.out _ _ _ ho3.out hb3.out⟩
end
end
end Go.Proofs.YtbghhklbfnplbaaGreat

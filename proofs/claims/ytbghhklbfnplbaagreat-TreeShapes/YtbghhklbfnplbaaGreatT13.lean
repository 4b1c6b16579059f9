import Derived.Sort.LoopGhostIn
import Derived.Test.YtbghhklbfnplbaaGreatC00
import Derived.Test.YtbghhklbfnplbaaGreatT08
import Derived.Test.YtbghhklbfnplbaaGreatT10
set_option maxHeartbeats 4000000
set_option maxRecDepth 100000
namespace Go.Proofs.YtbghhklbfnplbaaGreat
section
open Go
structure Sc where
 op:Int
 lv:Nat
 ks:Nat
 at':Nat
 i:Nat
def sc (s:Sc) (c:Nat):Sc:=
 if c=91 then ⟨s.op+1,s.lv,s.ks,s.at',s.i+1⟩
 else if c=93 then ⟨s.op - 1,s.lv,s.ks,s.at',s.i+1⟩
 else if c=40 then ⟨s.op,s.lv+1,s.ks,s.i+1,s.i+1⟩
 else if c=41 then ⟨s.op,s.lv,s.ks+(s.i - s.at'+1) / 3,s.at',s.i+1⟩
 else ⟨s.op,s.lv,s.ks,s.at',s.i+1⟩
def okC (s:Sc) (c:Nat):Prop:=c=41→1≤(s.i - s.at'+1) / 3∧(s.i - s.at'+1) / 3≤4
def scL (s:Sc):List UInt8→Sc
 | []=>s
 | c::r=>scL (sc s c.toNat) r
def scOk (s:Sc):List UInt8→Prop
 | []=>True
 | c::r=>okC s c.toNat∧scOk (sc s c.toNat) r
def scB (s:Sc):Prop:=-(s.i:Int)≤s.op∧s.op≤s.i∧s.lv≤s.i∧s.ks≤4*s.i∧s.at'≤s.i
theorem scB_sc {s:Sc} {c:Nat} (h:scB s) (hc:okC s c):scB (sc s c):=by
 obtain⟨h1,h2,h3,h4,h5⟩:=h
 unfold sc
 split
 ·refine⟨?_,?_,?_,?_,?_⟩<;>simp only<;>omega
 split
 ·refine⟨?_,?_,?_,?_,?_⟩<;>simp only<;>omega
 split
 ·refine⟨?_,?_,?_,?_,?_⟩<;>simp only<;>omega
 split
 ·rename_i h6
  obtain⟨h7,h8⟩:=hc h6
  refine⟨?_,?_,?_,?_,?_⟩<;>simp only<;>omega
 ·refine⟨?_,?_,?_,?_,?_⟩<;>simp only<;>omega
theorem scL_append (s:Sc):∀ (a b:List UInt8),scL s (a++b)=scL (scL s a) b:=by
 intro a
 induction a generalizing s with
 | nil=>intro b;rfl
 | cons c r ih=>intro b;exact ih _ b
theorem scOk_append (s:Sc):∀ (a b:List UInt8),scOk s a→scOk (scL s a) b→scOk s (a++b):=by
 intro a
 induction a generalizing s with
 | nil=>intro b _ h;exact h
 | cons c r ih=>intro b h1 h2;exact⟨h1.1,ih _ b h1.2 h2⟩
theorem sc_close:∀ (k:Nat) (s:Sc),scL s (closeB k)=⟨s.op - k,s.lv,s.ks,s.at',s.i+k⟩∧scOk s (closeB k)
 | 0,s=>⟨by simp[closeB,scL],trivial⟩
 | k+1,s=>by
   have e:closeB (k+1)=93::closeB k:=rfl
   have e1:sc s (93:UInt8).toNat=⟨s.op - 1,s.lv,s.ks,s.at',s.i+1⟩:=rfl
   obtain⟨h1,h2⟩:=sc_close k (sc s (93:UInt8).toNat)
   rw[e]
   refine⟨?_,fun h=>absurd h (by decide),h2⟩
   show scL (sc s (93:UInt8).toNat) (closeB k)=_
   rw[h1,e1]
   simp only[Sc.mk.injEq,true_and]
   omega
def plainL (l:List UInt8):Prop:=∀ c∈l,c.toNat≠91∧c.toNat≠93∧c.toNat≠40∧c.toNat≠41
theorem sc_plain:∀ (l:List UInt8) (s:Sc),plainL l→scL s l=⟨s.op,s.lv,s.ks,s.at',s.i+l.length⟩∧scOk s l
 | [],s,_=>⟨rfl,trivial⟩
 | c::r,s,h=>by
   obtain⟨n1,n2,n3,n4⟩:=h c (by simp)
   have e1:sc s c.toNat=⟨s.op,s.lv,s.ks,s.at',s.i+1⟩:=by
    unfold sc
    rw[if_neg n1,if_neg n2,if_neg n3,if_neg n4]
   obtain⟨h1,h2⟩:=sc_plain r (sc s c.toNat) (fun x hx=>h x (by simp[hx]))
   refine⟨?_,fun h=>absurd h n4,h2⟩
   show scL (sc s c.toNat) r=_
   rw[h1,e1]
   simp only[Sc.mk.injEq,true_and,qV]
   omega
theorem key2_plain {k:Nat} (hk:k<256):plainL (key2 k).data.toList:=by
 intro c hc
 have:c=UInt8.ofNat (97+k / 26)∨c=UInt8.ofNat (97+k % 26):=by simpa[key2] using hc
 have h1:97+k / 26<256:=by omega
 have h2:97+k % 26<256:=by omega
 rcases this with rfl|rfl
 ·rw[UInt8.toNat_ofNat_of_lt' h1];omega
 ·rw[UInt8.toNat_ofNat_of_lt' h2];omega
theorem joinK_plain:∀ (L:List Nat),(∀ y∈L,y<256)→plainL (joinK (L.map key2))
 | [],_=>by intro c hc;cases hc
 | x::r,h=>by
   unfold joinK
   rw[List.map_cons,List.map_cons,Lib.join_cons]
   have key:∀ r:List Nat,(∀ y∈r,y<256)→plainL (Lib.joinTail [32] ((r.map key2).map (·.data.toList))):=by
    intro r
    induction r with
    | nil=>intro _ c hc;cases hc
    | cons y r ih=>
      intro hy c hc
      simp only[Lib.joinTail,List.map_cons,List.flatten_cons,qU,List.mem_singleton] at hc ih
      rcases hc with (rfl|hc)|hc
      ·decide
      ·exact key2_plain (hy y (by simp)) c hc
      ·exact ih (fun z hz=>hy z (by simp[hz])) c hc
   intro c hc
   rcases List.mem_append.1 hc with hc|hc
   ·exact key2_plain (h x (by simp)) c hc
   ·exact key r (fun y hy=>h y (by simp[hy])) c hc
theorem sc_leaf {s:Sc} {L:List Nat} (h1:1≤L.length) (h4:L.length≤4) (h256:∀ y∈L,y<256) :
  scL s ([40]++joinK (L.map key2)++[41])=⟨s.op,s.lv+1,s.ks+L.length,s.i+1,s.i+(3*L.length+1)⟩∧scOk s ([40]++joinK (L.map key2)++[41]):=by
 have hj:=joinK_two L
 obtain⟨p1,p2⟩:=sc_plain (joinK (L.map key2)) ⟨s.op,s.lv+1,s.ks,s.i+1,s.i+1⟩ (joinK_plain L h256)
 have e1:scL s [40]=⟨s.op,s.lv+1,s.ks,s.i+1,s.i+1⟩:=rfl
 have e2:scL s ([40]++joinK (L.map key2))=⟨s.op,s.lv+1,s.ks,s.i+1,s.i+1+(3*L.length - 1)⟩:=by
  rw[scL_append,e1,p1,hj]
 have hm:(s.i+1+(3*L.length - 1) - (s.i+1)+1) / 3=L.length:=by omega
 constructor
 ·rw[scL_append,e2]
  show (⟨s.op,s.lv+1,s.ks+(s.i+1+(3*L.length - 1) - (s.i+1)+1) / 3,s.i+1,s.i+1+(3*L.length - 1)+1⟩:Sc)=_
  rw[hm]
  simp only[Sc.mk.injEq,true_and]
  omega
 ·refine scOk_append _ _ _ (scOk_append _ _ _ ⟨fun h=>absurd h (by decide),trivial⟩ (by rw[e1];exact p2)) ?_
  rw[e2]
  refine⟨fun _=>?_,trivial⟩
  show 1≤(s.i+1+(3*L.length - 1) - (s.i+1)+1) / 3∧_
  rw[hm]
  exact⟨h1,h4⟩
theorem sc_shape:∀ (S:List SpotD) (o:Nat) (s:Sc),s.op=o→okSh o S→(∀ x∈S,x.page.kind=1→∃ L vf,x.page=leafV vf L∧1≤L.length∧L.length≤4∧∀ y∈L,y<256)→(∀ x∈S,x.page.kind≠1→x.page.items=[]) →
  (scL s (shapeFrom o S)).op=0∧(scL s (shapeFrom o S)).ks=s.ks+(S.map fun x=>x.page.items.length).sum∧(scL s (shapeFrom o S)).lv+s.ks≤(scL s (shapeFrom o S)).ks+s.lv∧scOk s (shapeFrom o S)
 | [],o,s,ho,_,_,_=>by
   obtain⟨h1,h2⟩:=sc_close o s
   show (scL s (closeB o)).op=0∧_∧_∧_
   have e:shapeFrom o []=closeB o:=rfl
   rw[e,h1]
   refine⟨by simp only;omega,by simp,by simp only;omega,h2⟩
 | x::r,o,s,ho,hok,hlf,hbr=>by
   obtain⟨d1,d9,dle,hr⟩:=hok
   obtain⟨c1,c2⟩:=sc_close (o - (x.near.depth - 1)) s
   have e0:shapeFrom o (x::r)=closeB (o - (x.near.depth - 1))++((if (x.page.kind==1)=true then leafText x else [91])++shapeFrom (nextS x) r):=by
    show piece o x++shapeFrom (nextS x) r=_
    unfold piece
    rw[List.append_assoc]
   obtain⟨s1,hs1⟩:∃ s1,s1=scL s (closeB (o - (x.near.depth - 1))):=⟨_,rfl⟩
   have a1:s1.op=((x.near.depth - 1:Nat):Int)∧s1.ks=s.ks∧s1.lv=s.lv:=by
    rw[hs1,c1]
    exact⟨by simp only;omega,rfl,rfl⟩
   rw[e0,scL_append,← hs1,scL_append]
   by_cases hk:x.page.kind=1
   ·have hk':(x.page.kind==1)=true:=by simp[hk]
    obtain⟨L,vf,hp,l1,l4,l256⟩:=hlf x (by simp) hk
    have ht:leafText x=[40]++joinK (L.map key2)++[41]:=by
     unfold leafText
     rw[hp,leafV_keys]
    have hil:x.page.items.length=L.length:=by rw[hp];simp[leafV,leafP]
    have hn:nextS x=x.near.depth - 1:=by unfold nextS;rw[if_pos hk']
    obtain⟨q1,q2⟩:=sc_leaf (s:=s1) l1 l4 l256
    rw[if_pos hk',ht,q1]
    obtain⟨i1,i2,i3,i4⟩:=sc_shape r (nextS x) ⟨s1.op,s1.lv+1,s1.ks+L.length,s1.i+1,s1.i+(3*L.length+1)⟩ (by rw[hn];exact a1.1) hr (fun y hy=>hlf y (by simp[hy])) (fun y hy=>hbr y (by simp[hy]))
    refine⟨i1,?_,?_,?_⟩
    ·rw[i2,List.map_cons,List.sum_cons,hil,a1.2.1]
     simp only
     omega
    ·simp only[a1.2.1,a1.2.2] at i3 ⊢
     omega
    ·refine scOk_append _ _ _ c2 ?_
     rw[← hs1]
     refine scOk_append _ _ _ q2 ?_
     rw[q1]
     exact i4
   ·have hk':¬ (x.page.kind==1)=true:=by simp[hk]
    have hil:=hbr x (by simp) hk
    have hn:nextS x=x.near.depth:=by unfold nextS;rw[if_neg hk']
    have q1:scL s1 [91]=⟨s1.op+1,s1.lv,s1.ks,s1.at',s1.i+1⟩:=rfl
    rw[if_neg hk',q1]
    obtain⟨i1,i2,i3,i4⟩:=sc_shape r (nextS x) ⟨s1.op+1,s1.lv,s1.ks,s1.at',s1.i+1⟩ (by rw[hn];simp only[a1.1];omega) hr (fun y hy=>hlf y (by simp[hy])) (fun y hy=>hbr y (by simp[hy]))
    refine⟨i1,?_,?_,?_⟩
    ·rw[i2,List.map_cons,List.sum_cons,hil,a1.2.1]
     simp
    ·simp only[a1.2.1,a1.2.2] at i3 ⊢
     omega
    ·refine scOk_append _ _ _ c2 ?_
     rw[← hs1]
     refine scOk_append _ _ _ ⟨fun h=>absurd h (by decide),trivial⟩ ?_
     rw[q1]
     exact i4
theorem shape_dash {S:List SpotD} (h:S≠[]):shapeFrom 0 S≠[45]:=by
 cases S with
 | nil=>exact absurd rfl h
 | cons x r=>
   intro e
   have e0:shapeFrom 0 (x::r)=closeB (0 - (x.near.depth - 1))++((if (x.page.kind==1)=true then leafText x else [91])++shapeFrom (nextS x) r):=by
    show piece 0 x++shapeFrom (nextS x) r=_
    unfold piece
    rw[List.append_assoc]
   rw[e0,Nat.zero_sub] at e
   have e1:closeB 0=[]:=rfl
   rw[e1,List.nil_append] at e
   split at e
   ·unfold leafText at e
    simp at e
   ·simp at e
end
section
open Go.RowKit Go.Sort Go.Conc
theorem shape_zero (sb:Nat) (W:World):Calls Tryz.prog 13 #[.pointer (some ⟨sb,0,none⟩),.int .i64 0] W fun e Y=>e=.returned (.tuple #[.string ⟨#[45]⟩,.nilIface])∧Below W.heap.size W Y:=by
 have a1:=heap_newL W (.cells #[.string ⟨#[45]⟩] 9)
 have a2:=heap_newL (W.alloc (.cells #[.string ⟨#[45]⟩] 9)) (.cells #[.nilIface] 38)
 simp only[World.size_alloc] at a2
 have b1:=(qE (W.alloc (.cells #[.string ⟨#[45]⟩] 9)) (.cells #[.nilIface] 38) _ (by simp)).trans a1
 have c1:=cell_rowL b1
 have c2:=cell_rowL a2
 have hb:=hidT (((qB W.heap.size W).alloc qL (.cells #[.string ⟨#[45]⟩] 9)).alloc (by simp) (.cells #[.nilIface] 38))
 clear a1 a2 b1
 go_enter Tryz.func13,Tryz.ntmps13
 go_wp2
 exact⟨rfl,.tuple #[.string ⟨#[45]⟩,.nilIface],by simp[results,Tryz.results13,go_sem,c1,c2],rfl,hb.out⟩
def sc0:Sc:=⟨0,0,0,0,0⟩
theorem shapes_text {X:World} {sb:Nat} {V:View} {ps:List PageD} {root:Int} {L:List Nat} (h:Shows X sb V) (hV:∀ i p,ps[i]?=some p→V (num i)=(p,0)) (hR:RootAt ps root L) (hl:L.length≤120) :
  ∃ txt:List UInt8,(∀ W,Below X.heap.size X W→Calls Tryz.prog 13 #[.pointer (some ⟨sb,0,none⟩),.int .i64 root] W fun e Y=>e=.returned (.tuple #[.string ⟨txt.toArray⟩,.nilIface])∧Below W.heap.size W Y) ∧
    scOk sc0 txt∧(scL sc0 txt).op=0∧(scL sc0 txt).ks=L.length∧(scL sc0 txt).lv≤L.length∧txt.length≤1000000000∧(txt=[45]↔L.length=0):=by
 by_cases h0:root=0
 ·subst h0
  have hL:L=[]:=by
   rcases hR with ⟨_,_,h⟩|⟨d,id,I,h,_⟩
   ·exact h
   ·unfold num at h;omega
  subst hL
  refine⟨[45],fun W _=>shape_zero sb W,⟨fun h=>absurd h (by decide),trivial⟩,rfl,rfl,Nat.le_refl _,by decide,by simp⟩
 ·obtain⟨g1,⟨floor,hg⟩,g3,g4⟩:=grown_spots hR hl hV
  obtain⟨s1,s2⟩:=grown_shape hR hl hV
  have hps:=hR.fits.2.2
  have hlen:(shapeFrom 0 (spotsD V root)).length≤1000000000:=by
   have e:=shape_split (spotsD V root) []
   rw[List.append_nil] at e
   have h1:=stS_len (spotsD V root) [] (by rw[List.append_nil];exact s1) s2
   have h2:=stS_open (spotsD V root) [] (by rw[List.append_nil];exact s1)
   rw[e,qO]
   have e2:(shapeFrom (stS (spotsD V root)).1 []).length=(stS (spotsD V root)).1:=by simp[shapeFrom,closeB]
   rw[e2]
   omega
  have hfew:∀ x∈spotsD V root,x.page.items.length≤4:=by
   obtain⟨w0,mb,fb,s,Lf,S,hL,rfl⟩:=h
   exact fun x hx=>spots_few hx
  have hsum:((spotsD V root).map fun x=>x.page.items.length).sum=L.length:=by
   have:=congrArg List.length g3
   rw[List.length_flatMap,List.length_map] at this
   exact this
  have hne:spotsD V root≠[]:=by
   unfold spotsD
   rw[if_neg h0]
   simp[visit]
  have hLne:L.length≠0:=by
   rcases hR with ⟨h,_⟩|⟨d,id,I,_,hT,_⟩
   ·exact absurd h h0
   ·have:=(tree_fits _ _ _ _ _ _ _ hT).1
    intro e
    exact this (List.eq_nil_of_length_eq_zero e)
  obtain⟨k1,k2,k3,k4⟩:=sc_shape (spotsD V root) 0 sc0 rfl s1 (fun x hx hk=>by
   obtain⟨_,L',vf,lo,hi,hp,hl1,_,hb,h256,_⟩:=(hg x hx).leaf hk
   refine⟨L',vf,hp,hl1,?_,fun y hy=>by have:=(hb y hy).2;omega⟩
   have:=hfew x hx
   rw[hp] at this
   simpa[leafV,leafP] using this) (fun x hx hk=>((hg x hx).branch hk).2)
  rw[hsum] at k2
  have e0:sc0.ks=0:=rfl
  have e1:sc0.lv=0:=rfl
  refine⟨_,fun W hW=>grown_shapeC h hV hR hl h0 hW,k4,k1,by rw[k2,e0];omega,by omega,hlen,?_⟩
  exact⟨fun e=>absurd e (shape_dash hne),fun e=>absurd e hLne⟩
theorem setN_range (K:Nat):(setN (List.range K) K).length=K:=by
 have h1:=mem_setN (List.range K) K (by simp)
 have hn:(setN (List.range K) K).Nodup:=(setN_ri (List.range K) K).imp (fun h=>by omega)
 have hp:(setN (List.range K) K).Perm (List.range K):=(List.perm_ext_iff_of_nodup hn List.nodup_range).2 fun x=>by
  rw[h1 x,List.take_of_length_le (by simp)]
 simpa using hp.length_eq
def u8C (k:Nat):List Value:=(List.range k).map fun (i:Nat)=>.int .u8 (i:Int)
theorem u8C_succ (k:Nat):u8C (k+1)=u8C k++[.int .u8 (k:Int)]:=by simp[u8C,List.range_succ]
theorem own_keys {w:World} {B K cap:Nat} {ao:Option Addr} (h:w.ownsRow B 5 1 (.slice ao K cap) K (u8C K)) (hK:K≤60):KeysAt w (.slice ao K cap) (List.range K):=by
 refine⟨ao,cap,by simp,by simp[maxLen];omega,fun i hi=>?_⟩
 have hi':i<K:=by simpa using hi
 have h2:=h
 rcases h2.2 with ⟨_,h1⟩|⟨g,cap',cur,e,hb,hg,_⟩
 ·omega
 ·simp only[qR,true_and] at e
  obtain⟨rfl,rfl⟩:=e
  refine⟨_,rfl,?_⟩
  rw[Addr.add_mid,Nat.zero_add,World.ownsRow.cellAt h i (by omega)]
  simp[u8C,hi']
theorem Tryz.infoU8T:(Tryz.prog.info? 5).map (fun i=>(i.zero,i.size,i.bytes))=some (some (.int .u8 0),1,1):=by kernel_rfl
theorem letter_at {T:ByteArray} {txt:List UInt8} (h:T=⟨txt.toArray⟩) {i:Nat} (h1:i<T.size) (h2:i<txt.length):T[i]=txt[i]:=by
 subst h
 rfl
theorem shapes_law (n:Nat) (hn:n<256) (w:World) :
  Calls Tryz.prog 4 #[.int .u8 (n:Int)] w fun e w'=>e=.returned (.bool true)∧Below w.heap.size w w':=by
 have hnilT:=eqNilT
 obtain⟨K,hKe⟩:∃ K,K=n % 60:=⟨_,rfl⟩
 have hK:K≤59:=by omega
 have hK1:(n:Int) % 60=(K:Int):=by omega
 clear hKe
 go_enter Tryz.func4,Tryz.ntmps4
 go_wp2_with fail
 refine (known_tree w).mono ?_
 rintro e w0 ⟨rfl,hb0⟩
 replace hb0:=hidT hb0
 go_wp2
 simp only[hK1]
 clear hK1
 go_loopg [4,5] K (fun g v4 v5 wr=>∃ (k:Nat) (ao:Option Addr) (cap:Nat),k+g=K∧v4=.slice ao k cap∧v5=.int .i64 (k:Int)∧Hid (wr.ownsRow w0.heap.size 5 1 (.slice ao k cap) k (u8C k))∧Hid (Below w0.heap.size w0 wr))
 case atStart=>exact⟨0,none,0,by omega,rfl,rfl,hidT (World.ownsRow_nil _ _ _ _),hidT (qB _ _)⟩
 case round=>
  obtain⟨k,ao,cap,hk,rfl,rfl,ho,hb⟩:=hrel
  cases gk with
  | succ g=>
    have hlk:k<K:=by omega
    have HA:=hidT (fun ty=>app_formG (n:=1) (cap:=1) (cs:=[.int .u8 (k:Int)]) (w0:=w0) (B:=w0.heap.size) (SlAt.ofBlock (heap_newL wr (.cells #[.int .u8 (k:Int)] 5)) (by rfl) (by simp[Value.oneCell'])) (by omega) Tryz.underlying22 Tryz.infoU8T rfl (World.ownsRow.alloc ho.out (.cells #[.int .u8 (k:Int)] 5)) (by have:=hb.out.size;simp;omega) (by omega) (by omega) (hb.out.alloc hb.out.size _) ty)
    go_wp2_with (first|(at_builtin;refine wpList_append_two rfl (.tmp 30) (.tmp 33) 22 rfl _ _ rfl rfl (HA.out _) ?_;rintro v2 W2 ⟨⟨a2,c2,rfl⟩,ho2,hb2,-⟩;rw[← u8C_succ] at ho2;replace ho2:=hidT ho2;replace hb2:=hidT hb2)|fail)
    go_roundg g
    case rel=>exact⟨k+1,a2,c2,by omega,rfl,by go_num,ho2,hb2⟩
    case measure=>omega
  | zero=>
    obtain rfl:k=K:=by omega
    have hkW:=hidT (own_keys ho.out (by omega))
    have hbW:=hidT (hb0.out.trans (hb.out.mono hb0.out.size))
    have C0:=hidT (tree_anyG wr _ (List.range k) hkW.out (fun y hy=>by have:=List.mem_range.1 hy;omega) (by simp;omega))
    clear ho hkW
    go_wp2_with fail
    refine C0.out.mono ?_
    rintro e w1 ⟨BT,fb,ps,root,uV,uD,uL,rfl,hRt,-,hBT,hF,hb1⟩
    have hLk:(setN (List.range k) (List.range k).length).length=k:=by rw[List.length_range];exact setN_range k
    generalize setN (List.range k) (List.range k).length=L at *
    have hsl:L.length≤120:=by omega
    have hlp:ps.length≤120:=by have:=hRt.fits.2.2;omega
    have hnp:∀ i (h:i<ps.length),NumP ps[i]:=fun i h=>hRt.page hsl h
    have hbT:=hidT (hbW.out.trans (hb1.mono hbW.out.size))
    have hS:=hidT (tree_file hF hnp hlp)
    have hfew:=hidT (fileV_few hnp)
    have CN:=hidT (file_made hS.out (by rw[fileV_len];omega))
    have hV:=hidT (grown_shown hnp hlp (num ps.length))
    have c0:=cell_rowL hF.obj
    have hRt:=hidT hRt
    have hsl:=hidT hsl
    have hps:=hidT hlp
    clear C0 hb hb0 hb1 hbW hF hBT hnp hlp
    go_wp2_with fail
    refine CN.out.mono ?_
    rintro e w2 ⟨rfl,u2,hf2,hb2⟩
    have CS:=hidT (store_shows hf2 hb2 (num ps.length) hfew.out)
    have hsz:=hidT hbT.out.size
    clear CN c0 hf2 hb2 hS hfew
    go_wp2_with fail
    refine CS.out.mono ?_
    rintro e Y ⟨sb,rfl,hSh,hbY⟩
    have hbW:=hidT (hbT.out.trans (hbY.mono hsz.out))
    obtain⟨V,hVe⟩:∃ V,V=viewOf (fileV ps) (num ps.length):=⟨_,rfl⟩
    have hV':Hid (∀ i p,ps[i]?=some p→V (num i)=(p,0)):=hidT (by rw[hVe];exact hV.out)
    rw[← hVe] at hSh
    obtain⟨txt,hC,t1,t2,t3,t4,t5,t6⟩:=shapes_text hSh hV'.out hRt.out hsl.out
    rw[hLk] at t3 t4 t6
    replace hSh:=hidT hSh
    replace hC:=hidT hC
    replace t1:=hidT t1
    replace t6:=hidT t6
    obtain⟨fin,hfin⟩:∃ f,f=scL sc0 txt:=⟨_,rfl⟩
    rw[← hfin] at t2 t3 t4
    clear CS hbT hbY hsz hV hVe hLk
    obtain⟨T,hT⟩:∃ T:ByteArray,T=⟨txt.toArray⟩:=⟨_,rfl⟩
    have hTs:T.size=txt.length:=by rw[hT];simp[ByteArray.size]
    have hTg:Hid (T=⟨txt.toArray⟩):=hidT hT
    rw[← hT] at hC
    clear hT
    have D1:=hidT (hC.out Y (qB _ _))
    go_wp2_with fail
    refine D1.out.mono ?_
    rintro e Y1 ⟨rfl,hb1⟩
    have hY1:=hidT hb1
    clear D1 hb1 hC
    go_wp2
    go_loopg [12,13,14,15,16] txt.length (fun g v12 v13 v14 v15 v16 wr=>∃ (st:Sc) (rest:List UInt8),rest.length=g∧st.i+g=txt.length∧v12=.int .i64 st.op∧v13=.int .i64 (st.lv:Int)∧v14=.int .i64 (st.ks:Int)∧v15=.int .i64 (st.at':Int)∧v16=.int .i64 (st.i:Int)∧Hid (rest=txt.drop st.i)∧Hid (scOk st rest)∧Hid (scL st rest=fin)∧scB st∧wr=Y1)
    case atStart=>exact⟨sc0,txt,rfl,by simp[sc0],rfl,rfl,rfl,rfl,rfl,hidT rfl,t1,hidT hfin.symm,⟨by decide,by decide,by decide,by decide,by decide⟩,rfl⟩
    case round=>
     obtain⟨⟨op,lv,ks,at0,i⟩,rest,hg,hi,rfl,rfl,rfl,rfl,rfl,hr,hok,hs,⟨b1,b2,b3,b4,b5⟩,rfl⟩:=hrel
     simp only at hi b1 b2 b3 b4 b5
     cases gk with
     | succ g=>
       cases rest with
       | nil=>simp at hg
       | cons c r=>
         have hil:i<T.size:=by omega
         have hd:decide ((i:Int)<(T.size:Int))=true:=by simp;omega
         have hgr:r.length=g:=by simpa using hg
         obtain⟨hck,hok'⟩:=hok.out
         have hr':Hid (r=txt.drop (i+1)):=hidT (by
          have h1:=hr.out
          rw[List.drop_eq_getElem_cons (show i<txt.length by omega)] at h1
          exact (List.cons.inj h1).2)
         have hcc:T[i]'hil=c:=by
          have h1:=hr.out
          rw[List.drop_eq_getElem_cons (show i<txt.length by omega)] at h1
          have h2:=(List.cons.inj h1).1
          rw[h2]
          exact letter_at hTg.out hil (by omega)
         obtain⟨cn,hcn⟩:∃ n,n=c.toNat:=⟨_,rfl⟩
         have hix:∀ W,(Instr.index 9 (.string T) (.int .i64 (i:Int))).run Tryz.prog W=.ok (.int .u8 (cn:Int)) W:=fun W=>by
          rw[run_index_string W 9 T .i64 _ Tryz.underlying9,dif_pos ⟨by omega,by omega⟩]
          have e:((i:Int)).toNat=i:=by omega
          simp only[e,hcc,hcn]
         have hs':Hid (scL (sc ⟨op,lv,ks,at0,i⟩ cn) r=fin):=hidT (by rw[hcn];exact hs.out)
         have hb':=hidT (scB_sc (s:=⟨op,lv,ks,at0,i⟩) (c:=c.toNat) ⟨b1,b2,b3,b4,b5⟩ hck)
         have hok2:=hidT hok'
         rw[← hcn] at hck hok2 hb'
         clear hcc hr hok hok' hs hcn hil
         by_cases c91:cn=91
         ·subst c91
          have e:sc ⟨op,lv,ks,at0,i⟩ 91=⟨op+1,lv,ks,at0,i+1⟩:=rfl
          rw[e] at hs' hb' hok2
          clear e hck
          go_wp2
          go_roundg g
          case rel=>exact⟨_,r,hgr,by simp only;omega,rfl,rfl,rfl,rfl,by go_num,hr',hok2,hs',hb'.out,rfl⟩
          case measure=>omega
         have n91:¬ (cn:Int)=91:=by omega
         by_cases c93:cn=93
         ·subst c93
          have e:sc ⟨op,lv,ks,at0,i⟩ 93=⟨op - 1,lv,ks,at0,i+1⟩:=rfl
          rw[e] at hs' hb' hok2
          clear e hck n91 c91
          go_wp2
          go_roundg g
          case rel=>exact⟨_,r,hgr,by simp only;omega,rfl,rfl,rfl,rfl,by go_num,hr',hok2,hs',hb'.out,rfl⟩
          case measure=>omega
         have n93:¬ (cn:Int)=93:=by omega
         by_cases c40:cn=40
         ·subst c40
          have e:sc ⟨op,lv,ks,at0,i⟩ 40=⟨op,lv+1,ks,i+1,i+1⟩:=rfl
          rw[e] at hs' hb' hok2
          clear e hck n91 c91 n93 c93
          go_wp2
          go_roundg g
          case rel=>exact⟨_,r,hgr,by simp only;omega,rfl,by go_num,rfl,by go_num,by go_num,hr',hok2,hs',hb'.out,rfl⟩
          case measure=>omega
         have n40:¬ (cn:Int)=40:=by omega
         by_cases c41:cn=41
         ·subst c41
          obtain⟨m1,m4⟩:=hck rfl
          simp only at m1 m4
          obtain⟨m,hm⟩:∃ m,m=(i - at0+1) / 3:=⟨_,rfl⟩
          have e:sc ⟨op,lv,ks,at0,i⟩ 41=⟨op,lv,ks+(i - at0+1) / 3,at0,i+1⟩:=rfl
          rw[e,← hm] at hs' hb' hok2
          rw[← hm] at m1 m4
          have hm1:((i:Int) - (at0:Int)+1) / 3=(m:Int):=by rw[hm];omega
          have hm2:((i:Int) - (at0:Int)+1).tdiv 3=(m:Int):=by rw[Int.tdiv_eq_ediv_of_nonneg (by omega)];exact hm1
          have d1:decide ((m:Int)<1)=false:=by simp;omega
          have d2:decide ((4:Int)<(m:Int))=false:=by simp;omega
          clear e hck n91 c91 n93 c93 n40 c40 hm
          go_wp2
          go_roundg g
          case rel=>exact⟨_,r,hgr,by simp only;omega,rfl,rfl,by go_num,rfl,by go_num,hr',hok2,hs',hb'.out,rfl⟩
          case measure=>omega
         have n41:¬ (cn:Int)=41:=by omega
         have e:sc ⟨op,lv,ks,at0,i⟩ cn=⟨op,lv,ks,at0,i+1⟩:=by
          unfold sc
          rw[if_neg c91,if_neg c93,if_neg c40,if_neg c41]
         rw[e] at hs' hb' hok2
         clear e hck c91 c93 c40 c41
         go_wp2
         go_roundg g
         case rel=>exact⟨_,r,hgr,by simp only;omega,rfl,rfl,rfl,rfl,by go_num,hr',hok2,hs',hb'.out,rfl⟩
         case measure=>omega
     | zero=>
       obtain rfl:=List.eq_nil_of_length_eq_zero hg
       have e1:(⟨op,lv,ks,at0,i⟩:Sc)=fin:=hs.out
       rw[← e1] at t2 t3 t4
       simp only at t2 t3 t4
       subst t2
       subst t3
       have hd:decide ((i:Int)<(T.size:Int))=false:=by simp;omega
       have hnm:num ps.length=(ps.length:Int)+2:=rfl
       have hw2:wrap64 (num ps.length - 2)=(ps.length:Int):=by have:=hps.out;unfold wrap64 num;omega
       have hlv:decide ((lv:Int)≤(ks:Int))=true:=by simp;omega
       have D2:=hidT (grown_pages hSh.out hV'.out hRt.out hsl.out hY1.out)
       clear hr hok hs e1 hnm
       go_wp2_with fail
       refine D2.out.mono ?_
       rintro e Y2 ⟨hb2,pa,pc,rfl⟩
       have hY2:=hidT (hY1.out.trans (hb2.mono hY1.out.size))
       clear D2 hb2 hY1
       by_cases hk0:ks=0
       ·have hTe:T=⟨#[45]⟩:=by rw[hTg.out,t6.out.2 hk0]
        subst hk0
        subst hTe
        obtain rfl:lv=0:=by omega
        go_wp2_with fail
        go_ret
        exact⟨rfl,hbW.out.trans (hY2.out.mono hbW.out.size)⟩
       ·have hTe:(T.toList==[45])=false:=beq_eq_false_iff_ne.2 fun e=>hk0 (t6.out.1 (by
         have h1:=hTg.out
         rw[ByteArray.toList_eq,h1] at e
         simpa using e))
        have hk1:((ks:Int)==0)=false:=beq_eq_false_iff_ne.2 (by omega)
        clear hk0
        go_wp2_with fail
        go_ret
        exact⟨rfl,hbW.out.trans (hY2.out.mono hbW.out.size)⟩
theorem shapes_lawI (a:Int) (w:World) (h0:0≤a) (h1:a≤255) :
  Calls Tryz.prog 4 #[.int .u8 a] w fun e w'=>e=.returned (.bool true)∧Below w.heap.size w w':=by
 obtain⟨A,rfl⟩:∃ K:Nat,a=(K:Int):=⟨a.toNat,by omega⟩
 exact shapes_law A (by omega) w
end
end Go.Proofs.YtbghhklbfnplbaaGreat

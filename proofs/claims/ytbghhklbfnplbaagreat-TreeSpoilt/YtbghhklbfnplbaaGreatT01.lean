import Derived.Deep.MidRow
import Derived.Deep.LoopGhost
import Derived.WalkLawsBesides
import Derived.Test.YtbghhklbfnplbaaGreatC00
import Derived.Test.YtbghhklbfnplbaaGreatC03
import Derived.Test.YtbghhklbfnplbaaGreatC14
import Derived.Test.YtbghhklbfnplbaaGreatC35
import Derived.Test.YtbghhklbfnplbaaGreatC49
import Derived.Test.YtbghhklbfnplbaaGreatC15
import Derived.Test.YtbghhklbfnplbaaGreatC01
set_option maxHeartbeats 4000000
set_option maxRecDepth 10000
namespace Go.Proofs.YtbghhklbfnplbaaGreat
section
open Go.RowKit
structure Near where
 id:Int
 depth:Nat
 low:ByteArray
 high:ByteArray
structure SpotD where
 near:Near
 page:PageD
 err:Int
abbrev View:=Int→PageD × Int
def seen (V:View) (n:Near):PageD × Int:=
 if (V n.id).2≠0 then (noPage,(V n.id).2)
 else if ((V n.id).1.kind≠1∧(V n.id).1.kind≠2)∨8<n.depth then (noPage,12)
 else ((V n.id).1,0)
def highOf (keys:List ByteArray) (high:ByteArray) (i:Nat):ByteArray:=if i+1<keys.length then keys.getD (i+1) ⟨#[]⟩ else high
def kidsFrom (d:Nat) (keys:List ByteArray) (high:ByteArray):Nat→ByteArray→List Int→List Near
 | _,_,[]=>[]
 | i,low,x::r=>⟨x,d,low,highOf keys high i⟩::kidsFrom d keys high (i+1) (highOf keys high i) r
def under (n:Near) (p:PageD):List Near:=kidsFrom (n.depth+1) p.keys n.high 0 n.low p.kids
def spotOf (V:View) (n:Near):SpotD:=⟨n,(seen V n).1,(seen V n).2⟩
def visit (V:View):Nat→Near→List SpotD
 | 0,n=>[spotOf V n]
 | f+1,n=>spotOf V n::(under n (seen V n).1).flatMap (visit V f)
def rootNear (r:Int):Near:=⟨r,1,⟨#[]⟩,⟨#[]⟩⟩
def spotsD (V:View) (r:Int):List SpotD:=if r=0 then [] else visit V 8 (rootNear r)
theorem kidsFrom_append (d:Nat) (keys:List ByteArray) (high:ByteArray):∀ (l:List Int) (x:Int) (i:Nat) (low:ByteArray),kidsFrom d keys high i low (l++[x])=kidsFrom d keys high i low l++[⟨x,d,if l=[] then low else highOf keys high (i+l.length - 1),highOf keys high (i+l.length)⟩]
 | [],x,i,low=>by simp[kidsFrom]
 | y::l,x,i,low=>by
   rw[List.cons_append]
   simp only[kidsFrom,List.cons_append]
   rw[kidsFrom_append d keys high l x (i+1) _]
   have e1:i+1+l.length=i+(y::l).length:=by simp;omega
   have e2:(if l=[] then highOf keys high i else highOf keys high (i+1+l.length - 1))=if y::l=[] then low else highOf keys high (i+(y::l).length - 1):=by
    cases l with
    | nil=>simp
    | cons z l=>
      rw[if_neg (by simp),if_neg (by simp)]
      congr 1
      simp
      omega
   simp only[e1] at e2 ⊢
   rw[e2]
theorem kidsFrom_length (d:Nat) (keys:List ByteArray) (high:ByteArray):∀ (l:List Int) (i:Nat) (low:ByteArray),(kidsFrom d keys high i low l).length=l.length
 | [],_,_=>rfl
 | _::l,i,_=>by simp[kidsFrom,kidsFrom_length d keys high l]
theorem kidsFrom_depth (d:Nat) (keys:List ByteArray) (high:ByteArray):∀ (l:List Int) (i:Nat) (low:ByteArray),∀ m∈kidsFrom d keys high i low l,m.depth=d
 | [],_,_,_,h=>by cases h
 | _::l,i,_,m,h=>by
   simp only[kidsFrom,List.mem_cons] at h
   rcases h with rfl|h
   ·rfl
   ·exact kidsFrom_depth d keys high l _ _ m h
theorem under_depth (n:Near) (p:PageD):∀ m∈under n p,m.depth=n.depth+1:=kidsFrom_depth _ _ _ _ _ _
theorem seen_deep {V:View} {n:Near} (h:8<n.depth):(seen V n).1=noPage:=by
 unfold seen
 split
 ·rfl
 ·rw[if_pos (.inr h)]
theorem under_none (n:Near):under n noPage=[]:=rfl
theorem seen_err {V:View} {n:Near} (h:(seen V n).2≠0):(seen V n).1=noPage:=by
 unfold seen at h ⊢
 split
 ·rfl
 ·rename_i h1
  rw[if_neg h1] at h
  split
  ·rfl
  ·rename_i h2
   rw[if_neg h2] at h
   exact absurd rfl h
theorem seen_ok {V:View} {n:Near} (h:(seen V n).2=0):(V n.id).2=0∧(seen V n).1=(V n.id).1∧((seen V n).1.kind=1∨(seen V n).1.kind=2)∧n.depth≤8:=by
 unfold seen at h ⊢
 by_cases h1:(V n.id).2=0
 ·rw[if_neg (by simpa using h1)] at h ⊢
  by_cases h2:((V n.id).1.kind≠1∧(V n.id).1.kind≠2)∨8<n.depth
  ·rw[if_pos h2] at h
   simp at h
  ·rw[if_neg h2]
   refine⟨h1,rfl,?_,?_⟩
   ·by_cases e:(V n.id).1.kind=1
    ·exact .inl e
    ·exact .inr (Classical.byContradiction fun e2=>h2 (.inl ⟨e,e2⟩))
   ·omega
 ·rw[if_pos h1] at h
  exact absurd h h1
def restD (V:View) (l:List Near):List SpotD:=l.flatMap fun n=>visit V (9 - n.depth) n
theorem visit_step (V:View) (n:Near):visit V (9 - n.depth) n=spotOf V n::restD V (under n (seen V n).1):=by
 rcases Nat.lt_or_ge n.depth 9 with h|h
 ·obtain⟨f,hf⟩:∃ f,9 - n.depth=f+1:=⟨9 - n.depth - 1,by omega⟩
  rw[hf]
  simp only[visit,restD]
  congr 1
  rw[List.flatMap_def,List.flatMap_def]
  congr 1
  refine List.map_congr_left fun m hm=>?_
  rw[under_depth n _ m hm,show 9 - (n.depth+1)=f by omega]
 ·rw[show 9 - n.depth=0 by omega,seen_deep (by omega),under_none]
  rfl
theorem restD_cons (V:View) (n:Near) (r:List Near):restD V (n::r)=spotOf V n::restD V (under n (seen V n).1++r):=by
 simp only[restD,List.flatMap_cons,List.flatMap_append]
 rw[visit_step]
 rfl
theorem spotsD_rest (V:View) (r:Int):spotsD V r=restD V (if r=0 then [] else [rootNear r]):=by
 unfold spotsD
 split
 ·rfl
 ·simp[restD,rootNear]
end
section
open Go
def itV (vf:Nat→ByteArray) (k:Nat):ItemD:={ noItem with key:=key2 k,kind:=1,val:=vf k }
def leafV (vf:Nat→ByteArray) (L:List Nat):PageD:=leafP (L.map (itV vf))
def TreeV (V:View) (vf:Nat→ByteArray):Nat→Nat→Nat→Nat→Bool→List Nat→List Nat→Prop
 | 0,id,lo,hi,top,L,I=>V (num id)=(leafV vf L,0)∧I=[id]∧Ri L∧(∀ x∈L,lo≤x∧x<hi)∧1≤L.length∧L.length≤4∧(top=false→2≤L.length)
 | d+1,id,lo,hi,_,L,I=>∃ ids seps I',V (num id)=(branchN ids seps,0)∧I=id::I'∧KidsAt (fun id lo hi L I=>TreeV V vf d id lo hi false L I) ids seps lo hi L I'∧2≤ids.length∧ids.length≤4
theorem treeV_fits {V:View} {vf:Nat→ByteArray}:∀ (d id lo hi:Nat) (top:Bool) (L I:List Nat),TreeV V vf d id lo hi top L I→Fits lo hi L
 | 0,_,_,_,_,L,_,h=>by
   obtain⟨_,_,h1,h2,h3,_⟩:=h
   exact⟨fun e=>by subst e;simp at h3,h2,h1⟩
 | d+1,_,_,_,_,_,_,h=>by
   obtain⟨ids,seps,I',_,_,h1,_⟩:=h
   exact (kids_fit (fun id lo hi L I h=>treeV_fits d id lo hi false L I h) h1).1
theorem treeV_of {V:View} {ps:List PageD} (hV:∀ i p,ps[i]?=some p→V (num i)=(p,0)):∀ (d id lo hi:Nat) (top:Bool) (L I:List Nat),TreeAt ps d id lo hi top L I→TreeV V (fun _=>⟨#[118]⟩) d id lo hi top L I
 | 0,_,_,_,_,_,_,h=>⟨hV _ _ h.1,h.2⟩
 | d+1,_,_,_,_,_,_,h=>by
   obtain⟨ids,seps,I',h1,h2,h3,h4⟩:=h
   exact⟨ids,seps,I',hV _ _ h1,h2,kids_mono h3 (fun i lo hi L J _ h=>treeV_of hV d i lo hi false L J h),h4⟩
def LoB (low:ByteArray) (lo:Nat):Prop:=∀ x,lo≤x→x<256→ltB (key2 x) low=false
def HiB (high:ByteArray) (hi:Nat):Prop:=high=⟨#[]⟩∨∀ x,x<hi→ltB (key2 x) high=true
theorem loB_key {m:Nat} (hm:m<256):LoB (key2 m) m:=fun x h1 h2=>by rw[ltB_key2 h2 hm];simpa using h1
theorem hiB_key {m:Nat} (hm:m<256):HiB (key2 m) m:=.inr fun x h1=>by rw[ltB_key2 (by omega) hm];simpa using h1
structure GoodS (floor:Nat) (x:SpotD):Prop where
 err:x.err=0
 full:x.near.depth=1∨2≤x.page.items.length+x.page.kids.length
 leaf:x.page.kind=1→x.near.depth=floor∧∃ L vf lo hi,x.page=leafV vf L∧1≤L.length∧Ri L∧(∀ y∈L,lo≤y∧y<hi)∧hi≤256∧LoB x.near.low lo∧HiB x.near.high hi
 branch:x.page.kind≠1→x.page.kind=2∧x.page.items=[]
 vals:∀ it∈x.page.items,it.kind=1
def KidN (depth:Nat) (low high:ByteArray):List Nat→List Nat→List Near→Prop
 | ids,[],l=>∃ id,ids=[id]∧l=[⟨num id,depth,low,high⟩]
 | ids,m::seps,l=>∃ id ids' l',ids=id::ids'∧l=⟨num id,depth,low,key2 m⟩::l'∧KidN depth (key2 m) high ids' seps l'
theorem kidsFrom_keys (d:Nat) (high:ByteArray):∀ (seps ids:List Nat) (keys:List ByteArray) (i:Nat) (low:ByteArray),ids.length=seps.length+1→keys.drop (i+1)=seps.map key2→KidN d low high ids seps (kidsFrom d keys high i low (ids.map num))
 | [],ids,keys,i,low,h,hk=>by
   obtain⟨id,rfl⟩:∃ id,ids=[id]:=by
    match ids,h with
    | [id],_=>exact⟨id,rfl⟩
   refine⟨id,rfl,?_⟩
   have hl:keys.length≤i+1:=by
    have:=congrArg List.length hk
    simp at this
    omega
   simp only[List.map_cons,List.map_nil,kidsFrom,highOf]
   rw[if_neg (by omega)]
 | m::seps,ids,keys,i,low,h,hk=>by
   obtain⟨id,ids',rfl⟩:∃ id ids',ids=id::ids':=by
    match ids,h with
    | id::ids',_=>exact⟨id,ids',rfl⟩
   have hl:i+1<keys.length:=by
    have:=congrArg List.length hk
    simp at this
    omega
   have hh:highOf keys high i=key2 m:=by
    unfold highOf
    rw[if_pos hl]
    have:=congrArg (fun l=>l.head?) hk
    simp only[List.head?_drop,List.map_cons,List.head?_cons] at this
    simp[List.getD,this]
   refine⟨id,ids',kidsFrom d keys high (i+1) (key2 m) (ids'.map num),rfl,by simp[kidsFrom,hh],kidsFrom_keys d high seps ids' keys (i+1) (key2 m) (by simpa using h) ?_⟩
   have:=congrArg (fun l=>l.drop 1) hk
   simpa[List.drop_drop] using this
structure Walked (floor:Nat) (V:View) (vf:Nat→ByteArray) (f:Nat) (n:Near) (L I:List Nat):Prop where
 good:∀ x∈visit V f n,GoodS floor x
 items:(visit V f n).flatMap (fun x=>x.page.items)=L.map (itV vf)
 ids:(visit V f n).map (fun x=>x.near.id)=I.map num
theorem seen_of {V:View} {n:Near} {p:PageD} (h:V n.id=(p,0)) (hk:p.kind=1∨p.kind=2) (hd:n.depth≤8):seen V n=(p,0):=by
 unfold seen
 rw[h]
 simp only
 rw[if_neg (by simp),if_neg (by rcases hk with e|e<;>simp[e]<;>omega)]
theorem walked {V:View} {vf:Nat→ByteArray}:∀ (d f id lo hi:Nat) (top:Bool) (L I:List Nat) (n:Near),TreeV V vf d id lo hi top L I→hi≤256→d≤f→n.id=num id→n.depth+d≤8→LoB n.low lo→HiB n.high hi→(top=true→n.depth=1)→Walked (n.depth+d) V vf f n L I
 | 0,f,id,lo,hi,top,L,I,n,h,hh,_,hid,hd,hlo,hhi,ht=>by
   obtain⟨h1,rfl,h3,h4,h5,h6,h7⟩:=h
   have hs:seen V n=(leafV vf L,0):=seen_of (by rw[hid];exact h1) (.inl rfl) (by omega)
   have hv:visit V f n=[⟨n,leafV vf L,0⟩]:=by
    cases f with
    | zero=>simp[visit,spotOf,hs]
    | succ f=>simp[visit,spotOf,hs,under,leafV,leafP,noPage,kidsFrom]
   refine⟨fun x hx=>?_,by rw[hv];simp[leafV,leafP],by rw[hv];simp[hid]⟩
   rw[hv] at hx
   obtain rfl:=List.mem_singleton.1 hx
   refine⟨rfl,?_,fun _=>⟨rfl,L,vf,lo,hi,rfl,h5,h3,h4,hh,hlo,hhi⟩,fun e=>absurd rfl e,fun it hit=>?_⟩
   ·cases top with
    | true=>exact .inl (ht rfl)
    | false=>exact .inr (by have:=h7 rfl;simp[leafV,leafP];omega)
   ·simp only[leafV,leafP,List.mem_map] at hit
    obtain⟨y,_,rfl⟩:=hit
    rfl
 | d+1,f,id,lo,hi,top,L,I,n,h,hh,hf,hid,hd,hlo,hhi,ht=>by
   obtain⟨ids,seps,I',h1,rfl,h3,h4,h5⟩:=h
   obtain⟨f,rfl⟩:∃ f',f=f'+1:=⟨f - 1,by omega⟩
   have hs:seen V n=(branchN ids seps,0):=seen_of (by rw[hid];exact h1) (.inr rfl) (by omega)
   obtain⟨⟨_,f2,_⟩,g1,g2,g3⟩:=kids_fit (fun id lo hi L I h=>treeV_fits d id lo hi false L I h) h3
   have hv:visit V (f+1) n=⟨n,branchN ids seps,0⟩::(under n (branchN ids seps)).flatMap (visit V f):=by simp[visit,spotOf,hs]
   have hkn:KidN (n.depth+1) n.low n.high ids seps (under n (branchN ids seps)):=kidsFrom_keys _ _ seps ids (keysN seps) 0 n.low g3 (by simp[keysN])
   have ih:∀ (id lo hi:Nat) (L I:List Nat) (m:Near),TreeV V vf d id lo hi false L I→hi≤256→m.id=num id→m.depth=n.depth+1→LoB m.low lo→HiB m.high hi→Walked (n.depth+(d+1)) V vf f m L I:=fun id lo hi L I m a b c e g k=>by
    have:=walked d f id lo hi false L I m a b (by omega) c (by omega) g k (by simp)
    rwa [show m.depth+d=n.depth+(d+1) by omega] at this
   have key:∀ {ids seps:List Nat} {lo hi:Nat} {L I:List Nat},KidsAt (fun id lo hi L I=>TreeV V vf d id lo hi false L I) ids seps lo hi L I→hi≤256→∀ (low:ByteArray) (l:List Near),KidN (n.depth+1) low n.high ids seps l→LoB low lo→HiB n.high hi →
     (∀ x∈l.flatMap (visit V f),GoodS (n.depth+(d+1)) x)∧(l.flatMap (visit V f)).flatMap (fun x=>x.page.items)=L.map (itV vf)∧(l.flatMap (visit V f)).map (fun x=>x.near.id)=I.map num:=by
    intro ids seps lo hi L I h
    induction h using KidsAt.ind with
    | @one id lo hi L I h=>
      intro hh low l hk hlo hhi
      obtain⟨id',e,rfl⟩:=hk
      obtain rfl:id=id':=by simpa using e
      obtain⟨w1,w2,w3⟩:=ih id lo hi L I ⟨num id,n.depth+1,low,n.high⟩ h hh rfl rfl hlo hhi
      simpa using ⟨w1,w2,w3⟩
    | @cons id m lo hi ids seps L1 I1 L2 I2 h h2 ih2=>
      intro hh low l hk hlo hhi
      obtain⟨id',ids',l',e,rfl,hk'⟩:=hk
      simp only[List.cons.injEq] at e
      obtain⟨rfl,rfl⟩:=e
      have l2:=(kids_fit (fun id lo hi L I h=>treeV_fits d id lo hi false L I h) h2).1.lt
      obtain⟨w1,w2,w3⟩:=ih id lo m L1 I1 ⟨num id,n.depth+1,low,key2 m⟩ h (by omega) rfl rfl hlo (hiB_key (by omega))
      obtain⟨v1,v2,v3⟩:=ih2 hh (key2 m) l' hk' (loB_key (by omega)) hhi
      refine⟨fun x hx=>?_,?_,?_⟩
      ·simp only[List.flatMap_cons,qU] at hx
       rcases hx with hx|hx
       ·exact w1 x hx
       ·exact v1 x hx
      ·simp only[List.flatMap_cons,List.flatMap_append,List.map_append,w2,v2]
      ·simp only[List.flatMap_cons,List.map_append,w3,v3]
   obtain⟨k1,k2,k3⟩:=key h3 hh n.low _ hkn hlo hhi
   rw[show n.depth+(d+1)=n.depth+(d+1) from rfl]
   refine⟨fun x hx=>?_,?_,?_⟩
   ·rw[hv] at hx
    rcases List.mem_cons.1 hx with rfl|hx
    ·refine⟨rfl,.inr (by simp[branchN,branchP,noPage];omega),fun e=>by simp[branchN,branchP] at e,fun _=>⟨rfl,rfl⟩,by simp[branchN,branchP,noPage]⟩
    ·exact k1 x hx
   ·rw[hv,List.flatMap_cons,k2]
    simp[branchN,branchP,noPage]
   ·rw[hv,List.map_cons,k3]
    simp[hid]
end
section
open Go.RowKit
def spotCells (n:Near) (p:PageD) (u:PV):List Value:=.int .i64 n.id::.int .i64 (n.depth:Int)::.string n.low::.string n.high::cellsPV p u
theorem hidG {p:Prop} (h:p):Hid p:=h
theorem belowBox (W:World) (o:Obj):Below W.heap.size W (W.alloc o):=(qB _ _).alloc qL o
theorem leaf_spot (n:Near) (p:PageD) (u:PV) (W:World) (hu:SlicesV u) :
  Calls Tryz.prog 25 #[.agg (spotCells n p u).toArray] W fun e w'=>e=.returned (.bool (p.kind==1))∧Below W.heap.size W w':=by
 obtain⟨ui,uk,ud,uv,uf⟩:=u
 obtain⟨⟨ai,ni,ci,rfl⟩,⟨ak,nk,ck,rfl⟩,⟨ad,nd,cd,rfl⟩,⟨av,nv,cv,rfl⟩,⟨af,nf,cf,rfl⟩⟩:=hu
 show Calls Tryz.prog 25 #[.agg #[.int .i64 n.id,.int .i64 (n.depth:Int),.string n.low,.string n.high,.int .i64 p.kind,.slice ai ni ci,.slice ak nk ck,.slice ad nd cd,.string p.text,.slice av nv cv,.slice af nf cf,.int .i64 p.next,.int .u64 p.mt.txn,.int .i64 p.mt.main.page,.int .i64 p.mt.main.count,.int .i64 p.mt.main.flags,.int .i64 p.mt.free,.int .i64 p.mt.last]] W _
 have cB:=cell_rowL (heap_newL W (.cells #[.int .i64 n.id,.int .i64 (n.depth:Int),.string n.low,.string n.high,.int .i64 p.kind,.slice ai ni ci,.slice ak nk ck,.slice ad nd cd,.string p.text,.slice av nv cv,.slice af nf cf,.int .i64 p.next,.int .u64 p.mt.txn,.int .i64 p.mt.main.page,.int .i64 p.mt.main.count,.int .i64 p.mt.main.flags,.int .i64 p.mt.free,.int .i64 p.mt.last] 86))
 go_enter Tryz.func25,Tryz.ntmps25
 go_wp2
 go_ret
 exact⟨rfl,belowBox _ _⟩
theorem above_spot (n:Near) (p:PageD) (u:PV) (W:World) (hu:SlicesV u) (hd:n.depth≤100) :
  Calls Tryz.prog 34 #[.agg (spotCells n p u).toArray] W fun e w'=>e=.returned (.int .i64 ((n.depth:Int) - 1))∧Below W.heap.size W w':=by
 obtain⟨ui,uk,ud,uv,uf⟩:=u
 obtain⟨⟨ai,ni,ci,rfl⟩,⟨ak,nk,ck,rfl⟩,⟨ad,nd,cd,rfl⟩,⟨av,nv,cv,rfl⟩,⟨af,nf,cf,rfl⟩⟩:=hu
 show Calls Tryz.prog 34 #[.agg #[.int .i64 n.id,.int .i64 (n.depth:Int),.string n.low,.string n.high,.int .i64 p.kind,.slice ai ni ci,.slice ak nk ck,.slice ad nd cd,.string p.text,.slice av nv cv,.slice af nf cf,.int .i64 p.next,.int .u64 p.mt.txn,.int .i64 p.mt.main.page,.int .i64 p.mt.main.count,.int .i64 p.mt.main.flags,.int .i64 p.mt.free,.int .i64 p.mt.last]] W _
 have cB:=cell_rowL (heap_newL W (.cells #[.int .i64 n.id,.int .i64 (n.depth:Int),.string n.low,.string n.high,.int .i64 p.kind,.slice ai ni ci,.slice ak nk ck,.slice ad nd cd,.string p.text,.slice av nv cv,.slice af nf cf,.int .i64 p.next,.int .u64 p.mt.txn,.int .i64 p.mt.main.page,.int .i64 p.mt.main.count,.int .i64 p.mt.main.flags,.int .i64 p.mt.free,.int .i64 p.mt.last] 86))
 go_enter Tryz.func34,Tryz.ntmps34
 go_wp2
 go_ret
 exact⟨rfl,belowBox _ _⟩
def fullD (n:Near) (p:PageD):Bool:=decide (n.depth=1)||decide (2≤p.items.length+p.kids.length)
theorem full_spot (n:Near) (p:PageD) (u:PV) (W:World) (hg:Hangs W p u.i u.k u.d u.v u.f) (h1:p.items.length≤1000) (h2:p.kids.length≤1000) :
  Calls Tryz.prog 26 #[.agg (spotCells n p u).toArray] W fun e w'=>e=.returned (.bool (fullD n p))∧Below W.heap.size W w':=by
 have hu:=hg.slices
 obtain⟨ao,co,e1,-⟩:=hg.items
 obtain⟨ao3,co3,e3,-⟩:=hg.kids
 clear hg
 obtain⟨ui,uk,ud,uv,uf⟩:=u
 obtain⟨⟨ai,ni,ci,rfl⟩,⟨ak,nk,ck,rfl⟩,⟨ad,nd,cd,rfl⟩,⟨av,nv,cv,rfl⟩,⟨af,nf,cf,rfl⟩⟩:=hu
 simp only[qR] at e1 e3
 obtain⟨rfl,rfl,rfl⟩:=e1
 obtain⟨rfl,rfl,rfl⟩:=e3
 show Calls Tryz.prog 26 #[.agg #[.int .i64 n.id,.int .i64 (n.depth:Int),.string n.low,.string n.high,.int .i64 p.kind,.slice ai p.items.length ci,.slice ak nk ck,.slice ad p.kids.length cd,.string p.text,.slice av nv cv,.slice af nf cf,.int .i64 p.next,.int .u64 p.mt.txn,.int .i64 p.mt.main.page,.int .i64 p.mt.main.count,.int .i64 p.mt.main.flags,.int .i64 p.mt.free,.int .i64 p.mt.last]] W _
 have cB:=cell_rowL (heap_newL W (.cells #[.int .i64 n.id,.int .i64 (n.depth:Int),.string n.low,.string n.high,.int .i64 p.kind,.slice ai p.items.length ci,.slice ak nk ck,.slice ad p.kids.length cd,.string p.text,.slice av nv cv,.slice af nf cf,.int .i64 p.next,.int .u64 p.mt.txn,.int .i64 p.mt.main.page,.int .i64 p.mt.main.count,.int .i64 p.mt.main.flags,.int .i64 p.mt.free,.int .i64 p.mt.last] 86))
 unfold fullD
 generalize p.items.length=a at *
 generalize p.kids.length=b at *
 by_cases hx:n.depth=1
 ·have d1:((n.depth:Int)==1)=true:=by simp[hx]
  have d2:decide (n.depth=1)=true:=by simp[hx]
  rw[d2]
  clear d2 hx
  go_enter Tryz.func26,Tryz.ntmps26
  go_wp2
  all_goals go_ret
  all_goals exact⟨by simp,belowBox _ _⟩
 ·have d1:((n.depth:Int)==1)=false:=by simp;omega
  have d2:decide (n.depth=1)=false:=by simp[hx]
  rw[d2]
  clear d2 hx
  by_cases hy:2≤a+b
  ·have d3:decide ((a:Int)+(b:Int) ≥ 2)=true:=by simp;omega
   have d4:decide (2≤a+b)=true:=by simp[hy]
   rw[d4]
   clear d4 hy
   go_enter Tryz.func26,Tryz.ntmps26
   go_wp2
   all_goals go_ret
   all_goals exact⟨by simp,belowBox _ _⟩
  ·have d3:decide ((a:Int)+(b:Int) ≥ 2)=false:=by simp;omega
   have d4:decide (2≤a+b)=false:=by simp[hy]
   rw[d4]
   clear d4 hy
   go_enter Tryz.func26,Tryz.ntmps26
   go_wp2
   all_goals go_ret
   all_goals exact⟨by simp,belowBox _ _⟩
def onD (n:Near) (p:PageD) (floor:Int):Bool:=!(p.kind==1)||((n.depth:Int)==floor)
theorem on_spot (n:Near) (p:PageD) (u:PV) (W:World) (hu:SlicesV u) (floor:Int) :
  Calls Tryz.prog 28 #[.agg (spotCells n p u).toArray,.int .i64 floor] W fun e w'=>e=.returned (.bool (onD n p floor))∧Below W.heap.size W w':=by
 have CL:=hidG (fun V=>leaf_spot n p u V hu)
 obtain⟨ui,uk,ud,uv,uf⟩:=u
 obtain⟨⟨ai,ni,ci,rfl⟩,⟨ak,nk,ck,rfl⟩,⟨ad,nd,cd,rfl⟩,⟨av,nv,cv,rfl⟩,⟨af,nf,cf,rfl⟩⟩:=hu
 have CL2:Hid (∀ V,Calls Tryz.prog 25 #[.agg #[.int .i64 n.id,.int .i64 (n.depth:Int),.string n.low,.string n.high,.int .i64 p.kind,.slice ai ni ci,.slice ak nk ck,.slice ad nd cd,.string p.text,.slice av nv cv,.slice af nf cf,.int .i64 p.next,.int .u64 p.mt.txn,.int .i64 p.mt.main.page,.int .i64 p.mt.main.count,.int .i64 p.mt.main.flags,.int .i64 p.mt.free,.int .i64 p.mt.last]] V fun e w'=>e=.returned (.bool (p.kind==1))∧Below V.heap.size V w'):=CL
 clear CL
 show Calls Tryz.prog 28 #[.agg #[.int .i64 n.id,.int .i64 (n.depth:Int),.string n.low,.string n.high,.int .i64 p.kind,.slice ai ni ci,.slice ak nk ck,.slice ad nd cd,.string p.text,.slice av nv cv,.slice af nf cf,.int .i64 p.next,.int .u64 p.mt.txn,.int .i64 p.mt.main.page,.int .i64 p.mt.main.count,.int .i64 p.mt.main.flags,.int .i64 p.mt.free,.int .i64 p.mt.last],.int .i64 floor] W _
 have cB:=cell_rowL (heap_newL W (.cells #[.int .i64 n.id,.int .i64 (n.depth:Int),.string n.low,.string n.high,.int .i64 p.kind,.slice ai ni ci,.slice ak nk ck,.slice ad nd cd,.string p.text,.slice av nv cv,.slice af nf cf,.int .i64 p.next,.int .u64 p.mt.txn,.int .i64 p.mt.main.page,.int .i64 p.mt.main.count,.int .i64 p.mt.main.flags,.int .i64 p.mt.free,.int .i64 p.mt.last] 86))
 have hb0:=hidG (belowBox W (.cells #[.int .i64 n.id,.int .i64 (n.depth:Int),.string n.low,.string n.high,.int .i64 p.kind,.slice ai ni ci,.slice ak nk ck,.slice ad nd cd,.string p.text,.slice av nv cv,.slice af nf cf,.int .i64 p.next,.int .u64 p.mt.txn,.int .i64 p.mt.main.page,.int .i64 p.mt.main.count,.int .i64 p.mt.main.flags,.int .i64 p.mt.free,.int .i64 p.mt.last] 86))
 have hbs:=hidG (heap_newL W (.cells #[.int .i64 n.id,.int .i64 (n.depth:Int),.string n.low,.string n.high,.int .i64 p.kind,.slice ai ni ci,.slice ak nk ck,.slice ad nd cd,.string p.text,.slice av nv cv,.slice af nf cf,.int .i64 p.next,.int .u64 p.mt.txn,.int .i64 p.mt.main.page,.int .i64 p.mt.main.count,.int .i64 p.mt.main.flags,.int .i64 p.mt.free,.int .i64 p.mt.last] 86))
 unfold onD
 cases hk:(p.kind==1) with
 | false=>
   rw[hk] at CL2
   go_enter Tryz.func28,Tryz.ntmps28
   go_wp2_with fail
   refine (CL2.out _).mono ?_
   rintro e w1 ⟨rfl,hb1⟩
   have hB:=hidG (hb0.out.trans (hb1.mono hb0.out.size))
   clear hb1 CL2 cB
   go_wp2
   all_goals go_ret
   all_goals exact⟨by simp,hB.out⟩
 | true=>
   rw[hk] at CL2
   go_enter Tryz.func28,Tryz.ntmps28
   go_wp2_with fail
   refine (CL2.out _).mono ?_
   rintro e w1 ⟨rfl,hb1⟩
   have hB:=hidG (hb0.out.trans (hb1.mono hb0.out.size))
   have cB1:=cell_rowL ((hb1.block _ (qA hbs.out)).trans hbs.out)
   clear hb1 CL2 cB
   go_wp2
   all_goals go_ret
   all_goals exact⟨by simp,hB.out⟩
end
section
open Go.RowKit
theorem neqNil (w:World):(binOp .neq 38 .nilIface .nilIface).run Tryz.prog w=.ok (.bool false) w:=by kernel_rfl
theorem neqErr (e:Int) (w:World):(binOp .neq 38 (.iface 62 (.int .i64 e)) .nilIface).run Tryz.prog w=.ok (.bool true) w:=by kernel_rfl
def nilPV:PV:=⟨.slice none 0 0,.slice none 0 0,.slice none 0 0,.slice none 0 0,.slice none 0 0⟩
section
variable {w X:World} {sb mb fb:Nat} {s:StD} {L:List F.Sh}
theorem grown_setB {w W:World} {b:Nat} (h:w.grownBy W (some b)) (o:Nat) (u:Value):w.grownBy (W.setCell ⟨b,o,none⟩ u) (some b):=⟨h.os,h.tape,h.output,by simpa using h.size,fun k hk hne=>(Below.heap_setCell _ _ _ _ (show k≠b by simpa using hne)).trans (h.block k hk hne)⟩
theorem agree_setG {B b:Nat} {Y Z W:World} {o:Obj} (hb:b<B) (hg:(Y.alloc o).grownBy Z (some b)) (h:Agree B Z W):Agree B Y W:=
 ⟨by have:=hg.size;have:=h.1;simp at *;omega,fun q h1 h2=>((h.2 q h1 (by have:=hg.size;simp at this;omega)).trans (hg.block q (by simp;omega) (by simp;omega))).trans (qE _ _ _ h2)⟩
theorem grownX {w Y:World} {b:Nat} {o:Obj} (h:Below w.heap.size w Y):w.grownBy (Y.alloc o) (some b):=⟨h.os,h.tape,h.output,by have:=h.size;simp;omega,fun k hk _=>(qE _ _ _ (qM hk h.size)).trans (h.block k hk)⟩
theorem noPage_hangs (W:World):Hangs W noPage (.slice none 0 0) (.slice none 0 0) (.slice none 0 0) (.slice none 0 0) (.slice none 0 0):=⟨items_nil _,strs_nil _,ints_nil _,text_nil_le,strs_nil _,frees_nil _⟩
theorem sread_any (h:Sf w X sb mb fb s L) (hL:ShOk L) (b:Nat) (n:Near) (hb:X.heap[b]?=some (.cells (spotCells n noPage nilPV).toArray 86 (0,0))) (hx:InI n.id) (hd:n.depth≤100) :
  Calls Tryz.prog 55 #[.pointer (some ⟨b,0,none⟩),.pointer (some ⟨sb,0,none⟩)] X fun e Y=>e=.returned (errV (seen (readS s L) n).2)∧∃ u,Y.heap[b]?=some (.cells (spotCells n (seen (readS s L) n).1 u).toArray 86 (0,0))∧(∀ W,Agree X.heap.size Y W→Hangs W (seen (readS s L) n).1 u.i u.k u.d u.v u.f)∧X.grownBy Y (some b):=by
 have CR:=hidG (read_sf h hL n.id hx)
 have hobj:Hid (X.heap[b]?=some (.cells #[.int .i64 n.id,.int .i64 (n.depth:Int),.string n.low,.string n.high,.int .i64 0,.slice none 0 0,.slice none 0 0,.slice none 0 0,.string ⟨#[]⟩,.slice none 0 0,.slice none 0 0,.int .i64 0,.int .u64 0,.int .i64 0,.int .i64 0,.int .i64 0,.int .i64 0,.int .i64 0] 86 (0,0))):=hidG hb
 have cX:=cell_rowL hobj.out
 have hlt:=hidG (qA hobj.out)
 have hn1:=neqNil
 have hn2:=neqErr
 have hs:=hidG (show seen (readS s L) n=if (readS s L n.id).2≠0 then (noPage,(readS s L n.id).2) else if ((readS s L n.id).1.kind≠1∧(readS s L n.id).1.kind≠2)∨8<n.depth then (noPage,12) else ((readS s L n.id).1,0) from rfl)
 generalize seen (readS s L) n=R at *
 generalize hr:readS s L n.id=q at *
 clear hr h hb
 obtain⟨p,ec⟩:=q
 simp only at CR hs
 have HN:Hid (∀ Y,X.grownBy Y (some b)→Y.heap[b]?=some (.cells #[.int .i64 n.id,.int .i64 (n.depth:Int),.string n.low,.string n.high,.int .i64 0,.slice none 0 0,.slice none 0 0,.slice none 0 0,.string ⟨#[]⟩,.slice none 0 0,.slice none 0 0,.int .i64 0,.int .u64 0,.int .i64 0,.int .i64 0,.int .i64 0,.int .i64 0,.int .i64 0] 86 (0,0))→∃ u,Y.heap[b]?=some (.cells (spotCells n noPage u).toArray 86 (0,0))∧(∀ W,Agree X.heap.size Y W→Hangs W noPage u.i u.k u.d u.v u.f)∧X.grownBy Y (some b)):=hidG (fun Y h1 h2=>⟨nilPV,h2,fun W _=>noPage_hangs W,h1⟩)
 by_cases he:ec=0
 ·subst he
  rw[if_neg (by simp)] at hs
  rw[errV_0] at CR
  by_cases hbad:(p.kind≠1∧p.kind≠2)∨8<n.depth
  ·rw[if_pos hbad] at hs
   have hs2:=hs.out
   subst hs2
   have E1:Hid (errV 12=.iface 62 (.int .i64 12)):=hidG (if_neg (by decide))
   by_cases hk:p.kind≠1∧p.kind≠2
   ·have k1:(p.kind != 1)=true:=by simpa using hk.1
    have k2:(p.kind != 2)=true:=by simpa using hk.2
    clear hs hbad hk
    go_enter Tryz.func55,Tryz.ntmps55
    go_wp2_with fail
    refine CR.out.mono ?_
    rintro e Y ⟨vi,vk,vd,vv,vg,rfl,hg,-,hb⟩
    have hgh:=hg Y ⟨Nat.le_refl _,fun _ _ _=>rfl⟩
    obtain⟨ai,ni,ci,rfl⟩:=hgh.items.slice
    obtain⟨ak,nk,ck,rfl⟩:=hgh.keys.slice
    obtain⟨ad,nd,cd,rfl⟩:=hgh.kids.slice
    obtain⟨av,nv,cv,rfl⟩:=hgh.vals.slice
    obtain⟨af,nf,cf,rfl⟩:=hgh.free.slice
    rw[show (pageCells p (.slice ai ni ci) (.slice ak nk ck) (.slice ad nd cd) (.slice av nv cv) (.slice af nf cf)).toArray=#[.int .i64 p.kind,.slice ai ni ci,.slice ak nk ck,.slice ad nd cd,.string p.text,.slice av nv cv,.slice af nf cf,.int .i64 p.next,.int .u64 p.mt.txn,.int .i64 p.mt.main.page,.int .i64 p.mt.main.count,.int .i64 p.mt.main.flags,.int .i64 p.mt.free,.int .i64 p.mt.last] from rfl]
    have HG:=hidG hg
    have hbY:=hidG ((hb.block b hlt.out).trans hobj.out)
    have cY:∀ j,(Y.alloc (.cells #[.int .i64 p.kind,.slice ai ni ci,.slice ak nk ck,.slice ad nd cd,.string p.text,.slice av nv cv,.slice af nf cf,.int .i64 p.next,.int .u64 p.mt.txn,.int .i64 p.mt.main.page,.int .i64 p.mt.main.count,.int .i64 p.mt.main.flags,.int .i64 p.mt.free,.int .i64 p.mt.last] 59)).cell? ⟨b,j,none⟩=(#[.int .i64 n.id,.int .i64 (n.depth:Int),.string n.low,.string n.high,.int .i64 0,.slice none 0 0,.slice none 0 0,.slice none 0 0,.string ⟨#[]⟩,.slice none 0 0,.slice none 0 0,.int .i64 0,.int .u64 0,.int .i64 0,.int .i64 0,.int .i64 0,.int .i64 0,.int .i64 0]:Array Value)[j]?:=cell_rowL ((qE Y _ b (qA hbY.out)).trans hbY.out)
    have HB:=hidG hb
    clear hg hb hgh
    go_wp2
    all_goals go_ret
    all_goals exact⟨congrArg Ending.returned E1.out.symm,HN.out _ (grownX HB.out) ((qE Y _ b (qA hbY.out)).trans hbY.out)⟩
   ·have hdp:8<n.depth:=by
     rcases hbad with h|h
     ·exact absurd h hk
     ·exact h
    have d1:decide ((n.depth:Int) > 8)=true:=by simp;omega
    have hk2:p.kind=1∨p.kind=2:=by omega
    clear hs hbad hk hdp
    rcases hk2 with hk|hk
    ·have k1:(p.kind != 1)=false:=by simp[hk]
     clear hk
     go_enter Tryz.func55,Tryz.ntmps55
     go_wp2_with fail
     refine CR.out.mono ?_
     rintro e Y ⟨vi,vk,vd,vv,vg,rfl,hg,-,hb⟩
     have hgh:=hg Y ⟨Nat.le_refl _,fun _ _ _=>rfl⟩
     obtain⟨ai,ni,ci,rfl⟩:=hgh.items.slice
     obtain⟨ak,nk,ck,rfl⟩:=hgh.keys.slice
     obtain⟨ad,nd,cd,rfl⟩:=hgh.kids.slice
     obtain⟨av,nv,cv,rfl⟩:=hgh.vals.slice
     obtain⟨af,nf,cf,rfl⟩:=hgh.free.slice
     rw[show (pageCells p (.slice ai ni ci) (.slice ak nk ck) (.slice ad nd cd) (.slice av nv cv) (.slice af nf cf)).toArray=#[.int .i64 p.kind,.slice ai ni ci,.slice ak nk ck,.slice ad nd cd,.string p.text,.slice av nv cv,.slice af nf cf,.int .i64 p.next,.int .u64 p.mt.txn,.int .i64 p.mt.main.page,.int .i64 p.mt.main.count,.int .i64 p.mt.main.flags,.int .i64 p.mt.free,.int .i64 p.mt.last] from rfl]
     have HG:=hidG hg
     have hbY:=hidG ((hb.block b hlt.out).trans hobj.out)
     have cY:∀ j,(Y.alloc (.cells #[.int .i64 p.kind,.slice ai ni ci,.slice ak nk ck,.slice ad nd cd,.string p.text,.slice av nv cv,.slice af nf cf,.int .i64 p.next,.int .u64 p.mt.txn,.int .i64 p.mt.main.page,.int .i64 p.mt.main.count,.int .i64 p.mt.main.flags,.int .i64 p.mt.free,.int .i64 p.mt.last] 59)).cell? ⟨b,j,none⟩=(#[.int .i64 n.id,.int .i64 (n.depth:Int),.string n.low,.string n.high,.int .i64 0,.slice none 0 0,.slice none 0 0,.slice none 0 0,.string ⟨#[]⟩,.slice none 0 0,.slice none 0 0,.int .i64 0,.int .u64 0,.int .i64 0,.int .i64 0,.int .i64 0,.int .i64 0,.int .i64 0]:Array Value)[j]?:=cell_rowL ((qE Y _ b (qA hbY.out)).trans hbY.out)
     have HB:=hidG hb
     clear hg hb hgh
     go_wp2
     all_goals go_ret
     all_goals exact⟨congrArg Ending.returned E1.out.symm,HN.out _ (grownX HB.out) ((qE Y _ b (qA hbY.out)).trans hbY.out)⟩
    ·have k1:(p.kind != 1)=true:=by simp[hk]
     have k2:(p.kind != 2)=false:=by simp[hk]
     clear hk
     go_enter Tryz.func55,Tryz.ntmps55
     go_wp2_with fail
     refine CR.out.mono ?_
     rintro e Y ⟨vi,vk,vd,vv,vg,rfl,hg,-,hb⟩
     have hgh:=hg Y ⟨Nat.le_refl _,fun _ _ _=>rfl⟩
     obtain⟨ai,ni,ci,rfl⟩:=hgh.items.slice
     obtain⟨ak,nk,ck,rfl⟩:=hgh.keys.slice
     obtain⟨ad,nd,cd,rfl⟩:=hgh.kids.slice
     obtain⟨av,nv,cv,rfl⟩:=hgh.vals.slice
     obtain⟨af,nf,cf,rfl⟩:=hgh.free.slice
     rw[show (pageCells p (.slice ai ni ci) (.slice ak nk ck) (.slice ad nd cd) (.slice av nv cv) (.slice af nf cf)).toArray=#[.int .i64 p.kind,.slice ai ni ci,.slice ak nk ck,.slice ad nd cd,.string p.text,.slice av nv cv,.slice af nf cf,.int .i64 p.next,.int .u64 p.mt.txn,.int .i64 p.mt.main.page,.int .i64 p.mt.main.count,.int .i64 p.mt.main.flags,.int .i64 p.mt.free,.int .i64 p.mt.last] from rfl]
     have HG:=hidG hg
     have hbY:=hidG ((hb.block b hlt.out).trans hobj.out)
     have cY:∀ j,(Y.alloc (.cells #[.int .i64 p.kind,.slice ai ni ci,.slice ak nk ck,.slice ad nd cd,.string p.text,.slice av nv cv,.slice af nf cf,.int .i64 p.next,.int .u64 p.mt.txn,.int .i64 p.mt.main.page,.int .i64 p.mt.main.count,.int .i64 p.mt.main.flags,.int .i64 p.mt.free,.int .i64 p.mt.last] 59)).cell? ⟨b,j,none⟩=(#[.int .i64 n.id,.int .i64 (n.depth:Int),.string n.low,.string n.high,.int .i64 0,.slice none 0 0,.slice none 0 0,.slice none 0 0,.string ⟨#[]⟩,.slice none 0 0,.slice none 0 0,.int .i64 0,.int .u64 0,.int .i64 0,.int .i64 0,.int .i64 0,.int .i64 0,.int .i64 0]:Array Value)[j]?:=cell_rowL ((qE Y _ b (qA hbY.out)).trans hbY.out)
     have HB:=hidG hb
     clear hg hb hgh
     go_wp2
     all_goals go_ret
     all_goals exact⟨congrArg Ending.returned E1.out.symm,HN.out _ (grownX HB.out) ((qE Y _ b (qA hbY.out)).trans hbY.out)⟩
  ·rw[if_neg hbad] at hs
   have hs2:=hs.out
   subst hs2
   have d1:decide ((n.depth:Int) > 8)=false:=by simp;omega
   have hk2:p.kind=1∨p.kind=2:=by omega
   clear hs hbad HN
   rcases hk2 with hk|hk
   ·have k1:(p.kind != 1)=false:=by simp[hk]
    clear hk
    go_enter Tryz.func55,Tryz.ntmps55
    go_wp2_with fail
    refine CR.out.mono ?_
    rintro e Y ⟨vi,vk,vd,vv,vg,rfl,hg,-,hb⟩
    have hgh:=hg Y ⟨Nat.le_refl _,fun _ _ _=>rfl⟩
    obtain⟨ai,ni,ci,rfl⟩:=hgh.items.slice
    obtain⟨ak,nk,ck,rfl⟩:=hgh.keys.slice
    obtain⟨ad,nd,cd,rfl⟩:=hgh.kids.slice
    obtain⟨av,nv,cv,rfl⟩:=hgh.vals.slice
    obtain⟨af,nf,cf,rfl⟩:=hgh.free.slice
    rw[show (pageCells p (.slice ai ni ci) (.slice ak nk ck) (.slice ad nd cd) (.slice av nv cv) (.slice af nf cf)).toArray=#[.int .i64 p.kind,.slice ai ni ci,.slice ak nk ck,.slice ad nd cd,.string p.text,.slice av nv cv,.slice af nf cf,.int .i64 p.next,.int .u64 p.mt.txn,.int .i64 p.mt.main.page,.int .i64 p.mt.main.count,.int .i64 p.mt.main.flags,.int .i64 p.mt.free,.int .i64 p.mt.last] from rfl]
    have HG:=hidG hg
    have hbY:=hidG ((hb.block b hlt.out).trans hobj.out)
    have cY:∀ j,(Y.alloc (.cells #[.int .i64 p.kind,.slice ai ni ci,.slice ak nk ck,.slice ad nd cd,.string p.text,.slice av nv cv,.slice af nf cf,.int .i64 p.next,.int .u64 p.mt.txn,.int .i64 p.mt.main.page,.int .i64 p.mt.main.count,.int .i64 p.mt.main.flags,.int .i64 p.mt.free,.int .i64 p.mt.last] 59)).cell? ⟨b,j,none⟩=(#[.int .i64 n.id,.int .i64 (n.depth:Int),.string n.low,.string n.high,.int .i64 0,.slice none 0 0,.slice none 0 0,.slice none 0 0,.string ⟨#[]⟩,.slice none 0 0,.slice none 0 0,.int .i64 0,.int .u64 0,.int .i64 0,.int .i64 0,.int .i64 0,.int .i64 0,.int .i64 0]:Array Value)[j]?:=cell_rowL ((qE Y _ b (qA hbY.out)).trans hbY.out)
    have HB:=hidG hb
    clear hg hb hgh
    have zY:∀ j,(Y.alloc (.cells #[.int .i64 p.kind,.slice ai ni ci,.slice ak nk ck,.slice ad nd cd,.string p.text,.slice av nv cv,.slice af nf cf,.int .i64 p.next,.int .u64 p.mt.txn,.int .i64 p.mt.main.page,.int .i64 p.mt.main.count,.int .i64 p.mt.main.flags,.int .i64 p.mt.free,.int .i64 p.mt.last] 59)).frozen? ⟨b,j,none⟩=false:=frozen_rowL ((qE Y _ b (qA hbY.out)).trans hbY.out)
    go_wp2
    go_ret
    have h0:=heap_setCell_same (Y.alloc (.cells #[.int .i64 p.kind,.slice ai ni ci,.slice ak nk ck,.slice ad nd cd,.string p.text,.slice av nv cv,.slice af nf cf,.int .i64 p.next,.int .u64 p.mt.txn,.int .i64 p.mt.main.page,.int .i64 p.mt.main.count,.int .i64 p.mt.main.flags,.int .i64 p.mt.free,.int .i64 p.mt.last] 59)) b 4 _ _ (.int .i64 p.kind) ((qE Y _ b (qA hbY.out)).trans hbY.out)
    simp only[qS,qZ,qC] at h0
    have g0:=grown_setB (World.grownBy.refl (Y.alloc (.cells #[.int .i64 p.kind,.slice ai ni ci,.slice ak nk ck,.slice ad nd cd,.string p.text,.slice av nv cv,.slice af nf cf,.int .i64 p.next,.int .u64 p.mt.txn,.int .i64 p.mt.main.page,.int .i64 p.mt.main.count,.int .i64 p.mt.main.flags,.int .i64 p.mt.free,.int .i64 p.mt.last] 59)) (some b)) 4 (.int .i64 p.kind)
    have h1:=heap_setCell_same _ b 5 _ _ (.slice ai ni ci) h0
    simp only[qS,qZ,qC] at h1
    have g1:=grown_setB g0 5 (.slice ai ni ci)
    have h2:=heap_setCell_same _ b 6 _ _ (.slice ak nk ck) h1
    simp only[qS,qZ,qC] at h2
    have g2:=grown_setB g1 6 (.slice ak nk ck)
    have h3:=heap_setCell_same _ b 7 _ _ (.slice ad nd cd) h2
    simp only[qS,qZ,qC] at h3
    have g3:=grown_setB g2 7 (.slice ad nd cd)
    have h4:=heap_setCell_same _ b 8 _ _ (.string p.text) h3
    simp only[qS,qZ,qC] at h4
    have g4:=grown_setB g3 8 (.string p.text)
    have h5:=heap_setCell_same _ b 9 _ _ (.slice av nv cv) h4
    simp only[qS,qZ,qC] at h5
    have g5:=grown_setB g4 9 (.slice av nv cv)
    have h6:=heap_setCell_same _ b 10 _ _ (.slice af nf cf) h5
    simp only[qS,qZ,qC] at h6
    have g6:=grown_setB g5 10 (.slice af nf cf)
    have h7:=heap_setCell_same _ b 11 _ _ (.int .i64 p.next) h6
    simp only[qS,qZ,qC] at h7
    have g7:=grown_setB g6 11 (.int .i64 p.next)
    have h8:=heap_setCell_same _ b 12 _ _ (.int .u64 p.mt.txn) h7
    simp only[qS,qZ,qC] at h8
    have g8:=grown_setB g7 12 (.int .u64 p.mt.txn)
    have h9:=heap_setCell_same _ b 13 _ _ (.int .i64 p.mt.main.page) h8
    simp only[qS,qZ,qC] at h9
    have g9:=grown_setB g8 13 (.int .i64 p.mt.main.page)
    have h10:=heap_setCell_same _ b 14 _ _ (.int .i64 p.mt.main.count) h9
    simp only[qS,qZ,qC] at h10
    have g10:=grown_setB g9 14 (.int .i64 p.mt.main.count)
    have h11:=heap_setCell_same _ b 15 _ _ (.int .i64 p.mt.main.flags) h10
    simp only[qS,qZ,qC] at h11
    have g11:=grown_setB g10 15 (.int .i64 p.mt.main.flags)
    have h12:=heap_setCell_same _ b 16 _ _ (.int .i64 p.mt.free) h11
    simp only[qS,qZ,qC] at h12
    have g12:=grown_setB g11 16 (.int .i64 p.mt.free)
    have h13:=heap_setCell_same _ b 17 _ _ (.int .i64 p.mt.last) h12
    simp only[qS,qZ,qC] at h13
    have g13:=grown_setB g12 17 (.int .i64 p.mt.last)
    exact⟨rfl,⟨.slice ai ni ci,.slice ak nk ck,.slice ad nd cd,.slice av nv cv,.slice af nf cf⟩,h13,fun W hW=>HG.out W (agree_setG hlt.out g13 hW),grown_then (grownX HB.out) g13⟩
   ·have k1:(p.kind != 1)=true:=by simp[hk]
    have k2:(p.kind != 2)=false:=by simp[hk]
    clear hk
    go_enter Tryz.func55,Tryz.ntmps55
    go_wp2_with fail
    refine CR.out.mono ?_
    rintro e Y ⟨vi,vk,vd,vv,vg,rfl,hg,-,hb⟩
    have hgh:=hg Y ⟨Nat.le_refl _,fun _ _ _=>rfl⟩
    obtain⟨ai,ni,ci,rfl⟩:=hgh.items.slice
    obtain⟨ak,nk,ck,rfl⟩:=hgh.keys.slice
    obtain⟨ad,nd,cd,rfl⟩:=hgh.kids.slice
    obtain⟨av,nv,cv,rfl⟩:=hgh.vals.slice
    obtain⟨af,nf,cf,rfl⟩:=hgh.free.slice
    rw[show (pageCells p (.slice ai ni ci) (.slice ak nk ck) (.slice ad nd cd) (.slice av nv cv) (.slice af nf cf)).toArray=#[.int .i64 p.kind,.slice ai ni ci,.slice ak nk ck,.slice ad nd cd,.string p.text,.slice av nv cv,.slice af nf cf,.int .i64 p.next,.int .u64 p.mt.txn,.int .i64 p.mt.main.page,.int .i64 p.mt.main.count,.int .i64 p.mt.main.flags,.int .i64 p.mt.free,.int .i64 p.mt.last] from rfl]
    have HG:=hidG hg
    have hbY:=hidG ((hb.block b hlt.out).trans hobj.out)
    have cY:∀ j,(Y.alloc (.cells #[.int .i64 p.kind,.slice ai ni ci,.slice ak nk ck,.slice ad nd cd,.string p.text,.slice av nv cv,.slice af nf cf,.int .i64 p.next,.int .u64 p.mt.txn,.int .i64 p.mt.main.page,.int .i64 p.mt.main.count,.int .i64 p.mt.main.flags,.int .i64 p.mt.free,.int .i64 p.mt.last] 59)).cell? ⟨b,j,none⟩=(#[.int .i64 n.id,.int .i64 (n.depth:Int),.string n.low,.string n.high,.int .i64 0,.slice none 0 0,.slice none 0 0,.slice none 0 0,.string ⟨#[]⟩,.slice none 0 0,.slice none 0 0,.int .i64 0,.int .u64 0,.int .i64 0,.int .i64 0,.int .i64 0,.int .i64 0,.int .i64 0]:Array Value)[j]?:=cell_rowL ((qE Y _ b (qA hbY.out)).trans hbY.out)
    have HB:=hidG hb
    clear hg hb hgh
    have zY:∀ j,(Y.alloc (.cells #[.int .i64 p.kind,.slice ai ni ci,.slice ak nk ck,.slice ad nd cd,.string p.text,.slice av nv cv,.slice af nf cf,.int .i64 p.next,.int .u64 p.mt.txn,.int .i64 p.mt.main.page,.int .i64 p.mt.main.count,.int .i64 p.mt.main.flags,.int .i64 p.mt.free,.int .i64 p.mt.last] 59)).frozen? ⟨b,j,none⟩=false:=frozen_rowL ((qE Y _ b (qA hbY.out)).trans hbY.out)
    go_wp2
    go_ret
    have h0:=heap_setCell_same (Y.alloc (.cells #[.int .i64 p.kind,.slice ai ni ci,.slice ak nk ck,.slice ad nd cd,.string p.text,.slice av nv cv,.slice af nf cf,.int .i64 p.next,.int .u64 p.mt.txn,.int .i64 p.mt.main.page,.int .i64 p.mt.main.count,.int .i64 p.mt.main.flags,.int .i64 p.mt.free,.int .i64 p.mt.last] 59)) b 4 _ _ (.int .i64 p.kind) ((qE Y _ b (qA hbY.out)).trans hbY.out)
    simp only[qS,qZ,qC] at h0
    have g0:=grown_setB (World.grownBy.refl (Y.alloc (.cells #[.int .i64 p.kind,.slice ai ni ci,.slice ak nk ck,.slice ad nd cd,.string p.text,.slice av nv cv,.slice af nf cf,.int .i64 p.next,.int .u64 p.mt.txn,.int .i64 p.mt.main.page,.int .i64 p.mt.main.count,.int .i64 p.mt.main.flags,.int .i64 p.mt.free,.int .i64 p.mt.last] 59)) (some b)) 4 (.int .i64 p.kind)
    have h1:=heap_setCell_same _ b 5 _ _ (.slice ai ni ci) h0
    simp only[qS,qZ,qC] at h1
    have g1:=grown_setB g0 5 (.slice ai ni ci)
    have h2:=heap_setCell_same _ b 6 _ _ (.slice ak nk ck) h1
    simp only[qS,qZ,qC] at h2
    have g2:=grown_setB g1 6 (.slice ak nk ck)
    have h3:=heap_setCell_same _ b 7 _ _ (.slice ad nd cd) h2
    simp only[qS,qZ,qC] at h3
    have g3:=grown_setB g2 7 (.slice ad nd cd)
    have h4:=heap_setCell_same _ b 8 _ _ (.string p.text) h3
    simp only[qS,qZ,qC] at h4
    have g4:=grown_setB g3 8 (.string p.text)
    have h5:=heap_setCell_same _ b 9 _ _ (.slice av nv cv) h4
    simp only[qS,qZ,qC] at h5
    have g5:=grown_setB g4 9 (.slice av nv cv)
    have h6:=heap_setCell_same _ b 10 _ _ (.slice af nf cf) h5
    simp only[qS,qZ,qC] at h6
    have g6:=grown_setB g5 10 (.slice af nf cf)
    have h7:=heap_setCell_same _ b 11 _ _ (.int .i64 p.next) h6
    simp only[qS,qZ,qC] at h7
    have g7:=grown_setB g6 11 (.int .i64 p.next)
    have h8:=heap_setCell_same _ b 12 _ _ (.int .u64 p.mt.txn) h7
    simp only[qS,qZ,qC] at h8
    have g8:=grown_setB g7 12 (.int .u64 p.mt.txn)
    have h9:=heap_setCell_same _ b 13 _ _ (.int .i64 p.mt.main.page) h8
    simp only[qS,qZ,qC] at h9
    have g9:=grown_setB g8 13 (.int .i64 p.mt.main.page)
    have h10:=heap_setCell_same _ b 14 _ _ (.int .i64 p.mt.main.count) h9
    simp only[qS,qZ,qC] at h10
    have g10:=grown_setB g9 14 (.int .i64 p.mt.main.count)
    have h11:=heap_setCell_same _ b 15 _ _ (.int .i64 p.mt.main.flags) h10
    simp only[qS,qZ,qC] at h11
    have g11:=grown_setB g10 15 (.int .i64 p.mt.main.flags)
    have h12:=heap_setCell_same _ b 16 _ _ (.int .i64 p.mt.free) h11
    simp only[qS,qZ,qC] at h12
    have g12:=grown_setB g11 16 (.int .i64 p.mt.free)
    have h13:=heap_setCell_same _ b 17 _ _ (.int .i64 p.mt.last) h12
    simp only[qS,qZ,qC] at h13
    have g13:=grown_setB g12 17 (.int .i64 p.mt.last)
    exact⟨rfl,⟨.slice ai ni ci,.slice ak nk ck,.slice ad nd cd,.slice av nv cv,.slice af nf cf⟩,h13,fun W hW=>HG.out W (agree_setG hlt.out g13 hW),grown_then (grownX HB.out) g13⟩
 ·rw[if_pos he] at hs
  have e1:errV ec=.iface 62 (.int .i64 ec):=if_neg he
  rw[e1] at CR
  have hs2:=hs.out
  subst hs2
  have E1:=hidG e1
  clear hs he e1
  go_enter Tryz.func55,Tryz.ntmps55
  go_wp2_with fail
  refine CR.out.mono ?_
  rintro e Y ⟨vi,vk,vd,vv,vg,rfl,hg,-,hb⟩
  have hgh:=hg Y ⟨Nat.le_refl _,fun _ _ _=>rfl⟩
  obtain⟨ai,ni,ci,rfl⟩:=hgh.items.slice
  obtain⟨ak,nk,ck,rfl⟩:=hgh.keys.slice
  obtain⟨ad,nd,cd,rfl⟩:=hgh.kids.slice
  obtain⟨av,nv,cv,rfl⟩:=hgh.vals.slice
  obtain⟨af,nf,cf,rfl⟩:=hgh.free.slice
  rw[show (pageCells p (.slice ai ni ci) (.slice ak nk ck) (.slice ad nd cd) (.slice av nv cv) (.slice af nf cf)).toArray=#[.int .i64 p.kind,.slice ai ni ci,.slice ak nk ck,.slice ad nd cd,.string p.text,.slice av nv cv,.slice af nf cf,.int .i64 p.next,.int .u64 p.mt.txn,.int .i64 p.mt.main.page,.int .i64 p.mt.main.count,.int .i64 p.mt.main.flags,.int .i64 p.mt.free,.int .i64 p.mt.last] from rfl]
  have HG:=hidG hg
  have hbY:=hidG ((hb.block b hlt.out).trans hobj.out)
  have cY:∀ j,(Y.alloc (.cells #[.int .i64 p.kind,.slice ai ni ci,.slice ak nk ck,.slice ad nd cd,.string p.text,.slice av nv cv,.slice af nf cf,.int .i64 p.next,.int .u64 p.mt.txn,.int .i64 p.mt.main.page,.int .i64 p.mt.main.count,.int .i64 p.mt.main.flags,.int .i64 p.mt.free,.int .i64 p.mt.last] 59)).cell? ⟨b,j,none⟩=(#[.int .i64 n.id,.int .i64 (n.depth:Int),.string n.low,.string n.high,.int .i64 0,.slice none 0 0,.slice none 0 0,.slice none 0 0,.string ⟨#[]⟩,.slice none 0 0,.slice none 0 0,.int .i64 0,.int .u64 0,.int .i64 0,.int .i64 0,.int .i64 0,.int .i64 0,.int .i64 0]:Array Value)[j]?:=cell_rowL ((qE Y _ b (qA hbY.out)).trans hbY.out)
  have HB:=hidG hb
  clear hg hb hgh
  go_wp2
  go_ret
  exact⟨congrArg Ending.returned E1.out.symm,HN.out _ (grownX HB.out) ((qE Y _ b (qA hbY.out)).trans hbY.out)⟩
end
end
section
open Go.RowKit
open F (wpList_append_any)
theorem Tryz.infoStrG:(Tryz.prog.info? 9).map (fun i=>(i.zero,i.size,i.bytes))=some (some (.string ⟨#[]⟩),1,16):=by kernel_rfl
theorem ItemsAt.get {w:World} {ao:Option Addr} {cap m:Nat} {l:List ItemD} (h:ItemsAt w (.slice ao m cap) l) (hm:m=l.length) {k:Nat} (hk:k<l.length):∃ b o,(∀ W,(Instr.indexAt 36 (.slice ao m cap) (.int .i64 (k:Int))).run Tryz.prog W=.ok (.pointer (some ⟨b,o+k*10,none⟩)) W)∧∀ W,Below w.heap.size w W→∃ ya yn yc,W.rangeAt b (o+k*10) (itemCells (l.getD k noItem) (.slice ya yn yc))∧StrsAt W (.slice ya yn yc) (l.getD k noItem).vals:=by
 subst hm
 obtain⟨ao',cap',e,hl,hc⟩:=h
 simp only[qR,true_and] at e
 obtain⟨rfl,rfl⟩:=e
 obtain⟨b,o,v,ha,hb,hr,hs,_,_⟩:=hc k hk
 have hgd:l.getD k noItem=l[k]:=by simp[List.getD,hk]
 rw[hgd]
 refine⟨b,o,fun W=>atItems _ _ k ha hk W,fun W hW=>?_⟩
 have hs2:=hs
 obtain⟨ya,yc,rfl,_⟩:=hs
 exact⟨ya,_,yc,range_below hr hW hb,hs2.below hW⟩
def keysOf (l:List ItemD):List ByteArray:=l.map (·.key)
theorem keysOf_take (l:List ItemD) {k:Nat} (hk:k<l.length):strsC (keysOf (l.take (k+1)))=strsC (keysOf (l.take k))++[.string (l.getD k noItem).key]:=by
 have hgd:l.getD k noItem=l[k]:=by simp[List.getD,hk]
 rw[hgd]
 simp only[keysOf,strsC,List.map_take,List.map_map]
 rw[List.take_succ_eq_append_getElem (by simpa using hk)]
 simp
theorem keys_spot (n:Near) (p:PageD) (u:PV) (W:World) (hg:Hangs W p u.i u.k u.d u.v u.f) (hm:p.items.length≤1000) :
  Calls Tryz.prog 36 #[.agg (spotCells n p u).toArray] W fun e w'=>∃ a c,e=.returned (.slice a p.items.length c)∧w'.ownsRow (W.heap.size+1) 9 1 (.slice a p.items.length c) p.items.length (strsC (keysOf p.items))∧Below W.heap.size W w':=by
 have hu:=hg.slices
 have hIA:=hidG hg.items
 obtain⟨aq,cq,e0,-⟩:=hg.items
 obtain⟨ui,uk,ud,uv,uf⟩:=u
 obtain⟨⟨ai,ni,ci,e1⟩,⟨ak,nk,ck,rfl⟩,⟨ad,nd,cd,rfl⟩,⟨av,nv,cv,rfl⟩,⟨af,nf,cf,rfl⟩⟩:=hu
 simp only at e0 e1 hIA
 subst e1
 simp only[qR] at e0
 obtain⟨e2,e3,e4⟩:=e0
 subst aq
 subst ni
 subst cq
 show Calls Tryz.prog 36 #[.agg #[.int .i64 n.id,.int .i64 (n.depth:Int),.string n.low,.string n.high,.int .i64 p.kind,.slice ai p.items.length ci,.slice ak nk ck,.slice ad nd cd,.string p.text,.slice av nv cv,.slice af nf cf,.int .i64 p.next,.int .u64 p.mt.txn,.int .i64 p.mt.main.page,.int .i64 p.mt.main.count,.int .i64 p.mt.main.flags,.int .i64 p.mt.free,.int .i64 p.mt.last]] W _
 have hW1:=hidG (belowBox W (.cells #[.int .i64 n.id,.int .i64 (n.depth:Int),.string n.low,.string n.high,.int .i64 p.kind,.slice ai p.items.length ci,.slice ak nk ck,.slice ad nd cd,.string p.text,.slice av nv cv,.slice af nf cf,.int .i64 p.next,.int .u64 p.mt.txn,.int .i64 p.mt.main.page,.int .i64 p.mt.main.count,.int .i64 p.mt.main.flags,.int .i64 p.mt.free,.int .i64 p.mt.last] 86))
 have cB:=cell_rowL (heap_newL W (.cells #[.int .i64 n.id,.int .i64 (n.depth:Int),.string n.low,.string n.high,.int .i64 p.kind,.slice ai p.items.length ci,.slice ak nk ck,.slice ad nd cd,.string p.text,.slice av nv cv,.slice af nf cf,.int .i64 p.next,.int .u64 p.mt.txn,.int .i64 p.mt.main.page,.int .i64 p.mt.main.count,.int .i64 p.mt.main.flags,.int .i64 p.mt.free,.int .i64 p.mt.last] 86))
 have hsz:Hid ((W.alloc (.cells #[.int .i64 n.id,.int .i64 (n.depth:Int),.string n.low,.string n.high,.int .i64 p.kind,.slice ai p.items.length ci,.slice ak nk ck,.slice ad nd cd,.string p.text,.slice av nv cv,.slice af nf cf,.int .i64 p.next,.int .u64 p.mt.txn,.int .i64 p.mt.main.page,.int .i64 p.mt.main.count,.int .i64 p.mt.main.flags,.int .i64 p.mt.free,.int .i64 p.mt.last] 86)).heap.size=W.heap.size+1):=hidG (by simp)
 have HG:=hidG (fun k (hk:k<p.items.length)=>ItemsAt.get hIA.out rfl hk)
 have hmH:=hidG hm
 clear hg hIA
 go_enter Tryz.func36,Tryz.ntmps36
 go_wp2
 go_loopg [3,10] p.items.length (fun g v3 i wr=>∃ (k:Nat) (a:Option Addr) (c m:Nat),k+g=p.items.length∧i=.int .i64 k∧v3=.slice a m c∧Hid (m=k∧wr.ownsRow (W.heap.size+1) 9 1 (.slice a k c) k (strsC (keysOf (p.items.take k))))∧Hid (Below (W.heap.size+1) (W.alloc (.cells #[.int .i64 n.id,.int .i64 (n.depth:Int),.string n.low,.string n.high,.int .i64 p.kind,.slice ai p.items.length ci,.slice ak nk ck,.slice ad nd cd,.string p.text,.slice av nv cv,.slice af nf cf,.int .i64 p.next,.int .u64 p.mt.txn,.int .i64 p.mt.main.page,.int .i64 p.mt.main.count,.int .i64 p.mt.main.flags,.int .i64 p.mt.free,.int .i64 p.mt.last] 86)) wr))
 case atStart=>exact⟨0,none,0,0,by omega,rfl,rfl,hidG ⟨rfl,World.ownsRow_nil _ _ _ _⟩,hidG (qB _ _)⟩
 case round=>
  obtain⟨k,a,c,m,hk,rfl,rfl,hO,hB⟩:=hrel
  cases gk with
  | zero=>
    obtain rfl:k=p.items.length:=by omega
    have hm2:=hO.out.1
    subst hm2
    clear HG
    go_wp2
    go_ret
    refine⟨a,c,rfl,?_,hW1.out.trans (hB.out.mono (by omega))⟩
    have:=hO.out.2
    rwa [List.take_length] at this
  | succ g=>
    have hlk:k<p.items.length:=by omega
    have hkb:k≤1000:=by have:=hmH.out;omega
    obtain⟨b,o,hix,hR⟩:=HG.out k hlk
    have hBW:Below W.heap.size W wr:=hW1.out.trans (hB.out.mono (by omega))
    obtain⟨ya,yn,yc,hrg,_⟩:=hR wr hBW
    have hsz2:Hid (W.heap.size+1≤wr.heap.size):=hidG (by have:=hB.out.size;have:=hsz.out;omega)
    have htk:=hidG (keysOf_take p.items hlk)
    have hm2:=hO.out.1
    subst hm2
    have HO:=hidG hO.out.2
    clear hO hBW hR HG
    generalize p.items.getD m noItem=it at *
    obtain⟨r0,r1,r2,r3,r4,r5,r6,r7,r8,r9⟩:=range10 hrg
    clear hrg
    have HAP:Hid (∀ ty,∃ v' w',(Builtin.append_ #[31,31] ty #[.slice a m c,.slice (some ⟨wr.heap.size+1,0,none⟩) 1 1]).run Tryz.prog ((wr.alloc (.cells #[.string it.key,.int .i64 it.kind,.string it.val,.int .i64 it.run,.int .i64 it.len,.slice ya yn yc,.int .i64 it.dup,.int .i64 it.root.page,.int .i64 it.root.count,.int .i64 it.root.flags] 45)).alloc (.cells #[.string it.key] 9))=.ok v' w'∧(∃ a c,v'=.slice a (m+1) c)∧w'.ownsRow (W.heap.size+1) 9 1 v' (m+1) (strsC (keysOf (p.items.take (m+1))))∧Below (W.heap.size+1) (W.alloc (.cells #[.int .i64 n.id,.int .i64 (n.depth:Int),.string n.low,.string n.high,.int .i64 p.kind,.slice ai p.items.length ci,.slice ak nk ck,.slice ad nd cd,.string p.text,.slice av nv cv,.slice af nf cf,.int .i64 p.next,.int .u64 p.mt.txn,.int .i64 p.mt.main.page,.int .i64 p.mt.main.count,.int .i64 p.mt.main.flags,.int .i64 p.mt.free,.int .i64 p.mt.last] 86)) w'):=hidG (fun ty=>by
     have hnb:=heap_newL (wr.alloc (.cells #[.string it.key,.int .i64 it.kind,.string it.val,.int .i64 it.run,.int .i64 it.len,.slice ya yn yc,.int .i64 it.dup,.int .i64 it.root.page,.int .i64 it.root.count,.int .i64 it.root.flags] 45)) (.cells #[.string it.key] 9)
     rw[World.size_alloc] at hnb
     obtain⟨v',w',h1,h2,h3,h4,_⟩:=app_formG (n:=1) (cap:=1) (cs:=[.string it.key]) (SlAt.ofBlock hnb (by simp) (by simp[Value.oneCell'])) (by omega) Tryz.underlying31 Tryz.infoStrG rfl (World.ownsRow.alloc (World.ownsRow.alloc HO.out _) _) (by have:=hsz2.out;simp;omega) (by omega) (by omega) ((hB.out.alloc hsz2.out _).alloc (by have:=hsz2.out;simp;omega) _) ty
     rw[← htk.out] at h3
     exact⟨v',w',h1,h2,h3,h4⟩)
    go_wp2_with (first|(at_builtin;refine wpList_append_any rfl (.tmp 14) (.tmp 17) 31 rfl _ _ rfl rfl (HAP.out _) ?_;rintro v2 w2 ⟨⟨a2,c2,rfl⟩,ho2,hb2⟩;replace ho2:=hidG ho2;replace hb2:=hidG hb2)|fail)
    go_roundg g
    case rel=>exact⟨m+1,a2,c2,m+1,by omega,by go_num,rfl,hidG ⟨rfl,ho2.out⟩,hb2⟩
    case measure=>omega
end
section
open Go.RowKit
theorem Tryz.szStrG (w:World):(Go.sizeOf 9).run Tryz.prog w=.ok 1 w:=by kernel_rfl
theorem own_text {w:World} {B m:Nat} {v:Value} {l:List ByteArray} (h:w.ownsRow B 9 1 v m (strsC l)) (hm:m=l.length) {k:Nat} (hk:k<l.length):∃ a,(∀ W,(Instr.indexAt 31 v (.int .i64 (k:Int))).run Tryz.prog W=.ok (.pointer (some a)) W)∧w.cell? a=some (.string (l.getD k ⟨#[]⟩)):=by
 subst hm
 obtain⟨ao,cap,rfl,h1,-⟩:=SlAt.own h (strsC_one l)
 obtain⟨b,o,_,_,h2,h3⟩:=h1.get (by omega) Tryz.underlying31 Tryz.szStrG k hk
 refine⟨⟨b,o+k*1,none⟩,h2,?_⟩
 have:=h3 0 (.string (l.getD k ⟨#[]⟩)) (by simp[strsC,List.getD,hk])
 simpa using this
def lessB (a b:ByteArray):Bool:=Op.bytesLess a.toList b.toList
def geB (a b:ByteArray):Bool:=!lessB a b
def emptyB (a:ByteArray):Bool:=a.toList==(⟨#[]⟩:ByteArray).toList
theorem nil_listG:(⟨#[]⟩:ByteArray).toList=[]:=by first|rfl|decide|simp
def withinD (n:Near) (p:PageD):Bool:=!(p.kind==1)||(geB ((keysOf p.items).getD 0 ⟨#[]⟩) n.low&&(emptyB n.high||lessB ((keysOf p.items).getD (p.items.length - 1) ⟨#[]⟩) n.high))
end
end Go.Proofs.YtbghhklbfnplbaaGreat

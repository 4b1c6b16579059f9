import Derived.Deep.DeepCutAuto
import Derived.Test.YtbghhklbfnplbaaGreatC00
import Derived.Test.YtbghhklbfnplbaaGreatC25
set_option maxHeartbeats 8000000
set_option maxRecDepth 10000
namespace Go.Proofs.YtbghhklbfnplbaaGreat
section
open Go.RowKit
open F (wpList_append_any)
def stI (l:List ItemD) (x:ItemD):Nat→List ItemD × Bool
 | 0=>([],false)
 | k+1=>
   let it:=l.getD k noItem
   if (stI l x k).2=false∧ltB it.key x.key=false then (if it.key=x.key then ((stI l x k).1++[x],true) else ((stI l x k).1++[x]++[it],true))
   else ((stI l x k).1++[it],(stI l x k).2)
def insI (l:List ItemD) (x:ItemD):List ItemD:=if (stI l x l.length).2 then (stI l x l.length).1 else (stI l x l.length).1++[x]
theorem stI_length (l:List ItemD) (x:ItemD):∀ k,(stI l x k).1.length≤k+1∧((stI l x k).2=false→(stI l x k).1.length=k)
 | 0=>by simp[stI]
 | k+1=>by
   obtain⟨h1,h2⟩:=stI_length l x k
   unfold stI
   simp only
   split
   ·rename_i h
    have:=h2 h.1
    split<;>simp<;>omega
   ·simp only[qO,qV,List.length_nil]
    exact⟨by omega,fun h=>by have:=h2 h;omega⟩
def leafP (l:List ItemD):PageD:={ noPage with kind:=1,items:=l }
theorem Tryz.szItem (w:World):(Go.sizeOf 45).run Tryz.prog w=.ok 10 w:=by kernel_rfl
theorem Tryz.infoItemA:(Tryz.prog.info? 45).map (fun i=>(i.zero,i.size,i.bytes))=some (some (.agg #[.string ⟨#[]⟩,.int .i64 0,.string ⟨#[]⟩,.int .i64 0,.int .i64 0,.slice none 0 0,.int .i64 0,.int .i64 0,.int .i64 0,.int .i64 0]),10,112):=by kernel_rfl
structure OwnIt (S:Nat→Prop) (w0 w:World) (B:Nat) (v:Value) (l:List ItemD):Prop where
 row:∃ us,us.length=l.length∧w.ownsRow B 45 10 v l.length (rowsIV l us)∧∀ i (h:i<l.length) (h':i<us.length),ItemS S w0 l[i] us[i]
 form:∃ a c,v=.slice a l.length c
section
variable {S:Nat→Prop} {w0 w wr Y:World} {B:Nat} {v:Value} {l:List ItemD}
theorem OwnIt.nil (S:Nat→Prop) (w0 w:World) (B:Nat):OwnIt S w0 w B (.slice none 0 0) []:=⟨⟨[],rfl,World.ownsRow_nil _ _ _ _,fun i hi=>absurd hi (by simp)⟩,⟨none,0,rfl⟩⟩
theorem OwnIt.alloc (h:OwnIt S w0 w B v l) (o:Obj):OwnIt S w0 (w.alloc o) B v l:=by
 obtain⟨us,h1,h2,h3⟩:=h.row
 exact⟨⟨us,h1,World.ownsRow.alloc h2 o,h3⟩,h.form⟩
theorem rowsIV_one {l:List ItemD} {us:List Value} (hus:us.length=l.length) (h:∀ i (h:i<l.length) (h':i<us.length),ItemS S w0 l[i] us[i]):∀ y∈rowsIV l us,y.oneCell'=true:=by
 induction l generalizing us with
 | nil=>cases us with
   | nil=>intro y hy;simp[rowsIV] at hy
   | cons _ _=>simp at hus
 | cons x l ih=>cases us with
   | nil=>simp at hus
   | cons u us=>
     intro y hy
     rw[rowsIV,qU] at hy
     rcases hy with hy|hy
     ·have:=(h 0 (by simp) (by simp)).1.slice
      exact itemCells_one (by simpa using this) y hy
     ·exact ih (us:=us) (by simpa using hus) (fun i hi hi'=>by have:=h (i+1) (by simpa using hi) (by simpa using hi');simpa using this) y hy
theorem OwnIt.app (h:OwnIt S w0 Y B v l) {z:ItemD} {uz:Value} {nb:Nat} (hz:ItemS S w0 z uz) (hnb:Y.heap[nb]?=some (.cells (itemCells z uz).toArray 45 (0,0))) (hb:Below B w Y) (hB:B≤Y.heap.size) (hl:l.length≤1000) (ty:TypeId) :
  ∃ v' w',(Builtin.append_ #[36,36] ty #[v,.slice (some ⟨nb,0,none⟩) 1 1]).run Tryz.prog Y=.ok v' w'∧(∃ a c,v'=.slice a (l.length+1) c)∧OwnIt S w0 w' B v' (l++[z])∧Below B w w'∧Y.grownBy w' v.ownBlock:=by
 obtain⟨us,h1,h2,h3⟩:=h.row
 obtain⟨v',w',e,⟨a,c,rfl⟩,h4,h5,h6⟩:=app_form (n:=1) (cap:=1) (w0:=w) (cs:=itemCells z uz) (SlAt.ofBlock hnb (by simp[itemCells_length]) (itemCells_one hz.1.slice)) (by omega) Tryz.underlying36 Tryz.infoItemA rfl h2 hB (by omega) (by omega) hb ty
 refine⟨_,w',e,⟨a,c,rfl⟩,⟨⟨us++[uz],by simp[h1],?_,fun i hi hi'=>?_⟩,⟨a,c,by simp⟩⟩,h5,h6⟩
 ·rw[qO,← rowsIV_append _ _ _ _ h1]
  simpa[rowsIV] using h4
 ·rcases Nat.lt_or_ge i l.length with hl2|hl2
  ·simpa[List.getElem_append_left hl2,List.getElem_append_left (show i<us.length by omega)] using h3 i hl2 (by omega)
  ·obtain rfl:i=l.length:=by simp at hi;omega
   simpa[List.getElem_append_right,h1] using hz
theorem OwnIt.stay (h:OwnIt S w0 w B v l) (hB:∀ k,S k→k<B) (hk:Ks S w0 w) (hl:l.length≤1000):ItemsS S w v l:=by
 obtain⟨us,h1,h2,h3⟩:=h.row
 obtain⟨ao,cap,e,h4⟩:=SlK.own (S:=S) h2 (rowsIV_one h1 h3) hB
 exact⟨ao,cap,us,e,h1,h4,by unfold maxLen;omega,fun i hi hi'=>(h3 i hi hi').on hk⟩
theorem ItemsS.head {w:World} {ao:Option Addr} {cap n:Nat} {l:List ItemD} (h:ItemsS S w (.slice ao n cap) l) (hn:n=l.length) {k:Nat} (hk:k≤l.length):(∀ W,(Instr.slice 36 (.slice ao n cap) none (some (.int .i64 (k:Int))) none).run Tryz.prog W=.ok (.slice ao k cap) W)∧ItemsS S w (.slice ao k cap) (l.take k):=by
 subst hn
 obtain⟨ao',cap',us,e,h1,h2,h3,h4⟩:=h
 simp only[qR,true_and] at e
 obtain⟨rfl,rfl⟩:=e
 refine⟨h2.here.headRun Tryz.underlying36 Tryz.szItem k hk,ao,cap,us.take k,by simp;omega,by simp[h1],?_,by simp;omega,fun i hi hi'=>?_⟩
 ·have:=h2.head k hk
  rw[rowsIV_take _ _ _ h1] at this
  simpa[Nat.min_eq_left hk] using this
 ·simp only[List.length_take] at hi hi'
  simpa using h4 i (by omega) (by omega)
theorem ItemsS.tail {w:World} {ao:Option Addr} {cap n:Nat} {l:List ItemD} (h:ItemsS S w (.slice ao n cap) l) (hn:n=l.length) {k:Nat} (hk:k≤l.length):∃ bo,(∀ W,(Instr.slice 36 (.slice ao n cap) (some (.int .i64 (k:Int))) none none).run Tryz.prog W=.ok (.slice bo (n - k) (cap - k)) W)∧ItemsS S w (.slice bo (n - k) (cap - k)) (l.drop k):=by
 subst hn
 obtain⟨ao',cap',us,e,h1,h2,h3,h4⟩:=h
 simp only[qR,true_and] at e
 obtain⟨rfl,rfl⟩:=e
 obtain⟨bo,e1,h5⟩:=h2.tail Tryz.underlying36 Tryz.szItem k hk
 refine⟨bo,e1,bo,cap - k,us.drop k,by simp,by simp[h1],?_,by simp;omega,fun i hi hi'=>?_⟩
 ·rw[rowsIV_drop _ _ _ h1] at h5
  simpa using h5
 ·simp only[List.length_drop] at hi hi'
  simpa using h4 (k+i) (by omega) (by omega)
theorem ItemsS.get {w:World} {ao:Option Addr} {cap n:Nat} {l:List ItemD} (h:ItemsS S w (.slice ao n cap) l) (hn:n=l.length) {k:Nat} (hk:k<l.length):∃ b o xa xn xc,(∀ W,(Instr.indexAt 36 (.slice ao n cap) (.int .i64 (k:Int))).run Tryz.prog W=.ok (.pointer (some ⟨b,o+k*10,none⟩)) W)∧ItemS S w (l.getD k noItem) (.slice xa xn xc)∧∀ W,Ks S w W→W.rangeAt b (o+k*10) (itemCells (l.getD k noItem) (.slice xa xn xc)):=by
 subst hn
 obtain⟨ao',cap',us,e,h1,h2,h3,h4⟩:=h
 simp only[qR,true_and] at e
 obtain⟨rfl,rfl⟩:=e
 have hgd:l.getD k noItem=l[k]:=by simp[List.getD,hk]
 rw[hgd]
 have h5:=h4 k hk (by omega)
 obtain⟨b,o,ha,hb,hi,_⟩:=h2.here.get (by omega) Tryz.underlying36 Tryz.szItem k hk
 obtain⟨xa,xn,xc,ex⟩:=h5.1.slice
 refine⟨b,o,xa,xn,xc,hi,by rw[← ex];exact h5,fun W hW=>?_⟩
 obtain⟨b',o',ha',_,_,hr⟩:=(h2 W hW).get (by omega) Tryz.underlying36 Tryz.szItem k hk
 rw[ha] at ha'
 simp only[qQ,Addr.mk.injEq,and_true] at ha'
 obtain⟨rfl,rfl⟩:=ha'
 rw[rowsIV_get h1 hk (by omega),ex] at hr
 exact hr
theorem OwnIt.drew (h:OwnIt S w0 w B v l):OwnIt S w0 w.drew B v l:=⟨h.row,h.form⟩
structure Lf (w wr:World) (cp cx:Array Value):Prop where
 pg:wr.heap[w.heap.size]?=some (.cells cp 59 (0,0))
 it:wr.heap[w.heap.size+1]?=some (.cells cx 45 (0,0))
 bel:Below w.heap.size w wr
theorem Lf.size {w wr:World} {cp cx:Array Value} (h:Lf w wr cp cx):w.heap.size+2≤wr.heap.size:=by have:=(qA h.it);omega
theorem Lf.after {w wr w':World} {cp cx:Array Value} (h:Lf w wr cp cx) (hb:Below (w.heap.size+2) wr w'):Lf w w' cp cx:=
 ⟨(hb.block _ (by omega)).trans h.pg,(hb.block _ (by omega)).trans h.it,h.bel.trans (hb.mono (by omega))⟩
theorem Lf.drew {w wr:World} {cp cx:Array Value} (h:Lf w wr cp cx):Lf w wr.drew cp cx:=⟨h.pg,h.it,drewA h.bel⟩
theorem Lf.new (w:World) (cp cx:Array Value):Lf w ((w.alloc (.cells cp 59)).alloc (.cells cx 45)) cp cx:=by
 refine⟨?_,?_,?_⟩
 ·rw[qE _ _ _ (by simp)];exact heap_newL w _
 ·have:=heap_newL (w.alloc (.cells cp 59)) (.cells cx 45)
  simpa using this
 ·exact (belowA w _).trans ((belowA _ _).mono (by simp))
theorem belowB {B:Nat} {w:World} (h:B≤w.heap.size) (o:Obj):Below B w (w.alloc o):=(belowA w o).mono h
end
end
section
open Go.RowKit
open F (wpList_append_any)
def putLeafR (s:RSt) (id:Int) (l:List ItemD) (x:ItemD):(Int × Int × ByteArray × Int) × RSt:=
 if (insI l x).length≤4 then ((id,0,⟨#[]⟩,(setR s id (leafP (insI l x))).1),(setR s id (leafP (insI l x))).2)
 else ((id,(addR (setR s id (leafP ((insI l x).take (((insI l x).length+1) / 2)))).2 (leafP ((insI l x).drop (((insI l x).length+1) / 2)))).1,((insI l x).getD (((insI l x).length+1) / 2) noItem).key,(addR (setR s id (leafP ((insI l x).take (((insI l x).length+1) / 2)))).2 (leafP ((insI l x).drop (((insI l x).length+1) / 2)))).2.1),
  (addR (setR s id (leafP ((insI l x).take (((insI l x).length+1) / 2)))).2 (leafP ((insI l x).drop (((insI l x).length+1) / 2)))).2.2)
theorem leaf_txnA (l:List ItemD):TxnOk (leafP l):=⟨by simp[leafP,noPage],by simp[leafP,noPage]⟩
theorem leaf_hangs {S:Nat→Prop} {W:World} {v:Value} {l:List ItemD} (h:ItemsS S W v l):HangsS S W (leafP l) ⟨v,.slice none 0 0,.slice none 0 0,.slice none 0 0,.slice none 0 0⟩:=
 ⟨h,StrsS.nil _ _,IntsS.nil _ _,by simp[leafP,noPage],by simp[leafP,noPage,ByteArray.size],StrsS.nil _ _,rfl,rfl⟩
section
variable {S:Nat→Prop} {w:World} {rb fb:Nat} {s:RSt} {va vf vi vp:Value}
theorem putLeaf_any (h:RStAt S w rb fb s va vf vi vp) (hS0:∀ k,S k→k<w.heap.size) (hrb0:S rb) (id:Int) {kp:Nat} (hpl0:placeR s id=(kp:Int)) (hkp0:kp<s.ps.length) (p:PageD) (u:PV) (hu:HangsS S w p u) (x:ItemD) (xu:Value) (hx:ItemS S w x xu) (hm:p.items.length≤4)
  (hg:4<(insI p.items x).length→isPB (leafP ((insI p.items x).take (((insI p.items x).length+1) / 2)))=true) (hav:s.avail=[]) (hids:∀ y∈s.ids,y<s.last) :
  Calls Tryz.prog 76 #[.pointer (some ⟨rb,0,none⟩),.int .i64 id,.agg (cellsPV p u).toArray,.agg (itemCells x xu).toArray] w fun e w'=>e=.returned (.tuple #[.int .i64 (putLeafR s id p.items x).1.1,.int .i64 (putLeafR s id p.items x).1.2.1,.string (putLeafR s id p.items x).1.2.2.1,.int .i64 (putLeafR s id p.items x).1.2.2.2])∧∃ vi' vp',RStAt S w' rb fb (putLeafR s id p.items x).2 va vf vi' vp'∧w.grownBy w' (some rb):=by
 have HU:=hidA hu
 have HX:=hidA hx
 have HH:=hidA h
 have hS:=hidA hS0
 have hrb:=hidA hrb0
 have hpl:=hidA hpl0
 have hk2:=hidA hkp0
 have hgood:=hidA hg
 have hav2:=hidA hav
 have hid2:=hidA hids
 clear h hS0 hrb0 hpl0 hkp0 hg hav hids
 obtain⟨xa,xn,xc,rfl⟩:=hx.1.slice
 obtain⟨⟨_,_,_,e1⟩,⟨ak,nk,ck,e2⟩,⟨ad,nd,cd,e3⟩,⟨av,nv,cv,e4⟩,⟨af,nf,cf,e5⟩⟩:=hu.here.slices
 obtain⟨ai,ci,_,e6,_⟩:=hu.items
 have hIS:=hidA hu.items
 clear hu hx e1
 obtain⟨ui,uk,ud,uv,uf⟩:=u
 simp only at e2 e3 e4 e5 e6 hIS
 subst e2 e3 e4 e5 e6
 show Calls Tryz.prog 76 #[.pointer (some ⟨rb,0,none⟩),.int .i64 id,.agg #[.int .i64 p.kind,.slice ai p.items.length ci,.slice ak nk ck,.slice ad nd cd,.string p.text,.slice av nv cv,.slice af nf cf,.int .i64 p.next,.int .u64 p.mt.txn,.int .i64 p.mt.main.page,.int .i64 p.mt.main.count,.int .i64 p.mt.main.flags,.int .i64 p.mt.free,.int .i64 p.mt.last],.agg #[.string x.key,.int .i64 x.kind,.string x.val,.int .i64 x.run,.int .i64 x.len,.slice xa xn xc,.int .i64 x.dup,.int .i64 x.root.page,.int .i64 x.root.count,.int .i64 x.root.flags]] w _
 have HG:=hidA (fun k (hk:k<p.items.length)=>ItemsS.get hIS.out rfl hk)
 have hL0:=hidA (Lf.new w #[.int .i64 p.kind,.slice ai p.items.length ci,.slice ak nk ck,.slice ad nd cd,.string p.text,.slice av nv cv,.slice af nf cf,.int .i64 p.next,.int .u64 p.mt.txn,.int .i64 p.mt.main.page,.int .i64 p.mt.main.count,.int .i64 p.mt.main.flags,.int .i64 p.mt.free,.int .i64 p.mt.last] #[.string x.key,.int .i64 x.kind,.string x.val,.int .i64 x.run,.int .i64 x.len,.slice xa xn xc,.int .i64 x.dup,.int .i64 x.root.page,.int .i64 x.root.count,.int .i64 x.root.flags])
 have hst0:=hidA (stI_length p.items x)
 go_enter Tryz.func76,Tryz.ntmps76
 go_wp2
 go_loopg [12,13,14] p.items.length (fun g v12 v13 i wr=>∃ (k:Nat) (a:Option Addr) (c:Nat) (done:Bool) (L:List ItemD) (n:Nat),k+g=p.items.length∧i=.int .i64 k∧v12=.slice a n c∧v13=.bool done∧Hid (stI p.items x k=(L,done)∧n=L.length∧OwnIt S w wr (w.heap.size+2) (.slice a L.length c) L)∧Hid (Lf w wr #[.int .i64 p.kind,.slice ai p.items.length ci,.slice ak nk ck,.slice ad nd cd,.string p.text,.slice av nv cv,.slice af nf cf,.int .i64 p.next,.int .u64 p.mt.txn,.int .i64 p.mt.main.page,.int .i64 p.mt.main.count,.int .i64 p.mt.main.flags,.int .i64 p.mt.free,.int .i64 p.mt.last] #[.string x.key,.int .i64 x.kind,.string x.val,.int .i64 x.run,.int .i64 x.len,.slice xa xn xc,.int .i64 x.dup,.int .i64 x.root.page,.int .i64 x.root.count,.int .i64 x.root.flags]))
 case atStart=>exact⟨0,none,0,false,[],0,by omega,rfl,rfl,rfl,hidA ⟨rfl,rfl,OwnIt.nil _ _ _ _⟩,hL0⟩
 case round=>
  obtain⟨k,a,c,done,L,n,hk,rfl,rfl,rfl,hst,hL⟩:=hrel
  clear hL0
  cases gk with
  | zero=>
    obtain rfl:k=p.items.length:=by omega
    have hLn2:Hid (L.length≤5):=hidA (by have:=(hst0.out p.items.length).1;rw[hst.out.1] at this;simp at this;omega)
    have hn:=hst.out.2.1
    subst hn
    have hO:=hidA hst.out.2.2
    have hi:=hidA (show insI p.items x=if done then L else L++[x] by unfold insI;rw[hst.out.1])
    have cX:=cell_rowL hL.out.it
    have c1:wr.cell? ⟨w.heap.size,1,none⟩=some (.slice ai p.items.length ci):=cell_rowL hL.out.pg 1
    have hst1:=hidA (show done=false→L.length=p.items.length from fun h=>by have:=(hst0.out p.items.length).2;rw[hst.out.1] at this;exact this h)
    clear hst hst0 HG hk
    cases done with
    | true=>
      rw[if_pos rfl] at hi
      clear cX
      by_cases h4:L.length≤4
      ·have d4:decide ((L.length:Int)≤4)=true:=by simp;omega
       have hIT:Hid (ItemsS S wr (.slice a L.length c) (L)):=hidA (by have h9:=hO.out.stay (fun k hk=>by have:=hS.out k hk;omega) (.below hL.out.bel) (by have:=hLn2.out;simp;omega);simpa using h9)
       have hRS:=hidA (HH.out.below hL.out.bel)
       have hSW:=hidA (fun k (hk:S k)=>qM (hS.out k hk) hL.out.bel.size)
       have hbW:=hidA hL.out.bel
       have hlen:Hid ((L).length=L.length):=hidA (by simp)
       clear hL hO
       have CS:Hid (Calls Tryz.prog 78 #[.pointer (some ⟨rb,0,none⟩),.int .i64 id,.agg #[.int .i64 1,.slice a L.length c,.slice none 0 0,.slice none 0 0,.string ⟨#[]⟩,.slice none 0 0,.slice none 0 0,.int .i64 0,.int .u64 0,.int .i64 0,.int .i64 0,.int .i64 0,.int .i64 0,.int .i64 0]] wr fun e w'=>e=.returned (.int .i64 (setR s id (leafP (L))).1)∧∃ vp',RStAt S w' rb fb (setR s id (leafP (L))).2 va vf vi vp'∧(wr).grownBy w' (some rb)):=hidA (rset_dirty hRS.out hSW.out hrb.out id hpl.out hk2.out (leafP (L)) ⟨.slice a L.length c,.slice none 0 0,.slice none 0 0,.slice none 0 0,.slice none 0 0⟩ (leaf_hangs hIT.out) (by simp[leafP,noPage]) (leaf_txnA _))
       have e9:=hidA (show putLeafR s id p.items x=((id,0,⟨#[]⟩,(setR s id (leafP (L))).1),(setR s id (leafP (L))).2) by unfold putLeafR;rw[hi.out,if_pos (by rw[hlen.out];exact h4)])
       generalize setR s id (leafP (L))=RS at *
       clear h4 hgood
       go_wp2_with fail
       refine CS.out.mono ?_
       rintro e w5 ⟨rfl,vp',hR5,hg5⟩
       replace hR5:=hidA hR5
       replace hg5:=hidA hg5
       go_wp2
       refine bodyPost_ret (v:=.tuple #[.int .i64 id,.int .i64 0,.string ⟨#[]⟩,.int .i64 RS.1]) (by simp[results,Tryz.results76,go_sem]) rfl ?_
       rw[e9.out]
       exact⟨rfl,_,vp',hR5.out,grown_then ⟨hbW.out.os,hbW.out.tape,hbW.out.output,hbW.out.size,fun k hk _=>hbW.out.block k hk⟩ hg5.out⟩
      ·have d4:decide ((L.length:Int)≤4)=false:=by simp;omega
       have hIT:Hid (ItemsS S wr (.slice a L.length c) (L)):=hidA (by have h9:=hO.out.stay (fun k hk=>by have:=hS.out k hk;omega) (.below hL.out.bel) (by have:=hLn2.out;simp;omega);simpa using h9)
       have hRS:=hidA (HH.out.below hL.out.bel)
       have hSW:=hidA (fun k (hk:S k)=>qM (hS.out k hk) hL.out.bel.size)
       have hbW:=hidA hL.out.bel
       have hlen:Hid ((L).length=L.length):=hidA (by simp)
       clear hL hO
       have hh:Hid (((L.length+1) / 2)≤(L).length):=hidA (by rw[hlen.out];omega)
       have hh2:Hid (((L.length+1) / 2)<(L).length):=hidA (by rw[hlen.out];omega)
       obtain⟨hcut1,hIT1⟩:=hIT.out.head (k:=((L.length+1) / 2)) hlen.out.symm hh.out
       obtain⟨bo,hcut2,hIT2⟩:=hIT.out.tail (k:=((L.length+1) / 2)) hlen.out.symm hh.out
       obtain⟨kb,ko,ya,yn,yc,hkix,hkI,hkR⟩:=hIT.out.get (k:=((L.length+1) / 2)) hlen.out.symm hh2.out
       have HKR:=hidA hkR
       have CHf:Hid (∀ V,Calls Tryz.prog 79 #[.int .i64 ((L.length:Int))] V fun e w'=>e=.returned (.int .i64 ((((L.length+1) / 2):Nat):Int))∧w'=V):=hidA (fun V=>by rw[show ((L.length:Int):Int)=((L.length:Nat):Int) by simp];exact half_any L.length (by have:=hLn2.out;omega) V)
       have hpb:Hid (isPB (leafP ((L).take ((L.length+1) / 2)))=true):=hidA (by have h9:=hgood.out;rw[hi.out,hlen.out] at h9;exact h9 (by omega))
       have hse:Hid ((setR s id (leafP ((L).take ((L.length+1) / 2)))).1=0∧(setR s id (leafP ((L).take ((L.length+1) / 2)))).2.avail=[]∧(setR s id (leafP ((L).take ((L.length+1) / 2)))).2.ids=s.ids∧(setR s id (leafP ((L).take ((L.length+1) / 2)))).2.last=s.last):=hidA (by unfold setR;rw[if_neg (by rw[hpb.out,hpl.out];simp)];exact⟨rfl,hav2.out,rfl,rfl⟩)
       have CS:Hid (Calls Tryz.prog 78 #[.pointer (some ⟨rb,0,none⟩),.int .i64 id,.agg #[.int .i64 1,.slice a ((L.length+1) / 2) c,.slice none 0 0,.slice none 0 0,.string ⟨#[]⟩,.slice none 0 0,.slice none 0 0,.int .i64 0,.int .u64 0,.int .i64 0,.int .i64 0,.int .i64 0,.int .i64 0,.int .i64 0]] wr fun e w'=>e=.returned (.int .i64 0)∧∃ vp',RStAt S w' rb fb (setR s id (leafP ((L).take ((L.length+1) / 2)))).2 va vf vi vp'∧(wr).grownBy w' (some rb)):=hidA ((rset_dirty hRS.out hSW.out hrb.out id hpl.out hk2.out (leafP ((L).take ((L.length+1) / 2))) ⟨.slice a ((L.length+1) / 2) c,.slice none 0 0,.slice none 0 0,.slice none 0 0,.slice none 0 0⟩ (leaf_hangs hIT1) (by simp[leafP,noPage]) (leaf_txnA _)).mono fun e w' h9=>by rw[hse.out.1] at h9;exact h9)
       have CA:Hid (∀ V vp',RStAt S V rb fb (setR s id (leafP ((L).take ((L.length+1) / 2)))).2 va vf vi vp'→(wr).grownBy V (some rb)→Calls Tryz.prog 51 #[.pointer (some ⟨rb,0,none⟩),.agg #[.int .i64 1,.slice bo (L.length - ((L.length+1) / 2)) (c - ((L.length+1) / 2)),.slice none 0 0,.slice none 0 0,.string ⟨#[]⟩,.slice none 0 0,.slice none 0 0,.int .i64 0,.int .u64 0,.int .i64 0,.int .i64 0,.int .i64 0,.int .i64 0,.int .i64 0]] V fun e w'=>e=.returned (.tuple #[.int .i64 (addR (setR s id (leafP ((L).take ((L.length+1) / 2)))).2 (leafP ((L).drop ((L.length+1) / 2)))).1,.int .i64 (addR (setR s id (leafP ((L).take ((L.length+1) / 2)))).2 (leafP ((L).drop ((L.length+1) / 2)))).2.1])∧∃ vi' vp',RStAt S w' rb fb (addR (setR s id (leafP ((L).take ((L.length+1) / 2)))).2 (leafP ((L).drop ((L.length+1) / 2)))).2.2 va vf vi' vp'∧V.grownBy w' (some rb)):=hidA (fun V vp' hV hgV=>radd_last hV (fun k hk=>Nat.lt_of_lt_of_le (hSW.out k hk) hgV.size) hrb.out (leafP ((L).drop ((L.length+1) / 2))) ⟨.slice bo (L.length - ((L.length+1) / 2)) (c - ((L.length+1) / 2)),.slice none 0 0,.slice none 0 0,.slice none 0 0,.slice none 0 0⟩ ((leaf_hangs hIT2).on (.grown hgV (fun g e=>.inl (by cases e;exact hrb.out)))) (by simp[leafP,noPage]) (leaf_txnA _) hse.out.2.1 (by rw[hse.out.2.2.1,hse.out.2.2.2];exact hid2.out))
       have e9:=hidA (show putLeafR s id p.items x=((id,(addR (setR s id (leafP ((L).take ((L.length+1) / 2)))).2 (leafP ((L).drop ((L.length+1) / 2)))).1,((L).getD ((L.length+1) / 2) noItem).key,(addR (setR s id (leafP ((L).take ((L.length+1) / 2)))).2 (leafP ((L).drop ((L.length+1) / 2)))).2.1),(addR (setR s id (leafP ((L).take ((L.length+1) / 2)))).2 (leafP ((L).drop ((L.length+1) / 2)))).2.2) by unfold putLeafR;rw[hi.out,if_neg (by rw[hlen.out];exact h4),hlen.out])
       generalize addR (setR s id (leafP ((L).take ((L.length+1) / 2)))).2 (leafP ((L).drop ((L.length+1) / 2)))=RA at *
       have hHb:Hid (((L.length+1) / 2)≤5):=hidA (by have:=hLn2.out;omega)
       clear h4 hgood hkR hIT1 hIT2 hkI hIT
       generalize hHe:((L.length+1) / 2)=hh5 at *
       replace hHe:=hidA hHe
       go_wp2_with fail
       refine (CHf.out _).mono ?_
       rintro e w4 ⟨rfl,rfl⟩
       go_wp2_with fail
       refine CS.out.mono ?_
       rintro e w5 ⟨rfl,vp',hR5,hg5⟩
       replace hR5:=hidA hR5
       replace hg5:=hidA hg5
       go_wp2_with fail
       refine (CA.out _ _ hR5.out hg5.out).mono ?_
       rintro e w6 ⟨rfl,vi6,vp6,hR6,hg6⟩
       have hrg:=HKR.out w6 ((Ks.grown hg5.out (fun g e=>.inl (by cases e;exact hrb.out))).trans (.grown hg6 (fun g e=>.inl (by cases e;exact hrb.out))))
       have ck:=(range10 hrg).1
       clear hrg
       replace hR6:=hidA hR6
       replace hg6:=hidA hg6
       go_wp2
       all_goals go_region
       all_goals go_wp2
       all_goals refine bodyPost_ret (v:=.tuple #[.int .i64 id,.int .i64 RA.1,.string ((L).getD hh5 noItem).key,.int .i64 RA.2.1]) (by simp[results,Tryz.results76,go_sem]) rfl ?_
       all_goals rw[e9.out]
       all_goals exact⟨rfl,vi6,vp6,hR6.out.below (drewA (qB _ _)),grown_then ⟨hbW.out.os,hbW.out.tape,hbW.out.output,hbW.out.size,fun k hk _=>hbW.out.block k hk⟩ (grown_then hg5.out (grown_then hg6.out ⟨rfl,rfl,rfl,Nat.le_refl _,fun _ _ _=>rfl⟩))⟩
    | false=>
      have hi:Hid (insI p.items x=L++[x]):=hidA hi.out
      have hLn3:Hid (L.length≤4):=hidA (by have:=hst1.out rfl;omega)
      have HAPX:Hid (∀ ty,∃ v' w',(Builtin.append_ #[36,36] ty #[.slice a L.length c,.slice (some ⟨wr.heap.size,0,none⟩) 1 1]).run Tryz.prog (wr.alloc (.cells #[.string x.key,.int .i64 x.kind,.string x.val,.int .i64 x.run,.int .i64 x.len,.slice xa xn xc,.int .i64 x.dup,.int .i64 x.root.page,.int .i64 x.root.count,.int .i64 x.root.flags] 45))=.ok v' w'∧(∃ a c,v'=.slice a (L.length+1) c)∧OwnIt S w w' (w.heap.size+2) v' (L++[x])∧Lf w w' #[.int .i64 p.kind,.slice ai p.items.length ci,.slice ak nk ck,.slice ad nd cd,.string p.text,.slice av nv cv,.slice af nf cf,.int .i64 p.next,.int .u64 p.mt.txn,.int .i64 p.mt.main.page,.int .i64 p.mt.main.count,.int .i64 p.mt.main.flags,.int .i64 p.mt.free,.int .i64 p.mt.last] #[.string x.key,.int .i64 x.kind,.string x.val,.int .i64 x.run,.int .i64 x.len,.slice xa xn xc,.int .i64 x.dup,.int .i64 x.root.page,.int .i64 x.root.count,.int .i64 x.root.flags]):=hidA (fun ty=>by
       obtain⟨v',w',h1,h2,h3,h4,_⟩:=OwnIt.app (w:=wr) (Y:=(wr.alloc (.cells #[.string x.key,.int .i64 x.kind,.string x.val,.int .i64 x.run,.int .i64 x.len,.slice xa xn xc,.int .i64 x.dup,.int .i64 x.root.page,.int .i64 x.root.count,.int .i64 x.root.flags] 45))) (B:=w.heap.size+2) (hO.out.alloc (.cells #[.string x.key,.int .i64 x.kind,.string x.val,.int .i64 x.run,.int .i64 x.len,.slice xa xn xc,.int .i64 x.dup,.int .i64 x.root.page,.int .i64 x.root.count,.int .i64 x.root.flags] 45)) HX.out (heap_newL wr _) (belowB hL.out.size _) (show w.heap.size+2≤(wr.alloc (.cells #[.string x.key,.int .i64 x.kind,.string x.val,.int .i64 x.run,.int .i64 x.len,.slice xa xn xc,.int .i64 x.dup,.int .i64 x.root.page,.int .i64 x.root.count,.int .i64 x.root.flags] 45)).heap.size by have:=hL.out.size;simp;omega) (by have:=hLn2.out;omega) ty
       exact⟨v',w',by simpa using h1,by simpa using h2,h3,hL.out.after h4⟩)
      clear hLn2
      have hLn2:Hid (L.length≤4):=hLn3
      by_cases h4:(L.length+1)≤4
      ·have d4:decide ((L.length:Int)+1≤4)=true:=by simp;omega
       go_wp2_with (first|(at_builtin;refine wpList_append_any rfl (.tmp 62) (.tmp 64) 36 rfl _ _ rfl rfl (HAPX.out _) ?_;rintro v2 w2 ⟨⟨a2,c2,rfl⟩,ho2,hL2⟩;replace ho2:=hidA ho2;replace hL2:=hidA hL2)|fail)
       have hIT:Hid (ItemsS S w2 (.slice a2 (L.length+1) c2) (L++[x])):=hidA (by have h9:=ho2.out.stay (fun k hk=>by have:=hS.out k hk;omega) (.below hL2.out.bel) (by have:=hLn2.out;simp;omega);simpa using h9)
       have hRS:=hidA (HH.out.below hL2.out.bel)
       have hSW:=hidA (fun k (hk:S k)=>qM (hS.out k hk) hL2.out.bel.size)
       have hbW:=hidA hL2.out.bel
       have hlen:Hid ((L++[x]).length=(L.length+1)):=hidA (by simp)
       clear hL2 ho2
       have CS:Hid (Calls Tryz.prog 78 #[.pointer (some ⟨rb,0,none⟩),.int .i64 id,.agg #[.int .i64 1,.slice a2 (L.length+1) c2,.slice none 0 0,.slice none 0 0,.string ⟨#[]⟩,.slice none 0 0,.slice none 0 0,.int .i64 0,.int .u64 0,.int .i64 0,.int .i64 0,.int .i64 0,.int .i64 0,.int .i64 0]] w2 fun e w'=>e=.returned (.int .i64 (setR s id (leafP (L++[x]))).1)∧∃ vp',RStAt S w' rb fb (setR s id (leafP (L++[x]))).2 va vf vi vp'∧(w2).grownBy w' (some rb)):=hidA (rset_dirty hRS.out hSW.out hrb.out id hpl.out hk2.out (leafP (L++[x])) ⟨.slice a2 (L.length+1) c2,.slice none 0 0,.slice none 0 0,.slice none 0 0,.slice none 0 0⟩ (leaf_hangs hIT.out) (by simp[leafP,noPage]) (leaf_txnA _))
       have e9:=hidA (show putLeafR s id p.items x=((id,0,⟨#[]⟩,(setR s id (leafP (L++[x]))).1),(setR s id (leafP (L++[x]))).2) by unfold putLeafR;rw[hi.out,if_pos (by rw[hlen.out];exact h4)])
       generalize setR s id (leafP (L++[x]))=RS at *
       clear h4 hgood
       refine CS.out.mono ?_
       rintro e w5 ⟨rfl,vp',hR5,hg5⟩
       replace hR5:=hidA hR5
       replace hg5:=hidA hg5
       go_wp2
       refine bodyPost_ret (v:=.tuple #[.int .i64 id,.int .i64 0,.string ⟨#[]⟩,.int .i64 RS.1]) (by simp[results,Tryz.results76,go_sem]) rfl ?_
       rw[e9.out]
       exact⟨rfl,_,vp',hR5.out,grown_then ⟨hbW.out.os,hbW.out.tape,hbW.out.output,hbW.out.size,fun k hk _=>hbW.out.block k hk⟩ hg5.out⟩
      ·have d4:decide ((L.length:Int)+1≤4)=false:=by simp;omega
       go_wp2_with (first|(at_builtin;refine wpList_append_any rfl (.tmp 62) (.tmp 64) 36 rfl _ _ rfl rfl (HAPX.out _) ?_;rintro v2 w2 ⟨⟨a2,c2,rfl⟩,ho2,hL2⟩;replace ho2:=hidA ho2;replace hL2:=hidA hL2)|fail)
       have hIT:Hid (ItemsS S w2 (.slice a2 (L.length+1) c2) (L++[x])):=hidA (by have h9:=ho2.out.stay (fun k hk=>by have:=hS.out k hk;omega) (.below hL2.out.bel) (by have:=hLn2.out;simp;omega);simpa using h9)
       have hRS:=hidA (HH.out.below hL2.out.bel)
       have hSW:=hidA (fun k (hk:S k)=>qM (hS.out k hk) hL2.out.bel.size)
       have hbW:=hidA hL2.out.bel
       have hlen:Hid ((L++[x]).length=(L.length+1)):=hidA (by simp)
       clear hL2 ho2
       have hh:Hid ((((L.length+1)+1) / 2)≤(L++[x]).length):=hidA (by rw[hlen.out];omega)
       have hh2:Hid ((((L.length+1)+1) / 2)<(L++[x]).length):=hidA (by rw[hlen.out];omega)
       obtain⟨hcut1,hIT1⟩:=hIT.out.head (k:=(((L.length+1)+1) / 2)) hlen.out.symm hh.out
       obtain⟨bo,hcut2,hIT2⟩:=hIT.out.tail (k:=(((L.length+1)+1) / 2)) hlen.out.symm hh.out
       obtain⟨kb,ko,ya,yn,yc,hkix,hkI,hkR⟩:=hIT.out.get (k:=(((L.length+1)+1) / 2)) hlen.out.symm hh2.out
       have HKR:=hidA hkR
       have CHf:Hid (∀ V,Calls Tryz.prog 79 #[.int .i64 ((L.length:Int)+1)] V fun e w'=>e=.returned (.int .i64 (((((L.length+1)+1) / 2):Nat):Int))∧w'=V):=hidA (fun V=>by rw[show ((L.length:Int)+1:Int)=(((L.length+1):Nat):Int) by simp];exact half_any (L.length+1) (by have:=hLn2.out;omega) V)
       have hpb:Hid (isPB (leafP ((L++[x]).take (((L.length+1)+1) / 2)))=true):=hidA (by have h9:=hgood.out;rw[hi.out,hlen.out] at h9;exact h9 (by omega))
       have hse:Hid ((setR s id (leafP ((L++[x]).take (((L.length+1)+1) / 2)))).1=0∧(setR s id (leafP ((L++[x]).take (((L.length+1)+1) / 2)))).2.avail=[]∧(setR s id (leafP ((L++[x]).take (((L.length+1)+1) / 2)))).2.ids=s.ids∧(setR s id (leafP ((L++[x]).take (((L.length+1)+1) / 2)))).2.last=s.last):=hidA (by unfold setR;rw[if_neg (by rw[hpb.out,hpl.out];simp)];exact⟨rfl,hav2.out,rfl,rfl⟩)
       have CS:Hid (Calls Tryz.prog 78 #[.pointer (some ⟨rb,0,none⟩),.int .i64 id,.agg #[.int .i64 1,.slice a2 (((L.length+1)+1) / 2) c2,.slice none 0 0,.slice none 0 0,.string ⟨#[]⟩,.slice none 0 0,.slice none 0 0,.int .i64 0,.int .u64 0,.int .i64 0,.int .i64 0,.int .i64 0,.int .i64 0,.int .i64 0]] w2 fun e w'=>e=.returned (.int .i64 0)∧∃ vp',RStAt S w' rb fb (setR s id (leafP ((L++[x]).take (((L.length+1)+1) / 2)))).2 va vf vi vp'∧(w2).grownBy w' (some rb)):=hidA ((rset_dirty hRS.out hSW.out hrb.out id hpl.out hk2.out (leafP ((L++[x]).take (((L.length+1)+1) / 2))) ⟨.slice a2 (((L.length+1)+1) / 2) c2,.slice none 0 0,.slice none 0 0,.slice none 0 0,.slice none 0 0⟩ (leaf_hangs hIT1) (by simp[leafP,noPage]) (leaf_txnA _)).mono fun e w' h9=>by rw[hse.out.1] at h9;exact h9)
       have CA:Hid (∀ V vp',RStAt S V rb fb (setR s id (leafP ((L++[x]).take (((L.length+1)+1) / 2)))).2 va vf vi vp'→(w2).grownBy V (some rb)→Calls Tryz.prog 51 #[.pointer (some ⟨rb,0,none⟩),.agg #[.int .i64 1,.slice bo ((L.length+1) - (((L.length+1)+1) / 2)) (c2 - (((L.length+1)+1) / 2)),.slice none 0 0,.slice none 0 0,.string ⟨#[]⟩,.slice none 0 0,.slice none 0 0,.int .i64 0,.int .u64 0,.int .i64 0,.int .i64 0,.int .i64 0,.int .i64 0,.int .i64 0]] V fun e w'=>e=.returned (.tuple #[.int .i64 (addR (setR s id (leafP ((L++[x]).take (((L.length+1)+1) / 2)))).2 (leafP ((L++[x]).drop (((L.length+1)+1) / 2)))).1,.int .i64 (addR (setR s id (leafP ((L++[x]).take (((L.length+1)+1) / 2)))).2 (leafP ((L++[x]).drop (((L.length+1)+1) / 2)))).2.1])∧∃ vi' vp',RStAt S w' rb fb (addR (setR s id (leafP ((L++[x]).take (((L.length+1)+1) / 2)))).2 (leafP ((L++[x]).drop (((L.length+1)+1) / 2)))).2.2 va vf vi' vp'∧V.grownBy w' (some rb)):=hidA (fun V vp' hV hgV=>radd_last hV (fun k hk=>Nat.lt_of_lt_of_le (hSW.out k hk) hgV.size) hrb.out (leafP ((L++[x]).drop (((L.length+1)+1) / 2))) ⟨.slice bo ((L.length+1) - (((L.length+1)+1) / 2)) (c2 - (((L.length+1)+1) / 2)),.slice none 0 0,.slice none 0 0,.slice none 0 0,.slice none 0 0⟩ ((leaf_hangs hIT2).on (.grown hgV (fun g e=>.inl (by cases e;exact hrb.out)))) (by simp[leafP,noPage]) (leaf_txnA _) hse.out.2.1 (by rw[hse.out.2.2.1,hse.out.2.2.2];exact hid2.out))
       have e9:=hidA (show putLeafR s id p.items x=((id,(addR (setR s id (leafP ((L++[x]).take (((L.length+1)+1) / 2)))).2 (leafP ((L++[x]).drop (((L.length+1)+1) / 2)))).1,((L++[x]).getD (((L.length+1)+1) / 2) noItem).key,(addR (setR s id (leafP ((L++[x]).take (((L.length+1)+1) / 2)))).2 (leafP ((L++[x]).drop (((L.length+1)+1) / 2)))).2.1),(addR (setR s id (leafP ((L++[x]).take (((L.length+1)+1) / 2)))).2 (leafP ((L++[x]).drop (((L.length+1)+1) / 2)))).2.2) by unfold putLeafR;rw[hi.out,if_neg (by rw[hlen.out];exact h4),hlen.out])
       generalize addR (setR s id (leafP ((L++[x]).take (((L.length+1)+1) / 2)))).2 (leafP ((L++[x]).drop (((L.length+1)+1) / 2)))=RA at *
       have hHb:Hid ((((L.length+1)+1) / 2)≤5):=hidA (by have:=hLn2.out;omega)
       clear h4 hgood hkR hIT1 hIT2 hkI hIT
       generalize hHe:(((L.length+1)+1) / 2)=hh5 at *
       replace hHe:=hidA hHe
       refine (CHf.out _).mono ?_
       rintro e w4 ⟨rfl,rfl⟩
       go_wp2_with fail
       refine CS.out.mono ?_
       rintro e w5 ⟨rfl,vp',hR5,hg5⟩
       replace hR5:=hidA hR5
       replace hg5:=hidA hg5
       go_wp2_with fail
       refine (CA.out _ _ hR5.out hg5.out).mono ?_
       rintro e w6 ⟨rfl,vi6,vp6,hR6,hg6⟩
       have hrg:=HKR.out w6 ((Ks.grown hg5.out (fun g e=>.inl (by cases e;exact hrb.out))).trans (.grown hg6 (fun g e=>.inl (by cases e;exact hrb.out))))
       have ck:=(range10 hrg).1
       clear hrg
       replace hR6:=hidA hR6
       replace hg6:=hidA hg6
       go_wp2
       all_goals go_region
       all_goals go_wp2
       all_goals refine bodyPost_ret (v:=.tuple #[.int .i64 id,.int .i64 RA.1,.string ((L++[x]).getD hh5 noItem).key,.int .i64 RA.2.1]) (by simp[results,Tryz.results76,go_sem]) rfl ?_
       all_goals rw[e9.out]
       all_goals exact⟨rfl,vi6,vp6,hR6.out.below (drewA (qB _ _)),grown_then ⟨hbW.out.os,hbW.out.tape,hbW.out.output,hbW.out.size,fun k hk _=>hbW.out.block k hk⟩ (grown_then hg5.out (grown_then hg6.out ⟨rfl,rfl,rfl,Nat.le_refl _,fun _ _ _=>rfl⟩))⟩
  | succ g=>
    have hlk:k<p.items.length:=by omega
    have hkb:k≤3:=by omega
    have hLn:Hid (L.length≤1000):=hidA (by have:=(hst0.out k).1;rw[hst.out.1] at this;simp at this;omega)
    obtain⟨b,o,ya,yn,yc,hix,hIt,hR⟩:=HG.out k hlk
    have HR:=hidA hR
    have HIt:=hidA hIt
    have hLn2:Hid (L.length≤10):=hidA (by have:=(hst0.out k).1;rw[hst.out.1] at this;simp at this;omega)
    have hsucc:=hidA (show stI p.items x (k+1)=if done=false∧ltB (p.items.getD k noItem).key x.key=false then (if (p.items.getD k noItem).key=x.key then (L++[x],true) else (L++[x]++[p.items.getD k noItem],true)) else (L++[p.items.getD k noItem],done) by
     rw[stI];simp only[hst.out.1])
    have hn:=hst.out.2.1
    subst hn
    have hO:=hidA hst.out.2.2
    clear hst hR hIt HG hst0 hIS HU
    generalize p.items.getD k noItem=it at *
    have c1:wr.cell? ⟨w.heap.size,1,none⟩=some (.slice ai p.items.length ci):=cell_rowL hL.out.pg 1
    have cX:=cell_rowL hL.out.it
    obtain⟨r0,r1,r2,r3,r4,r5,r6,r7,r8,r9⟩:=range10 (HR.out wr (.below hL.out.bel))
    by_cases hd:done=true∨ltB it.key x.key=true
    ·have hs2:Hid (stI p.items x (k+1)=(L++[it],done)):=hidA (by
      rw[hsucc.out,if_neg]
      rintro⟨h1,h2⟩
      rcases hd with h|h
      ·rw[h1] at h;cases h
      ·rw[h2] at h;cases h)
     clear hsucc
     have HAP:Hid (∀ ty,∃ v' w',(Builtin.append_ #[36,36] ty #[.slice a L.length c,.slice (some ⟨wr.heap.size,0,none⟩) 1 1]).run Tryz.prog ((wr.alloc (.cells #[.string it.key,.int .i64 it.kind,.string it.val,.int .i64 it.run,.int .i64 it.len,.slice ya yn yc,.int .i64 it.dup,.int .i64 it.root.page,.int .i64 it.root.count,.int .i64 it.root.flags] 45)).drew)=.ok v' w'∧(∃ a c,v'=.slice a (L.length+1) c)∧OwnIt S w w' (w.heap.size+2) v' (L++[it])∧Lf w w' #[.int .i64 p.kind,.slice ai p.items.length ci,.slice ak nk ck,.slice ad nd cd,.string p.text,.slice av nv cv,.slice af nf cf,.int .i64 p.next,.int .u64 p.mt.txn,.int .i64 p.mt.main.page,.int .i64 p.mt.main.count,.int .i64 p.mt.main.flags,.int .i64 p.mt.free,.int .i64 p.mt.last] #[.string x.key,.int .i64 x.kind,.string x.val,.int .i64 x.run,.int .i64 x.len,.slice xa xn xc,.int .i64 x.dup,.int .i64 x.root.page,.int .i64 x.root.count,.int .i64 x.root.flags]):=hidA (fun ty=>by
      obtain⟨v',w',h1,h2,h3,h4,_⟩:=OwnIt.app (w:=wr) (Y:=((wr.alloc (.cells #[.string it.key,.int .i64 it.kind,.string it.val,.int .i64 it.run,.int .i64 it.len,.slice ya yn yc,.int .i64 it.dup,.int .i64 it.root.page,.int .i64 it.root.count,.int .i64 it.root.flags] 45)).drew)) (B:=w.heap.size+2) (hO.out.alloc (.cells #[.string it.key,.int .i64 it.kind,.string it.val,.int .i64 it.run,.int .i64 it.len,.slice ya yn yc,.int .i64 it.dup,.int .i64 it.root.page,.int .i64 it.root.count,.int .i64 it.root.flags] 45)).drew HIt.out (heap_newL wr _) (drewA (belowB hL.out.size _)) (show w.heap.size+2≤(wr.alloc (.cells #[.string it.key,.int .i64 it.kind,.string it.val,.int .i64 it.run,.int .i64 it.len,.slice ya yn yc,.int .i64 it.dup,.int .i64 it.root.page,.int .i64 it.root.count,.int .i64 it.root.flags] 45)).heap.size by have:=hL.out.size;simp;omega) hLn.out ty
      exact⟨v',w',by simpa using h1,by simpa using h2,h3,hL.out.after h4⟩)
     have hlt:Hid (done=false→Op.bytesLess it.key.toList x.key.toList=true):=hidA (fun h=>by
      rcases hd with h1|h1
      ·rw[h] at h1;cases h1
      ·exact h1)
     clear hd
     cases done with
     | true=>
       clear hlt
       go_wp2
       all_goals go_region
       all_goals go_wp2_with (first|(at_builtin;refine wpList_append_any rfl (.tmp 52) (.tmp 58) 36 rfl _ _ rfl rfl (HAP.out _) ?_;rintro v2 w2 ⟨⟨a2,c2,rfl⟩,ho2,hL2⟩;replace ho2:=hidA ho2;replace hL2:=hidA hL2)|fail)
       all_goals go_roundg g
       case rel=>exact⟨k+1,a2,c2,true,L++[it],L.length+1,by omega,by go_num,rfl,rfl,hidA ⟨hs2.out,by simp,by simpa using ho2.out⟩,hL2⟩
       case measure=>omega
     | false=>
       have hlt2:=hlt.out rfl
       clear hlt
       go_wp2
       all_goals go_region
       all_goals go_wp2_with (first|(at_builtin;refine wpList_append_any rfl (.tmp 52) (.tmp 58) 36 rfl _ _ rfl rfl (HAP.out _) ?_;rintro v2 w2 ⟨⟨a2,c2,rfl⟩,ho2,hL2⟩;replace ho2:=hidA ho2;replace hL2:=hidA hL2)|fail)
       all_goals go_roundg g
       case rel=>exact⟨k+1,a2,c2,false,L++[it],L.length+1,by omega,by go_num,rfl,rfl,hidA ⟨hs2.out,by simp,by simpa using ho2.out⟩,hL2⟩
       case measure=>omega
    ·obtain⟨rfl,hnl⟩:done=false∧ltB it.key x.key=false:=by
      exact⟨Bool.eq_false_iff.2 fun h=>hd (.inl h),Bool.eq_false_iff.2 fun h=>hd (.inr h)⟩
     have hlt2:Op.bytesLess it.key.toList x.key.toList=false:=hnl
     have HAPX:Hid (∀ ty,∃ v' w',(Builtin.append_ #[36,36] ty #[.slice a L.length c,.slice (some ⟨wr.heap.size,0,none⟩) 1 1]).run Tryz.prog ((wr.alloc (.cells #[.string x.key,.int .i64 x.kind,.string x.val,.int .i64 x.run,.int .i64 x.len,.slice xa xn xc,.int .i64 x.dup,.int .i64 x.root.page,.int .i64 x.root.count,.int .i64 x.root.flags] 45)).drew)=.ok v' w'∧(∃ a c,v'=.slice a (L.length+1) c)∧OwnIt S w w' (w.heap.size+2) v' (L++[x])∧Lf w w' #[.int .i64 p.kind,.slice ai p.items.length ci,.slice ak nk ck,.slice ad nd cd,.string p.text,.slice av nv cv,.slice af nf cf,.int .i64 p.next,.int .u64 p.mt.txn,.int .i64 p.mt.main.page,.int .i64 p.mt.main.count,.int .i64 p.mt.main.flags,.int .i64 p.mt.free,.int .i64 p.mt.last] #[.string x.key,.int .i64 x.kind,.string x.val,.int .i64 x.run,.int .i64 x.len,.slice xa xn xc,.int .i64 x.dup,.int .i64 x.root.page,.int .i64 x.root.count,.int .i64 x.root.flags]):=hidA (fun ty=>by
      obtain⟨v',w',h1,h2,h3,h4,_⟩:=OwnIt.app (w:=wr) (Y:=((wr.alloc (.cells #[.string x.key,.int .i64 x.kind,.string x.val,.int .i64 x.run,.int .i64 x.len,.slice xa xn xc,.int .i64 x.dup,.int .i64 x.root.page,.int .i64 x.root.count,.int .i64 x.root.flags] 45)).drew)) (B:=w.heap.size+2) (hO.out.alloc (.cells #[.string x.key,.int .i64 x.kind,.string x.val,.int .i64 x.run,.int .i64 x.len,.slice xa xn xc,.int .i64 x.dup,.int .i64 x.root.page,.int .i64 x.root.count,.int .i64 x.root.flags] 45)).drew HX.out (heap_newL wr _) (drewA (belowB hL.out.size _)) (show w.heap.size+2≤(wr.alloc (.cells #[.string x.key,.int .i64 x.kind,.string x.val,.int .i64 x.run,.int .i64 x.len,.slice xa xn xc,.int .i64 x.dup,.int .i64 x.root.page,.int .i64 x.root.count,.int .i64 x.root.flags] 45)).heap.size by have:=hL.out.size;simp;omega) hLn.out ty
      exact⟨v',w',by simpa using h1,by simpa using h2,h3,hL.out.after h4⟩)
     by_cases he:it.key=x.key
     ·have hs2:Hid (stI p.items x (k+1)=(L++[x],true)):=hidA (by rw[hsucc.out,if_pos ⟨rfl,hnl⟩,if_pos he])
      have de2:(it.key.toList==x.key.toList)=true:=by rw[he];simp
      clear hsucc hnl hd he
      go_wp2
      all_goals go_region
      all_goals go_wp2_with (first|(at_builtin;refine wpList_append_any rfl (.tmp 39) (.tmp 41) 36 rfl _ _ rfl rfl (HAPX.out _) ?_;rintro v2 w2 ⟨⟨a2,c2,rfl⟩,ho2,hL2⟩;replace ho2:=hidA ho2;replace hL2:=hidA hL2;clear c1 cX r0 r1 r2 r3 r4 r5 r6 r7 r8 r9;have d1:w2.cell? ⟨w.heap.size,1,none⟩=some (.slice ai p.items.length ci):=cell_rowL hL2.out.pg 1;have cX2:=cell_rowL hL2.out.it;obtain⟨q0,q1,q2,q3,q4,q5,q6,q7,q8,q9⟩:=range10 (HR.out w2 (.below hL2.out.bel)))|fail)
      all_goals go_region
      all_goals go_wp2
      all_goals go_roundg g
      case rel=>exact⟨k+1,a2,c2,true,L++[x],L.length+1,by omega,by go_num,rfl,rfl,hidA ⟨hs2.out,by simp,by simpa using ho2.out.drew⟩,hidA hL2.out.drew⟩
      case measure=>omega
     ·have hs2:Hid (stI p.items x (k+1)=(L++[x]++[it],true)):=hidA (by rw[hsucc.out,if_pos ⟨rfl,hnl⟩,if_neg he])
      have de2:(it.key.toList==x.key.toList)=false:=by
       simp only[beq_eq_false_iff_ne]
       intro e
       exact he (toList_inj e)
      have hLn1:Hid ((L++[x]).length≤1000):=hidA (by have:=hLn2.out;simp;omega)
      have HAPG:Hid (∀ W2 a2 c2,OwnIt S w W2 (w.heap.size+2) (.slice a2 (L.length+1) c2) (L++[x])→Lf w W2 #[.int .i64 p.kind,.slice ai p.items.length ci,.slice ak nk ck,.slice ad nd cd,.string p.text,.slice av nv cv,.slice af nf cf,.int .i64 p.next,.int .u64 p.mt.txn,.int .i64 p.mt.main.page,.int .i64 p.mt.main.count,.int .i64 p.mt.main.flags,.int .i64 p.mt.free,.int .i64 p.mt.last] #[.string x.key,.int .i64 x.kind,.string x.val,.int .i64 x.run,.int .i64 x.len,.slice xa xn xc,.int .i64 x.dup,.int .i64 x.root.page,.int .i64 x.root.count,.int .i64 x.root.flags]→∀ ty,∃ v' w',(Builtin.append_ #[36,36] ty #[.slice a2 (L.length+1) c2,.slice (some ⟨W2.heap.size,0,none⟩) 1 1]).run Tryz.prog ((W2.alloc (.cells #[.string it.key,.int .i64 it.kind,.string it.val,.int .i64 it.run,.int .i64 it.len,.slice ya yn yc,.int .i64 it.dup,.int .i64 it.root.page,.int .i64 it.root.count,.int .i64 it.root.flags] 45)).drew)=.ok v' w'∧(∃ a c,v'=.slice a (L.length+1+1) c)∧OwnIt S w w' (w.heap.size+2) v' (L++[x]++[it])∧Lf w w' #[.int .i64 p.kind,.slice ai p.items.length ci,.slice ak nk ck,.slice ad nd cd,.string p.text,.slice av nv cv,.slice af nf cf,.int .i64 p.next,.int .u64 p.mt.txn,.int .i64 p.mt.main.page,.int .i64 p.mt.main.count,.int .i64 p.mt.main.flags,.int .i64 p.mt.free,.int .i64 p.mt.last] #[.string x.key,.int .i64 x.kind,.string x.val,.int .i64 x.run,.int .i64 x.len,.slice xa xn xc,.int .i64 x.dup,.int .i64 x.root.page,.int .i64 x.root.count,.int .i64 x.root.flags]):=hidA (fun W2 a2 c2 hO2 hL2 ty=>by
       obtain⟨v',w',h1,h2,h3,h4,_⟩:=OwnIt.app (w:=W2) (Y:=((W2.alloc (.cells #[.string it.key,.int .i64 it.kind,.string it.val,.int .i64 it.run,.int .i64 it.len,.slice ya yn yc,.int .i64 it.dup,.int .i64 it.root.page,.int .i64 it.root.count,.int .i64 it.root.flags] 45)).drew)) (B:=w.heap.size+2) (hO2.alloc (.cells #[.string it.key,.int .i64 it.kind,.string it.val,.int .i64 it.run,.int .i64 it.len,.slice ya yn yc,.int .i64 it.dup,.int .i64 it.root.page,.int .i64 it.root.count,.int .i64 it.root.flags] 45)).drew HIt.out (heap_newL W2 _) (drewA (belowB hL2.size _)) (show w.heap.size+2≤(W2.alloc (.cells #[.string it.key,.int .i64 it.kind,.string it.val,.int .i64 it.run,.int .i64 it.len,.slice ya yn yc,.int .i64 it.dup,.int .i64 it.root.page,.int .i64 it.root.count,.int .i64 it.root.flags] 45)).heap.size by have:=hL2.size;simp;omega) hLn1.out ty
       exact⟨v',w',by simpa using h1,by simpa using h2,h3,hL2.after h4⟩)
      clear hsucc hnl hd he
      go_wp2
      all_goals go_region
      all_goals go_wp2_with (first|(at_builtin;refine wpList_append_any rfl (.tmp 39) (.tmp 41) 36 rfl _ _ rfl rfl (HAPX.out _) ?_;rintro v2 w2 ⟨⟨a2,c2,rfl⟩,ho2,hL2⟩;replace ho2:=hidA ho2;replace hL2:=hidA hL2;clear c1 cX r0 r1 r2 r3 r4 r5 r6 r7 r8 r9;have d1:w2.cell? ⟨w.heap.size,1,none⟩=some (.slice ai p.items.length ci):=cell_rowL hL2.out.pg 1;have cX2:=cell_rowL hL2.out.it;obtain⟨q0,q1,q2,q3,q4,q5,q6,q7,q8,q9⟩:=range10 (HR.out w2 (.below hL2.out.bel)))|fail)
      all_goals go_region
      all_goals go_wp2_with (first|(at_builtin;refine wpList_append_any rfl (.tmp 52) (.tmp 58) 36 rfl _ _ rfl rfl (HAPG.out _ _ _ ho2.out hL2.out _) ?_;rintro v3 w3 ⟨⟨a3,c3,rfl⟩,ho3,hL3⟩;replace ho3:=hidA ho3;replace hL3:=hidA hL3)|fail)
      all_goals go_roundg g
      case rel=>exact⟨k+1,a3,c3,true,L++[x]++[it],L.length+1+1,by omega,by go_num,rfl,rfl,hidA ⟨hs2.out,by simp,by simpa using ho3.out⟩,hL3⟩
      case measure=>omega
end
end
section
open Go.RowKit
def leB (a b:ByteArray):Bool:=Op.bytesLess a.toList b.toList||a.toList==b.toList
def downN (keys:List ByteArray) (key:ByteArray):Nat→Nat
 | 0=>0
 | i+1=>if 1≤i∧leB (keys.getD i ⟨#[]⟩) key=true then i else downN keys key i
theorem downN_lt (keys:List ByteArray) (key:ByteArray):∀ n,0<n→downN keys key n<n
 | 0,h=>absurd h (by omega)
 | 1,_=>by simp[downN]
 | n+2,_=>by
   have:=downN_lt keys key (n+1) (by omega)
   unfold downN
   split<;>omega
theorem Tryz.szStr (w:World):(Go.sizeOf 9).run Tryz.prog w=.ok 1 w:=by kernel_rfl
theorem StrsS.get {S:Nat→Prop} {w:World} {ao:Option Addr} {cap n:Nat} {l:List ByteArray} (h:StrsS S w (.slice ao n cap) l) (hn:n=l.length) {k:Nat} (hk:k<l.length):∃ a:Addr,(∀ W,(Instr.indexAt 31 (.slice ao n cap) (.int .i64 (k:Int))).run Tryz.prog W=.ok (.pointer (some a)) W)∧∀ W,Ks S w W→W.cell? a=some (.string (l.getD k ⟨#[]⟩)):=by
 subst hn
 obtain⟨ao',cap',e,h1,_⟩:=h
 simp only[qR,true_and] at e
 obtain⟨rfl,rfl⟩:=e
 obtain⟨b,o,ha,_,h2,_⟩:=h1.here.get (by omega) Tryz.underlying31 Tryz.szStr k hk
 refine⟨_,h2,fun W hW=>?_⟩
 obtain⟨b',o',ha',_,_,h3⟩:=(h1 W hW).get (by omega) Tryz.underlying31 Tryz.szStr k hk
 rw[ha] at ha'
 simp only[qQ,Addr.mk.injEq,and_true] at ha'
 obtain⟨rfl,rfl⟩:=ha'
 have:=h3 0 (.string (l.getD k ⟨#[]⟩)) (by simp[strsC,List.getD,hk])
 simpa using this
theorem down_any {S:Nat→Prop} {w:World} (p:PageD) (u:PV) (hu:HangsS S w p u) (key:ByteArray) (hk:p.keys.length≤1000) (hk1:1≤p.keys.length) :
  Calls Tryz.prog 77 #[.agg (cellsPV p u).toArray,.string key] w fun e w'=>e=.returned (.int .i64 (downN p.keys key p.keys.length:Nat))∧Below w.heap.size w w':=by
 obtain⟨⟨ai,ni,ci,e1⟩,⟨_,_,_,-⟩,⟨ad,nd,cd,e3⟩,⟨av,nv,cv,e4⟩,⟨af,nf,cf,e5⟩⟩:=hu.here.slices
 obtain⟨ak,ck,e2,-⟩:=hu.keys
 have hKS:=hidA hu.keys
 clear hu
 obtain⟨ui,uk,ud,uv,uf⟩:=u
 simp only at e1 e2 e3 e4 e5 hKS
 subst e1 e2 e3 e4 e5
 have hW1:=hidA (belowA w (.cells #[.int .i64 p.kind,.slice ai ni ci,.slice ak p.keys.length ck,.slice ad nd cd,.string p.text,.slice av nv cv,.slice af nf cf,.int .i64 p.next,.int .u64 p.mt.txn,.int .i64 p.mt.main.page,.int .i64 p.mt.main.count,.int .i64 p.mt.main.flags,.int .i64 p.mt.free,.int .i64 p.mt.last] 59))
 have cB:=cell_rowL (heap_newL w (.cells #[.int .i64 p.kind,.slice ai ni ci,.slice ak p.keys.length ck,.slice ad nd cd,.string p.text,.slice av nv cv,.slice af nf cf,.int .i64 p.next,.int .u64 p.mt.txn,.int .i64 p.mt.main.page,.int .i64 p.mt.main.count,.int .i64 p.mt.main.flags,.int .i64 p.mt.free,.int .i64 p.mt.last] 59))
 have HG:Hid (∀ k,k<p.keys.length→∃ a:Addr,(∀ W,(Instr.indexAt 31 (.slice ak p.keys.length ck) (.int .i64 (k:Int))).run Tryz.prog W=.ok (.pointer (some a)) W)∧∀ W,Ks S w W→W.cell? a=some (.string (p.keys.getD k ⟨#[]⟩))):=hidA (fun k hk=>StrsS.get hKS.out rfl hk)
 have hKn:=hidA hk
 clear hk hKS
 show Calls Tryz.prog 77 #[.agg #[.int .i64 p.kind,.slice ai ni ci,.slice ak p.keys.length ck,.slice ad nd cd,.string p.text,.slice av nv cv,.slice af nf cf,.int .i64 p.next,.int .u64 p.mt.txn,.int .i64 p.mt.main.page,.int .i64 p.mt.main.count,.int .i64 p.mt.main.flags,.int .i64 p.mt.free,.int .i64 p.mt.last],.string key] w _
 go_enter Tryz.func77,Tryz.ntmps77
 go_wp2
 go_loopg [5,6] (p.keys.length - 1) (fun g v5 i wr=>∃ (k j:Nat),k+g=p.keys.length∧1≤k∧i=.int .i64 k∧v5=.int .i64 j∧Hid (downN p.keys key k=j)∧wr=w.alloc (.cells #[.int .i64 p.kind,.slice ai ni ci,.slice ak p.keys.length ck,.slice ad nd cd,.string p.text,.slice av nv cv,.slice af nf cf,.int .i64 p.next,.int .u64 p.mt.txn,.int .i64 p.mt.main.page,.int .i64 p.mt.main.count,.int .i64 p.mt.main.flags,.int .i64 p.mt.free,.int .i64 p.mt.last] 59))
 case atStart=>exact⟨1,0,by omega,Nat.le_refl _,rfl,rfl,hidA rfl,rfl⟩
 case round=>
  obtain⟨k,j,hk,h1,rfl,rfl,hj,rfl⟩:=hrel
  cases gk with
  | zero=>
    obtain rfl:k=p.keys.length:=by omega
    have hj2:=hj.out
    subst hj2
    clear HG hj
    go_wp2
    go_ret
    exact⟨rfl,hW1.out⟩
  | succ g=>
    have hlk:k<p.keys.length:=by omega
    have hkb:k≤1000:=by have:=hKn.out;omega
    obtain⟨a,hix,hcell⟩:=HG.out k hlk
    have hc:=hcell _ (.below hW1.out)
    have hs:=hidA (show downN p.keys key (k+1)=if 1≤k∧leB (p.keys.getD k ⟨#[]⟩) key=true then k else downN p.keys key k from rfl)
    clear HG hcell
    generalize p.keys.getD k ⟨#[]⟩=y at *
    cases hlt:leB y key with
    | false=>
      have hs2:Hid (downN p.keys key (k+1)=j):=hidA (by rw[hs.out,if_neg (by rw[hlt];simp)];exact hj.out)
      unfold leB at hlt
      clear hs
      go_wp2
      go_roundg g
      case rel=>exact⟨k+1,j,by omega,by omega,by go_num,rfl,hs2,rfl⟩
      case measure=>omega
    | true=>
      have hs2:Hid (downN p.keys key (k+1)=k):=hidA (by rw[hs.out,if_pos ⟨h1,hlt⟩])
      unfold leB at hlt
      clear hs
      go_wp2
      go_roundg g
      case rel=>exact⟨k+1,k,by omega,by omega,by go_num,rfl,hs2,rfl⟩
      case measure=>omega
end
end Go.Proofs.YtbghhklbfnplbaaGreat

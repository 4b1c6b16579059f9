import Derived.ProofKit
import Derived.OpenShut
import Derived.ChangeOld
import Derived.Deep.Slices
import Derived.Deep.WholeRow
import Derived.Deep.MidRow
import Derived.Lib.QuietBelow
import Derived.Sort.LoopGhostIn
import Derived.Test.YtbghhklbfnplbaaGreatC00
import Derived.Test.YtbghhklbfnplbaaGreatT10
import Derived.Test.YtbghhklbfnplbaaGreatC27
set_option maxHeartbeats 4000000
set_option maxRecDepth 100000
namespace Go.Proofs.YtbghhklbfnplbaaGreat
section
open Go.ChangeShapes Go.WideShapes Go.ChangeAt Go.RowKit Go.Deep
def KeysOk (w:World) (v:Value) (l:List Nat):Prop:=KeysAt w v l∧∀ y∈l,y<256
section
variable {H:Type} {enc:TypeId × Value→H} {w:World} {base:Nat} {spare:Nat→Bool} {held:Bool}
def byteIn:Value→Int|.int _ n=>n|_=>0
theorem cellsU8:Tryz.prog.cellsOf 5=1:=by kernel_rfl
theorem open_keys {n:Nat} {v:Value} {y:DataW H × List MemPlace} (h:DataW.trod enc Tryz.prog w base spare held n 22 [v]=some y):∃ l,KeysOk w v l:=by
 rcases open_slice1 Tryz.underlying22 cellsU8 h with ⟨hcs,_⟩|⟨x,l,c,m,n,V,D,Pl,hcs,_,hl,hm,hmm,_,hcell⟩
 ·simp only[List.cons.injEq,and_true] at hcs
  subst hcs
  exact⟨[],⟨none,0,rfl,by simp[maxLen],fun i hi=>absurd hi (by simp)⟩,by simp⟩
 ·simp only[List.cons.injEq,and_true] at hcs
  subst hcs
  have key:∀ i,i<l→w.cell? (x.add i)=some (.int .u8 (byteIn (V i)))∧0≤byteIn (V i)∧byteIn (V i)≤255:=fun i hi'=>by
   have hm':i<m:=by rw[hmm];split<;>omega
   obtain⟨hc,ht⟩:=hcell i hm'
   obtain⟨y,hy,_,hwf⟩:=DataW.trod_int Tryz.underlying5 ht
   simp only[List.cons.injEq,and_true] at hy
   have hb:=bounds_u8 hwf
   rw[hc,hy]
   exact⟨rfl,hb.1,by have:=hb.2;simp only[byteIn];omega⟩
  refine⟨(List.range l).map fun i=>(byteIn (V i)).toNat,⟨some x,c,by simp,by simp;omega,fun i hi=>⟨x,rfl,?_⟩⟩,fun y hy=>?_⟩
  ·have hi':i<l:=by simpa using hi
   obtain⟨k1,k2,_⟩:=key i hi'
   simp only[List.getElem_map,List.getElem_range]
   rw[k1,Int.toNat_of_nonneg k2]
  ·obtain⟨i,hi,rfl⟩:=List.mem_map.1 hy
   have:=key i (List.mem_range.1 hi)
   omega
end
end
section
open Go.ChangeShapes Go.WideShapes Go.ChangeAt Go.RowKit Go.Deep
theorem take_succ_mem {keys:List Nat} {j:Nat} (hj:j<keys.length) {y:Nat}:y∈keys.take (j+1)↔y∈keys.take j∨y=keys.getD j 0:=by
 rw[List.take_add_one]
 simp only[List.getElem?_eq_getElem hj,Option.toList_some,qU,List.mem_singleton,List.getD,Option.getD_some]
def thereA (keys:List Nat) (k:Nat):Array Value:=((List.range 256).map fun i=>Value.bool (decide (i∈keys.take k))).toArray
theorem there_size (keys:List Nat) (k:Nat):(thereA keys k).size=256:=by simp[thereA]
theorem there_get (keys:List Nat) (k:Nat) {i:Nat} (hi:i<256):(thereA keys k)[i]?=some (.bool (decide (i∈keys.take k))):=by simp[thereA,hi]
theorem there_zero (keys:List Nat):thereA keys 0=Array.replicate 256 (.bool false):=by
 apply Array.ext (by simp[thereA])
 intro i h1 h2
 simp[thereA]
theorem there_set {keys:List Nat} {k:Nat} (hk:k<keys.length):(thereA keys k).setIfInBounds (keys.getD k 0) (.bool true)=thereA keys (k+1):=by
 apply Array.ext (by simp[thereA])
 intro i h1 h2
 have h3:i<256:=by simpa[thereA] using h2
 have h4:i<(thereA keys k).size:=by rw[there_size];exact h3
 rw[Array.getElem_setIfInBounds h4]
 have e:(i∈keys.take (k+1))↔(i∈keys.take k∨i=keys.getD k 0):=take_succ_mem hk
 by_cases hx:keys.getD k 0=i
 ·rw[if_pos hx]
  have h5:i∈keys.take (k+1):=e.2 (.inr hx.symm)
  simp[thereA,h5]
 ·rw[if_neg hx]
  have h5:(i∈keys.take (k+1))↔(i∈keys.take k):=⟨fun h=>(e.1 h).resolve_right fun h=>hx h.symm,fun h=>e.2 (.inl h)⟩
  simp[thereA,h5]
theorem Tryz.arr256:Tryz.prog.underlying 35=some (.array (Tryz.prog.arrayLen 35) (Tryz.prog.elem 35)):=by kernel_rfl
theorem Tryz.len256:Tryz.prog.arrayLen 35=256:=by kernel_rfl
theorem Tryz.size256 (w:World):(Go.sizeOf (Tryz.prog.elem 35)).run Tryz.prog w=.ok 1 w:=by kernel_rfl
theorem at256 (b:Nat) (k:IntKind) (i:Nat) (hi:i<256) (w:World):(Instr.indexAt 35 (.pointer (some ⟨b,0,none⟩)) (.int k (i:Int))).run Tryz.prog w=.ok (.pointer (some ⟨b,i,none⟩)) w:=by
 rw[run_indexAt_array (P:=Tryz.prog) w 35 ⟨b,0,none⟩ k i Tryz.arr256,Tryz.len256,if_pos (by omega),Tryz.size256]
 simp[Result.andThen,Addr.add_mid]
theorem Tryz.info256:(Tryz.prog.info? 35).map (fun i=>(i.zero,i.size))=some (some (.agg (Array.replicate 256 (.bool false))),256):=by kernel_rfl
theorem run256 (ρ:Operand→Value) (d:Option Tmp) (ty:TypeId) (pos:String) (w:World):(execOp ρ ⟨d,.alloc 35,ty,pos,#[],none⟩).run Tryz.prog w=.ok (.value (.pointer (some ⟨w.heap.size,0,none⟩))) (w.alloc (.cells (thereA [] 0) 35)):=by
 have h0:=(zero_of_info Tryz.info256).1 w
 rw[there_zero]
 generalize Array.replicate 256 (Value.bool false)=z at *
 simp only[execOp,Instr.alloc,Sem.run_bind,h0,Result.andThen_ok]
 simp[newVar,newRow,go_sem]
theorem alloc256 {id:Nat} {Q:Exit→Act→World→Prop} {a:Act} {w:World} {d:Tmp} {ty:TypeId} {pos:String} (hK:Q .normal (a.put (some d) (.pointer (some ⟨w.heap.size,0,none⟩))) (w.alloc (.cells (thereA [] 0) 35))):(Code.region id #[⟨some d,.alloc 35,ty,pos,#[],none⟩] false).wp Tryz.prog Q a w:=by
 refine wp_region ?_
 show wpOps Tryz.prog #[_] Q [0] a w
 rw[wpOps_cons]
 unfold wpOp
 show (if _ then _ else _)
 rw[if_pos (by rfl)]
 refine Or.inl ?_
 unfold Oper.wp
 show Oper.upon Tryz.prog _ a _ Q ((execOp a.eval ⟨some d,.alloc 35,ty,pos,#[],none⟩).run Tryz.prog w)
 rw[run256]
 exact hK
end
section
open Go.RowKit Go.Sort Go.Conc
def belowN (L:List Nat) (i:Nat):Nat:=(L.filter fun y=>decide (y<i)).length
theorem belowN_zero (L:List Nat):belowN L 0=0:=by simp[belowN]
theorem belowN_at:∀ {L:List Nat},Ri L→∀ {i:Nat},i∈L→∃ h:belowN L i<L.length,L[belowN L i]=i
 | a::r,hr,i,hi=>by
   obtain⟨h1,h2⟩:=List.pairwise_cons.1 hr
   rcases List.mem_cons.1 hi with rfl|hi
   ·have e:(i::r).filter (fun y=>decide (y<i))=[]:=by
     rw[List.filter_eq_nil_iff]
     intro y hy
     rcases List.mem_cons.1 hy with rfl|hy
     ·simp
     ·have:=h1 y hy
      simp
      omega
    have e0:belowN (i::r) i=0:=by unfold belowN;rw[e];rfl
    refine⟨by rw[e0];simp,?_⟩
    simp[e0]
   ·obtain⟨h3,h4⟩:=belowN_at h2 hi
    have h5:=h1 i hi
    have e0:belowN (a::r) i=belowN r i+1:=by
     unfold belowN
     rw[List.filter_cons_of_pos (by simpa using h5)]
     rfl
    refine⟨by rw[e0];simpa using h3,?_⟩
    simp only[e0,qI]
    exact h4
theorem belowN_succ {L:List Nat} (hr:Ri L) (i:Nat):belowN L (i+1)=if i∈L then belowN L i+1 else belowN L i:=by
 unfold belowN
 induction L with
 | nil=>simp
 | cons a r ih=>
   obtain⟨h1,h2⟩:=List.pairwise_cons.1 hr
   have ih:=ih h2
   rcases Nat.lt_trichotomy a i with h|h|h
   ·rw[List.filter_cons_of_pos (by simp;omega),List.filter_cons_of_pos (by simp;omega),qV,qV,ih]
    have:(i∈a::r)↔i∈r:=⟨fun h=>(List.mem_cons.1 h).resolve_left (by omega),List.mem_cons_of_mem _⟩
    simp only[this]
    split<;>rfl
   ·subst h
    have hn:a ∉ r:=fun hm=>by have:=h1 a hm;omega
    rw[if_neg hn] at ih
    rw[List.filter_cons_of_pos (by simp),List.filter_cons_of_neg (by simp),qV,ih]
    simp
   ·rw[List.filter_cons_of_neg (by simp;omega),List.filter_cons_of_neg (by simp;omega),ih]
    have hn:i ∉ r:=fun hm=>by have:=h1 i hm;omega
    have hn2:i ∉ a::r:=fun h=>(List.mem_cons.1 h).elim (by omega) hn
    rw[if_neg hn,if_neg hn2]
theorem index_slice {P:Program} {T E:TypeId} {sz:Nat} (hT:P.underlying T=some (.slice E)) (hsz:∀ w,(Go.sizeOf E).run P w=.ok sz w) (b o n cap k:Nat) (hk:k<n) (W:World):(Instr.indexAt T (.slice (some ⟨b,o,none⟩) n cap) (.int .i64 (k:Int))).run P W=.ok (.pointer (some ⟨b,o+k*sz,none⟩)) W:=by
 obtain rfl:=elem_of hT
 rw[run_indexAt_slice (P:=P) W T ⟨b,o,none⟩ n cap .i64 k hT,if_pos (by omega),hsz]
 simp only[Result.andThen,Int.toNat_natCast,Addr.add_mid]
theorem own_item {w:World} {B n c:Nat} {la:Option Addr} {l:List ItemD} {us:List Value} (h:w.ownsRow B 45 10 (.slice la n c) n (rowsIV l us)) (hn:n=l.length) (hus:us.length=l.length) {j:Nat} (hj:j<l.length) :
  ∃ g,(∀ W,(Instr.indexAt 36 (.slice la n c) (.int .i64 (j:Int))).run Tryz.prog W=.ok (.pointer (some ⟨g,j*10,none⟩)) W)∧w.cell? ⟨g,j*10,none⟩=some (.string l[j].key):=by
 subst hn
 rcases h.2 with ⟨_,h1⟩|⟨g,cap,cur,e,hb,hg,_⟩
 ·omega
 ·simp only[qR,true_and] at e
  obtain⟨rfl,rfl⟩:=e
  refine⟨g,fun W=>?_,?_⟩
  ·rw[index_slice (P:=Tryz.prog) Tryz.underlying36 Tryz.szItem g 0 l.length c j hj W,Nat.zero_add]
  ·rw[World.ownsRow.cellAt h (j*10) (by omega)]
   have h1:=rowsIV_get (l:=l) (us:=us) hus hj (by omega)
   have h2:(((rowsIV l us).drop (j*10)).take 10)[0]?=some (.string l[j].key):=by rw[h1];rfl
   rw[List.getElem?_take_of_lt (by omega),List.getElem?_drop,Nat.add_zero] at h2
   exact h2
theorem grown_law (l:List Nat) (v:Value) (w:World) (h:KeysOk w v l) :
  Calls Tryz.prog 3 #[v] w fun e w'=>e=.returned (.bool true)∧Below w.heap.size w w':=by
 obtain⟨hk0,h256⟩:=h
 obtain⟨ao,cap,rfl,hlm,hcl⟩:=hk0
 have HK:Hid (∀ k,k<l.length→∃ a,(∀ W,(Instr.indexAt 22 (.slice ao l.length cap) (.int .i64 (k:Int))).run Tryz.prog W=.ok (.pointer (some a)) W)∧∀ W,Below w.heap.size w W→W.cell? a=some (.int .u8 ((l.getD k 0:Nat):Int))):=hidT (fun k hk=>KeysAt.get ⟨ao,cap,rfl,hlm,hcl⟩ hk)
 have hk0:=hidT (show KeysAt w (.slice ao l.length cap) l from ⟨ao,cap,rfl,hlm,hcl⟩)
 have h256':Hid (∀ y∈l,y<256):=hidT h256
 have hx256:Hid (∀ k,k<l.length→l.getD k 0<256):=hidT (fun k hk=>by
  have:=h256 _ (List.getElem_mem hk)
  simpa[List.getD,hk] using this)
 clear hlm hcl h256
 have hnilT:=neqNilT
 go_enter Tryz.func3,Tryz.ntmps3
 go_wp2_with fail
 refine (known_tree w).mono ?_
 rintro e w0 ⟨rfl,hb0⟩
 replace hb0:=hidT hb0
 by_cases hl:120<l.length
 ·have hd:decide ((120:Int)<(l.length:Int))=true:=by simp;omega
  go_wp2
  go_ret
  exact⟨rfl,hb0.out⟩
 have hd:decide ((120:Int)<(l.length:Int))=false:=by simp;omega
 have hll:=hidT (show l.length≤120 by omega)
 clear hl
 have hkW:Hid (KeysAt w0 (.slice ao l.length cap) l):=hidT (by
  obtain⟨ao',cap',e,h1,h2⟩:=hk0.out
  refine⟨ao',cap',e,h1,fun i hi=>?_⟩
  obtain⟨a,ha,hc⟩:=h2 i hi
  exact⟨a,ha,(hb0.out.cell (qF _ _ hc)).trans hc⟩)
 have C0:=hidT (tree_anyG w0 _ l hkW.out h256'.out hll.out)
 go_wp2_with fail
 refine C0.out.mono ?_
 rintro e w1 ⟨BT,fb,ps,root,uV,uD,uL,rfl,hRt,-,hBT,hF,hb1⟩
 have hsl:(setN l l.length).length≤120:=by have:=setN_length l l.length;have:=hll.out;omega
 obtain⟨L,hLe⟩:∃ L,L=setN l l.length:=⟨_,rfl⟩
 have hmL:Hid (∀ y,y∈L↔y∈l.take l.length):=hidT (by rw[hLe];exact mem_setN l l.length qL)
 have hriL:Hid (Ri L):=hidT (by rw[hLe];exact setN_ri l l.length)
 rw[← hLe] at hRt hsl
 have hLlen:Hid ((setN l l.length).length=L.length):=hidT (by rw[hLe])
 clear hLe
 have hlp:ps.length≤120:=by have:=hRt.fits.2.2;omega
 have hnp:∀ i (h:i<ps.length),NumP ps[i]:=fun i h=>hRt.page hsl h
 have hbT:=hidT (hb0.out.trans (hb1.mono hb0.out.size))
 have hS:=hidT (tree_file hF hnp hlp)
 have hfew:=hidT (fileV_few hnp)
 have CN:=hidT (file_made hS.out (by rw[fileV_len];omega))
 have hV:=hidT (grown_shown hnp hlp (num ps.length))
 have c0:=cell_rowL hF.obj
 have hRt:=hidT hRt
 have hsl:=hidT hsl
 clear C0 hb0 hb1 hF hkW hk0 h256' hBT hnp hlp
 go_wp2_with fail
 refine CN.out.mono ?_
 rintro e w2 ⟨rfl,u2,hf2,hb2⟩
 have CS:=hidT (store_shows hf2 hb2 (num ps.length) hfew.out)
 have hsz:=hidT hbT.out.size
 clear CN c0 hf2 hb2 hS hfew
 go_wp2_with fail
 refine CS.out.mono ?_
 rintro e Y ⟨sb,rfl,hSh,hbY⟩
 have hbW:=hidT (hbT.out.trans (hbY.mono hsz.out))
 replace hSh:=hidT hSh
 obtain⟨V,hVe⟩:∃ V,V=viewOf (fileV ps) (num ps.length):=⟨_,rfl⟩
 have hV':Hid (∀ i p,ps[i]?=some p→V (num i)=(p,0)):=hidT (by rw[hVe];exact hV.out)
 rw[← hVe] at hSh
 clear CS hbT hbY hsz hV hVe hd
 go_upto_region 7 with fail
 refine alloc256 ?_
 rw[show thereA [] 0=thereA l 0 from (there_zero _).trans (there_zero l).symm]
 have hbn:=(qB Y.heap.size Y).alloc qL (.cells (thereA l 0) 35)
 have hA0:=hidT (heap_newL Y (.cells (thereA l 0) 35))
 have hbY1:=hidT hbn
 have hbW1:=hidT (hbW.out.trans (hbn.mono hbW.out.size))
 have hWY:=hidT hbW.out.size
 clear hbn hbW
 generalize Y.alloc (.cells (thereA l 0) 35)=Y1 at *
 obtain⟨tb,htb⟩:∃ tb,Y.heap.size=tb:=⟨_,rfl⟩
 rw[htb] at hA0 hWY ⊢
 simp only[Act.put,qS,qZ,qC]
 go_wp2
 go_loopg [8,9] l.length (fun g v8 v9 wr=>∃ k:Nat,k+g=l.length∧v8=.int .i64 ((setN l k).length:Int)∧v9=.int .i64 (k:Int)∧Hid (wr.heap[tb]?=some (.cells (thereA l k) 35 (0,0)))∧Hid (Below Y.heap.size Y wr)∧Hid (Below w.heap.size w wr))
 case atStart=>exact⟨0,by omega,rfl,rfl,hA0,hbY1,hbW1⟩
 case round=>
  obtain⟨k,hk,rfl,rfl,hA,hbY,hbW⟩:=hrel
  clear hA0 hbY1 hbW1
  have hk120:k≤120:=by have:=hll.out;omega
  cases gk with
  | succ g=>
    have hlk:k<l.length:=by omega
    obtain⟨a,hix,hcell⟩:=HK.out k hlk
    have hc:=hcell wr hbW.out
    have hx:=hx256.out k hlk
    have hst:=hidT (there_set hlk)
    have hnx:Hid ((setN l (k+1)).length=if l.getD k 0∈l.take k then (setN l k).length else (setN l k).length+1):=hidT (by
     have h1:=insN_length (x:=l.getD k 0) (setN_ri l k)
     have h2:=mem_setN l k (by omega) (l.getD k 0)
     simp only[h2] at h1
     exact h1)
    have hlen:=setN_length l k
    clear hcell
    generalize l.getD k 0=x at *
    generalize (setN l k).length=nk at *
    have f7:=frozen_rowL hA.out x
    have hi256:=at256 tb .u8 x hx
    have hA2:=heap_setCell_same wr tb x _ _ (.bool true) hA.out
    rw[hst.out] at hA2
    have hA2:=hidT hA2
    clear hst
    by_cases hin:x∈l.take k
    ·have c7:=(cell_rowL hA.out x).trans (there_get l k hx)
     rw[decide_eq_true hin] at c7
     rw[if_pos hin] at hnx
     clear hin
     go_wp2
     go_roundg g
     case rel=>exact⟨k+1,by omega,by rw[hnx.out],by go_num,hA2,hidT (hbY.out.setCell (by simp[htb]) _),hidT (hbW.out.setCell (by simpa using hWY.out) _)⟩
     case measure=>omega
    ·have c7:=(cell_rowL hA.out x).trans (there_get l k hx)
     rw[decide_eq_false hin] at c7
     rw[if_neg hin] at hnx
     clear hin
     go_wp2
     go_roundg g
     case rel=>exact⟨k+1,by omega,by rw[hnx.out];go_num,by go_num,hA2,hidT (hbY.out.setCell (by simp[htb]) _),hidT (hbW.out.setCell (by simpa using hWY.out) _)⟩
     case measure=>omega
  | zero=>
    obtain rfl:k=l.length:=by omega
    rw[hLlen.out]
    clear HK hx256
    have D1:=hidT (grown_list hSh.out hV'.out hRt.out hsl.out hbY.out)
    go_wp2_with fail
    refine D1.out.mono ?_
    rintro e Y2 ⟨hb2,vl,us,rfl,hus,ho⟩
    obtain⟨la,lc,rfl⟩:=owns_slice ho
    have hus':us.length=(L.map it2).length:=by rw[hus,List.length_map]
    have HI:Hid (∀ i,i∈L→∃ g,(∀ W,(Instr.indexAt 36 (.slice la L.length lc) (.int .i64 (belowN L i:Int))).run Tryz.prog W=.ok (.pointer (some ⟨g,belowN L i*10,none⟩)) W)∧Y2.cell? ⟨g,belowN L i*10,none⟩=some (.string (key2 i))):=hidT (fun i hi=>by
     obtain⟨h1,h2⟩:=belowN_at hriL.out hi
     obtain⟨g,h3,h4⟩:=own_item ho (by simp) hus' (j:=belowN L i) (by simpa using h1)
     refine⟨g,h3,h4.trans ?_⟩
     simp only[List.getElem_map,h2]
     rfl)
    have hY2:=hidT (hbY.out.trans (hb2.mono hbY.out.size))
    have hW2:=hidT (hbW.out.trans (hb2.mono hbW.out.size))
    have hA2:=hidT ((hb2.block _ (F.lt_of_heap hA.out)).trans hA.out)
    clear D1 ho hb2 hbY hbW hA hus hus'
    have D2:=hidT (grown_rightC hSh.out hV'.out hRt.out hsl.out hY2.out)
    go_wp2_with fail
    refine D2.out.mono ?_
    rintro e Y3 ⟨rfl,hb3⟩
    have hb23:=hidT hb3
    have hW3:=hidT (hW2.out.trans (hb3.mono hW2.out.size))
    have hA3:=hidT ((hb3.block _ (F.lt_of_heap hA2.out)).trans hA2.out)
    clear D2 hb3 hY2 hW2 hA2
    go_wp2
    go_loopg [12,13] 256 (fun g v12 v13 wr=>∃ i:Nat,i+g=256∧v12=.int .i64 (belowN L i:Int)∧v13=.int .i64 (i:Int)∧Hid (wr.heap[tb]?=some (.cells (thereA l l.length) 35 (0,0)))∧Hid (Below Y2.heap.size Y2 wr)∧Hid (Below w.heap.size w wr))
    case atStart=>exact⟨0,by omega,by rw[belowN_zero];rfl,rfl,hA3,hb23,hW3⟩
    case round=>
     obtain⟨i,hi,rfl,rfl,hA5,hY5,hW5⟩:=hrel
     clear hA3 hb23 hW3
     cases gk with
     | succ g=>
       have hi256:i<256:=by omega
       have hat:=at256 tb .i64 i hi256
       have hnx:=hidT (belowN_succ hriL.out i)
       have hble:belowN L i≤120:=by
        have h1:belowN L i≤L.length:=List.length_filter_le _ _
        have:=hsl.out
        omega
       by_cases hiL:i∈L
       ·obtain⟨gb,hix,hcell⟩:=HI.out i hiL
        rw[if_pos hiL] at hnx
        have c7:=(cell_rowL hA5.out i).trans (there_get l l.length hi256)
        rw[decide_eq_true ((hmL.out i).1 hiL)] at c7
        have hcx:∀ d os,(grow (redrawn wr d) os).cell? ⟨gb,belowN L i*10,none⟩=some (.string (key2 i)):=fun d os=>by
         have hcw:wr.cell? ⟨gb,belowN L i*10,none⟩=some (.string (key2 i)):=(hY5.out.cell (p:=⟨gb,belowN L i*10,none⟩) (qF _ _ hcell)).trans hcell
         rw[(below_regrown wr d os).cell (p:=⟨gb,belowN L i*10,none⟩) (qF _ _ hcw)]
         exact hcw
        have HKy:Hid (∀ d os,Calls Tryz.prog 12 #[.int .i64 (i:Int)] (grow (redrawn wr d) os) fun e w''=>e=.returned (.string (key2 i))∧∃ p:Regrown,w''=grow (redrawn wr p.d) p.os):=hidT (fun d os=>Calls.regrown_of (key_any i hi256 _))
        clear hcell hiL
        generalize belowN L i=bi at *
        go_upto_region 23 with fail
        refine wp_region_quiet_below (by kernel_rfl) (by kernel_rfl) ?_
        repeat (go_big_quiet_step (exact HKy.out _ _))
        refine wpQuiet_nil ?_
        intro _ hw'
        obtain⟨⟨dq,osq⟩,hw''⟩:=hw'
        subst hw''
        dsimp only
        have hbZ:=below_regrown wr dq osq
        generalize grow (redrawn wr dq) osq=Z at *
        have hAZ:=hidT ((hbZ.block _ (F.lt_of_heap hA5.out)).trans hA5.out)
        have hYZ:=hidT (hY5.out.trans (hbZ.mono hY5.out.size))
        have hWZ:=hidT (hW5.out.trans (hbZ.mono hW5.out.size))
        clear hcx HKy hbZ hA5 hY5 hW5 c7
        go_wp2
        go_roundg g
        case rel=>exact⟨i+1,by omega,by rw[hnx.out];go_num,by go_num,hAZ,hYZ,hWZ⟩
        case measure=>omega
       ·rw[if_neg hiL] at hnx
        have c7:=(cell_rowL hA5.out i).trans (there_get l l.length hi256)
        rw[decide_eq_false (fun h=>hiL ((hmL.out i).2 h))] at c7
        clear hiL
        go_wp2
        go_roundg g
        case rel=>exact⟨i+1,by omega,by rw[hnx.out],by go_num,hA5,hY5,hW5⟩
        case measure=>omega
     | zero=>
       go_wp2
       go_ret
       exact⟨rfl,hW5.out⟩
end
end Go.Proofs.YtbghhklbfnplbaaGreat

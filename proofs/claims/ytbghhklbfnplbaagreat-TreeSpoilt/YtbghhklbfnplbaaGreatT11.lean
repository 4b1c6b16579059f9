import Derived.ProofKit
import Derived.OpenShut
import Derived.ChangeOld
import Derived.Deep.Slices
import Derived.Deep.WholeRow
import Derived.Deep.MidRow
import Derived.Lib.QuietBelow
import Derived.Test.YtbghhklbfnplbaaGreatC00
import Derived.Test.YtbghhklbfnplbaaGreatC03
import Derived.Test.YtbghhklbfnplbaaGreatC14
import Derived.Test.YtbghhklbfnplbaaGreatT10
import Derived.Test.YtbghhklbfnplbaaGreatC27
set_option maxHeartbeats 4000000
set_option maxRecDepth 100000
namespace Go.Proofs.YtbghhklbfnplbaaGreat
section
open Go.RowKit
end
section
open Go.RowKit Go.Sort
theorem okR_page {l:List UInt8} (h:okR l=true):isPB (readV l)=true∧TxnOk (readV l)∧bytesD (readV l)=l:=by
 unfold okR at h
 rw[qW,decide_eq_true_eq] at h
 obtain⟨h1,h2⟩:=h
 refine⟨?_,txnOk_pageV _,h2⟩
 cases hi:isPB (readV l)
 ·have:bytesD (readV l)=[]:=by simp[bytesD,hi]
  rw[this] at h2
  subst h2
  simp at h1
 ·rfl
theorem more_corrupt (p:PageD) (hi:isPB p=true) (ht:TxnOk p) (x:UInt8):okR (bytesD p++[x])=false:=by
 cases h:okR (bytesD p++[x])
 ·rfl
 ·exfalso
  obtain⟨_,_,h3⟩:=okR_page h
  have h4:readV (bytesD p++[x])=p:=page_enc p hi ht [x]
  rw[h4] at h3
  have:=congrArg List.length h3
  simp at this
end
section
open Go.ChangeShapes Go.WideShapes Go.ChangeAt Go.RowKit Go.Deep
def KeysOk (w:World) (v:Value) (l:List Nat):Prop:=KeysAt w v l∧∀ y∈l,y<256
section
variable {H:Type} {enc:TypeId × Value→H} {w:World} {base:Nat} {spare:Nat→Bool} {held:Bool}
def byteIn:Value→Int|.int _ n=>n|_=>0
theorem cellsU8:Tryz.prog.cellsOf 5=1:=by kernel_rfl
theorem open_keys {n:Nat} {v:Value} {y:DataW H × List MemPlace} (h:DataW.trod enc Tryz.prog w base spare held n 22 [v]=some y):∃ l,KeysOk w v l:=by
 rcases open_slice1 Tryz.underlying22 cellsU8 h with ⟨hcs,_⟩|⟨x,l,c,m,n,V,D,Pl,hcs,_,hl,hm,hmm,_,hcell⟩
 ·simp only[List.cons.injEq,and_true] at hcs
  subst hcs
  exact⟨[],⟨none,0,rfl,by simp[maxLen],fun i hi=>absurd hi (by simp)⟩,by simp⟩
 ·simp only[List.cons.injEq,and_true] at hcs
  subst hcs
  have key:∀ i,i<l→w.cell? (x.add i)=some (.int .u8 (byteIn (V i)))∧0≤byteIn (V i)∧byteIn (V i)≤255:=fun i hi'=>by
   have hm':i<m:=by rw[hmm];split<;>omega
   obtain⟨hc,ht⟩:=hcell i hm'
   obtain⟨y,hy,_,hwf⟩:=DataW.trod_int Tryz.underlying5 ht
   simp only[List.cons.injEq,and_true] at hy
   have hb:=bounds_u8 hwf
   rw[hc,hy]
   exact⟨rfl,hb.1,by have:=hb.2;simp only[byteIn];omega⟩
  refine⟨(List.range l).map fun i=>(byteIn (V i)).toNat,⟨some x,c,by simp,by simp;omega,fun i hi=>⟨x,rfl,?_⟩⟩,fun y hy=>?_⟩
  ·have hi':i<l:=by simpa using hi
   obtain⟨k1,k2,_⟩:=key i hi'
   simp only[List.getElem_map,List.getElem_range]
   rw[k1,Int.toNat_of_nonneg k2]
  ·obtain⟨i,hi,rfl⟩:=List.mem_map.1 hy
   have:=key i (List.mem_range.1 hi)
   omega
end
end
section
open Go.RowKit
def overP:PageD:={ noPage with kind:=3,text:=⟨#[116]⟩ }
theorem overP_ok:isPB overP=true:=by kernel_rfl
theorem overP_txn:TxnOk overP:=⟨⟨by decide,by decide⟩,fun f hf=>by cases hf⟩
theorem overP_shown:okR (bs (bytesD overP)).data.toList=false∨((readD (bs (bytesD overP)).data.toList).kind≠1∧(readD (bs (bytesD overP)).data.toList).kind≠2):=by
 have h:=page_shown overP_ok overP_txn
 refine .inr ?_
 rw[show readD (bs (bytesD overP)).data.toList=overP from congrArg Prod.fst h]
 decide
theorem bytesD_less (p:PageD) (ht:TxnOk p):(bs (bytesD p)).size≤99999999999:=by
 rw[bs_size]
 unfold bytesD
 split
 ·rename_i hi
  have:=partD_le p (partOk_of_is hi ht)
  simp only[qO,lowB_length,bodyD,numB_length]
  omega
 ·simp
theorem more_shown {p:PageD} (hi:isPB p=true) (ht:TxnOk p):okR (bs (bytesD p)++⟨#[120]⟩:ByteArray).data.toList=false:=by
 have e:(bs (bytesD p)++⟨#[120]⟩:ByteArray).data.toList=bytesD p++[120]:=by simp[bs]
 rw[e]
 exact more_corrupt p hi ht 120
theorem empty_shown:okR (ByteArray.mk #[]).data.toList=false:=okR_nil
theorem own_set {w:World} {B g n cap:Nat} {l:List ByteArray} (h:w.ownsRow B 9 1 (.slice (some ⟨g,0,none⟩) n cap) n (F.strC l)) (hn:n=l.length) (i:Nat) (t:ByteArray):F.OwnStrs (w.setCell ⟨g,i,none⟩ (.string t)) B (.slice (some ⟨g,0,none⟩) n cap) (l.set i t):=by
 subst hn
 have:=(World.ownsRow.stored h i (.string t)).1
 unfold F.OwnStrs
 rw[List.length_set]
 have e:F.strC (l.set i t)=(F.strC l).set i (.string t):=by simp[F.strC,List.map_set]
 rw[e]
 exact this
theorem index2 (g k n c:Nat) (h:k<n) (W:World):(Instr.indexAt 31 (.slice (some ⟨g,0,none⟩) n c) (.int .i64 (k:Int))).run Tryz.prog W=.ok (.pointer (some ⟨g,k,none⟩)) W:=by
 rw[F.index_at F.Tryz.elemStrs F.Tryz.sizeStrs n c k rfl h W,Addr.add_mid,Nat.zero_add]
theorem index2' (g k n c:Nat) (h:k+2<n) (W:World):(Instr.indexAt 31 (.slice (some ⟨g,0,none⟩) n c) (.int .i64 (2+(k:Int)))).run Tryz.prog W=.ok (.pointer (some ⟨g,k+2,none⟩)) W:=by
 rw[show (2:Int)+(k:Int)=((k+2:Nat):Int) by omega]
 exact index2 g (k+2) n c h W
theorem own_addr {w:World} {B:Nat} {v:Value} {l:List ByteArray} (h:F.OwnStrs w B v l) (h0:0<l.length):∃ g c,v=.slice (some ⟨g,0,none⟩) l.length c∧B≤g∧g<w.heap.size:=by
 rcases h.2 with ⟨_,h1⟩|⟨g,c,cur,rfl,hb,hg,_⟩
 ·omega
 ·exact⟨g,c,rfl,hb,(qA hg)⟩
theorem copy_texts {w:World} {B cap n:Nat} {ao:Option Addr} {l:List ByteArray} (h:F.OwnStrs w B (.slice ao n cap) l) (hn:n=l.length) (h0:0<n) (hl:n≤1000) (ty:TypeId) :
  ∃ v' w',(Builtin.append_ #[31,31] ty #[.slice none 0 0,.slice ao n cap]).run Tryz.prog w=.ok v' w'∧∃ g c,v'=.slice (some ⟨g,0,none⟩) n c∧w.heap.size≤g∧w'.ownsRow w.heap.size 9 1 (.slice (some ⟨g,0,none⟩) n c) n (F.strC l)∧Below w.heap.size w w':=by
 obtain⟨s1,s2,s3⟩:=F.OwnStrs.src h hn
 subst hn
 obtain⟨v',w',h1,h2,h3⟩:=F.app_strs (w:=w) (B:=w.heap.size) (.slice none 0 0) [] (F.OwnStrs.nil _ _) ty ao cap l (s3 w (qB _ _)) s2 qL (by simp;omega)
 rw[List.nil_append] at h2
 obtain⟨g,c,rfl,hg,_⟩:=own_addr h2 h0
 exact⟨_,w',h1,g,c,rfl,hg,h2,F.grown_none_below h3⟩
theorem over_bytes (W:World):Calls Tryz.prog 15 #[.agg #[.int .i64 3,.slice none 0 0,.slice none 0 0,.slice none 0 0,.string ⟨#[116]⟩,.slice none 0 0,.slice none 0 0,.int .i64 0,.int .u64 0,.int .i64 0,.int .i64 0,.int .i64 0,.int .i64 0,.int .i64 0]] W fun e w'=>e=.returned (.string (bs (bytesD overP)))∧Below W.heap.size W w':=by
 have:=rbytes_any overP (.slice none 0 0) (.slice none 0 0) (.slice none 0 0) (.slice none 0 0) (.slice none 0 0) W ⟨items_nil _,strs_nil _,ints_nil _,by decide,strs_nil _,frees_nil _⟩ (by decide) overP_txn
 exact this
theorem own_on {w w':World} {B n sz:Nat} {E:TypeId} {v:Value} {xs:List Value} (h:w.ownsRow B E sz v n xs) (hb:Below w.heap.size w w'):w'.ownsRow B E sz v n xs:=
 owns_move h fun g _ _ _ _ h2=>hb.block g (qA h2)
theorem spoilt_law (l:List Nat) (v:Value) (at' how:Nat) (h1:at'<256) (h2:how<256) (w:World) (h:KeysOk w v l) :
  Calls Tryz.prog 5 #[v,.int .u8 (at':Int),.int .u8 (how:Int)] w fun e w'=>e=.returned (.bool true)∧Below w.heap.size w w':=by
 obtain⟨hk0,h256⟩:=h
 obtain⟨ao,cap,rfl,hlm,hcl⟩:=hk0
 have hk0:=hidT (show KeysAt w (.slice ao l.length cap) l from ⟨ao,cap,rfl,hlm,hcl⟩)
 replace h256:=hidT h256
 clear hlm hcl
 have hnilE:=neqErrT
 have hnilT:=neqNilT
 go_enter Tryz.func5,Tryz.ntmps5
 go_wp2_with fail
 refine (known_tree w).mono ?_
 rintro e w0 ⟨rfl,hb0⟩
 replace hb0:=hidT hb0
 by_cases hl6:l.length<6
 ·have hd:decide ((l.length:Int)<6)=true:=by simp;omega
  go_wp2
  go_ret
  exact⟨rfl,hb0.out⟩
 have hd:decide ((l.length:Int)<6)=false:=by simp;omega
 by_cases hl80:80<l.length
 ·have hd2:decide ((80:Int)<(l.length:Int))=true:=by simp;omega
  go_wp2
  go_ret
  exact⟨rfl,hb0.out⟩
 have hd2:decide ((80:Int)<(l.length:Int))=false:=by simp;omega
 have hll:=hidT (show l.length≤120 by omega)
 clear hl6 hl80
 have hkW:Hid (KeysAt w0 (.slice ao l.length cap) l):=hidT (by
  obtain⟨ao',cap',e,h1,h2⟩:=hk0.out
  refine⟨ao',cap',e,h1,fun i hi=>?_⟩
  obtain⟨a,ha,hc⟩:=h2 i hi
  exact⟨a,ha,(hb0.out.cell (qF _ _ hc)).trans hc⟩)
 have C0:=hidT (tree_anyG w0 _ l hkW.out h256.out hll.out)
 go_wp2_with fail
 refine C0.out.mono ?_
 rintro e w1 ⟨BT,fb,ps,root,uV,uD,uL,rfl,hRt,-,hBT,hF,hb1⟩
 have hsl:(setN l l.length).length≤120:=by have:=setN_length l l.length;have:=hll.out;omega
 generalize setN l l.length=L at *
 have hlp:ps.length≤120:=by have:=hRt.fits.2.2;omega
 have hnp:∀ i (h:i<ps.length),NumP ps[i]:=fun i h=>hRt.page hsl h
 have hbT:=hidT (hb0.out.trans (hb1.mono hb0.out.size))
 have hF:=hidT hF
 have hRt:=hidT hRt
 have hnp:=hidT hnp
 have hnm:num ps.length=(ps.length:Int)+2:=rfl
 clear C0 hb0 hb1 hkW hk0 h256 hd hd2 hll hBT
 by_cases h3:ps.length<3
 ·have hd:decide (num ps.length<5)=true:=by rw[hnm];simp;omega
  clear hnm
  go_wp2
  go_ret
  exact⟨rfl,hbT.out⟩
 have hd:decide (num ps.length<5)=false:=by rw[hnm];simp;omega
 have c0:=cell_rowL hF.out.obj
 obtain⟨va,vc,hve⟩:=hF.out.rowV.slice
 rw[fileV_len] at hve
 have hFr:=hF.out.rowV
 rw[hve] at hFr c0
 have HA:=hidT (fun ty=>copy_texts hFr (by rw[fileV_len]) (by omega) (by omega) ty)
 clear hFr hnm
 obtain⟨kk,hkk⟩:∃ kk,kk=at' % ps.length:=⟨_,rfl⟩
 have hkl:kk<ps.length:=by rw[hkk];exact Nat.mod_lt _ (by omega)
 have hw1:wrap64 (num ps.length - 2)=(ps.length:Int):=by unfold wrap64 num;omega
 have hw2:(at':Int) % (ps.length:Int)=(kk:Int):=by rw[hkk];omega
 have hw3:wrap64 (2+(kk:Int))=2+(kk:Int):=by unfold wrap64;omega
 have hz:((ps.length:Int)==0)=false:=beq_eq_false_iff_ne.2 (by omega)
 have hcase:(how:Int) % 3=0∨(how:Int) % 3=1∨(how:Int) % 3=2:=by omega
 obtain⟨xk,hxk⟩:∃ x,x=bs (bytesD ps[kk]):=⟨_,rfl⟩
 have hcell:(F.strC (fileV ps))[kk+2]?=some (.string xk):=by
  have h1:=fileV_get hkl
  rw[← hxk] at h1
  have h3:kk+2<(fileV ps).length:=by rw[fileV_len];omega
  simp only[List.getD,List.getElem?_eq_getElem h3,Option.getD_some] at h1
  simp only[F.strC,List.getElem?_map,List.getElem?_eq_getElem h3,Option.map_some,h1]
 have hbad0:Hid (okR (xk++⟨#[120]⟩:ByteArray).data.toList=false):=hidT (by rw[hxk];exact more_shown (hnp.out kk hkl).2 (hnp.out kk hkl).txn)
 have hxs:xk.size≤99999999999:=by rw[hxk];exact bytesD_less _ (hnp.out kk hkl).txn
 clear hxk hkk
 have hkl:=hidT hkl
 have hcell:=hidT hcell
 rcases hcase with hm|hm|hm
 ·go_wp2_with (first|(at_builtin;refine wpList_append_two rfl (.const (.slice none 0 0)) (.tmp 38) 31 rfl _ _ rfl rfl (HA.out _) ?_;rintro v2 W2 ⟨g2,c2,rfl,hg2,ho2,hb2⟩;have cx:W2.cell? ⟨g2,kk+2,none⟩=some (.string xk):=(World.ownsRow.cellAt ho2 (kk+2) (by have:=hkl.out;omega)).trans hcell.out;have fx:W2.frozen? ⟨g2,kk+2,none⟩=false:=World.ownsRow.frozenAt ho2 (kk+2);have hix:=index2' g2 kk (ps.length+2) c2 (by have:=hkl.out;omega);replace ho2:=hidT ho2;replace hb2:=hidT hb2;replace hg2:=hidT hg2)|fail)
  have ht:(xk++⟨#[120]⟩:ByteArray).size≤100000000000:=by rw[ByteArray.size_append];have h1:(ByteArray.mk #[120]).size=1:=rfl;omega
  have hbad:okR (xk++⟨#[120]⟩:ByteArray).data.toList=false∨((readD (xk++⟨#[120]⟩:ByteArray).data.toList).kind≠1∧(readD (xk++⟨#[120]⟩:ByteArray).data.toList).kind≠2):=.inl hbad0.out
  have ho3:=ho2.out
  obtain⟨W3,hW3⟩:∃ W3,W3=W2.setCell ⟨g2,kk+2,none⟩ (.string (xk++⟨#[120]⟩:ByteArray)):=⟨_,rfl⟩
  rw[← hW3]
  have hS3:=own_set ho3 (by rw[fileV_len]) (kk+2) (xk++⟨#[120]⟩:ByteArray)
  rw[← hW3] at hS3
  have hb3:Below w.heap.size w W3:=by rw[hW3];exact (hbT.out.trans (hb2.out.mono hbT.out.size)).setCell (by have:=hg2.out;have:=hbT.out.size;simp only;omega) _
  clear hW3
  have hfew3:∀ x∈(fileV ps).set (kk+2) (xk++⟨#[120]⟩:ByteArray),x.size≤100000000000:=fun x hx=>by
   rcases List.mem_or_eq_of_mem_set hx with h|rfl
   ·exact fileV_few hnp.out x h
   ·exact ht
  have hlen3:((fileV ps).set (kk+2) (xk++⟨#[120]⟩:ByteArray)).length=ps.length+2:=by rw[List.length_set,fileV_len]
  have hSA:=F.OwnStrs.at hS3 (fun x hx=>by have:=hfew3 x hx;unfold maxLen;omega) (by rw[hlen3];unfold maxLen;omega)
  have CN:=hidT (file_made hSA (by rw[hlen3];omega))
  have hWr:Hid (Wrong (viewOf ((fileV ps).set (kk+2) (xk++⟨#[120]⟩:ByteArray)) (num ps.length)) root):=hidT (spoilt_wrong hRt.out hsl hkl.out (spoilt_shown hnp.out hlp (num ps.length) hkl.out hbad))
  replace hfew3:=hidT hfew3
  replace hb3:=hidT hb3
  clear hS3 hSA hbad ht hlen3 cx fx hix
  generalize (fileV ps).set (kk+2) (xk++⟨#[120]⟩:ByteArray)=fv at *
  go_wp2_with fail
  refine CN.out.mono ?_
  rintro e w4 ⟨rfl,u4,hf4,hb4⟩
  have CS:=hidT (store_shows hf4 hb4 (num ps.length) hfew3.out)
  clear CN hf4 hb4
  go_wp2_with fail
  refine CS.out.mono ?_
  rintro e Y ⟨sb,rfl,hSh,hbY⟩
  have hY0:=hidT (hb3.out.trans (hbY.mono hb3.out.size))
  replace hSh:=hidT hSh
  clear CS hbY hb3
  have D1:=hidT (wrong_list hSh.out hWr.out (qB _ Y))
  go_wp2_with fail
  refine D1.out.mono ?_
  rintro e Y1 ⟨hb1,x1,-,-,rfl⟩
  have hY1:=hidT hb1
  clear D1 hb1
  have D2:=hidT (wrong_pages hSh.out hWr.out hY1.out)
  go_wp2_with fail
  refine D2.out.mono ?_
  rintro e Y2 ⟨hb2,x2,-,-,rfl⟩
  have hY2:=hidT (hY1.out.trans (hb2.mono hY1.out.size))
  clear D2 hb2 hY1
  have D3:=hidT (wrong_right hSh.out hWr.out hY2.out)
  go_wp2_with fail
  refine D3.out.mono ?_
  rintro e Y3 ⟨rfl,hb3⟩
  have hY3:=hidT (hY2.out.trans (hb3.mono hY2.out.size))
  clear D3 hb3 hY2
  go_wp2_with fail
  go_ret
  exact⟨rfl,hY0.out.trans (hY3.out.mono hY0.out.size)⟩
 ·go_wp2_with (first|(at_builtin;refine wpList_append_two rfl (.const (.slice none 0 0)) (.tmp 38) 31 rfl _ _ rfl rfl (HA.out _) ?_;rintro v2 W2 ⟨g2,c2,rfl,hg2,ho2,hb2⟩;have cx:W2.cell? ⟨g2,kk+2,none⟩=some (.string xk):=(World.ownsRow.cellAt ho2 (kk+2) (by have:=hkl.out;omega)).trans hcell.out;have fx:W2.frozen? ⟨g2,kk+2,none⟩=false:=World.ownsRow.frozenAt ho2 (kk+2);have hix:=index2' g2 kk (ps.length+2) c2 (by have:=hkl.out;omega);replace ho2:=hidT ho2;replace hb2:=hidT hb2;replace hg2:=hidT hg2)|fail)
  have ht:(⟨#[]⟩:ByteArray).size≤100000000000:=by show (0:Nat)≤_;omega
  have hbad:okR (⟨#[]⟩:ByteArray).data.toList=false∨((readD (⟨#[]⟩:ByteArray).data.toList).kind≠1∧(readD (⟨#[]⟩:ByteArray).data.toList).kind≠2):=.inl empty_shown
  have ho3:=ho2.out
  obtain⟨W3,hW3⟩:∃ W3,W3=W2.setCell ⟨g2,kk+2,none⟩ (.string (⟨#[]⟩:ByteArray)):=⟨_,rfl⟩
  rw[← hW3]
  have hS3:=own_set ho3 (by rw[fileV_len]) (kk+2) (⟨#[]⟩:ByteArray)
  rw[← hW3] at hS3
  have hb3:Below w.heap.size w W3:=by rw[hW3];exact (hbT.out.trans (hb2.out.mono hbT.out.size)).setCell (by have:=hg2.out;have:=hbT.out.size;simp only;omega) _
  clear hW3
  have hfew3:∀ x∈(fileV ps).set (kk+2) (⟨#[]⟩:ByteArray),x.size≤100000000000:=fun x hx=>by
   rcases List.mem_or_eq_of_mem_set hx with h|rfl
   ·exact fileV_few hnp.out x h
   ·exact ht
  have hlen3:((fileV ps).set (kk+2) (⟨#[]⟩:ByteArray)).length=ps.length+2:=by rw[List.length_set,fileV_len]
  have hSA:=F.OwnStrs.at hS3 (fun x hx=>by have:=hfew3 x hx;unfold maxLen;omega) (by rw[hlen3];unfold maxLen;omega)
  have CN:=hidT (file_made hSA (by rw[hlen3];omega))
  have hWr:Hid (Wrong (viewOf ((fileV ps).set (kk+2) (⟨#[]⟩:ByteArray)) (num ps.length)) root):=hidT (spoilt_wrong hRt.out hsl hkl.out (spoilt_shown hnp.out hlp (num ps.length) hkl.out hbad))
  replace hfew3:=hidT hfew3
  replace hb3:=hidT hb3
  clear hS3 hSA hbad ht hlen3 cx fx hix
  generalize (fileV ps).set (kk+2) (⟨#[]⟩:ByteArray)=fv at *
  go_wp2_with fail
  refine CN.out.mono ?_
  rintro e w4 ⟨rfl,u4,hf4,hb4⟩
  have CS:=hidT (store_shows hf4 hb4 (num ps.length) hfew3.out)
  clear CN hf4 hb4
  go_wp2_with fail
  refine CS.out.mono ?_
  rintro e Y ⟨sb,rfl,hSh,hbY⟩
  have hY0:=hidT (hb3.out.trans (hbY.mono hb3.out.size))
  replace hSh:=hidT hSh
  clear CS hbY hb3
  have D1:=hidT (wrong_list hSh.out hWr.out (qB _ Y))
  go_wp2_with fail
  refine D1.out.mono ?_
  rintro e Y1 ⟨hb1,x1,-,-,rfl⟩
  have hY1:=hidT hb1
  clear D1 hb1
  have D2:=hidT (wrong_pages hSh.out hWr.out hY1.out)
  go_wp2_with fail
  refine D2.out.mono ?_
  rintro e Y2 ⟨hb2,x2,-,-,rfl⟩
  have hY2:=hidT (hY1.out.trans (hb2.mono hY1.out.size))
  clear D2 hb2 hY1
  have D3:=hidT (wrong_right hSh.out hWr.out hY2.out)
  go_wp2_with fail
  refine D3.out.mono ?_
  rintro e Y3 ⟨rfl,hb3⟩
  have hY3:=hidT (hY2.out.trans (hb3.mono hY2.out.size))
  clear D3 hb3 hY2
  go_wp2_with fail
  go_ret
  exact⟨rfl,hY0.out.trans (hY3.out.mono hY0.out.size)⟩
 ·go_wp2_with (first|(at_builtin;refine wpList_append_two rfl (.const (.slice none 0 0)) (.tmp 38) 31 rfl _ _ rfl rfl (HA.out _) ?_;rintro v2 W2 ⟨g2,c2,rfl,hg2,ho2,hb2⟩;have cx:W2.cell? ⟨g2,kk+2,none⟩=some (.string xk):=(World.ownsRow.cellAt ho2 (kk+2) (by have:=hkl.out;omega)).trans hcell.out;have fx:W2.frozen? ⟨g2,kk+2,none⟩=false:=World.ownsRow.frozenAt ho2 (kk+2);have hix:=index2' g2 kk (ps.length+2) c2 (by have:=hkl.out;omega);replace ho2:=hidT ho2;replace hb2:=hidT hb2;replace hg2:=hidT hg2)|fail)
  refine (over_bytes W2).mono ?_
  rintro e W5 ⟨rfl,hb5⟩
  obtain⟨tx,htx⟩:∃ t,t=bs (bytesD overP):=⟨_,rfl⟩
  rw[← htx]
  have ht:tx.size≤100000000000:=by rw[htx];exact bytesD_small _ overP_txn
  have hbad:okR tx.data.toList=false∨((readD tx.data.toList).kind≠1∧(readD tx.data.toList).kind≠2):=by rw[htx];exact overP_shown
  clear htx
  have ho3:=own_on ho2.out hb5
  replace hb5:=hidT hb5
  clear cx fx
  have cx:W5.cell? ⟨g2,kk+2,none⟩=some (.string xk):=(World.ownsRow.cellAt ho3 (kk+2) (by have:=hkl.out;omega)).trans hcell.out
  have fx:W5.frozen? ⟨g2,kk+2,none⟩=false:=World.ownsRow.frozenAt ho3 (kk+2)
  go_wp2_with fail
  obtain⟨W3,hW3⟩:∃ W3,W3=W5.setCell ⟨g2,kk+2,none⟩ (.string tx):=⟨_,rfl⟩
  rw[← hW3]
  have hS3:=own_set ho3 (by rw[fileV_len]) (kk+2) tx
  rw[← hW3] at hS3
  have hb3:Below w.heap.size w W3:=by rw[hW3];exact ((hbT.out.trans (hb2.out.mono hbT.out.size)).trans (hb5.out.mono (by have:=hbT.out.size;have:=hb2.out.size;omega))).setCell (by have:=hg2.out;have:=hbT.out.size;simp only;omega) _
  clear hW3
  have hfew3:∀ x∈(fileV ps).set (kk+2) tx,x.size≤100000000000:=fun x hx=>by
   rcases List.mem_or_eq_of_mem_set hx with h|rfl
   ·exact fileV_few hnp.out x h
   ·exact ht
  have hlen3:((fileV ps).set (kk+2) tx).length=ps.length+2:=by rw[List.length_set,fileV_len]
  have hSA:=F.OwnStrs.at hS3 (fun x hx=>by have:=hfew3 x hx;unfold maxLen;omega) (by rw[hlen3];unfold maxLen;omega)
  have CN:=hidT (file_made hSA (by rw[hlen3];omega))
  have hWr:Hid (Wrong (viewOf ((fileV ps).set (kk+2) tx) (num ps.length)) root):=hidT (spoilt_wrong hRt.out hsl hkl.out (spoilt_shown hnp.out hlp (num ps.length) hkl.out hbad))
  replace hfew3:=hidT hfew3
  replace hb3:=hidT hb3
  clear hS3 hSA hbad ht hlen3 cx fx hix
  generalize (fileV ps).set (kk+2) tx=fv at *
  go_wp2_with fail
  refine CN.out.mono ?_
  rintro e w4 ⟨rfl,u4,hf4,hb4⟩
  have CS:=hidT (store_shows hf4 hb4 (num ps.length) hfew3.out)
  clear CN hf4 hb4
  go_wp2_with fail
  refine CS.out.mono ?_
  rintro e Y ⟨sb,rfl,hSh,hbY⟩
  have hY0:=hidT (hb3.out.trans (hbY.mono hb3.out.size))
  replace hSh:=hidT hSh
  clear CS hbY hb3
  have D1:=hidT (wrong_list hSh.out hWr.out (qB _ Y))
  go_wp2_with fail
  refine D1.out.mono ?_
  rintro e Y1 ⟨hb1,x1,-,-,rfl⟩
  have hY1:=hidT hb1
  clear D1 hb1
  have D2:=hidT (wrong_pages hSh.out hWr.out hY1.out)
  go_wp2_with fail
  refine D2.out.mono ?_
  rintro e Y2 ⟨hb2,x2,-,-,rfl⟩
  have hY2:=hidT (hY1.out.trans (hb2.mono hY1.out.size))
  clear D2 hb2 hY1
  have D3:=hidT (wrong_right hSh.out hWr.out hY2.out)
  go_wp2_with fail
  refine D3.out.mono ?_
  rintro e Y3 ⟨rfl,hb3⟩
  have hY3:=hidT (hY2.out.trans (hb3.mono hY2.out.size))
  clear D3 hb3 hY2
  go_wp2_with fail
  go_ret
  exact⟨rfl,hY0.out.trans (hY3.out.mono hY0.out.size)⟩
theorem spoilt_lawI (l:List Nat) (a b:Int) (v:Value) (w:World) (h:KeysOk w v l) (ha0:0≤a) (ha1:a≤255) (hb0:0≤b) (hb1:b≤255) :
  Calls Tryz.prog 5 #[v,.int .u8 a,.int .u8 b] w fun e w'=>e=.returned (.bool true)∧Below w.heap.size w w':=by
 obtain⟨A,rfl⟩:∃ K:Nat,a=(K:Int):=⟨a.toNat,by omega⟩
 obtain⟨B,rfl⟩:∃ K:Nat,b=(K:Int):=⟨b.toNat,by omega⟩
 exact spoilt_law l v A B (by omega) (by omega) w h
end
end Go.Proofs.YtbghhklbfnplbaaGreat

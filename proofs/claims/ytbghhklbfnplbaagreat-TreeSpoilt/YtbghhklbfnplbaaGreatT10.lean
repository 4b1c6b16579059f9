import Derived.Test.YtbghhklbfnplbaaGreatC00
import Derived.Test.YtbghhklbfnplbaaGreatT02
import Derived.Test.YtbghhklbfnplbaaGreatT06
import Derived.Test.YtbghhklbfnplbaaGreatT07
import Derived.Test.YtbghhklbfnplbaaGreatT09
set_option maxHeartbeats 4000000
set_option maxRecDepth 100000
namespace Go.Proofs.YtbghhklbfnplbaaGreat
section
open Go.RowKit
def Shows (X:World) (sb:Nat) (V:View):Prop:=∃ w0 mb fb s Lf,Sf w0 X sb mb fb s Lf∧ShOk Lf∧V=readS s Lf
theorem Shows.below {X W:World} {sb:Nat} {V:View} (h:Shows X sb V) (hb:Below X.heap.size X W):Shows W sb V:=by
 obtain⟨w0,mb,fb,s,Lf,S,hL,e⟩:=h
 exact⟨w0,mb,fb,s,Lf,S.below hb,hL,e⟩
theorem tree_in {ps:List PageD} {id lo hi:Nat} {top:Bool} {L I:List Nat}:∀ {d:Nat},TreeAt ps d id lo hi top L I→id∈I
 | 0,h=>by
   obtain⟨_,rfl,_⟩:=h
   simp
 | d+1,h=>by
   obtain⟨_,_,I',_,rfl,_⟩:=h
   simp
theorem RootAt.inI {ps:List PageD} {root:Int} {L:List Nat} (h:RootAt ps root L) (hl:ps.length≤120):InI root:=by
 rcases h with ⟨rfl,_,_⟩|⟨d,id,I,rfl,hT,hp⟩
 ·exact⟨by omega,by omega⟩
 ·have hid:id<ps.length:=by
   have h1:id∈I:=tree_in hT
   have:=hp.mem_iff.1 h1
   simpa using this
  unfold InI num
  omega
section
variable {X W:World} {sb:Nat} {V:View} {ps:List PageD} {root:Int} {L:List Nat}
theorem grown_list (h:Shows X sb V) (hV:∀ i p,ps[i]?=some p→V (num i)=(p,0)) (hR:RootAt ps root L) (hl:L.length≤120) (hW:Below X.heap.size X W) :
  Calls Tryz.prog 10 #[.pointer (some ⟨sb,0,none⟩),.int .i64 root] W fun e Y=>Below W.heap.size W Y∧∃ v us,e=.returned (.tuple #[v,.nilIface])∧us.length=L.length∧Y.ownsRow (W.heap.size+5) 45 10 v L.length (rowsIV (L.map it2) us):=by
 obtain⟨w0,mb,fb,s,Lf,S,hL,rfl⟩:=h.below hW
 obtain⟨g1,⟨floor,hg⟩,g3,g4⟩:=grown_spots hR hl hV
 have e:itemsOf (spotsD (readS s Lf) root)=L.map it2:=g3
 have hps:=hR.fits.2.2
 refine (list_any S hL root (hR.inI (by omega)) (by rw[e,List.length_map];omega)).mono ?_
 rintro e' Y ⟨hb,h|⟨x,hx,hne,_⟩⟩
 ·obtain⟨v,us,rfl,_,hu,ho⟩:=h
  rw[e,List.length_map] at hu ho
  exact⟨hb,v,us,rfl,hu,ho⟩
 ·exact absurd (hg x hx).err hne
theorem perm_len {l:List Int} {ps:List PageD} (h:l.Perm ((List.range ps.length).map num)):(sortL l).length=ps.length:=by
 obtain⟨h1,h2⟩:=sortL_is l
 have hn:(sortL l).Nodup:=h1.imp (fun h=>by omega)
 have hm:((List.range ps.length).map num).Nodup:=(List.nodup_range (n:=ps.length)).map num (fun a b (hne:a≠b) h=>hne (num_inj h))
 have hp:(sortL l).Perm ((List.range ps.length).map num):=(List.perm_ext_iff_of_nodup hn hm).2 fun x=>(h2 x).trans h.mem_iff
 simpa using hp.length_eq
theorem grown_vals (hV:∀ i p,ps[i]?=some p→V (num i)=(p,0)) (hR:RootAt ps root L) (hl:L.length≤120):∀ x∈spotsD V root,∀ it∈x.page.items,it.kind=1:=by
 obtain⟨_,⟨floor,hg⟩,_,_⟩:=grown_spots hR hl hV
 exact fun x hx=>(hg x hx).vals
theorem grown_pages (h:Shows X sb V) (hV:∀ i p,ps[i]?=some p→V (num i)=(p,0)) (hR:RootAt ps root L) (hl:L.length≤120) (hW:Below X.heap.size X W) :
  Calls Tryz.prog 14 #[.pointer (some ⟨sb,0,none⟩),.int .i64 root] W fun e Y=>Below W.heap.size W Y∧∃ ao cap,e=.returned (.tuple #[.slice ao ps.length cap,.nilIface]):=by
 have hvals:=grown_vals hV hR hl
 obtain⟨w0,mb,fb,s,Lf,S,hL,rfl⟩:=h.below hW
 obtain⟨g1,⟨floor,hg⟩,g3,g4⟩:=grown_spots hR hl hV
 have hps:=hR.fits.2.2
 refine (pages_any S hL root (hR.inI (by omega)) (by rw[g1];omega) hvals).mono ?_
 rintro e' Y ⟨hb,⟨ao,cap,rfl,_⟩|⟨x,hx,hne,_⟩⟩
 ·have e:(sortL (idsOf (spotsD (readS s Lf) root))).length=ps.length:=perm_len g4
  rw[e]
  exact⟨hb,ao,cap,rfl⟩
 ·exact absurd (hg x hx).err hne
theorem grown_rightC (h:Shows X sb V) (hV:∀ i p,ps[i]?=some p→V (num i)=(p,0)) (hR:RootAt ps root L) (hl:L.length≤120) (hW:Below X.heap.size X W) :
  Calls Tryz.prog 11 #[.pointer (some ⟨sb,0,none⟩),.int .i64 root] W fun e Y=>e=.returned (.bool true)∧Below W.heap.size W Y:=by
 have hvals:=grown_vals hV hR hl
 obtain⟨w0,mb,fb,s,Lf,S,hL,rfl⟩:=h.below hW
 obtain⟨g1,_⟩:=grown_spots hR hl hV
 have hps:=hR.fits.2.2
 have e:=grown_right hR hl hV
 have:=rightT_any S hL root (hR.inI (by omega)) (by rw[g1];omega) hvals
 rw[e] at this
 exact this
theorem grown_shapeC (h:Shows X sb V) (hV:∀ i p,ps[i]?=some p→V (num i)=(p,0)) (hR:RootAt ps root L) (hl:L.length≤120) (h0:root≠0) (hW:Below X.heap.size X W) :
  Calls Tryz.prog 13 #[.pointer (some ⟨sb,0,none⟩),.int .i64 root] W fun e Y=>e=.returned (.tuple #[.string ⟨(shapeFrom 0 (spotsD V root)).toArray⟩,.nilIface])∧Below W.heap.size W Y:=by
 obtain⟨w0,mb,fb,s,Lf,S,hL,rfl⟩:=h.below hW
 obtain⟨g1,⟨floor,hg⟩,_⟩:=grown_spots hR hl hV
 obtain⟨s1,s2⟩:=grown_shape hR hl hV
 have hps:=hR.fits.2.2
 exact shape_any S hL root (hR.inI (by omega)) h0 (by rw[g1];omega) (fun x hx=>(hg x hx).err) s1 s2
theorem right_zero (h:Shows X sb V) (hW:Below X.heap.size X W) :
  Calls Tryz.prog 11 #[.pointer (some ⟨sb,0,none⟩),.int .i64 0] W fun e Y=>e=.returned (.bool true)∧Below W.heap.size W Y:=by
 obtain⟨w0,mb,fb,s,Lf,S,hL,rfl⟩:=h.below hW
 exact rightT_any S hL 0 ⟨by omega,by omega⟩ (by simp[spotsD]) (by simp[spotsD])
structure Wrong (V:View) (root:Int):Prop where
 few:(spotsD V root).length≤120
 vals:∀ x∈spotsD V root,∀ it∈x.page.items,it.kind=1
 bad:∃ x∈spotsD V root,x.err≠0
 inI:InI root
theorem wrong_list (h:Shows X sb V) (hw:Wrong V root) (hW:Below X.heap.size X W) :
  Calls Tryz.prog 10 #[.pointer (some ⟨sb,0,none⟩),.int .i64 root] W fun e Y=>Below W.heap.size W Y∧∃ x∈spotsD V root,x.err≠0∧e=.returned (.tuple #[.slice none 0 0,.iface 62 (.int .i64 x.err)]):=by
 obtain⟨w0,mb,fb,s,Lf,S,hL,rfl⟩:=h.below hW
 have hlen:(itemsOf (spotsD (readS s Lf) root)).length≤4*120:=by
  have h1:∀ l:List SpotD,(∀ x∈l,x.page.items.length≤4)→(itemsOf l).length≤4*l.length:=by
   intro l
   induction l with
   | nil=>intro _;simp[itemsOf]
   | cons y r ih=>
     intro hy
     have h2:=ih (fun x hx=>hy x (by simp[hx]))
     have h3:=hy y (by simp)
     have e:itemsOf (y::r)=y.page.items++itemsOf r:=by simp[itemsOf]
     rw[e,qO,qV]
     omega
  have h2:=h1 (spotsD (readS s Lf) root) (fun x hx=>spots_few hx)
  have:=hw.few
  omega
 refine (list_any S hL root hw.inI (by omega)).mono ?_
 rintro e' Y ⟨hb,⟨v,us,rfl,hno,_⟩|⟨x,hx,hne,rfl⟩⟩
 ·obtain⟨x,hx,hne⟩:=hw.bad
  exact absurd (hno x hx) hne
 ·exact⟨hb,x,hx,hne,by rw[show errV x.err=.iface 62 (.int .i64 x.err) from if_neg hne]⟩
theorem wrong_pages (h:Shows X sb V) (hw:Wrong V root) (hW:Below X.heap.size X W) :
  Calls Tryz.prog 14 #[.pointer (some ⟨sb,0,none⟩),.int .i64 root] W fun e Y=>Below W.heap.size W Y∧∃ x∈spotsD V root,x.err≠0∧e=.returned (.tuple #[.slice none 0 0,.iface 62 (.int .i64 x.err)]):=by
 obtain⟨w0,mb,fb,s,Lf,S,hL,rfl⟩:=h.below hW
 refine (pages_any S hL root hw.inI (by have:=hw.few;omega) hw.vals).mono ?_
 rintro e' Y ⟨hb,⟨ao,cap,rfl,hno⟩|⟨x,hx,hne,rfl⟩⟩
 ·obtain⟨x,hx,hne⟩:=hw.bad
  exact absurd (hno x hx) hne
 ·exact⟨hb,x,hx,hne,by rw[show errV x.err=.iface 62 (.int .i64 x.err) from if_neg hne]⟩
theorem wrong_right (h:Shows X sb V) (hw:Wrong V root) (hW:Below X.heap.size X W) :
  Calls Tryz.prog 11 #[.pointer (some ⟨sb,0,none⟩),.int .i64 root] W fun e Y=>e=.returned (.bool false)∧Below W.heap.size W Y:=by
 obtain⟨w0,mb,fb,s,Lf,S,hL,rfl⟩:=h.below hW
 obtain⟨x,hx,hne⟩:=hw.bad
 have:=rightT_any S hL root hw.inI (by have:=hw.few;omega) hw.vals
 rw[right_false _ 0 [] x hx hne] at this
 exact this
end
theorem spoilt_wrong {ps:List PageD} {root:Int} {L:List Nat} {k:Nat} {V:View} (hR:RootAt ps root L) (hl:L.length≤120) (hk:k<ps.length) (hV:Spoilt ps k V):Wrong V root:=by
 obtain⟨h1,h2,h3⟩:=spoilt_spots hR hl hk hV
 have:=hR.fits.2.2
 exact⟨h1,h2,h3,hR.inI (by omega)⟩
end
section
open Go.RowKit
theorem Tryz.eqErr12 (w:World):(binOp .eql 38 (.iface 62 (.int .i64 12)) (.iface 62 (.int .i64 12))).run Tryz.prog w=.ok (.bool true) w:=by kernel_rfl
theorem Tryz.callTypeOf12 (w:World):(callFunc 48 #[.iface 62 (.int .i64 12)]).run Tryz.prog w=.ok (.value (.iface 139 (.agg #[.pointer (some ⟨1,62,none⟩)]))) w:=by kernel_rfl
theorem is_same12 (w:World) :
  Calls Tryz.prog 16 #[.iface 62 (.int .i64 12),.iface 62 (.int .i64 12)] w fun e w'=>e=.returned (.bool true)∧w'=w:=by
 have tT:=Tryz.callTypeOf12
 have cT:=F.Tryz.callComparable
 have e1:=Tryz.eqErr12
 have e2:=eqE 12
 have mR:=F.Tryz.methodComparable
 go_enter Tryz.func16,Tryz.ntmps16
 go_wp2
 refine wp_loop_rounds 1 ?_
 rw[rounds_succ]
 go_wp2
 go_ret
 exact⟨rfl,rfl⟩
theorem eqPtrS9 (b:Nat) (w:World):(binOp .eql 27 (.pointer (some ⟨b,0,none⟩)) (.pointer none)).run Tryz.prog w=.ok (.bool false) w:=by
 simp[go_sem,Tryz.underlying27]
def viewOf (v:List ByteArray) (last:Int):View:=readS (newD last 400 []) (F.newL v)
theorem store_shows {w X:World} {fb:Nat} {u:Value} {v:List ByteArray} (hf:F.FileAt X w.heap.size fb u (F.newL v)) (hX:Below w.heap.size w X) (last:Int) (hv:∀ x∈v,x.size≤100000000000) :
  Calls Tryz.prog 8 #[.pointer (some ⟨fb,0,none⟩),.int .i64 last,.int .i64 400,.slice none 0 0] X fun r Y=>∃ sb,r=.returned (.pointer (some ⟨sb,0,none⟩))∧Shows Y sb (viewOf v last)∧Below w.heap.size w Y:=by
 refine (store_made hf hX last).mono ?_
 rintro r Y ⟨sb,mb,rfl,S⟩
 exact⟨sb,rfl,⟨w,mb,fb,_,_,S,list_shOk hv,rfl⟩,S.bel⟩
theorem tree_file {w:World} {B fb:Nat} {uV uD uL:Value} {ps:List PageD} (hF:F.RfAt w B fb uV uD uL (fileV ps) (fileV ps) []) (hn:∀ i (h:i<ps.length),NumP ps[i]) (hl:ps.length≤120):F.StrsAt w uV (fileV ps):=by
 have hlen:=fileV_len ps
 exact hF.rowV.at (fun x hx=>by have:=fileV_few hn x hx;unfold maxLen;omega) (by rw[hlen];unfold maxLen;omega)
theorem keys5 (w:World):KeysAt (w.alloc (.cells #[.int .u8 1,.int .u8 2,.int .u8 3,.int .u8 4,.int .u8 5] 5)) (.slice (some ⟨w.heap.size,0,none⟩) 5 5) [1,2,3,4,5]:=by
 refine⟨_,_,rfl,by simp[maxLen],fun i hi=>⟨_,rfl,?_⟩⟩
 rw[Addr.add_mid,Nat.zero_add,cell_rowL (heap_newL w _)]
 have:i=0∨i=1∨i=2∨i=3∨i=4:=by simp at hi;omega
 rcases this with rfl|rfl|rfl|rfl|rfl<;>rfl
def ps5:List PageD:=[leafN [1,2,3],leafN [4,5],branchN [0,1] [4]]
theorem mkS_inj {a b:List PageD} (h:mkS a=mkS b):a=b:=by
 unfold mkS at h
 simp only[RSt.mk.injEq] at h
 exact h.2.2.2.2.2
theorem grow5:growR [1,2,3,4,5] 5=(mkS ps5,4):=by kernel_rfl
theorem setN5:(setN [1,2,3,4,5] 5).length=5:=by kernel_rfl
theorem visit_leaf {V:View} {n:Near} {p:PageD} (hs:seen V n=(p,0)) (hk:p.kids=[]):∀ f,visit V f n=[⟨n,p,0⟩]
 | 0=>by simp[visit,spotOf,hs]
 | f+1=>by simp[visit,spotOf,hs,under,hk,kidsFrom]
theorem shape5c:shapeFrom 0 [⟨rootNear 4,branchN [0,1] [4],0⟩,⟨⟨2,2,⟨#[]⟩,key2 4⟩,leafN [1,2,3],0⟩,⟨⟨3,2,key2 4,⟨#[]⟩⟩,leafN [4,5],0⟩]=[91,40,97,98,32,97,99,32,97,100,41,40,97,101,32,97,102,41,93]:=by kernel_rfl
theorem shape5 {V:View} (hV:∀ i p,ps5[i]?=some p→V (num i)=(p,0)):shapeFrom 0 (spotsD V 4)=[91,40,97,98,32,97,99,32,97,100,41,40,97,101,32,97,102,41,93]:=by
 have h2:V 2=(leafN [1,2,3],0):=hV 0 _ rfl
 have h3:V 3=(leafN [4,5],0):=hV 1 _ rfl
 have h4:V 4=(branchN [0,1] [4],0):=hV 2 _ rfl
 have s4:seen V (rootNear 4)=(branchN [0,1] [4],0):=seen_of h4 (.inr rfl) (by decide)
 have e:spotsD V 4=[⟨rootNear 4,branchN [0,1] [4],0⟩,⟨⟨2,2,⟨#[]⟩,key2 4⟩,leafN [1,2,3],0⟩,⟨⟨3,2,key2 4,⟨#[]⟩⟩,leafN [4,5],0⟩]:=by
  have e0:spotsD V 4=spotOf V (rootNear 4)::(under (rootNear 4) (seen V (rootNear 4)).1).flatMap (visit V 7):=by
   unfold spotsD
   rw[if_neg (by decide)]
   rfl
  have e1:under (rootNear 4) (branchN [0,1] [4])=[⟨2,2,⟨#[]⟩,key2 4⟩,⟨3,2,key2 4,⟨#[]⟩⟩]:=rfl
  have l2:=visit_leaf (V:=V) (n:=⟨2,2,⟨#[]⟩,key2 4⟩) (seen_of h2 (.inl rfl) (by decide)) rfl 7
  have l3:=visit_leaf (V:=V) (n:=⟨3,2,key2 4,⟨#[]⟩⟩) (seen_of h3 (.inl rfl) (by decide)) rfl 7
  rw[e0]
  unfold spotOf
  rw[s4,e1]
  simp only[List.flatMap_cons,List.flatMap_nil,l2,l3,List.append_nil,List.cons_append,List.nil_append]
 rw[e]
 exact shape5c
theorem okR_nil:okR ([]:List UInt8)=false:=by kernel_rfl
theorem spots99 {v:List ByteArray} (last:Int) (hl:v.length<99):spotsD (viewOf v last) 99=[⟨rootNear 99,noPage,12⟩]:=by
 have h:(viewOf v last 99).2=12:=by
  have e:bytesAt (newD last 400 []) (F.newL v) 99=⟨#[]⟩:=by
   unfold bytesAt
   rw[if_neg (by simp[newD])]
   unfold F.readL
   rw[if_pos (by omega)]
   have e2:(F.newL v)[(99:Int).toNat]?=none:=List.getElem?_eq_none (by simp[F.newL];omega)
   rw[List.getD,e2]
   rfl
  unfold viewOf readS
  rw[if_neg (by simp only[newD];have:heldN 400=400:=rfl;rw[this];omega),e]
  show (if okR []=true then (0:Int) else 12)=12
  rw[okR_nil]
  rfl
 have hs:seen (viewOf v last) (rootNear 99)=(noPage,12):=by
  unfold seen
  rw[if_pos (by show ¬ (viewOf v last 99).2=0;rw[h];decide)]
  show (noPage,(viewOf v last 99).2)=_
  rw[h]
 have e0:spotsD (viewOf v last) 99=spotOf (viewOf v last) (rootNear 99)::(under (rootNear 99) (seen (viewOf v last) (rootNear 99)).1).flatMap (visit (viewOf v last) 7):=by
  unfold spotsD
  rw[if_neg (by decide)]
  rfl
 rw[e0]
 unfold spotOf
 rw[hs]
 rfl
theorem wrong99 {v:List ByteArray} (last:Int) (hl:v.length<99):Wrong (viewOf v last) 99∧∀ x∈spotsD (viewOf v last) 99,x.err=12:=by
 have e:=spots99 last hl
 refine⟨⟨by rw[e];simp,?_,⟨_,by rw[e];exact List.mem_singleton_self _,by decide⟩,by unfold InI;omega⟩,?_⟩
 ·rw[e]
  intro x hx
  rw[List.mem_singleton.1 hx]
  intro it hit
  cases hit
 ·rw[e]
  intro x hx
  rw[List.mem_singleton.1 hx]
end
section
open Go.RowKit
theorem known_tree (w:World):Calls Tryz.prog 6 #[] w fun e w'=>e=.returned (.bool true)∧Below w.heap.size w w':=by
 have hq:=eqPtrS9
 have hnil:=eqNilT
 have hb0:=hidT ((qB w.heap.size w).alloc qL (.cells #[.int .u8 1,.int .u8 2,.int .u8 3,.int .u8 4,.int .u8 5] 5))
 have C0:=hidT (tree_anyG _ _ [1,2,3,4,5] (keys5 w) (by simp) (by simp))
 go_enter Tryz.func6,Tryz.ntmps6
 go_wp2_with fail
 refine C0.out.mono ?_
 rintro e w1 ⟨BT,fb,ps,root,uV,uD,uL,rfl,hRt,hG,hBT,hF,hb1⟩
 have hlR:(setN [1,2,3,4,5] ([1,2,3,4,5]:List Nat).length).length=5:=setN5
 have e5:(mkS ps5,(4:Int))=(mkS ps,root):=grow5.symm.trans hG
 simp only[Prod.mk.injEq] at e5
 have hp5:ps=ps5:=(mkS_inj e5.1).symm
 have hr5:root=4:=e5.2.symm
 clear hG e5
 generalize setN [1,2,3,4,5] ([1,2,3,4,5]:List Nat).length=L at *
 have hl120:L.length≤120:=by omega
 have hlp:ps.length≤120:=by have:=hRt.fits.2.2;omega
 have hl3:Hid (ps.length=3):=hidT (by rw[hp5];rfl)
 have hnp:∀ i (h:i<ps.length),NumP ps[i]:=fun i h=>hRt.page hl120 h
 have hS:=hidT (tree_file hF hnp hlp)
 have hfew:=hidT (fileV_few hnp)
 have CN:=hidT (file_made hS.out (by rw[fileV_len];omega))
 have hV:=hidT (grown_shown hnp hlp (num ps.length))
 have h99:=hidT (wrong99 (v:=fileV ps) (num ps.length) (by rw[fileV_len,hl3.out];decide))
 have hsh5:Hid (shapeFrom 0 (spotsD (viewOf (fileV ps) (num ps.length)) root)=[91,40,97,98,32,97,99,32,97,100,41,40,97,101,32,97,102,41,93]):=hidT (by
  rw[hr5]
  refine shape5 fun i p hp=>?_
  rw[← hp5] at hp
  exact hV.out i p hp)
 have hr0:Hid (root≠0):=hidT (by rw[hr5];decide)
 replace hRt:=hidT hRt
 replace hl120:=hidT hl120
 replace hlR:=hidT hlR
 have c0:=cell_rowL hF.obj
 have hbT:=hidT (hb0.out.trans (hb1.mono hb0.out.size))
 clear C0 hb0 hb1 hF hp5 hr5 hnp hlp
 go_wp2_with fail
 refine CN.out.mono ?_
 rintro e w2 ⟨rfl,u2,hf2,hb2⟩
 have CS:=hidT (store_shows hf2 hb2 (num ps.length) hfew.out)
 have hsz:=hidT hbT.out.size
 clear CN c0 hf2 hb2 hS hfew
 go_wp2_with fail
 refine CS.out.mono ?_
 rintro e Y ⟨sb,rfl,hSh,hbY⟩
 have hbW:=hidT (hbT.out.trans (hbY.mono hsz.out))
 replace hSh:=hidT hSh
 obtain⟨V,hVe⟩:∃ V,V=viewOf (fileV ps) (num ps.length):=⟨_,rfl⟩
 have hV':Hid (∀ i p,ps[i]?=some p→V (num i)=(p,0)):=hidT (by rw[hVe];exact hV.out)
 rw[← hVe] at hSh h99 hsh5
 clear CS hbT hbY hsz hV hVe
 have D1:=hidT (grown_list hSh.out hV'.out hRt.out hl120.out (qB _ Y))
 rw[hlR.out] at D1
 go_wp2_with fail
 refine D1.out.mono ?_
 rintro e Y1 ⟨hb1,v,us,rfl,-,ho⟩
 obtain⟨la,lc,rfl⟩:=owns_slice ho
 have hY1:=hidT hb1
 clear D1 ho hb1
 have D2:=hidT (grown_shapeC hSh.out hV'.out hRt.out hl120.out hr0.out hY1.out)
 rw[hsh5.out] at D2
 go_wp2_with fail
 refine D2.out.mono ?_
 rintro e Y2 ⟨rfl,hb2⟩
 have hY2:=hidT (hY1.out.trans (hb2.mono hY1.out.size))
 clear D2 hb2 hY1
 have D3:=hidT (grown_pages hSh.out hV'.out hRt.out hl120.out hY2.out)
 rw[hl3.out] at D3
 go_wp2_with fail
 refine D3.out.mono ?_
 rintro e Y3 ⟨hb3,pa,pc,rfl⟩
 have hY3:=hidT (hY2.out.trans (hb3.mono hY2.out.size))
 clear D3 hb3 hY2
 have D4:=hidT (wrong_list hSh.out h99.out.1 hY3.out)
 go_wp2_with fail
 refine D4.out.mono ?_
 rintro e Y4 ⟨hb4,x,hx,-,rfl⟩
 rw[h99.out.2 x hx]
 have hY4:=hidT (hY3.out.trans (hb4.mono hY3.out.size))
 clear D4 hb4 hY3 hx
 have D5:=hidT (grown_rightC hSh.out hV'.out hRt.out hl120.out hY4.out)
 go_wp2_with fail
 refine D5.out.mono ?_
 rintro e Y5 ⟨rfl,hb5⟩
 have hY5:=hidT (hY4.out.trans (hb5.mono hY4.out.size))
 clear D5 hb5 hY4
 have D6:=hidT (right_zero hSh.out hY5.out)
 go_wp2_with fail
 refine D6.out.mono ?_
 rintro e Y6 ⟨rfl,hb6⟩
 have hY6:=hidT (hY5.out.trans (hb6.mono hY5.out.size))
 clear D6 hb6 hY5
 have D7:=hidT (wrong_right hSh.out h99.out.1 hY6.out)
 go_wp2_with fail
 refine D7.out.mono ?_
 rintro e Y7 ⟨rfl,hb7⟩
 have hY7:=hidT (hY6.out.trans (hb7.mono hY6.out.size))
 clear D7 hb7 hY6
 go_wp2_with fail
 refine (is_same12 _).mono ?_
 rintro e Y8 ⟨rfl,rfl⟩
 go_wp2_with fail
 go_ret
 exact⟨rfl,hbW.out.trans (hY7.out.mono hbW.out.size)⟩
end
end Go.Proofs.YtbghhklbfnplbaaGreat

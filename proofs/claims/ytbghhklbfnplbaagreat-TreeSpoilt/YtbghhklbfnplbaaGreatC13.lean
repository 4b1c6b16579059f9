import Derived.Test.YtbghhklbfnplbaaGreatC00
import Derived.Test.YtbghhklbfnplbaaGreatC11
import Derived.Test.YtbghhklbfnplbaaGreatC12
set_option maxHeartbeats 4000000
namespace Go.Proofs.YtbghhklbfnplbaaGreat
section
open Go.RowKit Go.Sort
theorem takePage_any (b rb:Nat) (s:St) (w:World) (h:AtSt w b rb s) :
  Calls Tryz.prog 116 #[.pointer (some ⟨b,0,none⟩)] w fun e w'=>∃ vi vk vd vv vf,e=.returned (.agg (pageCells (pageV s) vi vk vd vv vf).toArray)∧HangsB w.heap.size w' (pageV s) vi vk vd vv vf∧w.grownBy w' (some b):=by
 unfold pageV
 generalize hk:iV (nS s)=d
 by_cases h1:d=1
 ·subst h1;exact takePage_1 b rb s w h hk
 by_cases h2:d=2
 ·subst h2;exact takePage_2 b rb s w h hk
 by_cases h3:d=3
 ·subst h3;exact takePage_3 b rb s w h hk
 by_cases h4:d=4
 ·subst h4;exact takePage_4 b rb s w h hk
 by_cases h5:d=5
 ·subst h5;exact takePage_5 b rb s w h hk
 by_cases h6:d=6
 ·subst h6;exact takePage_6 b rb s w h hk
 exact takePage_0 b rb s w h d hk h1 h2 h3 h4 h5 h6
theorem freesGo_txn:∀ k r s,∀ f∈(freesGo k r s).1,0≤f.txn∧f.txn<18446744073709551616
 | 0,r,s,f,h=>by simp[freesGo] at h
 | k+1,r,s,f,h=>by
   have hl:=nV_lt s
   unfold freesGo at h
   split at h
   ·rcases List.mem_cons.1 h with rfl|h
    ·exact⟨by simp,by simp;omega⟩
    ·exact freesGo_txn k _ _ f h
   ·simp at h
theorem txnOk_pageV (s:St):TxnOk (pageV s):=by
 unfold pageV
 generalize iV (nS s)=d
 generalize nS (nS s)=s1
 have hl:=nV_lt s1
 have z:(0:Int)≤0∧(0:Int)<18446744073709551616:=by omega
 unfold partV
 split
 ·exact⟨z,by simp[noPage]⟩
 split
 ·exact⟨z,by simp[noPage]⟩
 split
 ·exact⟨z,by simp[noPage]⟩
 split
 ·exact⟨z,by simp[noPage]⟩
 split
 ·exact⟨z,freesGo_txn _ _ _⟩
 split
 ·exact⟨⟨by simp[metaV],by simp[metaV];omega⟩,by simp[noPage]⟩
 ·exact⟨z,by simp[noPage]⟩
def readV (l:List UInt8):PageD:=pageV (l,false)
def okR (l:List UInt8):Bool:=!l.isEmpty&&decide (bytesD (readV l)=l)
def readD (l:List UInt8):PageD:=if okR l then readV l else noPage
def readE (l:List UInt8):Value:=if okR l then .nilIface else .iface 62 (.int .i64 12)
theorem agree_grown {w2 w3 W:World} {R:Nat} (hA:Below w2.heap.size w2 w3) (hg:w3.grownBy W (some R)):Agree (R+1) w2 W:=
 ⟨qN hA.size hg.size,fun q h1 h2=>(hg.block q (by have:=hA.size;omega) (by simp;omega)).trans (hA.block q h2)⟩
theorem agree_trans {a b c:World} {R:Nat} (h:Agree (R+1) a b) (g:Agree R b c):Agree (R+1) a c:=
 ⟨qN h.1 g.1,fun q h1 h2=>(g.2 q (by omega) (qM h2 h.1)).trans (h.2 q h1 h2)⟩
theorem read_empty (s:ByteArray) (w:World) (hs:s.size≤maxLen) (hemp0:s.data.toList=[]) :
  Calls Tryz.prog 103 #[.string s] w fun e w'=>∃ vi vk vd vv vf,e=.returned (.tuple #[.agg (pageCells (readD s.data.toList) vi vk vd vv vf).toArray,readE s.data.toList])∧(∀ W,Agree w.heap.size w' W→Hangs W (readD s.data.toList) vi vk vd vv vf)∧Below w.heap.size w w':=by
 have hb0:Below w.heap.size w (w.alloc (.cells #[.int .i64 0,.slice none 0 0,.slice none 0 0,.slice none 0 0,.string ⟨#[]⟩,.slice none 0 0,.slice none 0 0,.int .i64 0,.int .u64 0,.int .i64 0,.int .i64 0,.int .i64 0,.int .i64 0,.int .i64 0] 59)):=(qB _ _).alloc qL _
 have hR0:=heap_newL w (.cells #[.int .i64 0,.slice none 0 0,.slice none 0 0,.slice none 0 0,.string ⟨#[]⟩,.slice none 0 0,.slice none 0 0,.int .i64 0,.int .u64 0,.int .i64 0,.int .i64 0,.int .i64 0,.int .i64 0,.int .i64 0] 59)
 have hs0:(w.alloc (.cells #[.int .i64 0,.slice none 0 0,.slice none 0 0,.slice none 0 0,.string ⟨#[]⟩,.slice none 0 0,.slice none 0 0,.int .i64 0,.int .u64 0,.int .i64 0,.int .i64 0,.int .i64 0,.int .i64 0,.int .i64 0] 59)).heap.size=w.heap.size+1:=by simp
 have HS:=hid hs
 have HRD:Hid (readD s.data.toList=if okR s.data.toList then readV s.data.toList else noPage):=rfl
 have HRE:Hid (readE s.data.toList=if okR s.data.toList then .nilIface else .iface 62 (.int .i64 12)):=rfl
 have HTX:=hid (txnOk_pageV (s.data.toList,false))
 have HTP:=hid (fun b rb W (h:AtSt W b rb (s.data.toList,false))=>takePage_any b rb (s.data.toList,false) W h)
 have HOK:Hid (okR s.data.toList=(!s.data.toList.isEmpty&&decide (bytesD (pageV (s.data.toList,false))=s.data.toList))):=rfl
 have HRV:Hid (readV s.data.toList=pageV (s.data.toList,false)):=rfl
 generalize readD s.data.toList=RD at *
 generalize readE s.data.toList=RE at *
 generalize okR s.data.toList=OK at *
 generalize readV s.data.toList=RV at *
 generalize pageV (s.data.toList,false)=PV at *
 clear hs
 go_enter Tryz.func103,Tryz.ntmps103
 go_wp2_with fail
 refine (new_any s _ HS.out).mono ?_
 rintro e w1 ⟨rfl,hcut,hsz1,hb1⟩
 rw[hs0] at hcut hsz1
 have hB1:=hb0.trans (hb1.mono (by simp))
 have hR1:w1.heap[w.heap.size]?=some (.cells #[.int .i64 0,.slice none 0 0,.slice none 0 0,.slice none 0 0,.string ⟨#[]⟩,.slice none 0 0,.slice none 0 0,.int .i64 0,.int .u64 0,.int .i64 0,.int .i64 0,.int .i64 0,.int .i64 0,.int .i64 0] 59 (0,0)):=(hb1.block w.heap.size (by simp)).trans hR0
 have HC1:Hid (AtSt w1 (w.heap.size+1+1) (w.heap.size+1) (s.data.toList,false)):=hcut
 have HB1:=hid hB1
 have HR1:=hid hR1
 clear hcut hb1 hB1 hR1 hb0 hR0 hs0
 go_wp2_with fail
 refine (HTP.out _ _ _ HC1.out).mono ?_
 rintro e w2 ⟨vi,vk,vd,vv,vf,rfl,hang,hg⟩
 have HB2:Hid (Below w.heap.size w w2):=⟨hg.os.trans HB1.out.os,hg.tape.trans HB1.out.tape,hg.output.trans HB1.out.output,qN HB1.out.size hg.size,fun q hq=>(hg.block q (by have:=HB1.out.size;omega) (by simp;omega)).trans (HB1.out.block q hq)⟩
 have hR2:w2.heap[w.heap.size]?=some (.cells #[.int .i64 0,.slice none 0 0,.slice none 0 0,.slice none 0 0,.string ⟨#[]⟩,.slice none 0 0,.slice none 0 0,.int .i64 0,.int .u64 0,.int .i64 0,.int .i64 0,.int .i64 0,.int .i64 0,.int .i64 0] 59 (0,0)):=(hg.block w.heap.size (by omega) (by simp;omega)).trans HR1.out
 have HR2:=hid hR2
 have hsz2:w.heap.size<w2.heap.size:=by have:=hg.size;omega
 have hangw:=hang w2 ⟨Nat.le_refl _,fun _ _ _=>rfl⟩
 have HH:Hid (∀ W,Agree (w.heap.size+1) w2 W→Hangs W PV vi vk vd vv vf):=fun W hW=>hang W ⟨hW.1,fun q h1 h2=>hW.2 q (by omega) h2⟩
 clear hg HC1 HB1 HR1 HTP hang
 obtain⟨ai,mi,ci,rfl⟩:=hangw.items.slice
 obtain⟨ak,mk,ck,rfl⟩:=hangw.keys.slice
 obtain⟨ad,md,cd,rfl⟩:=hangw.kids.slice
 obtain⟨av,mv,cv,rfl⟩:=hangw.vals.slice
 obtain⟨af,mf,cf,rfl⟩:=hangw.free.slice
 have HBY0:=fun W (hW:Below w2.heap.size w2 W)=>bytes_any PV (.slice ai mi ci) (.slice ak mk ck) (.slice ad md cd) (.slice av mv cv) (.slice af mf cf) W (hangw.below hW) HTX.out
 clear hangw HTX
 generalize bytesD PV=BD at *
 obtain⟨k1,i1,y1,d1,t1,v1,f1,n1,⟨x1,⟨g1,c1,q1⟩,r1,l1⟩⟩:=PV
 have HBY:Hid (∀ W,Below w2.heap.size w2 W→Calls Tryz.prog 118 #[.agg #[.int .i64 k1,.slice ai mi ci,.slice ak mk ck,.slice ad md cd,.string t1,.slice av mv cv,.slice af mf cf,.int .i64 n1,.int .u64 x1,.int .i64 g1,.int .i64 c1,.int .i64 q1,.int .i64 r1,.int .i64 l1]] W fun e w'=>e=.returned (.string (bs BD))∧Below W.heap.size W w'):=HBY0
 clear HBY0
 unfold pageCells
 have hsl:s.toList=s.data.toList:=ByteArray.toList_eq ..
 have hzs:=bs_list BD
 have hbl:(bs BD).toList=BD:=by rw[ByteArray.toList_eq,bs_list]
 have hemp:=hemp0
 have hE:s.toList=[]:=by rw[hsl];exact hemp
 have hok:OK=false:=by rw[HOK.out,hemp];rfl
 have hRD:RD=noPage:=by rw[HRD.out,hok];rfl
 have hRE:RE=.iface 62 (.int .i64 12):=by rw[HRE.out,hok];rfl
 clear HRD HRE HOK HRV
 subst hRD hRE
 clear hsl hbl hzs hok
 have cR:=cell_rowL hR2
 have fR:=frozen_rowL hR2
 clear hR2
 go_wp2
 have HB3:Hid (Below w.heap.size w ((((((((((((((w2.setCell ⟨w.heap.size,0,none⟩ (.int .i64 0)).setCell ⟨w.heap.size,1,none⟩ (.slice none 0 0)).setCell ⟨w.heap.size,2,none⟩ (.slice none 0 0)).setCell ⟨w.heap.size,3,none⟩ (.slice none 0 0)).setCell ⟨w.heap.size,4,none⟩ (.string ⟨#[]⟩)).setCell ⟨w.heap.size,5,none⟩ (.slice none 0 0)).setCell ⟨w.heap.size,6,none⟩ (.slice none 0 0)).setCell ⟨w.heap.size,7,none⟩ (.int .i64 0)).setCell ⟨w.heap.size,8,none⟩ (.int .u64 0)).setCell ⟨w.heap.size,9,none⟩ (.int .i64 0)).setCell ⟨w.heap.size,10,none⟩ (.int .i64 0)).setCell ⟨w.heap.size,11,none⟩ (.int .i64 0)).setCell ⟨w.heap.size,12,none⟩ (.int .i64 0)).setCell ⟨w.heap.size,13,none⟩ (.int .i64 0))):=by
  show Below _ _ _
  repeat (refine Below.setCell ?_ (by simp) _)
  exact HB2.out
 have hY2:((((((((((((((w2.setCell ⟨w.heap.size,0,none⟩ (.int .i64 0)).setCell ⟨w.heap.size,1,none⟩ (.slice none 0 0)).setCell ⟨w.heap.size,2,none⟩ (.slice none 0 0)).setCell ⟨w.heap.size,3,none⟩ (.slice none 0 0)).setCell ⟨w.heap.size,4,none⟩ (.string ⟨#[]⟩)).setCell ⟨w.heap.size,5,none⟩ (.slice none 0 0)).setCell ⟨w.heap.size,6,none⟩ (.slice none 0 0)).setCell ⟨w.heap.size,7,none⟩ (.int .i64 0)).setCell ⟨w.heap.size,8,none⟩ (.int .u64 0)).setCell ⟨w.heap.size,9,none⟩ (.int .i64 0)).setCell ⟨w.heap.size,10,none⟩ (.int .i64 0)).setCell ⟨w.heap.size,11,none⟩ (.int .i64 0)).setCell ⟨w.heap.size,12,none⟩ (.int .i64 0)).setCell ⟨w.heap.size,13,none⟩ (.int .i64 0)).heap[w.heap.size]?=some (.cells #[.int .i64 0,.slice none 0 0,.slice none 0 0,.slice none 0 0,.string ⟨#[]⟩,.slice none 0 0,.slice none 0 0,.int .i64 0,.int .u64 0,.int .i64 0,.int .i64 0,.int .i64 0,.int .i64 0,.int .i64 0] 59 (0,0)):=by
  simp[World.setCell,Array.getElem?_modify,HR2.out]
 generalize ((((((((((((((w2.setCell ⟨w.heap.size,0,none⟩ (.int .i64 0)).setCell ⟨w.heap.size,1,none⟩ (.slice none 0 0)).setCell ⟨w.heap.size,2,none⟩ (.slice none 0 0)).setCell ⟨w.heap.size,3,none⟩ (.slice none 0 0)).setCell ⟨w.heap.size,4,none⟩ (.string ⟨#[]⟩)).setCell ⟨w.heap.size,5,none⟩ (.slice none 0 0)).setCell ⟨w.heap.size,6,none⟩ (.slice none 0 0)).setCell ⟨w.heap.size,7,none⟩ (.int .i64 0)).setCell ⟨w.heap.size,8,none⟩ (.int .u64 0)).setCell ⟨w.heap.size,9,none⟩ (.int .i64 0)).setCell ⟨w.heap.size,10,none⟩ (.int .i64 0)).setCell ⟨w.heap.size,11,none⟩ (.int .i64 0)).setCell ⟨w.heap.size,12,none⟩ (.int .i64 0)).setCell ⟨w.heap.size,13,none⟩ (.int .i64 0))=Y at *
 have hY3:∀ o j,(Y.alloc o).cell? ⟨w.heap.size,j,none⟩=(#[.int .i64 0,.slice none 0 0,.slice none 0 0,.slice none 0 0,.string ⟨#[]⟩,.slice none 0 0,.slice none 0 0,.int .i64 0,.int .u64 0,.int .i64 0,.int .i64 0,.int .i64 0,.int .i64 0,.int .i64 0]:Array Value)[j]?:=fun o j=>by
  rw[← cell_rowL hY2 j]
  exact World.cell?_of_block (a:=⟨w.heap.size,j,none⟩) (qE _ _ _ (qA hY2))
 refine bodyPost_ret (v:=.tuple #[.agg #[.int .i64 0,.slice none 0 0,.slice none 0 0,.slice none 0 0,.string ⟨#[]⟩,.slice none 0 0,.slice none 0 0,.int .i64 0,.int .u64 0,.int .i64 0,.int .i64 0,.int .i64 0,.int .i64 0,.int .i64 0],.iface 62 (.int .i64 12)]) (by simp[results,Tryz.results103,go_sem,hY3]) rfl ⟨.slice none 0 0,.slice none 0 0,.slice none 0 0,.slice none 0 0,.slice none 0 0,rfl,fun _ _=>⟨items_nil _,strs_nil _,ints_nil _,text_nil_le,strs_nil _,frees_nil _⟩,HB3.out.alloc HB3.out.size _⟩
theorem read_same (s:ByteArray) (w:World) (hs:s.size≤maxLen) (hemp0:¬ s.data.toList=[]) (heq0:bytesD (pageV (s.data.toList,false))=s.data.toList) :
  Calls Tryz.prog 103 #[.string s] w fun e w'=>∃ vi vk vd vv vf,e=.returned (.tuple #[.agg (pageCells (readD s.data.toList) vi vk vd vv vf).toArray,readE s.data.toList])∧(∀ W,Agree w.heap.size w' W→Hangs W (readD s.data.toList) vi vk vd vv vf)∧Below w.heap.size w w':=by
 have hb0:Below w.heap.size w (w.alloc (.cells #[.int .i64 0,.slice none 0 0,.slice none 0 0,.slice none 0 0,.string ⟨#[]⟩,.slice none 0 0,.slice none 0 0,.int .i64 0,.int .u64 0,.int .i64 0,.int .i64 0,.int .i64 0,.int .i64 0,.int .i64 0] 59)):=(qB _ _).alloc qL _
 have hR0:=heap_newL w (.cells #[.int .i64 0,.slice none 0 0,.slice none 0 0,.slice none 0 0,.string ⟨#[]⟩,.slice none 0 0,.slice none 0 0,.int .i64 0,.int .u64 0,.int .i64 0,.int .i64 0,.int .i64 0,.int .i64 0,.int .i64 0] 59)
 have hs0:(w.alloc (.cells #[.int .i64 0,.slice none 0 0,.slice none 0 0,.slice none 0 0,.string ⟨#[]⟩,.slice none 0 0,.slice none 0 0,.int .i64 0,.int .u64 0,.int .i64 0,.int .i64 0,.int .i64 0,.int .i64 0,.int .i64 0] 59)).heap.size=w.heap.size+1:=by simp
 have HS:=hid hs
 have HQ:=hid heq0
 clear heq0
 have HRD:Hid (readD s.data.toList=if okR s.data.toList then readV s.data.toList else noPage):=rfl
 have HRE:Hid (readE s.data.toList=if okR s.data.toList then .nilIface else .iface 62 (.int .i64 12)):=rfl
 have HTX:=hid (txnOk_pageV (s.data.toList,false))
 have HTP:=hid (fun b rb W (h:AtSt W b rb (s.data.toList,false))=>takePage_any b rb (s.data.toList,false) W h)
 have HOK:Hid (okR s.data.toList=(!s.data.toList.isEmpty&&decide (bytesD (pageV (s.data.toList,false))=s.data.toList))):=rfl
 have HRV:Hid (readV s.data.toList=pageV (s.data.toList,false)):=rfl
 generalize readD s.data.toList=RD at *
 generalize readE s.data.toList=RE at *
 generalize okR s.data.toList=OK at *
 generalize readV s.data.toList=RV at *
 generalize pageV (s.data.toList,false)=PV at *
 clear hs
 go_enter Tryz.func103,Tryz.ntmps103
 go_wp2_with fail
 refine (new_any s _ HS.out).mono ?_
 rintro e w1 ⟨rfl,hcut,hsz1,hb1⟩
 rw[hs0] at hcut hsz1
 have hB1:=hb0.trans (hb1.mono (by simp))
 have hR1:w1.heap[w.heap.size]?=some (.cells #[.int .i64 0,.slice none 0 0,.slice none 0 0,.slice none 0 0,.string ⟨#[]⟩,.slice none 0 0,.slice none 0 0,.int .i64 0,.int .u64 0,.int .i64 0,.int .i64 0,.int .i64 0,.int .i64 0,.int .i64 0] 59 (0,0)):=(hb1.block w.heap.size (by simp)).trans hR0
 have HC1:Hid (AtSt w1 (w.heap.size+1+1) (w.heap.size+1) (s.data.toList,false)):=hcut
 have HB1:=hid hB1
 have HR1:=hid hR1
 clear hcut hb1 hB1 hR1 hb0 hR0 hs0
 go_wp2_with fail
 refine (HTP.out _ _ _ HC1.out).mono ?_
 rintro e w2 ⟨vi,vk,vd,vv,vf,rfl,hang,hg⟩
 have HB2:Hid (Below w.heap.size w w2):=⟨hg.os.trans HB1.out.os,hg.tape.trans HB1.out.tape,hg.output.trans HB1.out.output,qN HB1.out.size hg.size,fun q hq=>(hg.block q (by have:=HB1.out.size;omega) (by simp;omega)).trans (HB1.out.block q hq)⟩
 have hR2:w2.heap[w.heap.size]?=some (.cells #[.int .i64 0,.slice none 0 0,.slice none 0 0,.slice none 0 0,.string ⟨#[]⟩,.slice none 0 0,.slice none 0 0,.int .i64 0,.int .u64 0,.int .i64 0,.int .i64 0,.int .i64 0,.int .i64 0,.int .i64 0] 59 (0,0)):=(hg.block w.heap.size (by omega) (by simp;omega)).trans HR1.out
 have HR2:=hid hR2
 have hsz2:w.heap.size<w2.heap.size:=by have:=hg.size;omega
 have hangw:=hang w2 ⟨Nat.le_refl _,fun _ _ _=>rfl⟩
 have HH:Hid (∀ W,Agree (w.heap.size+1) w2 W→Hangs W PV vi vk vd vv vf):=fun W hW=>hang W ⟨hW.1,fun q h1 h2=>hW.2 q (by omega) h2⟩
 clear hg HC1 HB1 HR1 HTP hang
 obtain⟨ai,mi,ci,rfl⟩:=hangw.items.slice
 obtain⟨ak,mk,ck,rfl⟩:=hangw.keys.slice
 obtain⟨ad,md,cd,rfl⟩:=hangw.kids.slice
 obtain⟨av,mv,cv,rfl⟩:=hangw.vals.slice
 obtain⟨af,mf,cf,rfl⟩:=hangw.free.slice
 have HBY0:=fun W (hW:Below w2.heap.size w2 W)=>bytes_any PV (.slice ai mi ci) (.slice ak mk ck) (.slice ad md cd) (.slice av mv cv) (.slice af mf cf) W (hangw.below hW) HTX.out
 clear hangw HTX
 generalize bytesD PV=BD at *
 obtain⟨k1,i1,y1,d1,t1,v1,f1,n1,⟨x1,⟨g1,c1,q1⟩,r1,l1⟩⟩:=PV
 have HBY:Hid (∀ W,Below w2.heap.size w2 W→Calls Tryz.prog 118 #[.agg #[.int .i64 k1,.slice ai mi ci,.slice ak mk ck,.slice ad md cd,.string t1,.slice av mv cv,.slice af mf cf,.int .i64 n1,.int .u64 x1,.int .i64 g1,.int .i64 c1,.int .i64 q1,.int .i64 r1,.int .i64 l1]] W fun e w'=>e=.returned (.string (bs BD))∧Below W.heap.size W w'):=HBY0
 clear HBY0
 unfold pageCells
 have hsl:s.toList=s.data.toList:=ByteArray.toList_eq ..
 have hzs:=bs_list BD
 have hbl:(bs BD).toList=BD:=by rw[ByteArray.toList_eq,bs_list]
 have hemp:=hemp0
 have heq:=HQ.out
 have hE:(s.toList==[])=false:=by rw[hsl];simpa using hemp
 have hie:s.data.toList.isEmpty=false:=by
  cases h:s.data.toList with
  | nil=>exact absurd h hemp
  | cons x r=>rfl
 have hok:OK=decide (BD=s.data.toList):=by rw[HOK.out,hie,Bool.not_false,Bool.true_and]
 have hb2P:Below w2.heap.size w2 (w2.alloc (.cells #[.int .i64 k1,.slice ai mi ci,.slice ak mk ck,.slice ad md cd,.string t1,.slice av mv cv,.slice af mf cf,.int .i64 n1,.int .u64 x1,.int .i64 g1,.int .i64 c1,.int .i64 q1,.int .i64 r1,.int .i64 l1] 59)):=(qB _ _).alloc qL _
 have hP2:=heap_newL w2 (.cells #[.int .i64 k1,.slice ai mi ci,.slice ak mk ck,.slice ad md cd,.string t1,.slice av mv cv,.slice af mf cf,.int .i64 n1,.int .u64 x1,.int .i64 g1,.int .i64 c1,.int .i64 q1,.int .i64 r1,.int .i64 l1] 59)
 have hR3:(w2.alloc (.cells #[.int .i64 k1,.slice ai mi ci,.slice ak mk ck,.slice ad md cd,.string t1,.slice av mv cv,.slice af mf cf,.int .i64 n1,.int .u64 x1,.int .i64 g1,.int .i64 c1,.int .i64 q1,.int .i64 r1,.int .i64 l1] 59)).heap[w.heap.size]?=some (.cells #[.int .i64 0,.slice none 0 0,.slice none 0 0,.slice none 0 0,.string ⟨#[]⟩,.slice none 0 0,.slice none 0 0,.int .i64 0,.int .u64 0,.int .i64 0,.int .i64 0,.int .i64 0,.int .i64 0,.int .i64 0] 59 (0,0)):=(qE _ _ _ hsz2).trans hR2
 have HX:=hid (HBY.out _ hb2P)
 have hbb:((bs BD).toList==s.toList)=true:=by rw[hbl,hsl];simpa using heq
 have hRD:RD=RV:=by rw[HRD.out,hok];simp[heq]
 have hRE:RE=.nilIface:=by rw[HRE.out,hok];simp[heq]
 have hRV:=HRV.out
 clear HRD HRE HOK HRV
 subst hRD hRE
 clear hsl hbl hzs hie hok heq
 go_wp2_with fail
 refine HX.out.mono ?_
 rintro e w3 ⟨rfl,hb3⟩
 have hP3:w3.heap[w2.heap.size]?=some (.cells #[.int .i64 k1,.slice ai mi ci,.slice ak mk ck,.slice ad md cd,.string t1,.slice av mv cv,.slice af mf cf,.int .i64 n1,.int .u64 x1,.int .i64 g1,.int .i64 c1,.int .i64 q1,.int .i64 r1,.int .i64 l1] 59 (0,0)):=(hb3.block _ (by simp)).trans hP2
 have hR4:w3.heap[w.heap.size]?=some (.cells #[.int .i64 0,.slice none 0 0,.slice none 0 0,.slice none 0 0,.string ⟨#[]⟩,.slice none 0 0,.slice none 0 0,.int .i64 0,.int .u64 0,.int .i64 0,.int .i64 0,.int .i64 0,.int .i64 0,.int .i64 0] 59 (0,0)):=(hb3.block _ (by simp;omega)).trans hR3
 have HB3:=hid (HB2.out.trans ((hb2P.trans (hb3.mono (by simp))).mono (by omega)))
 have HA3:Hid (Below w2.heap.size w2 w3):=hb2P.trans (hb3.mono (by simp))
 have cP:=cell_rowL hP3
 have cR:=cell_rowL hR4
 have fR:=frozen_rowL hR4
 clear hb3 hP3 hR4 hR2 hR3 hP2 HX HBY hb2P
 go_wp2
 refine bodyPost_ret (v:=.tuple #[.agg #[.int .i64 k1,.slice ai mi ci,.slice ak mk ck,.slice ad md cd,.string t1,.slice av mv cv,.slice af mf cf,.int .i64 n1,.int .u64 x1,.int .i64 g1,.int .i64 c1,.int .i64 q1,.int .i64 r1,.int .i64 l1],.nilIface]) (by simp[results,Tryz.results103,go_sem,cR]) rfl ⟨.slice ai mi ci,.slice ak mk ck,.slice ad md cd,.slice av mv cv,.slice af mf cf,by rw[hRV];rfl,?_,?_⟩
 ·rw[hRV]
  intro W hW
  refine HH.out _ (agree_trans (agree_grown HA3.out ?_) hW)
  repeat (refine grown_trans ?_ (grown_setCell _ _ _ _))
  exact grown_refl _ _
 ·repeat (refine Below.setCell ?_ (by simp) _)
  exact HB3.out
theorem read_other (s:ByteArray) (w:World) (hs:s.size≤maxLen) (hemp0:¬ s.data.toList=[]) (heq0:¬ bytesD (pageV (s.data.toList,false))=s.data.toList) :
  Calls Tryz.prog 103 #[.string s] w fun e w'=>∃ vi vk vd vv vf,e=.returned (.tuple #[.agg (pageCells (readD s.data.toList) vi vk vd vv vf).toArray,readE s.data.toList])∧(∀ W,Agree w.heap.size w' W→Hangs W (readD s.data.toList) vi vk vd vv vf)∧Below w.heap.size w w':=by
 have hb0:Below w.heap.size w (w.alloc (.cells #[.int .i64 0,.slice none 0 0,.slice none 0 0,.slice none 0 0,.string ⟨#[]⟩,.slice none 0 0,.slice none 0 0,.int .i64 0,.int .u64 0,.int .i64 0,.int .i64 0,.int .i64 0,.int .i64 0,.int .i64 0] 59)):=(qB _ _).alloc qL _
 have hR0:=heap_newL w (.cells #[.int .i64 0,.slice none 0 0,.slice none 0 0,.slice none 0 0,.string ⟨#[]⟩,.slice none 0 0,.slice none 0 0,.int .i64 0,.int .u64 0,.int .i64 0,.int .i64 0,.int .i64 0,.int .i64 0,.int .i64 0] 59)
 have hs0:(w.alloc (.cells #[.int .i64 0,.slice none 0 0,.slice none 0 0,.slice none 0 0,.string ⟨#[]⟩,.slice none 0 0,.slice none 0 0,.int .i64 0,.int .u64 0,.int .i64 0,.int .i64 0,.int .i64 0,.int .i64 0,.int .i64 0] 59)).heap.size=w.heap.size+1:=by simp
 have HS:=hid hs
 have HQ:=hid heq0
 clear heq0
 have HRD:Hid (readD s.data.toList=if okR s.data.toList then readV s.data.toList else noPage):=rfl
 have HRE:Hid (readE s.data.toList=if okR s.data.toList then .nilIface else .iface 62 (.int .i64 12)):=rfl
 have HTX:=hid (txnOk_pageV (s.data.toList,false))
 have HTP:=hid (fun b rb W (h:AtSt W b rb (s.data.toList,false))=>takePage_any b rb (s.data.toList,false) W h)
 have HOK:Hid (okR s.data.toList=(!s.data.toList.isEmpty&&decide (bytesD (pageV (s.data.toList,false))=s.data.toList))):=rfl
 have HRV:Hid (readV s.data.toList=pageV (s.data.toList,false)):=rfl
 generalize readD s.data.toList=RD at *
 generalize readE s.data.toList=RE at *
 generalize okR s.data.toList=OK at *
 generalize readV s.data.toList=RV at *
 generalize pageV (s.data.toList,false)=PV at *
 clear hs
 go_enter Tryz.func103,Tryz.ntmps103
 go_wp2_with fail
 refine (new_any s _ HS.out).mono ?_
 rintro e w1 ⟨rfl,hcut,hsz1,hb1⟩
 rw[hs0] at hcut hsz1
 have hB1:=hb0.trans (hb1.mono (by simp))
 have hR1:w1.heap[w.heap.size]?=some (.cells #[.int .i64 0,.slice none 0 0,.slice none 0 0,.slice none 0 0,.string ⟨#[]⟩,.slice none 0 0,.slice none 0 0,.int .i64 0,.int .u64 0,.int .i64 0,.int .i64 0,.int .i64 0,.int .i64 0,.int .i64 0] 59 (0,0)):=(hb1.block w.heap.size (by simp)).trans hR0
 have HC1:Hid (AtSt w1 (w.heap.size+1+1) (w.heap.size+1) (s.data.toList,false)):=hcut
 have HB1:=hid hB1
 have HR1:=hid hR1
 clear hcut hb1 hB1 hR1 hb0 hR0 hs0
 go_wp2_with fail
 refine (HTP.out _ _ _ HC1.out).mono ?_
 rintro e w2 ⟨vi,vk,vd,vv,vf,rfl,hang,hg⟩
 have HB2:Hid (Below w.heap.size w w2):=⟨hg.os.trans HB1.out.os,hg.tape.trans HB1.out.tape,hg.output.trans HB1.out.output,qN HB1.out.size hg.size,fun q hq=>(hg.block q (by have:=HB1.out.size;omega) (by simp;omega)).trans (HB1.out.block q hq)⟩
 have hR2:w2.heap[w.heap.size]?=some (.cells #[.int .i64 0,.slice none 0 0,.slice none 0 0,.slice none 0 0,.string ⟨#[]⟩,.slice none 0 0,.slice none 0 0,.int .i64 0,.int .u64 0,.int .i64 0,.int .i64 0,.int .i64 0,.int .i64 0,.int .i64 0] 59 (0,0)):=(hg.block w.heap.size (by omega) (by simp;omega)).trans HR1.out
 have HR2:=hid hR2
 have hsz2:w.heap.size<w2.heap.size:=by have:=hg.size;omega
 have hangw:=hang w2 ⟨Nat.le_refl _,fun _ _ _=>rfl⟩
 have HH:Hid (∀ W,Agree (w.heap.size+1) w2 W→Hangs W PV vi vk vd vv vf):=fun W hW=>hang W ⟨hW.1,fun q h1 h2=>hW.2 q (by omega) h2⟩
 clear hg HC1 HB1 HR1 HTP hang
 obtain⟨ai,mi,ci,rfl⟩:=hangw.items.slice
 obtain⟨ak,mk,ck,rfl⟩:=hangw.keys.slice
 obtain⟨ad,md,cd,rfl⟩:=hangw.kids.slice
 obtain⟨av,mv,cv,rfl⟩:=hangw.vals.slice
 obtain⟨af,mf,cf,rfl⟩:=hangw.free.slice
 have HBY0:=fun W (hW:Below w2.heap.size w2 W)=>bytes_any PV (.slice ai mi ci) (.slice ak mk ck) (.slice ad md cd) (.slice av mv cv) (.slice af mf cf) W (hangw.below hW) HTX.out
 clear hangw HTX
 generalize bytesD PV=BD at *
 obtain⟨k1,i1,y1,d1,t1,v1,f1,n1,⟨x1,⟨g1,c1,q1⟩,r1,l1⟩⟩:=PV
 have HBY:Hid (∀ W,Below w2.heap.size w2 W→Calls Tryz.prog 118 #[.agg #[.int .i64 k1,.slice ai mi ci,.slice ak mk ck,.slice ad md cd,.string t1,.slice av mv cv,.slice af mf cf,.int .i64 n1,.int .u64 x1,.int .i64 g1,.int .i64 c1,.int .i64 q1,.int .i64 r1,.int .i64 l1]] W fun e w'=>e=.returned (.string (bs BD))∧Below W.heap.size W w'):=HBY0
 clear HBY0
 unfold pageCells
 have hsl:s.toList=s.data.toList:=ByteArray.toList_eq ..
 have hzs:=bs_list BD
 have hbl:(bs BD).toList=BD:=by rw[ByteArray.toList_eq,bs_list]
 have hemp:=hemp0
 have heq:=HQ.out
 have hE:(s.toList==[])=false:=by rw[hsl];simpa using hemp
 have hie:s.data.toList.isEmpty=false:=by
  cases h:s.data.toList with
  | nil=>exact absurd h hemp
  | cons x r=>rfl
 have hok:OK=decide (BD=s.data.toList):=by rw[HOK.out,hie,Bool.not_false,Bool.true_and]
 have hb2P:Below w2.heap.size w2 (w2.alloc (.cells #[.int .i64 k1,.slice ai mi ci,.slice ak mk ck,.slice ad md cd,.string t1,.slice av mv cv,.slice af mf cf,.int .i64 n1,.int .u64 x1,.int .i64 g1,.int .i64 c1,.int .i64 q1,.int .i64 r1,.int .i64 l1] 59)):=(qB _ _).alloc qL _
 have hP2:=heap_newL w2 (.cells #[.int .i64 k1,.slice ai mi ci,.slice ak mk ck,.slice ad md cd,.string t1,.slice av mv cv,.slice af mf cf,.int .i64 n1,.int .u64 x1,.int .i64 g1,.int .i64 c1,.int .i64 q1,.int .i64 r1,.int .i64 l1] 59)
 have hR3:(w2.alloc (.cells #[.int .i64 k1,.slice ai mi ci,.slice ak mk ck,.slice ad md cd,.string t1,.slice av mv cv,.slice af mf cf,.int .i64 n1,.int .u64 x1,.int .i64 g1,.int .i64 c1,.int .i64 q1,.int .i64 r1,.int .i64 l1] 59)).heap[w.heap.size]?=some (.cells #[.int .i64 0,.slice none 0 0,.slice none 0 0,.slice none 0 0,.string ⟨#[]⟩,.slice none 0 0,.slice none 0 0,.int .i64 0,.int .u64 0,.int .i64 0,.int .i64 0,.int .i64 0,.int .i64 0,.int .i64 0] 59 (0,0)):=(qE _ _ _ hsz2).trans hR2
 have HX:=hid (HBY.out _ hb2P)
 have hbb:((bs BD).toList==s.toList)=false:=by rw[hbl,hsl];simpa using heq
 have hRD:RD=noPage:=by rw[HRD.out,hok];simp[heq]
 have hRE:RE=.iface 62 (.int .i64 12):=by rw[HRE.out,hok];simp[heq]
 clear HRD HRE HOK HRV
 subst hRD hRE
 clear hsl hbl hzs hie hok heq
 go_wp2_with fail
 refine HX.out.mono ?_
 rintro e w3 ⟨rfl,hb3⟩
 have hR4:w3.heap[w.heap.size]?=some (.cells #[.int .i64 0,.slice none 0 0,.slice none 0 0,.slice none 0 0,.string ⟨#[]⟩,.slice none 0 0,.slice none 0 0,.int .i64 0,.int .u64 0,.int .i64 0,.int .i64 0,.int .i64 0,.int .i64 0,.int .i64 0] 59 (0,0)):=(hb3.block _ (by simp;omega)).trans hR3
 have HB3:=hid (HB2.out.trans ((hb2P.trans (hb3.mono (by simp))).mono (by omega)))
 have cR:=cell_rowL hR4
 have fR:=frozen_rowL hR4
 clear hb3 hR4 hR2 hR3 hP2 HX HBY hb2P
 go_wp2
 refine bodyPost_ret (v:=.tuple #[.agg #[.int .i64 0,.slice none 0 0,.slice none 0 0,.slice none 0 0,.string ⟨#[]⟩,.slice none 0 0,.slice none 0 0,.int .i64 0,.int .u64 0,.int .i64 0,.int .i64 0,.int .i64 0,.int .i64 0,.int .i64 0],.iface 62 (.int .i64 12)]) (by simp[results,Tryz.results103,go_sem,cR]) rfl ⟨.slice none 0 0,.slice none 0 0,.slice none 0 0,.slice none 0 0,.slice none 0 0,rfl,fun _ _=>⟨items_nil _,strs_nil _,ints_nil _,text_nil_le,strs_nil _,frees_nil _⟩,?_⟩
 repeat (refine Below.setCell ?_ (by simp) _)
 exact HB3.out
theorem read_new (s:ByteArray) (w:World) (hs:s.size≤maxLen) :
  Calls Tryz.prog 103 #[.string s] w fun e w'=>∃ vi vk vd vv vf,e=.returned (.tuple #[.agg (pageCells (readD s.data.toList) vi vk vd vv vf).toArray,readE s.data.toList])∧(∀ W,Agree w.heap.size w' W→Hangs W (readD s.data.toList) vi vk vd vv vf)∧Below w.heap.size w w':=by
 by_cases h1:s.data.toList=[]
 ·exact read_empty s w hs h1
 by_cases h2:bytesD (pageV (s.data.toList,false))=s.data.toList
 ·exact read_same s w hs h1 h2
 ·exact read_other s w hs h1 h2
theorem read_any (s:ByteArray) (w:World) (hs:s.size≤maxLen) :
  Calls Tryz.prog 103 #[.string s] w fun e w'=>∃ vi vk vd vv vf,e=.returned (.tuple #[.agg (pageCells (readD s.data.toList) vi vk vd vv vf).toArray,readE s.data.toList])∧Hangs w' (readD s.data.toList) vi vk vd vv vf∧Below w.heap.size w w':=
 (read_new s w hs).mono fun _ w' ⟨vi,vk,vd,vv,vf,h1,h2,h3⟩=>⟨vi,vk,vd,vv,vf,h1,h2 w' ⟨Nat.le_refl _,fun _ _ _=>rfl⟩,h3⟩
end
end Go.Proofs.YtbghhklbfnplbaaGreat

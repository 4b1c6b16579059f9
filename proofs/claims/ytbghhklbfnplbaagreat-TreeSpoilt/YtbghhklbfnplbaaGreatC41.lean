import Derived.Deep.LoopGhost
import Derived.Deep.Cut
import Derived.Test.YtbghhklbfnplbaaGreatC00
import Derived.Test.YtbghhklbfnplbaaGreatC24
import Derived.Test.YtbghhklbfnplbaaGreatC40
set_option maxHeartbeats 4000000
set_option maxRecDepth 100000
namespace Go.Proofs.YtbghhklbfnplbaaGreat
section
open Go.RowKit Go.Sort
theorem rbytes_3 (p:PageD) (vi vk vd vv vf:Value) (w:World) (ha:Hangs w p vi vk vd vv vf) (hfl:p.free.length≤140737488355328) (ht:TxnOk p) (hi:isPB p=true) (hk:p.kind=3) :
  Calls Tryz.prog 15 #[.agg (pageCells p vi vk vd vv vf).toArray] w fun e w'=>e=.returned (.string (bs (bytesD p)))∧Below w.heap.size w w':=by
 have hok:=partOk_of_is hi ht
 have hpl:=partD_le p hok
 have hby:bytesD p=lowB (sumN (bodyD p)) 8++bodyD p:=by rw[bytesD,if_pos hi]
 have HIS:Hid (∀ W,Below w.heap.size w W→Calls Tryz.prog 40 #[.agg (pageCells p vi vk vd vv vf).toArray] W fun e w'=>e=.returned (.bool true)∧Below W.heap.size W w'):=hid (fun W hW=>hi ▸ refIs_any p _ _ _ _ _ W (ha.below hW) hfl ht)
 have hbd:bodyD p=numB 3++partD p:=by rw[bodyD,hk]
 rw[hby,hbd]
 obtain⟨k1,i1,y1,d1,t1,v1,f1,n1,⟨x1,⟨g1,c1,q1⟩,r1,l1⟩⟩:=p
 simp only at hk
 subst hk
 have HH:Hid (∀ W,Below w.heap.size w W→Hangs W _ vi vk vd vv vf):=hid (fun W hW=>ha.below hW)
 obtain⟨aoI,capI,rfl,him,hitI⟩:=ha.items
 obtain⟨aoK,capK,rfl,hkm,hitK⟩:=ha.keys
 obtain⟨aoD,capD,rfl,hdm,hitD⟩:=ha.kids
 obtain⟨aoV,capV,rfl,hvm,hitV⟩:=ha.vals
 obtain⟨aoF,capF,rfl,hfm,hitF⟩:=ha.free
 have htm:=ha.text
 simp only at him hkm hdm hvm hfm htm hitI hitK hitD hitV hitF hfl
 unfold maxLen at him hkm hdm hvm hfm htm
 have htx:=hok.text rfl
 simp only at htx
 have hpd:partD ⟨3,i1,y1,d1,t1,v1,f1,n1,⟨x1,⟨g1,c1,q1⟩,r1,l1⟩⟩=textB t1:=rfl
 rw[hpd] at hpl ⊢
 clear hpd
 have hB:numB 3++textB t1=numB 3++textB t1:=rfl
 generalize hBB:numB 3++textB t1=B at hB ⊢
 have hBl:B.length≤70000000008:=by rw[← hBB,qO,numB_length];omega
 replace hBB:=hid hBB
 clear hB
 replace hitI:=hid hitI
 replace hitK:=hid hitK
 replace hitD:=hid hitD
 replace hitF:=hid hitF
 clear ha hok ht hi hby hbd hitV
 have hb0:Below w.heap.size w (w.alloc (.cells #[.int .i64 3,.slice aoI i1.length capI,.slice aoK y1.length capK,.slice aoD d1.length capD,.string t1,.slice aoV v1.length capV,.slice aoF f1.length capF,.int .i64 n1,.int .u64 x1,.int .i64 g1,.int .i64 c1,.int .i64 q1,.int .i64 r1,.int .i64 l1] 59)):=(qB _ _).alloc qL _
 have hs0:(w.alloc (.cells #[.int .i64 3,.slice aoI i1.length capI,.slice aoK y1.length capK,.slice aoD d1.length capD,.string t1,.slice aoV v1.length capV,.slice aoF f1.length capF,.int .i64 n1,.int .u64 x1,.int .i64 g1,.int .i64 c1,.int .i64 q1,.int .i64 r1,.int .i64 l1] 59)).heap.size=w.heap.size+1:=by simp
 have HCE:Hid (∀ W,Below (w.alloc (.cells #[.int .i64 3,.slice aoI i1.length capI,.slice aoK y1.length capK,.slice aoD d1.length capD,.string t1,.slice aoV v1.length capV,.slice aoF f1.length capF,.int .i64 n1,.int .u64 x1,.int .i64 g1,.int .i64 c1,.int .i64 q1,.int .i64 r1,.int .i64 l1] 59)).heap.size (w.alloc (.cells #[.int .i64 3,.slice aoI i1.length capI,.slice aoK y1.length capK,.slice aoD d1.length capD,.string t1,.slice aoV v1.length capV,.slice aoF f1.length capF,.int .i64 n1,.int .u64 x1,.int .i64 g1,.int .i64 c1,.int .i64 q1,.int .i64 r1,.int .i64 l1] 59)) W→∀ j,W.cell? ⟨w.heap.size,j,none⟩=#[.int .i64 3,.slice aoI i1.length capI,.slice aoK y1.length capK,.slice aoD d1.length capD,.string t1,.slice aoV v1.length capV,.slice aoF f1.length capF,.int .i64 n1,.int .u64 x1,.int .i64 g1,.int .i64 c1,.int .i64 q1,.int .i64 r1,.int .i64 l1][j]?):=hid (fun W hW=>cell_rowL ((hW.block w.heap.size (by simp)).trans (heap_newL w _)))
 show Calls Tryz.prog _ #[.agg #[.int .i64 3,.slice aoI i1.length capI,.slice aoK y1.length capK,.slice aoD d1.length capD,.string t1,.slice aoV v1.length capV,.slice aoF f1.length capF,.int .i64 n1,.int .u64 x1,.int .i64 g1,.int .i64 c1,.int .i64 q1,.int .i64 r1,.int .i64 l1]] w _
 go_enter Tryz.func15,Tryz.ntmps15
 go_wp2_with fail
 generalize (w.alloc (.cells #[.int .i64 3,.slice aoI i1.length capI,.slice aoK y1.length capK,.slice aoD d1.length capD,.string t1,.slice aoV v1.length capV,.slice aoF f1.length capF,.int .i64 n1,.int .u64 x1,.int .i64 g1,.int .i64 c1,.int .i64 q1,.int .i64 r1,.int .i64 l1] 59))=X at *
 refine (HIS.out X hb0).mono ?_
 rintro e w1 ⟨rfl,hb1⟩
 have cj:=HCE.out w1 hb1
 clear HIS
 go_wp2_with fail
 refine (rnum_any _ _).mono ?_
 rintro e w2 ⟨rfl,hb2⟩
 have B2:=hb1.trans (hb2.mono hb1.size)
 have z0:=(bs_size (numB 3)).trans (numB_length 3)
 clear hb1 hb2 cj
 have cj:=HCE.out w2 B2
 replace B2:=hid B2
 have z1:=(bs_size (textB t1)).trans (textB_length t1)
 go_wp2_with fail
 refine (rtext_any _ _ htx).mono ?_
 rintro e w3 ⟨rfl,hb3⟩
 have B3:=hid (B2.out.trans (hb3.mono B2.out.size))
 clear hb3 cj
 go_upto_region 34 with fail
 rw[bs_append,hBB.out]
 have zB:=bs_size B
 go_wp2_with fail
 refine (refSum_any (bs B) _ (by rw[zB];unfold maxLen;omega)).mono ?_
 rintro e w8 ⟨rfl,rfl⟩
 rw[bs_list]
 have hsum:=sumN_lt B
 go_wp2_with fail
 refine (rnumS_any _ _ (by omega) (by omega)).mono ?_
 rintro e w9 ⟨rfl,hb9⟩
 have zL:=(bs_size (lowB (sumN B) 8)).trans (lowB_length _ 8)
 go_wp2
 go_ret
 refine⟨ret_str ?_,hb0.trans ((B3.out.trans (hb9.mono B3.out.size)).mono hb0.size)⟩
 rw[bs_append]
theorem rbytes_4 (p:PageD) (vi vk vd vv vf:Value) (w:World) (ha:Hangs w p vi vk vd vv vf) (hfl:p.free.length≤140737488355328) (ht:TxnOk p) (hi:isPB p=true) (hk:p.kind=4) :
  Calls Tryz.prog 15 #[.agg (pageCells p vi vk vd vv vf).toArray] w fun e w'=>e=.returned (.string (bs (bytesD p)))∧Below w.heap.size w w':=by
 have hok:=partOk_of_is hi ht
 have hpl:=partD_le p hok
 have hby:bytesD p=lowB (sumN (bodyD p)) 8++bodyD p:=by rw[bytesD,if_pos hi]
 have HIS:Hid (∀ W,Below w.heap.size w W→Calls Tryz.prog 40 #[.agg (pageCells p vi vk vd vv vf).toArray] W fun e w'=>e=.returned (.bool true)∧Below W.heap.size W w'):=hid (fun W hW=>hi ▸ refIs_any p _ _ _ _ _ W (ha.below hW) hfl ht)
 have hbd:bodyD p=numB 4++partD p:=by rw[bodyD,hk]
 rw[hby,hbd]
 obtain⟨k1,i1,y1,d1,t1,v1,f1,n1,⟨x1,⟨g1,c1,q1⟩,r1,l1⟩⟩:=p
 simp only at hk
 subst hk
 have HH:Hid (∀ W,Below w.heap.size w W→Hangs W _ vi vk vd vv vf):=hid (fun W hW=>ha.below hW)
 obtain⟨aoI,capI,rfl,him,hitI⟩:=ha.items
 obtain⟨aoK,capK,rfl,hkm,hitK⟩:=ha.keys
 obtain⟨aoD,capD,rfl,hdm,hitD⟩:=ha.kids
 obtain⟨aoV,capV,rfl,hvm,hitV⟩:=ha.vals
 obtain⟨aoF,capF,rfl,hfm,hitF⟩:=ha.free
 have htm:=ha.text
 simp only at him hkm hdm hvm hfm htm hitI hitK hitD hitV hitF hfl
 unfold maxLen at him hkm hdm hvm hfm htm
 obtain⟨hvl,hvs⟩:=hok.vals rfl
 simp only at hvl hvs
 have hpd:partD ⟨4,i1,y1,d1,t1,v1,f1,n1,⟨x1,⟨g1,c1,q1⟩,r1,l1⟩⟩=listB textB v1:=rfl
 rw[hpd] at hpl ⊢
 clear hpd
 generalize hBB:numB 4++listB textB v1=B
 have hBl:B.length≤70000000008:=by rw[← hBB,qO,numB_length];omega
 replace hBB:=hid hBB
 replace hitI:=hid hitI
 replace hitK:=hid hitK
 replace hitD:=hid hitD
 replace hitF:=hid hitF
 clear ha hok ht hi hby hbd hitV
 have hb0:Below w.heap.size w (w.alloc (.cells #[.int .i64 4,.slice aoI i1.length capI,.slice aoK y1.length capK,.slice aoD d1.length capD,.string t1,.slice aoV v1.length capV,.slice aoF f1.length capF,.int .i64 n1,.int .u64 x1,.int .i64 g1,.int .i64 c1,.int .i64 q1,.int .i64 r1,.int .i64 l1] 59)):=(qB _ _).alloc qL _
 have hs0:(w.alloc (.cells #[.int .i64 4,.slice aoI i1.length capI,.slice aoK y1.length capK,.slice aoD d1.length capD,.string t1,.slice aoV v1.length capV,.slice aoF f1.length capF,.int .i64 n1,.int .u64 x1,.int .i64 g1,.int .i64 c1,.int .i64 q1,.int .i64 r1,.int .i64 l1] 59)).heap.size=w.heap.size+1:=by simp
 have HCE:Hid (∀ W,Below (w.alloc (.cells #[.int .i64 4,.slice aoI i1.length capI,.slice aoK y1.length capK,.slice aoD d1.length capD,.string t1,.slice aoV v1.length capV,.slice aoF f1.length capF,.int .i64 n1,.int .u64 x1,.int .i64 g1,.int .i64 c1,.int .i64 q1,.int .i64 r1,.int .i64 l1] 59)).heap.size (w.alloc (.cells #[.int .i64 4,.slice aoI i1.length capI,.slice aoK y1.length capK,.slice aoD d1.length capD,.string t1,.slice aoV v1.length capV,.slice aoF f1.length capF,.int .i64 n1,.int .u64 x1,.int .i64 g1,.int .i64 c1,.int .i64 q1,.int .i64 r1,.int .i64 l1] 59)) W→∀ j,W.cell? ⟨w.heap.size,j,none⟩=#[.int .i64 4,.slice aoI i1.length capI,.slice aoK y1.length capK,.slice aoD d1.length capD,.string t1,.slice aoV v1.length capV,.slice aoF f1.length capF,.int .i64 n1,.int .u64 x1,.int .i64 g1,.int .i64 c1,.int .i64 q1,.int .i64 r1,.int .i64 l1][j]?):=hid (fun W hW=>cell_rowL ((hW.block w.heap.size (by simp)).trans (heap_newL w _)))
 show Calls Tryz.prog _ #[.agg #[.int .i64 4,.slice aoI i1.length capI,.slice aoK y1.length capK,.slice aoD d1.length capD,.string t1,.slice aoV v1.length capV,.slice aoF f1.length capF,.int .i64 n1,.int .u64 x1,.int .i64 g1,.int .i64 c1,.int .i64 q1,.int .i64 r1,.int .i64 l1]] w _
 go_enter Tryz.func15,Tryz.ntmps15
 go_wp2_with fail
 generalize (w.alloc (.cells #[.int .i64 4,.slice aoI i1.length capI,.slice aoK y1.length capK,.slice aoD d1.length capD,.string t1,.slice aoV v1.length capV,.slice aoF f1.length capF,.int .i64 n1,.int .u64 x1,.int .i64 g1,.int .i64 c1,.int .i64 q1,.int .i64 r1,.int .i64 l1] 59))=X at *
 refine (HIS.out X hb0).mono ?_
 rintro e w1 ⟨rfl,hb1⟩
 have cj:=HCE.out w1 hb1
 clear HIS
 go_wp2_with fail
 refine (rnum_any _ _).mono ?_
 rintro e w2 ⟨rfl,hb2⟩
 have B2:=hb1.trans (hb2.mono hb1.size)
 have z0:=(bs_size (numB 4)).trans (numB_length 4)
 clear hb1 hb2 cj
 have cj:=HCE.out w2 B2
 replace B2:=hid B2
 have z1:=bs_size (listB textB v1)
 go_wp2_with fail
 refine (rtexts_any v1 _ _ (HH.out w2 (hb0.trans (B2.out.mono hb0.size))).vals hvs hvl).mono ?_
 rintro e w3 ⟨rfl,hb3⟩
 have B3:=hid (B2.out.trans (hb3.mono B2.out.size))
 clear hb3 cj
 go_upto_region 34 with fail
 rw[bs_append,hBB.out]
 have zB:=bs_size B
 go_wp2_with fail
 refine (refSum_any (bs B) _ (by rw[zB];unfold maxLen;omega)).mono ?_
 rintro e w8 ⟨rfl,rfl⟩
 rw[bs_list]
 have hsum:=sumN_lt B
 go_wp2_with fail
 refine (rnumS_any _ _ (by omega) (by omega)).mono ?_
 rintro e w9 ⟨rfl,hb9⟩
 have zL:=(bs_size (lowB (sumN B) 8)).trans (lowB_length _ 8)
 go_wp2
 go_ret
 refine⟨ret_str ?_,hb0.trans ((B3.out.trans (hb9.mono B3.out.size)).mono hb0.size)⟩
 rw[bs_append]
theorem rbytes_6 (p:PageD) (vi vk vd vv vf:Value) (w:World) (ha:Hangs w p vi vk vd vv vf) (hfl:p.free.length≤140737488355328) (ht:TxnOk p) (hi:isPB p=true) (hk:p.kind=6) :
  Calls Tryz.prog 15 #[.agg (pageCells p vi vk vd vv vf).toArray] w fun e w'=>e=.returned (.string (bs (bytesD p)))∧Below w.heap.size w w':=by
 have hok:=partOk_of_is hi ht
 have hpl:=partD_le p hok
 have hby:bytesD p=lowB (sumN (bodyD p)) 8++bodyD p:=by rw[bytesD,if_pos hi]
 have HIS:Hid (∀ W,Below w.heap.size w W→Calls Tryz.prog 40 #[.agg (pageCells p vi vk vd vv vf).toArray] W fun e w'=>e=.returned (.bool true)∧Below W.heap.size W w'):=hid (fun W hW=>hi ▸ refIs_any p _ _ _ _ _ W (ha.below hW) hfl ht)
 have hbd:bodyD p=numB 6++partD p:=by rw[bodyD,hk]
 rw[hby,hbd]
 obtain⟨k1,i1,y1,d1,t1,v1,f1,n1,⟨x1,⟨g1,c1,q1⟩,r1,l1⟩⟩:=p
 simp only at hk
 subst hk
 have HH:Hid (∀ W,Below w.heap.size w W→Hangs W _ vi vk vd vv vf):=hid (fun W hW=>ha.below hW)
 obtain⟨aoI,capI,rfl,him,hitI⟩:=ha.items
 obtain⟨aoK,capK,rfl,hkm,hitK⟩:=ha.keys
 obtain⟨aoD,capD,rfl,hdm,hitD⟩:=ha.kids
 obtain⟨aoV,capV,rfl,hvm,hitV⟩:=ha.vals
 obtain⟨aoF,capF,rfl,hfm,hitF⟩:=ha.free
 have htm:=ha.text
 simp only at him hkm hdm hvm hfm htm hitI hitK hitD hitV hitF hfl
 unfold maxLen at him hkm hdm hvm hfm htm
 have hx:=hok.txn
 simp only at hx
 have hpd:partD ⟨6,i1,y1,d1,t1,v1,f1,n1,⟨x1,⟨g1,c1,q1⟩,r1,l1⟩⟩=lowB x1 8++rootBytesD ⟨g1,c1,q1⟩++numB r1++numB l1:=rfl
 rw[hpd] at hpl ⊢
 clear hpd
 generalize hBB:numB 6++(lowB x1 8++rootBytesD ⟨g1,c1,q1⟩++numB r1++numB l1)=B
 have hBl:B.length≤70000000008:=by rw[← hBB,qO,numB_length];omega
 replace hBB:=hid hBB
 replace hitI:=hid hitI
 replace hitK:=hid hitK
 replace hitD:=hid hitD
 replace hitF:=hid hitF
 clear ha hok ht hi hby hbd hitV
 have hb0:Below w.heap.size w (w.alloc (.cells #[.int .i64 6,.slice aoI i1.length capI,.slice aoK y1.length capK,.slice aoD d1.length capD,.string t1,.slice aoV v1.length capV,.slice aoF f1.length capF,.int .i64 n1,.int .u64 x1,.int .i64 g1,.int .i64 c1,.int .i64 q1,.int .i64 r1,.int .i64 l1] 59)):=(qB _ _).alloc qL _
 have hs0:(w.alloc (.cells #[.int .i64 6,.slice aoI i1.length capI,.slice aoK y1.length capK,.slice aoD d1.length capD,.string t1,.slice aoV v1.length capV,.slice aoF f1.length capF,.int .i64 n1,.int .u64 x1,.int .i64 g1,.int .i64 c1,.int .i64 q1,.int .i64 r1,.int .i64 l1] 59)).heap.size=w.heap.size+1:=by simp
 have HCE:Hid (∀ W,Below (w.alloc (.cells #[.int .i64 6,.slice aoI i1.length capI,.slice aoK y1.length capK,.slice aoD d1.length capD,.string t1,.slice aoV v1.length capV,.slice aoF f1.length capF,.int .i64 n1,.int .u64 x1,.int .i64 g1,.int .i64 c1,.int .i64 q1,.int .i64 r1,.int .i64 l1] 59)).heap.size (w.alloc (.cells #[.int .i64 6,.slice aoI i1.length capI,.slice aoK y1.length capK,.slice aoD d1.length capD,.string t1,.slice aoV v1.length capV,.slice aoF f1.length capF,.int .i64 n1,.int .u64 x1,.int .i64 g1,.int .i64 c1,.int .i64 q1,.int .i64 r1,.int .i64 l1] 59)) W→∀ j,W.cell? ⟨w.heap.size,j,none⟩=#[.int .i64 6,.slice aoI i1.length capI,.slice aoK y1.length capK,.slice aoD d1.length capD,.string t1,.slice aoV v1.length capV,.slice aoF f1.length capF,.int .i64 n1,.int .u64 x1,.int .i64 g1,.int .i64 c1,.int .i64 q1,.int .i64 r1,.int .i64 l1][j]?):=hid (fun W hW=>cell_rowL ((hW.block w.heap.size (by simp)).trans (heap_newL w _)))
 show Calls Tryz.prog _ #[.agg #[.int .i64 6,.slice aoI i1.length capI,.slice aoK y1.length capK,.slice aoD d1.length capD,.string t1,.slice aoV v1.length capV,.slice aoF f1.length capF,.int .i64 n1,.int .u64 x1,.int .i64 g1,.int .i64 c1,.int .i64 q1,.int .i64 r1,.int .i64 l1]] w _
 go_enter Tryz.func15,Tryz.ntmps15
 go_wp2_with fail
 generalize (w.alloc (.cells #[.int .i64 6,.slice aoI i1.length capI,.slice aoK y1.length capK,.slice aoD d1.length capD,.string t1,.slice aoV v1.length capV,.slice aoF f1.length capF,.int .i64 n1,.int .u64 x1,.int .i64 g1,.int .i64 c1,.int .i64 q1,.int .i64 r1,.int .i64 l1] 59))=X at *
 refine (HIS.out X hb0).mono ?_
 rintro e w1 ⟨rfl,hb1⟩
 have cj:=HCE.out w1 hb1
 clear HIS
 go_wp2_with fail
 refine (rnum_any _ _).mono ?_
 rintro e w2 ⟨rfl,hb2⟩
 have B2:=hb1.trans (hb2.mono hb1.size)
 have z0:=(bs_size (numB 6)).trans (numB_length 6)
 clear hb1 hb2 cj
 have cj:=HCE.out w2 B2
 replace B2:=hid B2
 have z1:=(bs_size (lowB x1 8)).trans (lowB_length x1 8)
 have z2:=(bs_size (rootBytesD ⟨g1,c1,q1⟩)).trans (rootBytesD_length ⟨g1,c1,q1⟩)
 have z3:=(bs_size (numB r1)).trans (numB_length r1)
 have z4:=(bs_size (numB l1)).trans (numB_length l1)
 have hw2:w.heap.size<w2.heap.size:=by have:=B2.out.size;omega
 have e8:=cell_regrown ((cj 8).trans rfl:w2.cell? ⟨w.heap.size,8,none⟩=some (.int .u64 x1))
 have e9:=cell_regrown ((cj 9).trans rfl:w2.cell? ⟨w.heap.size,9,none⟩=some (.int .i64 g1))
 have e10:=cell_regrown ((cj 10).trans rfl:w2.cell? ⟨w.heap.size,10,none⟩=some (.int .i64 c1))
 have e11:=cell_regrown ((cj 11).trans rfl:w2.cell? ⟨w.heap.size,11,none⟩=some (.int .i64 q1))
 have e12:=cell_regrown ((cj 12).trans rfl:w2.cell? ⟨w.heap.size,12,none⟩=some (.int .i64 r1))
 have e13:=cell_regrown ((cj 13).trans rfl:w2.cell? ⟨w.heap.size,13,none⟩=some (.int .i64 l1))
 have HN:=hid (rnum_regrown w2)
 have HNS:Hid (∀ d os,Calls Tryz.prog 45 #[.int .u64 x1] (grow (redrawn w2 d) os) fun e w''=>e=.returned (.string (bs (lowB x1 8)))∧∃ p:Regrown,w''=grow (redrawn w2 p.d) p.os):=hid (fun _ _=>Calls.regrown_of (rnumS_any x1 _ hx.1 hx.2))
 have HRB:Hid (∀ d os,Calls Tryz.prog 46 #[.agg #[.int .i64 g1,.int .i64 c1,.int .i64 q1]] (grow (redrawn w2 d) os) fun e w''=>e=.returned (.string (bs (rootBytesD ⟨g1,c1,q1⟩)))∧∃ p:Regrown,w''=grow (redrawn w2 p.d) p.os):=hid (fun _ _=>Calls.regrown_of (rrootBytes_any ⟨g1,c1,q1⟩ _))
 go_wp2_with fail
 clear cj
 refine wp_region_quiet_below (by kernel_rfl) (by kernel_rfl) ?_
 repeat (go_big_quiet_step (first|exact HNS.out _ _|exact HRB.out _ _|exact HN.out _ _ _))
 refine wpQuiet_nil ?_
 intro _ hw'
 obtain⟨⟨dq,osq⟩,hw''⟩:=hw'
 subst hw''
 have B3:=hid (B2.out.trans ((below_regrown w2 dq osq).mono B2.out.size))
 clear e8 e9 e10 e11 e12 e13
 generalize grow (redrawn w2 dq) osq=w3 at *
 go_upto_region 34 with fail
 rw[bs_append,bs_append,bs_append,bs_append,show numB 6++lowB x1 8++rootBytesD ⟨g1,c1,q1⟩++numB r1++numB l1=B by rw[← hBB.out];simp]
 have zB:=bs_size B
 go_wp2_with fail
 refine (refSum_any (bs B) _ (by rw[zB];unfold maxLen;omega)).mono ?_
 rintro e w8 ⟨rfl,rfl⟩
 rw[bs_list]
 have hsum:=sumN_lt B
 go_wp2_with fail
 refine (rnumS_any _ _ (by omega) (by omega)).mono ?_
 rintro e w9 ⟨rfl,hb9⟩
 have zL:=(bs_size (lowB (sumN B) 8)).trans (lowB_length _ 8)
 go_wp2
 go_ret
 refine⟨ret_str ?_,hb0.trans ((B3.out.trans (hb9.mono B3.out.size)).mono hb0.size)⟩
 rw[bs_append]
theorem rbytes_1 (p:PageD) (vi vk vd vv vf:Value) (w:World) (ha:Hangs w p vi vk vd vv vf) (hfl:p.free.length≤140737488355328) (ht:TxnOk p) (hi:isPB p=true) (hk:p.kind=1) :
  Calls Tryz.prog 15 #[.agg (pageCells p vi vk vd vv vf).toArray] w fun e w'=>e=.returned (.string (bs (bytesD p)))∧Below w.heap.size w w':=by
 have hok:=partOk_of_is hi ht
 have hpl:=partD_le p hok
 have hby:bytesD p=lowB (sumN (bodyD p)) 8++bodyD p:=by rw[bytesD,if_pos hi]
 have HIS:Hid (∀ W,Below w.heap.size w W→Calls Tryz.prog 40 #[.agg (pageCells p vi vk vd vv vf).toArray] W fun e w'=>e=.returned (.bool true)∧Below W.heap.size W w'):=hid (fun W hW=>hi ▸ refIs_any p _ _ _ _ _ W (ha.below hW) hfl ht)
 have hbd:bodyD p=numB 1++partD p:=by rw[bodyD,hk]
 rw[hby,hbd]
 obtain⟨k1,i1,y1,d1,t1,v1,f1,n1,⟨x1,⟨g1,c1,q1⟩,r1,l1⟩⟩:=p
 simp only at hk
 subst hk
 have HH:Hid (∀ W,Below w.heap.size w W→Hangs W _ vi vk vd vv vf):=hid (fun W hW=>ha.below hW)
 obtain⟨aoI,capI,rfl,him,hitI⟩:=ha.items
 obtain⟨aoK,capK,rfl,hkm,hitK⟩:=ha.keys
 obtain⟨aoD,capD,rfl,hdm,hitD⟩:=ha.kids
 obtain⟨aoV,capV,rfl,hvm,hitV⟩:=ha.vals
 obtain⟨aoF,capF,rfl,hfm,hitF⟩:=ha.free
 have htm:=ha.text
 simp only at him hkm hdm hvm hfm htm hitI hitK hitD hitV hitF hfl
 unfold maxLen at him hkm hdm hvm hfm htm
 obtain⟨hil,his⟩:=hok.items rfl
 simp only at hil his
 have hpd:partD ⟨1,i1,y1,d1,t1,v1,f1,n1,⟨x1,⟨g1,c1,q1⟩,r1,l1⟩⟩=listB itemBytesD i1:=rfl
 rw[hpd] at hpl ⊢
 clear hpd
 generalize hBB:numB 1++listB itemBytesD i1=B
 have hBl:B.length≤70000000008:=by rw[← hBB,qO,numB_length];omega
 replace hBB:=hid hBB
 have HM:Hid (∀ k,k≤i1.length→(joinB itemBytesD (i1.take k)).length≤65700000*k):=by
  intro k hk
  have:=joinB_le itemBytesD 65700000 (i1.take k) (fun x hx=>itemBytesD_le x (his x (List.mem_of_mem_take hx)))
  rw[List.length_take,Nat.min_eq_left hk] at this
  omega
 replace his:=hid his
 replace hitI:=hid hitI
 replace hitK:=hid hitK
 replace hitD:=hid hitD
 replace hitF:=hid hitF
 clear ha hok ht hi hby hbd hitV
 have hb0:Below w.heap.size w (w.alloc (.cells #[.int .i64 1,.slice aoI i1.length capI,.slice aoK y1.length capK,.slice aoD d1.length capD,.string t1,.slice aoV v1.length capV,.slice aoF f1.length capF,.int .i64 n1,.int .u64 x1,.int .i64 g1,.int .i64 c1,.int .i64 q1,.int .i64 r1,.int .i64 l1] 59)):=(qB _ _).alloc qL _
 have hs0:(w.alloc (.cells #[.int .i64 1,.slice aoI i1.length capI,.slice aoK y1.length capK,.slice aoD d1.length capD,.string t1,.slice aoV v1.length capV,.slice aoF f1.length capF,.int .i64 n1,.int .u64 x1,.int .i64 g1,.int .i64 c1,.int .i64 q1,.int .i64 r1,.int .i64 l1] 59)).heap.size=w.heap.size+1:=by simp
 have HCE:Hid (∀ W,Below (w.alloc (.cells #[.int .i64 1,.slice aoI i1.length capI,.slice aoK y1.length capK,.slice aoD d1.length capD,.string t1,.slice aoV v1.length capV,.slice aoF f1.length capF,.int .i64 n1,.int .u64 x1,.int .i64 g1,.int .i64 c1,.int .i64 q1,.int .i64 r1,.int .i64 l1] 59)).heap.size (w.alloc (.cells #[.int .i64 1,.slice aoI i1.length capI,.slice aoK y1.length capK,.slice aoD d1.length capD,.string t1,.slice aoV v1.length capV,.slice aoF f1.length capF,.int .i64 n1,.int .u64 x1,.int .i64 g1,.int .i64 c1,.int .i64 q1,.int .i64 r1,.int .i64 l1] 59)) W→∀ j,W.cell? ⟨w.heap.size,j,none⟩=#[.int .i64 1,.slice aoI i1.length capI,.slice aoK y1.length capK,.slice aoD d1.length capD,.string t1,.slice aoV v1.length capV,.slice aoF f1.length capF,.int .i64 n1,.int .u64 x1,.int .i64 g1,.int .i64 c1,.int .i64 q1,.int .i64 r1,.int .i64 l1][j]?):=hid (fun W hW=>cell_rowL ((hW.block w.heap.size (by simp)).trans (heap_newL w _)))
 show Calls Tryz.prog _ #[.agg #[.int .i64 1,.slice aoI i1.length capI,.slice aoK y1.length capK,.slice aoD d1.length capD,.string t1,.slice aoV v1.length capV,.slice aoF f1.length capF,.int .i64 n1,.int .u64 x1,.int .i64 g1,.int .i64 c1,.int .i64 q1,.int .i64 r1,.int .i64 l1]] w _
 go_enter Tryz.func15,Tryz.ntmps15
 go_wp2_with fail
 generalize (w.alloc (.cells #[.int .i64 1,.slice aoI i1.length capI,.slice aoK y1.length capK,.slice aoD d1.length capD,.string t1,.slice aoV v1.length capV,.slice aoF f1.length capF,.int .i64 n1,.int .u64 x1,.int .i64 g1,.int .i64 c1,.int .i64 q1,.int .i64 r1,.int .i64 l1] 59))=X at *
 refine (HIS.out X hb0).mono ?_
 rintro e w1 ⟨rfl,hb1⟩
 have cj:=HCE.out w1 hb1
 clear HIS
 go_wp2_with fail
 refine (rnum_any _ _).mono ?_
 rintro e w2 ⟨rfl,hb2⟩
 have B2:=hb1.trans (hb2.mono hb1.size)
 have z0:=(bs_size (numB 1)).trans (numB_length 1)
 clear hb1 hb2 cj
 have cj:=HCE.out w2 B2
 replace B2:=hid B2
 have z1:=(bs_size (numB i1.length)).trans (numB_length i1.length)
 obtain⟨H,hH⟩:∃ H,numB 1++numB i1.length=H:=⟨_,rfl⟩
 have hHl:H.length=16:=by rw[← hH,qO,numB_length,numB_length]
 replace hH:=hid hH
 go_wp2_with fail
 refine (rnum_any _ _).mono ?_
 rintro e w3 ⟨rfl,hb3⟩
 have B3:=hid (B2.out.trans (hb3.mono B2.out.size))
 clear hb3 cj
 go_wp2
 go_loopg [3,4] i1.length (fun g s i wr=>∃ k:Nat,k+g=i1.length∧i=.int .i64 k∧s=.string (bs (H++joinB itemBytesD (i1.take k)))∧Hid (Below X.heap.size X wr))
 case atStart=>exact⟨0,by omega,rfl,by rw[bs_append,hH.out];simp[joinB],B3⟩
 case round=>
  obtain⟨k,hk,rfl,rfl,hbel⟩:=hrel
  clear B3 B2
  have cj:wr.cell? ⟨w.heap.size,1,none⟩=some (.slice aoI i1.length capI):=(HCE.out wr hbel.out 1).trans rfl
  cases gk with
  | succ g=>
    have hlt:k<i1.length:=by omega
    have HT:=hid (joinB_take itemBytesD i1 k hlt)
    have hMk:=HM.out k (by omega)
    have hsk:=his.out i1[k] (List.getElem_mem hlt)
    obtain⟨b,o,x,hao,hbl,hr,hx,_,_⟩:=hitI.out k hlt
    have hia:=atItems (ao:=aoI) i1.length capI k hao hlt
    have hbw:=hb0.trans (hbel.out.mono hb0.size)
    have hl1:=range10 (range_below hr hbw hbl)
    have HX:=hid (hx.below hbw)
    obtain⟨ax,cx,hxe,-,-⟩:=hx
    subst hxe
    have HSK:=hid hsk
    have hisz:=itemBytesD_le _ hsk
    have zj:(bs (H++joinB itemBytesD (i1.take k))).size=16+(joinB itemBytesD (i1.take k)).length:=by rw[bs_size,qO,hHl]
    have zi:=bs_size (itemBytesD i1[k])
    clear hr hao hbl hsk hbw
    generalize joinB itemBytesD (i1.take k)=J at *
    generalize i1[k]=Y at *
    obtain⟨k1,e1,m1,s1,u1,a1,p1,⟨h1,j1,o1⟩⟩:=Y
    go_wp2_with fail
    refine (ritemBytes_any _ _ _ HX.out HSK.out).mono ?_
    rintro e w4 ⟨rfl,hb4⟩
    have B4:=hid (hbel.out.trans (hb4.mono hbel.out.size))
    clear hb4
    go_wp2
    go_roundg g
    case rel=>exact⟨k+1,by omega,by go_num,by rw[HT.out,bs_append,List.append_assoc],B4⟩
    case measure=>omega
  | zero=>
    have hke:k=i1.length:=by omega
    subst hke
    rw[List.take_length,show H++joinB itemBytesD i1=B by rw[← hBB.out,← hH.out];simp[listB]]
    clear HM
    go_upto_region 34 with fail
    have zB:=bs_size B
    go_wp2_with fail
    refine (refSum_any (bs B) _ (by rw[zB];unfold maxLen;omega)).mono ?_
    rintro e w8 ⟨rfl,rfl⟩
    rw[bs_list]
    have hsum:=sumN_lt B
    go_wp2_with fail
    refine (rnumS_any _ _ (by omega) (by omega)).mono ?_
    rintro e w9 ⟨rfl,hb9⟩
    have zL:=(bs_size (lowB (sumN B) 8)).trans (lowB_length _ 8)
    go_wp2
    go_ret
    refine⟨ret_str ?_,hb0.trans ((hbel.out.trans (hb9.mono hbel.out.size)).mono hb0.size)⟩
    rw[bs_append]
end
section
open Go.RowKit Go.Sort
theorem rbytes_2 (p:PageD) (vi vk vd vv vf:Value) (w:World) (ha:Hangs w p vi vk vd vv vf) (hfl:p.free.length≤140737488355328) (ht:TxnOk p) (hi:isPB p=true) (hk:p.kind=2) :
  Calls Tryz.prog 15 #[.agg (pageCells p vi vk vd vv vf).toArray] w fun e w'=>e=.returned (.string (bs (bytesD p)))∧Below w.heap.size w w':=by
 have hok:=partOk_of_is hi ht
 have hpl:=partD_le p hok
 have hby:bytesD p=lowB (sumN (bodyD p)) 8++bodyD p:=by rw[bytesD,if_pos hi]
 have HIS:Hid (∀ W,Below w.heap.size w W→Calls Tryz.prog 40 #[.agg (pageCells p vi vk vd vv vf).toArray] W fun e w'=>e=.returned (.bool true)∧Below W.heap.size W w'):=hid (fun W hW=>hi ▸ refIs_any p _ _ _ _ _ W (ha.below hW) hfl ht)
 have hbd:bodyD p=numB 2++partD p:=by rw[bodyD,hk]
 rw[hby,hbd]
 obtain⟨k1,i1,y1,d1,t1,v1,f1,n1,⟨x1,⟨g1,c1,q1⟩,r1,l1⟩⟩:=p
 simp only at hk
 subst hk
 have HH:Hid (∀ W,Below w.heap.size w W→Hangs W _ vi vk vd vv vf):=hid (fun W hW=>ha.below hW)
 obtain⟨aoI,capI,rfl,him,hitI⟩:=ha.items
 obtain⟨aoK,capK,rfl,hkm,hitK⟩:=ha.keys
 obtain⟨aoD,capD,rfl,hdm,hitD⟩:=ha.kids
 obtain⟨aoV,capV,rfl,hvm,hitV⟩:=ha.vals
 obtain⟨aoF,capF,rfl,hfm,hitF⟩:=ha.free
 have htm:=ha.text
 simp only at him hkm hdm hvm hfm htm hitI hitK hitD hitV hitF hfl
 unfold maxLen at him hkm hdm hvm hfm htm
 obtain⟨hkl,hdl,hks⟩:=hok.kids rfl
 simp only at hkl hdl hks
 have hpd:partD ⟨2,i1,y1,d1,t1,v1,f1,n1,⟨x1,⟨g1,c1,q1⟩,r1,l1⟩⟩=numB d1.length++joinB kidB (y1.zip d1):=rfl
 rw[hpd] at hpl ⊢
 clear hpd
 generalize hBB:numB 2++(numB d1.length++joinB kidB (y1.zip d1))=B
 have hBl:B.length≤70000000008:=by rw[← hBB,qO,numB_length];omega
 replace hBB:=hid hBB
 have hzl:(y1.zip d1).length=d1.length:=by simp[hkl]
 have HM:Hid (∀ k,k≤d1.length→(joinB kidB ((y1.zip d1).take k)).length≤65545*k):=by
  intro k hk
  have:=joinB_le kidB 65545 ((y1.zip d1).take k) (fun x hx=>by
   have h1:=List.of_mem_zip (show (x.1,x.2)∈y1.zip d1 from List.mem_of_mem_take hx)
   have h2:=hks x.1 h1.1
   simp only[kidB,qO,textB_length,numB_length]
   omega)
  rw[List.length_take,hzl,Nat.min_eq_left hk] at this
  omega
 replace hks:=hid hks
 replace hzl:=hid hzl
 replace hkl:=hid hkl
 replace hitI:=hid hitI
 replace hitK:=hid hitK
 replace hitD:=hid hitD
 replace hitF:=hid hitF
 clear ha hok ht hi hby hbd hitV
 have hb0:Below w.heap.size w (w.alloc (.cells #[.int .i64 2,.slice aoI i1.length capI,.slice aoK y1.length capK,.slice aoD d1.length capD,.string t1,.slice aoV v1.length capV,.slice aoF f1.length capF,.int .i64 n1,.int .u64 x1,.int .i64 g1,.int .i64 c1,.int .i64 q1,.int .i64 r1,.int .i64 l1] 59)):=(qB _ _).alloc qL _
 have hs0:(w.alloc (.cells #[.int .i64 2,.slice aoI i1.length capI,.slice aoK y1.length capK,.slice aoD d1.length capD,.string t1,.slice aoV v1.length capV,.slice aoF f1.length capF,.int .i64 n1,.int .u64 x1,.int .i64 g1,.int .i64 c1,.int .i64 q1,.int .i64 r1,.int .i64 l1] 59)).heap.size=w.heap.size+1:=by simp
 have HCE:Hid (∀ W,Below (w.alloc (.cells #[.int .i64 2,.slice aoI i1.length capI,.slice aoK y1.length capK,.slice aoD d1.length capD,.string t1,.slice aoV v1.length capV,.slice aoF f1.length capF,.int .i64 n1,.int .u64 x1,.int .i64 g1,.int .i64 c1,.int .i64 q1,.int .i64 r1,.int .i64 l1] 59)).heap.size (w.alloc (.cells #[.int .i64 2,.slice aoI i1.length capI,.slice aoK y1.length capK,.slice aoD d1.length capD,.string t1,.slice aoV v1.length capV,.slice aoF f1.length capF,.int .i64 n1,.int .u64 x1,.int .i64 g1,.int .i64 c1,.int .i64 q1,.int .i64 r1,.int .i64 l1] 59)) W→∀ j,W.cell? ⟨w.heap.size,j,none⟩=#[.int .i64 2,.slice aoI i1.length capI,.slice aoK y1.length capK,.slice aoD d1.length capD,.string t1,.slice aoV v1.length capV,.slice aoF f1.length capF,.int .i64 n1,.int .u64 x1,.int .i64 g1,.int .i64 c1,.int .i64 q1,.int .i64 r1,.int .i64 l1][j]?):=hid (fun W hW=>cell_rowL ((hW.block w.heap.size (by simp)).trans (heap_newL w _)))
 show Calls Tryz.prog _ #[.agg #[.int .i64 2,.slice aoI i1.length capI,.slice aoK y1.length capK,.slice aoD d1.length capD,.string t1,.slice aoV v1.length capV,.slice aoF f1.length capF,.int .i64 n1,.int .u64 x1,.int .i64 g1,.int .i64 c1,.int .i64 q1,.int .i64 r1,.int .i64 l1]] w _
 go_enter Tryz.func15,Tryz.ntmps15
 go_wp2_with fail
 generalize (w.alloc (.cells #[.int .i64 2,.slice aoI i1.length capI,.slice aoK y1.length capK,.slice aoD d1.length capD,.string t1,.slice aoV v1.length capV,.slice aoF f1.length capF,.int .i64 n1,.int .u64 x1,.int .i64 g1,.int .i64 c1,.int .i64 q1,.int .i64 r1,.int .i64 l1] 59))=X at *
 refine (HIS.out X hb0).mono ?_
 rintro e w1 ⟨rfl,hb1⟩
 have cj:=HCE.out w1 hb1
 clear HIS
 go_wp2_with fail
 refine (rnum_any _ _).mono ?_
 rintro e w2 ⟨rfl,hb2⟩
 have B2:=hb1.trans (hb2.mono hb1.size)
 have z0:=(bs_size (numB 2)).trans (numB_length 2)
 clear hb1 hb2 cj
 have cj:=HCE.out w2 B2
 replace B2:=hid B2
 have z1:=(bs_size (numB d1.length)).trans (numB_length d1.length)
 obtain⟨H,hH⟩:∃ H,numB 2++numB d1.length=H:=⟨_,rfl⟩
 have hHl:H.length=16:=by rw[← hH,qO,numB_length,numB_length]
 replace hH:=hid hH
 go_wp2_with fail
 refine (rnum_any _ _).mono ?_
 rintro e w3 ⟨rfl,hb3⟩
 have B3:=hid (B2.out.trans (hb3.mono B2.out.size))
 clear hb3 cj
 go_wp2
 go_loopg [3,5] d1.length (fun g s i wr=>∃ k:Nat,k+g=d1.length∧i=.int .i64 k∧s=.string (bs (H++joinB kidB ((y1.zip d1).take k)))∧Hid (Below X.heap.size X wr))
 case atStart=>exact⟨0,by omega,rfl,by rw[bs_append,hH.out];simp[joinB],B3⟩
 case round=>
  obtain⟨k,hk,rfl,rfl,hbel⟩:=hrel
  clear B3 B2
  have cj3:wr.cell? ⟨w.heap.size,3,none⟩=some (.slice aoD d1.length capD):=(HCE.out wr hbel.out 3).trans rfl
  cases gk with
  | succ g=>
    have hlt:k<d1.length:=by omega
    have hly:k<y1.length:=by rw[hkl.out];exact hlt
    have cj2:wr.cell? ⟨w.heap.size,2,none⟩=some (.slice aoK y1.length capK):=(HCE.out wr hbel.out 2).trans rfl
    have HT:Hid (joinB kidB ((y1.zip d1).take (k+1))=joinB kidB ((y1.zip d1).take k)++(textB y1[k]++numB d1[k])):=hid (by
     rw[joinB_take kidB (y1.zip d1) k (by rw[hzl.out];exact hlt)]
     simp[kidB])
    have hMk:=HM.out k (by omega)
    have hsk:=hks.out y1[k] (List.getElem_mem hly)
    obtain⟨a,ha,hce,_⟩:=hitK.out k hly
    obtain⟨a2,ha2,hce2⟩:=hitD.out k hlt
    have hia:=atStrs (ao:=aoK) y1.length capK k ha hly
    have hia2:=atInts (ao:=aoD) d1.length capD k ha2 hlt
    have hbw:=hb0.trans (hbel.out.mono hb0.size)
    have hcell:wr.cell? (a.add k)=some (.string y1[k]):=(hbw.cell (p:=a.add k) (qF w _ hce)).trans hce
    have hcell2:wr.cell? (a2.add k)=some (.int .i64 d1[k]):=(hbw.cell (p:=a2.add k) (qF w _ hce2)).trans hce2
    have zj:(bs (H++joinB kidB ((y1.zip d1).take k))).size=16+(joinB kidB ((y1.zip d1).take k)).length:=by rw[bs_size,qO,hHl]
    have zt:=(bs_size (textB y1[k])).trans (textB_length y1[k])
    have zn:=(bs_size (numB d1[k])).trans (numB_length d1[k])
    have HN:=hid (rnum_regrown wr)
    have HTX:Hid (∀ d os,Calls Tryz.prog 43 #[.string y1[k]] (grow (redrawn wr d) os) fun e w''=>e=.returned (.string (bs (textB y1[k])))∧∃ p:Regrown,w''=grow (redrawn wr p.d) p.os):=hid (fun d os=>Calls.regrown_of (rtext_any y1[k] _ hsk))
    have e2:=cell_regrown cj2
    have e3:=cell_regrown cj3
    have e4:=cell_regrown hcell
    have e5:=cell_regrown hcell2
    clear hce hce2 ha ha2 hbw
    generalize joinB kidB ((y1.zip d1).take k)=J at *
    generalize y1[k]=Y at *
    generalize d1[k]=D at *
    go_wp2_with fail
    clear cj2 cj3 hcell hcell2
    refine wp_region_quiet_below (by kernel_rfl) (by kernel_rfl) ?_
    repeat (go_big_quiet_step (first|exact HTX.out _ _|exact HN.out _ _ _))
    refine wpQuiet_nil ?_
    intro _ hw'
    obtain⟨⟨dq,osq⟩,hw''⟩:=hw'
    subst hw''
    have B4:=hid (hbel.out.trans ((below_regrown wr dq osq).mono hbel.out.size))
    clear e2 e3 e4 e5
    generalize grow (redrawn wr dq) osq=w4 at *
    go_wp2
    go_roundg g
    case rel=>exact⟨k+1,by omega,by go_num,by rw[HT.out,bs_append,bs_append];simp,B4⟩
    case measure=>omega
  | zero=>
    have hke:k=d1.length:=by omega
    subst hke
    rw[List.take_of_length_le (by rw[hzl.out];exact Nat.le_refl _),show H++joinB kidB (y1.zip d1)=B by rw[← hBB.out,← hH.out];simp]
    clear HM
    go_upto_region 34 with fail
    have zB:=bs_size B
    go_wp2_with fail
    refine (refSum_any (bs B) _ (by rw[zB];unfold maxLen;omega)).mono ?_
    rintro e w8 ⟨rfl,rfl⟩
    rw[bs_list]
    have hsum:=sumN_lt B
    go_wp2_with fail
    refine (rnumS_any _ _ (by omega) (by omega)).mono ?_
    rintro e w9 ⟨rfl,hb9⟩
    have zL:=(bs_size (lowB (sumN B) 8)).trans (lowB_length _ 8)
    go_wp2
    go_ret
    refine⟨ret_str ?_,hb0.trans ((hbel.out.trans (hb9.mono hbel.out.size)).mono hb0.size)⟩
    rw[bs_append]
theorem rbytes_5 (p:PageD) (vi vk vd vv vf:Value) (w:World) (ha:Hangs w p vi vk vd vv vf) (hfl:p.free.length≤140737488355328) (ht:TxnOk p) (hi:isPB p=true) (hk:p.kind=5) :
  Calls Tryz.prog 15 #[.agg (pageCells p vi vk vd vv vf).toArray] w fun e w'=>e=.returned (.string (bs (bytesD p)))∧Below w.heap.size w w':=by
 have hok:=partOk_of_is hi ht
 have hpl:=partD_le p hok
 have hby:bytesD p=lowB (sumN (bodyD p)) 8++bodyD p:=by rw[bytesD,if_pos hi]
 have HIS:Hid (∀ W,Below w.heap.size w W→Calls Tryz.prog 40 #[.agg (pageCells p vi vk vd vv vf).toArray] W fun e w'=>e=.returned (.bool true)∧Below W.heap.size W w'):=hid (fun W hW=>hi ▸ refIs_any p _ _ _ _ _ W (ha.below hW) hfl ht)
 have hbd:bodyD p=numB 5++partD p:=by rw[bodyD,hk]
 rw[hby,hbd]
 obtain⟨k1,i1,y1,d1,t1,v1,f1,n1,⟨x1,⟨g1,c1,q1⟩,r1,l1⟩⟩:=p
 simp only at hk
 subst hk
 have HH:Hid (∀ W,Below w.heap.size w W→Hangs W _ vi vk vd vv vf):=hid (fun W hW=>ha.below hW)
 obtain⟨aoI,capI,rfl,him,hitI⟩:=ha.items
 obtain⟨aoK,capK,rfl,hkm,hitK⟩:=ha.keys
 obtain⟨aoD,capD,rfl,hdm,hitD⟩:=ha.kids
 obtain⟨aoV,capV,rfl,hvm,hitV⟩:=ha.vals
 obtain⟨aoF,capF,rfl,hfm,hitF⟩:=ha.free
 have htm:=ha.text
 simp only at him hkm hdm hvm hfm htm hitI hitK hitD hitV hitF hfl
 unfold maxLen at him hkm hdm hvm hfm htm
 obtain⟨hfl2,hfs⟩:=hok.free rfl
 simp only at hfl2 hfs
 have hpd:partD ⟨5,i1,y1,d1,t1,v1,f1,n1,⟨x1,⟨g1,c1,q1⟩,r1,l1⟩⟩=listB freeBytesD f1++numB n1:=rfl
 rw[hpd] at hpl ⊢
 clear hpd
 generalize hBB:numB 5++(listB freeBytesD f1++numB n1)=B
 have hBl:B.length≤70000000008:=by rw[← hBB,qO,numB_length];omega
 replace hBB:=hid hBB
 have HM:Hid (∀ k,k≤f1.length→(joinB freeBytesD (f1.take k)).length≤8016*k):=by
  intro k hk
  have:=joinB_le freeBytesD 8016 (f1.take k) (fun x hx=>freeBytesD_le x (hfs x (List.mem_of_mem_take hx)))
  rw[List.length_take,Nat.min_eq_left hk] at this
  omega
 replace hfs:=hid hfs
 replace hitI:=hid hitI
 replace hitK:=hid hitK
 replace hitD:=hid hitD
 replace hitF:=hid hitF
 clear ha hok ht hi hby hbd hitV
 have hb0:Below w.heap.size w (w.alloc (.cells #[.int .i64 5,.slice aoI i1.length capI,.slice aoK y1.length capK,.slice aoD d1.length capD,.string t1,.slice aoV v1.length capV,.slice aoF f1.length capF,.int .i64 n1,.int .u64 x1,.int .i64 g1,.int .i64 c1,.int .i64 q1,.int .i64 r1,.int .i64 l1] 59)):=(qB _ _).alloc qL _
 have hs0:(w.alloc (.cells #[.int .i64 5,.slice aoI i1.length capI,.slice aoK y1.length capK,.slice aoD d1.length capD,.string t1,.slice aoV v1.length capV,.slice aoF f1.length capF,.int .i64 n1,.int .u64 x1,.int .i64 g1,.int .i64 c1,.int .i64 q1,.int .i64 r1,.int .i64 l1] 59)).heap.size=w.heap.size+1:=by simp
 have HCE:Hid (∀ W,Below (w.alloc (.cells #[.int .i64 5,.slice aoI i1.length capI,.slice aoK y1.length capK,.slice aoD d1.length capD,.string t1,.slice aoV v1.length capV,.slice aoF f1.length capF,.int .i64 n1,.int .u64 x1,.int .i64 g1,.int .i64 c1,.int .i64 q1,.int .i64 r1,.int .i64 l1] 59)).heap.size (w.alloc (.cells #[.int .i64 5,.slice aoI i1.length capI,.slice aoK y1.length capK,.slice aoD d1.length capD,.string t1,.slice aoV v1.length capV,.slice aoF f1.length capF,.int .i64 n1,.int .u64 x1,.int .i64 g1,.int .i64 c1,.int .i64 q1,.int .i64 r1,.int .i64 l1] 59)) W→∀ j,W.cell? ⟨w.heap.size,j,none⟩=#[.int .i64 5,.slice aoI i1.length capI,.slice aoK y1.length capK,.slice aoD d1.length capD,.string t1,.slice aoV v1.length capV,.slice aoF f1.length capF,.int .i64 n1,.int .u64 x1,.int .i64 g1,.int .i64 c1,.int .i64 q1,.int .i64 r1,.int .i64 l1][j]?):=hid (fun W hW=>cell_rowL ((hW.block w.heap.size (by simp)).trans (heap_newL w _)))
 show Calls Tryz.prog _ #[.agg #[.int .i64 5,.slice aoI i1.length capI,.slice aoK y1.length capK,.slice aoD d1.length capD,.string t1,.slice aoV v1.length capV,.slice aoF f1.length capF,.int .i64 n1,.int .u64 x1,.int .i64 g1,.int .i64 c1,.int .i64 q1,.int .i64 r1,.int .i64 l1]] w _
 go_enter Tryz.func15,Tryz.ntmps15
 go_wp2_with fail
 generalize (w.alloc (.cells #[.int .i64 5,.slice aoI i1.length capI,.slice aoK y1.length capK,.slice aoD d1.length capD,.string t1,.slice aoV v1.length capV,.slice aoF f1.length capF,.int .i64 n1,.int .u64 x1,.int .i64 g1,.int .i64 c1,.int .i64 q1,.int .i64 r1,.int .i64 l1] 59))=X at *
 refine (HIS.out X hb0).mono ?_
 rintro e w1 ⟨rfl,hb1⟩
 have cj:=HCE.out w1 hb1
 clear HIS
 go_wp2_with fail
 refine (rnum_any _ _).mono ?_
 rintro e w2 ⟨rfl,hb2⟩
 have B2:=hb1.trans (hb2.mono hb1.size)
 have z0:=(bs_size (numB 5)).trans (numB_length 5)
 clear hb1 hb2 cj
 have cj:=HCE.out w2 B2
 replace B2:=hid B2
 have z1:=(bs_size (numB f1.length)).trans (numB_length f1.length)
 obtain⟨H,hH⟩:∃ H,numB 5++numB f1.length=H:=⟨_,rfl⟩
 have hHl:H.length=16:=by rw[← hH,qO,numB_length,numB_length]
 replace hH:=hid hH
 go_wp2_with fail
 refine (rnum_any _ _).mono ?_
 rintro e w3 ⟨rfl,hb3⟩
 have B3:=hid (B2.out.trans (hb3.mono B2.out.size))
 clear hb3 cj
 go_wp2
 go_loopg [3,6] f1.length (fun g s i wr=>∃ k:Nat,k+g=f1.length∧i=.int .i64 k∧s=.string (bs (H++joinB freeBytesD (f1.take k)))∧Hid (Below X.heap.size X wr))
 case atStart=>exact⟨0,by omega,rfl,by rw[bs_append,hH.out];simp[joinB],B3⟩
 case round=>
  obtain⟨k,hk,rfl,rfl,hbel⟩:=hrel
  clear B3 B2
  have cj6:wr.cell? ⟨w.heap.size,6,none⟩=some (.slice aoF f1.length capF):=(HCE.out wr hbel.out 6).trans rfl
  cases gk with
  | succ g=>
    have hlt:k<f1.length:=by omega
    have HT:=hid (joinB_take freeBytesD f1 k hlt)
    have hMk:=HM.out k (by omega)
    obtain⟨hx0,hx1,hxl⟩:=hfs.out f1[k] (List.getElem_mem hlt)
    obtain⟨b,o,u,ha,hbl,hce,hce2,hids⟩:=hitF.out k hlt
    have hia:=atFreesM (ao:=aoF) f1.length capF k ha hlt
    have hbw:=hb0.trans (hbel.out.mono hb0.size)
    have hcell:wr.cell? ⟨b,o+k*2,none⟩=some (.int .u64 f1[k].txn):=(hbw.cell (p:=⟨b,o+k*2,none⟩) hbl).trans hce
    have hcell2:wr.cell? ⟨b,o+k*2+1,none⟩=some u:=(hbw.cell (p:=⟨b,o+k*2+1,none⟩) hbl).trans hce2
    have HF2:Hid (∀ W,Below X.heap.size X W→W.cell? ⟨b,o+k*2+1,none⟩=some u):=hid (fun W hW=>((hb0.trans (hW.mono hb0.size)).cell (p:=⟨b,o+k*2+1,none⟩) hbl).trans hce2)
    obtain⟨au,cu,hu,hum,hcu⟩:=hids
    subst hu
    have HCU:=hid hcu
    have zj:(bs (H++joinB freeBytesD (f1.take k))).size=16+(joinB freeBytesD (f1.take k)).length:=by rw[bs_size,qO,hHl]
    have zt:=(bs_size (lowB f1[k].txn 8)).trans (lowB_length f1[k].txn 8)
    have zn:=(bs_size (numB f1[k].ids.length)).trans (numB_length f1[k].ids.length)
    have HN:=hid (rnum_regrown wr)
    have HNS:Hid (∀ d os,Calls Tryz.prog 45 #[.int .u64 f1[k].txn] (grow (redrawn wr d) os) fun e w''=>e=.returned (.string (bs (lowB f1[k].txn 8)))∧∃ p:Regrown,w''=grow (redrawn wr p.d) p.os):=hid (fun _ _=>Calls.regrown_of (rnumS_any f1[k].txn _ hx0 hx1))
    have e6:=cell_regrown cj6
    have e4:=cell_regrown hcell
    have e5:=cell_regrown hcell2
    clear hce hce2 ha hbl hbw hcu
    generalize joinB freeBytesD (f1.take k)=J at *
    generalize f1[k]=Y at *
    obtain⟨tx,ids⟩:=Y
    simp only at *
    have HMI:Hid (∀ j,j≤ids.length→(joinB numB (ids.take j)).length≤8*j):=by
     intro j hj
     have:=joinB_le numB 8 (ids.take j) (fun x _=>by rw[numB_length];omega)
     rw[List.length_take,Nat.min_eq_left hj] at this
     omega
    obtain⟨H2,hH2⟩:∃ H2,H++J++lowB tx 8++numB ids.length=H2:=⟨_,rfl⟩
    have hH2l:H2.length=32+J.length:=by rw[← hH2];simp only[qO,numB_length,lowB_length,hHl];omega
    replace hH2:=hid hH2
    go_wp2_with fail
    clear cj6 hcell hcell2
    refine wp_region_quiet_below (by kernel_rfl) (by kernel_rfl) ?_
    repeat (go_big_quiet_step (first|exact HNS.out _ _|exact HN.out _ _ _))
    refine wpQuiet_nil ?_
    intro _ hw'
    obtain⟨⟨dq,osq⟩,hw''⟩:=hw'
    subst hw''
    have B4:=hid (hbel.out.trans ((below_regrown wr dq osq).mono hbel.out.size))
    clear e6 e4 e5 HNS HN
    generalize grow (redrawn wr dq) osq=w4 at *
    go_wp2
    go_loopg [3,7] ids.length (fun g2 s i wq=>∃ j:Nat,j+g2=ids.length∧i=.int .i64 j∧s=.string (bs (H2++joinB numB (ids.take j)))∧Hid (Below X.heap.size X wq))
    case atStart=>exact⟨0,by omega,rfl,by rw[bs_append,bs_append,hH2.out];simp[joinB],B4⟩
    case round=>
     obtain⟨j,hj2,rfl,rfl,hbel2⟩:=hrel
     clear B4
     have cq6:wr.cell? ⟨w.heap.size,6,none⟩=some (.slice aoF f1.length capF):=(HCE.out wr hbel2.out 6).trans rfl
     have cq7:=HF2.out wr hbel2.out
     cases gk with
     | succ g2=>
       have hlj:j<ids.length:=by omega
       have HTJ:=hid (joinB_take numB ids j hlj)
       have hMj:=HMI.out j (by omega)
       obtain⟨a,ha,hce⟩:=HCU.out j hlj
       have hia2:=atInts (ao:=au) ids.length cu j ha hlj
       have hbw:=hb0.trans (hbel2.out.mono hb0.size)
       have hcell:wr.cell? (a.add j)=some (.int .i64 ids[j]):=(hbw.cell (p:=a.add j) (qF w _ hce)).trans hce
       have zq:(bs (H2++joinB numB (ids.take j))).size=32+J.length+(joinB numB (ids.take j)).length:=by rw[bs_size,qO,hH2l]
       have zm:=(bs_size (numB ids[j])).trans (numB_length ids[j])
       clear hce ha hbw
       generalize joinB numB (ids.take j)=JJ at *
       generalize ids[j]=D at *
       go_wp2_with fail
       refine (rnum_any _ _).mono ?_
       rintro e w5 ⟨rfl,hb5⟩
       have B5:=hid (hbel2.out.trans (hb5.mono hbel2.out.size))
       clear hb5
       go_wp2
       go_roundg g2
       case rel=>exact⟨j+1,by omega,by go_num,by rw[HTJ.out,bs_append,List.append_assoc],B5⟩
       case measure=>omega
     | zero=>
       have hje:j=ids.length:=by omega
       subst hje
       rw[List.take_length]
       go_wp2
       go_roundg g
       case rel=>exact⟨k+1,by omega,by go_num,by rw[HT.out,← hH2.out];simp[freeBytesD,listB],hbel2⟩
       case measure=>omega
  | zero=>
    have hke:k=f1.length:=by omega
    subst hke
    have hMk:=HM.out f1.length qL
    rw[List.take_length] at hMk ⊢
    have cj7:wr.cell? ⟨w.heap.size,7,none⟩=some (.int .i64 n1):=(HCE.out wr hbel.out 7).trans rfl
    have zj:(bs (H++joinB freeBytesD f1)).size=16+(joinB freeBytesD f1).length:=by rw[bs_size,qO,hHl]
    have zn:=(bs_size (numB n1)).trans (numB_length n1)
    go_wp2_with fail
    refine (rnum_any _ _).mono ?_
    rintro e w5 ⟨rfl,hb5⟩
    have B5:=hid (hbel.out.trans (hb5.mono hbel.out.size))
    clear hb5 HM
    go_upto_region 34 with fail
    rw[bs_append,show H++joinB freeBytesD f1++numB n1=B by rw[← hBB.out,← hH.out];simp[listB]]
    have zB:=bs_size B
    go_wp2_with fail
    refine (refSum_any (bs B) _ (by rw[zB];unfold maxLen;omega)).mono ?_
    rintro e w8 ⟨rfl,rfl⟩
    rw[bs_list]
    have hsum:=sumN_lt B
    go_wp2_with fail
    refine (rnumS_any _ _ (by omega) (by omega)).mono ?_
    rintro e w9 ⟨rfl,hb9⟩
    have zL:=(bs_size (lowB (sumN B) 8)).trans (lowB_length _ 8)
    go_wp2
    go_ret
    refine⟨ret_str ?_,hb0.trans ((B5.out.trans (hb9.mono B5.out.size)).mono hb0.size)⟩
    rw[bs_append]
theorem rbytes_not (p:PageD) (vi vk vd vv vf:Value) (w:World) (ha:Hangs w p vi vk vd vv vf) (hfl:p.free.length≤140737488355328) (ht:TxnOk p) (hi:isPB p=false) :
  Calls Tryz.prog 15 #[.agg (pageCells p vi vk vd vv vf).toArray] w fun e w'=>e=.returned (.string (bs (bytesD p)))∧Below w.heap.size w w':=by
 have hby:bytesD p=[]:=by rw[bytesD,hi];rfl
 have HIS:Hid (∀ W,Below w.heap.size w W→Calls Tryz.prog 40 #[.agg (pageCells p vi vk vd vv vf).toArray] W fun e w'=>e=.returned (.bool false)∧Below W.heap.size W w'):=hid (fun W hW=>hi ▸ refIs_any p _ _ _ _ _ W (ha.below hW) hfl ht)
 rw[hby]
 obtain⟨k1,i1,y1,d1,t1,v1,f1,n1,⟨x1,⟨g1,c1,q1⟩,r1,l1⟩⟩:=p
 obtain⟨aoI,capI,rfl,him,hitI⟩:=ha.items
 obtain⟨aoK,capK,rfl,hkm,hitK⟩:=ha.keys
 obtain⟨aoD,capD,rfl,hdm,hitD⟩:=ha.kids
 obtain⟨aoV,capV,rfl,hvm,hitV⟩:=ha.vals
 obtain⟨aoF,capF,rfl,hfm,hitF⟩:=ha.free
 clear ha ht hi hby hitI hitK hitD hitV hitF him hkm hdm hvm hfm hfl
 have hb0:Below w.heap.size w (w.alloc (.cells #[.int .i64 k1,.slice aoI i1.length capI,.slice aoK y1.length capK,.slice aoD d1.length capD,.string t1,.slice aoV v1.length capV,.slice aoF f1.length capF,.int .i64 n1,.int .u64 x1,.int .i64 g1,.int .i64 c1,.int .i64 q1,.int .i64 r1,.int .i64 l1] 59)):=(qB _ _).alloc qL _
 show Calls Tryz.prog _ #[.agg #[.int .i64 k1,.slice aoI i1.length capI,.slice aoK y1.length capK,.slice aoD d1.length capD,.string t1,.slice aoV v1.length capV,.slice aoF f1.length capF,.int .i64 n1,.int .u64 x1,.int .i64 g1,.int .i64 c1,.int .i64 q1,.int .i64 r1,.int .i64 l1]] w _
 go_enter Tryz.func15,Tryz.ntmps15
 go_wp2_with fail
 generalize (w.alloc (.cells #[.int .i64 k1,.slice aoI i1.length capI,.slice aoK y1.length capK,.slice aoD d1.length capD,.string t1,.slice aoV v1.length capV,.slice aoF f1.length capF,.int .i64 n1,.int .u64 x1,.int .i64 g1,.int .i64 c1,.int .i64 q1,.int .i64 r1,.int .i64 l1] 59))=X at *
 refine (HIS.out X hb0).mono ?_
 rintro e w1 ⟨rfl,hb1⟩
 clear HIS
 go_wp2
 go_ret
 exact⟨rfl,hb0.trans (hb1.mono hb0.size)⟩
theorem rbytes_any (p:PageD) (vi vk vd vv vf:Value) (w:World) (ha:Hangs w p vi vk vd vv vf) (hfl:p.free.length≤140737488355328) (ht:TxnOk p) :
  Calls Tryz.prog 15 #[.agg (pageCells p vi vk vd vv vf).toArray] w fun e w'=>e=.returned (.string (bs (bytesD p)))∧Below w.heap.size w w':=by
 cases hi:isPB p with
 | false=>exact rbytes_not p _ _ _ _ _ w ha hfl ht hi
 | true=>
   by_cases c1:p.kind=1
   ·exact rbytes_1 p _ _ _ _ _ w ha hfl ht hi c1
   by_cases c2:p.kind=2
   ·exact rbytes_2 p _ _ _ _ _ w ha hfl ht hi c2
   by_cases c3:p.kind=3
   ·exact rbytes_3 p _ _ _ _ _ w ha hfl ht hi c3
   by_cases c4:p.kind=4
   ·exact rbytes_4 p _ _ _ _ _ w ha hfl ht hi c4
   by_cases c5:p.kind=5
   ·exact rbytes_5 p _ _ _ _ _ w ha hfl ht hi c5
   by_cases c6:p.kind=6
   ·exact rbytes_6 p _ _ _ _ _ w ha hfl ht hi c6
   ·exfalso
    simp[isPB,rightB,c1,c2,c3,c4,c5,c6] at hi
end
end Go.Proofs.YtbghhklbfnplbaaGreat

import Derived.Test.YtbghhklbfnplbaaGreatC00
import Derived.Test.YtbghhklbfnplbaaGreatC10
set_option maxHeartbeats 4000000
set_option maxRecDepth 10000
namespace Go.Proofs.YtbghhklbfnplbaaGreat
section
open Go.RowKit Go.Sort
theorem takePage_3 (b rb:Nat) (s:St) (w:World) (h:AtSt w b rb s) (hk:iV (nS s)=3) :
  Calls Tryz.prog 116 #[.pointer (some ⟨b,0,none⟩)] w fun e w'=>∃ vi vk vd vv vf,e=.returned (.agg (pageCells (partV 3 (nS (nS s))) vi vk vd vv vf).toArray)∧HangsB w.heap.size w' (partV 3 (nS (nS s))) vi vk vd vv vf∧w.grownBy w' (some b):=by
 have H0:=hid (h.alloc (.cells #[.int .i64 0,.slice none 0 0,.slice none 0 0,.slice none 0 0,.string ⟨#[]⟩,.slice none 0 0,.slice none 0 0,.int .i64 0,.int .u64 0,.int .i64 0,.int .i64 0,.int .i64 0,.int .i64 0,.int .i64 0] 59))
 have hlt:=h.lt
 have hlr:=h.2.1
 have HG0:=hid (grown_new (grown_refl w (some b)) (.cells #[.int .i64 0,.slice none 0 0,.slice none 0 0,.slice none 0 0,.string ⟨#[]⟩,.slice none 0 0,.slice none 0 0,.int .i64 0,.int .u64 0,.int .i64 0,.int .i64 0,.int .i64 0,.int .i64 0,.int .i64 0] 59))
 have HR0:=hid (heap_newL w (.cells #[.int .i64 0,.slice none 0 0,.slice none 0 0,.slice none 0 0,.string ⟨#[]⟩,.slice none 0 0,.slice none 0 0,.int .i64 0,.int .u64 0,.int .i64 0,.int .i64 0,.int .i64 0,.int .i64 0,.int .i64 0] 59))
 have HCS:=hid (fun W (hW:AtSt W b rb s)=>cnum_any b rb s W hW)
 clear h
 generalize nS s=s0 at *
 have HCN:Hid (∀ W,AtSt W b rb s0→Calls Tryz.prog 128 #[.pointer (some ⟨b,0,none⟩)] W fun e w'=>e=.returned (.int .i64 3)∧AtSt w' b rb (nS s0)∧W.grownBy w' (some b)):=fun W hW=>by
  rw[← hk]
  exact takeNum_any b rb s0 W hW
 generalize nS s0=s1 at *
 clear hk
 go_enter Tryz.func116,Tryz.ntmps116
 go_wp2_with fail
 refine (HCS.out _ H0.out).mono ?_
 rintro e w1 ⟨rfl,hc,hg⟩
 have HC1:=hid hc
 have HG1:=hid (grown_trans HG0.out hg)
 have HR1:Hid (w1.heap[w.heap.size]?=some (.cells #[.int .i64 0,.slice none 0 0,.slice none 0 0,.slice none 0 0,.string ⟨#[]⟩,.slice none 0 0,.slice none 0 0,.int .i64 0,.int .u64 0,.int .i64 0,.int .i64 0,.int .i64 0,.int .i64 0,.int .i64 0] 59 (0,0))):=(hg.block w.heap.size (by simp) (by simp;omega)).trans HR0.out
 clear hc hg H0 HG0 HR0 HCS
 go_wp2_with fail
 refine (HCN.out _ HC1.out).mono ?_
 rintro e w2 ⟨rfl,hc,hg⟩
 have HC2':=hid hc
 have HG2':=hid (grown_trans HG1.out hg)
 have hR2':w2.heap[w.heap.size]?=some (.cells #[.int .i64 0,.slice none 0 0,.slice none 0 0,.slice none 0 0,.string ⟨#[]⟩,.slice none 0 0,.slice none 0 0,.int .i64 0,.int .u64 0,.int .i64 0,.int .i64 0,.int .i64 0,.int .i64 0,.int .i64 0] 59 (0,0)):=(hg.block w.heap.size (by have:=(qA HR1.out);omega) (by simp;omega)).trans HR1.out
 have HR2':=hid hR2'
 have HC2:=hid (hc.alloc (.cells #[.int .i64 3,.slice none 0 0,.slice none 0 0,.slice none 0 0,.string ⟨#[]⟩,.slice none 0 0,.slice none 0 0,.int .i64 0,.int .u64 0,.int .i64 0,.int .i64 0,.int .i64 0,.int .i64 0,.int .i64 0] 59))
 have HP2:Hid (InP w (w2.alloc (.cells #[.int .i64 3,.slice none 0 0,.slice none 0 0,.slice none 0 0,.string ⟨#[]⟩,.slice none 0 0,.slice none 0 0,.int .i64 0,.int .u64 0,.int .i64 0,.int .i64 0,.int .i64 0,.int .i64 0,.int .i64 0] 59)) w2.heap.size b #[.int .i64 3,.slice none 0 0,.slice none 0 0,.slice none 0 0,.string ⟨#[]⟩,.slice none 0 0,.slice none 0 0,.int .i64 0,.int .u64 0,.int .i64 0,.int .i64 0,.int .i64 0,.int .i64 0,.int .i64 0]):=
  ⟨heap_newL w2 _,(qE _ _ _ (qA hR2')).trans hR2',(qA hR2'),grown_new HG2'.out _⟩
 have hszP:w.heap.size<w2.heap.size:=(qA hR2')
 clear hc hg HC1 HG1 HR1 HCN hR2'
 go_wp2_with fail
 generalize (w2.alloc (.cells #[.int .i64 3,.slice none 0 0,.slice none 0 0,.slice none 0 0,.string ⟨#[]⟩,.slice none 0 0,.slice none 0 0,.int .i64 0,.int .u64 0,.int .i64 0,.int .i64 0,.int .i64 0,.int .i64 0,.int .i64 0] 59))=W3 at *
 generalize w2.heap.size=P at *
 clear HC2' HG2' HR2'
 refine (ctext_any b rb s1 _ HC2.out).mono ?_
 rintro e w4 ⟨rfl,hc,hg⟩
 have HP4:=hid (HP2.out.grown hlt hg)
 have HP5:Hid (InP w (w4.setCell ⟨P,4,none⟩ (.string (tV s1))) P b #[.int .i64 3,.slice none 0 0,.slice none 0 0,.slice none 0 0,.string (tV s1),.slice none 0 0,.slice none 0 0,.int .i64 0,.int .u64 0,.int .i64 0,.int .i64 0,.int .i64 0,.int .i64 0,.int .i64 0]):=HP4.out.set 4 (.string (tV s1))
 have HT:=hid (tV_size s1)
 have HW:Hid (∀ W',(w4.setCell ⟨P,4,none⟩ (.string (tV s1))).grownBy W' (some w.heap.size)→HangsB w.heap.size W' (partV 3 s1) (.slice none 0 0) (.slice none 0 0) (.slice none 0 0) (.slice none 0 0) (.slice none 0 0)∧w.grownBy W' (some b)):=fun W' hg=>by
  refine⟨?_,grown_step HP5.out.2.2.2 hg (fun k hk=>by cases hk;exact Nat.le_refl _)⟩
  have hty:∀ k,some w.heap.size=some k→∃ cs T fr,(w4.setCell ⟨P,4,none⟩ (.string (tV s1))).heap[k]?=some (.cells cs T fr)∧T=59:=fun k hk=>by
   cases hk
   exact⟨_,_,_,HP5.out.2.1,rfl⟩
  exact fun _ _=>⟨items_nil _,strs_nil _,ints_nil _,by have:=HT.out;simp only[partV];unfold maxLen;simp;omega,strs_nil _,frees_nil _⟩
 have cP4:=HP4.out.cell
 have fP4:=HP4.out.frozen
 have cR4:=HP4.out.cellR
 have fR4:=HP4.out.frozenR
 clear hc hg HC2 HP2
 go_wp2
 refine bodyPost_ret (v:=.agg #[.int .i64 3,.slice none 0 0,.slice none 0 0,.slice none 0 0,.string (tV s1),.slice none 0 0,.slice none 0 0,.int .i64 0,.int .u64 0,.int .i64 0,.int .i64 0,.int .i64 0,.int .i64 0,.int .i64 0]) (by simp[results,Tryz.results116,go_sem,cR4]) rfl ⟨_,_,_,_,_,rfl,HW.out _ ?_⟩
 repeat (refine grown_trans ?_ (grown_setCell _ _ _ _))
 exact grown_refl _ _
theorem takePage_4 (b rb:Nat) (s:St) (w:World) (h:AtSt w b rb s) (hk:iV (nS s)=4) :
  Calls Tryz.prog 116 #[.pointer (some ⟨b,0,none⟩)] w fun e w'=>∃ vi vk vd vv vf,e=.returned (.agg (pageCells (partV 4 (nS (nS s))) vi vk vd vv vf).toArray)∧HangsB w.heap.size w' (partV 4 (nS (nS s))) vi vk vd vv vf∧w.grownBy w' (some b):=by
 have H0:=hid (h.alloc (.cells #[.int .i64 0,.slice none 0 0,.slice none 0 0,.slice none 0 0,.string ⟨#[]⟩,.slice none 0 0,.slice none 0 0,.int .i64 0,.int .u64 0,.int .i64 0,.int .i64 0,.int .i64 0,.int .i64 0,.int .i64 0] 59))
 have hlt:=h.lt
 have hlr:=h.2.1
 have HG0:=hid (grown_new (grown_refl w (some b)) (.cells #[.int .i64 0,.slice none 0 0,.slice none 0 0,.slice none 0 0,.string ⟨#[]⟩,.slice none 0 0,.slice none 0 0,.int .i64 0,.int .u64 0,.int .i64 0,.int .i64 0,.int .i64 0,.int .i64 0,.int .i64 0] 59))
 have HR0:=hid (heap_newL w (.cells #[.int .i64 0,.slice none 0 0,.slice none 0 0,.slice none 0 0,.string ⟨#[]⟩,.slice none 0 0,.slice none 0 0,.int .i64 0,.int .u64 0,.int .i64 0,.int .i64 0,.int .i64 0,.int .i64 0,.int .i64 0] 59))
 have HCS:=hid (fun W (hW:AtSt W b rb s)=>cnum_any b rb s W hW)
 clear h
 generalize nS s=s0 at *
 have HCN:Hid (∀ W,AtSt W b rb s0→Calls Tryz.prog 128 #[.pointer (some ⟨b,0,none⟩)] W fun e w'=>e=.returned (.int .i64 4)∧AtSt w' b rb (nS s0)∧W.grownBy w' (some b)):=fun W hW=>by
  rw[← hk]
  exact takeNum_any b rb s0 W hW
 generalize nS s0=s1 at *
 clear hk
 go_enter Tryz.func116,Tryz.ntmps116
 go_wp2_with fail
 refine (HCS.out _ H0.out).mono ?_
 rintro e w1 ⟨rfl,hc,hg⟩
 have HC1:=hid hc
 have HG1:=hid (grown_trans HG0.out hg)
 have HR1:Hid (w1.heap[w.heap.size]?=some (.cells #[.int .i64 0,.slice none 0 0,.slice none 0 0,.slice none 0 0,.string ⟨#[]⟩,.slice none 0 0,.slice none 0 0,.int .i64 0,.int .u64 0,.int .i64 0,.int .i64 0,.int .i64 0,.int .i64 0,.int .i64 0] 59 (0,0))):=(hg.block w.heap.size (by simp) (by simp;omega)).trans HR0.out
 clear hc hg H0 HG0 HR0 HCS
 go_wp2_with fail
 refine (HCN.out _ HC1.out).mono ?_
 rintro e w2 ⟨rfl,hc,hg⟩
 have HC2':=hid hc
 have HG2':=hid (grown_trans HG1.out hg)
 have hR2':w2.heap[w.heap.size]?=some (.cells #[.int .i64 0,.slice none 0 0,.slice none 0 0,.slice none 0 0,.string ⟨#[]⟩,.slice none 0 0,.slice none 0 0,.int .i64 0,.int .u64 0,.int .i64 0,.int .i64 0,.int .i64 0,.int .i64 0,.int .i64 0] 59 (0,0)):=(hg.block w.heap.size (by have:=(qA HR1.out);omega) (by simp;omega)).trans HR1.out
 have HR2':=hid hR2'
 have HC2:=hid (hc.alloc (.cells #[.int .i64 4,.slice none 0 0,.slice none 0 0,.slice none 0 0,.string ⟨#[]⟩,.slice none 0 0,.slice none 0 0,.int .i64 0,.int .u64 0,.int .i64 0,.int .i64 0,.int .i64 0,.int .i64 0,.int .i64 0] 59))
 have HP2:Hid (InP w (w2.alloc (.cells #[.int .i64 4,.slice none 0 0,.slice none 0 0,.slice none 0 0,.string ⟨#[]⟩,.slice none 0 0,.slice none 0 0,.int .i64 0,.int .u64 0,.int .i64 0,.int .i64 0,.int .i64 0,.int .i64 0,.int .i64 0] 59)) w2.heap.size b #[.int .i64 4,.slice none 0 0,.slice none 0 0,.slice none 0 0,.string ⟨#[]⟩,.slice none 0 0,.slice none 0 0,.int .i64 0,.int .u64 0,.int .i64 0,.int .i64 0,.int .i64 0,.int .i64 0,.int .i64 0]):=
  ⟨heap_newL w2 _,(qE _ _ _ (qA hR2')).trans hR2',(qA hR2'),grown_new HG2'.out _⟩
 have hszP:w.heap.size<w2.heap.size:=(qA hR2')
 clear hc hg HC1 HG1 HR1 HCN hR2'
 have HTT:=hid (takeTexts_any b rb s1 12 _ HC2.out (by omega))
 have HPV:Hid ((partV 4 s1).vals=textsV (min (nV s1) 12) (nS s1)):=rfl
 go_wp2_with fail
 refine HTT.out.mono ?_
 rintro e w4 ⟨v,rfl,hov,hc,hg⟩
 obtain⟨av,nv,cv,rfl⟩:=hov.slice
 have HOV:=hid hov
 generalize (w2.alloc (.cells #[.int .i64 4,.slice none 0 0,.slice none 0 0,.slice none 0 0,.string ⟨#[]⟩,.slice none 0 0,.slice none 0 0,.int .i64 0,.int .u64 0,.int .i64 0,.int .i64 0,.int .i64 0,.int .i64 0,.int .i64 0] 59))=W3 at *
 generalize w2.heap.size=P at *
 clear HC2' HG2' HR2' HTT hov
 have hW3:w.heap.size≤W3.heap.size:=HP2.out.2.2.2.size
 have HP4:=hid (HP2.out.grown hlt hg)
 have HP5:Hid (InP w (w4.setCell ⟨P,5,none⟩ (.slice av nv cv)) P b #[.int .i64 4,.slice none 0 0,.slice none 0 0,.slice none 0 0,.string ⟨#[]⟩,.slice av nv cv,.slice none 0 0,.int .i64 0,.int .u64 0,.int .i64 0,.int .i64 0,.int .i64 0,.int .i64 0,.int .i64 0]):=HP4.out.set 5 (.slice av nv cv)
 have HOV5:=hid (HOV.out.setNe HP4.out.1 (by decide) 5 (.slice av nv cv))
 have HW:Hid (∀ W',(w4.setCell ⟨P,5,none⟩ (.slice av nv cv)).grownBy W' (some w.heap.size)→HangsB w.heap.size W' (partV 4 s1) (.slice none 0 0) (.slice none 0 0) (.slice none 0 0) (.slice av nv cv) (.slice none 0 0)∧w.grownBy W' (some b)):=fun W' hg=>by
  refine⟨?_,grown_step HP5.out.2.2.2 hg (fun k hk=>by cases hk;exact Nat.le_refl _)⟩
  have hty:∀ k,some w.heap.size=some k→∃ cs T fr,(w4.setCell ⟨P,5,none⟩ (.slice av nv cv)).heap[k]?=some (.cells cs T fr)∧T=59:=fun k hk=>by
   cases hk
   exact⟨_,_,_,HP5.out.2.1,rfl⟩
  exact fun _ ha=>⟨items_nil _,strs_nil _,ints_nil _,text_nil_le,by rw[HPV.out];exact (((HOV5.out.ty hg (fun k hk=>by obtain⟨cs,T,fr,h1,h2⟩:=hty k hk;exact⟨cs,T,fr,h1,by rw[h2];decide⟩)).mono hW3).agree ha).strs,frees_nil _⟩
 have cP4:=HP4.out.cell
 have fP4:=HP4.out.frozen
 have cR4:=HP4.out.cellR
 have fR4:=HP4.out.frozenR
 clear hc hg HC2 HP2
 go_wp2
 refine bodyPost_ret (v:=.agg #[.int .i64 4,.slice none 0 0,.slice none 0 0,.slice none 0 0,.string ⟨#[]⟩,.slice av nv cv,.slice none 0 0,.int .i64 0,.int .u64 0,.int .i64 0,.int .i64 0,.int .i64 0,.int .i64 0,.int .i64 0]) (by simp[results,Tryz.results116,go_sem,cR4]) rfl ⟨_,_,_,_,_,rfl,HW.out _ ?_⟩
 repeat (refine grown_trans ?_ (grown_setCell _ _ _ _))
 exact grown_refl _ _
theorem takePage_6 (b rb:Nat) (s:St) (w:World) (h:AtSt w b rb s) (hk:iV (nS s)=6) :
  Calls Tryz.prog 116 #[.pointer (some ⟨b,0,none⟩)] w fun e w'=>∃ vi vk vd vv vf,e=.returned (.agg (pageCells (partV 6 (nS (nS s))) vi vk vd vv vf).toArray)∧HangsB w.heap.size w' (partV 6 (nS (nS s))) vi vk vd vv vf∧w.grownBy w' (some b):=by
 have H0:=hid (h.alloc (.cells #[.int .i64 0,.slice none 0 0,.slice none 0 0,.slice none 0 0,.string ⟨#[]⟩,.slice none 0 0,.slice none 0 0,.int .i64 0,.int .u64 0,.int .i64 0,.int .i64 0,.int .i64 0,.int .i64 0,.int .i64 0] 59))
 have hlt:=h.lt
 have hlr:=h.2.1
 have HG0:=hid (grown_new (grown_refl w (some b)) (.cells #[.int .i64 0,.slice none 0 0,.slice none 0 0,.slice none 0 0,.string ⟨#[]⟩,.slice none 0 0,.slice none 0 0,.int .i64 0,.int .u64 0,.int .i64 0,.int .i64 0,.int .i64 0,.int .i64 0,.int .i64 0] 59))
 have HR0:=hid (heap_newL w (.cells #[.int .i64 0,.slice none 0 0,.slice none 0 0,.slice none 0 0,.string ⟨#[]⟩,.slice none 0 0,.slice none 0 0,.int .i64 0,.int .u64 0,.int .i64 0,.int .i64 0,.int .i64 0,.int .i64 0,.int .i64 0] 59))
 have HCS:=hid (fun W (hW:AtSt W b rb s)=>cnum_any b rb s W hW)
 clear h
 generalize nS s=s0 at *
 have HCN:Hid (∀ W,AtSt W b rb s0→Calls Tryz.prog 128 #[.pointer (some ⟨b,0,none⟩)] W fun e w'=>e=.returned (.int .i64 6)∧AtSt w' b rb (nS s0)∧W.grownBy w' (some b)):=fun W hW=>by
  rw[← hk]
  exact takeNum_any b rb s0 W hW
 generalize nS s0=s1 at *
 clear hk
 go_enter Tryz.func116,Tryz.ntmps116
 go_wp2_with fail
 refine (HCS.out _ H0.out).mono ?_
 rintro e w1 ⟨rfl,hc,hg⟩
 have HC1:=hid hc
 have HG1:=hid (grown_trans HG0.out hg)
 have HR1:Hid (w1.heap[w.heap.size]?=some (.cells #[.int .i64 0,.slice none 0 0,.slice none 0 0,.slice none 0 0,.string ⟨#[]⟩,.slice none 0 0,.slice none 0 0,.int .i64 0,.int .u64 0,.int .i64 0,.int .i64 0,.int .i64 0,.int .i64 0,.int .i64 0] 59 (0,0))):=(hg.block w.heap.size (by simp) (by simp;omega)).trans HR0.out
 clear hc hg H0 HG0 HR0 HCS
 go_wp2_with fail
 refine (HCN.out _ HC1.out).mono ?_
 rintro e w2 ⟨rfl,hc,hg⟩
 have HC2':=hid hc
 have HG2':=hid (grown_trans HG1.out hg)
 have hR2':w2.heap[w.heap.size]?=some (.cells #[.int .i64 0,.slice none 0 0,.slice none 0 0,.slice none 0 0,.string ⟨#[]⟩,.slice none 0 0,.slice none 0 0,.int .i64 0,.int .u64 0,.int .i64 0,.int .i64 0,.int .i64 0,.int .i64 0,.int .i64 0] 59 (0,0)):=(hg.block w.heap.size (by have:=(qA HR1.out);omega) (by simp;omega)).trans HR1.out
 have HR2':=hid hR2'
 have HC2:=hid (hc.alloc (.cells #[.int .i64 6,.slice none 0 0,.slice none 0 0,.slice none 0 0,.string ⟨#[]⟩,.slice none 0 0,.slice none 0 0,.int .i64 0,.int .u64 0,.int .i64 0,.int .i64 0,.int .i64 0,.int .i64 0,.int .i64 0] 59))
 have HP2:Hid (InP w (w2.alloc (.cells #[.int .i64 6,.slice none 0 0,.slice none 0 0,.slice none 0 0,.string ⟨#[]⟩,.slice none 0 0,.slice none 0 0,.int .i64 0,.int .u64 0,.int .i64 0,.int .i64 0,.int .i64 0,.int .i64 0,.int .i64 0] 59)) w2.heap.size b #[.int .i64 6,.slice none 0 0,.slice none 0 0,.slice none 0 0,.string ⟨#[]⟩,.slice none 0 0,.slice none 0 0,.int .i64 0,.int .u64 0,.int .i64 0,.int .i64 0,.int .i64 0,.int .i64 0,.int .i64 0]):=
  ⟨heap_newL w2 _,(qE _ _ _ (qA hR2')).trans hR2',(qA hR2'),grown_new HG2'.out _⟩
 have hszP:w.heap.size<w2.heap.size:=(qA hR2')
 clear hc hg HC1 HG1 HR1 HCN hR2'
 go_wp2_with fail
 generalize (w2.alloc (.cells #[.int .i64 6,.slice none 0 0,.slice none 0 0,.slice none 0 0,.string ⟨#[]⟩,.slice none 0 0,.slice none 0 0,.int .i64 0,.int .u64 0,.int .i64 0,.int .i64 0,.int .i64 0,.int .i64 0,.int .i64 0] 59))=W3 at *
 generalize w2.heap.size=P at *
 clear HC2' HG2' HR2'
 refine (cnum_any b rb s1 _ HC2.out).mono ?_
 rintro e w4 ⟨rfl,hc,hg⟩
 have HP4:=hid (HP2.out.grown hlt hg)
 have HC4:=hid hc
 clear hc hg HC2 HP2
 go_wp2_with fail
 refine (takeRoot_any b rb (nS s1) _ HC4.out).mono ?_
 rintro e w5 ⟨rfl,hc,hg⟩
 have HP5:=hid (HP4.out.grown hlt hg)
 have HC5:=hid hc
 clear hc hg HC4 HP4
 go_wp2_with fail
 refine (takeNum_any b rb _ _ HC5.out).mono ?_
 rintro e w6 ⟨rfl,hc,hg⟩
 have HP6:=hid (HP5.out.grown hlt hg)
 have HC6:=hid hc
 clear hc hg HC5 HP5
 go_wp2_with fail
 refine (takeNum_any b rb _ _ HC6.out).mono ?_
 rintro e w7 ⟨rfl,hc,hg⟩
 have HP7:=hid (HP6.out.grown hlt hg)
 clear hc hg HC6 HP6
 have HP8:Hid (InP w ((((((w7.setCell ⟨P,8,none⟩ (.int .u64 (nV s1))).setCell ⟨P,9,none⟩ (.int .i64 (rootV (nS s1)).page)).setCell ⟨P,10,none⟩ (.int .i64 (rootV (nS s1)).count)).setCell ⟨P,11,none⟩ (.int .i64 (rootV (nS s1)).flags)).setCell ⟨P,12,none⟩ (.int .i64 (iV (rootS (nS s1))))).setCell ⟨P,13,none⟩ (.int .i64 (iV (nS (rootS (nS s1)))))) P b #[.int .i64 6,.slice none 0 0,.slice none 0 0,.slice none 0 0,.string ⟨#[]⟩,.slice none 0 0,.slice none 0 0,.int .i64 0,.int .u64 (nV s1),.int .i64 (rootV (nS s1)).page,.int .i64 (rootV (nS s1)).count,.int .i64 (rootV (nS s1)).flags,.int .i64 (iV (rootS (nS s1))),.int .i64 (iV (nS (rootS (nS s1))))]):=(((((HP7.out.set 8 _).set 9 _).set 10 _).set 11 _).set 12 _).set 13 _
 have HW:Hid (∀ W',((((((w7.setCell ⟨P,8,none⟩ (.int .u64 (nV s1))).setCell ⟨P,9,none⟩ (.int .i64 (rootV (nS s1)).page)).setCell ⟨P,10,none⟩ (.int .i64 (rootV (nS s1)).count)).setCell ⟨P,11,none⟩ (.int .i64 (rootV (nS s1)).flags)).setCell ⟨P,12,none⟩ (.int .i64 (iV (rootS (nS s1))))).setCell ⟨P,13,none⟩ (.int .i64 (iV (nS (rootS (nS s1)))))).grownBy W' (some w.heap.size)→HangsB w.heap.size W' (partV 6 s1) (.slice none 0 0) (.slice none 0 0) (.slice none 0 0) (.slice none 0 0) (.slice none 0 0)∧w.grownBy W' (some b)):=fun W' hg=>by
  refine⟨?_,grown_step HP8.out.2.2.2 hg (fun k hk=>by cases hk;exact Nat.le_refl _)⟩
  have hty:∀ k,some w.heap.size=some k→∃ cs T fr,((((((w7.setCell ⟨P,8,none⟩ (.int .u64 (nV s1))).setCell ⟨P,9,none⟩ (.int .i64 (rootV (nS s1)).page)).setCell ⟨P,10,none⟩ (.int .i64 (rootV (nS s1)).count)).setCell ⟨P,11,none⟩ (.int .i64 (rootV (nS s1)).flags)).setCell ⟨P,12,none⟩ (.int .i64 (iV (rootS (nS s1))))).setCell ⟨P,13,none⟩ (.int .i64 (iV (nS (rootS (nS s1)))))).heap[k]?=some (.cells cs T fr)∧T=59:=fun k hk=>by
   cases hk
   exact⟨_,_,_,HP8.out.2.1,rfl⟩
  exact fun _ _=>⟨items_nil _,strs_nil _,ints_nil _,text_nil_le,strs_nil _,frees_nil _⟩
 have cP4:=HP7.out.cell
 have fP4:=HP7.out.frozen
 have cR4:=HP7.out.cellR
 have fR4:=HP7.out.frozenR
 go_wp2
 refine bodyPost_ret (v:=.agg #[.int .i64 6,.slice none 0 0,.slice none 0 0,.slice none 0 0,.string ⟨#[]⟩,.slice none 0 0,.slice none 0 0,.int .i64 0,.int .u64 (nV s1),.int .i64 (rootV (nS s1)).page,.int .i64 (rootV (nS s1)).count,.int .i64 (rootV (nS s1)).flags,.int .i64 (iV (rootS (nS s1))),.int .i64 (iV (nS (rootS (nS s1))))]) (by simp[results,Tryz.results116,go_sem,cR4]) rfl ⟨_,_,_,_,_,rfl,HW.out _ ?_⟩
 repeat (refine grown_trans ?_ (grown_setCell _ _ _ _))
 exact grown_refl _ _
end
section
open Go.RowKit Go.Sort
theorem takePage_5 (b rb:Nat) (s:St) (w:World) (h:AtSt w b rb s) (hk:iV (nS s)=5) :
  Calls Tryz.prog 116 #[.pointer (some ⟨b,0,none⟩)] w fun e w'=>∃ vi vk vd vv vf,e=.returned (.agg (pageCells (partV 5 (nS (nS s))) vi vk vd vv vf).toArray)∧HangsB w.heap.size w' (partV 5 (nS (nS s))) vi vk vd vv vf∧w.grownBy w' (some b):=by
 have H0:=hid (h.alloc (.cells #[.int .i64 0,.slice none 0 0,.slice none 0 0,.slice none 0 0,.string ⟨#[]⟩,.slice none 0 0,.slice none 0 0,.int .i64 0,.int .u64 0,.int .i64 0,.int .i64 0,.int .i64 0,.int .i64 0,.int .i64 0] 59))
 have hlt:=h.lt
 have hlr:=h.2.1
 have HG0:=hid (grown_new (grown_refl w (some b)) (.cells #[.int .i64 0,.slice none 0 0,.slice none 0 0,.slice none 0 0,.string ⟨#[]⟩,.slice none 0 0,.slice none 0 0,.int .i64 0,.int .u64 0,.int .i64 0,.int .i64 0,.int .i64 0,.int .i64 0,.int .i64 0] 59))
 have HR0:=hid (heap_newL w (.cells #[.int .i64 0,.slice none 0 0,.slice none 0 0,.slice none 0 0,.string ⟨#[]⟩,.slice none 0 0,.slice none 0 0,.int .i64 0,.int .u64 0,.int .i64 0,.int .i64 0,.int .i64 0,.int .i64 0,.int .i64 0] 59))
 have HCS:=hid (fun W (hW:AtSt W b rb s)=>cnum_any b rb s W hW)
 clear h
 generalize nS s=s0 at *
 have HCN:Hid (∀ W,AtSt W b rb s0→Calls Tryz.prog 128 #[.pointer (some ⟨b,0,none⟩)] W fun e w'=>e=.returned (.int .i64 5)∧AtSt w' b rb (nS s0)∧W.grownBy w' (some b)):=fun W hW=>by
  rw[← hk]
  exact takeNum_any b rb s0 W hW
 generalize nS s0=s1 at *
 clear hk
 go_enter Tryz.func116,Tryz.ntmps116
 go_wp2_with fail
 refine (HCS.out _ H0.out).mono ?_
 rintro e w1 ⟨rfl,hc,hg⟩
 have HC1:=hid hc
 have HG1:=hid (grown_trans HG0.out hg)
 have HR1:Hid (w1.heap[w.heap.size]?=some (.cells #[.int .i64 0,.slice none 0 0,.slice none 0 0,.slice none 0 0,.string ⟨#[]⟩,.slice none 0 0,.slice none 0 0,.int .i64 0,.int .u64 0,.int .i64 0,.int .i64 0,.int .i64 0,.int .i64 0,.int .i64 0] 59 (0,0))):=(hg.block w.heap.size (by simp) (by simp;omega)).trans HR0.out
 clear hc hg H0 HG0 HR0 HCS
 go_wp2_with fail
 refine (HCN.out _ HC1.out).mono ?_
 rintro e w2 ⟨rfl,hc,hg⟩
 have HC2':=hid hc
 have HG2':=hid (grown_trans HG1.out hg)
 have hR2':w2.heap[w.heap.size]?=some (.cells #[.int .i64 0,.slice none 0 0,.slice none 0 0,.slice none 0 0,.string ⟨#[]⟩,.slice none 0 0,.slice none 0 0,.int .i64 0,.int .u64 0,.int .i64 0,.int .i64 0,.int .i64 0,.int .i64 0,.int .i64 0] 59 (0,0)):=(hg.block w.heap.size (by have:=(qA HR1.out);omega) (by simp;omega)).trans HR1.out
 have HR2':=hid hR2'
 have HC2:=hid (hc.alloc (.cells #[.int .i64 5,.slice none 0 0,.slice none 0 0,.slice none 0 0,.string ⟨#[]⟩,.slice none 0 0,.slice none 0 0,.int .i64 0,.int .u64 0,.int .i64 0,.int .i64 0,.int .i64 0,.int .i64 0,.int .i64 0] 59))
 have HP2:Hid (InP w (w2.alloc (.cells #[.int .i64 5,.slice none 0 0,.slice none 0 0,.slice none 0 0,.string ⟨#[]⟩,.slice none 0 0,.slice none 0 0,.int .i64 0,.int .u64 0,.int .i64 0,.int .i64 0,.int .i64 0,.int .i64 0,.int .i64 0] 59)) w2.heap.size b #[.int .i64 5,.slice none 0 0,.slice none 0 0,.slice none 0 0,.string ⟨#[]⟩,.slice none 0 0,.slice none 0 0,.int .i64 0,.int .u64 0,.int .i64 0,.int .i64 0,.int .i64 0,.int .i64 0,.int .i64 0]):=
  ⟨heap_newL w2 _,(qE _ _ _ (qA hR2')).trans hR2',(qA hR2'),grown_new HG2'.out _⟩
 have hszP:w.heap.size<w2.heap.size:=(qA hR2')
 clear hc hg HC1 HG1 HR1 HCN hR2'
 have HTT:=hid (takeFree_any b rb s1 _ HC2.out)
 have HPV:Hid ((partV 5 s1).free=(freesGo (min (nV s1) 20) 20 (nS s1)).1):=rfl
 have HPE:Hid (partV 5 s1={ noPage with kind:=5,free:=(freesGo (min (nV s1) 20) 20 (nS s1)).1,next:=iV (freesGo (min (nV s1) 20) 20 (nS s1)).2 }):=rfl
 generalize (freesGo (min (nV s1) 20) 20 (nS s1)).1=FL at *
 generalize (freesGo (min (nV s1) 20) 20 (nS s1)).2=s2 at *
 go_wp2_with fail
 refine HTT.out.mono ?_
 rintro e w4 ⟨v,rfl,hof,hc,hg⟩
 generalize (w2.alloc (.cells #[.int .i64 5,.slice none 0 0,.slice none 0 0,.slice none 0 0,.string ⟨#[]⟩,.slice none 0 0,.slice none 0 0,.int .i64 0,.int .u64 0,.int .i64 0,.int .i64 0,.int .i64 0,.int .i64 0,.int .i64 0] 59))=W3 at *
 generalize w2.heap.size=P at *
 obtain⟨av,nv,cv,rfl⟩:∃ ao n cap,v=.slice ao n cap:=by
  obtain⟨ao,cap,hv,_⟩:=hof.frees
  exact⟨_,_,_,hv⟩
 have HOF:=hid hof
 have HP4:=hid (HP2.out.grown hlt hg)
 have HP5:Hid (InP w (w4.setCell ⟨P,6,none⟩ (.slice av nv cv)) P b #[.int .i64 5,.slice none 0 0,.slice none 0 0,.slice none 0 0,.string ⟨#[]⟩,.slice none 0 0,.slice av nv cv,.int .i64 0,.int .u64 0,.int .i64 0,.int .i64 0,.int .i64 0,.int .i64 0,.int .i64 0]):=HP4.out.set 6 (.slice av nv cv)
 have HC5:=hid (hc.set (p:=P) (by have:=HP2.out.2.2.1;omega) (by have:=HP2.out.2.2.1;omega) 6 (.slice av nv cv))
 have HOF5:=hid (HOF.out.ty (grown_setCell w4 P 6 (.slice av nv cv)) (fun k hk=>by cases hk;exact⟨_,_,_,HP4.out.1,by decide,by decide⟩))
 have hW3:w.heap.size≤W3.heap.size:=HP2.out.2.2.2.size
 have cP4:=HP4.out.cell
 have fP4:=HP4.out.frozen
 clear HC2' HG2' HR2' HTT hof hc hg HC2 HP2
 go_wp2_with fail
 clear cP4 fP4
 generalize (w4.setCell ⟨P,6,none⟩ (.slice av nv cv))=W5 at *
 refine (takeNum_any b rb s2 _ HC5.out).mono ?_
 rintro e w6 ⟨rfl,hc,hg⟩
 have HP6:=hid (HP5.out.grown hlt hg)
 have HOF6:=hid (HOF5.out.lt hg (fun k hk=>by cases hk;omega))
 have HP7:Hid (InP w (w6.setCell ⟨P,7,none⟩ (.int .i64 (iV s2))) P b #[.int .i64 5,.slice none 0 0,.slice none 0 0,.slice none 0 0,.string ⟨#[]⟩,.slice none 0 0,.slice av nv cv,.int .i64 (iV s2),.int .u64 0,.int .i64 0,.int .i64 0,.int .i64 0,.int .i64 0,.int .i64 0]):=HP6.out.set 7 (.int .i64 (iV s2))
 have HOF7:=hid (HOF6.out.ty (grown_setCell w6 P 7 (.int .i64 (iV s2))) (fun k hk=>by cases hk;exact⟨_,_,_,HP6.out.1,by decide,by decide⟩))
 clear hc hg HC5 HP5 HOF5 HOF6 HP4 HOF
 have HW:Hid (∀ W',(w6.setCell ⟨P,7,none⟩ (.int .i64 (iV s2))).grownBy W' (some w.heap.size)→HangsB w.heap.size W' (partV 5 s1) (.slice none 0 0) (.slice none 0 0) (.slice none 0 0) (.slice none 0 0) (.slice av nv cv)∧w.grownBy W' (some b)):=fun W' hg=>by
  refine⟨?_,grown_step HP7.out.2.2.2 hg (fun k hk=>by cases hk;exact Nat.le_refl _)⟩
  rw[HPE.out]
  exact fun _ ha=>⟨items_nil _,strs_nil _,ints_nil _,text_nil_le,strs_nil _,(((HOF7.out.ty hg (fun k hk=>by cases hk;exact⟨_,_,_,HP7.out.2.1,by decide,by decide⟩)).mono hW3).agree ha).frees⟩
 have cP6:=HP6.out.cell
 have fP6:=HP6.out.frozen
 have cR6:=HP6.out.cellR
 have fR6:=HP6.out.frozenR
 go_wp2
 refine bodyPost_ret (v:=.agg #[.int .i64 5,.slice none 0 0,.slice none 0 0,.slice none 0 0,.string ⟨#[]⟩,.slice none 0 0,.slice av nv cv,.int .i64 (iV s2),.int .u64 0,.int .i64 0,.int .i64 0,.int .i64 0,.int .i64 0,.int .i64 0]) (by simp[results,Tryz.results116,go_sem,cR6]) rfl ⟨_,_,_,_,_,by rw[HPE.out];rfl,HW.out _ ?_⟩
 repeat (refine grown_trans ?_ (grown_setCell _ _ _ _))
 exact grown_refl _ _
theorem takePage_0 (b rb:Nat) (s:St) (w:World) (h:AtSt w b rb s) (d:Int) (hk:iV (nS s)=d) (n1:¬ d=1) (n2:¬ d=2) (n3:¬ d=3) (n4:¬ d=4) (n5:¬ d=5) (n6:¬ d=6) :
  Calls Tryz.prog 116 #[.pointer (some ⟨b,0,none⟩)] w fun e w'=>∃ vi vk vd vv vf,e=.returned (.agg (pageCells (partV d (nS (nS s))) vi vk vd vv vf).toArray)∧HangsB w.heap.size w' (partV d (nS (nS s))) vi vk vd vv vf∧w.grownBy w' (some b):=by
 have H0:=hid (h.alloc (.cells #[.int .i64 0,.slice none 0 0,.slice none 0 0,.slice none 0 0,.string ⟨#[]⟩,.slice none 0 0,.slice none 0 0,.int .i64 0,.int .u64 0,.int .i64 0,.int .i64 0,.int .i64 0,.int .i64 0,.int .i64 0] 59))
 have hlt:=h.lt
 have hlr:=h.2.1
 have HG0:=hid (grown_new (grown_refl w (some b)) (.cells #[.int .i64 0,.slice none 0 0,.slice none 0 0,.slice none 0 0,.string ⟨#[]⟩,.slice none 0 0,.slice none 0 0,.int .i64 0,.int .u64 0,.int .i64 0,.int .i64 0,.int .i64 0,.int .i64 0,.int .i64 0] 59))
 have HR0:=hid (heap_newL w (.cells #[.int .i64 0,.slice none 0 0,.slice none 0 0,.slice none 0 0,.string ⟨#[]⟩,.slice none 0 0,.slice none 0 0,.int .i64 0,.int .u64 0,.int .i64 0,.int .i64 0,.int .i64 0,.int .i64 0,.int .i64 0] 59))
 have HCS:=hid (fun W (hW:AtSt W b rb s)=>cnum_any b rb s W hW)
 clear h
 generalize nS s=s0 at *
 have e1:(d==1)=false:=by simpa using n1
 have e2:(d==2)=false:=by simpa using n2
 have e3:(d==3)=false:=by simpa using n3
 have e4:(d==4)=false:=by simpa using n4
 have e5:(d==5)=false:=by simpa using n5
 have e6:(d==6)=false:=by simpa using n6
 have HCN:Hid (∀ W,AtSt W b rb s0→Calls Tryz.prog 128 #[.pointer (some ⟨b,0,none⟩)] W fun e w'=>e=.returned (.int .i64 d)∧AtSt w' b rb (nS s0)∧W.grownBy w' (some b)):=fun W hW=>by
  rw[← hk]
  exact takeNum_any b rb s0 W hW
 generalize nS s0=s1 at *
 clear hk
 go_enter Tryz.func116,Tryz.ntmps116
 go_wp2_with fail
 refine (HCS.out _ H0.out).mono ?_
 rintro e w1 ⟨rfl,hc,hg⟩
 have HC1:=hid hc
 have HG1:=hid (grown_trans HG0.out hg)
 have HR1:Hid (w1.heap[w.heap.size]?=some (.cells #[.int .i64 0,.slice none 0 0,.slice none 0 0,.slice none 0 0,.string ⟨#[]⟩,.slice none 0 0,.slice none 0 0,.int .i64 0,.int .u64 0,.int .i64 0,.int .i64 0,.int .i64 0,.int .i64 0,.int .i64 0] 59 (0,0))):=(hg.block w.heap.size (by simp) (by simp;omega)).trans HR0.out
 clear hc hg H0 HG0 HR0 HCS
 go_wp2_with fail
 refine (HCN.out _ HC1.out).mono ?_
 rintro e w2 ⟨rfl,hc,hg⟩
 have HC2':=hid hc
 have HG2':=hid (grown_trans HG1.out hg)
 have hR2':w2.heap[w.heap.size]?=some (.cells #[.int .i64 0,.slice none 0 0,.slice none 0 0,.slice none 0 0,.string ⟨#[]⟩,.slice none 0 0,.slice none 0 0,.int .i64 0,.int .u64 0,.int .i64 0,.int .i64 0,.int .i64 0,.int .i64 0,.int .i64 0] 59 (0,0)):=(hg.block w.heap.size (by have:=(qA HR1.out);omega) (by simp;omega)).trans HR1.out
 have HR2':=hid hR2'
 have HC2:=hid (hc.alloc (.cells #[.int .i64 d,.slice none 0 0,.slice none 0 0,.slice none 0 0,.string ⟨#[]⟩,.slice none 0 0,.slice none 0 0,.int .i64 0,.int .u64 0,.int .i64 0,.int .i64 0,.int .i64 0,.int .i64 0,.int .i64 0] 59))
 have HP2:Hid (InP w (w2.alloc (.cells #[.int .i64 d,.slice none 0 0,.slice none 0 0,.slice none 0 0,.string ⟨#[]⟩,.slice none 0 0,.slice none 0 0,.int .i64 0,.int .u64 0,.int .i64 0,.int .i64 0,.int .i64 0,.int .i64 0,.int .i64 0] 59)) w2.heap.size b #[.int .i64 d,.slice none 0 0,.slice none 0 0,.slice none 0 0,.string ⟨#[]⟩,.slice none 0 0,.slice none 0 0,.int .i64 0,.int .u64 0,.int .i64 0,.int .i64 0,.int .i64 0,.int .i64 0,.int .i64 0]):=
  ⟨heap_newL w2 _,(qE _ _ _ (qA hR2')).trans hR2',(qA hR2'),grown_new HG2'.out _⟩
 have hszP:w.heap.size<w2.heap.size:=(qA hR2')
 clear hc hg HC1 HG1 HR1 HCN hR2'
 have hPV:partV d s1={ noPage with kind:=d }:=by simp[partV,n1,n2,n3,n4,n5,n6]
 have cR:=cell_rowL HR2'.out
 have fR:=frozen_rowL HR2'.out
 clear HC2 HP2
 go_wp2
 have HG3:Hid (w.grownBy ((((((((((((((w2.setCell ⟨w.heap.size,0,none⟩ (.int .i64 d)).setCell ⟨w.heap.size,1,none⟩ (.slice none 0 0)).setCell ⟨w.heap.size,2,none⟩ (.slice none 0 0)).setCell ⟨w.heap.size,3,none⟩ (.slice none 0 0)).setCell ⟨w.heap.size,4,none⟩ (.string ⟨#[]⟩)).setCell ⟨w.heap.size,5,none⟩ (.slice none 0 0)).setCell ⟨w.heap.size,6,none⟩ (.slice none 0 0)).setCell ⟨w.heap.size,7,none⟩ (.int .i64 0)).setCell ⟨w.heap.size,8,none⟩ (.int .u64 0)).setCell ⟨w.heap.size,9,none⟩ (.int .i64 0)).setCell ⟨w.heap.size,10,none⟩ (.int .i64 0)).setCell ⟨w.heap.size,11,none⟩ (.int .i64 0)).setCell ⟨w.heap.size,12,none⟩ (.int .i64 0)).setCell ⟨w.heap.size,13,none⟩ (.int .i64 0)) (some b)):=by
  show World.grownBy _ _ _
  repeat (refine grown_set ?_ _ _ (by omega) _)
  exact HG2'.out
 have hY2:((((((((((((((w2.setCell ⟨w.heap.size,0,none⟩ (.int .i64 d)).setCell ⟨w.heap.size,1,none⟩ (.slice none 0 0)).setCell ⟨w.heap.size,2,none⟩ (.slice none 0 0)).setCell ⟨w.heap.size,3,none⟩ (.slice none 0 0)).setCell ⟨w.heap.size,4,none⟩ (.string ⟨#[]⟩)).setCell ⟨w.heap.size,5,none⟩ (.slice none 0 0)).setCell ⟨w.heap.size,6,none⟩ (.slice none 0 0)).setCell ⟨w.heap.size,7,none⟩ (.int .i64 0)).setCell ⟨w.heap.size,8,none⟩ (.int .u64 0)).setCell ⟨w.heap.size,9,none⟩ (.int .i64 0)).setCell ⟨w.heap.size,10,none⟩ (.int .i64 0)).setCell ⟨w.heap.size,11,none⟩ (.int .i64 0)).setCell ⟨w.heap.size,12,none⟩ (.int .i64 0)).setCell ⟨w.heap.size,13,none⟩ (.int .i64 0)).heap[w.heap.size]?=some (.cells #[.int .i64 d,.slice none 0 0,.slice none 0 0,.slice none 0 0,.string ⟨#[]⟩,.slice none 0 0,.slice none 0 0,.int .i64 0,.int .u64 0,.int .i64 0,.int .i64 0,.int .i64 0,.int .i64 0,.int .i64 0] 59 (0,0)):=by
  simp[World.setCell,Array.getElem?_modify,HR2'.out]
 generalize ((((((((((((((w2.setCell ⟨w.heap.size,0,none⟩ (.int .i64 d)).setCell ⟨w.heap.size,1,none⟩ (.slice none 0 0)).setCell ⟨w.heap.size,2,none⟩ (.slice none 0 0)).setCell ⟨w.heap.size,3,none⟩ (.slice none 0 0)).setCell ⟨w.heap.size,4,none⟩ (.string ⟨#[]⟩)).setCell ⟨w.heap.size,5,none⟩ (.slice none 0 0)).setCell ⟨w.heap.size,6,none⟩ (.slice none 0 0)).setCell ⟨w.heap.size,7,none⟩ (.int .i64 0)).setCell ⟨w.heap.size,8,none⟩ (.int .u64 0)).setCell ⟨w.heap.size,9,none⟩ (.int .i64 0)).setCell ⟨w.heap.size,10,none⟩ (.int .i64 0)).setCell ⟨w.heap.size,11,none⟩ (.int .i64 0)).setCell ⟨w.heap.size,12,none⟩ (.int .i64 0)).setCell ⟨w.heap.size,13,none⟩ (.int .i64 0))=Y at *
 have hY3:∀ o j,(Y.alloc o).cell? ⟨w.heap.size,j,none⟩=(#[.int .i64 d,.slice none 0 0,.slice none 0 0,.slice none 0 0,.string ⟨#[]⟩,.slice none 0 0,.slice none 0 0,.int .i64 0,.int .u64 0,.int .i64 0,.int .i64 0,.int .i64 0,.int .i64 0,.int .i64 0]:Array Value)[j]?:=fun o j=>by
  rw[← cell_rowL hY2 j]
  exact World.cell?_of_block (a:=⟨w.heap.size,j,none⟩) (qE _ _ _ (qA hY2))
 refine bodyPost_ret (v:=.agg #[.int .i64 d,.slice none 0 0,.slice none 0 0,.slice none 0 0,.string ⟨#[]⟩,.slice none 0 0,.slice none 0 0,.int .i64 0,.int .u64 0,.int .i64 0,.int .i64 0,.int .i64 0,.int .i64 0,.int .i64 0]) (by simp[results,Tryz.results116,go_sem,hY3]) rfl ⟨.slice none 0 0,.slice none 0 0,.slice none 0 0,.slice none 0 0,.slice none 0 0,by rw[hPV];rfl,?_,grown_new HG3.out _⟩
 rw[hPV]
 exact fun _ _=>⟨items_nil _,strs_nil _,ints_nil _,text_nil_le,strs_nil _,frees_nil _⟩
end
end Go.Proofs.YtbghhklbfnplbaaGreat

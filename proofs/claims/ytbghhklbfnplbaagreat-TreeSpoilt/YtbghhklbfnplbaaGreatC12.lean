import Derived.Deep.RegionLaw
import Derived.Test.YtbghhklbfnplbaaGreatC00
import Derived.Test.YtbghhklbfnplbaaGreatC10
set_option maxHeartbeats 4000000
set_option maxRecDepth 10000
namespace Go.Proofs.YtbghhklbfnplbaaGreat
section
open Go.RowKit Go.Sort
theorem takePage_1 (b rb:Nat) (s:St) (w:World) (h:AtSt w b rb s) (hk:iV (nS s)=1) :
  Calls Tryz.prog 116 #[.pointer (some ⟨b,0,none⟩)] w fun e w'=>∃ vi vk vd vv vf,e=.returned (.agg (pageCells (partV 1 (nS (nS s))) vi vk vd vv vf).toArray)∧HangsB w.heap.size w' (partV 1 (nS (nS s))) vi vk vd vv vf∧w.grownBy w' (some b):=by
 have H0:=hid (h.alloc (.cells #[.int .i64 0,.slice none 0 0,.slice none 0 0,.slice none 0 0,.string ⟨#[]⟩,.slice none 0 0,.slice none 0 0,.int .i64 0,.int .u64 0,.int .i64 0,.int .i64 0,.int .i64 0,.int .i64 0,.int .i64 0] 59))
 have hlt:=h.lt
 have hlr:=h.2.1
 have HG0:=hid (grown_new (grown_refl w (some b)) (.cells #[.int .i64 0,.slice none 0 0,.slice none 0 0,.slice none 0 0,.string ⟨#[]⟩,.slice none 0 0,.slice none 0 0,.int .i64 0,.int .u64 0,.int .i64 0,.int .i64 0,.int .i64 0,.int .i64 0,.int .i64 0] 59))
 have HR0:=hid (heap_newL w (.cells #[.int .i64 0,.slice none 0 0,.slice none 0 0,.slice none 0 0,.string ⟨#[]⟩,.slice none 0 0,.slice none 0 0,.int .i64 0,.int .u64 0,.int .i64 0,.int .i64 0,.int .i64 0,.int .i64 0,.int .i64 0] 59))
 have HCS:=hid (fun W (hW:AtSt W b rb s)=>cnum_any b rb s W hW)
 clear h
 generalize nS s=s0 at *
 have HCN:Hid (∀ W,AtSt W b rb s0→Calls Tryz.prog 128 #[.pointer (some ⟨b,0,none⟩)] W fun e w'=>e=.returned (.int .i64 1)∧AtSt w' b rb (nS s0)∧W.grownBy w' (some b)):=fun W hW=>by
  rw[← hk]
  exact takeNum_any b rb s0 W hW
 generalize nS s0=s1 at *
 clear hk
 go_enter Tryz.func116,Tryz.ntmps116
 go_wp2_with fail
 refine (HCS.out _ H0.out).mono ?_
 rintro e w1 ⟨rfl,hc,hg⟩
 have HC1:=hid hc
 have HG1:=hid (grown_trans HG0.out hg)
 have HR1:Hid (w1.heap[w.heap.size]?=some (.cells #[.int .i64 0,.slice none 0 0,.slice none 0 0,.slice none 0 0,.string ⟨#[]⟩,.slice none 0 0,.slice none 0 0,.int .i64 0,.int .u64 0,.int .i64 0,.int .i64 0,.int .i64 0,.int .i64 0,.int .i64 0] 59 (0,0))):=(hg.block w.heap.size (by simp) (by simp;omega)).trans HR0.out
 clear hc hg H0 HG0 HR0 HCS
 go_wp2_with fail
 refine (HCN.out _ HC1.out).mono ?_
 rintro e w2 ⟨rfl,hc,hg⟩
 have HC2':=hid hc
 have HG2':=hid (grown_trans HG1.out hg)
 have hR2':w2.heap[w.heap.size]?=some (.cells #[.int .i64 0,.slice none 0 0,.slice none 0 0,.slice none 0 0,.string ⟨#[]⟩,.slice none 0 0,.slice none 0 0,.int .i64 0,.int .u64 0,.int .i64 0,.int .i64 0,.int .i64 0,.int .i64 0,.int .i64 0] 59 (0,0)):=(hg.block w.heap.size (by have:=(qA HR1.out);omega) (by simp;omega)).trans HR1.out
 have HR2':=hid hR2'
 have HC2:=hid (hc.alloc (.cells #[.int .i64 1,.slice none 0 0,.slice none 0 0,.slice none 0 0,.string ⟨#[]⟩,.slice none 0 0,.slice none 0 0,.int .i64 0,.int .u64 0,.int .i64 0,.int .i64 0,.int .i64 0,.int .i64 0,.int .i64 0] 59))
 have HP2:Hid (InP w (w2.alloc (.cells #[.int .i64 1,.slice none 0 0,.slice none 0 0,.slice none 0 0,.string ⟨#[]⟩,.slice none 0 0,.slice none 0 0,.int .i64 0,.int .u64 0,.int .i64 0,.int .i64 0,.int .i64 0,.int .i64 0,.int .i64 0] 59)) w2.heap.size b #[.int .i64 1,.slice none 0 0,.slice none 0 0,.slice none 0 0,.string ⟨#[]⟩,.slice none 0 0,.slice none 0 0,.int .i64 0,.int .u64 0,.int .i64 0,.int .i64 0,.int .i64 0,.int .i64 0,.int .i64 0]):=
  ⟨heap_newL w2 _,(qE _ _ _ (qA hR2')).trans hR2',(qA hR2'),grown_new HG2'.out _⟩
 have hszP:w.heap.size<w2.heap.size:=(qA hR2')
 clear hc hg HC1 HG1 HR1 HCN hR2'
 obtain⟨i0,hi,hz0,hz1,hz2⟩:=info_parts Tryz.infoItem
 have HTC:=hid (takeCount_any b rb s1 4 _ HC2.out (by omega))
 have HPE:Hid (partV 1 s1={ noPage with kind:=1,items:=itemsV (min (nV s1) 4) (nS s1) }):=rfl
 have hn:min (nV s1) 4≤4:=Nat.min_le_right _ _
 generalize min (nV s1) 4=n at *
 generalize nS s1=s2 at *
 go_wp2_with fail
 refine HTC.out.mono ?_
 rintro e w4 ⟨rfl,hc,hg⟩
 generalize (w2.alloc (.cells #[.int .i64 1,.slice none 0 0,.slice none 0 0,.slice none 0 0,.string ⟨#[]⟩,.slice none 0 0,.slice none 0 0,.int .i64 0,.int .u64 0,.int .i64 0,.int .i64 0,.int .i64 0,.int .i64 0,.int .i64 0] 59))=W3 at *
 generalize w2.heap.size=P at *
 have HP4:=hid (HP2.out.grown hlt hg)
 have HC4:=hid hc
 clear HC2' HG2' HR2' HTC hc hg HC2 HP2
 go_wp2
 go_loopw [15] (fun i wr=>∃ (k:Nat) (vi:Value),k≤n∧i=.int .i64 k∧Hid (InP w wr P b #[.int .i64 1,vi,.slice none 0 0,.slice none 0 0,.string ⟨#[]⟩,.slice none 0 0,.slice none 0 0,.int .i64 0,.int .u64 0,.int .i64 0,.int .i64 0,.int .i64 0,.int .i64 0,.int .i64 0])∧Hid (OwnItems wr w.heap.size vi (itemsV k s2))∧Hid (AtSt wr b rb (itSn k s2))) (fun i _=>n - (intOf i).toNat)
 case atStart=>exact⟨0,_,Nat.zero_le _,rfl,HP4,ownItems_nil _ _,HC4⟩
 case round=>
  obtain⟨k,vi,hkn,rfl,hP,hO,hat⟩:=hrel
  clear HP4 HC4
  obtain⟨av,nv,cv,rfl⟩:=hO.out.slice
  by_cases hlk:k<n
  ·have cP:wr.cell? ⟨P,1,none⟩=some (.slice av nv cv):=(hP.out.cell 1).trans rfl
   obtain⟨hol,hoz,us,hus,hown,hvs⟩:=hO.out
   rw[itemsV_length] at hown hus
   have HOZ:=hid hoz
   have HOWN:=hid hown
   have HVS:=hid hvs
   have HTI0:=fun W (hW:AtSt W b rb (itSn k s2))=>takeItem_any b rb (itSn k s2) W hW
   have HTK:Hid (itemsV (k+1) s2=itemsV k s2++[itemV (itSn k s2)]):=rfl
   have HXZ:=hid (item_sizes (itSn k s2))
   have HSK:Hid (itSn (k+1) s2=itemS (itSn k s2)):=rfl
   generalize itemV (itSn k s2)=X at *
   obtain⟨k1,d1,l1,r1,n1,s3,p1,⟨g1,c1,f1⟩⟩:=X
   have HTI:Hid (∀ W,AtSt W b rb (itSn k s2)→Calls Tryz.prog 130 #[.pointer (some ⟨b,0,none⟩)] W fun e w'=>∃ v,e=.returned (.agg #[.string k1,.int .i64 d1,.string l1,.int .i64 r1,.int .i64 n1,v,.int .i64 p1,.int .i64 g1,.int .i64 c1,.int .i64 f1])∧OwnStrs w' W.heap.size v s3∧AtSt w' b rb (itemS (itSn k s2))∧W.grownBy w' (some b)):=HTI0
   have hszw:=hP.out.2.2.2.size
   clear hown hvs hoz hO HTI0
   go_wp2_with fail
   go_region_law (first
    | (refine step_append_lies _ (by rfl) _ _ _ (by rfl) w.heap.size 45 i0 _ 10 112 Tryz.underlying36 hi hz0 hz1 hz2 rfl (by omega) (.slice av nv cv) k (itemRows (itemsV k s2) us) (by rfl) (hown5.alloc _) ⟨w5.heap.size,0,none⟩ 1 1 [.string k1,.int .i64 d1,.string l1,.int .i64 r1,.int .i64 n1,.slice ax nx cx,.int .i64 p1,.int .i64 g1,.int .i64 c1,.int .i64 f1] (by rfl) (by rfl) (World.news_of_block (cs:=#[.string k1,.int .i64 d1,.string l1,.int .i64 r1,.int .i64 n1,.slice ax nx cx,.int .i64 p1,.int .i64 g1,.int .i64 c1,.int .i64 f1]) (t:=45) (fr:=(0,0)) (heap_newL w5 _)) (by simp[Value.oneCell']) (by omega) (by unfold maxLen;omega) (by omega) (by have:=HP5.out.2.2.2.size;simp;omega) (w5.heap.size+1) (by simp) ?_
       intro g6 cap6 w6 hown6 hgrow6 hat6 hlt6
       have hne6:∀ k,(Value.slice av nv cv).ownBlock=some k→w.heap.size≤k∧∃ cs T fr,(w5.alloc (.cells #[.string k1,.int .i64 d1,.string l1,.int .i64 r1,.int .i64 n1,.slice ax nx cx,.int .i64 p1,.int .i64 g1,.int .i64 c1,.int .i64 f1] 45)).heap[k]?=some (.cells cs T fr)∧T=45:=fun q hq=>by
        obtain⟨cs,fr,h1⟩:=owns_block hown5 q hq
        exact⟨(hown5.lt q hq).1,cs,_,fr,(qE _ _ _ (hown5.lt q hq).2).trans h1,rfl⟩
       have HP6:=hid ((HP5.out.alloc _).row hgrow6 (fun q hq=>by obtain⟨a,cs,T,fr,h1,h2⟩:=hne6 q hq;exact⟨a,cs,T,fr,h1,by rw[h2];decide⟩))
       have cP6:=HP6.out.cell
       have fP6:=HP6.out.frozen)
    | (go_simp
       go_at_call 130
       refine (HTI.out _ (AtSt.drew hat.out)).mono ?_
       rintro e w5 ⟨v,rfl,hov,hc5,hg5'⟩
       have hg5:=grown_drew hg5'
       obtain⟨ax,nx,cx,rfl⟩:=hov.slice
       have HP5:=hid (hP.out.grown hlt hg5)
       have hown5:=owns_kept_lt HOWN.out hg5 (fun q hq=>by cases hq;exact hlt)
       have HVS5:Hid (∀ i (h:i<(itemsV k s2).length) (h':i<us.length),OwnStrs w5 w.heap.size us[i] (itemsV k s2)[i].vals):=fun i h1 h2=>(HVS.out i h1 h2).kept hg5 (fun q hq=>by cases hq;exact hlt)
       have cP5:=HP5.out.cell
       have cPo5:=fun o=>(HP5.out.alloc o).cell))
   all_goals
    have HP7:Hid (InP w (w6.setCell ⟨P,1,none⟩ (.slice (some ⟨g6,0,none⟩) (k+1) cap6)) P b #[.int .i64 1,.slice (some ⟨g6,0,none⟩) (k+1) cap6,.slice none 0 0,.slice none 0 0,.string ⟨#[]⟩,.slice none 0 0,.slice none 0 0,.int .i64 0,.int .u64 0,.int .i64 0,.int .i64 0,.int .i64 0,.int .i64 0,.int .i64 0]):=HP6.out.set 1 _
    have hPty:∀ q,some P=some q→∃ cs T fr,w6.heap[q]?=some (.cells cs T fr)∧T=59:=fun q hq=>by
     cases hq
     exact⟨_,_,_,HP6.out.1,rfl⟩
    have HO7:Hid (OwnItems (w6.setCell ⟨P,1,none⟩ (.slice (some ⟨g6,0,none⟩) (k+1) cap6)) w.heap.size (.slice (some ⟨g6,0,none⟩) (k+1) cap6) (itemsV (k+1) s2)):=by
     refine OwnItems.ty ?_ (grown_setCell w6 P 1 _) (fun q hq=>by obtain⟨cs,T,fr,h1,h2⟩:=hPty q hq;exact⟨cs,T,fr,h1,by rw[h2];decide,by rw[h2];decide⟩)
     rw[HTK.out]
     have hil:=itemsV_length k s2
     refine⟨by rw[List.length_append,hil];simp;omega,?_,us++[.slice ax nx cx],by simp[hus,hil],?_,fun i h1 h2=>?_⟩
     ·intro x hx
      rcases List.mem_append.1 hx with hx|hx
      ·exact HOZ.out x hx
      ·rw[List.mem_singleton.1 hx]
       exact HXZ.out
     ·rw[itemRows_snoc _ _ _ _ (by omega),qO,hil]
      exact hown6
     ·have hstr:∀ q,(Value.slice av nv cv).ownBlock=some q→∃ cs T fr,(w5.alloc (.cells #[.string k1,.int .i64 d1,.string l1,.int .i64 r1,.int .i64 n1,.slice ax nx cx,.int .i64 p1,.int .i64 g1,.int .i64 c1,.int .i64 f1] 45)).heap[q]?=some (.cells cs T fr)∧T≠9:=fun q hq=>by
       obtain⟨_,cs,T,fr,h3,h4⟩:=hne6 q hq
       exact⟨cs,T,fr,h3,by rw[h4];decide⟩
      by_cases hi2:i<k
      ·have h3:i<(itemsV k s2).length:=by omega
       have h4:i<us.length:=by omega
       rw[List.getElem_append_left h3,List.getElem_append_left h4]
       exact ((HVS5.out i h3 h4).alloc _).ty hgrow6 hstr
      ·have hi3:i=k:=by simp[hil] at h1;omega
       subst hi3
       rw[List.getElem_append_right (by omega),List.getElem_append_right (by omega)]
       simp only[hus,hil,Nat.sub_self,qH]
       exact ((hov.mono hszw).alloc _).ty hgrow6 hstr
    have HA7:Hid (AtSt (w6.setCell ⟨P,1,none⟩ (.slice (some ⟨g6,0,none⟩) (k+1) cap6)) b rb (itSn (k+1) s2)):=
     (AtSt.grown (hc5.alloc _) hgrow6 (fun e=>by have:=(hne6 _ e).1;omega) (fun e=>by have:=(hne6 _ e).1;omega)).set (by have:=hP.out.2.2.1;omega) (by have:=hP.out.2.2.1;omega) _ _
    clear hown6 hgrow6 hat6 hlt6 hne6 HP6 cP6 fP6 hov hc5 hg5 hg5' HP5 hown5 HVS5 cP5 cPo5 hPty
    generalize (w6.setCell ⟨P,1,none⟩ (.slice (some ⟨g6,0,none⟩) (k+1) cap6))=W7 at *
    go_wp2
    go_roundw
    case rel=>exact⟨k+1,_,by omega,by go_num,HP7,HO7,HA7⟩
    case measure=>simp[intOf];omega
  ·have hke:k=n:=by omega
   subst hke
   have HW:Hid (∀ W',wr.grownBy W' (some w.heap.size)→HangsB w.heap.size W' (partV 1 s1) (.slice av nv cv) (.slice none 0 0) (.slice none 0 0) (.slice none 0 0) (.slice none 0 0)∧w.grownBy W' (some b)):=fun W' hg=>by
    refine⟨?_,grown_step hP.out.2.2.2 hg (fun q hq=>by cases hq;exact Nat.le_refl _)⟩
    rw[HPE.out]
    exact fun _ ha=>⟨((hO.out.ty hg (fun q hq=>by cases hq;exact⟨_,_,_,hP.out.2.1,by decide,by decide⟩)).agree ha).items,strs_nil _,ints_nil _,text_nil_le,strs_nil _,frees_nil _⟩
   have cP:=hP.out.cell
   have fP:=hP.out.frozen
   have cR:=hP.out.cellR
   have fR:=hP.out.frozenR
   go_wp2
   refine bodyPost_ret (v:=.agg #[.int .i64 1,.slice av nv cv,.slice none 0 0,.slice none 0 0,.string ⟨#[]⟩,.slice none 0 0,.slice none 0 0,.int .i64 0,.int .u64 0,.int .i64 0,.int .i64 0,.int .i64 0,.int .i64 0,.int .i64 0]) (by simp[results,Tryz.results116,go_sem,cR]) rfl ⟨_,_,_,_,_,by rw[HPE.out];rfl,HW.out _ ?_⟩
   repeat (refine grown_trans ?_ (grown_setCell _ _ _ _))
   exact grown_refl _ _
end
section
open Go.RowKit Go.Sort
theorem takePage_2 (b rb:Nat) (s:St) (w:World) (h:AtSt w b rb s) (hk:iV (nS s)=2) :
  Calls Tryz.prog 116 #[.pointer (some ⟨b,0,none⟩)] w fun e w'=>∃ vi vk vd vv vf,e=.returned (.agg (pageCells (partV 2 (nS (nS s))) vi vk vd vv vf).toArray)∧HangsB w.heap.size w' (partV 2 (nS (nS s))) vi vk vd vv vf∧w.grownBy w' (some b):=by
 have H0:=hid (h.alloc (.cells #[.int .i64 0,.slice none 0 0,.slice none 0 0,.slice none 0 0,.string ⟨#[]⟩,.slice none 0 0,.slice none 0 0,.int .i64 0,.int .u64 0,.int .i64 0,.int .i64 0,.int .i64 0,.int .i64 0,.int .i64 0] 59))
 have hlt:=h.lt
 have hlr:=h.2.1
 have HG0:=hid (grown_new (grown_refl w (some b)) (.cells #[.int .i64 0,.slice none 0 0,.slice none 0 0,.slice none 0 0,.string ⟨#[]⟩,.slice none 0 0,.slice none 0 0,.int .i64 0,.int .u64 0,.int .i64 0,.int .i64 0,.int .i64 0,.int .i64 0,.int .i64 0] 59))
 have HR0:=hid (heap_newL w (.cells #[.int .i64 0,.slice none 0 0,.slice none 0 0,.slice none 0 0,.string ⟨#[]⟩,.slice none 0 0,.slice none 0 0,.int .i64 0,.int .u64 0,.int .i64 0,.int .i64 0,.int .i64 0,.int .i64 0,.int .i64 0] 59))
 have HCS:=hid (fun W (hW:AtSt W b rb s)=>cnum_any b rb s W hW)
 clear h
 generalize nS s=s0 at *
 have HCN:Hid (∀ W,AtSt W b rb s0→Calls Tryz.prog 128 #[.pointer (some ⟨b,0,none⟩)] W fun e w'=>e=.returned (.int .i64 2)∧AtSt w' b rb (nS s0)∧W.grownBy w' (some b)):=fun W hW=>by
  rw[← hk]
  exact takeNum_any b rb s0 W hW
 generalize nS s0=s1 at *
 clear hk
 go_enter Tryz.func116,Tryz.ntmps116
 go_wp2_with fail
 refine (HCS.out _ H0.out).mono ?_
 rintro e w1 ⟨rfl,hc,hg⟩
 have HC1:=hid hc
 have HG1:=hid (grown_trans HG0.out hg)
 have HR1:Hid (w1.heap[w.heap.size]?=some (.cells #[.int .i64 0,.slice none 0 0,.slice none 0 0,.slice none 0 0,.string ⟨#[]⟩,.slice none 0 0,.slice none 0 0,.int .i64 0,.int .u64 0,.int .i64 0,.int .i64 0,.int .i64 0,.int .i64 0,.int .i64 0] 59 (0,0))):=(hg.block w.heap.size (by simp) (by simp;omega)).trans HR0.out
 clear hc hg H0 HG0 HR0 HCS
 go_wp2_with fail
 refine (HCN.out _ HC1.out).mono ?_
 rintro e w2 ⟨rfl,hc,hg⟩
 have HC2':=hid hc
 have HG2':=hid (grown_trans HG1.out hg)
 have hR2':w2.heap[w.heap.size]?=some (.cells #[.int .i64 0,.slice none 0 0,.slice none 0 0,.slice none 0 0,.string ⟨#[]⟩,.slice none 0 0,.slice none 0 0,.int .i64 0,.int .u64 0,.int .i64 0,.int .i64 0,.int .i64 0,.int .i64 0,.int .i64 0] 59 (0,0)):=(hg.block w.heap.size (by have:=(qA HR1.out);omega) (by simp;omega)).trans HR1.out
 have HR2':=hid hR2'
 have HC2:=hid (hc.alloc (.cells #[.int .i64 2,.slice none 0 0,.slice none 0 0,.slice none 0 0,.string ⟨#[]⟩,.slice none 0 0,.slice none 0 0,.int .i64 0,.int .u64 0,.int .i64 0,.int .i64 0,.int .i64 0,.int .i64 0,.int .i64 0] 59))
 have HP2:Hid (InP w (w2.alloc (.cells #[.int .i64 2,.slice none 0 0,.slice none 0 0,.slice none 0 0,.string ⟨#[]⟩,.slice none 0 0,.slice none 0 0,.int .i64 0,.int .u64 0,.int .i64 0,.int .i64 0,.int .i64 0,.int .i64 0,.int .i64 0] 59)) w2.heap.size b #[.int .i64 2,.slice none 0 0,.slice none 0 0,.slice none 0 0,.string ⟨#[]⟩,.slice none 0 0,.slice none 0 0,.int .i64 0,.int .u64 0,.int .i64 0,.int .i64 0,.int .i64 0,.int .i64 0,.int .i64 0]):=
  ⟨heap_newL w2 _,(qE _ _ _ (qA hR2')).trans hR2',(qA hR2'),grown_new HG2'.out _⟩
 have hszP:w.heap.size<w2.heap.size:=(qA hR2')
 clear hc hg HC1 HG1 HR1 HCN hR2'
 obtain⟨i0,hi,hz0,hz1,hz2⟩:=info_parts Tryz.infoStr
 obtain⟨j0,hj,hy0,hy1,hy2⟩:=info_parts Tryz.infoInt
 have HTC:=hid (takeCount_any b rb s1 4 _ HC2.out (by omega))
 have HPE:Hid (partV 2 s1={ noPage with kind:=2,keys:=keysV (min (nV s1) 4) (nS s1),kids:=kidsV (min (nV s1) 4) (nS s1) }):=rfl
 have hn:min (nV s1) 4≤4:=Nat.min_le_right _ _
 generalize min (nV s1) 4=n at *
 generalize nS s1=s2 at *
 go_wp2_with fail
 refine HTC.out.mono ?_
 rintro e w4 ⟨rfl,hc,hg⟩
 generalize (w2.alloc (.cells #[.int .i64 2,.slice none 0 0,.slice none 0 0,.slice none 0 0,.string ⟨#[]⟩,.slice none 0 0,.slice none 0 0,.int .i64 0,.int .u64 0,.int .i64 0,.int .i64 0,.int .i64 0,.int .i64 0,.int .i64 0] 59))=W3 at *
 generalize w2.heap.size=P at *
 have HP4:=hid (HP2.out.grown hlt hg)
 have HC4:=hid hc
 clear HC2' HG2' HR2' HTC hc hg HC2 HP2
 go_wp2
 go_loopw [29] (fun i wr=>∃ (k:Nat) (vk vd:Value),k≤n∧i=.int .i64 k∧Hid (InP w wr P b #[.int .i64 2,.slice none 0 0,vk,vd,.string ⟨#[]⟩,.slice none 0 0,.slice none 0 0,.int .i64 0,.int .u64 0,.int .i64 0,.int .i64 0,.int .i64 0,.int .i64 0,.int .i64 0])∧Hid (OwnStrs wr w.heap.size vk (keysV k s2))∧Hid (OwnInts wr w.heap.size vd (kidsV k s2))∧Hid (AtSt wr b rb (kdSn k s2))) (fun i _=>n - (intOf i).toNat)
 case atStart=>exact⟨0,_,_,Nat.zero_le _,rfl,HP4,ownStrs_nil _ _,ownInts_nil _ _,HC4⟩
 case round=>
  obtain⟨k,vk,vd,hkn,rfl,hP,hO,hD,hat⟩:=hrel
  clear HP4 HC4
  obtain⟨av,nv,cv,rfl⟩:=hO.out.slice
  obtain⟨bv,mv,dv,rfl⟩:=hD.out.slice
  by_cases hlk:k<n
  ·have cP:wr.cell? ⟨P,2,none⟩=some (.slice av nv cv):=(hP.out.cell 2).trans rfl
   have HTI:=hid (fun W (hW:AtSt W b rb (kdSn k s2))=>ctext_any b rb (kdSn k s2) W hW)
   have HTN:=hid (fun W (hW:AtSt W b rb (tS (kdSn k s2)))=>takeNum_any b rb (tS (kdSn k s2)) W hW)
   have HKK:Hid (keysV (k+1) s2=keysV k s2++[tV (kdSn k s2)]):=rfl
   have HKD:Hid (kidsV (k+1) s2=kidsV k s2++[iV (tS (kdSn k s2))]):=rfl
   have HKS:Hid (kdSn (k+1) s2=nS (tS (kdSn k s2))):=rfl
   have HTZ:=hid (tV_size (kdSn k s2))
   generalize tV (kdSn k s2)=T at *
   generalize iV (tS (kdSn k s2))=D at *
   have hszw:=hP.out.2.2.2.size
   have hPw:=hP.out.2.2.1
   have HOW:Hid (wr.ownsRow w.heap.size 9 1 (.slice av nv cv) k (strCellsL (keysV k s2))):=by
    have:=hO.out.1
    rw[keysV_length] at this
    exact this
   go_wp2_with fail
   go_region_law (first
    | (refine step_append_lies _ (by rfl) _ _ _ (by rfl) w.heap.size 9 i0 _ 1 16 Tryz.underlying31 hi hz0 hz1 hz2 rfl (by omega) (.slice av nv cv) k (strCellsL (keysV k s2)) (by rfl) (hown5.alloc _) ⟨w5.heap.size,0,none⟩ 1 1 [.string T] (by rfl) (by rfl) (World.news_of_block (cs:=#[.string T]) (t:=9) (fr:=(0,0)) (heap_newL w5 _)) (by simp[Value.oneCell']) (by omega) (by unfold maxLen;omega) (by omega) (by have:=HP5.out.2.2.2.size;simp;omega) (w5.heap.size+1) (by simp) ?_
       intro g6 cap6 w6 hown6 hgrow6 hat6 hlt6
       have hne6:∀ k,(Value.slice av nv cv).ownBlock=some k→w.heap.size≤k∧∃ cs T' fr,(w5.alloc (.cells #[.string T] 9)).heap[k]?=some (.cells cs T' fr)∧T'=9:=fun q hq=>by
        obtain⟨cs,fr,h1⟩:=owns_block hown5 q hq
        exact⟨(hown5.lt q hq).1,cs,_,fr,(qE _ _ _ (hown5.lt q hq).2).trans h1,rfl⟩
       have HP6:=hid ((HP5.out.alloc _).row hgrow6 (fun q hq=>by obtain⟨a,cs,T,fr,h1,h2⟩:=hne6 q hq;exact⟨a,cs,T,fr,h1,by rw[h2];decide⟩))
       have cP6:=HP6.out.cell
       have fP6:=HP6.out.frozen)
    | (go_simp
       go_at_call 131
       refine (HTI.out _ (AtSt.drew hat.out)).mono ?_
       rintro e w5 ⟨rfl,hc5,hg5'⟩
       have hg5:=grown_drew hg5'
       have HP5:=hid (hP.out.grown hlt hg5)
       have hown5:=owns_kept_lt HOW.out hg5 (fun q hq=>by cases hq;exact hlt)
       have HD5:=hid (hD.out.lt hg5 (fun q hq=>by cases hq;exact hlt))
       have cP5:=HP5.out.cell
       have cPo5:=fun o=>(HP5.out.alloc o).cell))
   all_goals
    have HP7:Hid (InP w (w6.setCell ⟨P,2,none⟩ (.slice (some ⟨g6,0,none⟩) (k+1) cap6)) P b #[.int .i64 2,.slice none 0 0,.slice (some ⟨g6,0,none⟩) (k+1) cap6,.slice bv mv dv,.string ⟨#[]⟩,.slice none 0 0,.slice none 0 0,.int .i64 0,.int .u64 0,.int .i64 0,.int .i64 0,.int .i64 0,.int .i64 0,.int .i64 0]):=HP6.out.set 2 _
    have HO7:Hid (OwnStrs (w6.setCell ⟨P,2,none⟩ (.slice (some ⟨g6,0,none⟩) (k+1) cap6)) w.heap.size (.slice (some ⟨g6,0,none⟩) (k+1) cap6) (keysV (k+1) s2)):=by
     refine OwnStrs.setNe ⟨?_,by rw[keysV_length];omega,keysV_sizes _ _⟩ HP6.out.1 (by decide) 2 _
     rw[keysV_length,HKK.out]
     simpa[strCellsL] using hown6
    have HD7:Hid (OwnInts (w6.setCell ⟨P,2,none⟩ (.slice (some ⟨g6,0,none⟩) (k+1) cap6)) w.heap.size (.slice bv mv dv) (kidsV k s2)):=
     ((HD5.out.alloc _).ty hgrow6 (fun q hq=>by obtain⟨a,cs,T,fr,h1,h2⟩:=hne6 q hq;exact⟨cs,T,fr,h1,by rw[h2];decide⟩)).ty (grown_setCell w6 P 2 _) (fun q hq=>by cases hq;exact⟨_,_,_,HP6.out.1,by decide⟩)
    have HA7:Hid (AtSt (w6.setCell ⟨P,2,none⟩ (.slice (some ⟨g6,0,none⟩) (k+1) cap6)) b rb (tS (kdSn k s2))):=
     (AtSt.grown (hc5.alloc _) hgrow6 (fun e=>by have:=(hne6 _ e).1;omega) (fun e=>by have:=(hne6 _ e).1;omega)).set (by omega) (by omega) _ _
    clear hown6 hgrow6 hat6 hlt6 hne6 HP6 cP6 fP6 hc5 hg5 hg5' HP5 hown5 HD5 cP5 cPo5 cP
    generalize (w6.setCell ⟨P,2,none⟩ (.slice (some ⟨g6,0,none⟩) (k+1) cap6))=W7 at *
    have cQ:W7.cell? ⟨P,3,none⟩=some (.slice bv mv dv):=(HP7.out.cell 3).trans rfl
    have HDW:Hid (W7.ownsRow w.heap.size 3 1 (.slice bv mv dv) k (intCells (kidsV k s2))):=by
     have:=HD7.out.1
     rw[kidsV_length] at this
     exact this
    go_wp2_with fail
    go_region_law (first
     | (refine step_append_lies _ (by rfl) _ _ _ (by rfl) w.heap.size 3 j0 _ 1 8 Tryz.underlying32 hj hy0 hy1 hy2 rfl (by omega) (.slice bv mv dv) k (intCells (kidsV k s2)) (by rfl) (hown5.alloc _) ⟨w5.heap.size,0,none⟩ 1 1 [.int .i64 D] (by rfl) (by rfl) (World.news_of_block (cs:=#[.int .i64 D]) (t:=3) (fr:=(0,0)) (heap_newL w5 _)) (by simp[Value.oneCell']) (by omega) (by unfold maxLen;omega) (by omega) (by have:=HP5.out.2.2.2.size;simp;omega) (w5.heap.size+1) (by simp) ?_
        intro h6 dap6 w6 hown6 hgrow6 hat6 hlt6
        have hne6:∀ k,(Value.slice bv mv dv).ownBlock=some k→w.heap.size≤k∧∃ cs T' fr,(w5.alloc (.cells #[.int .i64 D] 3)).heap[k]?=some (.cells cs T' fr)∧T'=3:=fun q hq=>by
         obtain⟨cs,fr,h1⟩:=owns_block hown5 q hq
         exact⟨(hown5.lt q hq).1,cs,_,fr,(qE _ _ _ (hown5.lt q hq).2).trans h1,rfl⟩
        have HP6:=hid ((HP5.out.alloc _).row hgrow6 (fun q hq=>by obtain⟨a,cs,T,fr,h1,h2⟩:=hne6 q hq;exact⟨a,cs,T,fr,h1,by rw[h2];decide⟩))
        have cP6:=HP6.out.cell
        have fP6:=HP6.out.frozen)
     | (go_simp
        go_at_call 128
        refine (HTN.out _ (AtSt.drew HA7.out)).mono ?_
        rintro e w5 ⟨rfl,hc5,hg5'⟩
        have hg5:=grown_drew hg5'
        have HP5:=hid (HP7.out.grown hlt hg5)
        have hown5:=owns_kept_lt HDW.out hg5 (fun q hq=>by cases hq;exact hlt)
        have HO5:=hid (HO7.out.kept hg5 (fun q hq=>by cases hq;exact hlt))
        have cP5:=HP5.out.cell
        have cPo5:=fun o=>(HP5.out.alloc o).cell))
    all_goals
     have HP8:Hid (InP w (w6.setCell ⟨P,3,none⟩ (.slice (some ⟨h6,0,none⟩) (k+1) dap6)) P b #[.int .i64 2,.slice none 0 0,.slice (some ⟨g6,0,none⟩) (k+1) cap6,.slice (some ⟨h6,0,none⟩) (k+1) dap6,.string ⟨#[]⟩,.slice none 0 0,.slice none 0 0,.int .i64 0,.int .u64 0,.int .i64 0,.int .i64 0,.int .i64 0,.int .i64 0,.int .i64 0]):=HP6.out.set 3 _
     have HD8:Hid (OwnInts (w6.setCell ⟨P,3,none⟩ (.slice (some ⟨h6,0,none⟩) (k+1) dap6)) w.heap.size (.slice (some ⟨h6,0,none⟩) (k+1) dap6) (kidsV (k+1) s2)):=by
      refine OwnInts.ty ⟨?_,by rw[kidsV_length];omega⟩ (grown_setCell w6 P 3 _) (fun q hq=>by cases hq;exact⟨_,_,_,HP6.out.1,by decide⟩)
      rw[kidsV_length,HKD.out]
      simpa[intCells] using hown6
     have HO8:Hid (OwnStrs (w6.setCell ⟨P,3,none⟩ (.slice (some ⟨h6,0,none⟩) (k+1) dap6)) w.heap.size (.slice (some ⟨g6,0,none⟩) (k+1) cap6) (keysV (k+1) s2)):=
      ((HO5.out.alloc _).ty hgrow6 (fun q hq=>by obtain⟨a,cs,T,fr,h1,h2⟩:=hne6 q hq;exact⟨cs,T,fr,h1,by rw[h2];decide⟩)).setNe HP6.out.1 (by decide) 3 _
     have HA8:Hid (AtSt (w6.setCell ⟨P,3,none⟩ (.slice (some ⟨h6,0,none⟩) (k+1) dap6)) b rb (kdSn (k+1) s2)):=
      (AtSt.grown (hc5.alloc _) hgrow6 (fun e=>by have:=(hne6 _ e).1;omega) (fun e=>by have:=(hne6 _ e).1;omega)).set (by omega) (by omega) _ _
     clear hown6 hgrow6 hat6 hlt6 hne6 HP6 cP6 fP6 hc5 hg5 hg5' HP5 hown5 HO5 cP5 cPo5 cQ
     generalize (w6.setCell ⟨P,3,none⟩ (.slice (some ⟨h6,0,none⟩) (k+1) dap6))=W8 at *
     go_wp2
     go_roundw
     case rel=>exact⟨k+1,_,_,by omega,by go_num,HP8,HO8,HD8,HA8⟩
     case measure=>simp[intOf];omega
  ·have hke:k=n:=by omega
   subst hke
   have HW:Hid (∀ W',wr.grownBy W' (some w.heap.size)→HangsB w.heap.size W' (partV 2 s1) (.slice none 0 0) (.slice av nv cv) (.slice bv mv dv) (.slice none 0 0) (.slice none 0 0)∧w.grownBy W' (some b)):=fun W' hg=>by
    refine⟨?_,grown_step hP.out.2.2.2 hg (fun q hq=>by cases hq;exact Nat.le_refl _)⟩
    rw[HPE.out]
    exact fun _ ha=>⟨items_nil _,((hO.out.ty hg (fun q hq=>by cases hq;exact⟨_,_,_,hP.out.2.1,by decide⟩)).agree ha).strs,((hD.out.ty hg (fun q hq=>by cases hq;exact⟨_,_,_,hP.out.2.1,by decide⟩)).agree ha).ints,text_nil_le,strs_nil _,frees_nil _⟩
   have cP:=hP.out.cell
   have fP:=hP.out.frozen
   have cR:=hP.out.cellR
   have fR:=hP.out.frozenR
   go_wp2
   refine bodyPost_ret (v:=.agg #[.int .i64 2,.slice none 0 0,.slice av nv cv,.slice bv mv dv,.string ⟨#[]⟩,.slice none 0 0,.slice none 0 0,.int .i64 0,.int .u64 0,.int .i64 0,.int .i64 0,.int .i64 0,.int .i64 0,.int .i64 0]) (by simp[results,Tryz.results116,go_sem,cR]) rfl ⟨_,_,_,_,_,by rw[HPE.out];rfl,HW.out _ ?_⟩
   repeat (refine grown_trans ?_ (grown_setCell _ _ _ _))
   exact grown_refl _ _
end
end Go.Proofs.YtbghhklbfnplbaaGreat

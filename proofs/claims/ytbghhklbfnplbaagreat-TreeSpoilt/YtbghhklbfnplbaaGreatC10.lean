import Derived.Deep.RegionLaw
import Derived.Test.YtbghhklbfnplbaaGreatC00
import Derived.Test.YtbghhklbfnplbaaGreatC09
set_option maxHeartbeats 4000000
set_option maxRecDepth 10000
namespace Go.Proofs.YtbghhklbfnplbaaGreat
section
open Go.RowKit Go.Sort
def FreesNow (w0 w:World) (b rb:Nat) (v:Value) (acc:List FreeD) (s:St):Prop:=OwnFrees w w0.heap.size v acc∧AtSt w b rb s∧w0.grownBy w (some b)
theorem OwnFrees.lt {w w':World} {base:Nat} {v:Value} {l:List FreeD} {row:Option Nat} (h:OwnFrees w base v l) (hg:w.grownBy w' row) (hr:∀ k,row=some k→k<base):OwnFrees w' base v l:=by
 obtain⟨hl,us,hus,hown,hids⟩:=h
 exact⟨hl,us,hus,owns_kept_lt hown hg hr,fun i h1 h2=>(hids i h1 h2).lt hg hr⟩
theorem ownFrees_nil (w:World) (base:Nat):OwnFrees w base (.slice none 0 0) []:=⟨by simp,[],rfl,World.ownsRow_nil _ _ _ _,fun i h=>absurd h (by simp)⟩
theorem AtSt.drew {w:World} {b rb:Nat} {s:St} (h:AtSt w b rb s):AtSt w.drew b rb s:=h.below ⟨rfl,rfl,rfl,Nat.le_refl _,fun _ _=>rfl⟩
theorem grown_drew {w w':World} {row:Option Nat} (h:w.drew.grownBy w' row):w.grownBy w' row:=⟨h.os,h.tape,h.output,h.size,h.block⟩
theorem intCells_snoc (k:Nat) (s:St):intCells (numsV (k+1) s)=intCells (numsV k s)++[.int .i64 (iV (nSn k s))]:=by simp[intCells,numsV]
theorem OwnInts.mono {w:World} {base B:Nat} {v:Value} {l:List Int} (h:OwnInts w base v l) (hB:B≤base):OwnInts w B v l:=⟨owns_mono h.1 hB,h.2⟩
theorem takeFree_any (b rb:Nat) (s:St) (w:World) (h:AtSt w b rb s) :
  Calls Tryz.prog 133 #[.pointer (some ⟨b,0,none⟩)] w fun e w'=>∃ v,e=.returned v∧FreesNow w w' b rb v (freesGo (min (nV s) 20) 20 (nS s)).1 (freesGo (min (nV s) 20) 20 (nS s)).2:=by
 obtain⟨i0,hi,hz0,hz1,hz2⟩:=info_parts Tryz.infoInt
 obtain⟨j0,hj,hy0,hy1,hy2⟩:=info_parts Tryz.infoFree
 have H:=hid (takeCount_any b rb s 20 w h (by omega))
 have hlt:=h.lt
 have hlr:=h.2.1
 have hn:min (nV s) 20≤20:=Nat.min_le_right _ _
 clear h
 generalize min (nV s) 20=n at *
 generalize nS s=s1 at *
 generalize hRV:(freesGo n 20 s1).1=RV at *
 generalize hRS:(freesGo n 20 s1).2=RS at *
 have HRV:=hid hRV
 have HRS:=hid hRS
 clear hRV hRS
 go_enter Tryz.func133,Tryz.ntmps133
 go_wp2
 go_step3
 go_wp2
 go_step3
 go_wp2_with fail
 refine H.out.mono ?_
 rintro e w1 ⟨rfl,hc1,hg1⟩
 have HC1:=hid hc1
 have HG1:=hid hg1
 clear hc1 hg1 H
 go_wp2
 go_loopg [3,4,8] n (fun g v rm i wr=>∃ (k:Nat) (acc:List FreeD) (room:Nat) (sx:St),k+g=n∧i=.int .i64 k∧rm=.int .i64 room∧room≤20∧acc.length=k∧Hid (FreesNow w wr b rb v acc sx)∧Hid (RV=acc++(freesGo g room sx).1)∧Hid (RS=(freesGo g room sx).2))
 case atStart=>exact⟨0,[],20,s1,by omega,rfl,rfl,by omega,rfl,⟨ownFrees_nil _ _,HC1.out,HG1.out⟩,by show _=_;rw[HRV.out];rfl,HRS.out.symm⟩
 case round=>
  obtain⟨k,acc,room,sx,hk,rfl,rfl,hroom,hacc,hnow,hrv,hrs⟩:=hrel
  clear HC1 HG1 HRV HRS
  cases gk with
  | zero=>
    have hke:k=n:=by omega
    subst hke
    go_wp2
    rw[Exit.noGoto_ret]
    go_ret
    refine⟨_,rfl,?_⟩
    have e1:RV=acc:=by rw[hrv.out];simp[freesGo]
    have e2:RS=sx:=by rw[hrs.out];rfl
    rw[e1,e2]
    exact hnow.out
  | succ g=>
    have hlk:k<n:=by omega
    obtain⟨hfr,hat,hgr⟩:=hnow.out
    have hszw:=hgr.size
    go_wp2_with fail
    refine (cnum_any b rb sx _ hat).mono ?_
    rintro e w2 ⟨rfl,hc2,hg2⟩
    have HC2:=hid (hc2.alloc (.cells #[.int .u64 (nV sx),.slice none 0 0] 108))
    have HQ2:=hid (grown_new hg2 (.cells #[.int .u64 (nV sx),.slice none 0 0] 108))
    have HF2:=hid (heap_newL w2 (.cells #[.int .u64 (nV sx),.slice none 0 0] 108))
    have hszF:=hg2.size
    clear hc2 hg2 hat
    have HFR:=hid hfr
    have HGR:=hid hgr
    clear hfr hgr hnow
    go_wp2_with fail
    refine (cnum_any b rb (nS sx) _ HC2.out).mono ?_
    rintro e w3 ⟨rfl,hc3,hg3⟩
    have HC3:=hid hc3
    have HQ3:=hid (grown_trans HQ2.out hg3)
    have HF3:Hid (w3.heap[w2.heap.size]?=some (.cells #[.int .u64 (nV sx),.slice none 0 0] 108 (0,0))):=(hg3.block w2.heap.size (by simp) (by simp;omega)).trans HF2.out
    clear hc3 hg3 HC2 HQ2 HF2
    generalize w2.heap.size=F at *
    generalize hs2:nS (nS sx)=s2 at *
    generalize hm:nV (nS sx)=m at *
    generalize ht:nV sx=t at *
    have hmlt:m<18446744073709551616:=by rw[← hm];exact nV_lt _
    have HRVE:Hid (RV=if m≤room then acc++(⟨t,numsV m s2⟩::(freesGo g (room - m) (nSn m s2)).1) else acc):=by
     show _=_
     rw[hrv.out]
     simp only[freesGo,hm,hs2,ht]
     split<;>simp
    have HRSE:Hid (RS=if m≤room then (freesGo g (room - m) (nSn m s2)).2 else nSn room s2):=by
     show _=_
     rw[hrs.out]
     simp only[freesGo,hm,hs2,ht]
     split<;>simp
    clear hrv hrs hm hs2 ht
    obtain⟨W0,hW0⟩:∃ W0,W0=wr:=⟨_,rfl⟩
    subst hW0
    go_wp2
    go_loopg [4,15] m (fun g2 rm i wq=>∃ (j:Nat) (left:Nat) (vid:Value),j+g2=m∧i=.int .u64 j∧rm=.int .i64 left∧left+j=room∧Hid (wq.heap[F]?=some (.cells #[.int .u64 t,vid] 108 (0,0)))∧OwnInts wq W0.heap.size vid (numsV j s2)∧Hid (AtSt wq b rb (nSn j s2))∧Hid (W0.grownBy wq (some b)))
    case atStart=>exact⟨0,room,.slice none 0 0,by omega,rfl,rfl,rfl,HF3,ownInts_nil _ _,HC3,HQ3⟩
    case round=>
     obtain⟨j,left,vid,hj2,rfl,rfl,hlj,hF,hids,hat,hq⟩:=hrel
     clear HF3 HC3 HQ3
     have hFlt:=(qA hF.out)
     have hsq:=hq.out.size
     cases gk with
     | zero=>
       have hjm:j=m:=by omega
       subst hjm
       obtain⟨av,nv,cv,rfl⟩:=hids.slice
       have cF:=cell_rowL hF.out
       have HFN:=hid (HFR.out.lt hq.out (fun k hk=>by cases hk;omega))
       have HGN:=hid (grown_trans HGR.out hq.out)
       have HIDS:=hid hids
       obtain⟨hal,us,hus,hown,hidsA⟩:=HFN.out
       have HIA:=hid hidsA
       have e1:RV=acc++(⟨t,numsV j s2⟩::(freesGo g (room - j) (nSn j s2)).1):=by rw[HRVE.out,if_pos (by omega)]
       have e2:RS=(freesGo g (room - j) (nSn j s2)).2:=by rw[HRSE.out,if_pos (by omega)]
       have E1:=hid e1
       have E2:=hid e2
       clear e1 e2 hidsA hids HFN HRVE HRSE
       go_wp2_with (at_builtin;refine wpList_append_own _ rfl _ _ 54 rfl w.heap.size 108 j0 (.agg #[.int .u64 0,.slice none 0 0]) 2 32 Tryz.underlying54 hj hy0 hy1 hy2 rfl (by decide) _ _ _ rfl (hown.alloc _) ⟨wr.heap.size,0,none⟩ 1 1 [.int .u64 t,.slice av nv cv] rfl rfl (World.news_of_block (cs:=#[.int .u64 t,.slice av nv cv]) (t:=108) (fr:=(0,0)) (heap_newL wr _)) (fun x hx=>by simp at hx;rcases hx with rfl|rfl<;>rfl) (by unfold maxLen;omega) (by omega) (by have:=HGN.out.size;simp;omega) ?_)
       intro v' w5 hown' hgrow _
       have hrow:∀ k,u3.ownBlock=some k→w.heap.size≤k∧k<wr.heap.size:=hown.lt
       have hblk:=owns_block hown
       have hne3:∀ k,u3.ownBlock=some k→∃ cs T fr,(wr.alloc (.cells #[.int .u64 t,.slice av nv cv] 108)).heap[k]?=some (.cells cs T fr)∧T≠3:=fun k hk=>by
        obtain⟨cs,fr,h1⟩:=hblk k hk
        exact⟨cs,_,fr,(qE _ _ _ (hrow k hk).2).trans h1,by decide⟩
       have HNOW:Hid (FreesNow w w5 b rb v' (acc++[⟨t,numsV j s2⟩]) (nSn j s2)):=by
        refine⟨⟨by simp;omega,us++[.slice av nv cv],by simp[hus],?_,fun i h1 h2=>?_⟩,?_,?_⟩
        ·rw[freeCells_snoc acc us _ _ hus]
         simpa[hacc] using hown'
        ·by_cases hi2:i<acc.length
         ·have h3:i<us.length:=by omega
          rw[List.getElem_append_left hi2,List.getElem_append_left h3]
          exact ((HIA.out i hi2 h3).alloc _).ty hgrow hne3
         ·have hi3:i=acc.length:=by simp at h1;omega
          subst hi3
          rw[List.getElem_append_right qL,List.getElem_append_right (by omega)]
          simp only[hus,Nat.sub_self,qH]
          exact ((HIDS.out.mono hszw).alloc _).ty hgrow hne3
        ·exact AtSt.grown (hat.out.alloc _) hgrow (fun e=>by have:=(hrow _ e).1;omega) (fun e=>by have:=(hrow _ e).1;omega)
        ·exact grown_step (grown_new HGN.out _) hgrow (fun q hq=>(hrow q hq).1)
       clear hown' hgrow hown hrow hblk hne3 cF
       go_wp2
       go_roundg g
       case measure=>omega
       case rel=>exact⟨k+1,acc++[⟨t,numsV j s2⟩],room - j,nSn j s2,by omega,by go_num,by go_num,by omega,by simp[hacc],HNOW,by show _=_;rw[E1.out];simp,E2⟩
     | succ g2=>
       by_cases hl0:left=0
       ·subst hl0
        go_wp2
        rw[Exit.noGoto_ret]
        go_ret
        refine⟨_,rfl,?_⟩
        have e1:RV=acc:=by rw[HRVE.out,if_neg (by omega)]
        have e2:RS=nSn j s2:=by rw[HRSE.out,if_neg (by omega)];congr 1;omega
        rw[e1,e2]
        exact⟨HFR.out.lt hq.out (fun k hk=>by cases hk;omega),hat.out,grown_trans HGR.out hq.out⟩
       ·have hlB:((left:Int)==0)=false:=by simp;omega
        obtain⟨av,nv,cv,rfl⟩:=hids.slice
        have cF:wr.cell? ⟨F,1,none⟩=some (.slice av nv cv):=by rw[cell_rowL hF.out];rfl
        have fF:wr.frozen? ⟨F,1,none⟩=false:=frozen_rowL hF.out 1
        have HIDS:=hid hids
        have HTN:=hid (fun W (hW:AtSt W b rb (nSn j s2))=>takeNum_any b rb (nSn j s2) W hW)
        have HSN:=hid (intCells_snoc j s2)
        have hjb:j≤20:=by omega
        have HNL:=hid (numsV_length j s2)
        clear hids
        generalize iV (nSn j s2)=NV at *
        go_wp2_with fail
        go_region_law (first
          | (refine step_append_lies _ (by rfl) _ _ _ (by rfl) W0.heap.size 3 i0 _ 1 8 Tryz.underlying32 hi hz0 hz1 hz2 rfl (by omega) (.slice av nv cv) j (intCells (numsV j s2)) (by rfl) (by have:=hI4.1.alloc (.cells #[.int .i64 NV] 3);rw[HNL.out] at this;exact this) ⟨w4.heap.size,0,none⟩ 1 1 [.int .i64 NV] (by rfl) (by rfl) (World.news_of_block (cs:=#[.int .i64 NV]) (t:=3) (fr:=(0,0)) (heap_newL w4 _)) (by simp[Value.oneCell']) (by omega) (by unfold maxLen;omega) (by omega) (by have:=hq4.size;simp;omega) (w4.heap.size+1) (by simp) ?_
             intro g5 cap5 w5 hown5 hgrow5 hat5 hlt5
             have hneF:(Value.slice av nv cv).ownBlock≠some F:=fun e=>by
              obtain⟨cs,fr,h1⟩:=owns_block hI4.1 F e
              rw[hF4] at h1
              simp at h1
             have hF5:w5.heap[F]?=some (.cells #[.int .u64 t,.slice av nv cv] 108 (0,0)):=(hgrow5.block F (by have:=(qA hF4);simp;omega) (fun e=>hneF e.symm)).trans ((qE _ _ _ (qA hF4)).trans hF4)
             have cF5:w5.cell? ⟨F,1,none⟩=some (.slice av nv cv):=by rw[cell_rowL hF5];rfl
             have fF5:w5.frozen? ⟨F,1,none⟩=false:=frozen_rowL hF5 1)
          | (go_simp
             go_at_call 128
             refine (HTN.out _ (AtSt.drew hat.out)).mono ?_
             rintro e w4 ⟨rfl,hc4,hg4'⟩
             have hg4:=grown_drew hg4'
             have hF4:w4.heap[F]?=some (.cells #[.int .u64 t,.slice av nv cv] 108 (0,0)):=(hg4.block F hFlt (by simp;omega)).trans hF.out
             have cF4:w4.cell? ⟨F,1,none⟩=some (.slice av nv cv):=by rw[cell_rowL hF4];rfl
             have cFo4:∀ o,(w4.alloc o).cell? ⟨F,1,none⟩=some (.slice av nv cv):=fun o=>(cell_rowL ((qE _ _ _ (qA hF4)).trans hF4) 1).trans rfl
             have hI4:=OwnInts.lt HIDS.out hg4 (fun k hk=>by cases hk;omega)
             have hq4:=grown_trans hq.out hg4))
        all_goals
         have HF6:Hid ((w5.setCell ⟨F,1,none⟩ (.slice (some ⟨g5,0,none⟩) (j+1) cap5)).heap[F]?=some (.cells #[.int .u64 t,.slice (some ⟨g5,0,none⟩) (j+1) cap5] 108 (0,0))):=by
          show _=_
          rw[heap_setCell_same w5 F 1 _ _ _ hF5]
          rfl
         have HI6:Hid (OwnInts (w5.setCell ⟨F,1,none⟩ (.slice (some ⟨g5,0,none⟩) (j+1) cap5)) W0.heap.size (.slice (some ⟨g5,0,none⟩) (j+1) cap5) (numsV (j+1) s2)):=by
          refine OwnInts.ty ⟨?_,by rw[numsV_length];omega⟩ (grown_setCell w5 F 1 _) (fun k hk=>by cases hk;exact⟨_,_,_,hF5,by decide⟩)
          rw[numsV_length,HSN.out]
          exact hown5
         have hrow5:∀ k,(Value.slice av nv cv).ownBlock=some k→W0.heap.size≤k:=fun k hk=>(hI4.1.lt k hk).1
         have HA6:Hid (AtSt (w5.setCell ⟨F,1,none⟩ (.slice (some ⟨g5,0,none⟩) (j+1) cap5)) b rb (nSn (j+1) s2)):=
          (AtSt.grown (hc4.alloc _) hgrow5 (fun e=>by have:=hrow5 _ e;omega) (fun e=>by have:=hrow5 _ e;omega)).set (by omega) (by omega) _ _
         have HQ6:Hid (W0.grownBy (w5.setCell ⟨F,1,none⟩ (.slice (some ⟨g5,0,none⟩) (j+1) cap5)) (some b)):=
          grown_set (grown_step (grown_new hq4 _) hgrow5 hrow5) F 1 hszF _
         clear hown5 hgrow5 hat5 hlt5 hneF hF5 cF5 fF5 hrow5 hc4 hg4 hg4' hF4 cF4 cFo4 hI4 hq4
         generalize (w5.setCell ⟨F,1,none⟩ (.slice (some ⟨g5,0,none⟩) (j+1) cap5))=W6 at *
         go_wp2
         go_roundg g2
         case measure=>omega
         case rel=>exact⟨j+1,left - 1,_,by omega,by go_num,by go_num,by omega,HF6,HI6.out,HA6,HQ6⟩
end
section
open Go.RowKit Go.Sort
def itemRows (l:List ItemD) (us:List Value):List Value:=(List.zipWith (fun x u=>itemCells x u) l us).flatten
def OwnItems (w:World) (base:Nat) (v:Value) (l:List ItemD):Prop:=
 l.length≤1000∧(∀ x∈l,x.key.size≤65535∧x.val.size≤65535)∧∃ us:List Value,us.length=l.length∧w.ownsRow base 45 10 v l.length (itemRows l us)∧∀ i (h:i<l.length) (h':i<us.length),OwnStrs w base us[i] l[i].vals
theorem itemRows_snoc (l:List ItemD) (us:List Value) (x:ItemD) (u:Value) (h:us.length=l.length):itemRows (l++[x]) (us++[u])=itemRows l us++itemCells x u:=by
 unfold itemRows
 rw[List.zipWith_append (by omega),List.flatten_append]
 simp
theorem OwnItems.items {w:World} {base:Nat} {v:Value} {l:List ItemD} (h:OwnItems w base v l):ItemsAt w v l:=by
 obtain⟨hl,hz,us,hus,hown,hv⟩:=h
 rcases hown.2 with ⟨rfl,h0⟩|⟨g,cap,cur,rfl,_,hgg,_⟩
 ·have:l=[]:=List.eq_nil_of_length_eq_zero h0
  subst this
  exact items_nil w
 ·have hlt:g<w.heap.size:=(qA hgg)
  refine⟨some ⟨g,0,none⟩,cap,rfl,by unfold maxLen;omega,fun i hi=>⟨g,0,us[i]'(by omega),rfl,hlt,?_,(hv i hi (by omega)).strs,?_,?_⟩⟩
  ·intro j u hj
   have hj10:j<10:=by
    rcases Nat.lt_or_ge j 10 with h|h
    ·exact h
    ·rw[List.getElem?_eq_none (by simp[itemCells];omega)] at hj
     cases hj
   have key:(itemRows l us)[i*10+j]?=some u:=by
    unfold itemRows
    rw[flatten_at 10 _ i j ?_ (by simp;omega) hj10]
    ·simpa using hj
    ·intro r hr
     obtain⟨k,hk,rfl⟩:=List.mem_iff_getElem.1 hr
     simp[itemCells]
   have:=hown.cells (g:=g) rfl (i*10+j) _ key
   rw[Addr.add_mid] at this
   rwa [Nat.add_assoc]
  ·have:=(hz _ (List.getElem_mem hi)).1
   unfold maxLen
   omega
  ·have:=(hz _ (List.getElem_mem hi)).2
   unfold maxLen
   omega
theorem ownItems_nil (w:World) (base:Nat):OwnItems w base (.slice none 0 0) []:=⟨by simp,by simp,[],rfl,World.ownsRow_nil _ _ _ _,fun i h=>absurd h (by simp)⟩
theorem OwnItems.slice {w:World} {base:Nat} {v:Value} {l:List ItemD} (h:OwnItems w base v l):∃ ao n cap,v=.slice ao n cap:=by
 obtain⟨_,_,us,_,h,_⟩:=h
 rcases h.2 with ⟨rfl,_⟩|⟨g,cap,cur,rfl,_⟩
 ·exact⟨_,_,_,rfl⟩
 ·exact⟨_,_,_,rfl⟩
theorem OwnStrs.ty {w w':World} {base:Nat} {v:Value} {l:List ByteArray} {row:Option Nat} (h:OwnStrs w base v l) (hg:w.grownBy w' row) (hr:∀ k,row=some k→∃ cs T fr,w.heap[k]?=some (.cells cs T fr)∧T≠9):OwnStrs w' base v l:=⟨owns_kept_ty h.1 hg hr,h.2⟩
theorem OwnStrs.alloc {w:World} {base:Nat} {v:Value} {l:List ByteArray} (h:OwnStrs w base v l) (o:Obj):OwnStrs (w.alloc o) base v l:=⟨h.1.alloc o,h.2⟩
theorem OwnItems.ty {w w':World} {base:Nat} {v:Value} {l:List ItemD} {row:Option Nat} (h:OwnItems w base v l) (hg:w.grownBy w' row) (hr:∀ k,row=some k→∃ cs T fr,w.heap[k]?=some (.cells cs T fr)∧T≠9∧T≠45):OwnItems w' base v l:=by
 obtain⟨hl,hz,us,hus,hown,hv⟩:=h
 refine⟨hl,hz,us,hus,owns_kept_ty hown hg (fun k hk=>?_),fun i h1 h2=>(hv i h1 h2).ty hg (fun k hk=>?_)⟩
 ·obtain⟨a,b,c,d,e,f⟩:=hr k hk
  exact⟨a,b,c,d,f⟩
 ·obtain⟨a,b,c,d,e,f⟩:=hr k hk
  exact⟨a,b,c,d,e⟩
theorem OwnFrees.ty {w w':World} {base:Nat} {v:Value} {l:List FreeD} {row:Option Nat} (h:OwnFrees w base v l) (hg:w.grownBy w' row) (hr:∀ k,row=some k→∃ cs T fr,w.heap[k]?=some (.cells cs T fr)∧T≠3∧T≠108):OwnFrees w' base v l:=by
 obtain⟨hl,us,hus,hown,hids⟩:=h
 refine⟨hl,us,hus,owns_kept_ty hown hg (fun k hk=>?_),fun i h1 h2=>(hids i h1 h2).ty hg (fun k hk=>?_)⟩
 ·obtain⟨a,b,c,d,e,f⟩:=hr k hk
  exact⟨a,b,c,d,f⟩
 ·obtain⟨a,b,c,d,e,f⟩:=hr k hk
  exact⟨a,b,c,d,e⟩
def itSn:Nat→St→St
 | 0,s=>s
 | k+1,s=>itemS (itSn k s)
def itemsV:Nat→St→List ItemD
 | 0,_=>[]
 | k+1,s=>itemsV k s++[itemV (itSn k s)]
theorem itemsV_length:∀ k s,(itemsV k s).length=k
 | 0,_=>rfl
 | k+1,s=>by simp[itemsV,itemsV_length k s]
def kdS (s:St):St:=nS (tS s)
def kdSn:Nat→St→St
 | 0,s=>s
 | k+1,s=>kdS (kdSn k s)
def keysV:Nat→St→List ByteArray
 | 0,_=>[]
 | k+1,s=>keysV k s++[tV (kdSn k s)]
def kidsV:Nat→St→List Int
 | 0,_=>[]
 | k+1,s=>kidsV k s++[iV (tS (kdSn k s))]
theorem keysV_length:∀ k s,(keysV k s).length=k
 | 0,_=>rfl
 | k+1,s=>by simp[keysV,keysV_length k s]
theorem kidsV_length:∀ k s,(kidsV k s).length=k
 | 0,_=>rfl
 | k+1,s=>by simp[kidsV,kidsV_length k s]
theorem keysV_sizes:∀ k s,∀ x∈keysV k s,x.size≤65535
 | 0,_,x,h=>by simp[keysV] at h
 | k+1,s,x,h=>by
   rcases List.mem_append.1 h with h|h
   ·exact keysV_sizes k s x h
   ·rw[List.mem_singleton.1 h]
    exact tV_size _
theorem item_sizes (s:St):(itemV s).key.size≤65535∧(itemV s).val.size≤65535:=by
 have h1:=tV_size s
 have h2:=tV_size (nS (tS s))
 have hz:(⟨#[]⟩:ByteArray).size=0:=rfl
 unfold itemV
 split
 ·exact⟨h1,h2⟩
 split
 ·exact⟨h1,by rw[noItem,hz];omega⟩
 split
 ·exact⟨h1,by rw[noItem,hz];omega⟩
 split
 ·exact⟨h1,by rw[noItem,hz];omega⟩
 ·exact⟨h1,by rw[noItem,hz];omega⟩
def Agree (base:Nat) (w w':World):Prop:=w.heap.size≤w'.heap.size∧∀ q,base≤q→q<w.heap.size→w'.heap[q]?=w.heap[q]?
theorem owns_agree {w w':World} {base:Nat} {e:TypeId} {size n:Nat} {v:Value} {xs:List Value} (h:w.ownsRow base e size v n xs) (ha:Agree base w w'):w'.ownsRow base e size v n xs:=by
 refine⟨h.1,?_⟩
 rcases h.2 with hn|⟨g,cap,cur,hv,hg,hh,rest⟩
 ·exact .inl hn
 ·exact .inr ⟨g,cap,cur,hv,hg,(ha.2 g hg (qA hh)).trans hh,rest⟩
theorem OwnStrs.agree {w w':World} {base:Nat} {v:Value} {l:List ByteArray} (h:OwnStrs w base v l) (ha:Agree base w w'):OwnStrs w' base v l:=⟨owns_agree h.1 ha,h.2⟩
theorem OwnInts.agree {w w':World} {base:Nat} {v:Value} {l:List Int} (h:OwnInts w base v l) (ha:Agree base w w'):OwnInts w' base v l:=⟨owns_agree h.1 ha,h.2⟩
theorem OwnItems.agree {w w':World} {base:Nat} {v:Value} {l:List ItemD} (h:OwnItems w base v l) (ha:Agree base w w'):OwnItems w' base v l:=by
 obtain⟨hl,hz,us,hus,hown,hv⟩:=h
 exact⟨hl,hz,us,hus,owns_agree hown ha,fun i h1 h2=>(hv i h1 h2).agree ha⟩
theorem OwnFrees.agree {w w':World} {base:Nat} {v:Value} {l:List FreeD} (h:OwnFrees w base v l) (ha:Agree base w w'):OwnFrees w' base v l:=by
 obtain⟨hl,us,hus,hown,hids⟩:=h
 exact⟨hl,us,hus,owns_agree hown ha,fun i h1 h2=>(hids i h1 h2).agree ha⟩
theorem OwnFrees.mono {w:World} {base B:Nat} {v:Value} {l:List FreeD} (h:OwnFrees w base v l) (hB:B≤base):OwnFrees w B v l:=by
 obtain⟨hl,us,hus,hown,hids⟩:=h
 exact⟨hl,us,hus,owns_mono hown hB,fun i h1 h2=>(hids i h1 h2).mono hB⟩
def HangsB (base:Nat) (w:World) (p:PageD) (vi vk vd vv vf:Value):Prop:=∀ w',Agree base w w'→Hangs w' p vi vk vd vv vf
theorem text_nil_le:(⟨#[]⟩:ByteArray).size≤maxLen:=Nat.zero_le _
def metaV (s:St):MetaD:=⟨nV s,rootV (nS s),iV (rootS (nS s)),iV (nS (rootS (nS s)))⟩
def partV (k:Int) (s:St):PageD:=
 if k=1 then { noPage with kind:=k,items:=itemsV (min (nV s) 4) (nS s) }
 else if k=2 then { noPage with kind:=k,keys:=keysV (min (nV s) 4) (nS s),kids:=kidsV (min (nV s) 4) (nS s) }
 else if k=3 then { noPage with kind:=k,text:=tV s }
 else if k=4 then { noPage with kind:=k,vals:=textsV (min (nV s) 12) (nS s) }
 else if k=5 then { noPage with kind:=k,free:=(freesGo (min (nV s) 20) 20 (nS s)).1,next:=iV (freesGo (min (nV s) 20) 20 (nS s)).2 }
 else if k=6 then { noPage with kind:=k,mt:=metaV s }
 else { noPage with kind:=k }
def pageV (s:St):PageD:=partV (iV (nS s)) (nS (nS s))
theorem Tryz.infoItem:(Tryz.prog.info? 45).map (fun i=>(i.zero,i.size,i.bytes))=some (some (.agg #[.string ⟨#[]⟩,.int .i64 0,.string ⟨#[]⟩,.int .i64 0,.int .i64 0,.slice none 0 0,.int .i64 0,.int .i64 0,.int .i64 0,.int .i64 0]),10,112):=by kernel_rfl
def InP (w W:World) (P b:Nat) (cs:Array Value):Prop:=
 W.heap[P]?=some (.cells cs 59 (0,0))∧W.heap[w.heap.size]?=some (.cells #[.int .i64 0,.slice none 0 0,.slice none 0 0,.slice none 0 0,.string ⟨#[]⟩,.slice none 0 0,.slice none 0 0,.int .i64 0,.int .u64 0,.int .i64 0,.int .i64 0,.int .i64 0,.int .i64 0,.int .i64 0] 59 (0,0))∧w.heap.size<P∧w.grownBy W (some b)
theorem InP.grown {w W W':World} {P b:Nat} {cs:Array Value} (h:InP w W P b cs) (hb:b<w.heap.size) (hg:W.grownBy W' (some b)):InP w W' P b cs:=by
 obtain⟨h1,h2,h3,h4⟩:=h
 exact⟨(hg.block P (qA h1) (by simp;omega)).trans h1,(hg.block _ (qA h2) (by simp;omega)).trans h2,h3,grown_trans h4 hg⟩
theorem InP.set {w W:World} {P b:Nat} {cs:Array Value} (h:InP w W P b cs) (i:Nat) (v:Value):InP w (W.setCell ⟨P,i,none⟩ v) P b (cs.setIfInBounds i v):=by
 obtain⟨h1,h2,h3,h4⟩:=h
 exact⟨heap_setCell_same W P i _ _ _ h1,(qD _ _ _ _ (by simp;omega)).trans h2,h3,grown_set h4 P i (by omega) v⟩
theorem InP.alloc {w W:World} {P b:Nat} {cs:Array Value} (h:InP w W P b cs) (o:Obj):InP w (W.alloc o) P b cs:=by
 obtain⟨h1,h2,h3,h4⟩:=h
 exact⟨(qE _ _ _ (qA h1)).trans h1,(qE _ _ _ (qA h2)).trans h2,h3,grown_new h4 o⟩
theorem InP.row {w W W':World} {P b:Nat} {cs:Array Value} {row:Option Nat} (h:InP w W P b cs) (hg:W.grownBy W' row) (hr:∀ k,row=some k→w.heap.size≤k∧∃ cs T fr,W.heap[k]?=some (.cells cs T fr)∧T≠59):InP w W' P b cs:=by
 obtain⟨h1,h2,h3,h4⟩:=h
 have key:∀ (q:Nat) (c:Array Value),W.heap[q]?=some (Obj.cells c 59 (0,0))→W'.heap[q]?=some (Obj.cells c 59 (0,0)):=by
  intro q c hq
  refine (hg.block q (qA hq) (fun e=>?_)).trans hq
  obtain⟨_,c2,T,fr,hk,hT⟩:=hr q e.symm
  rw[hq] at hk
  simp only[qQ,qX] at hk
  exact hT hk.2.1.symm
 exact⟨key _ _ h1,key _ _ h2,h3,grown_step h4 hg (fun k hk=>(hr k hk).1)⟩
theorem InP.cell {w W:World} {P b:Nat} {cs:Array Value} (h:InP w W P b cs) (j:Nat):W.cell? ⟨P,j,none⟩=cs[j]?:=cell_rowL h.1 j
theorem InP.frozen {w W:World} {P b:Nat} {cs:Array Value} (h:InP w W P b cs) (j:Nat):W.frozen? ⟨P,j,none⟩=false:=frozen_rowL h.1 j
theorem InP.cellR {w W:World} {P b:Nat} {cs:Array Value} (h:InP w W P b cs) (j:Nat):W.cell? ⟨w.heap.size,j,none⟩=(#[.int .i64 0,.slice none 0 0,.slice none 0 0,.slice none 0 0,.string ⟨#[]⟩,.slice none 0 0,.slice none 0 0,.int .i64 0,.int .u64 0,.int .i64 0,.int .i64 0,.int .i64 0,.int .i64 0,.int .i64 0]:Array Value)[j]?:=cell_rowL h.2.1 j
theorem InP.frozenR {w W:World} {P b:Nat} {cs:Array Value} (h:InP w W P b cs) (j:Nat):W.frozen? ⟨w.heap.size,j,none⟩=false:=frozen_rowL h.2.1 j
end
end Go.Proofs.YtbghhklbfnplbaaGreat

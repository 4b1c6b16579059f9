import Derived.Test.YtbghhklbfnplbaaGreatC00
import Derived.Test.YtbghhklbfnplbaaGreatC37
import Derived.Test.YtbghhklbfnplbaaGreatC35
import Derived.Test.YtbghhklbfnplbaaGreatC41
set_option maxHeartbeats 4000000
set_option maxRecDepth 10000
namespace Go.Proofs.YtbghhklbfnplbaaGreat
section
open Go.RowKit
theorem tr_page {w0 w:World} {fb rb:Nat} {ps:List PageD} {sh:List F.Sh} {D:List ByteArray} (h:Tr w0 w fb rb ps sh D) {k:Nat} (hk:k<ps.length) :
  ∃ (ai:Option Addr) (ci:Nat) (ap:Option Addr) (cp:Nat) (ia:Addr) (u:PV) (pb po:Nat),(∀ W,Below w.heap.size w W→W.cell? ⟨rb,5,none⟩=some (.slice ai ps.length ci)∧W.cell? ⟨rb,6,none⟩=some (.slice ap ps.length cp)) ∧
    (∀ W,(Instr.indexAt 32 (.slice ai ps.length ci) (.int .i64 (k:Int))).run Tryz.prog W=.ok (.pointer (some ia)) W)∧(∀ W,Below w.heap.size w W→W.cell? ia=some (.int .i64 (num k))) ∧
    (∀ W,(Instr.indexAt 68 (.slice ap ps.length cp) (.int .i64 (k:Int))).run Tryz.prog W=.ok (.pointer (some ⟨pb,po,none⟩)) W)∧(∀ W,Below w.heap.size w W→W.rangeAt pb po (cellsPV ps[k] u))∧∀ W,Below w.heap.size w W→Hangs W ps[k] u.i u.k u.d u.v u.f:=by
 obtain⟨vi,vp,hs⟩:=h.st
 obtain⟨ai,ci,rfl,hg⟩:=hs.ids.get
 obtain⟨ap,cp,u,pb,o,rfl,hu,hpx,_,hr⟩:=hs.pages.get hk
 have hil:(mkS ps).ids.length=ps.length:=by simp[mkS]
 have hpl:(mkS ps).ps.length=ps.length:=rfl
 obtain⟨ia,hix,hic⟩:=hg k (by rw[hil];exact hk)
 have hgd:(mkS ps).ids.getD k 0=num k:=by simp[mkS,List.getD,hk]
 rw[hil] at hix
 refine⟨ai,ci,ap,cp,ia,u,pb,o+k*14,fun W hW=>?_,hix,fun W hW=>by rw[hic W (.below hW),hgd],hpx,fun W hW=>hr W (.below hW),fun W hW=>hu.at W (.below hW)⟩
 have h5:=(hs.below hW).cells 5
 have h6:=(hs.below hW).cells 6
 rw[hil] at h5
 exact⟨h5,h6⟩
theorem tr_ids {w0 w:World} {fb rb:Nat} {ps:List PageD} {sh:List F.Sh} {D:List ByteArray} (h:Tr w0 w fb rb ps sh D):∃ (ai:Option Addr) (ci:Nat),w.cell? ⟨rb,5,none⟩=some (.slice ai ps.length ci):=by
 obtain⟨vi,vp,hs⟩:=h.st
 obtain⟨ai,ci,rfl,_⟩:=hs.ids
 have hil:(mkS ps).ids.length=ps.length:=by simp[mkS]
 have h5:=hs.cells 5
 rw[hil] at h5
 exact⟨ai,ci,h5⟩
theorem grow_succ {keys:List Nat} {k:Nat} {ps ps':List PageD} {root root':Int} (h:growR keys k=(mkS ps,root)) (e:putRootR (mkS ps) root (it2 (keys.getD k 0)) 8=((root',0),mkS ps')):growR keys (k+1)=(mkS ps',root'):=by
 unfold growR
 rw[h]
 simp only[e,if_true]
theorem tree_anyG (w:World) (v:Value) (keys:List Nat) (hk0:KeysAt w v keys) (h2560:∀ y∈keys,y<256) (hl0:keys.length≤120) :
  Calls Tryz.prog 7 #[v] w fun e w'=>∃ (B fb:Nat) (ps:List PageD) (root:Int) (uV uD uL:Value),e=.returned (.tuple #[.pointer (some ⟨fb,0,none⟩),.int .i64 root,.int .i64 (num ps.length)])∧RootAt ps root (setN keys keys.length)∧growR keys keys.length=(mkS ps,root)∧w.heap.size≤B∧F.RfAt w' B fb uV uD uL (fileV ps) (fileV ps) []∧Below w.heap.size w w':=by
 obtain⟨ao,cap,rfl,hlm,hcl⟩:=hk0
 have HK:Hid (∀ k,k<keys.length→∃ a,(∀ W,(Instr.indexAt 22 (.slice ao keys.length cap) (.int .i64 (k:Int))).run Tryz.prog W=.ok (.pointer (some a)) W)∧∀ W,Below w.heap.size w W→W.cell? a=some (.int .u8 ((keys.getD k 0:Nat):Int))):=hidA (fun k hk=>KeysAt.get ⟨ao,cap,rfl,hlm,hcl⟩ hk)
 have hln:=hidA hl0
 have h256:Hid (∀ k,k<keys.length→keys.getD k 0<256):=hidA (fun k hk=>by
  have:=h2560 _ (List.getElem_mem hk)
  simpa[List.getD,hk] using this)
 have hbA:=hidA (belowA w (.cells #[.string ⟨#[]⟩,.string ⟨#[]⟩] 9))
 have hsA:Hid (StrsAt (w.alloc (.cells #[.string ⟨#[]⟩,.string ⟨#[]⟩] 9)) (.slice (some ⟨w.heap.size,0,none⟩) 2 2) [⟨#[]⟩,⟨#[]⟩]):=hidA (by
  have hc:=cell_rowL (heap_newL w (.cells #[.string ⟨#[]⟩,.string ⟨#[]⟩] 9))
  refine⟨some ⟨w.heap.size,0,none⟩,2,rfl,⟨by unfold maxLen;simp,Nat.le_refl _⟩,fun i hi=>⟨_,rfl,?_,?_⟩⟩
  ·rw[Addr.add_mid,hc]
   match i,hi with
   | 0,_=>rfl
   | 1,_=>rfl
  ·unfold maxLen
   match i,hi with
   | 0,_=>simp[ByteArray.size]
   | 1,_=>simp[ByteArray.size])
 have CN:=hidA (F.rnew_any [⟨#[]⟩,⟨#[]⟩] (.slice (some ⟨w.heap.size,0,none⟩) 2 2) (w.alloc (.cells #[.string ⟨#[]⟩,.string ⟨#[]⟩] 9)) hsA.out (by simp) (fun n c e=>by cases e))
 clear hlm hcl h2560 hl0 hsA
 go_enter Tryz.func7,Tryz.ntmps7
 go_wp2_with fail
 refine CN.out.mono ?_
 rintro e w1 ⟨fb,uV,uD,uL,rfl,hF1,hb1⟩
 have hF1:=hidA hF1
 have hb1:=hidA hb1
 go_wp2_with fail
 refine (rnew8_any fb 2 400 w1 (by omega) (by omega) (by omega) (by omega)).mono ?_
 rintro e w2 ⟨rfl,rfl⟩
 have hT0:=hidA (Tr.start (w0:=w.alloc (.cells #[.string ⟨#[]⟩,.string ⟨#[]⟩] 9)) (sh:=shTo [] 0) ⟨uV,uD,uL,hF1.out⟩ hb1.out)
 clear hF1 hb1 CN
 generalize w1.heap.size=rb at *
 generalize w1.alloc (.cells #[.pointer (some ⟨fb,0,none⟩),.int .i64 2,.int .i64 400,.slice none 0 0,.slice none 0 0,.slice none 0 0,.slice none 0 0] 70)=w2 at *
 go_wp2
 go_loopg [7,8] keys.length (fun g v7 v8 wr=>∃ (k:Nat) (ps:List PageD) (root:Int),k+g=keys.length∧v7=.int .i64 root∧v8=.int .i64 k∧Hid (RootAt ps root (setN keys k))∧Hid (growR keys k=(mkS ps,root))∧Hid (Tr (w.alloc (.cells #[.string ⟨#[]⟩,.string ⟨#[]⟩] 9)) wr fb rb ps (shTo [] 0) [⟨#[]⟩,⟨#[]⟩]))
 case atStart=>exact⟨0,[],0,by omega,rfl,rfl,hidA (.inl ⟨rfl,rfl,rfl⟩),hidA rfl,hT0⟩
 case round=>
  obtain⟨k,ps,root,hk,rfl,rfl,hRt,hGr,hT⟩:=hrel
  clear hT0
  cases gk with
  | succ g=>
    have hlk:k<keys.length:=by omega
    have hkb:k≤1000:=by have:=hln.out;omega
    obtain⟨a,hix,hcell⟩:=HK.out k hlk
    have hc:=hcell wr (hbA.out.trans (hT.out.bel.mono hbA.out.size))
    have hx:=hidA (h256.out k hlk)
    have hsl:=hidA (show (setN keys k).length≤119 by have:=setN_length keys k;have:=hln.out;omega)
    have hst:=hidA (show setN keys (k+1)=insN (setN keys k) (keys.getD k 0) from rfl)
    have hgs:=hidA (fun (ps':List PageD) (root':Int) (e:putRootR (mkS ps) root (it2 (keys.getD k 0)) 8=((root',0),mkS ps'))=>grow_succ hGr.out e)
    clear hGr
    clear hcell
    generalize keys.getD k 0=x at *
    have hx0:(0:Int)≤(x:Int):=by omega
    have hx1:(x:Int)≤255:=by have:=hx.out;omega
    go_wp2_with fail
    refine (key_any x hx.out _).mono ?_
    rintro e w3 ⟨rfl,hb3⟩
    have hT3:=hidA (hT.out.below hb3)
    clear hb3 hc hix
    obtain⟨vi,vp,hs3⟩:=hT3.out.st
    obtain⟨ps',root',hr',he',hP⟩:=rput_any (S:=SF rb fb) (.inl rfl) hT3.out.lt hx.out hRt.out hsl.out hs3
    have hr':=hidA hr'
    have hg':=hidA (hgs.out ps' root' he')
    clear hgs he'
    have hP:=hidA hP
    clear hs3
    go_wp2_with fail
    refine hP.out.mono ?_
    rintro e w4 ⟨rfl,vi',vp',hR4,hg4⟩
    have hT4:=hidA (hT3.out.put hR4 hg4)
    clear hR4 hg4 hP hT3
    go_wp2
    go_roundg g
    case rel=>exact⟨k+1,ps',root',by omega,rfl,by go_num,hidA (by rw[hst.out];exact hr'.out),hg',hT4⟩
    case measure=>omega
  | zero=>
    obtain rfl:k=keys.length:=by omega
    have hps:Hid (ps.length≤120):=hidA (by have:=hRt.out.fits.2.2;have:=setN_length keys keys.length;have:=hln.out;omega)
    have hset:Hid ((setN keys keys.length).length≤120):=hidA (by have:=setN_length keys keys.length;have:=hln.out;omega)
    clear HK h256
    go_wp2
    generalize hWA:(w.alloc (.cells #[.string ⟨#[]⟩,.string ⟨#[]⟩] 9))=wA at *
    go_loopg [11] ps.length (fun g v11 wr=>∃ (k:Nat),k+g=ps.length∧v11=.int .i64 k∧Hid (Tr wA wr fb rb ps (shTo ps k) [⟨#[]⟩,⟨#[]⟩]))
    case atStart=>exact⟨0,by omega,rfl,hT⟩
    case round=>
     obtain⟨k,hk,rfl,hTk⟩:=hrel
     clear hT
     obtain⟨ai5,ci5,c5⟩:=tr_ids hTk.out
     cases gk with
     | succ g=>
       have hlk:k<ps.length:=by omega
       have hpp:=hidA (hRt.out.page hset.out hlk)
       obtain⟨ai,ci,ap,cp,ia,u,pb,po,hcc,hix,hic,hpx,hpc,hhg⟩:=tr_page hTk.out hlk
       have hcc:=hidA hcc
       have hix:=hidA hix
       have hic:=hidA hic
       have hpx:=hidA hpx
       have hpc:=hidA hpc
       have hhg:=hidA hhg
       have hkb:k≤1000:=by have:=hps.out;omega
       go_upto_region 13 with fail
       refine tr13 wr fb rb k ps.length pb po ai ci ap cp ia (num k) ps[k] u (bs (bytesD ps[k])) (fun w'=>Tr wA w' fb rb ps (shTo ps (k+1)) [⟨#[]⟩,⟨#[]⟩]) (by kernel_rfl) rfl rfl rfl rfl (fun W hW=>(hcc.out W hW).1) (fun W hW=>(hcc.out W hW).2) hix.out hic.out hpx.out hpc.out ?_ ?_ (fun w5 hT5=>?_)
       ·intro W hW
        exact rbytes_any ps[k] _ _ _ _ _ W (hhg.out W hW) (by rw[hpp.out.free];simp) hpp.out.txn
       ·intro W hW
        have hTW:=hTk.out.below hW
        obtain⟨uV,uD,uL,hff⟩:=hTW.fl
        have hnum:num k=((k+2:Nat):Int):=by simp[num]
        rw[hnum]
        refine (F.rwrite_any W wA.heap.size fb uV uD uL (shTo ps k) [⟨#[]⟩,⟨#[]⟩] (k+2) (bs (bytesD ps[k])) hff (by have:=hps.out;omega)).mono ?_
        rintro e w' ⟨rfl,uV',uD',uL',hf',hg'⟩
        refine⟨rfl,?_⟩
        have hsh:shTo ps (k+1)=F.writeL (shTo ps k) (k+2) (bs (bytesD ps[k])):=by simp[shTo,List.getD,hlk]
        rw[hsh]
        exact hTW.write hf' hg'
       have hT5:=hidA hT5
       clear hTk hcc hix hic hpx hpc hhg c5
       simp only[List.foldl_cons,List.foldl_nil,Act.put,qS,qZ,qC]
       go_wp2
       go_roundg g
       case rel=>exact⟨k+1,by omega,by go_num,hT5⟩
       case measure=>omega
     | zero=>
       obtain rfl:k=ps.length:=by omega
       go_wp2_with fail
       obtain⟨uV,uD,uL,hff⟩:=hTk.out.fl
       refine (F.rsync_any _ wA.heap.size fb uV uD uL _ _ _ hff).mono ?_
       rintro e w6 ⟨rfl,uV6,uD6,uL6,hf6,hg6⟩
       obtain⟨vi,vp,hs6⟩:=hTk.out.st
       have hrl:=hs6.lt
       have hB6:Hid (Below wA.heap.size wA w6):=hidA (by
        have hb:=hTk.out.bel
        have hbs:=hff.base
        exact⟨hg6.os.trans hb.os,hg6.tape.trans hb.tape,hg6.output.trans hb.output,qN hb.size hg6.size,fun k hk=>(hg6.block k (qM hk hb.size) (by simp;omega)).trans (hb.block k hk)⟩)
       have c1:w6.cell? ⟨rb,1,none⟩=some (.int .i64 (num ps.length)):=by
        have ho:w6.heap[rb]?=some (.cells (rsCells fb (mkS ps) (.slice none 0 0) (.slice none 0 0) vi vp) 70 (0,0)):=(hg6.block rb hrl (by simp;exact fun e=>hTk.out.ne e.symm)).trans hs6.obj
        exact (cell_rowL ho 1).trans rfl
       have hf6:=hidA hf6
       have hrt:=hidA hRt.out
       have hF:F.nowL (shTo ps ps.length)=fileV ps:=by rw[shTo_now ps ps.length qL,List.take_length];rfl
       rw[hF] at hf6
       clear hs6 hff hg6 hTk c5
       have hC1:Hid (∀ W,Below w6.heap.size w6 W→W.cell? ⟨rb,1,none⟩=some (.int .i64 (num ps.length))):=hidA (fun W hW=>(hW.cell (p:=⟨rb,1,none⟩) (qF w6 _ c1)).trans c1)
       go_upto_region 15 with fail
       refine tr15 w6 fb rb root (num ps.length) (by kernel_rfl) rfl rfl rfl rfl hC1.out (fun w7 hb7=>?_)
       simp only[List.foldl_cons,List.foldl_nil,Act.put,qS,qZ,qC]
       go_wp2_with fail
       have hw7:Below w.heap.size w w7:=by
        have hb0:=hbA.out
        exact (hb0.trans ((hB6.out.trans (hb7.mono hB6.out.size)).mono hb0.size))
       go_ret3
       exact⟨wA.heap.size,fb,ps,root,uV6,uD6,uL6,rfl,hrt.out,hGr.out,hbA.out.size,hf6.out.below hb7,hw7⟩
end
end Go.Proofs.YtbghhklbfnplbaaGreat

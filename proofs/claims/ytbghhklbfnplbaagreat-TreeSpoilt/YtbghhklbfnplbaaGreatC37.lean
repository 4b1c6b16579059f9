import Derived.Test.YtbghhklbfnplbaaGreatC00
import Derived.Test.YtbghhklbfnplbaaGreatC15
import Derived.Test.YtbghhklbfnplbaaGreatC34
import Derived.Test.YtbghhklbfnplbaaGreatC01
import Derived.Test.YtbghhklbfnplbaaGreatC36
set_option maxHeartbeats 1000000
set_option maxRecDepth 100000
namespace Go.Proofs.YtbghhklbfnplbaaGreat
section
open Go.RowKit
theorem rnew8_any (fb:Nat) (l m:Int) (w:World) (h1:2≤l) (h2:l≤400) (h3:2≤m) (h4:m≤400) :
  Calls Tryz.prog 18 #[.pointer (some ⟨fb,0,none⟩),.int .i64 l,.int .i64 m,.slice none 0 0] w fun e w'=>e=.returned (.pointer (some ⟨w.heap.size,0,none⟩))∧w'=w.alloc (.cells #[.pointer (some ⟨fb,0,none⟩),.int .i64 l,.int .i64 m,.slice none 0 0,.slice none 0 0,.slice none 0 0,.slice none 0 0] 70):=by
 have e1:min l 400=l:=by omega
 have e2:max 2 l=l:=by omega
 have e3:min m 400=m:=by omega
 have e4:max 2 m=m:=by omega
 clear h1 h2 h3 h4
 go_enter Tryz.func18,Tryz.ntmps18
 go_wp2
 go_loopg [10] 0 (fun g i wr=>i=.int .i64 0∧g=0∧wr=w.alloc (.cells #[.pointer (some ⟨fb,0,none⟩),.int .i64 l,.int .i64 m,.slice none 0 0,.slice none 0 0,.slice none 0 0,.slice none 0 0] 70))
 case atStart=>exact⟨rfl,rfl,rfl⟩
 case round=>
  obtain⟨rfl,rfl,rfl⟩:=hrel
  go_wp2
  go_ret
  exact⟨rfl,rfl⟩
end
section
open Go.RowKit
theorem u8_of (n:Nat) (h:n<256):(((UInt8.ofNat n).toNat:Nat):Int)=(n:Int):=by rw[UInt8.toNat_ofNat_of_lt' h]
theorem key_conv (k:Nat) (hk:k<256) (w:World):(convert 22 9 (.slice (some ⟨w.heap.size,0,none⟩) 2 2)).run Tryz.prog (w.alloc (.cells #[.int .u8 (97+(k:Int) / 26),.int .u8 (97+(k:Int) % 26)] 5))=.ok (.string (key2 k)) (w.alloc (.cells #[.int .u8 (97+(k:Int) / 26),.int .u8 (97+(k:Int) % 26)] 5)):=by
 have hc:=cell_rowL (heap_newL w (.cells #[.int .u8 (97+(k:Int) / 26),.int .u8 (97+(k:Int) % 26)] 5))
 have:=run_convert_bytes_back (P:=Tryz.prog) (w.alloc (.cells #[.int .u8 (97+(k:Int) / 26),.int .u8 (97+(k:Int) % 26)] 5)) 22 9 5 ⟨w.heap.size,0,none⟩ 2 [UInt8.ofNat (97+k / 26),UInt8.ofNat (97+k % 26)] Tryz.underlying22 Tryz.underlying5 Tryz.underlying9 (fun j hj=>by
  have e0:=u8_of (97+k / 26) (by omega)
  have e1:=u8_of (97+k % 26) (by omega)
  match j,hj with
  | 0,_=>
    rw[Addr.add_mid,hc]
    simp only[qH,e0]
    simp
  | 1,_=>
    rw[Addr.add_mid,hc]
    simp only[qI,qH,e1]
    simp)
 exact this
theorem key_any (k:Nat) (hk:k<256) (w:World):Calls Tryz.prog 12 #[.int .i64 (k:Int)] w fun e w'=>e=.returned (.string (key2 k))∧Below w.heap.size w w':=by
 have h1:(k:Int)≤675:=by omega
 have h0:(0:Int)≤(k:Int):=by omega
 have e1:min (k:Int) 675=(k:Int):=by omega
 have e2:max (0:Int) (k:Int)=(k:Int):=by omega
 have hcv:=key_conv k hk w
 have hb:Below w.heap.size w (w.alloc (.cells #[.int .u8 (97+(k:Int) / 26),.int .u8 (97+(k:Int) % 26)] 5)):=(qB _ _).alloc qL _
 generalize key2 k=K2 at *
 go_enter Tryz.func12,Tryz.ntmps12
 go_wp2
 go_ret
 exact⟨rfl,hb⟩
end
section
open Go.RowKit
def KeysAt (w:World) (v:Value) (l:List Nat):Prop:=∃ ao cap,v=.slice ao l.length cap∧l.length≤maxLen∧∀ i (h:i<l.length),∃ a,ao=some a∧w.cell? (a.add i)=some (.int .u8 (l[i]:Int))
theorem Tryz.elemU8k:Tryz.prog.underlying 22=some (.slice (Tryz.prog.elem 22)):=by kernel_rfl
theorem Tryz.sizeU8k (w:World):(Go.sizeOf (Tryz.prog.elem 22)).run Tryz.prog w=.ok 1 w:=by kernel_rfl
theorem KeysAt.get {w:World} {ao:Option Addr} {cap:Nat} {l:List Nat} (h:KeysAt w (.slice ao l.length cap) l) {k:Nat} (hk:k<l.length):∃ a,(∀ W,(Instr.indexAt 22 (.slice ao l.length cap) (.int .i64 (k:Int))).run Tryz.prog W=.ok (.pointer (some a)) W)∧∀ W,Below w.heap.size w W→W.cell? a=some (.int .u8 ((l.getD k 0:Nat):Int)):=by
 obtain⟨ao',cap',e,_,h1⟩:=h
 simp only[qR,true_and] at e
 obtain⟨rfl,rfl⟩:=e
 obtain⟨a,rfl,hc⟩:=h1 k hk
 refine⟨a.add k,fun W=>?_,fun W hW=>?_⟩
 ·rw[run_indexAt_slice (P:=Tryz.prog) W 22 a l.length cap .i64 k Tryz.elemU8k,if_pos (by omega),Tryz.sizeU8k]
  simp[Result.andThen]
 ·have:=(hW.cell (p:=a.add k) (qF w _ hc)).trans hc
  simpa[List.getD,hk] using this
def SF (rb fb:Nat):Nat→Prop:=fun k=>k=rb∨k=fb
structure Tr (w0 w:World) (fb rb:Nat) (ps:List PageD) (sh:List F.Sh) (D:List ByteArray):Prop where
 st:∃ vi vp,RStAt (SF rb fb) w rb fb (mkS ps) (.slice none 0 0) (.slice none 0 0) vi vp
 fl:∃ uV uD uL,F.RfAt w w0.heap.size fb uV uD uL (F.nowL sh) D (F.looseL sh 0)
 bel:Below w0.heap.size w0 w
 rbl:w0.heap.size≤rb
 ne:fb≠rb
section
variable {w0 w w':World} {fb rb:Nat} {ps ps':List PageD} {sh sh':List F.Sh} {D:List ByteArray}
theorem Tr.lt (h:Tr w0 w fb rb ps sh D):∀ k,SF rb fb k→k<w.heap.size:=by
 obtain⟨vi,vp,hs⟩:=h.st
 obtain⟨_,_,_,hf⟩:=h.fl
 rintro k (rfl|rfl)
 ·exact hs.lt
 ·exact hf.lt
theorem Tr.below (h:Tr w0 w fb rb ps sh D) (hb:Below w.heap.size w w'):Tr w0 w' fb rb ps sh D:=by
 obtain⟨vi,vp,hs⟩:=h.st
 obtain⟨_,_,_,hf⟩:=h.fl
 exact⟨⟨vi,vp,hs.below hb⟩,⟨_,_,_,hf.below hb⟩,h.bel.trans (hb.mono h.bel.size),h.rbl,h.ne⟩
theorem Tr.put (h:Tr w0 w fb rb ps sh D) {vi vp:Value} (hs:RStAt (SF rb fb) w' rb fb (mkS ps') (.slice none 0 0) (.slice none 0 0) vi vp) (hg:w.grownBy w' (some rb)):Tr w0 w' fb rb ps' sh D:=by
 obtain⟨_,_,ho⟩:=h.st
 obtain⟨_,_,_,hf⟩:=h.fl
 refine⟨⟨vi,vp,hs⟩,⟨_,_,_,hf.kept fun b cs T fr hb hT=>hg.block b (qA hb) (fun e=>?_)⟩,⟨hg.os.trans h.bel.os,hg.tape.trans h.bel.tape,hg.output.trans h.bel.output,qN h.bel.size hg.size,fun k hk=>(hg.block k (qM hk h.bel.size) (by have:=h.rbl;simp;omega)).trans (h.bel.block k hk)⟩,h.rbl,h.ne⟩
 cases e
 have:=ho.obj
 rw[hb] at this
 simp only[qQ,qX] at this
 rcases hT with rfl|rfl|rfl<;>exact absurd this.2.1 (by decide)
theorem Tr.write (h:Tr w0 w fb rb ps sh D) {uV uD uL:Value} (hf:F.RfAt w' w0.heap.size fb uV uD uL (F.nowL sh') D (F.looseL sh' 0)) (hg:w.grownBy w' (some fb)):Tr w0 w' fb rb ps sh' D:=by
 obtain⟨_,_,ho⟩:=h.st
 have hr:=ho.lt
 refine⟨⟨_,_,ho.on (.grown hg fun g e=>.inl (by cases e;exact .inr rfl)) (hg.block rb hr (by simp;exact fun e=>h.ne e.symm))⟩,⟨_,_,_,hf⟩,⟨hg.os.trans h.bel.os,hg.tape.trans h.bel.tape,hg.output.trans h.bel.output,qN h.bel.size hg.size,fun k hk=>(hg.block k (qM hk h.bel.size) (by have:=hf.base;simp;omega)).trans (h.bel.block k hk)⟩,h.rbl,h.ne⟩
theorem Tr.start (hf:∃ uV uD uL,F.RfAt w w0.heap.size fb uV uD uL (F.nowL sh) D (F.looseL sh 0)) (hb:Below w0.heap.size w0 w):Tr w0 (w.alloc (.cells #[.pointer (some ⟨fb,0,none⟩),.int .i64 2,.int .i64 400,.slice none 0 0,.slice none 0 0,.slice none 0 0,.slice none 0 0] 70)) fb w.heap.size [] sh D:=by
 obtain⟨_,_,_,hff⟩:=hf
 have hb2:Below w.heap.size w (w.alloc (.cells #[.pointer (some ⟨fb,0,none⟩),.int .i64 2,.int .i64 400,.slice none 0 0,.slice none 0 0,.slice none 0 0,.slice none 0 0] 70)):=(qB _ _).alloc qL _
 refine⟨⟨.slice none 0 0,.slice none 0 0,⟨heap_newL w _,IntsS.nil _ _,IntsS.nil _ _,IntsS.nil _ _,PagesS.nil _ _,⟨rfl,by simp[mkS],by simp[mkS],by simp[mkS],by simp[mkS,num],by simp[mkS]⟩⟩⟩,⟨_,_,_,hff.below hb2⟩,hb.trans (hb2.mono hb.size),hb.size,fun e=>?_⟩
 have:=hff.lt
 omega
end
def fileV (ps:List PageD):List ByteArray:=⟨#[]⟩::⟨#[]⟩::ps.map fun p=>bs (bytesD p)
def shTo (ps:List PageD):Nat→List F.Sh
 | 0=>F.newL [⟨#[]⟩,⟨#[]⟩]
 | k+1=>F.writeL (shTo ps k) (k+2) (bs (bytesD (ps.getD k noPage)))
theorem shTo_now (ps:List PageD):∀ k,k≤ps.length→F.nowL (shTo ps k)=⟨#[]⟩::⟨#[]⟩::(ps.take k).map fun p=>bs (bytesD p)
 | 0,_=>rfl
 | k+1,hk=>by
   have ih:=shTo_now ps k (by omega)
   have hlt:k<ps.length:=by omega
   have hl:(shTo ps k).length=k+2:=by
    have:=congrArg List.length ih
    simp[F.nowL] at this
    omega
   rw[shTo]
   unfold F.writeL F.padTo F.nowL
   rw[hl,show k+2+1 - (k+2)=1 by omega,List.map_set,List.map_append]
   have e1:(shTo ps k).map F.Sh.now=⟨#[]⟩::⟨#[]⟩::(ps.take k).map fun p=>bs (bytesD p):=ih
   rw[e1,qT hlt,List.map_append]
   have hlen:((⟨#[]⟩:ByteArray)::⟨#[]⟩::(ps.take k).map fun p=>bs (bytesD p)).length=k+2:=by simp;omega
   rw[List.set_append_right _ _ (by rw[hlen];exact Nat.le_refl _),hlen,Nat.sub_self]
   have e2:ps.getD k noPage=ps[k]:=by simp[List.getD,hlt]
   rw[e2]
   simp[List.replicate]
end
section
open Go.RowKit
def pred_tr13:Nat→List Nat|2=>[1]|3=>[2]|4=>[3]|6=>[4,5]|7=>[6]|9=>[8]|10=>[9]|11=>[10]|13=>[11,12]|14=>[13]|15=>[14]|_=>[]
def slots_tr13:Nat→List Tmp|0=>[47]|1=>[48]|2=>[49]|3=>[50]|4=>[51]|5=>[52]|6=>[53]|7=>[54]|8=>[55]|9=>[56]|10=>[57]|11=>[58]|12=>[59]|13=>[60]|14=>[61]|15=>[62]|_=>[]
def dead_tr13:Nat→Nat→Bool|_,_=>false
def G_tr13 (fb:Nat) (rb:Nat) (k:Nat) (n:Nat) (pb:Nat) (po:Nat) (ai:Option Addr) (ci:Nat) (ap:Option Addr) (cp:Nat) (ia:Addr) (idv:Int) (p:PageD) (u:PV) (sb:ByteArray):Nat→(Operand→Value)→World→Prop
 | 0,ρ,_=>ρ (.tmp 47)=.pointer (some ⟨fb,0,none⟩)
 | 1,ρ,_=>ρ (.tmp 48)=.pointer (some ⟨rb,0,none⟩)
 | 2,ρ,_=>ρ (.tmp 49)=.pointer (some ⟨rb,0,none⟩)
 | 3,ρ,_=>ρ (.tmp 50)=.pointer (some ⟨rb,5,none⟩)
 | 4,ρ,_=>ρ (.tmp 51)=.slice ai n ci
 | 5,ρ,_=>ρ (.tmp 52)=.int .i64 (k:Int)
 | 6,ρ,_=>ρ (.tmp 53)=.pointer (some ia)
 | 7,ρ,_=>ρ (.tmp 54)=.int .i64 idv
 | 8,ρ,_=>ρ (.tmp 55)=.pointer (some ⟨rb,0,none⟩)
 | 9,ρ,_=>ρ (.tmp 56)=.pointer (some ⟨rb,0,none⟩)
 | 10,ρ,_=>ρ (.tmp 57)=.pointer (some ⟨rb,6,none⟩)
 | 11,ρ,_=>ρ (.tmp 58)=.slice ap n cp
 | 12,ρ,_=>ρ (.tmp 59)=.int .i64 (k:Int)
 | 13,ρ,_=>ρ (.tmp 60)=.pointer (some ⟨pb,po,none⟩)
 | 14,ρ,_=>ρ (.tmp 61)=.agg (cellsPV p u).toArray
 | 15,ρ,_=>ρ (.tmp 62)=.string sb
 | _,_,_=>True
theorem hk_tr13:hkB (opsOf Tryz.f7 13) [0,1,2,3,4,5,6,7,8,9,10,11,12,13,14,15] [16] dead_tr13 pred_tr13 slots_tr13=true:=by kernel_rfl
theorem tr13 (w0:World) (fb rb k n pb po:Nat) (ai:Option Addr) (ci:Nat) (ap:Option Addr) (cp:Nat) (ia:Addr) (idv:Int) (p:PageD) (u:PV) (sb:ByteArray) (RW:World→Prop) {ops:Array Oper} (hops:ops=opsOf Tryz.f7 13) {a0:Act} {Q:Exit→Act→World→Prop} (hsz:a0.tmps.size=72) (h5:a0.eval (.tmp 5)=.pointer (some ⟨fb,0,none⟩)) (h6:a0.eval (.tmp 6)=.pointer (some ⟨rb,0,none⟩)) (h11:a0.eval (.tmp 11)=.int .i64 (k:Int)) (hC5:∀ W,Below w0.heap.size w0 W→W.cell? ⟨rb,5,none⟩=some (.slice ai n ci)) (hC6:∀ W,Below w0.heap.size w0 W→W.cell? ⟨rb,6,none⟩=some (.slice ap n cp))
  (hix:∀ W,(Instr.indexAt 32 (.slice ai n ci) (.int .i64 (k:Int))).run Tryz.prog W=.ok (.pointer (some ia)) W) (hCi:∀ W,Below w0.heap.size w0 W→W.cell? ia=some (.int .i64 idv))
  (hpx:∀ W,(Instr.indexAt 68 (.slice ap n cp) (.int .i64 (k:Int))).run Tryz.prog W=.ok (.pointer (some ⟨pb,po,none⟩)) W) (hCp:∀ W,Below w0.heap.size w0 W→W.rangeAt pb po (cellsPV p u))
  (hBy:∀ W,Below w0.heap.size w0 W→Calls Tryz.prog 15 #[.agg (cellsPV p u).toArray] W fun e w'=>e=.returned (.string sb)∧Below W.heap.size W w')
  (hWr:∀ W,Below w0.heap.size w0 W→Calls Tryz.prog 20 #[.pointer (some ⟨fb,0,none⟩),.int .i64 idv,.string sb] W fun e w'=>e=.returned (.int .i64 0)∧RW w')
  (hQ:∀ w',RW w'→Q .normal ([(47,.pointer (some ⟨fb,0,none⟩)),(48,.pointer (some ⟨rb,0,none⟩)),(49,.pointer (some ⟨rb,0,none⟩)),(50,.pointer (some ⟨rb,5,none⟩)),(51,.slice ai n ci),(52,.int .i64 (k:Int)),(53,.pointer (some ia)),(54,.int .i64 idv),(55,.pointer (some ⟨rb,0,none⟩)),(56,.pointer (some ⟨rb,0,none⟩)),(57,.pointer (some ⟨rb,6,none⟩)),(58,.slice ap n cp),(59,.int .i64 (k:Int)),(60,.pointer (some ⟨pb,po,none⟩)),(61,.agg (cellsPV p u).toArray),(62,.string sb),(63,.int .i64 0)].foldl (fun b (x:Nat × Value)=>b.put (some x.1) x.2) a0) w'):(Code.region 13 ops true).wp Tryz.prog Q a0 w0:=by
 subst hops
 refine wp_region_facts [0,1,2,3,4,5,6,7,8,9,10,11,12,13,14,15] [16] dead_tr13 pred_tr13 slots_tr13 (fun W=>Below w0.heap.size w0 W) (fun _ w w'=>Below w.heap.size w w') (G_tr13 fb rb k n pb po ai ci ap cp ia idv p u sb) (by kernel_rfl) hk_tr13 ?_ ?_ ?_ ?_ ?_ ?_
 ·exact⟨qB _ _,(qB _ _).drew⟩
 ·intro j hj w w' hB hR
  exact hB.trans (hR.mono hB.size)
 ·intro i hi j hj hne hnp hdd ρ w w' hB hR hG
  rcases (by simpa using hi:i=0∨i=1∨i=2∨i=3∨i=4∨i=5∨i=6∨i=7∨i=8∨i=9∨i=10∨i=11∨i=12∨i=13∨i=14∨i=15) with rfl|rfl|rfl|rfl|rfl|rfl|rfl|rfl|rfl|rfl|rfl|rfl|rfl|rfl|rfl|rfl
  ·exact hG
  ·exact hG
  ·exact hG
  ·exact hG
  ·exact hG
  ·exact hG
  ·exact hG
  ·exact hG
  ·exact hG
  ·exact hG
  ·exact hG
  ·exact hG
  ·exact hG
  ·exact hG
  ·exact hG
  ·exact hG
 ·intro i hi ρ ρ' w h hG
  rcases (by simpa using hi:i=0∨i=1∨i=2∨i=3∨i=4∨i=5∨i=6∨i=7∨i=8∨i=9∨i=10∨i=11∨i=12∨i=13∨i=14∨i=15) with rfl|rfl|rfl|rfl|rfl|rfl|rfl|rfl|rfl|rfl|rfl|rfl|rfl|rfl|rfl|rfl
  ·have e47:=h 47 (by simp[slots_tr13]);simp only[G_tr13] at hG ⊢;rw[← e47];exact hG
  ·have e48:=h 48 (by simp[slots_tr13]);simp only[G_tr13] at hG ⊢;rw[← e48];exact hG
  ·have e49:=h 49 (by simp[slots_tr13]);simp only[G_tr13] at hG ⊢;rw[← e49];exact hG
  ·have e50:=h 50 (by simp[slots_tr13]);simp only[G_tr13] at hG ⊢;rw[← e50];exact hG
  ·have e51:=h 51 (by simp[slots_tr13]);simp only[G_tr13] at hG ⊢;rw[← e51];exact hG
  ·have e52:=h 52 (by simp[slots_tr13]);simp only[G_tr13] at hG ⊢;rw[← e52];exact hG
  ·have e53:=h 53 (by simp[slots_tr13]);simp only[G_tr13] at hG ⊢;rw[← e53];exact hG
  ·have e54:=h 54 (by simp[slots_tr13]);simp only[G_tr13] at hG ⊢;rw[← e54];exact hG
  ·have e55:=h 55 (by simp[slots_tr13]);simp only[G_tr13] at hG ⊢;rw[← e55];exact hG
  ·have e56:=h 56 (by simp[slots_tr13]);simp only[G_tr13] at hG ⊢;rw[← e56];exact hG
  ·have e57:=h 57 (by simp[slots_tr13]);simp only[G_tr13] at hG ⊢;rw[← e57];exact hG
  ·have e58:=h 58 (by simp[slots_tr13]);simp only[G_tr13] at hG ⊢;rw[← e58];exact hG
  ·have e59:=h 59 (by simp[slots_tr13]);simp only[G_tr13] at hG ⊢;rw[← e59];exact hG
  ·have e60:=h 60 (by simp[slots_tr13]);simp only[G_tr13] at hG ⊢;rw[← e60];exact hG
  ·have e61:=h 61 (by simp[slots_tr13]);simp only[G_tr13] at hG ⊢;rw[← e61];exact hG
  ·have e62:=h 62 (by simp[slots_tr13]);simp only[G_tr13] at hG ⊢;rw[← e62];exact hG
 ·intro i hi
  rcases (by simpa using hi:i=0∨i=1∨i=2∨i=3∨i=4∨i=5∨i=6∨i=7∨i=8∨i=9∨i=10∨i=11∨i=12∨i=13∨i=14∨i=15) with rfl|rfl|rfl|rfl|rfl|rfl|rfl|rfl|rfl|rfl|rfl|rfl|rfl|rfl|rfl|rfl
  ·refine opDoes_val 47 (.move (.tmp 5)) (by kernel_rfl) (by rw[hsz];decide) (fun w=>qB _ _) fun ρ w ty pos af hb=>?_
   have h5:=(hb.out 5 (by kernel_rfl)).trans h5
   exact⟨.pointer (some ⟨fb,0,none⟩),by simp[execOp,go_sem,h5],fun ρ_ e1 _=>e1⟩
  ·refine opDoes_val 48 (.move (.tmp 6)) (by kernel_rfl) (by rw[hsz];decide) (fun w=>qB _ _) fun ρ w ty pos af hb=>?_
   have h6:=(hb.out 6 (by kernel_rfl)).trans h6
   exact⟨.pointer (some ⟨rb,0,none⟩),by simp[execOp,go_sem,h6],fun ρ_ e1 _=>e1⟩
  ·refine opDoes_val 49 (.nilCheck (.tmp 48)) (by kernel_rfl) (by rw[hsz];decide) (fun w=>qB _ _) fun ρ w ty pos af hb=>?_
   have g1:=hb.pre 1 (by simp[pred_tr13])
   simp only[G_tr13] at g1
   exact⟨.pointer (some ⟨rb,0,none⟩),by simp[execOp,go_sem,g1],fun ρ_ e1 _=>e1⟩
  ·refine opDoes_val 50 (.fieldAddr 70 (.tmp 49) 5) (by kernel_rfl) (by rw[hsz];decide) (fun w=>qB _ _) fun ρ w ty pos af hb=>?_
   have g2:=hb.pre 2 (by simp[pred_tr13])
   simp only[G_tr13] at g2
   exact⟨.pointer (some ⟨rb,5,none⟩),by simp[execOp,go_sem,g2],fun ρ_ e1 _=>e1⟩
  ·refine opDoes_val 51 (.load 32 (.tmp 50)) (by kernel_rfl) (by rw[hsz];decide) (fun w=>qB _ _) fun ρ w ty pos af hb=>?_
   have g3:=hb.pre 3 (by simp[pred_tr13])
   simp only[G_tr13] at g3
   have hB:=hb.base
   have hcell:=hC5 w hB
   exact⟨.slice ai n ci,by simp[execOp,g3,hcell,go_sem],fun ρ_ e1 _=>e1⟩
  ·refine opDoes_val 52 (.move (.tmp 11)) (by kernel_rfl) (by rw[hsz];decide) (fun w=>qB _ _) fun ρ w ty pos af hb=>?_
   have h11:=(hb.out 11 (by kernel_rfl)).trans h11
   exact⟨.int .i64 (k:Int),by simp[execOp,go_sem,h11],fun ρ_ e1 _=>e1⟩
  ·refine opDoes_val 53 (.indexAddr 32 (.tmp 51) (.tmp 52)) (by kernel_rfl) (by rw[hsz];decide) (fun w=>qB _ _) fun ρ w ty pos af hb=>?_
   have g4:=hb.pre 4 (by simp[pred_tr13])
   simp only[G_tr13] at g4
   have g5:=hb.pre 5 (by simp[pred_tr13])
   simp only[G_tr13] at g5
   exact⟨.pointer (some ia),by simp[execOp,g4,g5,hix,go_sem],fun ρ_ e1 _=>e1⟩
  ·refine opDoes_val 54 (.load 3 (.tmp 53)) (by kernel_rfl) (by rw[hsz];decide) (fun w=>qB _ _) fun ρ w ty pos af hb=>?_
   have g6:=hb.pre 6 (by simp[pred_tr13])
   simp only[G_tr13] at g6
   have hB:=hb.base
   have hcell:=hCi w hB
   exact⟨.int .i64 idv,by simp[execOp,g6,hcell,go_sem],fun ρ_ e1 _=>e1⟩
  ·refine opDoes_val 55 (.move (.tmp 6)) (by kernel_rfl) (by rw[hsz];decide) (fun w=>qB _ _) fun ρ w ty pos af hb=>?_
   have h6:=(hb.out 6 (by kernel_rfl)).trans h6
   exact⟨.pointer (some ⟨rb,0,none⟩),by simp[execOp,go_sem,h6],fun ρ_ e1 _=>e1⟩
  ·refine opDoes_val 56 (.nilCheck (.tmp 55)) (by kernel_rfl) (by rw[hsz];decide) (fun w=>qB _ _) fun ρ w ty pos af hb=>?_
   have g8:=hb.pre 8 (by simp[pred_tr13])
   simp only[G_tr13] at g8
   exact⟨.pointer (some ⟨rb,0,none⟩),by simp[execOp,go_sem,g8],fun ρ_ e1 _=>e1⟩
  ·refine opDoes_val 57 (.fieldAddr 70 (.tmp 56) 6) (by kernel_rfl) (by rw[hsz];decide) (fun w=>qB _ _) fun ρ w ty pos af hb=>?_
   have g9:=hb.pre 9 (by simp[pred_tr13])
   simp only[G_tr13] at g9
   exact⟨.pointer (some ⟨rb,6,none⟩),by simp[execOp,go_sem,g9],fun ρ_ e1 _=>e1⟩
  ·refine opDoes_val 58 (.load 68 (.tmp 57)) (by kernel_rfl) (by rw[hsz];decide) (fun w=>qB _ _) fun ρ w ty pos af hb=>?_
   have g10:=hb.pre 10 (by simp[pred_tr13])
   simp only[G_tr13] at g10
   have hB:=hb.base
   have hcell:=hC6 w hB
   exact⟨.slice ap n cp,by simp[execOp,g10,hcell,go_sem],fun ρ_ e1 _=>e1⟩
  ·refine opDoes_val 59 (.move (.tmp 11)) (by kernel_rfl) (by rw[hsz];decide) (fun w=>qB _ _) fun ρ w ty pos af hb=>?_
   have h11:=(hb.out 11 (by kernel_rfl)).trans h11
   exact⟨.int .i64 (k:Int),by simp[execOp,go_sem,h11],fun ρ_ e1 _=>e1⟩
  ·refine opDoes_val 60 (.indexAddr 68 (.tmp 58) (.tmp 59)) (by kernel_rfl) (by rw[hsz];decide) (fun w=>qB _ _) fun ρ w ty pos af hb=>?_
   have g11:=hb.pre 11 (by simp[pred_tr13])
   simp only[G_tr13] at g11
   have g12:=hb.pre 12 (by simp[pred_tr13])
   simp only[G_tr13] at g12
   exact⟨.pointer (some ⟨pb,po,none⟩),by simp[execOp,g11,g12,hpx,go_sem],fun ρ_ e1 _=>e1⟩
  ·refine opDoes_val 61 (.load 59 (.tmp 60)) (by kernel_rfl) (by rw[hsz];decide) (fun w=>qB _ _) fun ρ w ty pos af hb=>?_
   have g13:=hb.pre 13 (by simp[pred_tr13])
   simp only[G_tr13] at g13
   have hB:=hb.base
   have hst:=run_loadVar_mid (P:=Tryz.prog) w pb po 59 (cellsPV p u) _ (hCp w hB) Tryz.underlying59 rfl Tryz.sizePg
   exact⟨.agg (cellsPV p u).toArray,by unfold execOp;simp only[g13,Instr.loadAt,Instr.sureAddr,Sem.run_bind,Sem.run_pure,Result.andThen_ok,hst],fun ρ_ e1 _=>e1⟩
  ·refine opDoes_call 62 15 #[(.tmp 61)] #[59] (by kernel_rfl) (by rw[hsz];decide) (fun _ _=>by go_simp) fun ρ w hb=>?_
   have g14:=hb.pre 14 (by simp[pred_tr13])
   simp only[G_tr13] at g14
   have hB:=hb.base
   rw[show (#[Operand.tmp 61].map ρ)=#[ρ (.tmp 61)] by simp,g14]
   exact (hBy w hB).mono fun e w' h=>⟨_,h.1,h.2,fun ρ_ e1 _=>e1⟩
 ·refine ends_call [47,48,49,50,51,52,53,54,55,56,57,58,59,60,61,62] (by kernel_rfl) 63 20 #[(.tmp 47),(.tmp 54),(.tmp 62)] #[24,3,9] (by kernel_rfl) (fun _ _=>by go_simp) fun ρ w hc hout hB hG=>?_
  have g0:=hG 0 (by simp) (by kernel_rfl)
  simp only[G_tr13] at g0
  have g1:=hG 1 (by simp) (by kernel_rfl)
  simp only[G_tr13] at g1
  have g2:=hG 2 (by simp) (by kernel_rfl)
  simp only[G_tr13] at g2
  have g3:=hG 3 (by simp) (by kernel_rfl)
  simp only[G_tr13] at g3
  have g4:=hG 4 (by simp) (by kernel_rfl)
  simp only[G_tr13] at g4
  have g5:=hG 5 (by simp) (by kernel_rfl)
  simp only[G_tr13] at g5
  have g6:=hG 6 (by simp) (by kernel_rfl)
  simp only[G_tr13] at g6
  have g7:=hG 7 (by simp) (by kernel_rfl)
  simp only[G_tr13] at g7
  have g8:=hG 8 (by simp) (by kernel_rfl)
  simp only[G_tr13] at g8
  have g9:=hG 9 (by simp) (by kernel_rfl)
  simp only[G_tr13] at g9
  have g10:=hG 10 (by simp) (by kernel_rfl)
  simp only[G_tr13] at g10
  have g11:=hG 11 (by simp) (by kernel_rfl)
  simp only[G_tr13] at g11
  have g12:=hG 12 (by simp) (by kernel_rfl)
  simp only[G_tr13] at g12
  have g13:=hG 13 (by simp) (by kernel_rfl)
  simp only[G_tr13] at g13
  have g14:=hG 14 (by simp) (by kernel_rfl)
  simp only[G_tr13] at g14
  have g15:=hG 15 (by simp) (by kernel_rfl)
  simp only[G_tr13] at g15
  rw[show (#[Operand.tmp 47,Operand.tmp 54,Operand.tmp 62].map ρ)=#[ρ (.tmp 47),ρ (.tmp 54),ρ (.tmp 62)] by simp,g0,g7,g15]
  refine (hWr w hB).mono ?_
  rintro e w' ⟨rfl,hw⟩
  refine⟨_,rfl,?_⟩
  simp only[List.foldl_cons,List.foldl_nil,g0,g1,g2,g3,g4,g5,g6,g7,g8,g9,g10,g11,g12,g13,g14,g15]
  exact hQ w' hw
def pred_tr15:Nat→List Nat|3=>[2]|4=>[3]|5=>[4]|6=>[0]|7=>[1]|8=>[5]|_=>[]
def slots_tr15:Nat→List Tmp|0=>[66]|1=>[67]|2=>[68]|3=>[69]|4=>[70]|5=>[71]|6=>[2]|7=>[3]|8=>[4]|_=>[]
def dead_tr15:Nat→Nat→Bool|_,_=>false
def G_tr15 (fb:Nat) (rb:Nat) (root:Int) (last:Int):Nat→(Operand→Value)→World→Prop
 | 0,ρ,_=>ρ (.tmp 66)=.pointer (some ⟨fb,0,none⟩)
 | 1,ρ,_=>ρ (.tmp 67)=.int .i64 root
 | 2,ρ,_=>ρ (.tmp 68)=.pointer (some ⟨rb,0,none⟩)
 | 3,ρ,_=>ρ (.tmp 69)=.pointer (some ⟨rb,0,none⟩)
 | 4,ρ,_=>ρ (.tmp 70)=.pointer (some ⟨rb,1,none⟩)
 | 5,ρ,_=>ρ (.tmp 71)=.int .i64 last
 | 6,ρ,_=>ρ (.tmp 2)=.pointer (some ⟨fb,0,none⟩)
 | 7,ρ,_=>ρ (.tmp 3)=.int .i64 root
 | 8,ρ,_=>ρ (.tmp 4)=.int .i64 last
 | _,_,_=>True
theorem hk_tr15:hkB (opsOf Tryz.f7 15) [0,1,2,3,4,5,6,7,8] [] dead_tr15 pred_tr15 slots_tr15=true:=by kernel_rfl
theorem tr15 (w0:World) (fb rb:Nat) (root last:Int) {ops:Array Oper} (hops:ops=opsOf Tryz.f7 15) {a0:Act} {Q:Exit→Act→World→Prop} (hsz:a0.tmps.size=72) (h5:a0.eval (.tmp 5)=.pointer (some ⟨fb,0,none⟩)) (h6:a0.eval (.tmp 6)=.pointer (some ⟨rb,0,none⟩)) (h7:a0.eval (.tmp 7)=.int .i64 root) (hC1:∀ W,Below w0.heap.size w0 W→W.cell? ⟨rb,1,none⟩=some (.int .i64 last))
  (hQ:∀ w',Below w0.heap.size w0 w'→Q .normal ([(66,.pointer (some ⟨fb,0,none⟩)),(67,.int .i64 root),(68,.pointer (some ⟨rb,0,none⟩)),(69,.pointer (some ⟨rb,0,none⟩)),(70,.pointer (some ⟨rb,1,none⟩)),(71,.int .i64 last),(2,.pointer (some ⟨fb,0,none⟩)),(3,.int .i64 root),(4,.int .i64 last)].foldl (fun b (x:Nat × Value)=>b.put (some x.1) x.2) a0) w'):(Code.region 15 ops true).wp Tryz.prog Q a0 w0:=by
 subst hops
 refine wp_region_facts [0,1,2,3,4,5,6,7,8] [] dead_tr15 pred_tr15 slots_tr15 (fun W=>Below w0.heap.size w0 W) (fun _ w w'=>Below w.heap.size w w') (G_tr15 fb rb root last) (by kernel_rfl) hk_tr15 ?_ ?_ ?_ ?_ ?_ ?_
 ·exact⟨qB _ _,(qB _ _).drew⟩
 ·intro j hj w w' hB hR
  exact hB.trans (hR.mono hB.size)
 ·intro i hi j hj hne hnp hdd ρ w w' hB hR hG
  rcases (by simpa using hi:i=0∨i=1∨i=2∨i=3∨i=4∨i=5∨i=6∨i=7∨i=8) with rfl|rfl|rfl|rfl|rfl|rfl|rfl|rfl|rfl
  ·exact hG
  ·exact hG
  ·exact hG
  ·exact hG
  ·exact hG
  ·exact hG
  ·exact hG
  ·exact hG
  ·exact hG
 ·intro i hi ρ ρ' w h hG
  rcases (by simpa using hi:i=0∨i=1∨i=2∨i=3∨i=4∨i=5∨i=6∨i=7∨i=8) with rfl|rfl|rfl|rfl|rfl|rfl|rfl|rfl|rfl
  ·have e66:=h 66 (by simp[slots_tr15]);simp only[G_tr15] at hG ⊢;rw[← e66];exact hG
  ·have e67:=h 67 (by simp[slots_tr15]);simp only[G_tr15] at hG ⊢;rw[← e67];exact hG
  ·have e68:=h 68 (by simp[slots_tr15]);simp only[G_tr15] at hG ⊢;rw[← e68];exact hG
  ·have e69:=h 69 (by simp[slots_tr15]);simp only[G_tr15] at hG ⊢;rw[← e69];exact hG
  ·have e70:=h 70 (by simp[slots_tr15]);simp only[G_tr15] at hG ⊢;rw[← e70];exact hG
  ·have e71:=h 71 (by simp[slots_tr15]);simp only[G_tr15] at hG ⊢;rw[← e71];exact hG
  ·have e2:=h 2 (by simp[slots_tr15]);simp only[G_tr15] at hG ⊢;rw[← e2];exact hG
  ·have e3:=h 3 (by simp[slots_tr15]);simp only[G_tr15] at hG ⊢;rw[← e3];exact hG
  ·have e4:=h 4 (by simp[slots_tr15]);simp only[G_tr15] at hG ⊢;rw[← e4];exact hG
 ·intro i hi
  rcases (by simpa using hi:i=0∨i=1∨i=2∨i=3∨i=4∨i=5∨i=6∨i=7∨i=8) with rfl|rfl|rfl|rfl|rfl|rfl|rfl|rfl|rfl
  ·refine opDoes_val 66 (.move (.tmp 5)) (by kernel_rfl) (by rw[hsz];decide) (fun w=>qB _ _) fun ρ w ty pos af hb=>?_
   have h5:=(hb.out 5 (by kernel_rfl)).trans h5
   exact⟨.pointer (some ⟨fb,0,none⟩),by simp[execOp,go_sem,h5],fun ρ_ e1 _=>e1⟩
  ·refine opDoes_val 67 (.move (.tmp 7)) (by kernel_rfl) (by rw[hsz];decide) (fun w=>qB _ _) fun ρ w ty pos af hb=>?_
   have h7:=(hb.out 7 (by kernel_rfl)).trans h7
   exact⟨.int .i64 root,by simp[execOp,go_sem,h7],fun ρ_ e1 _=>e1⟩
  ·refine opDoes_val 68 (.move (.tmp 6)) (by kernel_rfl) (by rw[hsz];decide) (fun w=>qB _ _) fun ρ w ty pos af hb=>?_
   have h6:=(hb.out 6 (by kernel_rfl)).trans h6
   exact⟨.pointer (some ⟨rb,0,none⟩),by simp[execOp,go_sem,h6],fun ρ_ e1 _=>e1⟩
  ·refine opDoes_val 69 (.nilCheck (.tmp 68)) (by kernel_rfl) (by rw[hsz];decide) (fun w=>qB _ _) fun ρ w ty pos af hb=>?_
   have g2:=hb.pre 2 (by simp[pred_tr15])
   simp only[G_tr15] at g2
   exact⟨.pointer (some ⟨rb,0,none⟩),by simp[execOp,go_sem,g2],fun ρ_ e1 _=>e1⟩
  ·refine opDoes_val 70 (.fieldAddr 70 (.tmp 69) 1) (by kernel_rfl) (by rw[hsz];decide) (fun w=>qB _ _) fun ρ w ty pos af hb=>?_
   have g3:=hb.pre 3 (by simp[pred_tr15])
   simp only[G_tr15] at g3
   exact⟨.pointer (some ⟨rb,1,none⟩),by simp[execOp,go_sem,g3],fun ρ_ e1 _=>e1⟩
  ·refine opDoes_val 71 (.load 3 (.tmp 70)) (by kernel_rfl) (by rw[hsz];decide) (fun w=>qB _ _) fun ρ w ty pos af hb=>?_
   have g4:=hb.pre 4 (by simp[pred_tr15])
   simp only[G_tr15] at g4
   have hB:=hb.base
   have hcell:=hC1 w hB
   exact⟨.int .i64 last,by simp[execOp,g4,hcell,go_sem],fun ρ_ e1 _=>e1⟩
  ·refine opDoes_val 2 (.assign (.tmp 66)) (by kernel_rfl) (by rw[hsz];decide) (fun w=>qB _ _) fun ρ w ty pos af hb=>?_
   have g0:=hb.pre 0 (by simp[pred_tr15])
   simp only[G_tr15] at g0
   exact⟨.pointer (some ⟨fb,0,none⟩),by simp[execOp,go_sem,g0],fun ρ_ e1 _=>e1⟩
  ·refine opDoes_val 3 (.assign (.tmp 67)) (by kernel_rfl) (by rw[hsz];decide) (fun w=>qB _ _) fun ρ w ty pos af hb=>?_
   have g1:=hb.pre 1 (by simp[pred_tr15])
   simp only[G_tr15] at g1
   exact⟨.int .i64 root,by simp[execOp,go_sem,g1],fun ρ_ e1 _=>e1⟩
  ·refine opDoes_val 4 (.assign (.tmp 71)) (by kernel_rfl) (by rw[hsz];decide) (fun w=>qB _ _) fun ρ w ty pos af hb=>?_
   have g5:=hb.pre 5 (by simp[pred_tr15])
   simp only[G_tr15] at g5
   exact⟨.int .i64 last,by simp[execOp,go_sem,g5],fun ρ_ e1 _=>e1⟩
 ·refine ends_of [66,67,68,69,70,71,2,3,4] (by kernel_rfl) fun ρ w hB hG=>?_
  have g0:=hG 0 (by simp) (by kernel_rfl)
  simp only[G_tr15] at g0
  have g1:=hG 1 (by simp) (by kernel_rfl)
  simp only[G_tr15] at g1
  have g2:=hG 2 (by simp) (by kernel_rfl)
  simp only[G_tr15] at g2
  have g3:=hG 3 (by simp) (by kernel_rfl)
  simp only[G_tr15] at g3
  have g4:=hG 4 (by simp) (by kernel_rfl)
  simp only[G_tr15] at g4
  have g5:=hG 5 (by simp) (by kernel_rfl)
  simp only[G_tr15] at g5
  have g6:=hG 6 (by simp) (by kernel_rfl)
  simp only[G_tr15] at g6
  have g7:=hG 7 (by simp) (by kernel_rfl)
  simp only[G_tr15] at g7
  have g8:=hG 8 (by simp) (by kernel_rfl)
  simp only[G_tr15] at g8
  simp only[List.foldl_cons,List.foldl_nil,g0,g1,g2,g3,g4,g5,g6,g7,g8]
  exact hQ w hB
end
end Go.Proofs.YtbghhklbfnplbaaGreat

import Derived.Lib.Builder
import Derived.Lib.AppendStr
import Derived.OneCell
import Derived.Shelf.Strings.BuilderK
import Derived.Shelf.Strings.Builder2
import Derived.Shelf.Strings.OnBuilder
import Derived.Shelf.Bits.Mul64
import Derived.Shelf.Strings.Repeat
import Derived.Ground.Names2Prog
import Derived.Lib.Join
import Derived.Test.YtbghhklbfnplbaaGreatC00
import Derived.Test.YtbghhklbfnplbaaGreatC02
import Derived.Test.YtbghhklbfnplbaaGreatProg
import Derived.Test.YtbghhklbfnplbaaGreatT02
import Derived.Test.YtbghhklbfnplbaaGreatT04
import Derived.Test.YtbghhklbfnplbaaGreatT06
set_option maxHeartbeats 2000000
set_option maxRecDepth 100000
namespace Go.Proofs.YtbghhklbfnplbaaGreat
section
open Go.RowKit
def BuA (W:World) (b base:Nat) (v:Value) (l:List UInt8):Prop:=
 ∃ p,W.heap[b]?=some (.cells #[.pointer p,v] 92 (0,0))∧(p=none∨p=some ⟨b,0,none⟩)∧W.ownsRow base 5 1 v l.length (Lib.byteCells l)∧v.ownBlock≠some b
structure BuT (b:Nat) (r:Option Nat) (W W':World):Prop where
 os:W'.os=W.os
 tape:W'.tape=W.tape
 output:W'.output=W.output
 size:W.heap.size≤W'.heap.size
 block:∀ k,k<W.heap.size→k≠b→some k≠r→W'.heap[k]?=W.heap[k]?
theorem BuT.below {b:Nat} {r:Option Nat} {W W':World} (h:Below W.heap.size W W'):BuT b r W W':=⟨h.os,h.tape,h.output,h.size,fun k hk _ _=>h.block k hk⟩
theorem BuT.trans {b:Nat} {r r1:Option Nat} {W W1 W2:World} (h:BuT b r W W1) (k:BuT b r1 W1 W2) (hr:r1=r∨∀ g,r1=some g→W.heap.size≤g):BuT b r W W2:=
 ⟨k.os.trans h.os,k.tape.trans h.tape,k.output.trans h.output,qN h.size k.size,fun i hi h1 h2=>(k.block i (qM hi h.size) h1 (fun e=>by
  rcases hr with hr|hr
  ·exact h2 (e.trans hr)
  ·have:=hr i e.symm
   omega)).trans (h.block i hi h1 h2)⟩
theorem BuA.block {W W':World} {b base:Nat} {v:Value} {l:List UInt8} (h:BuA W b base v l) (hb:W'.heap[b]?=W.heap[b]?) (hr:∀ g,v.ownBlock=some g→W'.heap[g]?=W.heap[g]?):BuA W' b base v l:=by
 obtain⟨p,h1,h2,h3,h4⟩:=h
 refine⟨p,hb.trans h1,h2,?_,h4⟩
 obtain⟨h5,h6|⟨g,cap,cur,h6,h7,h8,h9⟩⟩:=h3
 ·exact⟨h5,.inl h6⟩
 ·exact⟨h5,.inr ⟨g,cap,cur,h6,h7,(hr g (by rw[h6];rfl)).trans h8,h9⟩⟩
theorem BuA.lt {W:World} {b base:Nat} {v:Value} {l:List UInt8} (h:BuA W b base v l):b<W.heap.size∧∀ g,v.ownBlock=some g→base≤g∧g<W.heap.size:=by
 obtain⟨p,h1,h2,h3,h4⟩:=h
 exact⟨(qA h1),fun g hg=>World.ownsRow.lt h3 g hg⟩
theorem BuA.below {W W':World} {b base:Nat} {v:Value} {l:List UInt8} (h:BuA W b base v l) (hb:Below W.heap.size W W'):BuA W' b base v l:=
 h.block (hb.block b h.lt.1) fun g hg=>hb.block g (h.lt.2 g hg).2
theorem bu_new {W:World} {b base:Nat} (h:W.heap[b]?=some (.cells #[.pointer none,.slice none 0 0] 92 (0,0))):BuA W b base (.slice none 0 0) []:=
 ⟨none,h,.inl rfl,World.ownsRow_nil _ _ _ _,by simp[Value.ownBlock]⟩
theorem BuA.isB {W:World} {b base:Nat} {v:Value} {l:List UInt8} (h:BuA W b base v l):IsB 0 b l W:=by
 obtain⟨p,h1,h2,h3,h4⟩:=h
 have h5:W.ownsRow 0 5 1 v (Lib.byteCells l).length (Lib.byteCells l):=by
  rw[Lib.byteCells_length]
  obtain⟨h5,h6|⟨g,cap,cur,h6,h7,h8,h9⟩⟩:=h3
  ·exact⟨h5,.inl h6⟩
  ·exact⟨h5,.inr ⟨g,cap,cur,h6,Nat.zero_le _,h8,h9⟩⟩
 rcases h2 with rfl|rfl
 ·exact .inl ⟨Nat.zero_le _,v,h1,h5,h4⟩
 ·exact .inr ⟨Nat.zero_le _,v,h1,h5,h4⟩
theorem copyCheck_own {W:World} {b base:Nat} {v:Value} {l:List UInt8} (h:BuA W b base v l) :
  Calls Tryz.prog 60 #[.pointer (some ⟨b,0,none⟩)] W fun e W'=>e=.returned (.tuple #[])∧W'.heap[b]?=some (.cells #[.pointer (some ⟨b,0,none⟩),v] 92 (0,0))∧BuT b none W W':=by
 have hB:=h.isB
 obtain⟨p,h1,h2,h3,h4⟩:=h
 rcases h2 with rfl|rfl
 ·rcases hB with hB|hB
  ·refine (copyCheck_fresh b W hB.cell0 hB.shape hB.frozen0).mono ?_
   rintro e W' ⟨rfl,rfl⟩
   have h5:=heap_setCell_same W b 0 _ _ (.pointer (some ⟨b,0,none⟩)) h1
   simp only[qS,qZ] at h5
   exact⟨rfl,h5,rfl,rfl,rfl,by simp,fun k _ hk _=>Below.heap_setCell _ _ _ _ (by simpa using hk)⟩
  ·have:=hB.cell0
   rw[Lib.cell_of_heap h1] at this
   simp at this
 ·rcases hB with hB|hB
  ·have:=hB.cell0
   rw[Lib.cell_of_heap h1] at this
   simp at this
  ·refine (copyCheck_used b W hB.cell0).mono ?_
   rintro e W' ⟨rfl,rfl⟩
   exact⟨rfl,h1,rfl,rfl,rfl,Nat.le_refl _,fun _ _ _ _=>rfl⟩
theorem append_text (w:World) (base:Nat) (ty:TypeId) {i0:TypeInfo} (hi:Tryz.prog.info? 5=some i0) (hz0:i0.zero=some (.int .u8 0)) (hz1:i0.size=1) (hz2:i0.bytes=1) (v:Value) (n:Nat) (xs:List Value) (hown:w.ownsRow base 5 1 v n xs) (s:ByteArray)
  (hbytes:n+s.size≤140737488355328) (hbase:base≤w.heap.size) :
  ∃ v' w',(Builtin.append_ #[22,9] ty #[v,.string s]).run Tryz.prog w=.ok v' w'∧w'.ownsRow base 5 1 v' (n+s.size) (xs++Lib.strCells s)∧w.grownBy w' v.ownBlock∧(v'.ownBlock=v.ownBlock∨∀ g,v'.ownBlock=some g→w.heap.size≤g):=by
 have hml:n+s.size≤maxLen:=by unfold maxLen;omega
 obtain⟨v',w',hr,h2,h3,h4⟩:=Lib.run_append_own_string (P:=Tryz.prog) w base 22 9 ty 5 i0 Tryz.underlying22 Tryz.underlying9 hi hz0 hz1 hz2 v n xs hown s hml hbytes hbase
 refine⟨v',w',hr,h2,h3,?_⟩
 have hown2:=hown
 rcases hown2.2 with ⟨rfl,rfl⟩|⟨g,cap,cur,rfl,hbg,hg,hnc,hcm,hcs,htake⟩
 ·have hx:xs=[]:=List.eq_nil_of_length_eq_zero (by simpa using hown2.1)
  subst hx
  obtain⟨v2,w2,hr2,h5,_⟩:=Lib.run_append_own_string (P:=Tryz.prog) w w.heap.size 22 9 ty 5 i0 Tryz.underlying22 Tryz.underlying9 hi hz0 hz1 hz2 (.slice none 0 0) 0 [] (World.ownsRow_nil _ _ _ _) s hml hbytes qL
  rw[hr] at hr2
  simp only[Result.ok.injEq] at hr2
  obtain⟨rfl,rfl⟩:=hr2
  exact .inr fun g hg=>(World.ownsRow.lt h5 g hg).1
 ·by_cases hroom:n+s.size≤cap
  ·have hr2:=Lib.run_append_room_string (P:=Tryz.prog) w 22 9 ty 5 i0 Tryz.underlying22 Tryz.underlying9 hi hz1 g n cap cur hg s hroom (by omega)
   rw[hr] at hr2
   simp only[Result.ok.injEq] at hr2
   exact .inl (by rw[hr2.1];rfl)
  ·have holds:∀ j u,xs[j]?=some u→w.cell? ((⟨g,0,none⟩:Addr).add j)=some u:=hown.cells (g:=g) rfl
   have hr2:=Lib.run_append_grow_string (P:=Tryz.prog) w 22 9 ty 5 i0 (.int .u8 0) Tryz.underlying22 Tryz.underlying9 hi hz0 ⟨g,0,none⟩ n cap xs (by rw[hz1];simpa using hown.1) holds s (by omega) (by omega) (by rw[hz2];exact growslice_fits (by omega) (by omega))
   rw[hr] at hr2
   simp only[Result.ok.injEq] at hr2
   refine .inr fun k hk=>?_
   rw[hr2.1] at hk
   simp only[Value.ownBlock,qQ] at hk
   omega
theorem wpList_append_tu {P:Program} {w:World} {ops:Array Oper} {rest:List Oper} {o:Oper} {a:Act} {Q:Exit→Act→World→Prop} (hg:o.guard=none) (s x:Operand) (t u:TypeId) (ho:o.op=Op.call { callee:=Callee.builtin Builtin.append,args:=#[s,x],argTypes:=#[t,u] })
  (v y:Value) (hs:a.eval s=v) (hx:a.eval x=y) {v':Value} {w':World} (hr:(Builtin.append_ #[t,u] o.type #[v,y]).run P w=.ok v' w') (h:wpList P ops Q rest (a.put o.dst v') w'):wpList P ops Q (o::rest) a w:=by
 refine wpList_plain hg fun K hK=>?_
 unfold Oper.wp execOp
 simp only[ho,resolve,invoke,builtin,Sem.run_bind,Sem.run_pure,Result.andThen_ok,List.map_toArray,List.map_cons,List.map_nil,hs,hx,hr]
 exact hK _ _ h
theorem write_own {W:World} {b base:Nat} {v:Value} {l:List UInt8} (s:ByteArray) (h:BuA W b base v l) (hlen:l.length+s.size≤140737488355328) (hB:base≤W.heap.size) :
  Calls Tryz.prog 32 #[.pointer (some ⟨b,0,none⟩),.string s] W fun e W'=>e=.returned (.tuple #[.int .i64 s.size,.nilIface])∧∃ v',BuA W' b base v' (l++s.data.toList)∧BuT b v.ownBlock W W'∧(v'.ownBlock=v.ownBlock∨∀ g,v'.ownBlock=some g→W.heap.size≤g):=by
 obtain⟨i0,hi,hz0,hz1,hz2⟩:=info_parts Tryz.info5
 have HC:=h
 obtain⟨p,q1,q2,q3,q4⟩:=h
 go_enter Tryz.func32,Tryz.ntmps32
 go_wp2_with (go_at_call 60;refine (copyCheck_own HC).mono ?_)
 rintro e w1 ⟨rfl,hbk,ht1⟩
 have hlt:b<w1.heap.size:=(qA hbk)
 have hown:w1.ownsRow base 5 1 v l.length (Lib.byteCells l):=by
  obtain⟨h5,h6|⟨g,cap,cur,h6,h7,h8,h9⟩⟩:=q3
  ·exact⟨h5,.inl h6⟩
  ·exact⟨h5,.inr ⟨g,cap,cur,h6,h7,(ht1.block g (qA h8) (fun e=>q4 (by rw[h6,e];rfl)) (by simp)).trans h8,h9⟩⟩
 have c0:w1.cell? ⟨b,0,none⟩=some (.pointer (some ⟨b,0,none⟩)):=by rw[Lib.cell_of_heap hbk];rfl
 have c1:w1.cell? ⟨b,1,none⟩=some v:=by rw[Lib.cell_of_heap hbk];rfl
 obtain⟨v',w2,hrun,hown',hgrow,hat⟩:=append_text w1 base 22 hi hz0 hz1 hz2 v l.length _ hown s hlen (by have:=ht1.size;omega)
 have hb2:w2.heap[b]?=some (.cells #[.pointer (some ⟨b,0,none⟩),v] 92 (0,0)):=by
  rw[hgrow.block b hlt (fun e=>q4 e.symm)]
  exact hbk
 have d0:w2.cell? ⟨b,0,none⟩=some (.pointer (some ⟨b,0,none⟩)):=by rw[Lib.cell_of_heap hb2];rfl
 have d1:w2.cell? ⟨b,1,none⟩=some v:=by rw[Lib.cell_of_heap hb2];rfl
 have f1:w2.frozen? ⟨b,1,none⟩=false:=Lib.frozen_of_heap hb2 1
 obtain⟨ao,n',cap,rfl⟩:∃ ao n' cap,v'=.slice ao n' cap:=by
  rcases hown'.2 with ⟨hv,_⟩|⟨g,cap,cur,hv,_⟩
  ·exact⟨_,_,_,hv⟩
  ·exact⟨_,_,_,hv⟩
 have h5:=heap_setCell_same w2 b 1 _ _ (.slice ao n' cap) hb2
 simp only[qS,qZ,qC] at h5
 have hTe:(92:Nat)≠5:=by decide
 have hne:(Value.slice ao n' cap).ownBlock≠some b:=Lib.ownBlock_ne hown' hb2 hTe
 have hfin:BuA (w2.setCell ⟨b,1,none⟩ (.slice ao n' cap)) b base (.slice ao n' cap) (l++s.data.toList):=by
  refine⟨_,h5,.inr rfl,?_,hne⟩
  have h6:=ownsRow_setCell_other hown' (a:=⟨b,1,none⟩) hne (.slice ao n' cap)
  rw[qO,Lib.byteCells_append,← Lib.strCells_eq,show s.data.toList.length=s.size from (Lib.size_eq s).symm]
  exact h6
 have hT:BuT b v.ownBlock W (w2.setCell ⟨b,1,none⟩ (.slice ao n' cap)):=by
  refine⟨hgrow.os.trans ht1.os,hgrow.tape.trans ht1.tape,hgrow.output.trans ht1.output,?_,fun k hk h1 h2=>?_⟩
  ·have e:(w2.setCell ⟨b,1,none⟩ (.slice ao n' cap)).heap.size=w2.heap.size:=by simp
   rw[e]
   exact qN ht1.size hgrow.size
  ·exact (Below.heap_setCell _ _ _ _ (by simpa using h1)).trans ((hgrow.block k (Nat.lt_of_lt_of_le hk ht1.size) h2).trans (ht1.block k hk h1 (by simp)))
 have hat':((Value.slice ao n' cap).ownBlock=v.ownBlock∨∀ g,(Value.slice ao n' cap).ownBlock=some g→W.heap.size≤g):=by
  rcases hat with e|e
  ·exact .inl e
  ·exact .inr fun g hg=>qN ht1.size (e g hg)
 have hFin:Hid (BuA (w2.setCell ⟨b,1,none⟩ (.slice ao n' cap)) b base (.slice ao n' cap) (l++s.data.toList)):=hfin
 clear hat hfin h5 hown' hgrow hown HC q1 q2 q3 q4 hb2
 go_wp2_with (at_builtin;refine wpList_append_tu rfl _ _ 22 9 rfl v (.string s) rfl rfl hrun ?_)
 go_ret2
 exact⟨rfl,_,hFin.out,hT,hat'⟩
theorem string_own {W:World} {b base:Nat} {v:Value} {l:List UInt8} (h:BuA W b base v l) (hb:b≤base) :
  Calls Tryz.prog 37 #[.pointer (some ⟨b,0,none⟩)] W fun e W'=>e=.returned (.string ⟨l.toArray⟩)∧Below b W W'∧Lib.OthersKept 5 (some b) W W':=by
 have hI:IsB b b l W:=by
  obtain⟨p,h1,h2,h3,h4⟩:=h
  have h5:W.ownsRow b 5 1 v (Lib.byteCells l).length (Lib.byteCells l):=by
   rw[Lib.byteCells_length]
   obtain⟨h5,h6|⟨g,cap,cur,h6,h7,h8,h9⟩⟩:=h3
   ·exact⟨h5,.inl h6⟩
   ·exact⟨h5,.inr ⟨g,cap,cur,h6,qN hb h7,h8,h9⟩⟩
  rcases h2 with rfl|rfl
  ·exact .inl ⟨Nat.le_refl _,v,h1,h5,h4⟩
  ·exact .inr ⟨Nat.le_refl _,v,h1,h5,h4⟩
 exact (Any.Builder_String_any_k Tryz.lays169 Tryz.Builder_Extra_169 b b l W (Lib.IsBuilderF.of hI) (Nat.le_of_lt h.lt.1)).mono fun _ _ h=>⟨h.1,h.2.2⟩
end
end Go.Proofs.YtbghhklbfnplbaaGreat
namespace Go.Proofs
open Go.Shelf
def Tryz.lays156_ren:Go.Shelf.Ren:=⟨fun|156=>35|165=>63|166=>32|169=>37|240=>60|241=>88|276=>84|277=>106|n=>n,fun|31=>31|9=>9|3=>3|4=>4|0=>0|20=>20|72=>92|76=>93|70=>90|37=>22|75=>38|127=>131|164=>162|5=>5|80=>99|n=>n,fun|n=>n⟩
theorem Tryz.lays156:Go.Proofs.Lays.n156 Tryz.prog Tryz.lays156_ren:={
 mixed:=by kernel_rfl
 f156:=Tryz.func35.trans (congrArg some (by kernel_rfl))
 f165:=Tryz.func63.trans (congrArg some (by kernel_rfl))
 f166:=Tryz.func32.trans (congrArg some (by kernel_rfl))
 f169:=Tryz.func37.trans (congrArg some (by kernel_rfl))
 f240:=Tryz.func60.trans (congrArg some (by kernel_rfl))
 f241:=Tryz.func88.trans (congrArg some (by kernel_rfl))
 f276:=Tryz.func84.trans (congrArg some (by kernel_rfl))
 f277:=Tryz.func106.trans (congrArg some (by kernel_rfl))
 t0:=Tryz.underlying0
 a0:=Tryz.isAgg0
 z0:=Tryz.sizeOf0
 v0:=Tryz.zeroValue0
 t3:=Tryz.underlying3
 a3:=Tryz.isAgg3
 z3:=Tryz.sizeOf3
 v3:=Tryz.zeroValue3
 t4:=Tryz.underlying4
 a4:=Tryz.isAgg4
 z4:=Tryz.sizeOf4
 v4:=Tryz.zeroValue4
 t9:=Tryz.underlying9
 a9:=Tryz.isAgg9
 z9:=Tryz.sizeOf9
 v9:=Tryz.zeroValue9
 t20:=Tryz.underlying20
 a20:=Tryz.isAgg20
 z20:=Tryz.sizeOf20
 v20:=Tryz.zeroValue20
 t31:=Tryz.underlying31
 a31:=Tryz.isAgg31
 z31:=Tryz.sizeOf31
 v31:=Tryz.zeroValue31
 t37:=Tryz.underlying22
 a37:=Tryz.isAgg22
 z37:=Tryz.sizeOf22
 v37:=Tryz.zeroValue22
 t70:=Tryz.underlying90
 a70:=Tryz.isAgg90
 z70:=Tryz.sizeOf90
 v70:=Tryz.zeroValue90
 t72:=Tryz.underlying92
 a72:=Tryz.isAgg92
 z72:=Tryz.sizeOf92
 v72:=Tryz.zeroValue92
 t75:=Tryz.underlying38
 a75:=Tryz.isAgg38
 z75:=Tryz.sizeOf38
 v75:=Tryz.zeroValue38
 t76:=Tryz.underlying93
 a76:=Tryz.isAgg93
 z76:=Tryz.sizeOf93
 v76:=Tryz.zeroValue93
 t127:=Tryz.underlying131
 a127:=Tryz.isAgg131
 z127:=Tryz.sizeOf131
 v127:=Tryz.zeroValue131
 t164:=Tryz.underlying162
 a164:=Tryz.isAgg162
 z164:=Tryz.sizeOf162
 v164:=Tryz.zeroValue162 }
theorem Tryz.Builder_Extra_156:Builder.Extra Tryz.prog Tryz.lays156_ren:={
 sizeBuilder:=by kernel_rfl
 liesBuilder:=by kernel_rfl
 t5:=Tryz.underlying5
 a5:=Tryz.isAgg5
 z5:=Tryz.sizeOf5
 v5:=Tryz.zeroValue5
 infoByte:=by kernel_rfl
 cellsByte:=by kernel_rfl
 sizeByte:=by kernel_rfl
 neB5:=by decide }
open Go.RowKit in
theorem Tryz.strings_Join_none (a:Option Addr) (c:Nat) (sep:ByteArray) (w:World) :
  Calls Tryz.prog 35 #[.slice a 0 c,.string sep] w fun e w'=>e=.returned (.string ⟨#[]⟩)∧w'=w:=Any.strings_Join_none Tryz.lays156 Tryz.Builder_Extra_156 a c sep w
open Go.RowKit in
theorem Tryz.strings_Join (bk o c:Nat) (xs:List ByteArray) (sep:ByteArray) (w:World) (hcells:∀ (j:Nat) x,xs[j]?=some x→w.cell? ⟨bk,o+j,none⟩=some (.string x)) (hbk:bk<w.heap.size) (hN:xs.length≤140737488355328) (hcap:xs.length≤c) (hlen:(Lib.join (xs.map (·.data.toList)) sep.data.toList).length≤140737488355328) :
  Calls Tryz.prog 35 #[.slice (some ⟨bk,o,none⟩) xs.length c,.string sep] w fun e w'=>e=.returned (.string ⟨(Lib.join (xs.map (·.data.toList)) sep.data.toList).toArray⟩)∧Below w.heap.size w w':=Any.strings_Join Tryz.lays156 Tryz.Builder_Extra_156 bk o c xs sep w hcells hbk hN hcap hlen
def Tryz.lays105_ren:Go.Shelf.Ren:=⟨fun|105=>33|212=>61|99=>62|165=>63|166=>32|170=>64|169=>37|263=>85|264=>86|206=>87|240=>60|241=>88|276=>84|277=>106|n=>n,fun|9=>9|3=>3|4=>4|20=>20|0=>0|46=>126|109=>127|5=>5|72=>92|76=>93|51=>164|146=>165|53=>55|148=>167|70=>90|37=>22|75=>38|127=>131|164=>162|80=>99|n=>n,fun|n=>n⟩
theorem Tryz.lays105:Go.Proofs.Lays.n105 Tryz.prog Tryz.lays105_ren:={
 mixed:=by kernel_rfl
 f99:=Tryz.func62.trans (congrArg some (by kernel_rfl))
 f105:=Tryz.func33.trans (congrArg some (by kernel_rfl))
 f165:=Tryz.func63.trans (congrArg some (by kernel_rfl))
 f166:=Tryz.func32.trans (congrArg some (by kernel_rfl))
 f169:=Tryz.func37.trans (congrArg some (by kernel_rfl))
 f170:=Tryz.func64.trans (congrArg some (by kernel_rfl))
 f206:=Tryz.func87.trans (congrArg some (by kernel_rfl))
 f212:=Tryz.func61.trans (congrArg some (by kernel_rfl))
 f240:=Tryz.func60.trans (congrArg some (by kernel_rfl))
 f241:=Tryz.func88.trans (congrArg some (by kernel_rfl))
 f263:=Tryz.func85.trans (congrArg some (by kernel_rfl))
 f264:=Tryz.func86.trans (congrArg some (by kernel_rfl))
 f276:=Tryz.func84.trans (congrArg some (by kernel_rfl))
 f277:=Tryz.func106.trans (congrArg some (by kernel_rfl))
 t0:=Tryz.underlying0
 a0:=Tryz.isAgg0
 z0:=Tryz.sizeOf0
 v0:=Tryz.zeroValue0
 t3:=Tryz.underlying3
 a3:=Tryz.isAgg3
 z3:=Tryz.sizeOf3
 v3:=Tryz.zeroValue3
 t4:=Tryz.underlying4
 a4:=Tryz.isAgg4
 z4:=Tryz.sizeOf4
 v4:=Tryz.zeroValue4
 t5:=Tryz.underlying5
 a5:=Tryz.isAgg5
 z5:=Tryz.sizeOf5
 v5:=Tryz.zeroValue5
 t9:=Tryz.underlying9
 a9:=Tryz.isAgg9
 z9:=Tryz.sizeOf9
 v9:=Tryz.zeroValue9
 t20:=Tryz.underlying20
 a20:=Tryz.isAgg20
 z20:=Tryz.sizeOf20
 v20:=Tryz.zeroValue20
 t37:=Tryz.underlying22
 a37:=Tryz.isAgg22
 z37:=Tryz.sizeOf22
 v37:=Tryz.zeroValue22
 t46:=Tryz.underlying126
 a46:=Tryz.isAgg126
 z46:=Tryz.sizeOf126
 v46:=Tryz.zeroValue126
 t51:=Tryz.underlying164
 a51:=Tryz.isAgg164
 z51:=Tryz.sizeOf164
 v51:=Tryz.zeroValue164
 t53:=Tryz.underlying55
 a53:=Tryz.isAgg55
 z53:=Tryz.sizeOf55
 v53:=Tryz.zeroValue55
 t70:=Tryz.underlying90
 a70:=Tryz.isAgg90
 z70:=Tryz.sizeOf90
 v70:=Tryz.zeroValue90
 t72:=Tryz.underlying92
 a72:=Tryz.isAgg92
 z72:=Tryz.sizeOf92
 v72:=Tryz.zeroValue92
 t75:=Tryz.underlying38
 a75:=Tryz.isAgg38
 z75:=Tryz.sizeOf38
 v75:=Tryz.zeroValue38
 t76:=Tryz.underlying93
 a76:=Tryz.isAgg93
 z76:=Tryz.sizeOf93
 v76:=Tryz.zeroValue93
 t109:=Tryz.underlying127
 a109:=Tryz.isAgg127
 z109:=Tryz.sizeOf127
 v109:=Tryz.zeroValue127
 t127:=Tryz.underlying131
 a127:=Tryz.isAgg131
 z127:=Tryz.sizeOf131
 v127:=Tryz.zeroValue131
 t146:=Tryz.underlying165
 a146:=Tryz.isAgg165
 z146:=Tryz.sizeOf165
 v146:=Tryz.zeroValue165
 t148:=Tryz.underlying167
 a148:=Tryz.isAgg167
 z148:=Tryz.sizeOf167
 v148:=Tryz.zeroValue167
 t164:=Tryz.underlying162
 a164:=Tryz.isAgg162
 z164:=Tryz.sizeOf162
 v164:=Tryz.zeroValue162 }
theorem Tryz.Builder_Extra_105:Builder.Extra Tryz.prog Tryz.lays105_ren:={
 sizeBuilder:=by kernel_rfl
 liesBuilder:=by kernel_rfl
 t5:=Tryz.underlying5
 a5:=Tryz.isAgg5
 z5:=Tryz.sizeOf5
 v5:=Tryz.zeroValue5
 infoByte:=by kernel_rfl
 cellsByte:=by kernel_rfl
 sizeByte:=by kernel_rfl
 neB5:=by decide }
open Go.RowKit Go.Lib in
theorem Tryz.strings_Repeat (s:ByteArray) (c:Nat) (w:World) (hc:c≤9223372036854775807) (hlen:s.size*c≤140737488355328) :
  Calls Tryz.prog 33 #[.string s,.int .i64 c] w fun e w'=>e=.returned (.string ⟨(Lib.repeatL s.data.toList c).toArray⟩)∧Below w.heap.size w w':=Any.strings_Repeat Tryz.lays105 Tryz.Builder_Extra_105 s c w hc hlen
end Go.Proofs
namespace Go.Proofs.YtbghhklbfnplbaaGreat
section
open Go
def closeB (k:Nat):List UInt8:=List.replicate k 93
def joinK (l:List ByteArray):List UInt8:=Lib.join (l.map (·.data.toList)) [32]
def nextS (x:SpotD):Nat:=if (x.page.kind==1)=true then x.near.depth - 1 else x.near.depth
def leafText (x:SpotD):List UInt8:=[40]++joinK (keysOf x.page.items)++[41]
def piece (o:Nat) (x:SpotD):List UInt8:=closeB (o - (x.near.depth - 1))++if (x.page.kind==1)=true then leafText x else [91]
def shapeFrom:Nat→List SpotD→List UInt8
 | o,[]=>closeB o
 | o,x::r=>piece o x++shapeFrom (nextS x) r
def okSh:Nat→List SpotD→Prop
 | _,[]=>True
 | o,x::r=>1≤x.near.depth∧x.near.depth≤9∧x.near.depth - 1≤o∧okSh (nextS x) r
def stS (pre:List SpotD):Nat × List UInt8:=pre.foldl (fun s x=>(nextS x,s.2++piece s.1 x)) (0,[])
theorem stS_snoc (pre:List SpotD) (x:SpotD):stS (pre++[x])=(nextS x,(stS pre).2++piece (stS pre).1 x):=by simp[stS]
theorem shape_split:∀ (pre rest:List SpotD),shapeFrom 0 (pre++rest)=(stS pre).2++shapeFrom (stS pre).1 rest:=by
 have key:∀ (pre:List SpotD) (s:Nat × List UInt8) (rest:List SpotD),s.2++shapeFrom s.1 (pre++rest)=(pre.foldl (fun s x=>(nextS x,s.2++piece s.1 x)) s).2++shapeFrom (pre.foldl (fun s x=>(nextS x,s.2++piece s.1 x)) s).1 rest:=by
  intro pre
  induction pre with
  | nil=>intro s rest;rfl
  | cons x r ih=>
    intro s rest
    rw[List.foldl_cons,← ih]
    simp only[List.cons_append,shapeFrom,List.append_assoc]
 intro pre rest
 have:=key pre (0,[]) rest
 simpa[stS] using this
theorem okSh_at:∀ (pre:List SpotD) (x:SpotD) (rest:List SpotD),okSh 0 (pre++x::rest)→1≤x.near.depth∧x.near.depth≤9∧x.near.depth - 1≤(stS pre).1:=by
 have key:∀ (pre:List SpotD) (s:Nat × List UInt8) (x:SpotD) (rest:List SpotD),okSh s.1 (pre++x::rest)→1≤x.near.depth∧x.near.depth≤9∧x.near.depth - 1≤(pre.foldl (fun s x=>(nextS x,s.2++piece s.1 x)) s).1:=by
  intro pre
  induction pre with
  | nil=>intro s x rest h;exact⟨h.1,h.2.1,h.2.2.1⟩
  | cons y r ih=>
    intro s x rest h
    rw[List.foldl_cons]
    exact ih (nextS y,s.2++piece s.1 y) x rest h.2.2.2
 intro pre x rest h
 exact key pre (0,[]) x rest h
theorem stS_open:∀ (pre rest:List SpotD),okSh 0 (pre++rest)→(stS pre).1≤9:=by
 intro pre rest
 rcases List.eq_nil_or_concat pre with rfl|⟨l,x,rfl⟩
 ·intro _;simp[stS]
 ·intro h
  rw[List.concat_eq_append] at h ⊢
  rw[stS_snoc]
  rw[List.append_assoc] at h
  have:=okSh_at l x rest (by simpa using h)
  show nextS x≤9
  unfold nextS
  split<;>omega
theorem piece_len {o:Nat} {x:SpotD} (h:(joinK (keysOf x.page.items)).length≤100000) (ho:o≤9):(piece o x).length≤200000:=by
 unfold piece leafText closeB
 split<;>simp<;>omega
theorem stS_len_n:∀ (n:Nat) (pre rest:List SpotD),pre.length=n→okSh 0 (pre++rest)→(∀ x∈pre,(joinK (keysOf x.page.items)).length≤100000)→(stS pre).2.length≤n*200000
 | 0,pre,_,hn,_,_=>by
   obtain rfl:=List.eq_nil_of_length_eq_zero hn
   simp[stS]
 | n+1,pre,rest,hn,h,hj=>by
   rcases List.eq_nil_or_concat pre with rfl|⟨l,x,rfl⟩
   ·simp at hn
   rw[List.concat_eq_append] at hn h hj ⊢
   rw[List.append_assoc] at h
   have h1:=stS_len_n n l _ (by simpa using hn) h (fun y hy=>hj y (by simp[hy]))
   have h2:=stS_open l _ h
   have h3:=piece_len (o:=(stS l).1) (hj x (by simp)) h2
   rw[stS_snoc]
   simp only[qO]
   omega
theorem stS_len (pre rest:List SpotD) (h:okSh 0 (pre++rest)) (hj:∀ x∈pre,(joinK (keysOf x.page.items)).length≤100000):(stS pre).2.length≤pre.length*200000:=stS_len_n _ pre rest rfl h hj
theorem le_sum_of:∀ (l:List Nat) (x:Nat),x∈l→x≤l.sum
 | y::l,x,h=>by
   rw[List.sum_cons]
   rcases List.mem_cons.1 h with rfl|h
   ·omega
   ·have:=le_sum_of l x h
    omega
theorem tree_shape {V:View} {vf:Nat→ByteArray}:∀ (d f id lo hi:Nat) (top:Bool) (L I:List Nat) (n:Near),TreeV V vf d id lo hi top L I→d≤f→n.id=num id→n.depth+d≤8→1≤n.depth →
  ∀ (o:Nat) (rest:List SpotD),n.depth - 1≤o→okSh (n.depth+d - 1) rest→okSh o (visit V f n++rest)
 | 0,f,id,lo,hi,top,L,I,n,h,_,hid,hd,h1d,o,rest,ho,hr=>by
   obtain⟨h1,rfl,h3,h4,h5,h6,h7⟩:=h
   have hs:seen V n=(leafV vf L,0):=seen_of (by rw[hid];exact h1) (.inl rfl) (by omega)
   have hv:visit V f n=[⟨n,leafV vf L,0⟩]:=by
    cases f with
    | zero=>simp[visit,spotOf,hs]
    | succ f=>simp[visit,spotOf,hs,under,leafV,leafP,noPage,kidsFrom]
   rw[hv]
   refine⟨h1d,by simp only;omega,ho,?_⟩
   have:nextS ⟨n,leafV vf L,0⟩=n.depth+0 - 1:=rfl
   rw[this]
   exact hr
 | d+1,f,id,lo,hi,top,L,I,n,h,hf,hid,hd,h1d,o,rest,ho,hr=>by
   obtain⟨ids,seps,I',h1,rfl,h3,h4,h5⟩:=h
   obtain⟨f,rfl⟩:∃ f',f=f'+1:=⟨f - 1,by omega⟩
   have hs:seen V n=(branchN ids seps,0):=seen_of (by rw[hid];exact h1) (.inr rfl) (by omega)
   obtain⟨_,g1,g2,g3⟩:=kids_fit (fun id lo hi L I h=>treeV_fits d id lo hi false L I h) h3
   have hv:visit V (f+1) n=⟨n,branchN ids seps,0⟩::(under n (branchN ids seps)).flatMap (visit V f):=by simp[visit,spotOf,hs]
   have hkn:KidN (n.depth+1) n.low n.high ids seps (under n (branchN ids seps)):=kidsFrom_keys _ _ seps ids (keysN seps) 0 n.low g3 (by simp[keysN])
   have key:∀ {ids seps:List Nat} {lo hi:Nat} {L I:List Nat},KidsAt (fun id lo hi L I=>TreeV V vf d id lo hi false L I) ids seps lo hi L I→∀ (low:ByteArray) (l:List Near),KidN (n.depth+1) low n.high ids seps l →
     ∀ o,n.depth≤o→okSh o (l.flatMap (visit V f)++rest):=by
    intro ids seps lo hi L I h
    induction h using KidsAt.ind with
    | @one id lo hi L I h=>
      intro low l hk o ho
      obtain⟨id',e,rfl⟩:=hk
      obtain rfl:id=id':=by simpa using e
      have:=tree_shape d f id lo hi false L I ⟨num id,n.depth+1,low,n.high⟩ h (by omega) rfl (by simp only;omega) (by simp) o rest (by simpa using ho) (by simp only;rw[show n.depth+1+d - 1=n.depth+(d+1) - 1 by omega];exact hr)
      simpa using this
    | @cons id m lo hi ids seps L1 I1 L2 I2 h h2 ih2=>
      intro low l hk o ho
      obtain⟨id',ids',l',e,rfl,hk'⟩:=hk
      simp only[List.cons.injEq] at e
      obtain⟨rfl,rfl⟩:=e
      have h8:=ih2 (key2 m) l' hk' (n.depth+1+d - 1) (by omega)
      have:=tree_shape d f id lo m false L1 I1 ⟨num id,n.depth+1,low,key2 m⟩ h (by omega) rfl (by simp only;omega) (by simp) o (l'.flatMap (visit V f)++rest) (by simpa using ho) h8
      simpa[List.flatMap_cons,List.append_assoc] using this
   rw[hv]
   refine⟨h1d,by simp only;omega,ho,?_⟩
   have:nextS ⟨n,branchN ids seps,0⟩=n.depth:=rfl
   rw[this]
   exact key h3 n.low _ hkn n.depth qL
theorem joinK_two:∀ (L:List Nat),(joinK (L.map key2)).length=3*L.length - 1
 | []=>rfl
 | x::r=>by
   have h1:(key2 x).data.toList.length=2:=rfl
   unfold joinK
   rw[List.map_cons,List.map_cons,Lib.join_cons,qO,h1]
   have:∀ r:List Nat,(Lib.joinTail [32] ((r.map key2).map (·.data.toList))).length=3*r.length:=by
    intro r
    induction r with
    | nil=>rfl
    | cons y r ih=>
      simp only[Lib.joinTail,List.map_cons,List.flatten_cons,qO,qV,List.length_nil] at ih ⊢
      rw[ih]
      have h2:(key2 y).data.toList.length=2:=rfl
      omega
   rw[this,qV]
   omega
theorem grown_shape {ps:List PageD} {root:Int} {L:List Nat} {V:View} (hR:RootAt ps root L) (hl:L.length≤120) (hV:∀ i p,ps[i]?=some p→V (num i)=(p,0)) :
  okSh 0 (spotsD V root)∧∀ x∈spotsD V root,(joinK (keysOf x.page.items)).length≤100000:=by
 constructor
 ·rcases hR with ⟨rfl,rfl,rfl⟩|⟨d,id,I,rfl,hT,hp⟩
  ·simp[spotsD,okSh]
  ·have hd:=tree_depth hT hl
   have hr:¬ num id=0:=by unfold num;omega
   unfold spotsD
   rw[if_neg hr]
   have:=tree_shape d 8 id 0 256 true L I (rootNear (num id)) (treeV_of hV d id 0 256 true L I hT) (by omega) rfl (by simp[rootNear];omega) (by simp[rootNear]) 0 [] (by simp[rootNear]) trivial
   simpa using this
 ·intro x hx
  obtain⟨h0,⟨floor,hg⟩,hi,_⟩:=grown_spots hR hl hV
  by_cases hk:x.page.kind=1
  ·obtain⟨_,L',vf,lo,hi',hp,_⟩:=(hg x hx).leaf hk
   have hlen:L'.length≤L.length:=by
    have h1:x.page.items.length=L'.length:=by rw[hp];simp[leafV,leafP]
    have h2:=congrArg List.length hi
    rw[List.length_flatMap,List.length_map] at h2
    have h3:x.page.items.length≤((spotsD V root).map fun x=>x.page.items.length).sum:=le_sum_of _ _ (List.mem_map.2 ⟨x,hx,rfl⟩)
    omega
   rw[hp,leafV_keys,joinK_two]
   omega
  ·rw[((hg x hx).branch hk).2]
   exact Nat.zero_le _
end
section
open Go.RowKit
theorem repeat_close:∀ k,Lib.repeatL [93] k=closeB k
 | 0=>rfl
 | k+1=>by
   show [93]++Lib.repeatL [93] k=_
   rw[repeat_close k]
   rfl
theorem repeat_any (k:Nat) (hk:k≤1000) (w:World):Calls Tryz.prog 33 #[.string ⟨#[93]⟩,.int .i64 (k:Int)] w fun e w'=>e=.returned (.string ⟨(closeB k).toArray⟩)∧Below w.heap.size w w':=by
 refine (Tryz.strings_Repeat ⟨#[93]⟩ k w (by omega) (by simp[ByteArray.size];omega)).mono ?_
 rintro e w' ⟨rfl,hb⟩
 exact⟨by rw[← repeat_close],hb⟩
theorem join_keys {w:World} {B m:Nat} {v:Value} {l:List ByteArray} (h:w.ownsRow B 9 1 v m (strsC l)) (hm:m=l.length) (hl:l.length≤1000) (hj:(joinK l).length≤100000000000) :
  Calls Tryz.prog 35 #[v,.string ⟨#[32]⟩] w fun e w'=>e=.returned (.string ⟨(joinK l).toArray⟩)∧Below w.heap.size w w':=by
 subst hm
 obtain⟨h1,h2⟩:=h
 rcases h2 with ⟨rfl,h0⟩|⟨g,cap,cur,rfl,hb,hh,hc1,hc2,hc3,hc4⟩
 ·have hx:l=[]:=List.eq_nil_of_length_eq_zero h0
  subst hx
  refine (Tryz.strings_Join_none none 0 ⟨#[32]⟩ w).mono ?_
  rintro e w' ⟨rfl,rfl⟩
  exact⟨rfl,qB _ _⟩
 ·refine (Tryz.strings_Join g 0 cap l ⟨#[32]⟩ w (fun j x hx=>?_) (qA hh) (by omega) hc1 (by simpa[joinK] using Nat.le_trans hj (by omega))).mono ?_
  ·obtain⟨hj1,rfl⟩:=List.getElem?_eq_some_iff.1 hx
   rw[Nat.zero_add,cell_rowL hh]
   have h5:(strsC l)[j]?=some (.string l[j]):=by simp[strsC,hj1]
   rw[← hc4] at h5
   rw[List.getElem?_take_of_lt (by omega)] at h5
   rw[← Array.getElem?_toList]
   exact h5
  ·rintro e w' ⟨rfl,hb⟩
   exact⟨rfl,hb⟩
end
section
open Go.RowKit
def pred_sh10:Nat→List Nat|2=>[1]|3=>[0,2]|4=>[3]|_=>[]
def slots_sh10:Nat→List Tmp|0=>[20]|1=>[21]|2=>[22]|3=>[23]|4=>[24]|_=>[]
def dead_sh10:Nat→Nat→Bool|_,_=>false
def G_sh10 (op:Nat) (ab:Nat) (v0:Value) (v1:Value) (v2:Value) (v3:Value) (v4:Value) (v5:Value) (v6:Value) (v7:Value) (v8:Value) (v9:Value) (v10:Value) (v11:Value) (v12:Value) (v13:Value) (v14:Value) (v15:Value) (v16:Value) (v17:Value):Nat→(Operand→Value)→World→Prop
 | 0,ρ,_=>ρ (.tmp 20)=.int .i64 (op:Int)
 | 1,ρ,_=>ρ (.tmp 21)=.agg #[v0,v1,v2,v3,v4,v5,v6,v7,v8,v9,v10,v11,v12,v13,v14,v15,v16,v17]
 | 2,ρ,_=>ρ (.tmp 22)=.int .i64 (ab:Int)
 | 3,ρ,_=>ρ (.tmp 23)=.int .i64 ((op - ab:Nat):Int)
 | 4,ρ,_=>ρ (.tmp 24)=.string ⟨(closeB (op - ab)).toArray⟩
 | _,_,_=>True
theorem hk_sh10:hkB (opsOf Tryz.f13 10) [0,1,2,3,4] [5] dead_sh10 pred_sh10 slots_sh10=true:=by kernel_rfl
theorem sh10 (l0 n:Nat) (w0:World) (b6 b7 pb base op ab:Nat) (v:Value) (l:List UInt8) (v0 v1 v2 v3 v4 v5 v6 v7 v8 v9 v10 v11 v12 v13 v14 v15 v16 v17:Value) {ops:Array Oper} (hops:ops=opsOf Tryz.f13 10) {a0:Act} {Q:Exit→Act→World→Prop} (hL:¬ LetsOut Q) (hsz:a0.tmps.size=43) (h6:a0.eval (.tmp 6)=.pointer (some ⟨b6,0,none⟩)) (h7:a0.eval (.tmp 7)=.pointer (some ⟨b7,0,none⟩)) (h8:a0.eval (.tmp 8)=.pointer (some ⟨pb,0,none⟩)) (hop:op≤9) (hab:ab≤op) (hC7:∀ W,Below w0.heap.size w0 W→W.cell? ⟨b7,0,none⟩=some (.int .i64 (op:Int))) (hC:∀ W,Below w0.heap.size w0 W→W.rangeAt pb 0 [v0,v1,v2,v3,v4,v5,v6,v7,v8,v9,v10,v11,v12,v13,v14,v15,v16,v17])
  (hA:∀ V,Below w0.heap.size w0 V→Calls Tryz.prog 34 #[.agg #[v0,v1,v2,v3,v4,v5,v6,v7,v8,v9,v10,v11,v12,v13,v14,v15,v16,v17]] V fun e V'=>e=.returned (.int .i64 (ab:Int))∧Below V.heap.size V V')
  (hBu:BuA w0 b6 base v l) (hlen:l.length≤1000000000) (hbase:base≤w0.heap.size)
  (hQ:∀ v20 v21 v22 v23 v24 v25 v' w',BuA w' b6 base v' (l++closeB (op - ab))→BuT b6 v.ownBlock w0 w'→(v'.ownBlock=v.ownBlock∨∀ g,v'.ownBlock=some g→w0.heap.size≤g)→Q .normal ([(20,v20),(21,v21),(22,v22),(23,v23),(24,v24),(25,v25)].foldl (fun b (x:Nat × Value)=>b.put (some x.1) x.2) a0) w'):(Code.region 10 ops true).wpIn (Fence.wide.inRound l0) n Tryz.prog Q a0 w0:=by
 subst hops
 have hE:IntKind.i64.wrap ((op:Int) - (ab:Int))=((op - ab:Nat):Int):=by
  rw[show (op:Int) - (ab:Int)=((op - ab:Nat):Int) by omega]
  go_ints<;>trivial
 refine wpIn_region_facts l0 [0,1,2,3,4] [5] dead_sh10 pred_sh10 slots_sh10 (fun W=>Below w0.heap.size w0 W) (fun _ w w'=>Below w.heap.size w w') (G_sh10 op ab v0 v1 v2 v3 v4 v5 v6 v7 v8 v9 v10 v11 v12 v13 v14 v15 v16 v17) (by kernel_rfl) hk_sh10 (by kernel_rfl) hL ?_ ?_ ?_ ?_ ?_ ?_
 ·exact (qB _ _).drew
 ·intro j hj w w' hB hR
  exact hB.trans (hR.mono hB.size)
 ·intro i hi j hj hne hnp hdd ρ w w' hB hR hG
  rcases (by simpa using hi:i=0∨i=1∨i=2∨i=3∨i=4) with rfl|rfl|rfl|rfl|rfl
  ·exact hG
  ·exact hG
  ·exact hG
  ·exact hG
  ·exact hG
 ·intro i hi ρ ρ' w h hG
  rcases (by simpa using hi:i=0∨i=1∨i=2∨i=3∨i=4) with rfl|rfl|rfl|rfl|rfl
  ·have e20:=h 20 (by simp[slots_sh10]);simp only[G_sh10] at hG ⊢;rw[← e20];exact hG
  ·have e21:=h 21 (by simp[slots_sh10]);simp only[G_sh10] at hG ⊢;rw[← e21];exact hG
  ·have e22:=h 22 (by simp[slots_sh10]);simp only[G_sh10] at hG ⊢;rw[← e22];exact hG
  ·have e23:=h 23 (by simp[slots_sh10]);simp only[G_sh10] at hG ⊢;rw[← e23];exact hG
  ·have e24:=h 24 (by simp[slots_sh10]);simp only[G_sh10] at hG ⊢;rw[← e24];exact hG
 ·intro i hi
  rcases (by simpa using hi:i=0∨i=1∨i=2∨i=3∨i=4) with rfl|rfl|rfl|rfl|rfl
  ·refine opDoes_val 20 (.load 3 (.tmp 7)) (by kernel_rfl) (by rw[hsz];decide) (fun w=>qB _ _) fun ρ w ty pos af hb=>?_
   have h7:=(hb.out 7 (by kernel_rfl)).trans h7
   have hB:=hb.base
   have hcell:=hC7 w hB
   exact⟨.int .i64 (op:Int),by simp[execOp,h7,hcell,go_sem],fun ρ_ e1 _=>e1⟩
  ·refine opDoes_val 21 (.load 86 (.tmp 8)) (by kernel_rfl) (by rw[hsz];decide) (fun w=>qB _ _) fun ρ w ty pos af hb=>?_
   have h8:=(hb.out 8 (by kernel_rfl)).trans h8
   have hB:=hb.base
   have c:=run_loadVar_mid (P:=Tryz.prog) w pb 0 86 [v0,v1,v2,v3,v4,v5,v6,v7,v8,v9,v10,v11,v12,v13,v14,v15,v16,v17] _ (hC w hB) Tryz.underlying86 rfl Tryz.infoSpotG
   exact⟨.agg #[v0,v1,v2,v3,v4,v5,v6,v7,v8,v9,v10,v11,v12,v13,v14,v15,v16,v17],by simp only[execOp,h8,Instr.loadAt,Instr.sureAddr,Sem.run_bind,Sem.run_pure,Result.andThen_ok,c],fun ρ_ e1 _=>e1⟩
  ·refine opDoes_call 22 34 #[(.tmp 21)] #[86] (by kernel_rfl) (by rw[hsz];decide) (fun _ _=>by go_simp) fun ρ w hb=>?_
   have g1:=hb.pre 1 (by simp[pred_sh10])
   simp only[G_sh10] at g1
   have hB:=hb.base
   simp only[List.map_toArray,List.map_cons,List.map_nil,g1]
   refine (hA w hB).mono ?_
   rintro e w' ⟨rfl,hb1⟩
   exact⟨_,rfl,hb1,fun ρ_ e1 _=>e1⟩
  ·refine opDoes_val 23 (.binOp .sub 3 (.tmp 20) (.tmp 22) 3) (by kernel_rfl) (by rw[hsz];decide) (fun w=>qB _ _) fun ρ w ty pos af hb=>?_
   have g0:=hb.pre 0 (by simp[pred_sh10])
   simp only[G_sh10] at g0
   have g2:=hb.pre 2 (by simp[pred_sh10])
   simp only[G_sh10] at g2
   exact⟨.int .i64 ((op - ab:Nat):Int),by simp[execOp,g0,g2,hE,go_sem],fun ρ_ e1 _=>e1⟩
  ·refine opDoes_call 24 33 #[(.const (.string { data:=#[93] })),(.tmp 23)] #[9,3] (by kernel_rfl) (by rw[hsz];decide) (fun _ _=>by go_simp) fun ρ w hb=>?_
   have g3:=hb.pre 3 (by simp[pred_sh10])
   simp only[G_sh10] at g3
   have hc:=hb.const
   simp only[List.map_toArray,List.map_cons,List.map_nil,g3,hc]
   refine (repeat_any (op - ab) (by omega) w).mono ?_
   rintro e w' ⟨rfl,hb1⟩
   exact⟨_,rfl,hb1,fun ρ_ e1 _=>e1⟩
 ·refine ends_call [20,21,22,23,24] (by kernel_rfl) 25 32 #[(.tmp 6),(.tmp 24)] #[92,9] (by kernel_rfl) (fun _ _=>by go_simp) fun ρ w hc hout hB hG=>?_
  have h6:=(hout 6 (by kernel_rfl)).trans h6
  have g0:=hG 0 (by simp) (by kernel_rfl)
  simp only[G_sh10] at g0
  have g1:=hG 1 (by simp) (by kernel_rfl)
  simp only[G_sh10] at g1
  have g2:=hG 2 (by simp) (by kernel_rfl)
  simp only[G_sh10] at g2
  have g3:=hG 3 (by simp) (by kernel_rfl)
  simp only[G_sh10] at g3
  have g4:=hG 4 (by simp) (by kernel_rfl)
  simp only[G_sh10] at g4
  simp only[List.map_toArray,List.map_cons,List.map_nil,h6,g4]
  refine (write_own (W:=w) ⟨(closeB (op - ab)).toArray⟩ (hBu.below hB) (by simp[ByteArray.size,closeB];omega) (Nat.le_trans hbase hB.size)).mono ?_
  rintro e w' ⟨rfl,v',q1,q2,q3⟩
  refine⟨_,rfl,?_⟩
  simp only[List.foldl_cons,List.foldl_nil]
  refine hQ _ _ _ _ _ _ v' w' q1 ((BuT.below hB).trans q2 (.inl rfl)) ?_
  rcases q3 with q3|q3
  ·exact .inl q3
  ·exact .inr fun g hg=>qN hB.size (q3 g hg)
end
end Go.Proofs.YtbghhklbfnplbaaGreat

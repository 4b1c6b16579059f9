import Derived.WalkKit
import Derived.WalkSpells
import Derived.WalkLawsBesides
import Derived.Deep.LoopGhost
import Derived.Test.YtbghhklbfnplbaaGreatC00
import Derived.Test.YtbghhklbfnplbaaGreatRows
set_option maxHeartbeats 1000000
set_option maxRecDepth 10000
namespace Go.Proofs.YtbghhklbfnplbaaGreat
section
open Go.RowKit
theorem hid {p:Prop} (h:p):Hid p:=h
theorem ret_int {k:IntKind} {a b:Int} (h:a=b):Ending.returned (.int k a)=.returned (.int k b):=by rw[h]
theorem ret_str {a b:ByteArray} (h:a=b):Ending.returned (.string a)=.returned (.string b):=by rw[h]
def byteAt (n:Int) (i:Nat):Int:=n / 2 ^ (8*i) % 256
theorem byteAt_lo (n:Int) (i:Nat):0≤byteAt n i:=Int.emod_nonneg _ (by decide)
theorem byteAt_hi (n:Int) (i:Nat):byteAt n i<256:=Int.emod_lt_of_pos _ (by decide)
def lowRow (n:Int) (k j:Nat):List Value:=(List.range k).map fun i=>.int .u8 (if i<j then byteAt n i else 0)
def lowB (n:Int) (k:Nat):List UInt8:=(List.range k).map fun i=>UInt8.ofNat (byteAt n i).toNat
def lowS (n:Int) (k:Nat):ByteArray:=⟨(lowB n k).toArray⟩
theorem lowB_length (n:Int) (k:Nat):(lowB n k).length=k:=by simp[lowB]
theorem lowS_size (n:Int) (k:Nat):(lowS n k).size=k:=by simp[lowS,ByteArray.size,lowB_length]
theorem lowRow_zero (n:Int) (k:Nat):lowRow n k 0=List.replicate k (.int .u8 0):=by
 apply List.ext_getElem?
 intro j
 by_cases hj:j<k<;>simp[lowRow,hj]
theorem lowRow_at (n:Int) (k j:Nat) (hj:j<k):(lowRow n k j)[j]?=some (.int .u8 0):=by simp[lowRow,hj]
theorem lowRow_set (n:Int) (k j:Nat):(lowRow n k j).set j (.int .u8 (n / 2 ^ (8*j) % 256))=lowRow n k (j+1):=by
 apply List.ext_getElem?
 intro t
 by_cases ht:t<k
 ·by_cases e:j=t
  ·subst e;simp[lowRow,ht,byteAt]
  ·have h1:(t<j+1)=(t<j):=by simp;omega
   simp[lowRow,e,ht,h1]
 ·simp[lowRow,ht]
theorem lowRow_full (n:Int) (k:Nat):lowRow n k k=(lowB n k).map fun b=>.int .u8 (b.toNat:Int):=by
 apply List.ext_getElem?
 intro t
 by_cases ht:t<k
 ·have h0:=byteAt_lo n t
  have h1:=byteAt_hi n t
  simp[lowRow,lowB,ht]
  omega
 ·simp[lowRow,lowB,ht]
def leN:List UInt8→Nat
 | []=>0
 | b::r=>b.toNat+256*leN r
theorem leN_snoc:∀ (l:List UInt8) (b:UInt8),leN (l++[b])=leN l+b.toNat*256 ^ l.length
 | [],b=>by simp[leN]
 | c::r,b=>by
   simp only[List.cons_append,leN,leN_snoc r b,qV,Nat.pow_succ,Nat.mul_add]
   rw[Nat.mul_comm (256 ^ r.length) 256,Nat.mul_left_comm]
   omega
theorem leN_lt:∀ (l:List UInt8),leN l<256 ^ l.length
 | []=>by simp[leN]
 | b::r=>by
   have h1:=leN_lt r
   have h2:=b.toNat_lt
   simp only[leN,qV,Nat.pow_succ]
   omega
theorem two_pow_eight (j:Nat):(2:Nat) ^ (8*j)=256 ^ j:=by rw[Nat.pow_mul]
theorem leN_take_succ (l:List UInt8) (j:Nat) (h:j<l.length):leN (l.take (j+1))=leN (l.take j)+l[j].toNat*256 ^ j:=by
 rw[qT h,leN_snoc,List.length_take,Nat.min_eq_left (by omega)]
theorem or_byte (a b j:Nat) (ha:a<256 ^ j) (hb:b<256) (hj:j<8) :
  bits .or .u64 (a:Int) (IntKind.u64.wrap ((b:Int)*2 ^ (8*j)))=((a+b*256 ^ j:Nat):Int):=by
 have e2:((2:Int) ^ (8*j))=((256 ^ j:Nat):Int):=by rw[← two_pow_eight];simp
 have hle:256 ^ j≤256 ^ 7:=Nat.pow_le_pow_right (by omega) (by omega)
 have hle':256 ^ j≤72057594037927936:=hle
 have hm:b*256 ^ j≤255*256 ^ j:=Nat.mul_le_mul_right _ (by omega)
 have hlt:b*256 ^ j<18446744073709551616:=by omega
 rw[e2,← Int.natCast_mul,IntKind.wrap_u64,show ((b*256 ^ j:Nat):Int) % 18446744073709551616=((b*256 ^ j:Nat):Int) by omega]
 rw[u64_or_nat _ _ (by omega) hlt,Nat.or_comm,nat_join (8*j) (b*256 ^ j) a (by rw[two_pow_eight];exact Nat.mul_mod_left _ _) (by rw[two_pow_eight];exact ha),Nat.add_comm]
end
section
open Go.RowKit
theorem Tryz.info5:(Tryz.prog.info? 5).map (fun i=>(i.zero,i.size,i.bytes))=some (some (.int .u8 0),1,1):=by kernel_rfl
theorem conv_own {w:World} {base g cap n:Nat} {l:List UInt8} (h:w.ownsRow base 5 1 (.slice (some ⟨g,0,none⟩) n cap) n (l.map fun b=>.int .u8 (b.toNat:Int))) :
  (convert 22 9 (.slice (some ⟨g,0,none⟩) n cap)).run Tryz.prog w=.ok (.string ⟨l.toArray⟩) w:=by
 have hl:n=l.length:=by have:=h.1;simpa using this.symm
 subst hl
 exact run_convert_bytes_back w 22 9 5 ⟨g,0,none⟩ cap l Tryz.underlying22 Tryz.underlying5 Tryz.underlying9 (fun j hj=>h.cells (g:=g) rfl j _ (by simp[hj]))
theorem lowest_any (n:Int) (k:Nat) (w:World) (_hn0:0≤n) (_hn:n<18446744073709551616) (hk:k≤8) :
  Calls Tryz.prog 153 #[.int .u64 n,.int .i64 k] w fun e w'=>e=.returned (.string (lowS n k))∧Below w.heap.size w w':=by
 obtain⟨i0,hi,hz0,hz1,hz2⟩:=info_parts Tryz.info5
 go_enter Tryz.func153,Tryz.ntmps153
 go_wp2_with (first
  | (at_make;refine wpList_make_full _ rfl _ _ 22 rfl w.heap.size 5 i0 (.int .u8 0) 1 Tryz.underlying22 hi hz0 hz1 .i64 .i64 _ _ k rfl rfl rfl rfl (by rw[hz2];omega) (by unfold maxLen;omega) qL ?_)
  | fail)
 intro w1 hown hg
 have hown0:w1.ownsRow w.heap.size 5 1 (Value.slice (some { block:=w.heap.size,off:=0 }) k k) k (lowRow n k 0):=by
  rw[lowRow_zero,← toList_madeCells_one];exact hown
 have hb1:Below w.heap.size w w1:=(qB _ w).grown hg qL (by simp)
 clear hown hg
 go_wp2
 go_loopw [11] (fun i wr=>∃ j:Nat,j≤k∧i=.int .i64 j∧wr.ownsRow w.heap.size 5 1 (Value.slice (some { block:=w.heap.size,off:=0 }) k k) k (lowRow n k j)∧Below w.heap.size w wr) (fun i _=>k - (intOf i).toNat)
 case atStart=>exact⟨0,Nat.zero_le _,rfl,hown0,hb1⟩
 case round=>
  obtain⟨j,hj,rfl,hown,hb⟩:=hrel
  by_cases hlt:j<k
  ·have hfz:=hown.frozenAt j
   have hce:wr.cell? ⟨w.heap.size,j,none⟩=some (.int .u8 0):=by rw[hown.cellAt j (by omega)];exact lowRow_at n k j hlt
   have HS:=hown.stored j (.int .u8 (n / 2 ^ (8*j) % 256))
   rw[lowRow_set] at HS
   have H1:Hid _:=HS.1
   clear HS hown
   go_wp2
   go_roundw
   case rel=>exact⟨j+1,by omega,by go_num,H1.out,hb.setCell qL _⟩
   case measure=>simp[intOf];omega
  ·have ej:j=k:=by omega
   subst ej
   rw[lowRow_full] at hown
   have hcv:=conv_own hown
   clear hown
   go_wp2
   go_ret
   exact⟨rfl,hb⟩
theorem num_any (n:Int) (w:World) (hn0:0≤n) (hn:n<18446744073709551616) :
  Calls Tryz.prog 138 #[.int .u64 n] w fun e w'=>e=.returned (.string (lowS n 8))∧Below w.heap.size w w':=by
 go_enter Tryz.func138,Tryz.ntmps138
 go_wp2_with (go_at_call 153;refine (lowest_any n 8 _ hn0 hn (by omega)).mono ?_;rintro e w' ⟨rfl,hb⟩)
 go_ret
 exact⟨rfl,hb⟩
theorem text_short (s:ByteArray) (w:World) (_hs:s.size≤65535) :
  Calls Tryz.prog 148 #[.string s] w fun e w'=>e=.returned (.string (lowS s.size 2++s))∧Below w.heap.size w w':=by
 have hz:=lowS_size
 go_enter Tryz.func148,Tryz.ntmps148
 go_wp2_with (go_at_call 153;refine (lowest_any _ 2 _ (by omega) (by omega) (by omega)).mono ?_;rintro e w' ⟨rfl,hb⟩)
 go_ret
 exact⟨rfl,hb⟩
theorem number_own (l:List UInt8) (base g cap:Nat) (w:World) (hl:l.length≤8) (ho:w.ownsRow base 5 1 (.slice (some ⟨g,0,none⟩) l.length cap) l.length (l.map fun b=>.int .u8 (b.toNat:Int))) :
  Calls Tryz.prog 140 #[.slice (some ⟨g,0,none⟩) l.length cap] w fun e w'=>e=.returned (.int .u64 (leN l))∧w'=w:=by
 have hc:∀ j (h:j<l.length),w.cell? ⟨g,j,none⟩=some (.int .u8 (l[j].toNat:Int)):=by
  intro j h;rw[ho.cellAt j (by omega)];simp[h]
 clear ho
 go_enter Tryz.func140,Tryz.ntmps140
 go_wp2
 go_loop [3,8] (fun a i=>∃ j:Nat,j≤l.length∧i=.int .i64 j∧a=.int .u64 (leN (l.take j))) (fun _ i=>l.length - (intOf i).toNat)
 case atStart=>exact⟨0,Nat.zero_le _,rfl,rfl⟩
 case round=>
  obtain⟨j,hj,rfl,rfl⟩:=hrel
  by_cases hlt:j<l.length
  ·have hcj:=hc j hlt
   have hbj:(l[j].toNat:Int)<256:=by have:=l[j].toNat_lt;omega
   have HS:Hid (leN (l.take (j+1))=leN (l.take j)+l[j].toNat*256 ^ j):=leN_take_succ l j hlt
   have HO:Hid (bits .or .u64 (leN (l.take j):Int) (IntKind.u64.wrap ((l[j].toNat:Int)*2 ^ (8*j)))=((leN (l.take j)+l[j].toNat*256 ^ j:Nat):Int)):=
    or_byte _ _ j (by have:=leN_lt (l.take j);rwa [List.length_take,Nat.min_eq_left (by omega)] at this) (by have:=l[j].toNat_lt;omega) (by omega)
   clear hc
   go_wp2
   go_roundw
   case rel=>exact⟨j+1,by omega,by go_num,by rw[HO.out,HS.out]⟩
   case measure=>simp[intOf];omega
  ·go_wp2
   go_ret
   exact⟨ret_int (by rw[List.take_of_length_le (by omega)]),rfl⟩
theorem number_none (ao:Option Addr) (cap:Nat) (w:World) :
  Calls Tryz.prog 140 #[.slice ao 0 cap] w fun e w'=>e=.returned (.int .u64 0)∧w'=w:=by
 go_enter Tryz.func140,Tryz.ntmps140
 go_wp2
 refine wp_loop_rounds 1 ?_
 rw[rounds_succ]
 go_wp2
 go_ret
 exact⟨rfl,rfl⟩
end
section
open Go.RowKit
def CutAt (w:World) (b rb:Nat) (l:List UInt8) (sh:Bool):Prop:=
 b ≠ rb∧rb<w.heap.size∧∃ ao cap,w.heap[b]?=some (.cells #[.slice ao l.length cap,.bool sh] 211 (0,0))∧l.length≤cap∧cap≤maxLen ∧
   (l=[]∨∃ o,ao=some ⟨rb,o,none⟩∧∀ j (h:j<l.length),w.cell? ⟨rb,o+j,none⟩=some (.int .u8 (l[j].toNat:Int)))
theorem lt_of_heap {w:World} {b:Nat} {o:Obj} (h:w.heap[b]?=some o):b<w.heap.size:=(qA h)
theorem CutAt.lt {w:World} {b rb:Nat} {l:List UInt8} {sh:Bool} (h:CutAt w b rb l sh):b<w.heap.size:=by
 obtain⟨_,_,ao,cap,h,_⟩:=h
 exact lt_of_heap h
theorem CutAt.kept {w w':World} {b rb:Nat} {l:List UInt8} {sh:Bool} (h:CutAt w b rb l sh) (hb:w'.heap[b]?=w.heap[b]?) (hr:w'.heap[rb]?=w.heap[rb]?) (hs:w.heap.size≤w'.heap.size):CutAt w' b rb l sh:=by
 obtain⟨h1,h2,ao,cap,h3,h4,h5,h6⟩:=h
 refine⟨h1,by omega,ao,cap,hb.trans h3,h4,h5,?_⟩
 rcases h6 with h6|⟨o,ho,hc⟩
 ·exact .inl h6
 ·exact .inr ⟨o,ho,fun j hj=>(World.cell?_of_block (a:=⟨rb,o+j,none⟩) hr).trans (hc j hj)⟩
theorem CutAt.below {w w':World} {b rb N:Nat} {l:List UInt8} {sh:Bool} (h:CutAt w b rb l sh) (hb:Below N w w') (h1:b<N) (h2:rb<N):CutAt w' b rb l sh:=
 h.kept (hb.block b h1) (hb.block rb h2) hb.size
theorem cells_cut {w:World} {b:Nat} {x y:Value} (h:w.heap[b]?=some (.cells #[x,y] 211 (0,0))) :
  w.cell? ⟨b,0,none⟩=some x∧w.cell? ⟨b,1,none⟩=some y∧w.frozen? ⟨b,0,none⟩=false∧w.frozen? ⟨b,1,none⟩=false:=by
 refine⟨?_,?_,?_,?_⟩<;>simp[World.cell?,World.frozen?,h]
theorem grown_setCell (w:World) (b o:Nat) (u:Value):w.grownBy (w.setCell ⟨b,o,none⟩ u) (some b):=
 ⟨rfl,rfl,rfl,by simp[World.setCell],fun k _ hk=>Below.heap_setCell _ _ _ _ (fun e=>hk (by rw[e]))⟩
theorem grown_of_below {N b:Nat} {w w1 w':World} (h:Below N w w1) (hN:N=w.heap.size) (g:w1.grownBy w' (some b)):w.grownBy w' (some b):=by
 subst hN
 exact⟨g.os.trans h.os,g.tape.trans h.tape,g.output.trans h.output,qN h.size g.size,fun k hk hne=>(g.block k (qM hk h.size) hne).trans (h.block k hk)⟩
theorem new_any (s:ByteArray) (w:World) (hs:s.size≤maxLen) :
  Calls Tryz.prog 117 #[.string s] w fun e w'=>e=.returned (.pointer (some ⟨w.heap.size+1,0,none⟩))∧CutAt w' (w.heap.size+1) w.heap.size s.data.toList false∧w'.heap.size=w.heap.size+2∧Below w.heap.size w w':=by
 have hcv:=fun w=>run_bytes_of_string (P:=Tryz.prog) w 9 22 5 s Tryz.underlying9 Tryz.underlying22 Tryz.underlying5
 have hca:=grownCap_ge w s.size 0 5
 have hcb:=grownCap_le_maxLen w s.size 0 5 hs
 have hfin:∀ cap,s.size≤cap→cap≤maxLen→CutAt ((w.alloc (Obj.cells (bytesRow s cap) 5 ((bytesRow s cap).size,(bytesRow s cap).size+1))).alloc (Obj.cells #[Value.slice (some { block:=w.heap.size,off:=0 }) s.size cap,Value.bool false] 211)).drew (w.heap.size+1) w.heap.size s.data.toList false:=by
  intro cap h1 h2
  have hsz:s.data.toList.length=s.size:=by simp
  refine⟨by omega,by simp;omega,some ⟨w.heap.size,0,none⟩,cap,?_,by omega,h2,.inr ⟨0,rfl,?_⟩⟩
  ·rw[hsz]
   show ((w.heap.push _).push _)[w.heap.size+1]?=_
   rw[show w.heap.size+1=(w.heap.push (Obj.cells (bytesRow s cap) 5 ((bytesRow s cap).size,(bytesRow s cap).size+1))).size by simp]
   exact Array.getElem?_push_size
  ·intro j hj
   have hj':j<s.data.size:=by simpa using hj
   have:(((w.alloc (Obj.cells (bytesRow s cap) 5 ((bytesRow s cap).size,(bytesRow s cap).size+1))).alloc (Obj.cells #[Value.slice (some { block:=w.heap.size,off:=0 }) s.size cap,Value.bool false] 211)).drew).heap[w.heap.size]?=some (Obj.cells (bytesRow s cap) 5 ((bytesRow s cap).size,(bytesRow s cap).size+1)):=by
    show ((w.heap.push _).push _)[w.heap.size]?=_
    simp[Array.getElem?_push]
   unfold World.cell?
   rw[this]
   simp[bytesRow_at s cap j hj']
 have H:=hfin _ hca hcb
 clear hfin
 have HF:Hid _:=H
 clear H hca hcb
 go_enter Tryz.func117,Tryz.ntmps117
 go_wp2
 go_ret
 exact⟨rfl,HF.out,by simp,by refine Below.drew (Below.alloc (Below.alloc (qB _ _) qL _) (by simp) _)⟩
theorem Tryz.elem42:Tryz.prog.underlying 22=some (.slice (Tryz.prog.elem 22)):=by kernel_rfl
theorem Tryz.size5 (w:World):(Go.sizeOf (Tryz.prog.elem 22)).run Tryz.prog w=.ok 1 w:=by kernel_rfl
theorem own_cut0 {w:World} {base:Nat} {v:Value} {n:Nat} {xs:List Value} (h:w.ownsRow base 5 1 v n xs) :
  ∃ v0,(∀ w1,(Instr.slice 22 v none (some (.int .i64 0)) none).run Tryz.prog w1=.ok v0 w1)∧w.ownsRow base 5 1 v0 0 []∧v0.ownBlock=v.ownBlock:=by
 rcases h.2 with ⟨rfl,rfl⟩|⟨g,cap,cur,rfl,hb,hg,hnc,hcm,hcs,htake⟩
 ·exact⟨.slice none 0 0,fun w1=>by kernel_rfl,World.ownsRow_nil _ _ _ _,rfl⟩
 ·refine⟨.slice (some ⟨g,0,none⟩) 0 cap,fun w1=>?_,⟨by simp,.inr ⟨g,cap,cur,rfl,hb,hg,Nat.zero_le _,hcm,hcs,by simp⟩⟩,rfl⟩
  rw[run_slice_h (P:=Tryz.prog) w1 22 (some ⟨g,0,none⟩) n cap Tryz.elem42 .i64 0 (by omega) (by omega),Tryz.size5]
  simp[sliced,Result.andThen,Addr.add]
def cellsOf (l:List UInt8):List Value:=l.map fun b=>.int .u8 (b.toNat:Int)
theorem number_any (l:List UInt8) (base:Nat) (v:Value) (w:World) (hl:l.length≤8) (ho:w.ownsRow base 5 1 v l.length (cellsOf l)) :
  Calls Tryz.prog 140 #[v] w fun e w'=>e=.returned (.int .u64 (leN l))∧w'=w:=by
 rcases ho.2 with ⟨rfl,h0⟩|⟨g,cap,cur,rfl,_⟩
 ·have:l=[]:=List.eq_nil_of_length_eq_zero h0
  subst this
  exact number_none none 0 w
 ·exact number_own l base g cap w hl ho
def atOf (wd:Nat→Nat):Nat→Nat
 | 0=>0
 | i+1=>atOf wd i+wd i
def fieldOf (l:List UInt8) (wd:Nat→Nat):Nat→List UInt8
 | 0=>[]
 | i+1=>(l.drop (atOf wd i)).take (wd i)
end
section
open Go.RowKit
theorem take_succ_cells (l:List UInt8) (a m:Nat) (h:a+m<l.length):cellsOf ((l.drop a).take (m+1))=cellsOf ((l.drop a).take m)++[.int .u8 (l[a+m].toNat:Int)]:=by
 rw[qT (by simp;omega)]
 simp[cellsOf]
theorem fieldOf_length (l:List UInt8) (wd:Nat→Nat) (k:Nat) (h:atOf wd k+wd k≤l.length):(fieldOf l wd (k+1)).length=wd k:=by
 simp[fieldOf]
 omega
theorem atOf_mono (wd:Nat→Nat) (i:Nat):∀ d,atOf wd i≤atOf wd (i+d)
 | 0=>Nat.le_refl _
 | d+1=>qN (atOf_mono wd i d) (Nat.le_add_right _ _)
theorem cut_short {w:World} {b rb:Nat} {l:List UInt8} {sh:Bool} (h:CutAt w b rb l sh):CutAt (w.setCell ⟨b,1,none⟩ (.bool true)) b rb l true:=by
 obtain⟨h1,h2,ao,cap,h3,h4,h5,h6⟩:=h
 have hr:(w.setCell ⟨b,1,none⟩ (.bool true)).heap[rb]?=w.heap[rb]?:=Below.heap_setCell _ _ _ _ (by simpa using fun e=>h1 e.symm)
 refine⟨h1,by simpa[World.setCell] using h2,ao,cap,?_,h4,h5,?_⟩
 ·rw[heap_setCell_same w b 1 _ _ _ h3]
  rfl
 ·rcases h6 with h6|⟨o,ho,hc⟩
  ·exact .inl h6
  ·exact .inr ⟨o,ho,fun j hj=>(World.cell?_of_block (a:=⟨rb,o+j,none⟩) hr).trans (hc j hj)⟩
theorem cut_taken {w:World} {b rb n cap:Nat} {l:List UInt8} {sh:Bool} {ao:Option Addr} (hn:n≤l.length) (h1:b≠rb) (h2:rb<w.heap.size)
  (h3:w.heap[b]?=some (.cells #[.slice ao l.length cap,.bool sh] 211 (0,0))) (h4:l.length≤cap) (h5:cap≤maxLen)
  (h6:l=[]∨∃ o,ao=some ⟨rb,o,none⟩∧∀ j (h:j<l.length),w.cell? ⟨rb,o+j,none⟩=some (.int .u8 (l[j].toNat:Int))) (ao':Option Addr) (cap':Nat) (hcap:cap'=cap - n) (hao:cap≠n→ao'=ao.map (·.add n)) :
  CutAt (w.setCell ⟨b,0,none⟩ (.slice ao' (l.length - n) cap')) b rb (l.drop n) sh:=by
 subst hcap
 have hr:(w.setCell ⟨b,0,none⟩ (.slice ao' (l.length - n) (cap - n))).heap[rb]?=w.heap[rb]?:=Below.heap_setCell _ _ _ _ (by simpa using fun e=>h1 e.symm)
 refine⟨h1,by simpa[World.setCell] using h2,ao',cap - n,?_,by simp;omega,by omega,?_⟩
 ·rw[heap_setCell_same w b 0 _ _ _ h3]
  simp
 ·rcases h6 with h6|⟨o,ho,hc⟩
  ·exact .inl (by simp[h6])
  ·by_cases e:cap=n
   ·exact .inl (List.drop_eq_nil_of_le (by omega))
   ·refine .inr ⟨o+n,by rw[hao e,ho];simp[Addr.add],fun j hj=>?_⟩
    have hj':n+j<l.length:=by simp at hj;omega
    rw[World.cell?_of_block (a:=⟨rb,o+n+j,none⟩) hr,Nat.add_assoc,hc (n+j) hj']
    simp
def Took (w w':World) (b rb:Nat) (l:List UInt8) (sh:Bool) (n:Nat) (f:List UInt8) (e:Ending):Prop:=
 w.grownBy w' (some b) ∧
  ((n≤l.length∧sh=false∧∃ v,e=.returned v∧w'.ownsRow w.heap.size 5 1 v f.length (cellsOf f)∧CutAt w' b rb (l.drop n) false) ∨
   ((l.length<n∨sh=true)∧e=.returned (.slice none 0 0)∧CutAt w' b rb l true))
theorem took_some {w w':World} {b rb:Nat} {l:List UInt8} {n:Nat} {f:List UInt8} {v:Value} (h:w.grownBy w' (some b)) (hn:n≤l.length) (ho:w'.ownsRow w.heap.size 5 1 v f.length (cellsOf f)) (hc:CutAt w' b rb (l.drop n) false) :
  Took w w' b rb l false n f (.returned v):=⟨h,.inl ⟨hn,rfl,v,rfl,ho,hc⟩⟩
theorem took_none {w w':World} {b rb:Nat} {l:List UInt8} {sh:Bool} {n:Nat} {f:List UInt8} (h:w.grownBy w' (some b)) (hn:l.length<n∨sh=true) (hc:CutAt w' b rb l true) :
  Took w w' b rb l sh n f (.returned (.slice none 0 0)):=⟨h,.inr ⟨hn,rfl,hc⟩⟩
theorem own_setCell {w:World} {base b o:Nat} {v u:Value} {n:Nat} {xs:List Value} (h:w.ownsRow base 5 1 v n xs) (hb:b<base):(w.setCell ⟨b,o,none⟩ u).ownsRow base 5 1 v n xs:=
 ownsRow_setCell_below h hb u
theorem take_any (b rb wb:Nat) (l:List UInt8) (sh:Bool) (ws:List Int) (wd:Nat→Nat) (w:World)
  (hcut:CutAt w b rb l sh) (hnw:ws.length≤2) (hwb:wb<w.heap.size)
  (hws:∀ i (h:i<ws.length),w.cell? ⟨wb,i,none⟩=some (.int .i64 ws[i]))
  (hwd:∀ i (h:i<ws.length),wd i≤65535∧(ws[i]=wd i∨(ws[i]=-1∧(fieldOf l wd i).length≤8∧(atOf wd i≤l.length→leN (fieldOf l wd i)=wd i)))) :
  Calls Tryz.prog 141 #[.pointer (some ⟨b,0,none⟩),.slice (some ⟨wb,0,none⟩) ws.length ws.length] w fun e w'=>Took w w' b rb l sh (atOf wd ws.length) (fieldOf l wd ws.length) e:=by
 have HCUT:Hid (CutAt w b rb l sh):=hcut
 obtain⟨hne,hrb,ao,cap,hblk,hlc,hcm,hbytes⟩:=hcut
 have hbN:=lt_of_heap hblk
 obtain⟨i0,hi,hz0,hz1,hz2⟩:=info_parts Tryz.info5
 have HWS:Hid _:=hws
 have HWD:Hid _:=hwd
 have HBY:Hid _:=hbytes
 have HBK:Hid _:=hblk
 have HCM:Hid _:=hcm
 clear hws hwd hbytes hblk
 unfold maxLen at hcm
 go_enter Tryz.func141,Tryz.ntmps141
 go_wp2
 go_step3
 go_wp2
 go_step3
 go_wp2
 go_loopg [5,6,11] ws.length (fun g v a i wr=>∃ k:Nat,k+g=ws.length∧i=.int .i64 k∧a=.int .i64 (atOf wd k)∧atOf wd k≤l.length∧wr.ownsRow w.heap.size 5 1 v (fieldOf l wd k).length (cellsOf (fieldOf l wd k))∧Below w.heap.size w wr)
 case atStart=>exact⟨0,by omega,rfl,rfl,Nat.zero_le _,World.ownsRow_nil _ _ _ _,qB _ _⟩
 case round=>
  obtain⟨k,hk,rfl,rfl,hal,hown,hbel⟩:=hrel
  cases gk with
  | succ g=>
    have hlt:k<ws.length:=by omega
    have hcw:wr.cell? ⟨wb,k,none⟩=some (.int .i64 ws[k]):=(hbel.cell (p:=⟨wb,k,none⟩) hwb).trans (HWS.out k hlt)
    obtain⟨hw1,hw2⟩:=HWD.out k hlt
    obtain⟨v0,hsl,hown0,hvb⟩:=own_cut0 hown
    have hown1:wr.ownsRow w.heap.size 5 1 v0 0 (cellsOf ((l.drop (atOf wd k)).take 0)):=hown0
    have HVB:Hid _:=hvb
    clear hvb hown0
    rcases hw2 with hw2|⟨hw2,hw3,hw4⟩
    all_goals (rw[hw2] at hcw;clear hw2)
    focus go_wp2
    rotate_left
    focus
     have HN:Hid (Calls Tryz.prog 140 #[u5] wr fun e w'=>e=.returned (.int .u64 (wd k:Int))∧w'=wr):=by
      have hn:=number_any _ _ _ _ hw3 hown
      rw[hw4 hal] at hn
      exact hn
     clear hw4
     go_wp2_with fail
     refine (Calls.mono HN.out) ?_
     rintro e w2 ⟨rfl,rfl⟩
     clear HN
     go_wp2
    all_goals
     clear hcw hsl hown
     go_loopg [5,6,23] (wd k) (fun g2 v a i wq=>∃ m:Nat,m+g2=wd k∧i=.int .i64 m∧a=.int .i64 ((atOf wd k:Int)+(m:Int))∧atOf wd k+m≤l.length∧wq.ownsRow w.heap.size 5 1 v m (cellsOf ((l.drop (atOf wd k)).take m))∧Below w.heap.size w wq)
     case atStart=>exact⟨0,by omega,rfl,by go_num,hal,hown1,hbel⟩
     case round=>
      obtain⟨m,hm,rfl,rfl,ham,hownm,hbelm⟩:=hrel
      clear hown1 hbel
      have hblk1:=(hbelm.block b hbN).trans HBK.out
      obtain⟨hc0,hc1,hf0,hf1⟩:=cells_cut hblk1
      clear hblk1
      cases gk with
      | zero=>
        have hme:m=wd k:=by omega
        subst hme
        go_wp2
        go_roundg g
        case measure=>omega
        case rel=>
         have hfl:=fieldOf_length l wd k ham
         exact⟨k+1,by omega,by go_num,by simp only[atOf];go_num,ham,by rw[hfl];exact hownm,hbelm⟩
      | succ g2=>
        by_cases hend:atOf wd k+m=l.length
        ·have HSH:Hid _:=cut_short (HCUT.out.below hbelm hbN hrb)
         go_wp2
         rw[Exit.noGoto_ret]
         go_ret
         refine took_none (grown_of_below hbelm rfl (grown_setCell _ _ _ _)) (.inl ?_) HSH.out
         have h1:=atOf_mono wd (k+1) (ws.length - (k+1))
         rw[show k+1+(ws.length - (k+1))=ws.length by omega] at h1
         simp only[atOf] at h1
         omega
        ·have hlt2:atOf wd k+m<l.length:=by omega
         have hnn:¬ l=[]:=by intro e;subst e;simp at hlt2
         obtain⟨o,hao,hby⟩:=HBY.out.resolve_left hnn
         have hcb:wr.cell? ⟨rb,o+(atOf wd k+m),none⟩=some (.int .u8 (l[atOf wd k+m].toNat:Int)):=(hbelm.cell (p:=⟨rb,o+(atOf wd k+m),none⟩) hrb).trans (hby _ hlt2)
         rw[hao] at hc0
         have HT:Hid _:=take_succ_cells l (atOf wd k) m hlt2
         clear hao hby hnn
         go_wp2_with (at_builtin;refine wpList_append_own _ rfl _ _ 22 rfl w.heap.size 5 i0 (.int .u8 0) 1 1 Tryz.underlying22 hi hz0 hz1 hz2 rfl (by decide) _ _ _ rfl (hownm.alloc _) ⟨wr.heap.size,0,none⟩ 1 1 [.int .u8 (l[atOf wd k+m].toNat:Int)] rfl rfl (cell_one_new _ _ _) (fun x hx=>by simp at hx;subst hx;rfl) (by unfold maxLen;omega) (by omega) (by have:=hbelm.size;simp;omega) ?_)
         intro v' w3 hown' hgrow _
         rw[← HT.out] at hown'
         have hbel3:Below w.heap.size w w3:=(hbelm.alloc hbelm.size _).grown hgrow (by have:=hbelm.size;simp;omega) (fun q hq=>(hownm.lt q hq).1)
         clear hgrow hownm HT hcb hc0 hc1 hf0 hf1
         go_wp2
         go_roundg g2
         case measure=>omega
         case rel=>exact⟨m+1,by omega,by go_num,by go_num,by omega,hown',hbel3⟩
  | zero=>
    have hke:k=ws.length:=by omega
    subst hke
    have hblk1:=(hbel.block b hbN).trans HBK.out
    obtain⟨hc0,hc1,hf0,hf1⟩:=cells_cut hblk1
    have HB1:Hid _:=hblk1
    clear hblk1
    cases sh with
    | true=>
      go_wp2
      rw[Exit.noGoto_ret]
      go_ret
      exact took_none (grown_of_below hbel rfl ⟨rfl,rfl,rfl,Nat.le_refl _,fun _ _ _=>rfl⟩) (.inr rfl) (HCUT.out.below hbel hbN hrb)
    | false=>
      have HBY1:Hid (l=[]∨∃ o,ao=some ⟨rb,o,none⟩∧∀ j (h:j<l.length),wr.cell? ⟨rb,o+j,none⟩=some (.int .u8 (l[j].toNat:Int))):=by
       rcases HBY.out with h|⟨o,ho,hc⟩
       ·exact .inl h
       ·exact .inr ⟨o,ho,fun j hj=>(hbel.cell (p:=⟨rb,o+j,none⟩) hrb).trans (hc j hj)⟩
      have hszr:=hbel.size
      by_cases hce:cap=atOf wd ws.length
      all_goals
       go_wp2
       rw[Exit.noGoto_ret]
       go_ret
       refine took_some (grown_of_below hbel rfl (grown_setCell _ _ _ _)) hal (own_setCell hown hbN) (cut_taken hal hne (by omega) HB1.out hlc HCM.out HBY1.out _ _ (by omega) (fun h=>?_))
       first|rfl|exact absurd hce h
end
section
open Go.RowKit
def numOk (l:List UInt8) (sh:Bool):Bool:=!sh&&decide (8≤l.length)
def numV (l:List UInt8) (sh:Bool):Nat:=if numOk l sh then leN (l.take 8) else 0
def numL (l:List UInt8) (sh:Bool):List UInt8:=if numOk l sh then l.drop 8 else l
def textN (l:List UInt8):Nat:=leN (l.take 2)
def textOk (l:List UInt8) (sh:Bool):Bool:=!sh&&decide (2+textN l≤l.length)
def textV (l:List UInt8) (sh:Bool):List UInt8:=if textOk l sh then (l.drop 2).take (textN l) else []
def textL (l:List UInt8) (sh:Bool):List UInt8:=if textOk l sh then l.drop (2+textN l) else l
theorem conv_any {w:World} {base:Nat} {v:Value} {l:List UInt8} (h:w.ownsRow base 5 1 v l.length (cellsOf l)) :
  (convert 22 9 v).run Tryz.prog w=.ok (.string ⟨l.toArray⟩) w:=by
 rcases h.2 with ⟨rfl,h0⟩|⟨g,cap,cur,rfl,_⟩
 ·have:l=[]:=List.eq_nil_of_length_eq_zero h0
  subst this
  exact run_convert_bytes_nil w 22 5 Tryz.underlying22 Tryz.underlying5 0 0 9 Tryz.underlying9
 ·exact conv_own h
theorem leN_two_le (l:List UInt8):textN l≤65535:=by
 have h:=leN_lt (l.take 2)
 have hl:(l.take 2).length≤2:=List.length_take_le _ _
 have hp:256 ^ (l.take 2).length≤256 ^ 2:=Nat.pow_le_pow_right (by omega) hl
 unfold textN
 omega
theorem CutAt.alloc {w:World} {b rb:Nat} {l:List UInt8} {sh:Bool} (h:CutAt w b rb l sh) (o:Obj):CutAt (w.alloc o) b rb l sh:=
 h.below ((qB w.heap.size w).alloc qL o) h.lt h.2.1
theorem grown_alloc {w w':World} {b:Nat} {o:Obj} (g:(w.alloc o).grownBy w' (some b)):w.grownBy w' (some b):=
 grown_of_below ((qB w.heap.size w).alloc qL o) rfl g
theorem take8 (b rb:Nat) (l:List UInt8) (sh:Bool) (w:World) (hcut:CutAt w b rb l sh) :
  Calls Tryz.prog 141 #[.pointer (some ⟨b,0,none⟩),.slice (some ⟨w.heap.size,0,none⟩) 1 1] (w.alloc (.cells #[.int .i64 8] 3)) fun e w'=>
   Took (w.alloc (.cells #[.int .i64 8] 3)) w' b rb l sh 8 (l.take 8) e:=
 take_any b rb w.heap.size l sh [8] (fun _=>8) _ (hcut.alloc _) (by simp) (by simp)
  (fun i h=>by have:i=0:=by simpa using h
               subst this;simp)
  (fun i h=>by have:i=0:=by simpa using h
               subst this;simp)
theorem takeT (b rb:Nat) (l:List UInt8) (sh:Bool) (w:World) (hcut:CutAt w b rb l sh) :
  Calls Tryz.prog 141 #[.pointer (some ⟨b,0,none⟩),.slice (some ⟨w.heap.size,0,none⟩) 2 2] (w.alloc (.cells #[.int .i64 2,.int .i64 (-1)] 3)) fun e w'=>
   Took (w.alloc (.cells #[.int .i64 2,.int .i64 (-1)] 3)) w' b rb l sh (2+textN l) ((l.drop 2).take (textN l)) e:=by
 have h:=take_any b rb w.heap.size l sh [2,-1] (fun i=>if i=0 then 2 else textN l) (w.alloc (.cells #[.int .i64 2,.int .i64 (-1)] 3)) (hcut.alloc _) (by simp) (by simp)
  (fun i h=>by
   have:i=0∨i=1:=by simp at h;omega
   rcases this with rfl|rfl<;>simp)
  (fun i h=>by
   have:i=0∨i=1:=by simp at h;omega
   rcases this with rfl|rfl
   ·exact⟨by simp,.inl rfl⟩
   ·exact⟨leN_two_le l,.inr ⟨rfl,by simp[fieldOf];omega,fun _=>rfl⟩⟩)
 exact h
theorem cutNum_any (b rb:Nat) (l:List UInt8) (sh:Bool) (w:World) (hcut:CutAt w b rb l sh) :
  Calls Tryz.prog 127 #[.pointer (some ⟨b,0,none⟩)] w fun e w'=>e=.returned (.int .u64 (numV l sh))∧CutAt w' b rb (numL l sh) (!numOk l sh)∧w.grownBy w' (some b):=by
 have HT:Hid _:=take8 b rb l sh w hcut
 clear hcut
 go_enter Tryz.func127,Tryz.ntmps127
 go_wp2_with fail
 refine Calls.mono HT.out ?_
 clear HT
 rintro e w1 ⟨hg,⟨hn,rfl,v,rfl,ho,hc⟩|⟨hn,rfl,hc⟩⟩
 ·have hok:numOk l false=true:=by simp[numOk,hn]
  have H1:Hid _:=hg
  have H2:Hid _:=hc
  have H3:Hid _:=number_any _ _ _ _ (List.length_take_le _ _) ho
  clear hg hc ho
  have H4:Hid _:=hok
  clear hok
  go_wp2_with fail
  refine Calls.mono H3.out ?_
  rintro e w2 ⟨rfl,rfl⟩
  go_wp2
  go_ret
  exact⟨by simp[numV,H4.out],by simp[numL,H4.out];exact H2.out,grown_alloc H1.out⟩
 ·have hok:numOk l sh=false:=by
   rcases hn with h|h
   ·simp[numOk];omega
   ·simp[numOk,h]
  have H1:Hid _:=hg
  have H2:Hid _:=hc
  have H4:Hid _:=hok
  clear hg hc hok hn
  go_wp2_with fail
  refine Calls.mono (number_none _ _ _) ?_
  rintro e w2 ⟨rfl,rfl⟩
  go_wp2
  go_ret
  exact⟨by simp[numV,H4.out],by simp[numL,H4.out];exact H2.out,grown_alloc H1.out⟩
theorem cutText_any (b rb:Nat) (l:List UInt8) (sh:Bool) (w:World) (hcut:CutAt w b rb l sh) :
  Calls Tryz.prog 131 #[.pointer (some ⟨b,0,none⟩)] w fun e w'=>e=.returned (.string ⟨(textV l sh).toArray⟩)∧CutAt w' b rb (textL l sh) (!textOk l sh)∧w.grownBy w' (some b):=by
 have HT:Hid _:=takeT b rb l sh w hcut
 clear hcut
 go_enter Tryz.func131,Tryz.ntmps131
 go_wp2_with fail
 refine Calls.mono HT.out ?_
 clear HT
 rintro e w1 ⟨hg,⟨hn,rfl,v,rfl,ho,hc⟩|⟨hn,rfl,hc⟩⟩
 ·have hok:textOk l false=true:=by simp[textOk,hn]
  have H1:Hid _:=hg
  have H2:Hid _:=hc
  have h3:=conv_any ho
  clear hg hc ho
  have H4:Hid _:=hok
  clear hok
  go_wp2
  go_ret
  exact⟨by simp[textV,H4.out],by simp[textL,H4.out];exact H2.out,grown_alloc H1.out⟩
 ·have hok:textOk l sh=false:=by
   rcases hn with h|h
   ·simp[textOk];omega
   ·simp[textOk,h]
  have H1:Hid _:=hg
  have H2:Hid _:=hc
  have H4:Hid _:=hok
  have h3:=run_convert_bytes_nil (P:=Tryz.prog) w1 22 5 Tryz.underlying22 Tryz.underlying5 0 0 9 Tryz.underlying9
  clear hg hc hok hn
  go_wp2
  go_ret
  exact⟨by simp[textV,H4.out];rfl,by simp[textL,H4.out];exact H2.out,grown_alloc H1.out⟩
end
section
open Go.RowKit
theorem Tryz.callComparable (w:World):(callFunc 198 #[.agg #[.pointer (some ⟨1,62,none⟩)]]).run Tryz.prog w=.ok (.value (.bool true)) w:=by kernel_rfl
theorem Tryz.methodComparable (v : Value) (w : World) : (Go.method 366 139 v "Comparable").run Tryz.prog w = .ok (198, v) w := by kernel_rfl
end
section
open Go.RowKit
def sumN (l:List UInt8):Nat:=l.foldl (fun h b=>(h*33+b.toNat) % 18446744073709551616) 5381
theorem sumN_snoc (l:List UInt8) (b:UInt8):sumN (l++[b])=(sumN l*33+b.toNat) % 18446744073709551616:=by simp[sumN,List.foldl_append]
theorem wrap_sum (a b:Nat):IntKind.u64.wrap (IntKind.u64.wrap ((a:Int)*33)+IntKind.u64.wrap (b:Int))=(((a*33+b) % 18446744073709551616:Nat):Int):=by
 simp only[IntKind.wrap_u64]
 omega
theorem sum_any (s:ByteArray) (w:World) (hs:s.size≤maxLen) :
  Calls Tryz.prog 139 #[.string s] w fun e w'=>e=.returned (.int .u64 (sumN s.data.toList))∧w'=w:=by
 unfold maxLen at hs
 go_enter Tryz.func139,Tryz.ntmps139
 go_wp2
 go_loop [3,7] (fun a i=>∃ j:Nat,j≤s.size∧i=.int .i64 j∧a=.int .u64 (sumN (s.data.toList.take j))) (fun _ i=>s.size - (intOf i).toNat)
 case atStart=>exact⟨0,Nat.zero_le _,rfl,rfl⟩
 case round=>
  obtain⟨j,hj,rfl,rfl⟩:=hrel
  by_cases hlt:j<s.size
  ·have HS:Hid (sumN (s.data.toList.take (j+1))=(sumN (s.data.toList.take j)*33+s[j].toNat) % 18446744073709551616):=by
    rw[List.take_succ_eq_append_getElem (by simpa using hlt)];exact sumN_snoc _ _
   go_wp2
   go_roundw
   case rel=>exact⟨j+1,by omega,by go_num,by rw[HS.out,wrap_sum]⟩
   case measure=>simp[intOf];omega
  ·go_wp2
   go_ret
   exact⟨ret_int (by rw[List.take_of_length_le (by simp;omega)]),rfl⟩
end
section
open Go.RowKit
theorem lowB_succ (n:Int) (k:Nat):lowB n (k+1)=lowB n k++[UInt8.ofNat (byteAt n k).toNat]:=by simp[lowB,List.range_succ]
theorem byteAt_nat (N j:Nat):byteAt (N:Int) j=((N / 256 ^ j % 256:Nat):Int):=by
 unfold byteAt
 rw[show ((2:Int) ^ (8*j))=((256 ^ j:Nat):Int) by rw[← two_pow_eight];simp]
 omega
theorem leN_lowB (N:Nat):∀ k,leN (lowB (N:Int) k)=N % 256 ^ k
 | 0=>by simp[lowB,leN,Nat.mod_one]
 | k+1=>by
   rw[lowB_succ,leN_snoc,leN_lowB N k,lowB_length,byteAt_nat,Nat.pow_succ,Nat.mod_mul,Int.toNat_natCast,UInt8.toNat_ofNat',Nat.mod_mod,Nat.mul_comm (256 ^ k)]
theorem extract_list (s:ByteArray) (k:Nat):(s.extract 0 k).data.toList=s.data.toList.take k:=by simp[ByteArray.extract,ByteArray.copySlice]
theorem num_there (n:Int) (h0:0≤n) (h1:n<18446744073709551616) (r:List UInt8):numV (lowB n 8++r) false=n.toNat∧numL (lowB n 8++r) false=r∧(!numOk (lowB n 8++r) false)=false:=by
 obtain⟨N,rfl⟩:=Int.eq_ofNat_of_zero_le h0
 have hl:=lowB_length (N:Int) 8
 have hok:numOk (lowB (N:Int) 8++r) false=true:=by simp[numOk,hl]
 have e:leN (lowB (N:Int) 8)=N:=by rw[leN_lowB];exact Nat.mod_eq_of_lt (by omega)
 refine⟨?_,?_,by simp[hok]⟩
 ·simp only[numV,hok,if_true]
  rw[List.take_left' hl,e]
  rfl
 ·simp only[numL,hok,if_true]
  exact List.drop_left' hl
theorem text_there (f r:List UInt8) (h:f.length≤65535):textV (lowB f.length 2++(f++r)) false=f∧textL (lowB f.length 2++(f++r)) false=r∧(!textOk (lowB f.length 2++(f++r)) false)=false:=by
 have hl:=lowB_length (f.length:Int) 2
 have e:textN (lowB f.length 2++(f++r))=f.length:=by
  unfold textN
  rw[List.take_left' hl,leN_lowB]
  exact Nat.mod_eq_of_lt (by omega)
 have hok:textOk (lowB f.length 2++(f++r)) false=true:=by simp[textOk,e,hl]
 refine⟨?_,?_,by simp[hok]⟩
 ·simp only[textV,hok,if_true,e]
  rw[List.drop_left' hl,List.take_left' rfl]
 ·simp only[textL,hok,if_true,e]
  rw[← List.append_assoc]
  exact List.drop_left' (by simp[hl])
end
end Go.Proofs.YtbghhklbfnplbaaGreat

import Derived.Deep.QuietTactic
import Derived.BigQuiet
import Derived.Test.YtbghhklbfnplbaaGreatC00
import Derived.Test.YtbghhklbfnplbaaGreatC03
set_option maxHeartbeats 1000000
set_option maxRecDepth 100000
namespace Go.Proofs.YtbghhklbfnplbaaGreat
section
open Go.RowKit
def RefAt (w:World) (b:Nat) (l:List UInt8) (sh:Bool):Prop:=
 w.heap[b]?=some (.cells #[.string ⟨l.toArray⟩,.bool sh] 192 (0,0))
theorem cells_ref {w:World} {b:Nat} {x y:Value} (h:w.heap[b]?=some (.cells #[x,y] 192 (0,0))) :
  w.cell? ⟨b,0,none⟩=some x∧w.cell? ⟨b,1,none⟩=some y∧w.frozen? ⟨b,0,none⟩=false∧w.frozen? ⟨b,1,none⟩=false:=by
 refine⟨?_,?_,?_,?_⟩<;>simp[World.cell?,World.frozen?,h]
theorem ref_taken {w:World} {b:Nat} {l l':List UInt8} {sh:Bool} (h:RefAt w b l sh):RefAt (w.setCell ⟨b,0,none⟩ (.string ⟨l'.toArray⟩)) b l' sh:=by
 unfold RefAt at *
 rw[heap_setCell_same w b 0 _ _ _ h]
 rfl
theorem arr_size (l:List UInt8):(⟨l.toArray⟩:ByteArray).size=l.length:=by simp[ByteArray.size]
theorem arr_take (l:List UInt8) (n:Nat):(⟨l.toArray⟩:ByteArray).extract 0 n=⟨(l.take n).toArray⟩:=by
 apply ByteArray.ext
 apply Array.toList_inj.1
 rw[extract_list]
theorem arr_drop (l:List UInt8) (n k:Nat) (h:l.length≤k):(⟨l.toArray⟩:ByteArray).extract n k=⟨(l.drop n).toArray⟩:=by
 apply ByteArray.ext
 apply Array.toList_inj.1
 rw[ByteArray.data_extract]
 simp
 exact List.take_of_length_le (by simp;omega)
theorem refTake_ok (b n:Nat) (l:List UInt8) (w:World) (h:RefAt w b l false) (hn:n≤l.length) (_hm:l.length≤maxLen) :
  Calls Tryz.prog 120 #[.pointer (some ⟨b,0,none⟩),.int .i64 n] w fun e w'=>e=.returned (.string ⟨(l.take n).toArray⟩)∧RefAt w' b (l.drop n) false∧w.grownBy w' (some b):=by
 have hz:=arr_size l
 obtain⟨hc0,hc1,hf0,hf1⟩:=cells_ref h
 have H:Hid _:=h
 clear h
 unfold maxLen at _hm
 go_enter Tryz.func120,Tryz.ntmps120
 go_wp2
 go_ret
 exact⟨ret_str (arr_take l n),by rw[arr_drop l n l.length qL];exact ref_taken H.out,grown_setCell _ _ _ _⟩
end
section
open Go.RowKit
end
section
open Go.RowKit
theorem refNumS_any (n:Int) (w:World) (_hn0:0≤n) (_hn:n<18446744073709551616) :
  Calls Tryz.prog 45 #[.int .u64 n] w fun e w'=>e=.returned (.string (lowS n 8))∧Below w.heap.size w w':=by
 obtain⟨i0,hi,hz0,hz1,hz2⟩:=info_parts Tryz.info5
 go_enter Tryz.func45,Tryz.ntmps45
 go_wp2_with (first
  | (at_make;refine wpList_make_full _ rfl _ _ 22 rfl w.heap.size 5 i0 (.int .u8 0) 1 Tryz.underlying22 hi hz0 hz1 .i64 .i64 _ _ 8 rfl rfl rfl rfl (by rw[hz2];omega) (by unfold maxLen;omega) qL ?_)
  | fail)
 intro w1 hown hg
 have hown0:w1.ownsRow w.heap.size 5 1 (Value.slice (some { block:=w.heap.size,off:=0 }) 8 8) 8 (lowRow n 8 0):=by
  rw[lowRow_zero,← toList_madeCells_one];exact hown
 have hb1:Below w.heap.size w w1:=(qB _ w).grown hg qL (by simp)
 clear hown hg
 go_wp2
 go_loopw [4] (fun i wr=>∃ j:Nat,j≤8∧i=.int .i64 j∧wr.ownsRow w.heap.size 5 1 (Value.slice (some { block:=w.heap.size,off:=0 }) 8 8) 8 (lowRow n 8 j)∧Below w.heap.size w wr) (fun i _=>8 - (intOf i).toNat)
 case atStart=>exact⟨0,Nat.zero_le _,rfl,hown0,hb1⟩
 case round=>
  obtain⟨j,hj,rfl,hown,hb⟩:=hrel
  by_cases hlt:j<8
  ·have hfz:=hown.frozenAt j
   have hce:wr.cell? ⟨w.heap.size,j,none⟩=some (.int .u8 0):=by rw[hown.cellAt j (by omega)];exact lowRow_at n 8 j hlt
   have HS:=hown.stored j (.int .u8 (n / 2 ^ (8*j) % 256))
   rw[lowRow_set] at HS
   have H1:Hid _:=HS.1
   clear HS hown
   go_wp2
   go_roundw
   case rel=>exact⟨j+1,by omega,by go_num,H1.out,hb.setCell qL _⟩
   case measure=>simp[intOf];omega
  ·have ej:j=8:=by omega
   subst ej
   rw[lowRow_full] at hown
   have hcv:=conv_own hown
   clear hown
   go_wp2
   go_ret
   exact⟨rfl,hb⟩
theorem refSum_any (s:ByteArray) (w:World) (hs:s.size≤maxLen) :
  Calls Tryz.prog 47 #[.string s] w fun e w'=>e=.returned (.int .u64 (sumN s.data.toList))∧w'=w:=by
 unfold maxLen at hs
 go_enter Tryz.func47,Tryz.ntmps47
 go_wp2
 go_loop [3,4] (fun a i=>∃ j:Nat,j≤s.size∧i=.int .i64 j∧a=.int .u64 (sumN (s.data.toList.take j))) (fun _ i=>s.size - (intOf i).toNat)
 case atStart=>exact⟨0,Nat.zero_le _,rfl,rfl⟩
 case round=>
  obtain⟨j,hj,rfl,rfl⟩:=hrel
  by_cases hlt:j<s.size
  ·have HS:Hid (sumN (s.data.toList.take (j+1))=(sumN (s.data.toList.take j)*33+s[j].toNat) % 18446744073709551616):=by
    rw[List.take_succ_eq_append_getElem (by simpa using hlt)];exact sumN_snoc _ _
   go_wp2
   go_roundw
   case rel=>exact⟨j+1,by omega,by go_num,by rw[HS.out,wrap_sum]⟩
   case measure=>simp[intOf];omega
  ·go_wp2
   go_ret
   exact⟨ret_int (by rw[List.take_of_length_le (by simp;omega)]),rfl⟩
theorem conv_two (w:World) (a b n:Int) (ha:a=byteAt n 0) (hb:b=byteAt n 1) :
  (convert 22 9 (.slice (some ⟨w.heap.size,0,none⟩) 2 2)).run Tryz.prog (w.alloc (.cells #[.int .u8 a,.int .u8 b] 5)).drew=.ok (.string (lowS n 2)) (w.alloc (.cells #[.int .u8 a,.int .u8 b] 5)).drew:=by
 rw[run_convert_bytes_arg (P:=Tryz.prog) _ 22 5 Tryz.underlying22 Tryz.underlying5 w.heap.size 0 2 2 [a,b] rfl (fun i hi=>?_) 9 Tryz.underlying9]
 ·subst ha hb
  rfl
 ·have:i=0∨i=1:=by omega
  rcases this with rfl|rfl<;>simp
theorem refTextS_short (s:ByteArray) (w:World) (_hs:s.size≤65535) :
  Calls Tryz.prog 43 #[.string s] w fun e w'=>e=.returned (.string (lowS s.size 2++s))∧Below w.heap.size w w':=by
 have hz:=lowS_size
 have hcv:=conv_two w ((s.size:Int) % 256) ((s.size:Int) / 256) s.size (by simp[byteAt]) (by simp[byteAt];omega)
 go_enter Tryz.func43,Tryz.ntmps43
 go_wp2
 go_region
 all_goals (go_wp2;go_ret;exact⟨rfl,Below.drew ((qB _ _).alloc qL _)⟩)
end
end Go.Proofs.YtbghhklbfnplbaaGreat

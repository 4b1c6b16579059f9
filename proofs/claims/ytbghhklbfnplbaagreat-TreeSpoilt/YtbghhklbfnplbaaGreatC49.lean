import Derived.Test.YtbghhklbfnplbaaGreatC00
import Derived.Test.YtbghhklbfnplbaaGreatC48
namespace Go.Proofs.YtbghhklbfnplbaaGreat
section
open Go.RowKit Go.Sort Go.Conc
open H (Up up_ext mergeL dropL Fit RunI RunIs OwnInts RowAt)
theorem bytesD_small (p:PageD) (ht:TxnOk p):(bs (bytesD p)).size≤100000000000:=by
 rw[bs_size]
 unfold bytesD
 split
 ·rename_i hi
  have:=partD_le p (partOk_of_is hi ht)
  simp only[qO,lowB_length,bodyD,numB_length]
  omega
 ·simp
section
variable {w:World} {sb mb fb:Nat} {s:StD} {vf va:Value}
end
end
section
open Go.RowKit Go.Sort Go.Conc
theorem eqE (e:Int) (w:World):(binOp .eql 38 (.iface 62 (.int .i64 e)) .nilIface).run Tryz.prog w=.ok (.bool false) w:=by simp[go_sem,Tryz.underlying38]
end
section
open Go.RowKit Go.Sort Go.Conc
open H (Up up_ext mergeL dropL Fit RunI RunIs OwnInts RowAt)
structure Sf (w X:World) (sb mb fb:Nat) (s:StD) (L:List F.Sh):Prop where
 st:∃ vf va,StoreAt X sb mb fb s vf va
 file:∃ fv,F.FileAt X w.heap.size fb fv L
 bel:Below w.heap.size w X
 lo:w.heap.size≤sb∧w.heap.size≤mb
section
variable {w X Y:World} {sb mb fb:Nat} {s s':StD} {L:List F.Sh}
theorem Sf.below (h:Sf w X sb mb fb s L) (hb:Below X.heap.size X Y):Sf w Y sb mb fb s L:=by
 obtain⟨vf,va,h1⟩:=h.st
 obtain⟨fv,h2⟩:=h.file
 exact⟨⟨vf,va,h1.below hb⟩,⟨fv,h2.below hb⟩,h.bel.trans (hb.mono h.bel.size),h.lo⟩
theorem read_sf (h:Sf w X sb mb fb s L) (hL:ShOk L) (x:Int) (hx:InI x) :
  Calls Tryz.prog 80 #[.pointer (some ⟨sb,0,none⟩),.int .i64 x] X fun e Y=>∃ vi vk vd vv vg,e=.returned (.tuple #[.agg (pageCells (readS s L x).1 vi vk vd vv vg).toArray,errV (readS s L x).2])∧(∀ W,Agree X.heap.size Y W→Hangs W (readS s L x).1 vi vk vd vv vg)∧Sf w Y sb mb fb s L∧Below X.heap.size X Y:=by
 obtain⟨vf,va,h1⟩:=h.st
 obtain⟨fv,hf⟩:=h.file
 refine (read_st h1 hf hL x hx).mono ?_
 rintro e Y ⟨vi,vk,vd,vv,vg,rfl,h2,h3⟩
 exact⟨vi,vk,vd,vv,vg,rfl,h2,h.below h3,h3⟩
theorem new_sf (fb:Nat) (last most:Int) (l:List Int) (ao:Option Addr) (cap n:Nat) (hn:n=l.length) {fv:Value} (hX:Below w.heap.size w X) (hf:F.FileAt X w.heap.size fb fv L) (h:RowAt X ao cap l) (hl:l.length≤1000) :
  Calls Tryz.prog 8 #[.pointer (some ⟨fb,0,none⟩),.int .i64 last,.int .i64 most,.slice ao n cap] X fun r Y=>∃ sb mb,r=.returned (.pointer (some ⟨sb,0,none⟩))∧Sf w Y sb mb fb (newD last most l) L:=by
 subst hn
 refine (snew_any fb last most l ao cap X h hl).mono ?_
 rintro e Y ⟨sb,mb,va,rfl,h1,h2,h3,h4⟩
 have:=hX.size
 exact⟨sb,mb,rfl,⟨_,va,h1⟩,⟨fv,hf.below h4⟩,hX.trans (h4.mono this),by omega,by omega⟩
end
end
end Go.Proofs.YtbghhklbfnplbaaGreat

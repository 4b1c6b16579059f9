import Derived.Deep.LoopGhost
import Derived.Deep.RegionHeld3
import Derived.Deep.AppendLies
import Derived.Test.YtbghhklbfnplbaaGreatC00
import Derived.Test.YtbghhklbfnplbaaGreatC08
import Derived.Test.YtbghhklbfnplbaaGreatC03
set_option maxHeartbeats 4000000
namespace Go.Proofs.YtbghhklbfnplbaaGreat
section
open Go.RowKit Go.Sort
abbrev St:=List UInt8 × Bool
def nS (s:St):St:=(numL s.1 s.2,!numOk s.1 s.2)
def nV (s:St):Nat:=numV s.1 s.2
def tS (s:St):St:=(textL s.1 s.2,!textOk s.1 s.2)
def tV (s:St):ByteArray:=bs (textV s.1 s.2)
def iV (s:St):Int:=wrap64 (nV s)
def AtSt (w:World) (b rb:Nat) (s:St):Prop:=CutAt w b rb s.1 s.2
theorem AtSt.lt {w:World} {b rb:Nat} {s:St} (h:AtSt w b rb s):b<w.heap.size:=CutAt.lt h
theorem AtSt.below {w w':World} {b rb:Nat} {s:St} (h:AtSt w b rb s) (hb:Below w.heap.size w w'):AtSt w' b rb s:=CutAt.below h hb (CutAt.lt h) h.2.1
theorem AtSt.alloc {w:World} {b rb:Nat} {s:St} (h:AtSt w b rb s) (o:Obj):AtSt (w.alloc o) b rb s:=CutAt.alloc h o
theorem AtSt.grown {w w':World} {b rb:Nat} {s:St} {row:Option Nat} (h:AtSt w b rb s) (hg:w.grownBy w' row) (h1:row≠some b) (h2:row≠some rb):AtSt w' b rb s:=
 CutAt.kept h (hg.block b h.lt (fun e=>h1 e.symm)) (hg.block rb h.2.1 (fun e=>h2 e.symm)) hg.size
theorem AtSt.set {w:World} {b rb:Nat} {s:St} {p:Nat} (h:AtSt w b rb s) (h1:p≠b) (h2:p≠rb) (o:Nat) (u:Value):AtSt (w.setCell ⟨p,o,none⟩ u) b rb s:=
 h.grown (grown_setCell w p o u) (by simpa using h1) (by simpa using h2)
theorem nV_lt (s:St):nV s<18446744073709551616:=by
 unfold nV numV
 split
 ·have h:=leN_lt (s.1.take 8)
  have hl:(s.1.take 8).length≤8:=List.length_take_le _ _
  have hp:256 ^ (s.1.take 8).length≤256 ^ 8:=Nat.pow_le_pow_right (by omega) hl
  omega
 ·omega
theorem grown_refl (w:World) (row:Option Nat):w.grownBy w row:=⟨rfl,rfl,rfl,Nat.le_refl _,fun _ _ _=>rfl⟩
theorem grown_trans {w w1 w2:World} {b:Nat} (h:w.grownBy w1 (some b)) (g:w1.grownBy w2 (some b)):w.grownBy w2 (some b):=
 ⟨g.os.trans h.os,g.tape.trans h.tape,g.output.trans h.output,qN h.size g.size,fun k hk hne=>(g.block k (qM hk h.size) hne).trans (h.block k hk hne)⟩
theorem grown_step {w w1 w2:World} {b:Nat} {row:Option Nat} (h:w.grownBy w1 (some b)) (g:w1.grownBy w2 row) (hr:∀ k,row=some k→w.heap.size≤k):w.grownBy w2 (some b):=
 ⟨g.os.trans h.os,g.tape.trans h.tape,g.output.trans h.output,qN h.size g.size,fun k hk hne=>(g.block k (qM hk h.size) (fun e=>by have:=hr k e.symm;omega)).trans (h.block k hk hne)⟩
theorem grown_new {w w1:World} {b:Nat} (h:w.grownBy w1 (some b)) (o:Obj):w.grownBy (w1.alloc o) (some b):=
 grown_step h ⟨rfl,rfl,rfl,by simp,fun k hk _=>qE _ _ _ hk⟩ (row:=none) (by simp)
theorem grown_set {w w1:World} {b:Nat} (h:w.grownBy w1 (some b)) (p o:Nat) (hp:w.heap.size≤p) (u:Value):w.grownBy (w1.setCell ⟨p,o,none⟩ u) (some b):=
 grown_step h (grown_setCell w1 p o u) (fun k hk=>by cases hk;exact hp)
theorem grown_below {w w1 w2:World} {b:Nat} (h:w.grownBy w1 (some b)) (hb:Below w1.heap.size w1 w2):w.grownBy w2 (some b):=
 ⟨hb.os.trans h.os,hb.tape.trans h.tape,hb.output.trans h.output,qN h.size hb.size,fun k hk hne=>(hb.block k (qM hk h.size)).trans (h.block k hk hne)⟩
theorem cnum_any (b rb:Nat) (s:St) (w:World) (h:AtSt w b rb s) :
  Calls Tryz.prog 127 #[.pointer (some ⟨b,0,none⟩)] w fun e w'=>e=.returned (.int .u64 (nV s))∧AtSt w' b rb (nS s)∧w.grownBy w' (some b):=cutNum_any b rb s.1 s.2 w h
theorem ctext_any (b rb:Nat) (s:St) (w:World) (h:AtSt w b rb s) :
  Calls Tryz.prog 131 #[.pointer (some ⟨b,0,none⟩)] w fun e w'=>e=.returned (.string (tV s))∧AtSt w' b rb (tS s)∧w.grownBy w' (some b):=cutText_any b rb s.1 s.2 w h
theorem takeNum_any (b rb:Nat) (s:St) (w:World) (h:AtSt w b rb s) :
  Calls Tryz.prog 128 #[.pointer (some ⟨b,0,none⟩)] w fun e w'=>e=.returned (.int .i64 (iV s))∧AtSt w' b rb (nS s)∧w.grownBy w' (some b):=by
 have H:=hid h
 clear h
 go_enter Tryz.func128,Tryz.ntmps128
 go_wp2_with (go_at_call 127;refine (cnum_any b rb s _ H.out).mono ?_;rintro e w' ⟨rfl,hc,hg⟩)
 go_ret
 exact⟨rfl,hc,hg⟩
theorem takeCount_any (b rb:Nat) (s:St) (most:Nat) (w:World) (h:AtSt w b rb s) (hm:most≤1000) :
  Calls Tryz.prog 129 #[.pointer (some ⟨b,0,none⟩),.int .i64 most] w fun e w'=>e=.returned (.int .i64 (min (nV s) most:Nat))∧AtSt w' b rb (nS s)∧w.grownBy w' (some b):=by
 have H:=hid h
 clear h
 have hlt:=nV_lt s
 go_enter Tryz.func129,Tryz.ntmps129
 go_wp2_with (go_at_call 127;refine (cnum_any b rb s _ H.out).mono ?_;rintro e w' ⟨rfl,hc,hg⟩)
 go_ret
 refine⟨ret_int ?_,hc,hg⟩
 go_num
def rootV (s:St):RootD:=⟨iV s,iV (nS s),iV (nS (nS s))⟩
def rootS (s:St):St:=nS (nS (nS s))
theorem takeRoot_any (b rb:Nat) (s:St) (w:World) (h:AtSt w b rb s) :
  Calls Tryz.prog 134 #[.pointer (some ⟨b,0,none⟩)] w fun e w'=>e=.returned (.agg #[.int .i64 (rootV s).page,.int .i64 (rootV s).count,.int .i64 (rootV s).flags])∧AtSt w' b rb (rootS s)∧w.grownBy w' (some b):=by
 have H:=hid (h.alloc (.cells #[.int .i64 0,.int .i64 0,.int .i64 0] 43))
 have hlt:=h.lt
 have hlr:=h.2.1
 have HG:=hid (grown_new (grown_refl w (some b)) (.cells #[.int .i64 0,.int .i64 0,.int .i64 0] 43))
 clear h
 go_enter Tryz.func134,Tryz.ntmps134
 go_wp2_with fail
 refine (takeNum_any b rb s _ H.out).mono ?_
 rintro e w1 ⟨rfl,hc1,hg1⟩
 have HC1:=hid hc1
 have hbk1:w1.heap[w.heap.size]?=some (.cells #[.int .i64 0,.int .i64 0,.int .i64 0] 43 (0,0)):=(hg1.block w.heap.size (by simp) (by simp;omega)).trans (heap_newL w _)
 have HG1:=hid (grown_trans HG.out hg1)
 clear hc1 hg1 H HG
 go_wp2_with fail
 refine (takeNum_any b rb _ _ HC1.out).mono ?_
 rintro e w2 ⟨rfl,hc2,hg2⟩
 have HC2:=hid hc2
 have hbk2:=(hg2.block w.heap.size (by have:=(qA hbk1);omega) (by simp;omega)).trans hbk1
 have HG2:=hid (grown_trans HG1.out hg2)
 clear hc2 hg2 HC1 HG1 hbk1
 go_wp2_with fail
 refine (takeNum_any b rb _ _ HC2.out).mono ?_
 rintro e w3 ⟨rfl,hc3,hg3⟩
 have HC3:=hid hc3
 have hbk3:=(hg3.block w.heap.size (by have:=(qA hbk2);omega) (by simp;omega)).trans hbk2
 have HG3:=hid (grown_trans HG2.out hg3)
 clear hc3 hg3 HC2 HG2 hbk2
 have f0:∀ j,w3.frozen? ⟨w.heap.size,j,none⟩=false:=fun j=>by simp[World.frozen?,hbk3]
 have c0:w3.cell? ⟨w.heap.size,0,none⟩=some (.int .i64 0):=by rw[cell_rowL hbk3];rfl
 have c1:w3.cell? ⟨w.heap.size,1,none⟩=some (.int .i64 0):=by rw[cell_rowL hbk3];rfl
 have c2:w3.cell? ⟨w.heap.size,2,none⟩=some (.int .i64 0):=by rw[cell_rowL hbk3];rfl
 clear hbk3
 go_wp2
 refine bodyPost_ret (v:=.agg #[.int .i64 (iV s),.int .i64 (iV (nS s)),.int .i64 (iV (nS (nS s)))]) (by simp[results,Tryz.results134,go_sem,c0,c1,c2]) rfl ⟨rfl,?_,?_⟩
 ·exact ((HC3.out.set (by omega) (by omega) 0 _).set (by omega) (by omega) 1 _).set (by omega) (by omega) 2 _
 ·exact grown_set (grown_set (grown_set HG3.out _ _ qL _) _ _ qL _) _ _ qL _
def tSn:Nat→St→St
 | 0,s=>s
 | k+1,s=>tS (tSn k s)
def textsV:Nat→St→List ByteArray
 | 0,_=>[]
 | k+1,s=>textsV k s++[tV (tSn k s)]
theorem textsV_length:∀ k s,(textsV k s).length=k
 | 0,_=>rfl
 | k+1,s=>by simp[textsV,textsV_length k s]
def strCellsL (l:List ByteArray):List Value:=l.map Value.string
def OwnStrs (w:World) (base:Nat) (v:Value) (l:List ByteArray):Prop:=w.ownsRow base 9 1 v l.length (strCellsL l)∧l.length≤1000∧∀ x∈l,x.size≤65535
theorem OwnStrs.strs {w:World} {base:Nat} {v:Value} {l:List ByteArray} (h:OwnStrs w base v l):StrsAt w v l:=
 strs_own h.1 (fun x hx=>by have:=h.2.2 x hx;unfold maxLen;omega) (by have:=h.2.1;unfold maxLen;omega)
theorem owns_mono {w:World} {base B:Nat} {e:TypeId} {size n:Nat} {v:Value} {xs:List Value} (h:w.ownsRow base e size v n xs) (hB:B≤base):w.ownsRow B e size v n xs:=by
 refine⟨h.1,?_⟩
 rcases h.2 with hn|⟨g,cap,cur,hv,hg,rest⟩
 ·exact .inl hn
 ·exact .inr ⟨g,cap,cur,hv,by omega,rest⟩
theorem textV_le (l:List UInt8) (sh:Bool):(textV l sh).length≤65535:=by
 unfold textV
 split
 ·have:=leN_two_le l
  simp
  omega
 ·simp
theorem tV_size (s:St):(tV s).size≤65535:=by rw[tV,bs_size];exact textV_le _ _
theorem textsV_sizes:∀ k s,∀ x∈textsV k s,x.size≤65535
 | 0,_,x,h=>by simp[textsV] at h
 | k+1,s,x,h=>by
   rcases List.mem_append.1 h with h|h
   ·exact textsV_sizes k s x h
   ·rw[List.mem_singleton.1 h]
    exact tV_size _
theorem takeTexts_any (b rb:Nat) (s:St) (most:Nat) (w:World) (h:AtSt w b rb s) (hm:most≤1000) :
  Calls Tryz.prog 132 #[.pointer (some ⟨b,0,none⟩),.int .i64 most] w fun e w'=>∃ v,e=.returned v∧OwnStrs w' w.heap.size v (textsV (min (nV s) most) (nS s))∧AtSt w' b rb (tSn (min (nV s) most) (nS s))∧w.grownBy w' (some b):=by
 obtain⟨i0,hi,hz0,hz1,hz2⟩:=info_parts Tryz.infoStr
 have H:=hid (takeCount_any b rb s most w h hm)
 have hlt:=h.lt
 have hlr:=h.2.1
 have hn:min (nV s) most≤1000:=qN (Nat.min_le_right _ _) hm
 clear h
 generalize min (nV s) most=n at *
 generalize nS s=s1 at *
 go_enter Tryz.func132,Tryz.ntmps132
 go_wp2_with fail
 refine H.out.mono ?_
 rintro e w1 ⟨rfl,hc1,hg1⟩
 have HC1:=hid hc1
 have HG1:=hid hg1
 clear hc1 hg1 H
 go_wp2
 go_loopw [5,9] (fun v i wr=>∃ k:Nat,k≤n∧i=.int .i64 k∧wr.ownsRow w.heap.size 9 1 v k (strCellsL (textsV k s1))∧Hid (AtSt wr b rb (tSn k s1))∧w.grownBy wr (some b)) (fun _ i _=>n - (intOf i).toNat)
 case atStart=>exact⟨0,Nat.zero_le _,rfl,World.ownsRow_nil _ _ _ _,HC1,HG1.out⟩
 case round=>
  obtain⟨k,hk,rfl,hown,hat,hgr⟩:=hrel
  clear HC1 HG1
  by_cases hlk:k<n
  ·have HT:Hid (strCellsL (textsV (k+1) s1)=strCellsL (textsV k s1)++[.string (tV (tSn k s1))]):=by
    show _=_
    simp[strCellsL,textsV]
   go_wp2_with fail
   refine (ctext_any b rb _ _ hat.out).mono ?_
   rintro e w2 ⟨rfl,hc2,hg2⟩
   have hown2:=hown.kept hg2 (.inr (fun e=>by have:=(hown.lt b e).1;omega))
   have HC2:=hid hc2
   have HG2:=hid (grown_trans hgr hg2)
   clear hc2 hg2 hown hat hgr
   generalize tV (tSn k s1)=T at *
   go_wp2_with (at_builtin;refine wpList_append_own _ rfl _ _ 31 rfl w.heap.size 9 i0 (.string ⟨#[]⟩) 1 16 Tryz.underlying31 hi hz0 hz1 hz2 rfl (by decide) _ _ _ rfl (hown2.alloc _) ⟨w2.heap.size,0,none⟩ 1 1 [.string T] rfl rfl (cell_one_new _ _ _) (fun x hx=>by simp at hx;subst hx;rfl) (by unfold maxLen;omega) (by omega) (by have:=HG2.out.size;simp;omega) ?_)
   intro v' w3 hown' hgrow _
   rw[← HT.out] at hown'
   have HG3:=hid (grown_step (grown_new HG2.out _) hgrow (fun q hq=>(hown2.lt q hq).1))
   have HC3:=hid (AtSt.grown (HC2.out.alloc _) hgrow (fun e=>by have:=(hown2.lt _ e).1;omega) (fun e=>by have:=(hown2.lt _ e).1;omega))
   clear hgrow hown2 HC2 HG2
   go_wp2
   go_roundw
   case rel=>exact⟨k+1,by omega,by go_num,hown',HC3,HG3.out⟩
   case measure=>simp[intOf];omega
  ·have hke:k=n:=by omega
   subst hke
   go_wp2
   go_ret
   refine⟨_,rfl,⟨?_,?_,?_⟩,hat.out,hgr⟩
   ·rw[textsV_length]
    exact hown
   ·rw[textsV_length]
    exact hn
   ·exact textsV_sizes _ _
end
section
open Go.RowKit Go.Sort
def itemV (s:St):ItemD:=
 if iV (tS s)=1 then { noItem with key:=tV s,kind:=iV (tS s),val:=tV (nS (tS s)) }
 else if iV (tS s)=2 then { noItem with key:=tV s,kind:=iV (tS s),run:=iV (nS (tS s)),len:=iV (nS (nS (tS s))) }
 else if iV (tS s)=3 then { noItem with key:=tV s,kind:=iV (tS s),vals:=textsV (min (nV (nS (tS s))) 3) (nS (nS (tS s))),dup:=iV (tSn (min (nV (nS (tS s))) 3) (nS (nS (tS s)))) }
 else if iV (tS s)=4 then { noItem with key:=tV s,kind:=iV (tS s),root:=rootV (nS (tS s)) }
 else { noItem with key:=tV s,kind:=iV (tS s) }
def itemS (s:St):St:=
 if iV (tS s)=1 then tS (nS (tS s))
 else if iV (tS s)=2 then nS (nS (nS (tS s)))
 else if iV (tS s)=3 then nS (tSn (min (nV (nS (tS s))) 3) (nS (nS (tS s))))
 else if iV (tS s)=4 then rootS (nS (tS s))
 else nS (tS s)
theorem itemV_eq (s:St):itemV s =
 if iV (tS s)=1 then { noItem with key:=tV s,kind:=iV (tS s),val:=tV (nS (tS s)) }
 else if iV (tS s)=2 then { noItem with key:=tV s,kind:=iV (tS s),run:=iV (nS (tS s)),len:=iV (nS (nS (tS s))) }
 else if iV (tS s)=3 then { noItem with key:=tV s,kind:=iV (tS s),vals:=textsV (min (nV (nS (tS s))) 3) (nS (nS (tS s))),dup:=iV (tSn (min (nV (nS (tS s))) 3) (nS (nS (tS s)))) }
 else if iV (tS s)=4 then { noItem with key:=tV s,kind:=iV (tS s),root:=rootV (nS (tS s)) }
 else { noItem with key:=tV s,kind:=iV (tS s) }:=rfl
theorem itemS_eq (s:St):itemS s =
 if iV (tS s)=1 then tS (nS (tS s))
 else if iV (tS s)=2 then nS (nS (nS (tS s)))
 else if iV (tS s)=3 then nS (tSn (min (nV (nS (tS s))) 3) (nS (nS (tS s))))
 else if iV (tS s)=4 then rootS (nS (tS s))
 else nS (tS s):=rfl
theorem frozen_rowL {w:World} {b:Nat} {cs:Array Value} {T:TypeId} (hb:w.heap[b]?=some (.cells cs T (0,0))) (j:Nat):w.frozen? ⟨b,j,none⟩=false:=by
 simp[World.frozen?,hb]
theorem ownStrs_nil (w:World) (base:Nat):OwnStrs w base (.slice none 0 0) []:=⟨World.ownsRow_nil _ _ _ _,by simp,by simp⟩
theorem OwnStrs.kept {w w':World} {base:Nat} {v:Value} {l:List ByteArray} {row:Option Nat} (h:OwnStrs w base v l) (hg:w.grownBy w' row) (hr:∀ k,row=some k→k<base):OwnStrs w' base v l:=by
 refine⟨h.1.kept hg ?_,h.2⟩
 cases hv:v.ownBlock with
 | none=>exact .inl rfl
 | some g=>
   refine .inr (fun e=>?_)
   have h1:=(h.1.lt g hv).1
   have h2:=hr g e.symm
   omega
theorem OwnStrs.slice {w:World} {base:Nat} {v:Value} {l:List ByteArray} (h:OwnStrs w base v l):∃ ao n cap,v=.slice ao n cap:=by
 rcases h.1.2 with ⟨rfl,_⟩|⟨g,cap,cur,rfl,_⟩
 ·exact⟨_,_,_,rfl⟩
 ·exact⟨_,_,_,rfl⟩
theorem OwnStrs.setNe {w:World} {base p:Nat} {v:Value} {l:List ByteArray} (h:OwnStrs w base v l) {cs:Array Value} {T:TypeId} {fr:Nat × Nat} (hp:w.heap[p]?=some (.cells cs T fr)) (hT:T≠9) (o:Nat) (u:Value):OwnStrs (w.setCell ⟨p,o,none⟩ u) base v l:=by
 refine⟨h.1.kept (grown_setCell w p o u) ?_,h.2⟩
 rcases h.1.2 with ⟨rfl,_⟩|⟨g,cap,cur,rfl,_,hg,_⟩
 ·exact .inl rfl
 ·refine .inr (fun e=>?_)
  simp only[Value.ownBlock,qQ] at e
  subst e
  rw[hg] at hp
  simp only[qQ,qX] at hp
  exact hT hp.2.1.symm
theorem OwnStrs.setLt {w:World} {base p:Nat} {v:Value} {l:List ByteArray} (h:OwnStrs w base v l) (hp:p<base) (o:Nat) (u:Value):OwnStrs (w.setCell ⟨p,o,none⟩ u) base v l:=
 h.kept (grown_setCell w p o u) (fun k hk=>by cases hk;exact hp)
theorem OwnStrs.mono {w:World} {base B:Nat} {v:Value} {l:List ByteArray} (h:OwnStrs w base v l) (hB:B≤base):OwnStrs w B v l:=⟨owns_mono h.1 hB,h.2⟩
theorem takeItem_any (b rb:Nat) (s:St) (w:World) (h:AtSt w b rb s) :
  Calls Tryz.prog 130 #[.pointer (some ⟨b,0,none⟩)] w fun e w'=>∃ v,e=.returned (.agg (itemCells (itemV s) v).toArray)∧OwnStrs w' w.heap.size v (itemV s).vals∧AtSt w' b rb (itemS s)∧w.grownBy w' (some b):=by
 have H0:=hid (h.alloc (.cells #[.string ⟨#[]⟩,.int .i64 0,.string ⟨#[]⟩,.int .i64 0,.int .i64 0,.slice none 0 0,.int .i64 0,.int .i64 0,.int .i64 0,.int .i64 0] 45))
 have hlt:=h.lt
 have hlr:=h.2.1
 have HG0:=hid (grown_new (grown_refl w (some b)) (.cells #[.string ⟨#[]⟩,.int .i64 0,.string ⟨#[]⟩,.int .i64 0,.int .i64 0,.slice none 0 0,.int .i64 0,.int .i64 0,.int .i64 0,.int .i64 0] 45))
 have HR0:=hid (heap_newL w (.cells #[.string ⟨#[]⟩,.int .i64 0,.string ⟨#[]⟩,.int .i64 0,.int .i64 0,.slice none 0 0,.int .i64 0,.int .i64 0,.int .i64 0,.int .i64 0] 45))
 clear h
 have HV:=hid (itemV_eq s)
 have HS:=hid (itemS_eq s)
 generalize itemV s=XV at *
 generalize itemS s=XS at *
 have HCT:=hid (fun W (hW:AtSt W b rb s)=>ctext_any b rb s W hW)
 generalize tV s=T1 at *
 generalize tS s=s1 at *
 have HCN:=hid (fun W (hW:AtSt W b rb s1)=>takeNum_any b rb s1 W hW)
 generalize iV s1=d at *
 generalize nS s1=s2 at *
 go_enter Tryz.func130,Tryz.ntmps130
 go_wp2_with fail
 refine (HCT.out _ H0.out).mono ?_
 rintro e w1 ⟨rfl,hc,hg⟩
 have HC1:=hid hc
 have HG1:=hid (grown_trans HG0.out hg)
 have HR1:Hid (w1.heap[w.heap.size]?=some (.cells #[.string ⟨#[]⟩,.int .i64 0,.string ⟨#[]⟩,.int .i64 0,.int .i64 0,.slice none 0 0,.int .i64 0,.int .i64 0,.int .i64 0,.int .i64 0] 45 (0,0))):=(hg.block w.heap.size (by simp) (by simp;omega)).trans HR0.out
 clear hc hg H0 HG0 HR0 HCT
 go_wp2_with fail
 refine (HCN.out _ HC1.out).mono ?_
 rintro e w2 ⟨rfl,hc,hg⟩
 have HC2':=hid hc
 have HG2':=hid (grown_trans HG1.out hg)
 have HC2:=hid (hc.alloc (.cells #[.string T1,.int .i64 d,.string ⟨#[]⟩,.int .i64 0,.int .i64 0,.slice none 0 0,.int .i64 0,.int .i64 0,.int .i64 0,.int .i64 0] 45))
 have HG2:=hid (grown_new (grown_trans HG1.out hg) (.cells #[.string T1,.int .i64 d,.string ⟨#[]⟩,.int .i64 0,.int .i64 0,.slice none 0 0,.int .i64 0,.int .i64 0,.int .i64 0,.int .i64 0] 45))
 have hR2':w2.heap[w.heap.size]?=some (.cells #[.string ⟨#[]⟩,.int .i64 0,.string ⟨#[]⟩,.int .i64 0,.int .i64 0,.slice none 0 0,.int .i64 0,.int .i64 0,.int .i64 0,.int .i64 0] 45 (0,0)):=(hg.block w.heap.size (by have:=(qA HR1.out);omega) (by simp;omega)).trans HR1.out
 have HR2:Hid ((w2.alloc (.cells #[.string T1,.int .i64 d,.string ⟨#[]⟩,.int .i64 0,.int .i64 0,.slice none 0 0,.int .i64 0,.int .i64 0,.int .i64 0,.int .i64 0] 45)).heap[w.heap.size]?=some (.cells #[.string ⟨#[]⟩,.int .i64 0,.string ⟨#[]⟩,.int .i64 0,.int .i64 0,.slice none 0 0,.int .i64 0,.int .i64 0,.int .i64 0,.int .i64 0] 45 (0,0))):=(qE _ _ _ (qA hR2')).trans hR2'
 have HR2':=hid hR2'
 have HP2:=hid (heap_newL w2 (.cells #[.string T1,.int .i64 d,.string ⟨#[]⟩,.int .i64 0,.int .i64 0,.slice none 0 0,.int .i64 0,.int .i64 0,.int .i64 0,.int .i64 0] 45))
 have hszP:w.heap.size<w2.heap.size:=(qA hR2')
 clear hc hg HC1 HG1 HR1 HCN hR2'
 generalize hPdef:w2.heap.size=P at *
 by_cases h1:d=1
 ·subst h1
  go_wp2_with fail
  refine (ctext_any b rb s2 _ HC2.out).mono ?_
  rintro e w3 ⟨rfl,hc,hg⟩
  have HC:=hid hc
  have HG:=hid (grown_trans HG2.out hg)
  have hPw3:w3.heap[P]?=some (.cells #[.string T1,.int .i64 1,.string ⟨#[]⟩,.int .i64 0,.int .i64 0,.slice none 0 0,.int .i64 0,.int .i64 0,.int .i64 0,.int .i64 0] 45 (0,0)):=(hg.block P (by have:=(qA HP2.out);omega) (by simp;omega)).trans HP2.out
  have hRw3:w3.heap[w.heap.size]?=some (.cells #[.string ⟨#[]⟩,.int .i64 0,.string ⟨#[]⟩,.int .i64 0,.int .i64 0,.slice none 0 0,.int .i64 0,.int .i64 0,.int .i64 0,.int .i64 0] 45 (0,0)):=(hg.block w.heap.size (by have:=(qA HR2.out);omega) (by simp;omega)).trans HR2.out
  have cP:=cell_rowL hPw3
  have cR:=cell_rowL hRw3
  have fP:=frozen_rowL hPw3
  have fR:=frozen_rowL hRw3
  clear hc hg HC2 HG2 HP2 HR2
  have hXV:XV={ noItem with key:=T1,kind:=1,val:=tV s2 }:=by rw[HV.out];simp
  have hXS:XS=tS s2:=by rw[HS.out];simp
  clear HV HS
  subst hXV hXS
  clear hPw3 hRw3
  go_wp2
  refine bodyPost_ret (v:=.agg #[.string T1,.int .i64 1,.string (tV s2),.int .i64 0,.int .i64 0,.slice none 0 0,.int .i64 0,.int .i64 0,.int .i64 0,.int .i64 0]) (by simp[results,Tryz.results130,go_sem,cR]) rfl ⟨.slice none 0 0,rfl,ownStrs_nil _ _,?_,?_⟩
  ·repeat (refine AtSt.set ?_ (by omega) (by omega) _ _)
   exact HC.out
  ·repeat (refine grown_set ?_ _ _ (by omega) _)
   exact HG.out
 by_cases h2:d=2
 ·subst h2
  go_wp2_with fail
  refine (takeNum_any b rb s2 _ HC2.out).mono ?_
  rintro e w3 ⟨rfl,hc,hg⟩
  have HC3:=hid hc
  have HG3:=hid (grown_trans HG2.out hg)
  have hPw3:w3.heap[P]?=some (.cells #[.string T1,.int .i64 2,.string ⟨#[]⟩,.int .i64 0,.int .i64 0,.slice none 0 0,.int .i64 0,.int .i64 0,.int .i64 0,.int .i64 0] 45 (0,0)):=(hg.block P (by have:=(qA HP2.out);omega) (by simp;omega)).trans HP2.out
  have hRw3:w3.heap[w.heap.size]?=some (.cells #[.string ⟨#[]⟩,.int .i64 0,.string ⟨#[]⟩,.int .i64 0,.int .i64 0,.slice none 0 0,.int .i64 0,.int .i64 0,.int .i64 0,.int .i64 0] 45 (0,0)):=(hg.block w.heap.size (by have:=(qA HR2.out);omega) (by simp;omega)).trans HR2.out
  have cP:=cell_rowL hPw3
  have fP:=frozen_rowL hPw3
  have HC4:=hid (HC3.out.set (p:=P) (by omega) (by omega) 3 (.int .i64 (iV s2)))
  have HG4:=hid (grown_set HG3.out P 3 (by omega) (.int .i64 (iV s2)))
  have HP4:Hid ((w3.setCell ⟨P,3,none⟩ (.int .i64 (iV s2))).heap[P]?=some (.cells #[.string T1,.int .i64 2,.string ⟨#[]⟩,.int .i64 (iV s2),.int .i64 0,.slice none 0 0,.int .i64 0,.int .i64 0,.int .i64 0,.int .i64 0] 45 (0,0))):=by
   show _=_
   rw[heap_setCell_same w3 P 3 _ _ _ hPw3]
   rfl
  have HR4:Hid ((w3.setCell ⟨P,3,none⟩ (.int .i64 (iV s2))).heap[w.heap.size]?=some (.cells #[.string ⟨#[]⟩,.int .i64 0,.string ⟨#[]⟩,.int .i64 0,.int .i64 0,.slice none 0 0,.int .i64 0,.int .i64 0,.int .i64 0,.int .i64 0] 45 (0,0))):=(qD _ _ _ _ (by simp;omega)).trans hRw3
  clear hc hg HC2 HG2 HP2 HR2 HC3 HG3 hPw3 hRw3
  go_wp2_with fail
  clear cP fP
  generalize w3.setCell ⟨P,3,none⟩ (.int .i64 (iV s2))=W4 at *
  refine (takeNum_any b rb (nS s2) _ HC4.out).mono ?_
  rintro e w5 ⟨rfl,hc,hg⟩
  have HC:=hid hc
  have HG:=hid (grown_trans HG4.out hg)
  have hPw5:w5.heap[P]?=some (.cells #[.string T1,.int .i64 2,.string ⟨#[]⟩,.int .i64 (iV s2),.int .i64 0,.slice none 0 0,.int .i64 0,.int .i64 0,.int .i64 0,.int .i64 0] 45 (0,0)):=(hg.block P (by have:=(qA HP4.out);omega) (by simp;omega)).trans HP4.out
  have hRw5:w5.heap[w.heap.size]?=some (.cells #[.string ⟨#[]⟩,.int .i64 0,.string ⟨#[]⟩,.int .i64 0,.int .i64 0,.slice none 0 0,.int .i64 0,.int .i64 0,.int .i64 0,.int .i64 0] 45 (0,0)):=(hg.block w.heap.size (by have:=(qA HR4.out);omega) (by simp;omega)).trans HR4.out
  have cP:=cell_rowL hPw5
  have cR:=cell_rowL hRw5
  have fP:=frozen_rowL hPw5
  have fR:=frozen_rowL hRw5
  clear hc hg HC4 HG4 HP4 HR4
  have hXV:XV={ noItem with key:=T1,kind:=2,run:=iV s2,len:=iV (nS s2) }:=by rw[HV.out];simp
  have hXS:XS=nS (nS s2):=by rw[HS.out];simp
  clear HV HS
  subst hXV hXS
  clear hPw5 hRw5
  go_wp2
  refine bodyPost_ret (v:=.agg #[.string T1,.int .i64 2,.string ⟨#[]⟩,.int .i64 (iV s2),.int .i64 (iV (nS s2)),.slice none 0 0,.int .i64 0,.int .i64 0,.int .i64 0,.int .i64 0]) (by simp[results,Tryz.results130,go_sem,cR]) rfl ⟨.slice none 0 0,rfl,ownStrs_nil _ _,?_,?_⟩
  ·repeat (refine AtSt.set ?_ (by omega) (by omega) _ _)
   exact HC.out
  ·repeat (refine grown_set ?_ _ _ (by omega) _)
   exact HG.out
 by_cases h3:d=3
 ·subst h3
  have hXV:XV={ noItem with key:=T1,kind:=3,vals:=textsV (min (nV s2) 3) (nS s2),dup:=iV (tSn (min (nV s2) 3) (nS s2)) }:=by rw[HV.out];simp
  have hXS:XS=nS (tSn (min (nV s2) 3) (nS s2)):=by rw[HS.out];simp
  have HTT:=hid (takeTexts_any b rb s2 3 _ HC2.out (by omega))
  generalize textsV (min (nV s2) 3) (nS s2)=VL at *
  generalize tSn (min (nV s2) 3) (nS s2)=s3 at *
  go_wp2_with fail
  refine HTT.out.mono ?_
  rintro e w3 ⟨v,rfl,hov,hc,hg⟩
  have hbase:P≤(w2.alloc (.cells #[.string T1,.int .i64 3,.string ⟨#[]⟩,.int .i64 0,.int .i64 0,.slice none 0 0,.int .i64 0,.int .i64 0,.int .i64 0,.int .i64 0] 45)).heap.size:=by simp;omega
  have HC3:=hid hc
  have HG3:=hid (grown_trans HG2.out hg)
  have hPw3:w3.heap[P]?=some (.cells #[.string T1,.int .i64 3,.string ⟨#[]⟩,.int .i64 0,.int .i64 0,.slice none 0 0,.int .i64 0,.int .i64 0,.int .i64 0,.int .i64 0] 45 (0,0)):=(hg.block P (by have:=(qA HP2.out);omega) (by simp;omega)).trans HP2.out
  have hRw3:w3.heap[w.heap.size]?=some (.cells #[.string ⟨#[]⟩,.int .i64 0,.string ⟨#[]⟩,.int .i64 0,.int .i64 0,.slice none 0 0,.int .i64 0,.int .i64 0,.int .i64 0,.int .i64 0] 45 (0,0)):=(hg.block w.heap.size (by have:=(qA HR2.out);omega) (by simp;omega)).trans HR2.out
  have cP:=cell_rowL hPw3
  have fP:=frozen_rowL hPw3
  have HOV:=hid ((hov.mono hbase).setNe hPw3 (by decide) 5 v)
  obtain⟨av,nv,cv,rfl⟩:=hov.slice
  have HC4:=hid (HC3.out.set (p:=P) (by omega) (by omega) 5 (.slice av nv cv))
  have HG4:=hid (grown_set HG3.out P 5 (by omega) (.slice av nv cv))
  have HP4:Hid ((w3.setCell ⟨P,5,none⟩ (.slice av nv cv)).heap[P]?=some (.cells #[.string T1,.int .i64 3,.string ⟨#[]⟩,.int .i64 0,.int .i64 0,.slice av nv cv,.int .i64 0,.int .i64 0,.int .i64 0,.int .i64 0] 45 (0,0))):=by
   show _=_
   rw[heap_setCell_same w3 P 5 _ _ _ hPw3]
   rfl
  have HR4:Hid ((w3.setCell ⟨P,5,none⟩ (.slice av nv cv)).heap[w.heap.size]?=some (.cells #[.string ⟨#[]⟩,.int .i64 0,.string ⟨#[]⟩,.int .i64 0,.int .i64 0,.slice none 0 0,.int .i64 0,.int .i64 0,.int .i64 0,.int .i64 0] 45 (0,0))):=(qD _ _ _ _ (by simp;omega)).trans hRw3
  clear hc hg hov HC2 HG2 HP2 HR2 HC3 HG3 hPw3 hRw3 HTT hbase
  go_wp2_with fail
  clear cP fP
  generalize w3.setCell ⟨P,5,none⟩ (.slice av nv cv)=W4 at *
  refine (takeNum_any b rb s3 _ HC4.out).mono ?_
  rintro e w5 ⟨rfl,hc,hg⟩
  have HC:=hid hc
  have HG:=hid (grown_trans HG4.out hg)
  have HOV5:=hid (HOV.out.kept hg (fun k hk=>by cases hk;omega))
  have hPw5:w5.heap[P]?=some (.cells #[.string T1,.int .i64 3,.string ⟨#[]⟩,.int .i64 0,.int .i64 0,.slice av nv cv,.int .i64 0,.int .i64 0,.int .i64 0,.int .i64 0] 45 (0,0)):=(hg.block P (by have:=(qA HP4.out);omega) (by simp;omega)).trans HP4.out
  have hRw5:w5.heap[w.heap.size]?=some (.cells #[.string ⟨#[]⟩,.int .i64 0,.string ⟨#[]⟩,.int .i64 0,.int .i64 0,.slice none 0 0,.int .i64 0,.int .i64 0,.int .i64 0,.int .i64 0] 45 (0,0)):=(hg.block w.heap.size (by have:=(qA HR4.out);omega) (by simp;omega)).trans HR4.out
  have cP:=cell_rowL hPw5
  have cR:=cell_rowL hRw5
  have fP:=frozen_rowL hPw5
  have fR:=frozen_rowL hRw5
  have HOV6:=hid (HOV5.out.setNe hPw5 (by decide) 6 (.int .i64 (iV s3)))
  clear hc hg HC4 HG4 HP4 HR4 HOV HOV5
  clear HV HS
  subst hXV hXS
  clear hPw5 hRw5
  go_wp2
  refine bodyPost_ret (v:=.agg #[.string T1,.int .i64 3,.string ⟨#[]⟩,.int .i64 0,.int .i64 0,.slice av nv cv,.int .i64 (iV s3),.int .i64 0,.int .i64 0,.int .i64 0]) (by simp[results,Tryz.results130,go_sem,cR]) rfl ⟨.slice av nv cv,rfl,?_,?_,?_⟩
  ·refine OwnStrs.mono ?_ (Nat.le_of_lt hszP)
   repeat (refine OwnStrs.setLt ?_ (by omega) _ _)
   exact HOV6.out
  ·repeat (refine AtSt.set ?_ (by omega) (by omega) _ _)
   exact HC.out
  ·repeat (refine grown_set ?_ _ _ (by omega) _)
   exact HG.out
 by_cases h4:d=4
 ·subst h4
  go_wp2_with fail
  refine (takeRoot_any b rb s2 _ HC2.out).mono ?_
  rintro e w3 ⟨rfl,hc,hg⟩
  have HC:=hid hc
  have HG:=hid (grown_trans HG2.out hg)
  have hPw3:w3.heap[P]?=some (.cells #[.string T1,.int .i64 4,.string ⟨#[]⟩,.int .i64 0,.int .i64 0,.slice none 0 0,.int .i64 0,.int .i64 0,.int .i64 0,.int .i64 0] 45 (0,0)):=(hg.block P (by have:=(qA HP2.out);omega) (by simp;omega)).trans HP2.out
  have hRw3:w3.heap[w.heap.size]?=some (.cells #[.string ⟨#[]⟩,.int .i64 0,.string ⟨#[]⟩,.int .i64 0,.int .i64 0,.slice none 0 0,.int .i64 0,.int .i64 0,.int .i64 0,.int .i64 0] 45 (0,0)):=(hg.block w.heap.size (by have:=(qA HR2.out);omega) (by simp;omega)).trans HR2.out
  have cP:=cell_rowL hPw3
  have cR:=cell_rowL hRw3
  have fP:=frozen_rowL hPw3
  have fR:=frozen_rowL hRw3
  clear hc hg HC2 HG2 HP2 HR2
  have hXV:XV={ noItem with key:=T1,kind:=4,root:=rootV s2 }:=by rw[HV.out];simp
  have hXS:XS=rootS s2:=by rw[HS.out];simp
  clear HV HS
  subst hXV hXS
  clear hPw3 hRw3
  go_wp2
  refine bodyPost_ret (v:=.agg #[.string T1,.int .i64 4,.string ⟨#[]⟩,.int .i64 0,.int .i64 0,.slice none 0 0,.int .i64 0,.int .i64 (rootV s2).page,.int .i64 (rootV s2).count,.int .i64 (rootV s2).flags]) (by simp[results,Tryz.results130,go_sem,cR]) rfl ⟨.slice none 0 0,rfl,ownStrs_nil _ _,?_,?_⟩
  ·repeat (refine AtSt.set ?_ (by omega) (by omega) _ _)
   exact HC.out
  ·repeat (refine grown_set ?_ _ _ (by omega) _)
   exact HG.out
 ·have e1:(d==1)=false:=by simpa using h1
  have e2:(d==2)=false:=by simpa using h2
  have e3:(d==3)=false:=by simpa using h3
  have e4:(d==4)=false:=by simpa using h4
  have hXV:XV={ noItem with key:=T1,kind:=d }:=by rw[HV.out];simp[h1,h2,h3,h4]
  have hXS:XS=s2:=by rw[HS.out];simp[h1,h2,h3,h4]
  clear HV HS
  subst hXV hXS
  have cR:=cell_rowL HR2'.out
  have fR:=frozen_rowL HR2'.out
  clear HC2 HG2 HR2 HP2
  go_wp2
  have HC3:Hid (AtSt ((((((((((w2.setCell ⟨w.heap.size,0,none⟩ (.string T1)).setCell ⟨w.heap.size,1,none⟩ (.int .i64 d)).setCell ⟨w.heap.size,2,none⟩ (.string ⟨#[]⟩)).setCell ⟨w.heap.size,3,none⟩ (.int .i64 0)).setCell ⟨w.heap.size,4,none⟩ (.int .i64 0)).setCell ⟨w.heap.size,5,none⟩ (.slice none 0 0)).setCell ⟨w.heap.size,6,none⟩ (.int .i64 0)).setCell ⟨w.heap.size,7,none⟩ (.int .i64 0)).setCell ⟨w.heap.size,8,none⟩ (.int .i64 0)).setCell ⟨w.heap.size,9,none⟩ (.int .i64 0)) b rb XS):=by
   show AtSt _ _ _ _
   repeat (refine AtSt.set ?_ (by omega) (by omega) _ _)
   exact HC2'.out
  have HG3:Hid (w.grownBy ((((((((((w2.setCell ⟨w.heap.size,0,none⟩ (.string T1)).setCell ⟨w.heap.size,1,none⟩ (.int .i64 d)).setCell ⟨w.heap.size,2,none⟩ (.string ⟨#[]⟩)).setCell ⟨w.heap.size,3,none⟩ (.int .i64 0)).setCell ⟨w.heap.size,4,none⟩ (.int .i64 0)).setCell ⟨w.heap.size,5,none⟩ (.slice none 0 0)).setCell ⟨w.heap.size,6,none⟩ (.int .i64 0)).setCell ⟨w.heap.size,7,none⟩ (.int .i64 0)).setCell ⟨w.heap.size,8,none⟩ (.int .i64 0)).setCell ⟨w.heap.size,9,none⟩ (.int .i64 0)) (some b)):=by
   show World.grownBy _ _ _
   repeat (refine grown_set ?_ _ _ (by omega) _)
   exact HG2'.out
  have hY2:((((((((((w2.setCell ⟨w.heap.size,0,none⟩ (.string T1)).setCell ⟨w.heap.size,1,none⟩ (.int .i64 d)).setCell ⟨w.heap.size,2,none⟩ (.string ⟨#[]⟩)).setCell ⟨w.heap.size,3,none⟩ (.int .i64 0)).setCell ⟨w.heap.size,4,none⟩ (.int .i64 0)).setCell ⟨w.heap.size,5,none⟩ (.slice none 0 0)).setCell ⟨w.heap.size,6,none⟩ (.int .i64 0)).setCell ⟨w.heap.size,7,none⟩ (.int .i64 0)).setCell ⟨w.heap.size,8,none⟩ (.int .i64 0)).setCell ⟨w.heap.size,9,none⟩ (.int .i64 0)).heap[w.heap.size]?=some (.cells #[.string T1,.int .i64 d,.string ⟨#[]⟩,.int .i64 0,.int .i64 0,.slice none 0 0,.int .i64 0,.int .i64 0,.int .i64 0,.int .i64 0] 45 (0,0)):=by
   simp[World.setCell,Array.getElem?_modify,HR2'.out]
  generalize ((((((((((w2.setCell ⟨w.heap.size,0,none⟩ (.string T1)).setCell ⟨w.heap.size,1,none⟩ (.int .i64 d)).setCell ⟨w.heap.size,2,none⟩ (.string ⟨#[]⟩)).setCell ⟨w.heap.size,3,none⟩ (.int .i64 0)).setCell ⟨w.heap.size,4,none⟩ (.int .i64 0)).setCell ⟨w.heap.size,5,none⟩ (.slice none 0 0)).setCell ⟨w.heap.size,6,none⟩ (.int .i64 0)).setCell ⟨w.heap.size,7,none⟩ (.int .i64 0)).setCell ⟨w.heap.size,8,none⟩ (.int .i64 0)).setCell ⟨w.heap.size,9,none⟩ (.int .i64 0))=Y at *
  have hY3:∀ o j,(Y.alloc o).cell? ⟨w.heap.size,j,none⟩=(#[.string T1,.int .i64 d,.string ⟨#[]⟩,.int .i64 0,.int .i64 0,.slice none 0 0,.int .i64 0,.int .i64 0,.int .i64 0,.int .i64 0]:Array Value)[j]?:=fun o j=>by
   rw[← cell_rowL hY2 j]
   exact World.cell?_of_block (a:=⟨w.heap.size,j,none⟩) (qE _ _ _ (qA hY2))
  refine bodyPost_ret (v:=.agg #[.string T1,.int .i64 d,.string ⟨#[]⟩,.int .i64 0,.int .i64 0,.slice none 0 0,.int .i64 0,.int .i64 0,.int .i64 0,.int .i64 0]) (by simp[results,Tryz.results130,go_sem,hY3]) rfl ⟨.slice none 0 0,rfl,ownStrs_nil _ _,AtSt.alloc HC3.out _,grown_new HG3.out _⟩
end
section
open Go.RowKit Go.Sort
theorem flatten_at {α:Type} (c:Nat):∀ (rows:List (List α)) (i j:Nat),(∀ r∈rows,r.length=c)→(hi:i<rows.length)→j<c→rows.flatten[i*c+j]?=rows[i][j]?
 | [],i,j,_,hi,_=>absurd hi (by simp)
 | r::rs,0,j,h,_,hj=>by
   have hr:=h r (by simp)
   simp only[List.flatten_cons,Nat.zero_mul,Nat.zero_add,qH]
   rw[List.getElem?_append_left (by omega)]
 | r::rs,i+1,j,h,hi,hj=>by
   have hr:=h r (by simp)
   have ih:=flatten_at c rs i j (fun x hx=>h x (by simp[hx])) (by simpa using hi) hj
   simp only[List.flatten_cons,qI]
   rw[List.getElem?_append_right (by rw[hr,Nat.add_mul];omega),hr,← ih]
   congr 1
   rw[Nat.add_mul]
   omega
def intCells (l:List Int):List Value:=l.map (Value.int .i64)
def OwnInts (w:World) (base:Nat) (v:Value) (l:List Int):Prop:=w.ownsRow base 3 1 v l.length (intCells l)∧l.length≤1000
theorem OwnInts.ints {w:World} {base:Nat} {v:Value} {l:List Int} (h:OwnInts w base v l):IntsAt w v l:=by
 obtain⟨h1,h2⟩:=h
 rcases h1.2 with ⟨rfl,h0⟩|⟨g,cap,cur,rfl,_⟩
 ·have:l=[]:=List.eq_nil_of_length_eq_zero h0
  subst this
  exact ints_nil w
 ·refine⟨some ⟨g,0,none⟩,cap,rfl,by unfold maxLen;omega,fun i hi=>⟨⟨g,0,none⟩,rfl,?_⟩⟩
  exact h1.cells (g:=g) rfl i _ (by simp[intCells,hi])
theorem ownInts_nil (w:World) (base:Nat):OwnInts w base (.slice none 0 0) []:=⟨World.ownsRow_nil _ _ _ _,by simp⟩
theorem owns_kept_lt {w w':World} {base:Nat} {e:TypeId} {size n:Nat} {v:Value} {xs:List Value} {row:Option Nat} (h:w.ownsRow base e size v n xs) (hg:w.grownBy w' row) (hr:∀ k,row=some k→k<base):w'.ownsRow base e size v n xs:=by
 refine h.kept hg ?_
 cases hv:v.ownBlock with
 | none=>exact .inl rfl
 | some g=>
   refine .inr (fun e=>?_)
   have h1:=(h.lt g hv).1
   have h2:=hr g e.symm
   omega
theorem owns_kept_ty {w w':World} {base:Nat} {e:TypeId} {size n:Nat} {v:Value} {xs:List Value} {row:Option Nat} (h:w.ownsRow base e size v n xs) (hg:w.grownBy w' row) (hr:∀ k,row=some k→∃ cs T fr,w.heap[k]?=some (.cells cs T fr)∧T≠e):w'.ownsRow base e size v n xs:=by
 refine h.kept hg ?_
 rcases h.2 with ⟨rfl,_⟩|⟨g,cap,cur,rfl,_,hgg,_⟩
 ·exact .inl rfl
 ·refine .inr (fun e2=>?_)
  obtain⟨cs,T,fr,h1,h2⟩:=hr g e2.symm
  rw[hgg] at h1
  simp only[qQ,qX] at h1
  exact h2 h1.2.1.symm
theorem owns_block {w:World} {base:Nat} {e:TypeId} {size n:Nat} {v:Value} {xs:List Value} (h:w.ownsRow base e size v n xs):∀ k,v.ownBlock=some k→∃ cs fr,w.heap[k]?=some (.cells cs e fr):=by
 intro k hk
 rcases h.2 with ⟨rfl,_⟩|⟨g,cap,cur,rfl,_,hgg,_⟩
 ·simp[Value.ownBlock] at hk
 ·simp only[Value.ownBlock,qQ] at hk
  subst hk
  exact⟨_,_,hgg⟩
theorem OwnInts.lt {w w':World} {base:Nat} {v:Value} {l:List Int} {row:Option Nat} (h:OwnInts w base v l) (hg:w.grownBy w' row) (hr:∀ k,row=some k→k<base):OwnInts w' base v l:=⟨owns_kept_lt h.1 hg hr,h.2⟩
theorem OwnInts.ty {w w':World} {base:Nat} {v:Value} {l:List Int} {row:Option Nat} (h:OwnInts w base v l) (hg:w.grownBy w' row) (hr:∀ k,row=some k→∃ cs T fr,w.heap[k]?=some (.cells cs T fr)∧T≠3):OwnInts w' base v l:=⟨owns_kept_ty h.1 hg hr,h.2⟩
theorem OwnInts.alloc {w:World} {base:Nat} {v:Value} {l:List Int} (h:OwnInts w base v l) (o:Obj):OwnInts (w.alloc o) base v l:=⟨h.1.alloc o,h.2⟩
theorem OwnInts.slice {w:World} {base:Nat} {v:Value} {l:List Int} (h:OwnInts w base v l):∃ ao n cap,v=.slice ao n cap:=by
 rcases h.1.2 with ⟨rfl,_⟩|⟨g,cap,cur,rfl,_⟩
 ·exact⟨_,_,_,rfl⟩
 ·exact⟨_,_,_,rfl⟩
def freeCells (l:List FreeD) (us:List Value):List Value:=(List.zipWith (fun f u=>[Value.int .u64 f.txn,u]) l us).flatten
def OwnFrees (w:World) (base:Nat) (v:Value) (l:List FreeD):Prop:=
 l.length≤1000∧∃ us:List Value,us.length=l.length∧w.ownsRow base 108 2 v l.length (freeCells l us)∧∀ i (h:i<l.length) (h':i<us.length),OwnInts w base us[i] l[i].ids
theorem freeCells_snoc (l:List FreeD) (us:List Value) (f:FreeD) (u:Value) (h:us.length=l.length):freeCells (l++[f]) (us++[u])=freeCells l us++[.int .u64 f.txn,u]:=by
 unfold freeCells
 rw[List.zipWith_append (by omega),List.flatten_append]
 simp
theorem OwnFrees.frees {w:World} {base:Nat} {v:Value} {l:List FreeD} (h:OwnFrees w base v l):FreesAt w v l:=by
 obtain⟨hl,us,hus,hown,hids⟩:=h
 rcases hown.2 with ⟨rfl,h0⟩|⟨g,cap,cur,rfl,_,hgg,_⟩
 ·have:l=[]:=List.eq_nil_of_length_eq_zero h0
  subst this
  exact frees_nil w
 ·have hlt:g<w.heap.size:=(qA hgg)
  have key:∀ i (h:i<l.length) (h':i<us.length) j,j<2→(freeCells l us)[i*2+j]?=[Value.int .u64 l[i].txn,us[i]][j]?:=by
   intro i hi hi' j hj
   unfold freeCells
   rw[flatten_at 2 _ i j ?_ (by simp;omega) hj]
   ·simp
   ·intro r hr
    obtain⟨k,hk,rfl⟩:=List.mem_iff_getElem.1 hr
    simp
  refine⟨some ⟨g,0,none⟩,cap,rfl,by unfold maxLen;omega,fun i hi=>⟨g,0,us[i]'(by omega),rfl,hlt,?_,?_,(hids i hi (by omega)).ints⟩⟩
  ·rw[Nat.zero_add]
   have:=hown.cells (g:=g) rfl (i*2) _ ((key i hi (by omega) 0 (by omega)).trans rfl)
   rwa [Addr.add_mid,Nat.zero_add] at this
  ·rw[Nat.zero_add]
   have:=hown.cells (g:=g) rfl (i*2+1) _ ((key i hi (by omega) 1 (by omega)).trans rfl)
   rwa [Addr.add_mid,Nat.zero_add] at this
def nSn:Nat→St→St
 | 0,s=>s
 | k+1,s=>nS (nSn k s)
def numsV:Nat→St→List Int
 | 0,_=>[]
 | k+1,s=>numsV k s++[iV (nSn k s)]
theorem numsV_length:∀ k s,(numsV k s).length=k
 | 0,_=>rfl
 | k+1,s=>by simp[numsV,numsV_length k s]
def freesGo:Nat→Nat→St→List FreeD × St
 | 0,_,s=>([],s)
 | k+1,r,s=>
   if nV (nS s)≤r then
    (⟨nV s,numsV (nV (nS s)) (nS (nS s))⟩::(freesGo k (r - nV (nS s)) (nSn (nV (nS s)) (nS (nS s)))).1,(freesGo k (r - nV (nS s)) (nSn (nV (nS s)) (nS (nS s)))).2)
   else ([],nSn r (nS (nS s)))
theorem Tryz.infoInt:(Tryz.prog.info? 3).map (fun i=>(i.zero,i.size,i.bytes))=some (some (.int .i64 0),1,8):=by kernel_rfl
theorem Tryz.infoFree:(Tryz.prog.info? 108).map (fun i=>(i.zero,i.size,i.bytes))=some (some (.agg #[.int .u64 0,.slice none 0 0]),2,32):=by kernel_rfl
end
end Go.Proofs.YtbghhklbfnplbaaGreat

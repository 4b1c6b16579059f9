import Derived.Deep.LoopGhost
import Derived.RegionTactic
import Derived.Test.YtbghhklbfnplbaaGreatC00
import Derived.Test.YtbghhklbfnplbaaGreatC46
set_option maxHeartbeats 2000000
set_option maxRecDepth 10000
namespace Go.Proofs.YtbghhklbfnplbaaGreat
section
open Go.RowKit Go.Sort Go.Conc
open H (Up up_ext mergeL dropL Fit RunI RunIs OwnInts RowAt hid)
def inR (e x:Int):Bool:=decide (2≤x∧x<e)
theorem filter_take {p:Int→Bool} (C:List Int) (k:Nat) (hk:k<C.length):(C.take (k+1)).filter p=if p (C.getD k 0) then (C.take k).filter p++[C.getD k 0] else (C.take k).filter p:=by
 have e1:C.getD k 0=C[k]:=by simp[List.getD,hk]
 rw[qT hk,List.filter_append,e1]
 cases hp:p C[k]<;>simp[hp]
theorem filter_end {e:Int} {C:List Int} (hu:Up C) (k:Nat) (hk:k<C.length) (hx:e≤C.getD k 0):(C.take k).filter (inR e)=C.filter (inR e):=by
 have h1:C.filter (inR e)=(C.take k).filter (inR e)++(C.drop k).filter (inR e):=by rw[← List.filter_append,List.take_append_drop]
 have h2:(C.drop k).filter (inR e)=[]:=by
  rw[List.filter_eq_nil_iff]
  intro y hy
  obtain⟨i,hi,rfl⟩:=List.getElem_of_mem hy
  have hi2:k+i<C.length:=by simp at hi;omega
  have e2:(C.drop k)[i]=C.getD (k+i) 0:=by simp[List.getD,hi2]
  have h3:C.getD k 0≤C.getD (k+i) 0:=by
   rcases Nat.eq_zero_or_pos i with h0|h0
   ·subst h0;exact Int.le_refl _
   ·exact Int.le_of_lt (H.up_get hu (by omega) hi2)
  rw[e2]
  simp only[inR,decide_eq_true_eq]
  omega
 rw[h1,h2,List.append_nil]
theorem sift_any (l:List Int) (ao:Option Addr) (cap:Nat) (e:Int) (w:World) (h:RowAt w ao cap l) (hl:l.length≤1000) :
  Calls Tryz.prog 23 #[.slice ao l.length cap,.int .i64 e] w fun r w'=>∃ u,r=.returned u∧OwnInts w' w.heap.size u (siftL l e)∧Below w.heap.size w w':=by
 obtain⟨i0,hi,hz0,hz1,hz2⟩:=info_parts H.Tryz.infoInt
 have C1:=hid (clone_row l ao cap w h hl)
 have HCU:=hid (sortL_is l).1
 have HCL:=hid (sortL_length l)
 have HM:Hid (siftL l e=(sortL l).filter (inR e)):=rfl
 have HSL:Hid (Lib.compact (l.mergeSort fun x y=>decide (x≤y))=sortL l):=rfl
 replace hl:=hid hl
 clear h
 generalize siftL l e=S at *
 go_enter Tryz.func23,Tryz.ntmps23
 go_wp2
 go_step3
 go_wp2_with fail
 refine C1.out.mono ?_
 rintro r w1 ⟨u1,rfl,h1,b1⟩
 have C2:=hid (sort_row w1 _ u1 l h1 hl.out)
 have hsl:=h1.slice
 have B1:=hid b1
 have O1:=hid h1
 clear h1 b1 C1
 obtain⟨uo,uc,rfl⟩:=hsl
 go_wp2_with fail
 refine C2.out.mono ?_
 rintro r w2 ⟨rfl,h2,g2⟩
 have B2:=hid (O1.out.after B1.out B1.out.size g2)
 have C3:=hid (compact_row w2 _ _ _ h2 (by simpa using hl.out))
 have O2:=hid h2
 clear h2 g2 C2
 rw[HSL.out] at C3
 go_wp2_with fail
 go_step3
 go_wp2_with fail
 refine C3.out.mono ?_
 rintro r w3 ⟨co,cc,rfl,h3,g3⟩
 have B3:=hid (O2.out.after B2.out B2.out.size g3)
 clear g3 C3
 have HC:=hid h3
 clear h3
 have hClen:Hid ((sortL l).length≤1000):=hid (by have:=HCL.out;have:=hl.out;omega)
 clear HCL HSL hl O1 O2
 generalize sortL l=C at *
 go_wp2
 go_loopg [6,16] C.length (fun g vr j wr=>∃ (k:Nat) (R:List Int) (ro:Option Addr) (cr:Nat),k+g=C.length∧vr=.slice ro R.length cr∧j=.int .i64 (k:Int)∧R.length≤k∧Hid (OwnInts wr w3.heap.size (.slice ro R.length cr) R)∧Hid ((C.take k).filter (inR e)=R)∧Hid (Below w3.heap.size w3 wr))
 case atStart=>exact⟨0,[],none,0,by omega,rfl,rfl,by simp,hid (OwnInts.nil _ _),hid (by simp),hid (qB _ _)⟩
 case round=>
  obtain⟨k,R,ro,cr,hk,rfl,rfl,hlen,hR,hF,hbel⟩:=hrel
  cases gk with
  | zero=>
    have hke:k=C.length:=by omega
    subst hke
    have hF2:=hF.out
    rw[List.take_length,← HM.out] at hF2
    replace hF2:=hid hF2
    clear hF
    go_wp2
    rw[Exit.noGoto_ret]
    go_ret
    refine⟨_,rfl,?_,B3.out.trans (hbel.out.mono B3.out.size)⟩
    rw[hF2.out]
    exact hR.out.mono B3.out.size
  | succ g=>
    have hkl:k<C.length:=by omega
    have hkb:k<1000:=by have:=hClen.out;omega
    obtain⟨pa,hx,hc,hpa⟩:=HC.out.get k hkl
    have hcell:wr.cell? pa=some (Value.int .i64 (C.getD k 0)):=(hbel.out.cell (p:=pa) hpa).trans hc
    have hM2:=filter_take (p:=inR e) C k hkl
    rw[hF.out] at hM2
    have hE:=filter_end HCU.out k hkl (e:=e)
    rw[hF.out] at hE
    generalize C.getD k 0=y at *
    clear hc hpa hF
    have hsz:=hbel.out.size
    by_cases h2:y<2
    ·have hp:inR e y=false:=by simp[inR];omega
     rw[hp] at hM2
     replace hM2:=hid hM2
     have d1:decide (y<2)=true:=by simpa using h2
     clear hE h2 hp
     go_wp2
     go_roundg g
     case rel=>exact⟨k+1,R,ro,cr,by omega,rfl,by go_num,by omega,hR,hM2,hbel⟩
     case measure=>omega
    ·have d1:decide (y<2)=false:=by simpa using h2
     by_cases he:y ≥ e
     ·have d2:decide (y ≥ e)=true:=by simpa using he
      have hE2:=hid ((hE he).trans HM.out.symm)
      clear hE hM2 h2 he
      go_wp2
      rw[Exit.noGoto_ret]
      go_ret
      refine⟨_,rfl,?_,B3.out.trans (hbel.out.mono B3.out.size)⟩
      rw[← hE2.out]
      exact hR.out.mono B3.out.size
     ·have d2:decide (y ≥ e)=false:=by simpa using he
      have hp:inR e y=true:=by simp[inR];omega
      rw[hp] at hM2
      replace hM2:=hid hM2
      have bA:=hid (hbel.out.alloc hsz (.cells #[.int .i64 y] 3))
      have A1:=hid (H.append_one i0 hi hz0 hz1 hz2 (w0:=w3) _ R y (hR.out.alloc (.cells #[.int .i64 y] 3)) _ (H.heap_newL _ _) bA.out (by simp;omega) (by have:=hClen.out;omega))
      clear hE h2 he hp
      go_wp2_with (first
       | (at_builtin;refine H.wpList_append_any rfl (.tmp 27) (.tmp 29) 32 rfl _ _ rfl rfl (A1.out _) ?_;rintro v1 w4 ⟨⟨ra,rc,rfl⟩,h1,b1⟩;replace h1:=hid h1;replace b1:=hid b1)
       | fail)
      go_roundg g
      case rel=>exact⟨k+1,R++[y],ra,rc,by omega,by simp,by go_num,by simp;omega,by simpa using h1,hM2,b1⟩
      case measure=>omega
def heldN (x:Int):Nat:=(min (max x 2) 400).toNat
theorem heldN_eq (x:Int):min (max x 2) 400=(heldN x:Int):=by unfold heldN;omega
theorem heldN_in (x:Int):2≤heldN x∧heldN x≤400:=by unfold heldN;omega
def newD (last most:Int) (l:List Int):StD:=⟨heldN last,heldN most,[],fun _=>⟨#[]⟩,[],siftL l (min (heldN last:Int) (heldN most:Int))⟩
theorem newD_ok (last most:Int) (l:List Int):StOk (newD last most l):=by
 have h1:=heldN_in last
 have h2:=heldN_in most
 exact { last:=h1,most:=h2,upD:=H.up_nil,upF:=H.up_nil,upA:=siftL_up _ _,inD:=by simp[newD],inF:=by simp[newD],inA:=fun x hx=>by have:=(siftL_mem _ _ _).1 hx;simp only[newD];omega,few:=by simp[newD],noDA:=by simp[newD],noDF:=by simp[newD],noAF:=by simp[newD],small:=by simp[newD,ByteArray.size] }
theorem own_nil (w:World) (B:Nat):OwnInts w B (.slice none 0 0) []:=OwnInts.nil w B
theorem snew_any (fb:Nat) (last most:Int) (l:List Int) (ao:Option Addr) (cap:Nat) (w:World) (h:RowAt w ao cap l) (hl:l.length≤1000) :
  Calls Tryz.prog 8 #[.pointer (some ⟨fb,0,none⟩),.int .i64 last,.int .i64 most,.slice ao l.length cap] w fun r w'=>∃ sb mb va,r=.returned (.pointer (some ⟨sb,0,none⟩))∧StoreAt w' sb mb fb (newD last most l) (.slice none 0 0) va∧w.heap.size≤sb∧w.heap.size≤mb∧Below w.heap.size w w':=by
 have HO:=hid (newD_ok last most l)
 have hN:newD last most l=⟨heldN last,heldN most,[],fun _=>⟨#[]⟩,[],siftL l (min (heldN last:Int) (heldN most:Int))⟩:=rfl
 have e1:=heldN_eq last
 have e2:=heldN_eq most
 have C1:=fun W=>held_any last W
 have C2:=fun W=>held_any most W
 simp only[e1] at C1
 simp only[e2] at C2
 replace C1:=hid C1
 replace C2:=hid C2
 generalize heldN last=L at *
 generalize heldN most=M at *
 have hmin:=fun ats ty=>minInt ats ty (L:Int) (M:Int)
 generalize min (L:Int) (M:Int)=E at *
 have bA:=(qB w.heap.size w).alloc qL (.map #[] 0)
 have C3:=hid (sift_any l ao cap E _ (h.below bA qL) hl)
 have HD:=hid (dirty_made w (fun _=>⟨#[]⟩))
 replace bA:=hid bA
 have hsz:w.heap.size<(w.alloc (.map #[] 0)).heap.size:=by simp
 replace hsz:=hid hsz
 have hmm:=@run_makeMap Tryz.prog
 replace hN:=hid hN
 generalize newD last most l=N at *
 generalize siftL l E=S at *
 clear e1 e2 h hl
 go_enter Tryz.func8,Tryz.ntmps8
 go_wp2_with fail
 refine (C1.out _).mono ?_
 rintro r w1 ⟨rfl,hw1⟩
 rw[hw1]
 clear hw1
 go_wp2_with fail
 refine (C2.out _).mono ?_
 rintro r w1 ⟨rfl,hw1⟩
 rw[hw1]
 clear hw1
 go_wp2_with fail
 refine C3.out.mono ?_
 rintro r w2 ⟨u,rfl,hu,hb⟩
 have hsl:=hu.slice
 have HU:=hid hu
 have HD2:=hid (HD.out.kept (hb.block _ hsz.out))
 have HB2:=hid (bA.out.trans (hb.mono (Nat.le_of_lt hsz.out)))
 have hsz2:Hid (w.heap.size<w2.heap.size):=hid (by have:=hb.size;have:=hsz.out;omega)
 clear hu hb C3 hmin hmm
 obtain⟨uo,uc,rfl⟩:=hsl
 go_wp2
 go_ret
 refine⟨w2.heap.size,w.heap.size,.slice uo S.length uc,rfl,?_,Nat.le_of_lt hsz2.out,Nat.le_refl _,HB2.out.alloc (Nat.le_of_lt hsz2.out) _⟩
 have hN2:=hN.out
 subst hN2
 exact⟨H.heap_newL _ _,HD2.out.kept (qE _ _ _ HD2.out.lt),own_nil _ _,(HU.out.mono (Nat.zero_le _)).alloc _,HO.out⟩
end
end Go.Proofs.YtbghhklbfnplbaaGreat

import Derived.Deep.MidRow
import Derived.Test.YtdihdchfigemnaaGreatC42
import Derived.Test.YtdihdchfigemnaaGreatC49
namespace Go.Proofs.YtdihdchfigemnaaGreat
open Go.RowKit
def Rd (X:World) (sb:Nat) (ps:List PageD):Prop:=∀ (i:Nat) (h:i < ps.length) (W:World),Below X.heap.size X W → Calls Tryz.prog 96 #[.pointer (some ⟨sb,0,none⟩),.int .i64 (num i)] W fun e W' => ∃ u:PV,e = .returned (.tuple #[.agg (cellsPV ps[i] u).toArray,.nilIface]) ∧ (∀ V,Agree W.heap.size W' V → Hangs V ps[i] u.i u.k u.d u.v u.f) ∧ Below W.heap.size W W'
theorem fileV_len (ps:List PageD):(fileV ps).length = ps.length + 2:=by simp [fileV]
theorem readL_fileV {ps:List PageD} {i:Nat} (h:i < ps.length):F.readL (F.newL (fileV ps)) (num i) = bs (bytesD ps[i]):=by
  unfold F.readL F.newL num
  rw [if_pos (by omega)]
  have e:((i:Int) + 2).toNat = i + 2:=by omega
  rw [e]
  simp [fileV,List.getD,h]
theorem rd_of {w X:World} {sb mb fb:Nat} {ps:List PageD} (hn:∀ i (h:i < ps.length),NumP ps[i]) (hl:ps.length ≤ 120) (h:Sf w X sb mb fb (newD (num ps.length) 400 []) (F.newL (fileV ps))):Rd X sb ps:=by
  intro i hi W hW
  have hL:ShOk (F.newL (fileV ps)):=by
    intro t ht
    simp only [F.newL,List.mem_map] at ht
    obtain ⟨b,hb,rfl⟩:=ht
    simp only [fileV,List.mem_cons,List.mem_map] at hb
    rcases hb with rfl | rfl | ⟨p,hp,rfl⟩
    · simp [ByteArray.size]
    · simp [ByteArray.size]
    · obtain ⟨j,hj,rfl⟩:=List.getElem_of_mem hp
      exact bytesD_small _ (hn j hj).txn
  have hr:readS (newD (num ps.length) 400 []) (F.newL (fileV ps)) (num i) = (ps[i],0):=by
    obtain ⟨o1,o2⟩:=okR_bytes ps[i] (hn i hi).2 (hn i hi).txn
    have e:bytesAt (newD (num ps.length) 400 []) (F.newL (fileV ps)) (num i) = bs (bytesD ps[i]):=by
      unfold bytesAt
      rw [if_neg (by simp [newD]),readL_fileV hi]
    have e2:(bs (bytesD ps[i])).data.toList = bytesD ps[i]:=by simp [bs]
    unfold readS
    rw [if_neg (by simp only [num,newD]; have:heldN 400 = 400:=rfl; rw [this]; omega),e,e2,o1]
    simp [readD,o1,o2]
  refine (read_sf (h.below hW) hL (num i) ⟨by unfold num; omega,by unfold num; omega⟩).mono ?_
  rintro e W' ⟨vi,vk,vd,vv,vg,rfl,hh,_,hb⟩
  rw [hr] at hh ⊢
  exact ⟨⟨vi,vk,vd,vv,vg⟩,rfl,hh,hb⟩
theorem NumP.kind {p:PageD} (h:NumP p):p.kind = 1 ∨ p.kind = 2:=by
  rcases h.1 with ⟨l,rfl,_⟩ | ⟨ids,seps,rfl⟩
  · exact .inl rfl
  · exact .inr rfl
theorem agree_up {B C:Nat} {a c:World} (hBC:B ≤ C) (h:Agree B a c):Agree C a c:=⟨h.1,fun q h1 h2 => h.2 q (Nat.le_trans hBC h1) h2⟩
set_option maxRecDepth 10000 in
set_option maxHeartbeats 4000000 in
theorem fread_any {X:World} {sb:Nat} {ps:List PageD} (hR:Rd X sb ps) {i:Nat} (hi:i < ps.length) (hn:NumP ps[i]) (d:Nat) (hd:d ≤ 8) (W:World) (hW:Below X.heap.size X W) :
    Calls Tryz.prog 87 #[.agg #[.int .i64 (num i),.int .i64 (d:Int)],.pointer (some ⟨sb,0,none⟩)] W fun e W' => ∃ u:PV,e = .returned (.tuple #[.agg (cellsPV ps[i] u).toArray,.nilIface]) ∧ (∀ V,Agree W.heap.size W' V → Hangs V ps[i] u.i u.k u.d u.v u.f) ∧ Below W.heap.size W W':=by
  have hb0:=hidA (((Below.refl W.heap.size W).alloc (Nat.le_refl _) (.cells #[.int .i64 (num i),.int .i64 (d:Int)] 121)).alloc (by simp) (.cells #[.int .i64 0,.slice none 0 0,.slice none 0 0,.slice none 0 0,.string ⟨#[]⟩,.slice none 0 0,.slice none 0 0,.int .i64 0,.int .u64 0,.int .i64 0,.int .i64 0,.int .i64 0,.int .i64 0,.int .i64 0] 59))
  have CR:=hidA (hR i hi)
  have hkd:=hn.kind
  have cS:∀ j,((W.alloc (.cells #[.int .i64 (num i),.int .i64 (d:Int)] 121)).alloc (.cells #[.int .i64 0,.slice none 0 0,.slice none 0 0,.slice none 0 0,.string ⟨#[]⟩,.slice none 0 0,.slice none 0 0,.int .i64 0,.int .u64 0,.int .i64 0,.int .i64 0,.int .i64 0,.int .i64 0,.int .i64 0] 59)).cell? ⟨W.heap.size,j,none⟩ = (#[.int .i64 (num i),.int .i64 (d:Int)]:Array Value)[j]?:=cell_rowL ((Below.heap_alloc _ _ _ (by simp)).trans (heap_newL W _))
  have hSp:=hidA ((Below.heap_alloc (W.alloc (.cells #[.int .i64 (num i),.int .i64 (d:Int)] 121)) (.cells #[.int .i64 0,.slice none 0 0,.slice none 0 0,.slice none 0 0,.string ⟨#[]⟩,.slice none 0 0,.slice none 0 0,.int .i64 0,.int .u64 0,.int .i64 0,.int .i64 0,.int .i64 0,.int .i64 0,.int .i64 0] 59) _ (by simp)).trans (heap_newL W (.cells #[.int .i64 (num i),.int .i64 (d:Int)] 121)))
  have hRs:=hidA (heap_newL (W.alloc (.cells #[.int .i64 (num i),.int .i64 (d:Int)] 121)) (.cells #[.int .i64 0,.slice none 0 0,.slice none 0 0,.slice none 0 0,.string ⟨#[]⟩,.slice none 0 0,.slice none 0 0,.int .i64 0,.int .u64 0,.int .i64 0,.int .i64 0,.int .i64 0,.int .i64 0,.int .i64 0] 59))
  have d1:decide ((d:Int) > 8) = false:=by simp; omega
  have hW0:=hidA (hW.trans (hb0.out.mono hW.size))
  have hsz:Hid (((W.alloc (.cells #[.int .i64 (num i),.int .i64 (d:Int)] 121)).alloc (.cells #[.int .i64 0,.slice none 0 0,.slice none 0 0,.slice none 0 0,.string ⟨#[]⟩,.slice none 0 0,.slice none 0 0,.int .i64 0,.int .u64 0,.int .i64 0,.int .i64 0,.int .i64 0,.int .i64 0,.int .i64 0] 59)).heap.size = W.heap.size + 2):=hidA (by simp)
  generalize ps[i] = p at *
  clear hR hn hd hW
  rcases hkd with hk | hk
  · have k1:(p.kind != 1) = false:=by simp [hk]
    have k2:(p.kind != 2) = true:=by simp [hk]
    clear hk
    go_enter Tryz.func87,Tryz.ntmps87
    go_wp2_with fail
    refine (CR.out _ hW0.out).mono ?_
    rintro e Y ⟨⟨vi,vk,vd,vv,vg⟩,rfl,hg,hb⟩
    have hgh:=hg Y ⟨Nat.le_refl _,fun _ _ _ => rfl⟩
    obtain ⟨ai,ni,ci,rfl⟩:=hgh.items.slice
    obtain ⟨ak,nk,ck,rfl⟩:=hgh.keys.slice
    obtain ⟨ad,nd,cd,rfl⟩:=hgh.kids.slice
    obtain ⟨av,nv,cv,rfl⟩:=hgh.vals.slice
    obtain ⟨af,nf,cf,rfl⟩:=hgh.free.slice
    rw [show (cellsPV p ⟨.slice ai ni ci,.slice ak nk ck,.slice ad nd cd,.slice av nv cv,.slice af nf cf⟩).toArray = #[.int .i64 p.kind,.slice ai ni ci,.slice ak nk ck,.slice ad nd cd,.string p.text,.slice av nv cv,.slice af nf cf,.int .i64 p.next,.int .u64 p.mt.txn,.int .i64 p.mt.main.page,.int .i64 p.mt.main.count,.int .i64 p.mt.main.flags,.int .i64 p.mt.free,.int .i64 p.mt.last] from rfl]
    have HG:=hidA hg
    have hsY:=hidA hb.size
    have hRY:=(hb.block _ (F.lt_of_heap hRs.out)).trans hRs.out
    have hSY:=(hb.block _ (F.lt_of_heap hSp.out)).trans hSp.out
    rw [show (W.alloc (.cells #[.int .i64 (num i),.int .i64 (d:Int)] 121)).heap.size = W.heap.size + 1 by simp] at hRY
    have hRY2:=hidA hRY
    have hSY2:=hidA hSY
    have cR:∀ j,(Y.alloc (.cells #[.int .i64 p.kind,.slice ai ni ci,.slice ak nk ck,.slice ad nd cd,.string p.text,.slice av nv cv,.slice af nf cf,.int .i64 p.next,.int .u64 p.mt.txn,.int .i64 p.mt.main.page,.int .i64 p.mt.main.count,.int .i64 p.mt.main.flags,.int .i64 p.mt.free,.int .i64 p.mt.last] 59)).cell? ⟨W.heap.size + 1,j,none⟩ = _:=cell_rowL ((Below.heap_alloc Y (.cells #[.int .i64 p.kind,.slice ai ni ci,.slice ak nk ck,.slice ad nd cd,.string p.text,.slice av nv cv,.slice af nf cf,.int .i64 p.next,.int .u64 p.mt.txn,.int .i64 p.mt.main.page,.int .i64 p.mt.main.count,.int .i64 p.mt.main.flags,.int .i64 p.mt.free,.int .i64 p.mt.last] 59) _ (F.lt_of_heap hRY)).trans hRY)
    have fR:=frozen_rowL ((Below.heap_alloc Y (.cells #[.int .i64 p.kind,.slice ai ni ci,.slice ak nk ck,.slice ad nd cd,.string p.text,.slice av nv cv,.slice af nf cf,.int .i64 p.next,.int .u64 p.mt.txn,.int .i64 p.mt.main.page,.int .i64 p.mt.main.count,.int .i64 p.mt.main.flags,.int .i64 p.mt.free,.int .i64 p.mt.last] 59) _ (F.lt_of_heap hRY)).trans hRY)
    have cY:∀ j,(Y.alloc (.cells #[.int .i64 p.kind,.slice ai ni ci,.slice ak nk ck,.slice ad nd cd,.string p.text,.slice av nv cv,.slice af nf cf,.int .i64 p.next,.int .u64 p.mt.txn,.int .i64 p.mt.main.page,.int .i64 p.mt.main.count,.int .i64 p.mt.main.flags,.int .i64 p.mt.free,.int .i64 p.mt.last] 59)).cell? ⟨W.heap.size,j,none⟩ = _:=cell_rowL ((Below.heap_alloc Y (.cells #[.int .i64 p.kind,.slice ai ni ci,.slice ak nk ck,.slice ad nd cd,.string p.text,.slice av nv cv,.slice af nf cf,.int .i64 p.next,.int .u64 p.mt.txn,.int .i64 p.mt.main.page,.int .i64 p.mt.main.count,.int .i64 p.mt.main.flags,.int .i64 p.mt.free,.int .i64 p.mt.last] 59) _ (F.lt_of_heap hSY)).trans hSY)
    have cP:=cell_rowL (heap_newL Y (.cells #[.int .i64 p.kind,.slice ai ni ci,.slice ak nk ck,.slice ad nd cd,.string p.text,.slice av nv cv,.slice af nf cf,.int .i64 p.next,.int .u64 p.mt.txn,.int .i64 p.mt.main.page,.int .i64 p.mt.main.count,.int .i64 p.mt.main.flags,.int .i64 p.mt.free,.int .i64 p.mt.last] 59))
    have HB:=hidA (hb0.out.trans (hb.mono hb0.out.size))
    clear hg hb hgh hRY hSY cS
    go_wp2
    refine bodyPost_ret (v:=.tuple #[.agg #[.int .i64 p.kind,.slice ai ni ci,.slice ak nk ck,.slice ad nd cd,.string p.text,.slice av nv cv,.slice af nf cf,.int .i64 p.next,.int .u64 p.mt.txn,.int .i64 p.mt.main.page,.int .i64 p.mt.main.count,.int .i64 p.mt.main.flags,.int .i64 p.mt.free,.int .i64 p.mt.last],.nilIface]) (by simp [results,Tryz.results87,go_sem,cR]) rfl ⟨⟨.slice ai ni ci,.slice ak nk ck,.slice ad nd cd,.slice av nv cv,.slice af nf cf⟩,rfl,?_,?_⟩
    · intro V hV
      refine HG.out V (agree_set (R:=W.heap.size + 1) (by simp) ?_ (agree_up (Nat.le_succ _) hV))
      repeat (refine grown_trans ?_ (grown_setCell _ _ _ _))
      exact ⟨rfl,rfl,rfl,by simp,fun k hk _ => Below.heap_alloc _ _ _ hk⟩
    · repeat (refine Below.setCell ?_ (by simp) _)
      exact HB.out.alloc (by have:=HB.out.size; exact this) _
  · have k1:(p.kind != 1) = true:=by simp [hk]
    have k2:(p.kind != 2) = false:=by simp [hk]
    clear hk
    go_enter Tryz.func87,Tryz.ntmps87
    go_wp2_with fail
    refine (CR.out _ hW0.out).mono ?_
    rintro e Y ⟨⟨vi,vk,vd,vv,vg⟩,rfl,hg,hb⟩
    have hgh:=hg Y ⟨Nat.le_refl _,fun _ _ _ => rfl⟩
    obtain ⟨ai,ni,ci,rfl⟩:=hgh.items.slice
    obtain ⟨ak,nk,ck,rfl⟩:=hgh.keys.slice
    obtain ⟨ad,nd,cd,rfl⟩:=hgh.kids.slice
    obtain ⟨av,nv,cv,rfl⟩:=hgh.vals.slice
    obtain ⟨af,nf,cf,rfl⟩:=hgh.free.slice
    rw [show (cellsPV p ⟨.slice ai ni ci,.slice ak nk ck,.slice ad nd cd,.slice av nv cv,.slice af nf cf⟩).toArray = #[.int .i64 p.kind,.slice ai ni ci,.slice ak nk ck,.slice ad nd cd,.string p.text,.slice av nv cv,.slice af nf cf,.int .i64 p.next,.int .u64 p.mt.txn,.int .i64 p.mt.main.page,.int .i64 p.mt.main.count,.int .i64 p.mt.main.flags,.int .i64 p.mt.free,.int .i64 p.mt.last] from rfl]
    have HG:=hidA hg
    have hsY:=hidA hb.size
    have hRY:=(hb.block _ (F.lt_of_heap hRs.out)).trans hRs.out
    have hSY:=(hb.block _ (F.lt_of_heap hSp.out)).trans hSp.out
    rw [show (W.alloc (.cells #[.int .i64 (num i),.int .i64 (d:Int)] 121)).heap.size = W.heap.size + 1 by simp] at hRY
    have hRY2:=hidA hRY
    have hSY2:=hidA hSY
    have cR:∀ j,(Y.alloc (.cells #[.int .i64 p.kind,.slice ai ni ci,.slice ak nk ck,.slice ad nd cd,.string p.text,.slice av nv cv,.slice af nf cf,.int .i64 p.next,.int .u64 p.mt.txn,.int .i64 p.mt.main.page,.int .i64 p.mt.main.count,.int .i64 p.mt.main.flags,.int .i64 p.mt.free,.int .i64 p.mt.last] 59)).cell? ⟨W.heap.size + 1,j,none⟩ = _:=cell_rowL ((Below.heap_alloc Y (.cells #[.int .i64 p.kind,.slice ai ni ci,.slice ak nk ck,.slice ad nd cd,.string p.text,.slice av nv cv,.slice af nf cf,.int .i64 p.next,.int .u64 p.mt.txn,.int .i64 p.mt.main.page,.int .i64 p.mt.main.count,.int .i64 p.mt.main.flags,.int .i64 p.mt.free,.int .i64 p.mt.last] 59) _ (F.lt_of_heap hRY)).trans hRY)
    have fR:=frozen_rowL ((Below.heap_alloc Y (.cells #[.int .i64 p.kind,.slice ai ni ci,.slice ak nk ck,.slice ad nd cd,.string p.text,.slice av nv cv,.slice af nf cf,.int .i64 p.next,.int .u64 p.mt.txn,.int .i64 p.mt.main.page,.int .i64 p.mt.main.count,.int .i64 p.mt.main.flags,.int .i64 p.mt.free,.int .i64 p.mt.last] 59) _ (F.lt_of_heap hRY)).trans hRY)
    have cY:∀ j,(Y.alloc (.cells #[.int .i64 p.kind,.slice ai ni ci,.slice ak nk ck,.slice ad nd cd,.string p.text,.slice av nv cv,.slice af nf cf,.int .i64 p.next,.int .u64 p.mt.txn,.int .i64 p.mt.main.page,.int .i64 p.mt.main.count,.int .i64 p.mt.main.flags,.int .i64 p.mt.free,.int .i64 p.mt.last] 59)).cell? ⟨W.heap.size,j,none⟩ = _:=cell_rowL ((Below.heap_alloc Y (.cells #[.int .i64 p.kind,.slice ai ni ci,.slice ak nk ck,.slice ad nd cd,.string p.text,.slice av nv cv,.slice af nf cf,.int .i64 p.next,.int .u64 p.mt.txn,.int .i64 p.mt.main.page,.int .i64 p.mt.main.count,.int .i64 p.mt.main.flags,.int .i64 p.mt.free,.int .i64 p.mt.last] 59) _ (F.lt_of_heap hSY)).trans hSY)
    have cP:=cell_rowL (heap_newL Y (.cells #[.int .i64 p.kind,.slice ai ni ci,.slice ak nk ck,.slice ad nd cd,.string p.text,.slice av nv cv,.slice af nf cf,.int .i64 p.next,.int .u64 p.mt.txn,.int .i64 p.mt.main.page,.int .i64 p.mt.main.count,.int .i64 p.mt.main.flags,.int .i64 p.mt.free,.int .i64 p.mt.last] 59))
    have HB:=hidA (hb0.out.trans (hb.mono hb0.out.size))
    clear hg hb hgh hRY hSY cS
    go_wp2
    refine bodyPost_ret (v:=.tuple #[.agg #[.int .i64 p.kind,.slice ai ni ci,.slice ak nk ck,.slice ad nd cd,.string p.text,.slice av nv cv,.slice af nf cf,.int .i64 p.next,.int .u64 p.mt.txn,.int .i64 p.mt.main.page,.int .i64 p.mt.main.count,.int .i64 p.mt.main.flags,.int .i64 p.mt.free,.int .i64 p.mt.last],.nilIface]) (by simp [results,Tryz.results87,go_sem,cR]) rfl ⟨⟨.slice ai ni ci,.slice ak nk ck,.slice ad nd cd,.slice av nv cv,.slice af nf cf⟩,rfl,?_,?_⟩
    · intro V hV
      refine HG.out V (agree_set (R:=W.heap.size + 1) (by simp) ?_ (agree_up (Nat.le_succ _) hV))
      repeat (refine grown_trans ?_ (grown_setCell _ _ _ _))
      exact ⟨rfl,rfl,rfl,by simp,fun k hk _ => Below.heap_alloc _ _ _ hk⟩
    · repeat (refine Below.setCell ?_ (by simp) _)
      exact HB.out.alloc (by have:=HB.out.size; exact this) _
end Go.Proofs.YtdihdchfigemnaaGreat

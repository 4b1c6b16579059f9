import Derived.ProofKit
import Derived.OpenShut
import Derived.ChangeOld
import Derived.Deep.Slices
import Derived.Deep.WholeRow
import Derived.Deep.MidRow
import Derived.Lib.QuietBelow
import Derived.Test.YtdihdchfigemnaaGreatC57
import Derived.Test.YtdihdchfigemnaaGreatC27
namespace Go.Proofs.YtdihdchfigemnaaGreat
open Go.ChangeShapes Go.WideShapes Go.ChangeAt Go.RowKit Go.Deep
def KeysOk (w:World) (v:Value) (l:List Nat):Prop:=KeysAt w v l ∧ ∀ y ∈ l,y < 256
section
variable {H:Type} {enc:TypeId × Value → H} {w:World} {base:Nat} {spare:Nat → Bool} {held:Bool}
def byteIn:Value → Int | .int _ n => n | _ => 0
theorem cellsU8:Tryz.prog.cellsOf 5 = 1:=by kernel_rfl
theorem open_keys {n:Nat} {v:Value} {y:DataW H × List MemPlace} (h:DataW.trod enc Tryz.prog w base spare held n 22 [v] = some y):∃ l,KeysOk w v l:=by
  rcases open_slice1 Tryz.underlying22 cellsU8 h with ⟨hcs,_⟩ | ⟨x,l,c,m,n,V,D,Pl,hcs,_,hl,hm,hmm,_,hcell⟩
  · simp only [List.cons.injEq,and_true] at hcs
    subst hcs
    exact ⟨[],⟨none,0,rfl,by simp [maxLen],fun i hi => absurd hi (by simp)⟩,by simp⟩
  · simp only [List.cons.injEq,and_true] at hcs
    subst hcs
    have key:∀ i,i < l → w.cell? (x.add i) = some (.int .u8 (byteIn (V i))) ∧ 0 ≤ byteIn (V i) ∧ byteIn (V i) ≤ 255:=fun i hi' => by
      have hm':i < m:=by rw [hmm]; split <;> omega
      obtain ⟨hc,ht⟩:=hcell i hm'
      obtain ⟨y,hy,_,hwf⟩:=DataW.trod_int Tryz.underlying5 ht
      simp only [List.cons.injEq,and_true] at hy
      have hb:=bounds_u8 hwf
      rw [hc,hy]
      exact ⟨rfl,hb.1,by have:=hb.2; simp only [byteIn]; omega⟩
    refine ⟨(List.range l).map fun i => (byteIn (V i)).toNat,⟨some x,c,by simp,by simp; omega,fun i hi => ⟨x,rfl,?_⟩⟩,fun y hy => ?_⟩
    · have hi':i < l:=by simpa using hi
      obtain ⟨k1,k2,_⟩:=key i hi'
      simp only [List.getElem_map,List.getElem_range]
      rw [k1,Int.toNat_of_nonneg k2]
    · obtain ⟨i,hi,rfl⟩:=List.mem_map.1 hy
      have:=key i (List.mem_range.1 hi)
      omega
end
def thereA (keys:List Nat) (k:Nat):Array Value:=((List.range 256).map fun i => Value.bool (decide (i ∈ keys.take k))).toArray
theorem there_size (keys:List Nat) (k:Nat):(thereA keys k).size = 256:=by simp [thereA]
theorem there_get (keys:List Nat) (k:Nat) {i:Nat} (hi:i < 256):(thereA keys k)[i]? = some (.bool (decide (i ∈ keys.take k))):=by simp [thereA,hi]
theorem there_zero (keys:List Nat):thereA keys 0 = Array.replicate 256 (.bool false):=by
  apply Array.ext (by simp [thereA])
  intro i h1 h2
  simp [thereA]
theorem there_set {keys:List Nat} {k:Nat} (hk:k < keys.length):(thereA keys k).setIfInBounds (keys.getD k 0) (.bool true) = thereA keys (k + 1):=by
  apply Array.ext (by simp [thereA])
  intro i h1 h2
  have h3:i < 256:=by simpa [thereA] using h2
  have h4:i < (thereA keys k).size:=by rw [there_size]; exact h3
  rw [Array.getElem_setIfInBounds h4]
  have e:(i ∈ keys.take (k + 1)) ↔ (i ∈ keys.take k ∨ i = keys.getD k 0):=take_succ_mem hk
  by_cases hx:keys.getD k 0 = i
  · rw [if_pos hx]
    have h5:i ∈ keys.take (k + 1):=e.2 (.inr hx.symm)
    simp [thereA,h5]
  · rw [if_neg hx]
    have h5:(i ∈ keys.take (k + 1)) ↔ (i ∈ keys.take k):=⟨fun h => (e.1 h).resolve_right fun h => hx h.symm,fun h => e.2 (.inl h)⟩
    simp [thereA,h5]
theorem Tryz.arr256:Tryz.prog.underlying 35 = some (.array (Tryz.prog.arrayLen 35) (Tryz.prog.elem 35)):=by kernel_rfl
theorem Tryz.len256:Tryz.prog.arrayLen 35 = 256:=by kernel_rfl
theorem Tryz.size256 (w:World):(Go.sizeOf (Tryz.prog.elem 35)).run Tryz.prog w = .ok 1 w:=by kernel_rfl
theorem at256 (b:Nat) (k:IntKind) (i:Nat) (hi:i < 256) (w:World):(Instr.indexAt 35 (.pointer (some ⟨b,0,none⟩)) (.int k (i:Int))).run Tryz.prog w = .ok (.pointer (some ⟨b,i,none⟩)) w:=by
  rw [run_indexAt_array (P:=Tryz.prog) w 35 ⟨b,0,none⟩ k i Tryz.arr256,Tryz.len256,if_pos (by omega),Tryz.size256]
  simp [Result.andThen,Addr.add_mid]
theorem Tryz.info256:(Tryz.prog.info? 35).map (fun i => (i.zero,i.size)) = some (some (.agg (Array.replicate 256 (.bool false))),256):=by kernel_rfl
theorem run256 (ρ:Operand → Value) (d:Option Tmp) (ty:TypeId) (pos:String) (w:World):(execOp ρ ⟨d,.alloc 35,ty,pos,#[],none⟩).run Tryz.prog w = .ok (.value (.pointer (some ⟨w.heap.size,0,none⟩))) (w.alloc (.cells (thereA [] 0) 35)):=by
  have h0:=(zero_of_info Tryz.info256).1 w
  rw [there_zero]
  generalize Array.replicate 256 (Value.bool false) = z at *
  simp only [execOp,Instr.alloc,Sem.run_bind,h0,Result.andThen_ok]
  simp [newVar,newRow,go_sem]
theorem alloc256 {id:Nat} {Q:Exit → Act → World → Prop} {a:Act} {w:World} {d:Tmp} {ty:TypeId} {pos:String} (hK:Q .normal (a.put (some d) (.pointer (some ⟨w.heap.size,0,none⟩))) (w.alloc (.cells (thereA [] 0) 35))):(Code.region id #[⟨some d,.alloc 35,ty,pos,#[],none⟩] false).wp Tryz.prog Q a w:=by
  refine wp_region ?_
  show wpOps Tryz.prog #[_] Q [0] a w
  rw [wpOps_cons]
  unfold wpOp
  show (if _ then _ else _)
  rw [if_pos (by rfl)]
  refine Or.inl ?_
  unfold Oper.wp
  show Oper.upon Tryz.prog _ a _ Q ((execOp a.eval ⟨some d,.alloc 35,ty,pos,#[],none⟩).run Tryz.prog w)
  rw [run256]
  exact hK
theorem find_is (L:List Nat) (i:Nat):L.find? (fun y => decide (y = i)) = if i ∈ L then some i else none:=by
  induction L with
  | nil => rfl
  | cons a l ih =>
    rw [List.find?_cons,ih]
    by_cases h:a = i
    · subst h
      simp
    · have h2:¬ i = a:=fun e => h e.symm
      simp [h,h2]
theorem neqNil10 (w:World):(binOp .neq 38 .nilIface .nilIface).run Tryz.prog w = .ok (.bool false) w:=by kernel_rfl
end Go.Proofs.YtdihdchfigemnaaGreat

import Derived.Deep.QuietTactic
import Derived.BigQuiet
import Derived.Lib.QuietBelow
import Derived.Deep.MidRow
import Derived.Deep.RegionWith
import Derived.Test.YtbghhklbfnplbaaGreatC00
import Derived.Test.YtbghhklbfnplbaaGreatRows
import Derived.Test.YtbghhklbfnplbaaGreatC03
set_option maxHeartbeats 1000000
namespace Go.Proofs.YtbghhklbfnplbaaGreat
section
open Go.RowKit
structure RootD where
 page:Int
 count:Int
 flags:Int
structure ItemD where
 key:ByteArray
 kind:Int
 val:ByteArray
 run:Int
 len:Int
 vals:List ByteArray
 dup:Int
 root:RootD
structure FreeD where
 txn:Int
 ids:List Int
structure MetaD where
 txn:Int
 main:RootD
 free:Int
 last:Int
structure PageD where
 kind:Int
 items:List ItemD
 keys:List ByteArray
 kids:List Int
 text:ByteArray
 vals:List ByteArray
 free:List FreeD
 next:Int
 mt:MetaD
def StrsAt (w:World) (v:Value) (l:List ByteArray):Prop:=
 ∃ ao cap,v=.slice ao l.length cap∧(l.length≤maxLen∧l.length≤cap)∧∀ i (h:i<l.length),∃ a,ao=some a∧w.cell? (a.add i)=some (.string l[i])∧l[i].size≤maxLen
def IntsAt (w:World) (v:Value) (l:List Int):Prop:=
 ∃ ao cap,v=.slice ao l.length cap∧l.length≤maxLen∧∀ i (h:i<l.length),∃ a,ao=some a∧w.cell? (a.add i)=some (.int .i64 l[i])
theorem StrsAt.below {w w':World} {v:Value} {l:List ByteArray} (h:StrsAt w v l) (hb:Below w.heap.size w w'):StrsAt w' v l:=by
 obtain⟨ao,cap,h1,h2,h3⟩:=h
 refine⟨ao,cap,h1,h2,fun i hi=>?_⟩
 obtain⟨a,ha,hc,hs⟩:=h3 i hi
 exact⟨a,ha,(hb.cell (p:=a.add i) (qF w _ hc)).trans hc,hs⟩
theorem IntsAt.below {w w':World} {v:Value} {l:List Int} (h:IntsAt w v l) (hb:Below w.heap.size w w'):IntsAt w' v l:=by
 obtain⟨ao,cap,h1,h2,h3⟩:=h
 refine⟨ao,cap,h1,h2,fun i hi=>?_⟩
 obtain⟨a,ha,hc⟩:=h3 i hi
 exact⟨a,ha,(hb.cell (p:=a.add i) (qF w _ hc)).trans hc⟩
def FreesOld (w:World) (v:Value) (l:List FreeD):Prop:=
 ∃ ao cap,v=.slice ao l.length cap∧l.length≤maxLen∧∀ i (h:i<l.length),∃ a u,ao=some a∧w.cell? (a.add (i*2))=some (.int .u64 l[i].txn)∧w.cell? ⟨(a.add (i*2)).block,(a.add (i*2)).off+1,none⟩=some u∧IntsAt w u l[i].ids
theorem Tryz.elemFrees:Tryz.prog.underlying 54=some (.slice (Tryz.prog.elem 54)):=by kernel_rfl
theorem Tryz.sizeFrees (w:World):(Go.sizeOf (Tryz.prog.elem 54)).run Tryz.prog w=.ok 2 w:=by kernel_rfl
theorem atFrees {ao:Option Addr} {a:Addr} (len cap k:Nat) (ha:ao=some a) (h:k<len) (w:World):(Instr.indexAt 54 (.slice ao len cap) (.int .i64 (k:Int))).run Tryz.prog w=.ok (.pointer (some (a.add (k*2)))) w:=by
 subst ha
 rw[run_indexAt_slice (P:=Tryz.prog) w 54 a len cap .i64 k Tryz.elemFrees,if_pos (by omega),Tryz.sizeFrees]
 simp[Result.andThen]
theorem Tryz.elemStrs:Tryz.prog.underlying 31=some (.slice (Tryz.prog.elem 31)):=by kernel_rfl
theorem Tryz.sizeStrs (w:World):(Go.sizeOf (Tryz.prog.elem 31)).run Tryz.prog w=.ok 1 w:=by kernel_rfl
theorem Tryz.elemInts:Tryz.prog.underlying 32=some (.slice (Tryz.prog.elem 32)):=by kernel_rfl
theorem Tryz.sizeInts (w:World):(Go.sizeOf (Tryz.prog.elem 32)).run Tryz.prog w=.ok 1 w:=by kernel_rfl
theorem atStrs {ao:Option Addr} {a:Addr} (len cap k:Nat) (ha:ao=some a) (h:k<len) (w:World):(Instr.indexAt 31 (.slice ao len cap) (.int .i64 (k:Int))).run Tryz.prog w=.ok (.pointer (some (a.add k))) w:=by
 subst ha
 rw[run_indexAt_slice (P:=Tryz.prog) w 31 a len cap .i64 k Tryz.elemStrs,if_pos (by omega),Tryz.sizeStrs]
 simp[Result.andThen]
theorem atInts {ao:Option Addr} {a:Addr} (len cap k:Nat) (ha:ao=some a) (h:k<len) (w:World):(Instr.indexAt 32 (.slice ao len cap) (.int .i64 (k:Int))).run Tryz.prog w=.ok (.pointer (some (a.add k))) w:=by
 subst ha
 rw[run_indexAt_slice (P:=Tryz.prog) w 32 a len cap .i64 k Tryz.elemInts,if_pos (by omega),Tryz.sizeInts]
 simp[Result.andThen]
theorem below_draws (w:World) (n:Nat):Below w.heap.size w (w.drewN n):=⟨rfl,rfl,rfl,Nat.le_refl _,fun _ _=>rfl⟩
theorem ret_bool {a b:Bool} (h:a=b):Ending.returned (.bool a)=.returned (.bool b):=by rw[h]
def ltB (a b:ByteArray):Bool:=Op.bytesLess a.toList b.toList
def shortB (s:ByteArray):Bool:=decide (1≤s.size)&&decide (s.size≤8)
def pageB (n:Int):Bool:=decide (2≤n)&&decide (n<400)
def rootB (r:RootD):Bool:=(r.page==0||pageB r.page)&&decide (0≤r.count)&&decide (r.count≤1000000)&&(r.flags==0||r.flags==1)
def goodV (l:List ByteArray) (i:Nat):Bool:=
 decide (1≤(l.getD i ⟨#[]⟩).size)&&decide ((l.getD i ⟨#[]⟩).size≤12)&&(i==0||ltB (l.getD (i - 1) ⟨#[]⟩) (l.getD i ⟨#[]⟩))
def valsB (l:List ByteArray) (least most:Int):Bool:=(List.range l.length).all (goodV l)&&decide (least≤l.length)&&decide ((l.length:Int)≤most)
theorem all_range_succ (p:Nat→Bool) (k:Nat):(List.range (k+1)).all p=((List.range k).all p&&p k):=by simp[List.range_succ,List.all_append]
theorem all_range_bad (p:Nat→Bool) (k n:Nat) (h:k<n) (hp:p k=false):(List.range n).all p=false:=by
 rw[List.all_eq_false]
 exact⟨k,List.mem_range.2 h,by simp[hp]⟩
end
section
open Go.RowKit Go.Sort
theorem bcell {W w1:World} (hb:Below W.heap.size W w1):∀ b o,b<W.heap.size→w1.cell? ⟨b,o,none⟩=W.cell? ⟨b,o,none⟩:=fun b o h=>hb.cell (p:=⟨b,o,none⟩) h
def itemCells (x:ItemD) (v:Value):List Value:=
 [.string x.key,.int .i64 x.kind,.string x.val,.int .i64 x.run,.int .i64 x.len,v,.int .i64 x.dup,.int .i64 x.root.page,.int .i64 x.root.count,.int .i64 x.root.flags]
def sameRootB (a b:RootD):Bool:=a.page==b.page&&(a.count==b.count&&a.flags==b.flags)
def sameItemB (x y:ItemD):Bool:=
 (x.key.toList==y.key.toList)&&(x.kind==y.kind)&&(x.val.toList==y.val.toList)&&(x.run==y.run)&&(x.len==y.len)&&decide (x.vals=y.vals)&&(x.dup==y.dup)&&sameRootB x.root y.root
def sameFreeB (x y:FreeD):Bool:=x.txn==y.txn&&decide (x.ids=y.ids)
def sameFreesB (l m:List FreeD):Bool:=decide (l.length=m.length)&&(List.range l.length).all fun i=>sameFreeB (l.getD i ⟨0,[]⟩) (m.getD i ⟨0,[]⟩)
def FreesAt (w:World) (v:Value) (l:List FreeD):Prop:=
 ∃ ao cap,v=.slice ao l.length cap∧l.length≤maxLen∧∀ i (h:i<l.length),∃ b o u,ao=some ⟨b,o,none⟩∧b<w.heap.size∧w.cell? ⟨b,o+i*2,none⟩=some (.int .u64 l[i].txn)∧w.cell? ⟨b,o+i*2+1,none⟩=some u∧IntsAt w u l[i].ids
theorem FreesAt.below {w w':World} {v:Value} {l:List FreeD} (h:FreesAt w v l) (hb:Below w.heap.size w w'):FreesAt w' v l:=by
 obtain⟨ao,cap,h1,h2,h3⟩:=h
 refine⟨ao,cap,h1,h2,fun i hi=>?_⟩
 obtain⟨b,o,u,ha,hlt,hc,hd,hu⟩:=h3 i hi
 exact⟨b,o,u,ha,qM hlt hb.size,(hb.cell (p:=⟨b,o+i*2,none⟩) hlt).trans hc,(hb.cell (p:=⟨b,o+i*2+1,none⟩) hlt).trans hd,hu.below hb⟩
theorem FreesAt.old {w:World} {v:Value} {l:List FreeD} (h:FreesAt w v l):FreesOld w v l:=by
 obtain⟨ao,cap,h1,h2,h3⟩:=h
 refine⟨ao,cap,h1,h2,fun i hi=>?_⟩
 obtain⟨b,o,u,ha,hlt,hc,hd,hu⟩:=h3 i hi
 refine⟨⟨b,o,none⟩,u,ha,?_,?_,hu⟩
 ·rw[Addr.add_mid];exact hc
 ·rw[Addr.add_mid];exact hd
theorem atFreesM {ao:Option Addr} {b o:Nat} (len cap k:Nat) (ha:ao=some ⟨b,o,none⟩) (h:k<len) (w:World):(Instr.indexAt 54 (.slice ao len cap) (.int .i64 (k:Int))).run Tryz.prog w=.ok (.pointer (some ⟨b,o+k*2,none⟩)) w:=by
 rw[atFrees len cap k ha h,Addr.add_mid]
def ItemsAt (w:World) (v:Value) (l:List ItemD):Prop:=
 ∃ ao cap,v=.slice ao l.length cap∧l.length≤maxLen∧∀ i (h:i<l.length),∃ b o u,ao=some ⟨b,o,none⟩∧b<w.heap.size∧w.rangeAt b (o+i*10) (itemCells l[i] u)∧StrsAt w u l[i].vals∧l[i].key.size≤maxLen∧l[i].val.size≤maxLen
theorem range_below {w w':World} {b o:Nat} {cs:List Value} (h:w.rangeAt b o cs) (hb:Below w.heap.size w w') (hlt:b<w.heap.size):w'.rangeAt b o cs:=
 fun j v hj=>(hb.cell (p:=⟨b,o+j,none⟩) hlt).trans (h j v hj)
theorem ItemsAt.below {w w':World} {v:Value} {l:List ItemD} (h:ItemsAt w v l) (hb:Below w.heap.size w w'):ItemsAt w' v l:=by
 obtain⟨ao,cap,h1,h2,h3⟩:=h
 refine⟨ao,cap,h1,h2,fun i hi=>?_⟩
 obtain⟨b,o,u,ha,hlt,hr,hu,hk,hv⟩:=h3 i hi
 exact⟨b,o,u,ha,qM hlt hb.size,range_below hr hb hlt,hu.below hb,hk,hv⟩
theorem Tryz.elemItems:Tryz.prog.underlying 36=some (.slice (Tryz.prog.elem 36)):=by kernel_rfl
theorem Tryz.sizeItems (w:World):(Go.sizeOf (Tryz.prog.elem 36)).run Tryz.prog w=.ok 10 w:=by kernel_rfl
theorem atItems {ao:Option Addr} {b o:Nat} (len cap k:Nat) (ha:ao=some ⟨b,o,none⟩) (h:k<len) (w:World):(Instr.indexAt 36 (.slice ao len cap) (.int .i64 (k:Int))).run Tryz.prog w=.ok (.pointer (some ⟨b,o+k*10,none⟩)) w:=by
 subst ha
 rw[run_indexAt_slice (P:=Tryz.prog) w 36 ⟨b,o,none⟩ len cap .i64 k Tryz.elemItems,if_pos (by omega),Tryz.sizeItems]
 simp only[Result.andThen,Int.toNat_natCast,Addr.add_mid]
theorem range10 {w:World} {b o:Nat} {x:ItemD} {u:Value} (h:w.rangeAt b o (itemCells x u)) :
  w.cell? ⟨b,o,none⟩=some (.string x.key)∧w.cell? ⟨b,o+1,none⟩=some (.int .i64 x.kind)∧w.cell? ⟨b,o+2,none⟩=some (.string x.val)∧w.cell? ⟨b,o+3,none⟩=some (.int .i64 x.run)∧w.cell? ⟨b,o+4,none⟩=some (.int .i64 x.len) ∧
  w.cell? ⟨b,o+5,none⟩=some u∧w.cell? ⟨b,o+6,none⟩=some (.int .i64 x.dup)∧w.cell? ⟨b,o+7,none⟩=some (.int .i64 x.root.page)∧w.cell? ⟨b,o+8,none⟩=some (.int .i64 x.root.count)∧w.cell? ⟨b,o+9,none⟩=some (.int .i64 x.root.flags):=
 ⟨h 0 _ rfl,h 1 _ rfl,h 2 _ rfl,h 3 _ rfl,h 4 _ rfl,h 5 _ rfl,h 6 _ rfl,h 7 _ rfl,h 8 _ rfl,h 9 _ rfl⟩
def pageCells (p:PageD) (vi vk vd vv vf:Value):List Value:=
 [.int .i64 p.kind,vi,vk,vd,.string p.text,vv,vf,.int .i64 p.next,.int .u64 p.mt.txn,.int .i64 p.mt.main.page,.int .i64 p.mt.main.count,.int .i64 p.mt.main.flags,.int .i64 p.mt.free,.int .i64 p.mt.last]
structure Hangs (w:World) (p:PageD) (vi vk vd vv vf:Value):Prop where
 items:ItemsAt w vi p.items
 keys:StrsAt w vk p.keys
 kids:IntsAt w vd p.kids
 text:p.text.size≤maxLen
 vals:StrsAt w vv p.vals
 free:FreesAt w vf p.free
theorem Hangs.below {w w':World} {p:PageD} {vi vk vd vv vf:Value} (h:Hangs w p vi vk vd vv vf) (hb:Below w.heap.size w w'):Hangs w' p vi vk vd vv vf:=
 ⟨h.items.below hb,h.keys.below hb,h.kids.below hb,h.text,h.vals.below hb,h.free.below hb⟩
def sameMetaB (a b:MetaD):Bool:=(a.txn==b.txn)&&((a.main.page==b.main.page&&(a.main.count==b.main.count&&a.main.flags==b.main.flags))&&(a.free==b.free&&a.last==b.last))
def itemAt (l:List ItemD) (i:Nat):ItemD:=l.getD i ⟨⟨#[]⟩,0,⟨#[]⟩,0,0,[],0,⟨0,0,0⟩⟩
theorem base2 {w X:World} {o1 o2:Obj} (h:Below (w.heap.size+2) ((w.alloc o1).alloc o2) X):Below w.heap.size w X:=
 (Below.alloc (Below.alloc (qB _ _) qL o1) (by simp) o2).trans (h.mono (by omega))
theorem step2 {w X Y:World} {o1 o2:Obj} (h:Below (w.heap.size+2) ((w.alloc o1).alloc o2) X) (hb:Below X.heap.size X Y):Below (w.heap.size+2) ((w.alloc o1).alloc o2) Y:=
 h.trans (hb.mono (by have:=h.size;simp at this;omega))
theorem cells2 {w X:World} {o1 o2:Obj} (h:Below (w.heap.size+2) ((w.alloc o1).alloc o2) X):∀ b o,b<w.heap.size+2→X.cell? ⟨b,o,none⟩=((w.alloc o1).alloc o2).cell? ⟨b,o,none⟩:=
 fun b o hb=>h.cell (p:=⟨b,o,none⟩) hb
end
section
open Go.RowKit Go.Sort
def withinB (n a b:Int):Bool:=decide (a≤n)&&decide (n≤b)
def sizedB (s:ByteArray) (a b:Int):Bool:=withinB s.size a b
def noneB (n:Int):Bool:=n==0||pageB n
theorem within_any (n a b:Int) (w:World) :
  Calls Tryz.prog 161 #[.int .i64 n,.int .i64 a,.int .i64 b] w fun e w'=>e=.returned (.bool (withinB n a b))∧w'=w:=by
 go_enter Tryz.func161,Tryz.ntmps161
 go_wp2
 all_goals
  go_ret
  refine⟨ret_bool ?_,rfl⟩
  rw[Bool.eq_iff_iff]
  simp[withinB]
  omega
theorem sized_any (s:ByteArray) (a b:Int) (w:World) (_hs:s.size≤maxLen) :
  Calls Tryz.prog 156 #[.string s,.int .i64 a,.int .i64 b] w fun e w'=>e=.returned (.bool (sizedB s a b))∧w'=w:=by
 unfold maxLen at _hs
 go_enter Tryz.func156,Tryz.ntmps156
 go_wp2_with (go_at_call 161;refine (within_any _ _ _ _).mono ?_;rintro e w' ⟨rfl,rfl⟩)
 go_ret
 exact⟨rfl,rfl⟩
theorem short_any (s:ByteArray) (w:World) (hs:s.size≤maxLen) :
  Calls Tryz.prog 169 #[.string s] w fun e w'=>e=.returned (.bool (shortB s))∧w'=w:=by
 go_enter Tryz.func169,Tryz.ntmps169
 go_wp2_with (go_at_call 156;refine (sized_any _ _ _ _ hs).mono ?_;rintro e w' ⟨rfl,rfl⟩)
 go_ret
 refine⟨ret_bool ?_,rfl⟩
 rw[Bool.eq_iff_iff]
 simp[sizedB,withinB,shortB]
 omega
theorem number_page (n:Int) (w:World) :
  Calls Tryz.prog 175 #[.int .i64 n] w fun e w'=>e=.returned (.bool (pageB n))∧w'=w:=by
 go_enter Tryz.func175,Tryz.ntmps175
 go_wp2_with (go_at_call 161;refine (within_any _ _ _ _).mono ?_;rintro e w' ⟨rfl,rfl⟩)
 go_ret
 refine⟨ret_bool ?_,rfl⟩
 rw[Bool.eq_iff_iff]
 simp[withinB,pageB]
 omega
theorem orNone_any (n:Int) (w:World) :
  Calls Tryz.prog 159 #[.int .i64 n] w fun e w'=>e=.returned (.bool (noneB n))∧w'=w:=by
 go_enter Tryz.func159,Tryz.ntmps159
 go_wp2_with (go_at_call 175;refine (number_page _ _).mono ?_;rintro e w' ⟨rfl,rfl⟩)
 all_goals
  go_ret
  refine⟨ret_bool ?_,rfl⟩
  simp_all [noneB]
theorem numbers_any (l:List Int) (v:Value) (w:World) (hv:IntsAt w v l) :
  Calls Tryz.prog 173 #[v] w fun e w'=>e=.returned (.bool (l.all pageB))∧w'=w:=by
 obtain⟨ao,cap,rfl,hlm,hc⟩:=hv
 unfold maxLen at hlm
 have HC:=hid hc
 clear hc
 go_enter Tryz.func173,Tryz.ntmps173
 go_wp2
 go_loop [7] (fun i=>∃ k:Nat,k≤l.length∧i=.int .i64 k∧Hid ((l.take k).all pageB=true)) (fun i=>l.length - (intOf i).toNat)
 case atStart=>exact⟨0,Nat.zero_le _,rfl,rfl⟩
 case round=>
  obtain⟨k,hk,rfl,hall⟩:=hrel
  by_cases hlt:k<l.length
  ·obtain⟨a,ha,hce⟩:=HC.out k hlt
   have hia:=atInts (ao:=ao) l.length cap k ha hlt
   have HT:=hid (qT hlt)
   have HM:Hid (l[k]∈l):=List.getElem_mem hlt
   clear ha
   cases hp:pageB l[k]
   all_goals
    go_wp2_with (go_at_call 175;refine (number_page _ _).mono ?_;rintro e w' ⟨rfl,rfl⟩)
   ·go_ret
    refine⟨ret_bool ?_,rfl⟩
    symm
    rw[List.all_eq_false]
    exact⟨_,HM.out,by simp[hp]⟩
   ·go_roundw
    case rel=>exact⟨k+1,by omega,by go_num,by show _=_;rw[HT.out,List.all_append,hall.out];simp[hp]⟩
    case measure=>simp[intOf];omega
  ·go_wp2
   go_ret
   refine⟨ret_bool ?_,rfl⟩
   have h:=hall.out
   rw[List.take_of_length_le (by omega)] at h
   exact h.symm
def goodUpS (l:List ByteArray) (i:Nat):Bool:=i==0||ltB (l.getD (i - 1) ⟨#[]⟩) (l.getD i ⟨#[]⟩)
def upS (l:List ByteArray):Bool:=(List.range l.length).all (goodUpS l)
def goodUpI (l:List Int) (i:Nat):Bool:=i==0||decide (l.getD (i - 1) 0<l.getD i 0)
def upI (l:List Int):Bool:=(List.range l.length).all (goodUpI l)
theorem all_range_le (p:Nat→Bool) {m n:Nat} (h:m≤n) (ha:(List.range n).all p=true):(List.range m).all p=true:=by
 rw[List.all_eq_true] at ha ⊢
 intro x hx
 exact ha x (by simp at hx ⊢;omega)
theorem risingS_any (l:List ByteArray) (v:Value) (w:World) (hv:StrsAt w v l) :
  Calls Tryz.prog 172 #[v] w fun e w'=>e=.returned (.bool (upS l))∧Below w.heap.size w w':=by
 obtain⟨ao,cap,rfl,hlm,hc⟩:=hv
 unfold maxLen at hlm
 have HC:=hid hc
 clear hc
 go_enter Tryz.func172,Tryz.ntmps172
 go_wp2
 go_loopw [3] (fun i wr=>∃ k:Nat,1≤k∧(k≤l.length∨k≤1)∧i=.int .i64 k∧Hid ((List.range k).all (goodUpS l)=true)∧Below w.heap.size w wr) (fun i _=>l.length - (intOf i).toNat)
 case atStart=>exact⟨1,by omega,.inr (by omega),rfl,by show _=_;simp[goodUpS],Below.refl _ _⟩
 case round=>
  obtain⟨k,hk1,hk,rfl,hall,hbel⟩:=hrel
  by_cases hlt:k<l.length
  ·obtain⟨a,ha,hce,hsz⟩:=HC.out k hlt
   have hcell:wr.cell? (a.add k)=some (.string l[k]):=(hbel.cell (p:=a.add k) (qF w _ hce)).trans hce
   have hia:=atStrs (ao:=ao) l.length cap k ha hlt
   have HSU:=hid (all_range_succ (goodUpS l) k)
   have HBD:=hid (all_range_bad (goodUpS l) k l.length hlt)
   obtain⟨j,hj⟩:∃ j:Nat,(j:Int)+1≤(k:Int)∧(k:Int)≤(j:Int)+1:=⟨k - 1,by omega,by omega⟩
   have hjl:j<l.length:=by omega
   obtain⟨a',ha',hce',hsz'⟩:=HC.out j hjl
   have hcell':wr.cell? (a'.add j)=some (.string l[j]):=(hbel.cell (p:=a'.add j) (qF w _ hce')).trans hce'
   have hia':=atStrs (ao:=ao) l.length cap j ha' hjl
   have hkj:(k:Int) - 1=(j:Int):=by omega
   have HG:Hid (goodUpS l k=ltB l[j] l[k]):=by
    have h1:k - 1=j:=by omega
    have h2:(k==0)=false:=by simp;omega
    show _=_
    rw[goodUpS,h1,h2]
    simp[hjl,hlt]
   clear hce' ha' hsz' hce ha hsz
   cases hlb:ltB l[j] l[k]
   ·have hop:Op.bytesLess l[j].toList l[k].toList=false:=hlb
    have HGO:=hid (HG.out.trans hlb)
    clear hlb
    go_wp2_with fail
    go_quiet (fail)
    go_wp2
    go_ret
    refine⟨ret_bool ?_,hbel.trans ((below_draws wr nq).mono hbel.size)⟩
    rw[upS,HBD.out HGO.out]
   ·have hop:Op.bytesLess l[j].toList l[k].toList=true:=hlb
    have HGO:=hid (HG.out.trans hlb)
    clear hlb
    go_wp2_with fail
    go_quiet (fail)
    go_wp2
    go_roundw
    case rel=>exact⟨k+1,by omega,by omega,by go_num,by show _=_;rw[HSU.out,hall.out,HGO.out];rfl,hbel.trans ((below_draws wr nq).mono hbel.size)⟩
    case measure=>simp[intOf];omega
  ·go_wp2
   go_ret
   refine⟨ret_bool ?_,hbel⟩
   exact (all_range_le _ (by omega) hall.out).symm
theorem risingI_any (l:List Int) (v:Value) (w:World) (hv:IntsAt w v l) :
  Calls Tryz.prog 174 #[v] w fun e w'=>e=.returned (.bool (upI l))∧Below w.heap.size w w':=by
 obtain⟨ao,cap,rfl,hlm,hc⟩:=hv
 unfold maxLen at hlm
 have HC:=hid hc
 clear hc
 go_enter Tryz.func174,Tryz.ntmps174
 go_wp2
 go_loopw [3] (fun i wr=>∃ k:Nat,1≤k∧(k≤l.length∨k≤1)∧i=.int .i64 k∧Hid ((List.range k).all (goodUpI l)=true)∧Below w.heap.size w wr) (fun i _=>l.length - (intOf i).toNat)
 case atStart=>exact⟨1,by omega,.inr (by omega),rfl,by show _=_;simp[goodUpI],Below.refl _ _⟩
 case round=>
  obtain⟨k,hk1,hk,rfl,hall,hbel⟩:=hrel
  by_cases hlt:k<l.length
  ·obtain⟨a,ha,hce⟩:=HC.out k hlt
   have hcell:wr.cell? (a.add k)=some (.int .i64 l[k]):=(hbel.cell (p:=a.add k) (qF w _ hce)).trans hce
   have hia:=atInts (ao:=ao) l.length cap k ha hlt
   have HSU:=hid (all_range_succ (goodUpI l) k)
   have HBD:=hid (all_range_bad (goodUpI l) k l.length hlt)
   obtain⟨j,hj⟩:∃ j:Nat,(j:Int)+1≤(k:Int)∧(k:Int)≤(j:Int)+1:=⟨k - 1,by omega,by omega⟩
   have hjl:j<l.length:=by omega
   obtain⟨a',ha',hce'⟩:=HC.out j hjl
   have hcell':wr.cell? (a'.add j)=some (.int .i64 l[j]):=(hbel.cell (p:=a'.add j) (qF w _ hce')).trans hce'
   have hia':=atInts (ao:=ao) l.length cap j ha' hjl
   have hkj:(k:Int) - 1=(j:Int):=by omega
   have HG:Hid (goodUpI l k=decide (l[j]<l[k])):=by
    have h1:k - 1=j:=by omega
    have h2:(k==0)=false:=by simp;omega
    show _=_
    rw[goodUpI,h1,h2]
    simp[hjl,hlt]
   clear hce' ha' hce ha
   by_cases hlb:l[j]<l[k]
   ·have hop:decide (l[k]≤l[j])=false:=by simp;omega
    have HGO:Hid (goodUpI l k=true):=by show _=_;rw[HG.out];simpa using hlb
    clear hlb
    go_wp2_with fail
    go_quiet (fail)
    go_wp2
    go_roundw
    case rel=>exact⟨k+1,by omega,by omega,by go_num,by show _=_;rw[HSU.out,hall.out,HGO.out];rfl,hbel.trans ((below_draws wr nq).mono hbel.size)⟩
    case measure=>simp[intOf];omega
   ·have hop:decide (l[k]≤l[j])=true:=by simp;omega
    have HGO:Hid (goodUpI l k=false):=by show _=_;rw[HG.out];simpa using hlb
    clear hlb
    go_wp2_with fail
    go_quiet (fail)
    go_wp2
    go_ret
    refine⟨ret_bool ?_,hbel.trans ((below_draws wr nq).mono hbel.size)⟩
    rw[upI,HBD.out HGO.out]
  ·go_wp2
   go_ret
   refine⟨ret_bool ?_,hbel⟩
   exact (all_range_le _ (by omega) hall.out).symm
theorem toList_inj' {a b:ByteArray} (h:a.toList=b.toList):a=b:=by
 rw[ByteArray.toList_eq,ByteArray.toList_eq] at h
 exact ByteArray.ext (Array.toList_inj.1 h)
theorem equalS_any (l m:List ByteArray) (v u:Value) (w:World) (hv:StrsAt w v l) (hu:StrsAt w u m) :
  Calls Tryz.prog 164 #[v,u] w fun e w'=>e=.returned (.bool (decide (l=m)))∧Below w.heap.size w w':=by
 obtain⟨ao,cap,rfl,hlm,hc⟩:=hv
 obtain⟨ao2,cap2,rfl,hlm2,hc2⟩:=hu
 unfold maxLen at hlm hlm2
 have HC:=hid hc
 have HC2:=hid hc2
 clear hc hc2
 by_cases hne:l.length=m.length
 ·have hneB:((l.length:Int) != (m.length:Int))=false:=by simp;omega
  have HNE:=hid hne
  clear hne
  go_enter Tryz.func164,Tryz.ntmps164
  go_wp2
  go_loopw [13] (fun i wr=>∃ k:Nat,k≤l.length∧i=.int .i64 k∧Hid (l.take k=m.take k)∧Below w.heap.size w wr) (fun i _=>l.length - (intOf i).toNat)
  case atStart=>exact⟨0,Nat.zero_le _,rfl,rfl,qB _ _⟩
  case round=>
   obtain⟨k,hk,rfl,hall,hbel⟩:=hrel
   by_cases hlt:k<l.length
   ·have hlt2:k<m.length:=by rw[← HNE.out];exact hlt
    obtain⟨a,ha,hce,hsz⟩:=HC.out k hlt
    obtain⟨a2,ha2,hce2,hsz2⟩:=HC2.out k hlt2
    have hcell:wr.cell? (a.add k)=some (Value.string l[k]):=(hbel.cell (p:=a.add k) (qF w _ hce)).trans hce
    have hcell2:wr.cell? (a2.add k)=some (Value.string m[k]):=(hbel.cell (p:=a2.add k) (qF w _ hce2)).trans hce2
    have hia:=atStrs (ao:=ao) l.length cap k ha hlt
    have hia2:=atStrs (ao:=ao2) m.length cap2 k ha2 hlt2
    clear hce hce2 ha ha2
    have HT1:=hid (qT hlt)
    have HT2:=hid (qT hlt2)
    by_cases heq:l[k]=m[k]
    ·have hb:(!(l[k].toList==m[k].toList))=false:=by simp[heq]
     have HE:=hid heq
     clear heq
     go_wp2_with fail
     go_quiet (fail)
     go_wp2
     go_roundw
     case rel=>exact⟨k+1,by omega,by go_num,by show _=_;rw[HT1.out,HT2.out,HE.out,hall.out],hbel.trans ((below_draws wr nq).mono hbel.size)⟩
     case measure=>simp[intOf];omega
    ·have hb:(!(l[k].toList==m[k].toList))=true:=by simp;intro h;exact heq (toList_inj' h)
     have HE:=hid heq
     clear heq
     go_wp2_with fail
     go_quiet (fail)
     go_wp2
     go_ret
     refine⟨ret_bool ?_,hbel.trans ((below_draws wr nq).mono hbel.size)⟩
     have:¬ l=m:=by
      intro e
      subst e
      exact HE.out rfl
     simp[this]
   ·have hke:k=l.length:=by omega
    go_wp2
    go_ret
    refine⟨ret_bool ?_,hbel⟩
    have h1:=hall.out
    rw[List.take_of_length_le (by omega),List.take_of_length_le (by have:=HNE.out;omega)] at h1
    simp[h1]
 ·have hneB:((l.length:Int) != (m.length:Int))=true:=by simp;omega
  have HNE:=hid hne
  clear hne
  go_enter Tryz.func164,Tryz.ntmps164
  go_wp2
  go_ret
  refine⟨ret_bool ?_,qB _ _⟩
  have:¬ l=m:=fun e=>HNE.out (by rw[e])
  simp[this]
theorem equalI_any (l m:List Int) (v u:Value) (w:World) (hv:IntsAt w v l) (hu:IntsAt w u m) :
  Calls Tryz.prog 165 #[v,u] w fun e w'=>e=.returned (.bool (decide (l=m)))∧Below w.heap.size w w':=by
 obtain⟨ao,cap,rfl,hlm,hc⟩:=hv
 obtain⟨ao2,cap2,rfl,hlm2,hc2⟩:=hu
 unfold maxLen at hlm hlm2
 have HC:=hid hc
 have HC2:=hid hc2
 clear hc hc2
 by_cases hne:l.length=m.length
 ·have hneB:((l.length:Int) != (m.length:Int))=false:=by simp;omega
  have HNE:=hid hne
  clear hne
  go_enter Tryz.func165,Tryz.ntmps165
  go_wp2
  go_loopw [13] (fun i wr=>∃ k:Nat,k≤l.length∧i=.int .i64 k∧Hid (l.take k=m.take k)∧Below w.heap.size w wr) (fun i _=>l.length - (intOf i).toNat)
  case atStart=>exact⟨0,Nat.zero_le _,rfl,rfl,qB _ _⟩
  case round=>
   obtain⟨k,hk,rfl,hall,hbel⟩:=hrel
   by_cases hlt:k<l.length
   ·have hlt2:k<m.length:=by rw[← HNE.out];exact hlt
    obtain⟨a,ha,hce⟩:=HC.out k hlt
    obtain⟨a2,ha2,hce2⟩:=HC2.out k hlt2
    have hcell:wr.cell? (a.add k)=some (Value.int .i64 l[k]):=(hbel.cell (p:=a.add k) (qF w _ hce)).trans hce
    have hcell2:wr.cell? (a2.add k)=some (Value.int .i64 m[k]):=(hbel.cell (p:=a2.add k) (qF w _ hce2)).trans hce2
    have hia:=atInts (ao:=ao) l.length cap k ha hlt
    have hia2:=atInts (ao:=ao2) m.length cap2 k ha2 hlt2
    clear hce hce2 ha ha2
    have HT1:=hid (qT hlt)
    have HT2:=hid (qT hlt2)
    by_cases heq:l[k]=m[k]
    ·have hb:(l[k] != m[k])=false:=by simp[heq]
     have HE:=hid heq
     clear heq
     go_wp2_with fail
     go_quiet (fail)
     go_wp2
     go_roundw
     case rel=>exact⟨k+1,by omega,by go_num,by show _=_;rw[HT1.out,HT2.out,HE.out,hall.out],hbel.trans ((below_draws wr nq).mono hbel.size)⟩
     case measure=>simp[intOf];omega
    ·have hb:(l[k] != m[k])=true:=by simpa using heq
     have HE:=hid heq
     clear heq
     go_wp2_with fail
     go_quiet (fail)
     go_wp2
     go_ret
     refine⟨ret_bool ?_,hbel.trans ((below_draws wr nq).mono hbel.size)⟩
     have:¬ l=m:=by
      intro e
      subst e
      exact HE.out rfl
     simp[this]
   ·have hke:k=l.length:=by omega
    go_wp2
    go_ret
    refine⟨ret_bool ?_,hbel⟩
    have h1:=hall.out
    rw[List.take_of_length_le (by omega),List.take_of_length_le (by have:=HNE.out;omega)] at h1
    simp[h1]
 ·have hneB:((l.length:Int) != (m.length:Int))=true:=by simp;omega
  have HNE:=hid hne
  clear hne
  go_enter Tryz.func165,Tryz.ntmps165
  go_wp2
  go_ret
  refine⟨ret_bool ?_,qB _ _⟩
  have:¬ l=m:=fun e=>HNE.out (by rw[e])
  simp[this]
end
section
open Go.RowKit Go.Sort
theorem rightRoot_any (r:RootD) (w:World) :
  Calls Tryz.prog 160 #[.agg #[.int .i64 r.page,.int .i64 r.count,.int .i64 r.flags]] w fun e w'=>e=.returned (.bool (rootB r))∧Below w.heap.size w w':=by
 obtain⟨a,b,c⟩:=r
 show Calls Tryz.prog _ #[.agg #[.int .i64 a,.int .i64 b,.int .i64 c]] w _
 go_enter Tryz.func160,Tryz.ntmps160
 go_wp2_with (first
  | (go_at_call 159;refine Calls.mono (orNone_any _ _) ?_;rintro e w2 ⟨rfl,rfl⟩)
  | (go_at_call 161;refine Calls.mono (within_any _ _ _ _) ?_;rintro e w2 ⟨rfl,rfl⟩))
 all_goals
  go_ret
  refine⟨ret_bool ?_,(qB _ _).alloc qL _⟩
  simp_all [rootB,noneB,withinB]
 all_goals omega
def rightValsB (l:List ByteArray) (least most:Int):Bool:=withinB l.length least most&&l.all (fun v=>sizedB v 1 12)&&upS l
theorem rightVals_any (l:List ByteArray) (v:Value) (least most:Int) (w:World) (hv:StrsAt w v l) :
  Calls Tryz.prog 157 #[v,.int .i64 least,.int .i64 most] w fun e w'=>e=.returned (.bool (rightValsB l least most))∧Below w.heap.size w w':=by
 have HR:=hid (risingS_any l v w hv)
 obtain⟨ao,cap,rfl,hlm,hc⟩:=hv
 unfold maxLen at hlm
 have HC:=hid hc
 clear hc
 cases hw:withinB l.length least most
 ·go_enter Tryz.func157,Tryz.ntmps157
  go_wp2_with (go_at_call 161;refine Calls.mono (within_any _ _ _ _) ?_;rintro e w2 ⟨rfl,rfl⟩)
  go_ret
  refine⟨ret_bool ?_,qB _ _⟩
  simp[rightValsB,hw]
 ·go_enter Tryz.func157,Tryz.ntmps157
  go_wp2_with (go_at_call 161;refine Calls.mono (within_any _ _ _ _) ?_;rintro e w2 ⟨rfl,rfl⟩)
  go_loop [17] (fun i=>∃ k:Nat,k≤l.length∧i=.int .i64 k∧Hid ((l.take k).all (fun v=>sizedB v 1 12)=true)) (fun i=>l.length - (intOf i).toNat)
  case atStart=>exact⟨0,Nat.zero_le _,rfl,rfl⟩
  case round=>
   obtain⟨k,hk,rfl,hall⟩:=hrel
   by_cases hlt:k<l.length
   ·obtain⟨a,ha,hce,hsz⟩:=HC.out k hlt
    have hia:=atStrs (ao:=ao) l.length cap k ha hlt
    have HT:=hid (qT hlt)
    have HM:Hid (l[k]∈l):=List.getElem_mem hlt
    have HZ:=hid hsz
    clear ha hsz
    cases hp:sizedB l[k] 1 12
    all_goals
     go_wp2_with (go_at_call 156;refine (sized_any _ _ _ _ HZ.out).mono ?_;rintro e w' ⟨rfl,rfl⟩)
    ·go_ret
     refine⟨ret_bool ?_,qB _ _⟩
     have:l.all (fun v=>sizedB v 1 12)=false:=by
      rw[List.all_eq_false]
      exact⟨_,HM.out,by simp[hp]⟩
     simp[rightValsB,this]
    ·go_roundw
     case rel=>exact⟨k+1,by omega,by go_num,by show _=_;rw[HT.out,List.all_append,hall.out];simp[hp]⟩
     case measure=>simp[intOf];omega
   ·go_wp2_with (go_at_call 172;refine Calls.mono HR.out ?_;rintro e w2 ⟨rfl,hb2⟩)
    go_ret
    refine⟨ret_bool ?_,hb2⟩
    have h:=hall.out
    rw[List.take_of_length_le (by omega)] at h
    simp[rightValsB,hw,h]
end
section
open Go.RowKit Go.Sort
theorem sameItem_any (x y:ItemD) (v u:Value) (w:World) (hv:StrsAt w v x.vals) (hu:StrsAt w u y.vals) :
  Calls Tryz.prog 163 #[.agg (itemCells x v).toArray,.agg (itemCells y u).toArray] w fun e w'=>e=.returned (.bool (sameItemB x y))∧Below w.heap.size w w':=by
 obtain⟨k1,d1,l1,r1,n1,s1,p1,⟨g1,c1,f1⟩⟩:=x
 obtain⟨k2,d2,l2,r2,n2,s2,p2,⟨g2,c2,f2⟩⟩:=y
 have HV:Hid (∀ W,Below w.heap.size w W→StrsAt W v s1):=fun W hW=>hv.below hW
 have HU:Hid (∀ W,Below w.heap.size w W→StrsAt W u s2):=fun W hW=>hu.below hW
 clear hv hu
 show Calls Tryz.prog _ #[.agg #[.string k1,.int .i64 d1,.string l1,.int .i64 r1,.int .i64 n1,v,.int .i64 p1,.int .i64 g1,.int .i64 c1,.int .i64 f1],.agg #[.string k2,.int .i64 d2,.string l2,.int .i64 r2,.int .i64 n2,u,.int .i64 p2,.int .i64 g2,.int .i64 c2,.int .i64 f2]] w _
 go_enter Tryz.func163,Tryz.ntmps163
 go_wp2_with (go_at_call 164;refine Calls.mono (equalS_any s1 s2 v u _ (HV.out _ (Below.alloc (Below.alloc (qB _ _) qL _) (by simp) _)) (HU.out _ (Below.alloc (Below.alloc (qB _ _) qL _) (by simp) _))) ?_;rintro e w2 ⟨rfl,hb2⟩;have hcc:=bcell hb2)
 all_goals
  go_ret
  refine⟨ret_bool ?_,?_⟩
  ·clear HV HU
   try clear hcc hb2
   simp_all [sameItemB,sameRootB]
  ·first
    | exact Below.alloc (Below.alloc (qB _ _) qL _) (by simp) _
    | exact (Below.alloc (Below.alloc (qB _ _) qL _) (by simp) _).trans (hb2.mono (by simp;omega))
theorem sameFree_any (x y:FreeD) (v u:Value) (w:World) (hv:IntsAt w v x.ids) (hu:IntsAt w u y.ids) :
  Calls Tryz.prog 167 #[.agg #[.int .u64 x.txn,v],.agg #[.int .u64 y.txn,u]] w fun e w'=>e=.returned (.bool (sameFreeB x y))∧Below w.heap.size w w':=by
 obtain⟨k1,s1⟩:=x
 obtain⟨k2,s2⟩:=y
 have HV:Hid (∀ W,Below w.heap.size w W→IntsAt W v s1):=fun W hW=>hv.below hW
 have HU:Hid (∀ W,Below w.heap.size w W→IntsAt W u s2):=fun W hW=>hu.below hW
 clear hv hu
 show Calls Tryz.prog _ #[.agg #[.int .u64 k1,v],.agg #[.int .u64 k2,u]] w _
 go_enter Tryz.func167,Tryz.ntmps167
 go_wp2_with (go_at_call 165;refine Calls.mono (equalI_any s1 s2 v u _ (HV.out _ (Below.alloc (Below.alloc (qB _ _) qL _) (by simp) _)) (HU.out _ (Below.alloc (Below.alloc (qB _ _) qL _) (by simp) _))) ?_;rintro e w2 ⟨rfl,hb2⟩;have hcc:=bcell hb2)
 all_goals
  go_ret
  refine⟨ret_bool ?_,?_⟩
  ·clear HV HU
   try clear hcc hb2
   simp_all [sameFreeB]
  ·first
    | exact Below.alloc (Below.alloc (qB _ _) qL _) (by simp) _
    | exact (Below.alloc (Below.alloc (qB _ _) qL _) (by simp) _).trans (hb2.mono (by simp;omega))
def sameItemsB (l m:List ItemD):Bool:=decide (l.length=m.length)&&(List.range l.length).all fun i=>sameItemB (itemAt l i) (itemAt m i)
theorem stepA {w wr X:World} {o1 o2:Obj} (h:Below w.heap.size w wr) (hb:Below ((wr.alloc o1).alloc o2).heap.size ((wr.alloc o1).alloc o2) X):Below w.heap.size w X:=
 (Below.alloc (Below.alloc h h.size o1) (by have:=h.size;simp;omega) o2).trans (hb.mono (by have:=h.size;simp;omega))
theorem equalItems_any (l m:List ItemD) (v u:Value) (w:World) (hv:ItemsAt w v l) (hu:ItemsAt w u m) :
  Calls Tryz.prog 162 #[v,u,.func (.func 163) #[] #[]] w fun e w'=>e=.returned (.bool (sameItemsB l m))∧Below w.heap.size w w':=by
 obtain⟨ao,cap,rfl,hlm,hc⟩:=hv
 obtain⟨ao2,cap2,rfl,hlm2,hc2⟩:=hu
 unfold maxLen at hlm hlm2
 have HC:=hid hc
 have HC2:=hid hc2
 clear hc hc2
 by_cases hne:l.length=m.length
 ·have hneB:((l.length:Int) != (m.length:Int))=false:=by simp;omega
  have HNE:=hid hne
  clear hne
  go_enter Tryz.func162,Tryz.ntmps162
  go_wp2
  go_loopw [17] (fun i wr=>∃ k:Nat,k≤l.length∧i=.int .i64 k∧Hid ((List.range k).all (fun i=>sameItemB (itemAt l i) (itemAt m i))=true)∧Below w.heap.size w wr) (fun i _=>l.length - (intOf i).toNat)
  case atStart=>exact⟨0,Nat.zero_le _,rfl,rfl,qB _ _⟩
  case round=>
   obtain⟨k,hk,rfl,hall,hbel⟩:=hrel
   by_cases hlt:k<l.length
   ·have hlt2:k<m.length:=by rw[← HNE.out];exact hlt
    obtain⟨b,o,x,hao,hbl,hr,hx,_,_⟩:=HC.out k hlt
    obtain⟨b2,o2,x2,hao2,hbl2,hr2,hx2,_,_⟩:=HC2.out k hlt2
    have hia:=atItems (ao:=ao) l.length cap k hao hlt
    have hia2:=atItems (ao:=ao2) m.length cap2 k hao2 hlt2
    have hl1:=range10 (range_below hr hbel hbl)
    have hl2':=range_below hr2 hbel hbl2
    have hl2:=fun o1=>range10 (range_below hl2' ((qB wr.heap.size wr).alloc qL o1) (qM hbl2 hbel.size))
    have HS:Hid (∀ W,Below w.heap.size w W→Calls Tryz.prog 163 #[.agg #[.string l[k].key,.int .i64 l[k].kind,.string l[k].val,.int .i64 l[k].run,.int .i64 l[k].len,x,.int .i64 l[k].dup,.int .i64 l[k].root.page,.int .i64 l[k].root.count,.int .i64 l[k].root.flags],.agg #[.string m[k].key,.int .i64 m[k].kind,.string m[k].val,.int .i64 m[k].run,.int .i64 m[k].len,x2,.int .i64 m[k].dup,.int .i64 m[k].root.page,.int .i64 m[k].root.count,.int .i64 m[k].root.flags]] W fun e w''=>e=.returned (.bool (sameItemB l[k] m[k]))∧Below W.heap.size W w''):=fun W hW=>
     sameItem_any _ _ _ _ _ (hx.below hW) (hx2.below hW)
    have HG:Hid (itemAt l k=l[k]∧itemAt m k=m[k]):=⟨by simp[itemAt,hlt],by simp[itemAt,hlt2]⟩
    have HSU:=hid (all_range_succ (fun i=>sameItemB (itemAt l i) (itemAt m i)) k)
    have HBD:=hid (all_range_bad (fun i=>sameItemB (itemAt l i) (itemAt m i)) k l.length hlt)
    obtain⟨ax,cx,hxe,-⟩:=hx
    obtain⟨ax2,cx2,hxe2,-⟩:=hx2
    subst hxe hxe2
    clear hr hr2 hl2' hao hao2 hbl hbl2
    generalize l[k]=X at *
    generalize m[k]=Y at *
    cases hsm:sameItemB X Y
    all_goals
     go_wp2_with (go_at_call 163;refine Calls.mono (HS.out _ (Below.alloc (Below.alloc hbel hbel.size _) (by have:=hbel.size;simp;omega) _)) ?_;rintro e w2 ⟨rfl,hb2⟩)
    ·go_ret
     refine⟨ret_bool ?_,stepA hbel hb2⟩
     rw[sameItemsB,HBD.out (by rw[HG.out.1,HG.out.2];exact hsm)]
     simp
    ·go_roundw
     case rel=>exact⟨k+1,by omega,by go_num,by show _=_;rw[HSU.out,hall.out,HG.out.1,HG.out.2,hsm];rfl,stepA hbel hb2⟩
     case measure=>simp[intOf];omega
   ·have hke:k=l.length:=by omega
    subst hke
    go_wp2
    go_ret
    refine⟨ret_bool ?_,hbel⟩
    rw[sameItemsB,hall.out,HNE.out]
    simp
 ·have hneB:((l.length:Int) != (m.length:Int))=true:=by simp;omega
  have HNE:=hid hne
  clear hne
  go_enter Tryz.func162,Tryz.ntmps162
  go_wp2
  go_ret
  refine⟨ret_bool ?_,qB _ _⟩
  rw[sameItemsB,decide_eq_false HNE.out]
  rfl
theorem equalFrees_any (l m:List FreeD) (v u:Value) (w:World) (hv:FreesAt w v l) (hu:FreesAt w u m) :
  Calls Tryz.prog 166 #[v,u,.func (.func 167) #[] #[]] w fun e w'=>e=.returned (.bool (sameFreesB l m))∧Below w.heap.size w w':=by
 obtain⟨ao,cap,rfl,hlm,hc⟩:=hv
 obtain⟨ao2,cap2,rfl,hlm2,hc2⟩:=hu
 unfold maxLen at hlm hlm2
 have HC:=hid hc
 have HC2:=hid hc2
 clear hc hc2
 by_cases hne:l.length=m.length
 ·have hneB:((l.length:Int) != (m.length:Int))=false:=by simp;omega
  have HNE:=hid hne
  clear hne
  go_enter Tryz.func166,Tryz.ntmps166
  go_wp2
  go_loopw [17] (fun i wr=>∃ k:Nat,k≤l.length∧i=.int .i64 k∧Hid ((List.range k).all (fun i=>sameFreeB (l.getD i ⟨0,[]⟩) (m.getD i ⟨0,[]⟩))=true)∧Below w.heap.size w wr) (fun i _=>l.length - (intOf i).toNat)
  case atStart=>exact⟨0,Nat.zero_le _,rfl,rfl,qB _ _⟩
  case round=>
   obtain⟨k,hk,rfl,hall,hbel⟩:=hrel
   by_cases hlt:k<l.length
   ·have hlt2:k<m.length:=by rw[← HNE.out];exact hlt
    obtain⟨b,o,x,hao,hbl,hr,hs,hx⟩:=HC.out k hlt
    obtain⟨b2,o2,x2,hao2,hbl2,hr2,hs2,hx2⟩:=HC2.out k hlt2
    have hia:=atFreesM (ao:=ao) l.length cap k hao hlt
    have hia2:=atFreesM (ao:=ao2) m.length cap2 k hao2 hlt2
    have hl1:wr.cell? ⟨b,o+k*2,none⟩=some (.int .u64 l[k].txn):=(hbel.cell (p:=⟨b,o+k*2,none⟩) hbl).trans hr
    have hl1':wr.cell? ⟨b,o+k*2+1,none⟩=some x:=(hbel.cell (p:=⟨b,o+k*2+1,none⟩) hbl).trans hs
    have hl2:=fun o1=>(((qB wr.heap.size wr).alloc qL o1).cell (p:=⟨b2,o2+k*2,none⟩) (qM hbl2 hbel.size)).trans ((hbel.cell (p:=⟨b2,o2+k*2,none⟩) hbl2).trans hr2)
    have hl2':=fun o1=>(((qB wr.heap.size wr).alloc qL o1).cell (p:=⟨b2,o2+k*2+1,none⟩) (qM hbl2 hbel.size)).trans ((hbel.cell (p:=⟨b2,o2+k*2+1,none⟩) hbl2).trans hs2)
    have HS:Hid (∀ W,Below w.heap.size w W→Calls Tryz.prog 167 #[.agg #[.int .u64 l[k].txn,x],.agg #[.int .u64 m[k].txn,x2]] W fun e w''=>e=.returned (.bool (sameFreeB l[k] m[k]))∧Below W.heap.size W w''):=fun W hW=>
     sameFree_any _ _ _ _ _ (hx.below hW) (hx2.below hW)
    have HG:Hid (l.getD k ⟨0,[]⟩=l[k]∧m.getD k ⟨0,[]⟩=m[k]):=⟨by simp[hlt],by simp[hlt2]⟩
    have HSU:=hid (all_range_succ (fun i=>sameFreeB (l.getD i ⟨0,[]⟩) (m.getD i ⟨0,[]⟩)) k)
    have HBD:=hid (all_range_bad (fun i=>sameFreeB (l.getD i ⟨0,[]⟩) (m.getD i ⟨0,[]⟩)) k l.length hlt)
    obtain⟨ax,cx,hxe,-⟩:=hx
    obtain⟨ax2,cx2,hxe2,-⟩:=hx2
    subst hxe hxe2
    clear hr hr2 hs hs2 hao hao2 hbl hbl2
    generalize l[k]=X at *
    generalize m[k]=Y at *
    cases hsm:sameFreeB X Y
    all_goals
     go_wp2_with (go_at_call 167;refine Calls.mono (HS.out _ (Below.alloc (Below.alloc hbel hbel.size _) (by have:=hbel.size;simp;omega) _)) ?_;rintro e w2 ⟨rfl,hb2⟩)
    ·go_ret
     refine⟨ret_bool ?_,stepA hbel hb2⟩
     rw[sameFreesB,HBD.out (by rw[HG.out.1,HG.out.2];exact hsm)]
     simp
    ·go_roundw
     case rel=>exact⟨k+1,by omega,by go_num,by show _=_;rw[HSU.out,hall.out,HG.out.1,HG.out.2,hsm];rfl,stepA hbel hb2⟩
     case measure=>simp[intOf];omega
   ·have hke:k=l.length:=by omega
    subst hke
    go_wp2
    go_ret
    refine⟨ret_bool ?_,hbel⟩
    rw[sameFreesB,hall.out,HNE.out]
    simp
 ·have hneB:((l.length:Int) != (m.length:Int))=true:=by simp;omega
  have HNE:=hid hne
  clear hne
  go_enter Tryz.func166,Tryz.ntmps166
  go_wp2
  go_ret
  refine⟨ret_bool ?_,qB _ _⟩
  rw[sameFreesB,decide_eq_false HNE.out]
  rfl
end
end Go.Proofs.YtbghhklbfnplbaaGreat

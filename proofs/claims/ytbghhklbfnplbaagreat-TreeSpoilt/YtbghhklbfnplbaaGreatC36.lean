import Derived.Test.YtbghhklbfnplbaaGreatC00
import Derived.Test.YtbghhklbfnplbaaGreatC32
import Derived.Test.YtbghhklbfnplbaaGreatC35
set_option maxHeartbeats 4000000
set_option maxRecDepth 10000
namespace Go.Proofs.YtbghhklbfnplbaaGreat
section
open Go.RowKit
theorem putR_leaf {ps:List PageD} {id f:Nat} {L:List Nat} {x:ItemD} (h:ps[id]?=some (leafN L)):putR (f+1) (mkS ps) (num id) x=putLeafR (mkS ps) (num id) (leafN L).items x:=by
 simp only[putR]
 rw[page_num h,if_pos (by rfl)]
theorem putR_node {ps:List PageD} {id f x:Nat} {ids seps:List Nat} (h:ps[id]?=some (branchN ids seps)) (hri:Ri seps) (h256:∀ y∈seps,y<256) (hx:x<256) (hdk:downK seps x<ids.length) :
  putR (f+1) (mkS ps) (num id) (it2 x)=putBranchR (num id) (putKeys (branchN ids seps) (downK seps x) (putR f (mkS ps) (num (ids.getD (downK seps x) 0)) (it2 x)).1.2.2.1 (putR f (mkS ps) (num (ids.getD (downK seps x) 0)) (it2 x)).1.2.1) (putKids (branchN ids seps) (downK seps x) (putR f (mkS ps) (num (ids.getD (downK seps x) 0)) (it2 x)).1.1 (putR f (mkS ps) (num (ids.getD (downK seps x) 0)) (it2 x)).1.2.1) (putR f (mkS ps) (num (ids.getD (downK seps x) 0)) (it2 x)).2:=by
 simp only[putR]
 rw[page_num h,if_neg (by simp[branchN,branchP])]
 have e1:downN (branchN ids seps).keys (it2 x).key (branchN ids seps).keys.length=downK seps x:=downN_num hri h256 hx
 have e2:(branchN ids seps).kids.getD (downK seps x) 0=num (ids.getD (downK seps x) 0):=by simp[branchN,branchP,List.getD,hdk]
 rw[e1,e2]
theorem putOk_key {ps:List PageD} {d id lo hi x:Nat} {top:Bool} {L I:List Nat} {r:PutA} (h:PutOk ps d id lo hi top L I x r):r.1.2.2.1.size≤maxLen:=by
 obtain⟨ps',_,_,h⟩:=h
 rcases h with ⟨rfl,_⟩|⟨m,nid,_,_,_,_,rfl,_⟩
 ·simp[ByteArray.size]
 ·show (key2 m).size≤maxLen
  unfold maxLen
  simp[key2,ByteArray.size]
theorem ids_lt {ps:List PageD}:∀ y∈(mkS ps).ids,y<(mkS ps).last:=fun y hy=>by
 obtain⟨i,hi,rfl⟩:=List.mem_map.1 hy
 have:=List.mem_range.1 hi
 show num i<num ps.length
 unfold num
 omega
theorem put_sem {S:Nat→Prop} {rb fb x:Nat} (hrb:S rb) (hx:x<256) {xu:Value}:∀ (d f:Nat) {ps:List PageD} {id lo hi:Nat} {top:Bool} {L I:List Nat},d≤f→TreeAt ps d id lo hi top L I→lo≤x→x<hi→hi≤256→I.Nodup→(∀ i∈I,i<ps.length)→ps.length+L.length≤119+I.length →
  ∀ {w:World} {va vf vi vp:Value},RStAt S w rb fb (mkS ps) va vf vi vp→(∀ k,S k→k<w.heap.size)→ItemS S w (it2 x) xu →
    Calls Tryz.prog 52 #[.pointer (some ⟨rb,0,none⟩),.int .i64 (num id),.agg (itemCells (it2 x) xu).toArray] w fun e w'=>
     e=.returned (tupP (putR (f+1) (mkS ps) (num id) (it2 x)))∧∃ vi' vp',RStAt S w' rb fb (putR (f+1) (mkS ps) (num id) (it2 x)).2 va vf vi' vp'∧w.grownBy w' (some rb)
 | 0,f,ps,id,lo,hi,top,L,I,_,h,h1,h2,hh,_,_,hn,w,va,vf,vi,vp,hR,hS,hxs=>by
   have hg:=(putLeaf_num h h1 h2 hh hn 0).2
   have hcl:=tree_count_top h
   obtain⟨hp,rfl,hri,hb,hl1,hl4,_⟩:=h
   have hid:=(List.getElem?_eq_some_iff.1 hp).1
   simp only[qV,List.length_nil] at hn hcl
   rw[putR_leaf hp]
   exact put_leaf hR hS hrb (num id) (kp:=id) (place_num hid) hid (by unfold num;omega) (by show num id<400;unfold num;omega) (leafN L) (by have:=List.getElem?_eq_some_iff.1 hp;exact this.2) rfl (by show (L.map it2).length≤4;simpa using hl4) (it2 x) xu hxs hg rfl ids_lt
 | d+1,f,ps,id,lo,hi,top,L,I,hf,h,h1,h2,hh,hnd,hlt,hn,w,va,vf,vi,vp,hR,hS,hxs=>by
   obtain⟨f',rfl⟩:∃ f',f=f'+1:=⟨f - 1,by omega⟩
   obtain⟨ids,seps,hp,hk2,hk4,hlen,hri,h256,hdk,lo',hi',Lk,Ik,c1,c2,c3,c4,c5,c6,c7,c8⟩:=putNode_num h h1 h2 hh hnd hlt hn
   have hok:=put_num d (f'+1) (by omega) c1 c2 c3 c4 c5 c6 c7
   obtain⟨e0,⟨ps1,e1,hle⟩,hgood,_⟩:=c8 _ hok
   have hid:=(List.getElem?_eq_some_iff.1 hp).1
   have hcl:=tree_count_top h
   rw[putR_node hp hri h256 hx hdk]
   have ekid:(branchN ids seps).kids.getD (downK seps x) 0=num (ids.getD (downK seps x) 0):=by simp[branchN,branchP,List.getD,hdk]
   have hkl:(branchN ids seps).keys.length=(branchN ids seps).kids.length:=by simp[branchN,branchP,keysN,hlen]
   have hkn:(branchN ids seps).keys.length=seps.length+1:=by simp[branchN,branchP,keysN]
   refine put_branch hR hS hrb (num id) (kp:=id) (place_num hid) hid (by unfold num;omega) (by show num id<400;unfold num;omega) (branchN ids seps) (by have:=List.getElem?_eq_some_iff.1 hp;exact this.2) rfl hkl (by omega) (by omega) (it2 x) xu hxs (downK seps x) (downN_num hri h256 hx) (putR (f'+1) (mkS ps) (num (ids.getD (downK seps x) 0)) (it2 x)) (fun V hV hK=>?_) e0 (putOk_key hok) ?_ ?_ ?_ ?_ hgood
   ·rw[ekid]
    exact put_sem hrb hx d f' (by omega) c1 c2 c3 c4 c5 c6 c7 hV (fun k hk=>qM (hS k hk) hK.size) (hxs.on hK)
   ·rw[e1];exact place_num (by omega)
   ·rw[e1];exact qM hid hle
   ·rw[e1];rfl
   ·rw[e1];exact ids_lt
end
section
open Go.RowKit
theorem item_S (S:Nat→Prop) (w:World) {x:Nat}:ItemS S w (it2 x) (.slice none 0 0):=⟨StrsS.nil _ _,by show (key2 x).size≤maxLen;unfold maxLen;simp[key2,ByteArray.size],by show (⟨#[118]⟩:ByteArray).size≤maxLen;unfold maxLen;simp[ByteArray.size]⟩
theorem one_hangs {S:Nat→Prop} {w:World} {b x:Nat} (hb:w.heap[b]?=some (.cells #[.string (key2 x),.int .i64 1,.string ⟨#[118]⟩,.int .i64 0,.int .i64 0,.slice none 0 0,.int .i64 0,.int .i64 0,.int .i64 0,.int .i64 0] 45 (0,0))) (hS:¬ S b):HangsS S w (leafP [it2 x]) ⟨.slice (some ⟨b,0,none⟩) 1 1,.slice none 0 0,.slice none 0 0,.slice none 0 0,.slice none 0 0⟩:=by
 refine leaf_hangs ⟨some ⟨b,0,none⟩,1,[.slice none 0 0],rfl,rfl,?_,by unfold maxLen;simp,fun i hi hi'=>?_⟩
 ·have h1:SlAt 10 w (some ⟨b,0,none⟩) 1 1 (rowsIV [it2 x] [.slice none 0 0]):=SlAt.ofBlock (T0:=45) (fr:=(0,0)) (by simpa[rowsIV,itemCells,it2,noItem] using hb) (by simp[rowsIV,itemCells]) (by
   intro u hu
   simp only[rowsIV,List.append_nil] at hu
   exact itemCells_one ⟨none,0,0,rfl⟩ u hu)
  exact h1.kOf fun b' o e hs=>by
   simp only[qQ,Addr.mk.injEq,and_true] at e
   exact hS (e.1 ▸ hs)
 ·obtain rfl:i=0:=by simpa using hi
  exact item_S S w
theorem two_hangs {S:Nat→Prop} {V:World} {mm:Nat} {a b:Int} (hS:∀ j,S j→j<V.heap.size):HangsS S ((V.alloc (.cells #[.string ⟨#[]⟩,.string (key2 mm)] 9)).alloc (.cells #[.int .i64 a,.int .i64 b] 3)) (branchP [⟨#[]⟩,key2 mm] [a,b]) ⟨.slice none 0 0,.slice (some ⟨V.heap.size,0,none⟩) 2 2,.slice (some ⟨V.heap.size+1,0,none⟩) 2 2,.slice none 0 0,.slice none 0 0⟩:=by
 have h1:((V.alloc (.cells #[.string ⟨#[]⟩,.string (key2 mm)] 9)).alloc (.cells #[.int .i64 a,.int .i64 b] 3)).heap[V.heap.size]?=some (.cells (strsC [⟨#[]⟩,key2 mm]).toArray 9 (0,0)):=(qE _ _ _ (by simp)).trans (heap_newL V _)
 have h2:((V.alloc (.cells #[.string ⟨#[]⟩,.string (key2 mm)] 9)).alloc (.cells #[.int .i64 a,.int .i64 b] 3)).heap[V.heap.size+1]?=some (.cells (intsC [a,b]).toArray 3 (0,0)):=by
  have:=heap_newL (V.alloc (.cells #[.string ⟨#[]⟩,.string (key2 mm)] 9)) (.cells #[.int .i64 a,.int .i64 b] 3)
  rw[World.size_alloc] at this
  exact this
 have k1:SlK S 1 _ (some ⟨V.heap.size,0,none⟩) 2 2 (strsC [⟨#[]⟩,key2 mm]):=(SlAt.ofBlock (n:=2) h1 rfl (strsC_one _)).kOf fun b' o e hs=>by
  simp only[qQ,Addr.mk.injEq,and_true] at e
  have:=hS b' hs
  omega
 have k2:SlK S 1 _ (some ⟨V.heap.size+1,0,none⟩) 2 2 (intsC [a,b]):=(SlAt.ofBlock (n:=2) h2 rfl (intsC_one _)).kOf fun b' o e hs=>by
  simp only[qQ,Addr.mk.injEq,and_true] at e
  have:=hS b' hs
  omega
 exact⟨⟨none,0,[],rfl,rfl,SlK.nil _ _ _,Nat.zero_le _,fun i hi=>absurd hi (by simp[branchP,noPage])⟩,⟨_,_,rfl,k1,by unfold maxLen;simp[branchP],fun x hx=>by
  simp only[branchP,List.mem_cons,List.not_mem_nil,or_false] at hx
  unfold maxLen
  rcases hx with rfl|rfl<;>simp[key2,ByteArray.size]⟩,⟨_,_,rfl,k2⟩,by unfold maxLen;simp[branchP],by unfold maxLen;simp[branchP,noPage,ByteArray.size],StrsS.nil _ _,rfl,rfl⟩
theorem rput_any {S:Nat→Prop} {rb fb x:Nat} {ps:List PageD} {root:Int} {L:List Nat} {w:World} {va vf vi vp:Value} (hrb:S rb) (hS:∀ k,S k→k<w.heap.size) (hx:x<256) (hr:RootAt ps root L) (hl:L.length≤119) (h:RStAt S w rb fb (mkS ps) va vf vi vp) :
  ∃ ps' root',RootAt ps' root' (insN L x)∧putRootR (mkS ps) root (it2 x) 8=((root',0),mkS ps')∧Calls Tryz.prog 19 #[.pointer (some ⟨rb,0,none⟩),.int .i64 root,.agg #[.string (key2 x),.int .i64 1,.string ⟨#[118]⟩,.int .i64 0,.int .i64 0,.slice none 0 0,.int .i64 0,.int .i64 0,.int .i64 0,.int .i64 0]] w fun e w'=>e=.returned (.tuple #[.int .i64 root',.int .i64 0])∧∃ vi' vp',RStAt S w' rb fb (mkS ps') va vf vi' vp'∧w.grownBy w' (some rb):=by
 obtain⟨ps',root',e0,hr'⟩:=putRoot_num (f:=8) hr hx hl qL
 refine⟨ps',root',hr',e0,?_⟩
 have hLf:isPB (leafP [it2 x])=true:=isPB_leafN (l:=[x]) (List.pairwise_singleton _ _) (fun y hy=>by simp at hy;omega) (by simp) (by simp)
 have hIt:Hid (∀ V:World,V.heap[w.heap.size+1]?=some (.cells #[.string (key2 x),.int .i64 1,.string ⟨#[118]⟩,.int .i64 0,.int .i64 0,.slice none 0 0,.int .i64 0,.int .i64 0,.int .i64 0,.int .i64 0] 45 (0,0))→HangsS S V (leafP [it2 x]) ⟨.slice (some ⟨w.heap.size+1,0,none⟩) 1 1,.slice none 0 0,.slice none 0 0,.slice none 0 0,.slice none 0 0⟩):=hidA (fun V hV=>one_hangs hV (fun hs=>by have:=hS _ hs;omega))
 have CI:Hid (∀ V:World,V.heap[w.heap.size+1]?=some (.cells #[.string (key2 x),.int .i64 1,.string ⟨#[118]⟩,.int .i64 0,.int .i64 0,.slice none 0 0,.int .i64 0,.int .i64 0,.int .i64 0,.int .i64 0] 45 (0,0))→Calls Tryz.prog 40 #[.agg #[.int .i64 1,.slice (some ⟨w.heap.size+1,0,none⟩) 1 1,.slice none 0 0,.slice none 0 0,.string ⟨#[]⟩,.slice none 0 0,.slice none 0 0,.int .i64 0,.int .u64 0,.int .i64 0,.int .i64 0,.int .i64 0,.int .i64 0,.int .i64 0]] V fun e w'=>e=.returned (.bool true)∧Below V.heap.size V w'):=hidA (fun V hV=>by
  have:=refIs_any (leafP [it2 x]) (.slice (some ⟨w.heap.size+1,0,none⟩) 1 1) (.slice none 0 0) (.slice none 0 0) (.slice none 0 0) (.slice none 0 0) V ((hIt.out V hV).at V (Ks.refl _ _)) (by simp[leafP,noPage]) (leaf_txnA _)
  rw[hLf] at this
  exact this)
 have hitem:(itemCells (it2 x) (.slice none 0 0)).toArray=#[.string (key2 x),.int .i64 1,.string ⟨#[118]⟩,.int .i64 0,.int .i64 0,.slice none 0 0,.int .i64 0,.int .i64 0,.int .i64 0,.int .i64 0]:=rfl
 have hRW:Hid (∀ V,Below w.heap.size w V→RStAt S V rb fb (mkS ps) va vf vi vp):=hidA (fun V hV=>h.below hV)
 have hSW:Hid (∀ V,Below w.heap.size w V→∀ k,S k→k<V.heap.size):=hidA (fun V hV k hk=>qM (hS k hk) hV.size)
 have hx0:=heap_newL w (.cells #[.string (key2 x),.int .i64 1,.string ⟨#[118]⟩,.int .i64 0,.int .i64 0,.slice none 0 0,.int .i64 0,.int .i64 0,.int .i64 0,.int .i64 0] 45)
 have hrbl:=hidA h.lt
 have hxx:=hidA hx
 have hhl:=hidA hl
 have hrR:=hidA hr
 have hhS:=hidA hS
 have hhrb:=hidA hrb
 have he0:=hidA e0
 clear h hx hl hr hS hrb e0 hr' hLf
 generalize key2 x=kx at *
 go_enter Tryz.func19,Tryz.ntmps19
 have hx1:Hid (((w.alloc (.cells #[.string kx,.int .i64 1,.string ⟨#[118]⟩,.int .i64 0,.int .i64 0,.slice none 0 0,.int .i64 0,.int .i64 0,.int .i64 0,.int .i64 0] 45)).alloc (.cells #[.string kx,.int .i64 1,.string ⟨#[118]⟩,.int .i64 0,.int .i64 0,.slice none 0 0,.int .i64 0,.int .i64 0,.int .i64 0,.int .i64 0] 45)).heap[w.heap.size+1]?=some (.cells #[.string kx,.int .i64 1,.string ⟨#[118]⟩,.int .i64 0,.int .i64 0,.slice none 0 0,.int .i64 0,.int .i64 0,.int .i64 0,.int .i64 0] 45 (0,0))):=hidA (by have:=heap_newL (w.alloc (.cells #[.string kx,.int .i64 1,.string ⟨#[118]⟩,.int .i64 0,.int .i64 0,.slice none 0 0,.int .i64 0,.int .i64 0,.int .i64 0,.int .i64 0] 45)) (.cells #[.string kx,.int .i64 1,.string ⟨#[118]⟩,.int .i64 0,.int .i64 0,.slice none 0 0,.int .i64 0,.int .i64 0,.int .i64 0,.int .i64 0] 45);simpa using this)
 have hx2:Hid ((((w.alloc (.cells #[.string kx,.int .i64 1,.string ⟨#[118]⟩,.int .i64 0,.int .i64 0,.slice none 0 0,.int .i64 0,.int .i64 0,.int .i64 0,.int .i64 0] 45)).alloc (.cells #[.string kx,.int .i64 1,.string ⟨#[118]⟩,.int .i64 0,.int .i64 0,.slice none 0 0,.int .i64 0,.int .i64 0,.int .i64 0,.int .i64 0] 45)).alloc (.cells #[.int .i64 1,.slice (some ⟨w.heap.size+1,0,none⟩) 1 1,.slice none 0 0,.slice none 0 0,.string ⟨#[]⟩,.slice none 0 0,.slice none 0 0,.int .i64 0,.int .u64 0,.int .i64 0,.int .i64 0,.int .i64 0,.int .i64 0,.int .i64 0] 59)).heap[w.heap.size+1]?=some (.cells #[.string kx,.int .i64 1,.string ⟨#[118]⟩,.int .i64 0,.int .i64 0,.slice none 0 0,.int .i64 0,.int .i64 0,.int .i64 0,.int .i64 0] 45 (0,0))):=hidA ((qE _ _ _ (by simp)).trans hx1.out)
 have hp2:Hid ((((w.alloc (.cells #[.string kx,.int .i64 1,.string ⟨#[118]⟩,.int .i64 0,.int .i64 0,.slice none 0 0,.int .i64 0,.int .i64 0,.int .i64 0,.int .i64 0] 45)).alloc (.cells #[.string kx,.int .i64 1,.string ⟨#[118]⟩,.int .i64 0,.int .i64 0,.slice none 0 0,.int .i64 0,.int .i64 0,.int .i64 0,.int .i64 0] 45)).alloc (.cells #[.int .i64 1,.slice (some ⟨w.heap.size+1,0,none⟩) 1 1,.slice none 0 0,.slice none 0 0,.string ⟨#[]⟩,.slice none 0 0,.slice none 0 0,.int .i64 0,.int .u64 0,.int .i64 0,.int .i64 0,.int .i64 0,.int .i64 0,.int .i64 0] 59)).heap[w.heap.size+1+1]?=some (.cells #[.int .i64 1,.slice (some ⟨w.heap.size+1,0,none⟩) 1 1,.slice none 0 0,.slice none 0 0,.string ⟨#[]⟩,.slice none 0 0,.slice none 0 0,.int .i64 0,.int .u64 0,.int .i64 0,.int .i64 0,.int .i64 0,.int .i64 0,.int .i64 0] 59 (0,0))):=hidA (by have:=heap_newL ((w.alloc (.cells #[.string kx,.int .i64 1,.string ⟨#[118]⟩,.int .i64 0,.int .i64 0,.slice none 0 0,.int .i64 0,.int .i64 0,.int .i64 0,.int .i64 0] 45)).alloc (.cells #[.string kx,.int .i64 1,.string ⟨#[118]⟩,.int .i64 0,.int .i64 0,.slice none 0 0,.int .i64 0,.int .i64 0,.int .i64 0,.int .i64 0] 45)) (.cells #[.int .i64 1,.slice (some ⟨w.heap.size+1,0,none⟩) 1 1,.slice none 0 0,.slice none 0 0,.string ⟨#[]⟩,.slice none 0 0,.slice none 0 0,.int .i64 0,.int .u64 0,.int .i64 0,.int .i64 0,.int .i64 0,.int .i64 0,.int .i64 0] 59);simpa using this)
 have hi2:Hid ((((w.alloc (.cells #[.string kx,.int .i64 1,.string ⟨#[118]⟩,.int .i64 0,.int .i64 0,.slice none 0 0,.int .i64 0,.int .i64 0,.int .i64 0,.int .i64 0] 45)).alloc (.cells #[.string kx,.int .i64 1,.string ⟨#[118]⟩,.int .i64 0,.int .i64 0,.slice none 0 0,.int .i64 0,.int .i64 0,.int .i64 0,.int .i64 0] 45)).alloc (.cells #[.int .i64 1,.slice (some ⟨w.heap.size+1,0,none⟩) 1 1,.slice none 0 0,.slice none 0 0,.string ⟨#[]⟩,.slice none 0 0,.slice none 0 0,.int .i64 0,.int .u64 0,.int .i64 0,.int .i64 0,.int .i64 0,.int .i64 0,.int .i64 0] 59)).heap[w.heap.size]?=some (.cells #[.string kx,.int .i64 1,.string ⟨#[118]⟩,.int .i64 0,.int .i64 0,.slice none 0 0,.int .i64 0,.int .i64 0,.int .i64 0,.int .i64 0] 45 (0,0))):=hidA ((qE _ _ _ (by simp;omega)).trans ((qE _ _ _ (by simp)).trans hx0))
 have hB3:Hid (Below w.heap.size w (((w.alloc (.cells #[.string kx,.int .i64 1,.string ⟨#[118]⟩,.int .i64 0,.int .i64 0,.slice none 0 0,.int .i64 0,.int .i64 0,.int .i64 0,.int .i64 0] 45)).alloc (.cells #[.string kx,.int .i64 1,.string ⟨#[118]⟩,.int .i64 0,.int .i64 0,.slice none 0 0,.int .i64 0,.int .i64 0,.int .i64 0,.int .i64 0] 45)).alloc (.cells #[.int .i64 1,.slice (some ⟨w.heap.size+1,0,none⟩) 1 1,.slice none 0 0,.slice none 0 0,.string ⟨#[]⟩,.slice none 0 0,.slice none 0 0,.int .i64 0,.int .u64 0,.int .i64 0,.int .i64 0,.int .i64 0,.int .i64 0,.int .i64 0] 59))):=hidA ((((qB _ _).alloc qL _).alloc (by simp) _).alloc (by simp;omega) _)
 clear hx0 hx1
 go_wp2_with fail
 refine (CI.out _ hx2.out).mono ?_
 rintro e V1 ⟨rfl,hb1⟩
 have hs3:Hid ((((w.alloc (.cells #[.string kx,.int .i64 1,.string ⟨#[118]⟩,.int .i64 0,.int .i64 0,.slice none 0 0,.int .i64 0,.int .i64 0,.int .i64 0,.int .i64 0] 45)).alloc (.cells #[.string kx,.int .i64 1,.string ⟨#[118]⟩,.int .i64 0,.int .i64 0,.slice none 0 0,.int .i64 0,.int .i64 0,.int .i64 0,.int .i64 0] 45)).alloc (.cells #[.int .i64 1,.slice (some ⟨w.heap.size+1,0,none⟩) 1 1,.slice none 0 0,.slice none 0 0,.string ⟨#[]⟩,.slice none 0 0,.slice none 0 0,.int .i64 0,.int .u64 0,.int .i64 0,.int .i64 0,.int .i64 0,.int .i64 0,.int .i64 0] 59)).heap.size=w.heap.size+3):=hidA (by simp)
 replace hx2:=hidA ((hb1.block _ (by have:=hs3.out;omega)).trans hx2.out)
 replace hp2:=hidA ((hb1.block _ (by have:=hs3.out;omega)).trans hp2.out)
 replace hi2:=hidA ((hb1.block _ (by have:=hs3.out;omega)).trans hi2.out)
 replace hB3:=hidA (hB3.out.trans (hb1.mono (by have:=hs3.out;omega)))
 have cI:=cell_rowL hi2.out
 have cP:=cell_rowL hp2.out
 clear hb1 hs3 CI
 have hR1:=hidA (hRW.out V1 hB3.out)
 have hS1:=hidA (hSW.out V1 hB3.out)
 have hG1:Hid (w.grownBy V1 (some rb)):=hidA (below_grown hB3.out)
 clear hRW hSW
 rcases hrR.out with ⟨rfl,hps,hL⟩|⟨d,id,I,rfl,hT,hperm⟩
 ·have hA:Hid (addR (mkS ps) (leafP [it2 x])=(root',0,mkS ps')):=hidA (by
   have h9:=he0.out
   unfold putRootR at h9
   rw[if_pos rfl] at h9
   simp only[Prod.mk.injEq] at h9
   exact Prod.ext h9.1.1 (Prod.ext h9.1.2 h9.2))
  have CA:Hid (Calls Tryz.prog 51 #[.pointer (some ⟨rb,0,none⟩),.agg #[.int .i64 1,.slice (some ⟨w.heap.size+1,0,none⟩) 1 1,.slice none 0 0,.slice none 0 0,.string ⟨#[]⟩,.slice none 0 0,.slice none 0 0,.int .i64 0,.int .u64 0,.int .i64 0,.int .i64 0,.int .i64 0,.int .i64 0,.int .i64 0]] V1 fun e w'=>e=.returned (.tuple #[.int .i64 root',.int .i64 0])∧∃ vi' vp',RStAt S w' rb fb (mkS ps') va vf vi' vp'∧V1.grownBy w' (some rb)):=hidA (by
   have h9:=radd_last hR1.out hS1.out hhrb.out (leafP [it2 x]) ⟨.slice (some ⟨w.heap.size+1,0,none⟩) 1 1,.slice none 0 0,.slice none 0 0,.slice none 0 0,.slice none 0 0⟩ (hIt.out V1 hx2.out) (by simp[leafP,noPage]) (leaf_txnA _) rfl ids_lt
   rw[hA.out] at h9
   exact h9)
  clear hA hIt hx2 hR1 hi2 hp2 hps hL
  go_wp2_with fail
  refine CA.out.mono ?_
  rintro e V2 ⟨rfl,vi',vp',hR2,hg2⟩
  have hR2:=hidA hR2
  have hg2:=hidA hg2
  clear cI cP CA
  go_wp2
  go_ret2
  exact⟨rfl,vi',vp',hR2.out,grown_then hG1.out hg2.out⟩
 ·obtain⟨hnd,hlt⟩:=root_mem hperm
  have hIl:=hperm.length_eq
  simp only[List.length_range] at hIl
  have hd:=tree_depth hT (by have:=hhl.out;omega)
  have hok:=put_num (x:=x) d 8 (by omega) hT (Nat.zero_le _) hxx.out qL hnd hlt (by have:=hhl.out;omega)
  have CP:Hid (Calls Tryz.prog 52 #[.pointer (some ⟨rb,0,none⟩),.int .i64 (num id),.agg #[.string kx,.int .i64 1,.string ⟨#[118]⟩,.int .i64 0,.int .i64 0,.slice none 0 0,.int .i64 0,.int .i64 0,.int .i64 0,.int .i64 0]] V1 fun e w'=>e=.returned (tupP (putR 8 (mkS ps) (num id) (it2 x)))∧∃ vi' vp',RStAt S w' rb fb (putR 8 (mkS ps) (num id) (it2 x)).2 va vf vi' vp'∧V1.grownBy w' (some rb)):=hidA (by
   have h9:=put_sem (xu:=.slice none 0 0) hhrb.out hxx.out d 7 (by omega) hT (Nat.zero_le _) hxx.out qL hnd hlt (by have:=hhl.out;omega) hR1.out hS1.out (item_S S V1)
   rw[hitem] at h9
   exact h9)
  have hroot:(num id==0)=false:=by unfold num;simp;omega
  have hroot2:¬ num id=0:=by unfold num;omega
  have he1:=he0.out
  unfold putRootR at he1
  rw[if_neg hroot2] at he1
  obtain⟨ps1,hle1,_,hcase⟩:=hok
  clear hT hnd hlt hIl hIt hx2 hp2 hi2 hperm hd hle1
  rcases hcase with ⟨er,I',_,_⟩|⟨m,nid,L1,L2,I1,I2,er,hT1,hT2,hL,hpm,hnid⟩
  ·rw[er] at CP he1
   rw[if_pos (.inr rfl)] at he1
   simp only[Prod.mk.injEq,and_true] at he1
   obtain⟨rfl,he3⟩:=he1
   have e3:ps1=ps':=congrArg RSt.ps he3
   subst e3
   have CP2:Hid (Calls Tryz.prog 52 #[.pointer (some ⟨rb,0,none⟩),.int .i64 (num id),.agg #[.string kx,.int .i64 1,.string ⟨#[118]⟩,.int .i64 0,.int .i64 0,.slice none 0 0,.int .i64 0,.int .i64 0,.int .i64 0,.int .i64 0]] V1 fun e w'=>e=.returned (.tuple #[.int .i64 (num id),.int .i64 0,.string ⟨#[]⟩,.int .i64 0])∧∃ vi' vp',RStAt S w' rb fb (mkS ps1) va vf vi' vp'∧V1.grownBy w' (some rb)):=CP
   clear CP er hroot2 he0
   go_wp2_with fail
   refine CP2.out.mono ?_
   rintro e V2 ⟨rfl,vi',vp',hR2,hg2⟩
   have hR2:=hidA hR2
   have hg2:=hidA hg2
   clear cI cP CP2
   go_wp2
   go_ret2
   exact⟨rfl,vi',vp',hR2.out,grown_then hG1.out hg2.out⟩
  ·rw[er] at CP he1
   have hnz:¬ num nid=0:=by unfold num;omega
   rw[if_neg (by simp[hnz])] at he1
   have hA:Hid (addR (mkS ps1) (branchP [⟨#[]⟩,key2 m] [num id,num nid])=(root',0,mkS ps')):=hidA (by
    simp only[Prod.mk.injEq] at he1
    exact Prod.ext he1.1.1 (Prod.ext he1.1.2 he1.2))
   have hnb:(num nid==0)=false:=by simpa using hnz
   have CP2:Hid (Calls Tryz.prog 52 #[.pointer (some ⟨rb,0,none⟩),.int .i64 (num id),.agg #[.string kx,.int .i64 1,.string ⟨#[118]⟩,.int .i64 0,.int .i64 0,.slice none 0 0,.int .i64 0,.int .i64 0,.int .i64 0,.int .i64 0]] V1 fun e w'=>e=.returned (.tuple #[.int .i64 (num id),.int .i64 (num nid),.string (key2 m),.int .i64 0])∧∃ vi' vp',RStAt S w' rb fb (mkS ps1) va vf vi' vp'∧V1.grownBy w' (some rb)):=CP
   have CA:Hid (∀ V2 vi' vp',RStAt S V2 rb fb (mkS ps1) va vf vi' vp'→V1.grownBy V2 (some rb)→Calls Tryz.prog 51 #[.pointer (some ⟨rb,0,none⟩),.agg #[.int .i64 2,.slice none 0 0,.slice (some ⟨V2.heap.size,0,none⟩) 2 2,.slice (some ⟨V2.heap.size+1,0,none⟩) 2 2,.string ⟨#[]⟩,.slice none 0 0,.slice none 0 0,.int .i64 0,.int .u64 0,.int .i64 0,.int .i64 0,.int .i64 0,.int .i64 0,.int .i64 0]] ((V2.alloc (.cells #[.string ⟨#[]⟩,.string (key2 m)] 9)).alloc (.cells #[.int .i64 (num id),.int .i64 (num nid)] 3)) fun e w'=>e=.returned (.tuple #[.int .i64 root',.int .i64 0])∧∃ vi' vp',RStAt S w' rb fb (mkS ps') va vf vi' vp'∧V2.grownBy w' (some rb)):=hidA (fun V2 vi' vp' hR2 hg2=>by
    have hb:=(((qB V2.heap.size V2).alloc qL (.cells #[.string ⟨#[]⟩,.string (key2 m)] 9)).alloc (by simp) (.cells #[.int .i64 (num id),.int .i64 (num nid)] 3))
    have hS2:∀ k,S k→k<V2.heap.size:=fun k hk=>qM (hS1.out k hk) hg2.size
    have h9:=radd_last (hR2.below hb) (fun k hk=>Nat.lt_of_lt_of_le (hS2 k hk) hb.size) hhrb.out (branchP [⟨#[]⟩,key2 m] [num id,num nid]) ⟨.slice none 0 0,.slice (some ⟨V2.heap.size,0,none⟩) 2 2,.slice (some ⟨V2.heap.size+1,0,none⟩) 2 2,.slice none 0 0,.slice none 0 0⟩ (two_hangs (fun k hk=>hS2 k hk)) (by simp[branchP,noPage]) (br_txn _ _) rfl ids_lt
    rw[hA.out] at h9
    refine h9.mono fun e w' h8=>⟨h8.1,?_⟩
    obtain⟨_,vi3,vp3,h7,h6⟩:=h8
    exact⟨vi3,vp3,h7,grown_then (below_grown hb) h6⟩)
   clear CP er he1 hroot2 he0 hA hT1 hT2 hL hpm hnid hnz
   generalize key2 m=km at *
   go_wp2_with fail
   refine CP2.out.mono ?_
   rintro e V2 ⟨rfl,vi',vp',hR2,hg2⟩
   have CA2:=hidA (CA.out V2 vi' vp' hR2 hg2)
   have hR2:=hidA hR2
   have hg2:=hidA hg2
   clear cI cP CP2 CA
   go_wp2_with fail
   refine CA2.out.mono ?_
   rintro e V3 ⟨rfl,vi3,vp3,hR3,hg3⟩
   have hR3:=hidA hR3
   have hg3:=hidA hg3
   go_wp2
   go_ret2
   exact⟨rfl,vi3,vp3,hR3.out,grown_then hG1.out (grown_then hg2.out hg3.out)⟩
end
end Go.Proofs.YtbghhklbfnplbaaGreat

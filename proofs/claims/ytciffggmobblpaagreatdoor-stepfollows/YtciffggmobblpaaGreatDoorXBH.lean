import Derived.Test.YtciffggmobblpaaGreatDoorXBG
import Derived.RegionTactic
import Derived.Laws.BytesArg
import Derived.Deep.RegionWith
import Derived.Deep.RegionHeld3
namespace Go.Proofs.YtciffggmobblpaaGreatDoor.Tn
open Go.RowKit

def mxi (k j:Nat) (x y:Int):Int:=if j < k then y else x

theorem set2_0 {W:World} {b T:Nat} {m:Nat×Nat} {x0 x1 x2 x3 x4 x5 x6 x7 x8:Value} (u v:Value) (h:W.heap[b]?=some (.cells #[x0,x1,x2,x3,x4,x5,x6,x7,x8] T m)) :
  ((W.setCell ⟨b,1,none⟩ u).setCell ⟨b,5,none⟩ v).heap[b]?=some (.cells #[x0,u,x2,x3,x4,v,x6,x7,x8] T m):=by
 have h0:=set_get (j:=1) u h
 have h1:=set_get (j:=5) v h0
 rw [h1];simp

theorem set2_1 {W:World} {b T:Nat} {m:Nat×Nat} {x0 x1 x2 x3 x4 x5 x6 x7 x8:Value} (u v:Value) (h:W.heap[b]?=some (.cells #[x0,x1,x2,x3,x4,x5,x6,x7,x8] T m)) :
  ((W.setCell ⟨b,2,none⟩ u).setCell ⟨b,6,none⟩ v).heap[b]?=some (.cells #[x0,x1,u,x3,x4,x5,v,x7,x8] T m):=by
 have h0:=set_get (j:=2) u h
 have h1:=set_get (j:=6) v h0
 rw [h1];simp

theorem set2_2 {W:World} {b T:Nat} {m:Nat×Nat} {x0 x1 x2 x3 x4 x5 x6 x7 x8:Value} (u v:Value) (h:W.heap[b]?=some (.cells #[x0,x1,x2,x3,x4,x5,x6,x7,x8] T m)) :
  ((W.setCell ⟨b,3,none⟩ u).setCell ⟨b,7,none⟩ v).heap[b]?=some (.cells #[x0,x1,x2,u,x4,x5,x6,v,x8] T m):=by
 have h0:=set_get (j:=3) u h
 have h1:=set_get (j:=7) v h0
 rw [h1];simp

theorem set2_3 {W:World} {b T:Nat} {m:Nat×Nat} {x0 x1 x2 x3 x4 x5 x6 x7 x8:Value} (u v:Value) (h:W.heap[b]?=some (.cells #[x0,x1,x2,x3,x4,x5,x6,x7,x8] T m)) :
  ((W.setCell ⟨b,4,none⟩ u).setCell ⟨b,8,none⟩ v).heap[b]?=some (.cells #[x0,x1,x2,x3,u,x5,x6,x7,v] T m):=by
 have h0:=set_get (j:=4) u h
 have h1:=set_get (j:=8) v h0
 rw [h1];simp

theorem set2_ne {W:World} {a1 a2:Addr} {c:Nat} {o:Obj} (u v:Value) (h1:c≠a1.block) (h2:c≠a2.block) (h:W.heap[c]?=some o):((W.setCell a1 u).setCell a2 v).heap[c]?=some o:=by
 rw [Below.heap_setCell _ _ _ _ h2,Below.heap_setCell _ _ _ _ h1];exact h

theorem alloc3_0 (w:World) (o1 o2 o3:Obj):(((w.alloc o1).alloc o2).alloc o3).heap[w.heap.size]?=some o1:=by
 rw [Below.heap_alloc _ _ _ (by simp;omega),Below.heap_alloc _ _ _ (by simp)]
 exact alloc_get _ _
theorem alloc3_1 (w:World) (o1 o2 o3:Obj):(((w.alloc o1).alloc o2).alloc o3).heap[w.heap.size+1]?=some o2:=by
 rw [Below.heap_alloc _ _ _ (by simp)]
 have:=alloc_get (w.alloc o1) o2
 simpa using this

set_option maxHeartbeats 1000000 in
theorem common_raw (n f0 f1 f2 f3 o0 o1 o2 o3 m g0 g1 g2 g3 p0 p1 p2 p3:Int) (w:World) :
  Calls Tryz.prog 86 #[cv n f0 f1 f2 f3 o0 o1 o2 o3,cv m g0 g1 g2 g3 p0 p1 p2 p3] w fun e w'=>e=.returned (cv n (bits .or .u64 f0 g0) (bits .or .u64 f1 g1) (bits .or .u64 f2 g2) (bits .or .u64 f3 g3) (bits .or .u64 o0 p0) (bits .or .u64 o1 p1) (bits .or .u64 o2 p2) (bits .or .u64 o3 p3))∧Below w.heap.size w w':=by
 unfold cv
 go_enter Tryz.func86,Tryz.ntmps86
 go_wp2
 have hA1:=alloc3_0 w (.cells #[.int .i64 n,.int .u64 f0,.int .u64 f1,.int .u64 f2,.int .u64 f3,.int .u64 o0,.int .u64 o1,.int .u64 o2,.int .u64 o3] 74 (0,0)) (.cells #[.int .i64 m,.int .u64 g0,.int .u64 g1,.int .u64 g2,.int .u64 g3,.int .u64 p0,.int .u64 p1,.int .u64 p2,.int .u64 p3] 74 (0,0)) (.cells #[.int .i64 0,.int .u64 0,.int .u64 0,.int .u64 0,.int .u64 0,.int .u64 0,.int .u64 0,.int .u64 0,.int .u64 0] 74 (0,0))
 have hB1:=alloc3_1 w (.cells #[.int .i64 n,.int .u64 f0,.int .u64 f1,.int .u64 f2,.int .u64 f3,.int .u64 o0,.int .u64 o1,.int .u64 o2,.int .u64 o3] 74 (0,0)) (.cells #[.int .i64 m,.int .u64 g0,.int .u64 g1,.int .u64 g2,.int .u64 g3,.int .u64 p0,.int .u64 p1,.int .u64 p2,.int .u64 p3] 74 (0,0)) (.cells #[.int .i64 0,.int .u64 0,.int .u64 0,.int .u64 0,.int .u64 0,.int .u64 0,.int .u64 0,.int .u64 0,.int .u64 0] 74 (0,0))
 have hC1:=alloc_get2 w (.cells #[.int .i64 n,.int .u64 f0,.int .u64 f1,.int .u64 f2,.int .u64 f3,.int .u64 o0,.int .u64 o1,.int .u64 o2,.int .u64 o3] 74 (0,0)) (.cells #[.int .i64 m,.int .u64 g0,.int .u64 g1,.int .u64 g2,.int .u64 g3,.int .u64 p0,.int .u64 p1,.int .u64 p2,.int .u64 p3] 74 (0,0)) (.cells #[.int .i64 0,.int .u64 0,.int .u64 0,.int .u64 0,.int .u64 0,.int .u64 0,.int .u64 0,.int .u64 0,.int .u64 0] 74 (0,0))
 have hW1:=bel1 (bel1 (bel1 (Below.refl _ (((w.alloc (.cells #[.int .i64 n,.int .u64 f0,.int .u64 f1,.int .u64 f2,.int .u64 f3,.int .u64 o0,.int .u64 o1,.int .u64 o2,.int .u64 o3] 74 (0,0))).alloc (.cells #[.int .i64 m,.int .u64 g0,.int .u64 g1,.int .u64 g2,.int .u64 g3,.int .u64 p0,.int .u64 p1,.int .u64 p2,.int .u64 p3] 74 (0,0))).alloc (.cells #[.int .i64 0,.int .u64 0,.int .u64 0,.int .u64 0,.int .u64 0,.int .u64 0,.int .u64 0,.int .u64 0,.int .u64 0] 74 (0,0))))))
 go_loopw [6] (fun i wr=>∃ k:Nat,k≤4∧i=.int .i64 k∧wr.heap[w.heap.size]?=some (.cells #[.int .i64 n,.int .u64 (mxi k 0 f0 (bits .or .u64 f0 g0)),.int .u64 (mxi k 1 f1 (bits .or .u64 f1 g1)),.int .u64 (mxi k 2 f2 (bits .or .u64 f2 g2)),.int .u64 (mxi k 3 f3 (bits .or .u64 f3 g3)),.int .u64 (mxi k 0 o0 (bits .or .u64 o0 p0)),.int .u64 (mxi k 1 o1 (bits .or .u64 o1 p1)),.int .u64 (mxi k 2 o2 (bits .or .u64 o2 p2)),.int .u64 (mxi k 3 o3 (bits .or .u64 o3 p3))] 74 (0,0))∧wr.heap[w.heap.size+1]?=some (.cells #[.int .i64 m,.int .u64 g0,.int .u64 g1,.int .u64 g2,.int .u64 g3,.int .u64 p0,.int .u64 p1,.int .u64 p2,.int .u64 p3] 74 (0,0))∧wr.heap[w.heap.size+2]?=some (.cells #[.int .i64 0,.int .u64 0,.int .u64 0,.int .u64 0,.int .u64 0,.int .u64 0,.int .u64 0,.int .u64 0,.int .u64 0] 74 (0,0))∧Below w.heap.size w wr) (fun i _=>4 - (intOf i).toNat)
 case atStart=>exact ⟨0,by omega,rfl,hA1,hB1,hC1,hW1⟩
 case round=>
  clear hA1 hB1 hC1 hW1
  obtain ⟨k,hk,rfl,hA0,hB,hC,hW⟩:=hrel
  obtain ⟨hcB,hfB⟩:=cells_block hB
  rcases (show k=0∨k=1∨k=2∨k=3∨k=4 by omega) with rfl | rfl | rfl | rfl | rfl
  ·have hA:wr.heap[w.heap.size]?=some (.cells #[.int .i64 n,.int .u64 f0,.int .u64 f1,.int .u64 f2,.int .u64 f3,.int .u64 o0,.int .u64 o1,.int .u64 o2,.int .u64 o3] 74 (0,0)):=hA0
   obtain ⟨hcA,hfA⟩:=cells_block hA
   clear hA0
   go_wp2
   go_region
   go_wp2
   go_region
   go_wp2
   go_roundw
   case rel=>exact ⟨1,by omega,rfl,set2_0 _ _ hA,set2_ne _ _ (by simp) (by simp) hB,set2_ne _ _ (by simp) (by simp) hC,((hW.setCell (Nat.le_refl _) _).setCell (Nat.le_refl _) _).drew.drew⟩
   case measure=>simp [intOf]
  ·have hA:wr.heap[w.heap.size]?=some (.cells #[.int .i64 n,.int .u64 (bits .or .u64 f0 g0),.int .u64 f1,.int .u64 f2,.int .u64 f3,.int .u64 (bits .or .u64 o0 p0),.int .u64 o1,.int .u64 o2,.int .u64 o3] 74 (0,0)):=hA0
   obtain ⟨hcA,hfA⟩:=cells_block hA
   clear hA0
   go_wp2
   go_region
   go_wp2
   go_region
   go_wp2
   go_roundw
   case rel=>exact ⟨2,by omega,rfl,set2_1 _ _ hA,set2_ne _ _ (by simp) (by simp) hB,set2_ne _ _ (by simp) (by simp) hC,((hW.setCell (Nat.le_refl _) _).setCell (Nat.le_refl _) _).drew.drew⟩
   case measure=>simp [intOf]
  ·have hA:wr.heap[w.heap.size]?=some (.cells #[.int .i64 n,.int .u64 (bits .or .u64 f0 g0),.int .u64 (bits .or .u64 f1 g1),.int .u64 f2,.int .u64 f3,.int .u64 (bits .or .u64 o0 p0),.int .u64 (bits .or .u64 o1 p1),.int .u64 o2,.int .u64 o3] 74 (0,0)):=hA0
   obtain ⟨hcA,hfA⟩:=cells_block hA
   clear hA0
   go_wp2
   go_region
   go_wp2
   go_region
   go_wp2
   go_roundw
   case rel=>exact ⟨3,by omega,rfl,set2_2 _ _ hA,set2_ne _ _ (by simp) (by simp) hB,set2_ne _ _ (by simp) (by simp) hC,((hW.setCell (Nat.le_refl _) _).setCell (Nat.le_refl _) _).drew.drew⟩
   case measure=>simp [intOf]
  ·have hA:wr.heap[w.heap.size]?=some (.cells #[.int .i64 n,.int .u64 (bits .or .u64 f0 g0),.int .u64 (bits .or .u64 f1 g1),.int .u64 (bits .or .u64 f2 g2),.int .u64 f3,.int .u64 (bits .or .u64 o0 p0),.int .u64 (bits .or .u64 o1 p1),.int .u64 (bits .or .u64 o2 p2),.int .u64 o3] 74 (0,0)):=hA0
   obtain ⟨hcA,hfA⟩:=cells_block hA
   clear hA0
   go_wp2
   go_region
   go_wp2
   go_region
   go_wp2
   go_roundw
   case rel=>exact ⟨4,by omega,rfl,set2_3 _ _ hA,set2_ne _ _ (by simp) (by simp) hB,set2_ne _ _ (by simp) (by simp) hC,((hW.setCell (Nat.le_refl _) _).setCell (Nat.le_refl _) _).drew.drew⟩
   case measure=>simp [intOf]
  ·have hA:wr.heap[w.heap.size]?=some (.cells #[.int .i64 n,.int .u64 (bits .or .u64 f0 g0),.int .u64 (bits .or .u64 f1 g1),.int .u64 (bits .or .u64 f2 g2),.int .u64 (bits .or .u64 f3 g3),.int .u64 (bits .or .u64 o0 p0),.int .u64 (bits .or .u64 o1 p1),.int .u64 (bits .or .u64 o2 p2),.int .u64 (bits .or .u64 o3 p3)] 74 (0,0)):=hA0
   obtain ⟨hcA,hfA⟩:=cells_block hA
   obtain ⟨hcC,hfC⟩:=cells_block hC
   clear hA0
   go_wp2
   refine bodyPost_ret (v:=cv n (bits .or .u64 f0 g0) (bits .or .u64 f1 g1) (bits .or .u64 f2 g2) (bits .or .u64 f3 g3) (bits .or .u64 o0 p0) (bits .or .u64 o1 p1) (bits .or .u64 o2 p2) (bits .or .u64 o3 p3)) ?_ rfl ⟨rfl,?_⟩
   ·exact res_cube1 _ _ (w.heap.size+2) _ _ _ _ _ _ _ _ _ Tryz.results86 rfl (put9_get _ _ _ _ _ _ _ _ _ hC)
   ·exact put9_below _ _ _ _ _ _ _ _ _ hW (by omega)

end Go.Proofs.YtciffggmobblpaaGreatDoor.Tn
namespace Go.Proofs.YtciffggmobblpaaGreatDoor.Tn
open Go.RowKit

set_option maxHeartbeats 1000000 in
theorem write_raw (n f0 f1 f2 f3 o0 o1 o2 o3 m g0 g1 g2 g3 p0 p1 p2 p3:Int) (w:World)
  (hcall0:∀ W,Calls Tryz.prog 77 #[cv n f0 f1 f2 f3 o0 o1 o2 o3,cv m g0 g1 g2 g3 p0 p1 p2 p3] W fun e w'=>e=.returned (.bool true)∧Below W.heap.size W w') :
  Calls Tryz.prog 62 #[cv n f0 f1 f2 f3 o0 o1 o2 o3,cv m g0 g1 g2 g3 p0 p1 p2 p3] w fun e w'=>e=.returned (cv n (bits .or .u64 f0 g0) (bits .or .u64 f1 g1) (bits .or .u64 f2 g2) (bits .or .u64 f3 g3) (bits .or .u64 (bits .andNot .u64 o0 g0) p0) (bits .or .u64 (bits .andNot .u64 o1 g1) p1) (bits .or .u64 (bits .andNot .u64 o2 g2) p2) (bits .or .u64 (bits .andNot .u64 o3 g3) p3))∧Below w.heap.size w w':=by
 have hcall:Hid (∀ W,Calls Tryz.prog 77 #[cv n f0 f1 f2 f3 o0 o1 o2 o3,cv m g0 g1 g2 g3 p0 p1 p2 p3] W fun e w'=>e=.returned (.bool true)∧Below W.heap.size W w'):=hcall0
 clear hcall0
 unfold cv
 go_enter Tryz.func62,Tryz.ntmps62
 go_wp2_with (go_at_call 77;refine (hcall.out _).mono ?_;rintro e w1 ⟨rfl,hb1⟩)
 have hA1:=(hb1.block w.heap.size (by simp;omega)).trans (alloc3_0 _ _ _ _)
 have hB1:=(hb1.block (w.heap.size+1) (by simp)).trans (alloc3_1 _ _ _ _)
 have hC1:=(hb1.block (w.heap.size+2) (by simp)).trans (alloc_get2 _ _ _ _)
 have hW1:=bel1 (bel1 (bel1 hb1))
 clear hb1
 go_loopw [11] (fun i wr=>∃ k:Nat,k≤4∧i=.int .i64 k∧wr.heap[w.heap.size]?=some (.cells #[.int .i64 n,.int .u64 (mxi k 0 f0 (bits .or .u64 f0 g0)),.int .u64 (mxi k 1 f1 (bits .or .u64 f1 g1)),.int .u64 (mxi k 2 f2 (bits .or .u64 f2 g2)),.int .u64 (mxi k 3 f3 (bits .or .u64 f3 g3)),.int .u64 (mxi k 0 o0 (bits .or .u64 (bits .andNot .u64 o0 g0) p0)),.int .u64 (mxi k 1 o1 (bits .or .u64 (bits .andNot .u64 o1 g1) p1)),.int .u64 (mxi k 2 o2 (bits .or .u64 (bits .andNot .u64 o2 g2) p2)),.int .u64 (mxi k 3 o3 (bits .or .u64 (bits .andNot .u64 o3 g3) p3))] 74 (0,0))∧wr.heap[w.heap.size+1]?=some (.cells #[.int .i64 m,.int .u64 g0,.int .u64 g1,.int .u64 g2,.int .u64 g3,.int .u64 p0,.int .u64 p1,.int .u64 p2,.int .u64 p3] 74 (0,0))∧wr.heap[w.heap.size+2]?=some (.cells #[.int .i64 0,.int .u64 0,.int .u64 0,.int .u64 0,.int .u64 0,.int .u64 0,.int .u64 0,.int .u64 0,.int .u64 0] 74 (0,0))∧Below w.heap.size w wr) (fun i _=>4 - (intOf i).toNat)
 case atStart=>exact ⟨0,by omega,rfl,hA1,hB1,hC1,hW1⟩
 case round=>
  clear hA1 hB1 hC1 hW1
  obtain ⟨k,hk,rfl,hA0,hB,hC,hW⟩:=hrel
  obtain ⟨hcB,hfB⟩:=cells_block hB
  rcases (show k=0∨k=1∨k=2∨k=3∨k=4 by omega) with rfl | rfl | rfl | rfl | rfl
  ·have hA:wr.heap[w.heap.size]?=some (.cells #[.int .i64 n,.int .u64 f0,.int .u64 f1,.int .u64 f2,.int .u64 f3,.int .u64 o0,.int .u64 o1,.int .u64 o2,.int .u64 o3] 74 (0,0)):=hA0
   obtain ⟨hcA,hfA⟩:=cells_block hA
   clear hA0
   go_wp2
   go_region
   go_wp2
   go_region
   go_wp2
   go_roundw
   case rel=>exact ⟨1,by omega,rfl,set2_0 _ _ hA,set2_ne _ _ (by simp) (by simp) hB,set2_ne _ _ (by simp) (by simp) hC,((hW.setCell (Nat.le_refl _) _).setCell (Nat.le_refl _) _).drew.drew⟩
   case measure=>simp [intOf]
  ·have hA:wr.heap[w.heap.size]?=some (.cells #[.int .i64 n,.int .u64 (bits .or .u64 f0 g0),.int .u64 f1,.int .u64 f2,.int .u64 f3,.int .u64 (bits .or .u64 (bits .andNot .u64 o0 g0) p0),.int .u64 o1,.int .u64 o2,.int .u64 o3] 74 (0,0)):=hA0
   obtain ⟨hcA,hfA⟩:=cells_block hA
   clear hA0
   go_wp2
   go_region
   go_wp2
   go_region
   go_wp2
   go_roundw
   case rel=>exact ⟨2,by omega,rfl,set2_1 _ _ hA,set2_ne _ _ (by simp) (by simp) hB,set2_ne _ _ (by simp) (by simp) hC,((hW.setCell (Nat.le_refl _) _).setCell (Nat.le_refl _) _).drew.drew⟩
   case measure=>simp [intOf]
  ·have hA:wr.heap[w.heap.size]?=some (.cells #[.int .i64 n,.int .u64 (bits .or .u64 f0 g0),.int .u64 (bits .or .u64 f1 g1),.int .u64 f2,.int .u64 f3,.int .u64 (bits .or .u64 (bits .andNot .u64 o0 g0) p0),.int .u64 (bits .or .u64 (bits .andNot .u64 o1 g1) p1),.int .u64 o2,.int .u64 o3] 74 (0,0)):=hA0
   obtain ⟨hcA,hfA⟩:=cells_block hA
   clear hA0
   go_wp2
   go_region
   go_wp2
   go_region
   go_wp2
   go_roundw
   case rel=>exact ⟨3,by omega,rfl,set2_2 _ _ hA,set2_ne _ _ (by simp) (by simp) hB,set2_ne _ _ (by simp) (by simp) hC,((hW.setCell (Nat.le_refl _) _).setCell (Nat.le_refl _) _).drew.drew⟩
   case measure=>simp [intOf]
  ·have hA:wr.heap[w.heap.size]?=some (.cells #[.int .i64 n,.int .u64 (bits .or .u64 f0 g0),.int .u64 (bits .or .u64 f1 g1),.int .u64 (bits .or .u64 f2 g2),.int .u64 f3,.int .u64 (bits .or .u64 (bits .andNot .u64 o0 g0) p0),.int .u64 (bits .or .u64 (bits .andNot .u64 o1 g1) p1),.int .u64 (bits .or .u64 (bits .andNot .u64 o2 g2) p2),.int .u64 o3] 74 (0,0)):=hA0
   obtain ⟨hcA,hfA⟩:=cells_block hA
   clear hA0
   go_wp2
   go_region
   go_wp2
   go_region
   go_wp2
   go_roundw
   case rel=>exact ⟨4,by omega,rfl,set2_3 _ _ hA,set2_ne _ _ (by simp) (by simp) hB,set2_ne _ _ (by simp) (by simp) hC,((hW.setCell (Nat.le_refl _) _).setCell (Nat.le_refl _) _).drew.drew⟩
   case measure=>simp [intOf]
  ·have hA:wr.heap[w.heap.size]?=some (.cells #[.int .i64 n,.int .u64 (bits .or .u64 f0 g0),.int .u64 (bits .or .u64 f1 g1),.int .u64 (bits .or .u64 f2 g2),.int .u64 (bits .or .u64 f3 g3),.int .u64 (bits .or .u64 (bits .andNot .u64 o0 g0) p0),.int .u64 (bits .or .u64 (bits .andNot .u64 o1 g1) p1),.int .u64 (bits .or .u64 (bits .andNot .u64 o2 g2) p2),.int .u64 (bits .or .u64 (bits .andNot .u64 o3 g3) p3)] 74 (0,0)):=hA0
   obtain ⟨hcA,hfA⟩:=cells_block hA
   obtain ⟨hcC,hfC⟩:=cells_block hC
   clear hA0
   go_wp2
   refine bodyPost_ret (v:=cv n (bits .or .u64 f0 g0) (bits .or .u64 f1 g1) (bits .or .u64 f2 g2) (bits .or .u64 f3 g3) (bits .or .u64 (bits .andNot .u64 o0 g0) p0) (bits .or .u64 (bits .andNot .u64 o1 g1) p1) (bits .or .u64 (bits .andNot .u64 o2 g2) p2) (bits .or .u64 (bits .andNot .u64 o3 g3) p3)) ?_ rfl ⟨rfl,?_⟩
   ·exact res_cube1 _ _ (w.heap.size+2) _ _ _ _ _ _ _ _ _ Tryz.results62 rfl (put9_get _ _ _ _ _ _ _ _ _ hC)
   ·exact put9_below _ _ _ _ _ _ _ _ _ hW (by omega)

end Go.Proofs.YtciffggmobblpaaGreatDoor.Tn
namespace Go.Proofs.YtciffggmobblpaaGreatDoor.Tn
open Go.RowKit

theorem conv_any (W:World) (B:Nat) (v:Value) (t:List UInt8) (hown:W.ownsRow B 5 1 v t.length (bys t)) :
  (convert 82 9 v).run Tryz.prog W=.ok (.string ⟨t.toArray⟩) W:=by
 have h0:=hown
 obtain ⟨_,h2⟩:=hown
 rcases h2 with ⟨rfl,h2⟩ | ⟨g,cap,cur,rfl,h2⟩
 ·have hz:t=[]:=List.eq_nil_of_length_eq_zero (by simpa using h2)
  subst hz
  exact run_convert_bytes_nil W _ 5 Tryz.underlying82 Tryz.underlying5 _ _ _ Tryz.underlying9
 ·exact conv_owned W B g cap t h0

theorem bel_app {w wr w1:World} {o:Obj} {e:TypeId} {size:Nat} {v:Value} {n:Nat} {xs:List Value} (hB:Below w.heap.size w wr) (hown:wr.ownsRow w.heap.size e size v n xs) (hg:(wr.alloc o).grownBy w1 v.ownBlock):Below w.heap.size w w1:=
 (belA hB o).grown hg (belA hB o).size (fun k h=>(hown.lt k h).1)

theorem bys_snoc (t:List UInt8) (b:UInt8):bys t++[.int .u8 (b.toNat:Int)]=bys (t++[b]):=by simp [bys]

end Go.Proofs.YtciffggmobblpaaGreatDoor.Tn
namespace Go.Proofs.YtciffggmobblpaaGreatDoor.Tn
open Go.RowKit
end Go.Proofs.YtciffggmobblpaaGreatDoor.Tn
namespace Go.Proofs.YtciffggmobblpaaGreatDoor.Tn
open Go.RowKit
theorem undrew {B:Nat} {a w:World} (h:Below B a.drew w):Below B a w:=⟨h.os,h.tape,h.output,h.size,h.block⟩
end Go.Proofs.YtciffggmobblpaaGreatDoor.Tn
namespace Go.Proofs.YtciffggmobblpaaGreatDoor.Tn

theorem andnot_bit (x y:Nat) (hy:y < 18446744073709551616) (i:Nat):(x &&& (18446744073709551615 - y)).testBit i=(x.testBit i&&(decide (i < 64)&&!y.testBit i)):=by
 have h:18446744073709551615 - y=2 ^ 64 - (y+1):=by omega
 rw [Nat.testBit_and,h,Nat.testBit_two_pow_sub_succ (by exact hy)]

def wrT (c r:List UInt8):List UInt8:=List.zipWith (fun x y=>if y==120 then x else y) c r
theorem zip_len (f:UInt8→UInt8→UInt8) (a b:List UInt8) (h:a.length=b.length):(List.zipWith f a b).length=a.length:=by simp;omega
theorem zip_get (f:UInt8→UInt8→UInt8) (a b:List UInt8) (h:a.length=b.length) (k:Nat) (hk:k < a.length):(List.zipWith f a b)[k]?=some (f a[k] (b[k]'(by omega))):=by
 rw [List.getElem?_zipWith,List.getElem?_eq_getElem hk,List.getElem?_eq_getElem (show k < b.length by omega)]
theorem zip_out (f:UInt8→UInt8→UInt8) (a b:List UInt8) (h:a.length=b.length) (k:Nat) (hk:¬k < a.length):(List.zipWith f a b)[k]?=none:=by
 rw [List.getElem?_eq_none (by rw [zip_len f a b h];omega)]

theorem fx_wr (a b:List UInt8) (h:a.length=b.length) (k:Nat):fx (wrT a b) k=(fx a k || fx b k):=by
 by_cases hk:k < a.length
 ·have hb:k < b.length:=by omega
  simp only [fx,wrT,zip_get _ a b h k hk,List.getElem?_eq_getElem hk,List.getElem?_eq_getElem hb]
  generalize a[k]=x
  generalize b[k]=y
  by_cases e:y=120 <;> simp [e]
 ·simp only [fx,wrT,zip_out _ a b h k hk]
  rw [List.getElem?_eq_none (by omega),List.getElem?_eq_none (by omega)];rfl
theorem on_wr (a b:List UInt8) (h:a.length=b.length) (k:Nat):on (wrT a b) k=((on a k&&!fx b k) || on b k):=by
 by_cases hk:k < a.length
 ·have hb:k < b.length:=by omega
  simp only [fx,on,wrT,zip_get _ a b h k hk,List.getElem?_eq_getElem hk,List.getElem?_eq_getElem hb]
  generalize a[k]=x
  generalize b[k]=y
  by_cases e:y=120
  ·subst e;simp
  ·simp [e]
 ·simp only [fx,on,wrT,zip_out _ a b h k hk]
  rw [List.getElem?_eq_none (by omega),List.getElem?_eq_none (by omega)];rfl
theorem FW_wr (a b:List UInt8) (h:a.length=b.length) (w:Nat):bits .or .u64 (FW a w:Int) (FW b w:Int)=(FW (wrT a b) w:Nat):=by
 rw [u64_or_nat _ _ (FW_lt _ _) (FW_lt _ _)]
 congr 1
 apply Nat.eq_of_testBit_eq
 intro i
 rw [Nat.testBit_or,FW_bit,FW_bit,FW_bit,fx_wr a b h]
 by_cases hi:i < 64 <;> simp [hi]
theorem OW_wr (a b:List UInt8) (h:a.length=b.length) (w:Nat):bits .or .u64 (bits .andNot .u64 (OW a w:Int) (FW b w:Int)) (OW b w:Int)=(OW (wrT a b) w:Nat):=by
 rw [u64_andNot_nat _ _ (OW_lt _ _) (FW_lt _ _),u64_or_nat _ _ (and_lt _ (OW_lt _ _)) (OW_lt _ _)]
 congr 1
 apply Nat.eq_of_testBit_eq
 intro i
 rw [Nat.testBit_or,andnot_bit _ _ (FW_lt _ _),OW_bit,OW_bit,OW_bit,FW_bit,on_wr a b h]
 by_cases hi:i < 64 <;> simp [hi]
def wtT (c r:List UInt8):List UInt8:=if fitB c r=true then wrT c r else []
theorem take_zip (f:UInt8→UInt8→UInt8) (a b:List UInt8) (h:a.length=b.length) (k:Nat) (hk:k < a.length) :
  (List.zipWith f a b).take (k+1)=(List.zipWith f a b).take k++[f a[k] (b[k]'(by omega))]:=by
 have hl:k < (List.zipWith f a b).length:=by rw [zip_len f a b h];exact hk
 rw [List.take_succ_eq_append_getElem hl]
 congr 2
 rw [List.getElem_zipWith]
theorem take_all (f:UInt8→UInt8→UInt8) (a b:List UInt8) (h:a.length=b.length):(List.zipWith f a b).take a.length=List.zipWith f a b:=by
 apply List.take_of_length_le
 rw [zip_len f a b h];exact Nat.le_refl _

end Go.Proofs.YtciffggmobblpaaGreatDoor.Tn
namespace Go.Proofs.YtciffggmobblpaaGreatDoor.Tn
open Go.RowKit
theorem wi_eq (a b:List UInt8) (ha:good a=true) (hb:good b=true):(agB a b&&(mtT a b==a))=wiB a b:=by
 unfold wiB mtT
 cases hf:fitB a b
 ·have:agB a b=false:=by unfold agB;rw [hf];rfl
  rw [this];rfl
 ·have hl:=fitB_len hf
  rw [Bool.true_and,Bool.eq_iff_iff,allTo_iff]
  constructor
  ·intro h k hk
   simp only [Bool.and_eq_true] at h
   rw [if_pos h.1,beq_iff_eq] at h
   have hm:=meetT_get a b hl k hk
   rw [h.2,List.getElem?_eq_getElem hk] at hm
   have hc:=agB_cfl h.1 k
   have hkb:k < b.length:=by omega
   have ta:=good_tri ha k hk
   have tb:=good_tri hb k hkb
   simp only [cfl,fx,on,List.getElem?_eq_getElem hk,List.getElem?_eq_getElem hkb] at hc ⊢
   generalize a[k]=x at *
   generalize b[k]=y at *
   simp [tri] at ta tb
   rcases ta with (rfl | rfl) | rfl <;> rcases tb with (rfl | rfl) | rfl <;> simp_all
  ·intro h
   have hag:agB a b=true:=by
    unfold agB
    rw [hf,Bool.true_and,allTo_iff]
    intro k hk
    have hkb:k < b.length:=by omega
    have hh:=h k hk
    simp only [cfl,fx,on,List.getElem?_eq_getElem hk,List.getElem?_eq_getElem hkb] at hh ⊢
    generalize a[k]=x at *
    generalize b[k]=y at *
    simp at hh
    rcases hh with rfl | rfl <;> simp
   rw [hag,Bool.true_and,if_pos rfl,beq_iff_eq]
   apply List.ext_getElem?
   intro k
   by_cases hk:k < a.length
   ·have hkb:k < b.length:=by omega
    have hh:=h k hk
    rw [meetT_get a b hl k hk,List.getElem?_eq_getElem hk]
    simp only [List.getElem?_eq_getElem hk,List.getElem?_eq_getElem hkb] at hh
    generalize a[k]=x at *
    generalize b[k]=y at *
    simp at hh
    rcases hh with rfl | rfl <;> by_cases e:x=120 <;> simp [e]
   ·rw [List.getElem?_eq_none (by rw [meetT_len a b hl];omega),List.getElem?_eq_none (by omega)]

theorem common_any (a b:List UInt8) (w:World) (hq:agB a b=true) :
  Calls Tryz.prog 86 #[cubeV a,cubeV b] w fun e w'=>e=.returned (cubeV (mtT a b))∧Below w.heap.size w w':=by
 unfold mtT
 rw [hq]
 have hl:=fitB_len (agB_fit hq)
 have hc:=agB_cfl hq
 refine (common_raw _ _ _ _ _ _ _ _ _ _ _ _ _ _ _ _ _ _ w).mono ?_
 rintro e w' ⟨rfl,hb⟩
 refine ⟨?_,hb⟩
 rw [FW_meet a b hl,FW_meet a b hl,FW_meet a b hl,FW_meet a b hl,OW_meet a b hl hc,OW_meet a b hl hc,OW_meet a b hl hc,OW_meet a b hl hc,if_pos rfl]
 unfold cubeV
 rw [meetT_len a b hl]

theorem common_D (a b M:List UInt8) (w:World) (hM:mtT a b=M) (hq:agB a b=true) :
  Calls Tryz.prog 86 #[cubeV a,cubeV b] w fun e w'=>e=.returned (cubeV M)∧Below w.heap.size w w':=by
 subst hM;exact common_any a b w hq

theorem kpb {a W:World} {g:Nat} {o:Obj} (h:Below a.heap.size a W) (hg:a.heap[g]?=some o):W.heap[g]?=some o:=by
 have hlt:g < a.heap.size:=by
  rcases Nat.lt_or_ge g a.heap.size with h1 | h1
  ·exact h1
  ·rw [Array.getElem?_eq_none h1] at hg;cases hg
 rw [h.block g hlt];exact hg
theorem und {a W:World} (h:Below a.drew.heap.size a.drew W):Below a.heap.size a W:=undrew h

theorem alw_0 (w:World) (o1 o2:Obj):((w.alloc o1).alloc o2).heap[w.heap.size]?=some o1:=by
 rw [Below.heap_alloc _ _ _ (by simp)]
 exact alloc_get _ _
theorem alw_1 (w:World) (o1 o2:Obj):((w.alloc o1).alloc o2).heap[w.heap.size+1]?=some o2:=by
 have:=alloc_get (w.alloc o1) o2
 simpa using this

def dwB (a b:List UInt8) (k:Nat):Bool:=bits .andNot .u64 (FW b k:Int) (FW a k:Int) != 0
theorem wi_dw {a b:List UInt8} (h:wiB a b=true) (k:Nat):dwB a b k=false:=by
 unfold wiB at h
 obtain ⟨hf,h⟩:=Bool.and_eq_true_iff.1 h
 have hl:=fitB_len hf
 rw [allTo_iff] at h
 have e:FW b k &&& (18446744073709551615 - FW a k)=0:=by
  apply Nat.eq_of_testBit_eq
  intro i
  rw [andnot_bit _ _ (FW_lt _ _),FW_bit,FW_bit,Nat.zero_testBit]
  by_cases hi:i < 64
  ·by_cases hp:64*k+i < a.length
   ·have hb:64*k+i < b.length:=by omega
    have hh:=h _ hp
    simp only [fx,List.getElem?_eq_getElem hp,List.getElem?_eq_getElem hb] at hh ⊢
    generalize a[64*k+i]=x at *
    generalize b[64*k+i]=y at *
    simp at hh
    rcases hh with rfl | rfl
    ·simp
    ·by_cases e:x=120 <;> simp [e]
   ·have hb:b.length≤64*k+i:=by omega
    simp [fx,List.getElem?_eq_none hb]
  ·simp [hi]
 unfold dwB
 rw [u64_andNot_nat _ _ (FW_lt _ _) (FW_lt _ _),e]
 rfl
theorem wi_all (a b:List UInt8):((!dwB a b 0&&!dwB a b 1&&!dwB a b 2&&!dwB a b 3)&&wiB a b)=wiB a b:=by
 cases h:wiB a b
 ·simp
 ·simp [wi_dw h]

theorem wp_drewN {P:Program} {C:Code} {Q:Exit→Act→World→Prop} {a:Act} {W:World} {n:Nat} (H:∀ W3,Below W.heap.size W W3→Code.wp P C Q a W3):Code.wp P C Q a (W.drewN n):=H _ (below_drewN _ _ _)
set_option maxHeartbeats 2000000 in
theorem within_walk (a b M:List UInt8) (q d0 d1 d2 d3:Bool) (w:World) (ha:good a=true) (hgM:good M=true) (hM0:mtT a b=M) (hq0:agB a b=q) (h0:dwB a b 0=d0) (h1:dwB a b 1=d1) (h2:dwB a b 2=d2) (h3:dwB a b 3=d3) :
  Calls Tryz.prog 75 #[cubeV a,cubeV b] w fun e w'=>e=.returned (.bool ((!d0&&!d1&&!d2&&!d3)&&(q&&(M==a))))∧Below w.heap.size w w':=by
 have hM:Hid (mtT a b=M):=hM0
 have hq:Hid (agB a b=q):=hq0
 clear hM0 hq0
 unfold dwB at h0 h1 h2 h3
 have hE:=eql_cube M a hgM ha
 unfold cubeV cv
 obtain ⟨W2,hW2⟩:∃ W2,(w.alloc (.cells #[.int .i64 (a.length:Int),.int .u64 (FW a 0:Int),.int .u64 (FW a 1:Int),.int .u64 (FW a 2:Int),.int .u64 (FW a 3:Int),.int .u64 (OW a 0:Int),.int .u64 (OW a 1:Int),.int .u64 (OW a 2:Int),.int .u64 (OW a 3:Int)] 74 (0,0))).alloc (.cells #[.int .i64 (b.length:Int),.int .u64 (FW b 0:Int),.int .u64 (FW b 1:Int),.int .u64 (FW b 2:Int),.int .u64 (FW b 3:Int),.int .u64 (OW b 0:Int),.int .u64 (OW b 1:Int),.int .u64 (OW b 2:Int),.int .u64 (OW b 3:Int)] 74 (0,0))=W2:=⟨_,rfl⟩
 have hA:W2.heap[w.heap.size]?=some (.cells #[.int .i64 (a.length:Int),.int .u64 (FW a 0:Int),.int .u64 (FW a 1:Int),.int .u64 (FW a 2:Int),.int .u64 (FW a 3:Int),.int .u64 (OW a 0:Int),.int .u64 (OW a 1:Int),.int .u64 (OW a 2:Int),.int .u64 (OW a 3:Int)] 74 (0,0)):=by rw [←hW2];exact alw_0 _ _ _
 have hB:W2.heap[w.heap.size+1]?=some (.cells #[.int .i64 (b.length:Int),.int .u64 (FW b 0:Int),.int .u64 (FW b 1:Int),.int .u64 (FW b 2:Int),.int .u64 (FW b 3:Int),.int .u64 (OW b 0:Int),.int .u64 (OW b 1:Int),.int .u64 (OW b 2:Int),.int .u64 (OW b 3:Int)] 74 (0,0)):=by rw [←hW2];exact alw_1 _ _ _
 have hBW:Below w.heap.size w W2:=by rw [←hW2];exact belA (belA (Below.refl _ _) _) _
 obtain ⟨hcA,hfA⟩:=cells_block hA
 obtain ⟨hcB,hfB⟩:=cells_block hB
 have KA:Hid (∀ W,Below W2.heap.size W2 W→(∀ j,W.cell? ⟨w.heap.size,j,none⟩=(#[.int .i64 (a.length:Int),.int .u64 (FW a 0:Int),.int .u64 (FW a 1:Int),.int .u64 (FW a 2:Int),.int .u64 (FW a 3:Int),.int .u64 (OW a 0:Int),.int .u64 (OW a 1:Int),.int .u64 (OW a 2:Int),.int .u64 (OW a 3:Int)]:Array Value)[j]?)∧(∀ j,W.cell? ⟨w.heap.size+1,j,none⟩=(#[.int .i64 (b.length:Int),.int .u64 (FW b 0:Int),.int .u64 (FW b 1:Int),.int .u64 (FW b 2:Int),.int .u64 (FW b 3:Int),.int .u64 (OW b 0:Int),.int .u64 (OW b 1:Int),.int .u64 (OW b 2:Int),.int .u64 (OW b 3:Int)]:Array Value)[j]?)):=fun W hW=>⟨(cells_block (kpb hW hA)).1,(cells_block (kpb hW hB)).1⟩
 cases q
 ·go_enter Tryz.func75,Tryz.ntmps75
  go_wp2
  clear hW2 hA hB
  refine wp_loop_rounds 5 ?_
  rw [rounds_succ]
  go_wp2
  go_quiet (fail)
  cases d0
  rotate_left
  ·go_wp2
   go_ret
   exact ⟨rfl,by first | exact hBW | exact hBW.trans (below_drewN _ _ _) | exact (hBW.trans (below_drewN _ _ _)).trans (below_drewN _ _ _)⟩
  go_wp2
  rw [rounds_succ]
  go_wp2
  go_quiet (fail)
  cases d1
  rotate_left
  ·go_wp2
   go_ret
   exact ⟨rfl,by first | exact hBW | exact hBW.trans (below_drewN _ _ _) | exact (hBW.trans (below_drewN _ _ _)).trans (below_drewN _ _ _)⟩
  go_wp2
  rw [rounds_succ]
  go_wp2
  go_quiet (fail)
  cases d2
  rotate_left
  ·go_wp2
   go_ret
   exact ⟨rfl,by first | exact hBW | exact hBW.trans (below_drewN _ _ _) | exact (hBW.trans (below_drewN _ _ _)).trans (below_drewN _ _ _)⟩
  go_wp2
  rw [rounds_succ]
  go_wp2
  go_quiet (fail)
  cases d3
  rotate_left
  ·go_wp2
   go_ret
   exact ⟨rfl,by first | exact hBW | exact hBW.trans (below_drewN _ _ _) | exact (hBW.trans (below_drewN _ _ _)).trans (below_drewN _ _ _)⟩
  go_wp2
  rw [rounds_succ]
  go_wp2
  refine wp_drewN (fun W3 hB3=>?_)
  obtain ⟨hc3A,hc3B⟩:=KA.out W3 hB3
  have K3:Hid (∀ W,Below W3.heap.size W3 W→(∀ j,W.cell? ⟨w.heap.size,j,none⟩=(#[.int .i64 (a.length:Int),.int .u64 (FW a 0:Int),.int .u64 (FW a 1:Int),.int .u64 (FW a 2:Int),.int .u64 (FW a 3:Int),.int .u64 (OW a 0:Int),.int .u64 (OW a 1:Int),.int .u64 (OW a 2:Int),.int .u64 (OW a 3:Int)]:Array Value)[j]?)∧(∀ j,W.cell? ⟨w.heap.size+1,j,none⟩=(#[.int .i64 (b.length:Int),.int .u64 (FW b 0:Int),.int .u64 (FW b 1:Int),.int .u64 (FW b 2:Int),.int .u64 (FW b 3:Int),.int .u64 (OW b 0:Int),.int .u64 (OW b 1:Int),.int .u64 (OW b 2:Int),.int .u64 (OW b 3:Int)]:Array Value)[j]?)):=fun W hW=>KA.out W (bel0 hB3 hW)
  have HB3:Hid (Below w.heap.size w W3):=bel0 hBW hB3
  clear hB3 hcA hcB hfA hfB KA hBW h0 h1 h2 h3
  go_region_with (go_at_call 85;refine (agrees_D a b false _ ha hq.out).mono ?_;rintro e w1 ⟨rfl,hb1⟩)
  all_goals
   go_wp2
   go_ret
   exact ⟨rfl,bel0 HB3.out (by first | exact und hb1 | exact hb1)⟩
 ·go_enter Tryz.func75,Tryz.ntmps75
  go_wp2
  clear hW2 hA hB
  refine wp_loop_rounds 5 ?_
  rw [rounds_succ]
  go_wp2
  go_quiet (fail)
  cases d0
  rotate_left
  ·go_wp2
   go_ret
   exact ⟨rfl,by first | exact hBW | exact hBW.trans (below_drewN _ _ _) | exact (hBW.trans (below_drewN _ _ _)).trans (below_drewN _ _ _)⟩
  go_wp2
  rw [rounds_succ]
  go_wp2
  go_quiet (fail)
  cases d1
  rotate_left
  ·go_wp2
   go_ret
   exact ⟨rfl,by first | exact hBW | exact hBW.trans (below_drewN _ _ _) | exact (hBW.trans (below_drewN _ _ _)).trans (below_drewN _ _ _)⟩
  go_wp2
  rw [rounds_succ]
  go_wp2
  go_quiet (fail)
  cases d2
  rotate_left
  ·go_wp2
   go_ret
   exact ⟨rfl,by first | exact hBW | exact hBW.trans (below_drewN _ _ _) | exact (hBW.trans (below_drewN _ _ _)).trans (below_drewN _ _ _)⟩
  go_wp2
  rw [rounds_succ]
  go_wp2
  go_quiet (fail)
  cases d3
  rotate_left
  ·go_wp2
   go_ret
   exact ⟨rfl,by first | exact hBW | exact hBW.trans (below_drewN _ _ _) | exact (hBW.trans (below_drewN _ _ _)).trans (below_drewN _ _ _)⟩
  go_wp2
  rw [rounds_succ]
  go_wp2
  refine wp_drewN (fun W3 hB3=>?_)
  obtain ⟨hc3A,hc3B⟩:=KA.out W3 hB3
  have K3:Hid (∀ W,Below W3.heap.size W3 W→(∀ j,W.cell? ⟨w.heap.size,j,none⟩=(#[.int .i64 (a.length:Int),.int .u64 (FW a 0:Int),.int .u64 (FW a 1:Int),.int .u64 (FW a 2:Int),.int .u64 (FW a 3:Int),.int .u64 (OW a 0:Int),.int .u64 (OW a 1:Int),.int .u64 (OW a 2:Int),.int .u64 (OW a 3:Int)]:Array Value)[j]?)∧(∀ j,W.cell? ⟨w.heap.size+1,j,none⟩=(#[.int .i64 (b.length:Int),.int .u64 (FW b 0:Int),.int .u64 (FW b 1:Int),.int .u64 (FW b 2:Int),.int .u64 (FW b 3:Int),.int .u64 (OW b 0:Int),.int .u64 (OW b 1:Int),.int .u64 (OW b 2:Int),.int .u64 (OW b 3:Int)]:Array Value)[j]?)):=fun W hW=>KA.out W (bel0 hB3 hW)
  have HB3:Hid (Below w.heap.size w W3):=bel0 hBW hB3
  clear hB3 hcA hcB hfA hfB KA hBW h0 h1 h2 h3
  go_region_held3 (fun W=>(∀ j,W.cell? ⟨w.heap.size,j,none⟩=(#[.int .i64 (a.length:Int),.int .u64 (FW a 0:Int),.int .u64 (FW a 1:Int),.int .u64 (FW a 2:Int),.int .u64 (FW a 3:Int),.int .u64 (OW a 0:Int),.int .u64 (OW a 1:Int),.int .u64 (OW a 2:Int),.int .u64 (OW a 3:Int)]:Array Value)[j]?)∧(∀ j,W.cell? ⟨w.heap.size+1,j,none⟩=(#[.int .i64 (b.length:Int),.int .u64 (FW b 0:Int),.int .u64 (FW b 1:Int),.int .u64 (FW b 2:Int),.int .u64 (FW b 3:Int),.int .u64 (OW b 0:Int),.int .u64 (OW b 1:Int),.int .u64 (OW b 2:Int),.int .u64 (OW b 3:Int)]:Array Value)[j]?)) (first | exact ⟨hc3A,hc3B⟩ | exact K3.out _ (bel0 (und hb1) hb2) | exact K3.out _ (und hb1) | exact K3.out _ hb1) (first | (go_at_call 86;refine (common_D a b M _ hM.out hq.out).mono ?_;rintro e w2 ⟨rfl,hb2⟩;unfold cubeV cv) | (go_at_call 85;refine (agrees_D a b true _ ha hq.out).mono ?_;rintro e w1 ⟨rfl,hb1⟩))
  go_wp2
  go_ret
  exact ⟨rfl,bel0 HB3.out (bel0 (und hb1) hb2)⟩

theorem within_any (a b:List UInt8) (w:World) (ha:good a=true) (hb:good b=true) :
  Calls Tryz.prog 75 #[cubeV a,cubeV b] w fun e w'=>e=.returned (.bool (wiB a b))∧Below w.heap.size w w':=by
 refine (within_walk a b _ _ _ _ _ _ w ha (good_mtT a b ha hb) rfl rfl rfl rfl rfl rfl).mono ?_
 rintro e w' ⟨rfl,h⟩
 exact ⟨by rw [wi_eq a b ha hb,wi_all a b],h⟩
end Go.Proofs.YtciffggmobblpaaGreatDoor.Tn
namespace Go.Proofs.YtciffggmobblpaaGreatDoor.Tn
open Go.RowKit

set_option maxHeartbeats 400000 in
theorem write_no (a b:List UInt8) (w:World) (hq0:fitB a b=false) :
  Calls Tryz.prog 62 #[cubeV a,cubeV b] w fun e w'=>e=.returned (cubeV [])∧Below w.heap.size w w':=by
 have hq:Hid (fitB a b=false):=hq0
 clear hq0
 rw [cubeV_nil]
 unfold cubeV cv
 go_enter Tryz.func62,Tryz.ntmps62
 go_wp2_with (go_at_call 77;refine (fits_D a b false _ hq.out).mono ?_;rintro e w1 ⟨rfl,hb1⟩;obtain ⟨hc1,hf1⟩:=bcell hb1)
 have hk:w1.heap[w.heap.size+2]?=some (.cells #[.int .i64 0,.int .u64 0,.int .u64 0,.int .u64 0,.int .u64 0,.int .u64 0,.int .u64 0,.int .u64 0,.int .u64 0] 74 (0,0)):=by
  rw [hb1.block _ (by simp)]
  exact alloc_get2 _ _ _ _
 refine bodyPost_ret (v:=cv 0 0 0 0 0 0 0 0 0) ?_ rfl ⟨rfl,?_⟩
 ·exact res_cube1 _ _ (w.heap.size+2) _ _ _ _ _ _ _ _ _ Tryz.results62 rfl (put9_get _ _ _ _ _ _ _ _ _ hk)
 ·exact put9_below _ _ _ _ _ _ _ _ _ (bel1 (bel1 (bel1 hb1))) (by omega)

theorem write_any (a b:List UInt8) (w:World) :
  Calls Tryz.prog 62 #[cubeV a,cubeV b] w fun e w'=>e=.returned (cubeV (wtT a b))∧Below w.heap.size w w':=by
 unfold wtT
 cases hq:fitB a b
 ·exact write_no a b w hq
 ·have hl:=fitB_len hq
  refine (write_raw _ _ _ _ _ _ _ _ _ _ _ _ _ _ _ _ _ _ w (fun W=>fits_D a b true W hq)).mono ?_
  rintro e w' ⟨rfl,hb⟩
  refine ⟨?_,hb⟩
  rw [FW_wr a b hl,FW_wr a b hl,FW_wr a b hl,FW_wr a b hl,OW_wr a b hl,OW_wr a b hl,OW_wr a b hl,OW_wr a b hl,if_pos rfl]
  have e:(wrT a b).length=a.length:=zip_len _ a b hl
  unfold cubeV
  rw [e]
end Go.Proofs.YtciffggmobblpaaGreatDoor.Tn
namespace Go.Proofs.YtciffggmobblpaaGreatDoor.Tn
open Go.RowKit

theorem keepblk {W w':World} {b:Nat} {o:Obj} (hb:Below W.heap.size W w') (h:W.heap[b]?=some o):w'.heap[b]?=some o:=(hb.block b (lt_of_get h)).trans h
theorem allocblk {W:World} {b:Nat} {o:Obj} (h:W.heap[b]?=some o) (O:Obj):(W.alloc O).heap[b]?=some o:=(Below.heap_alloc _ _ _ (lt_of_get h)).trans h

end Go.Proofs.YtciffggmobblpaaGreatDoor.Tn

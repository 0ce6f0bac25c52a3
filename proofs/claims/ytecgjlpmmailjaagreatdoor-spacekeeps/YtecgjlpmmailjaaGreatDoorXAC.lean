import Derived.Test.YtecgjlpmmailjaaGreatDoorXAB
import Derived.RegionTactic
import Derived.Laws.BytesArg
import Derived.Deep.RegionWith
import Derived.Deep.RegionHeld3
namespace Go.Proofs.YtecgjlpmmailjaaGreatDoor
open Go.RowKit

/-- word j behind k rounds -/
def mxi (k j : Nat) (x y : Int) : Int := if j < k then y else x

theorem set2_0 {W : World} {b T : Nat} {m : Nat × Nat} {x0 x1 x2 x3 x4 x5 x6 x7 x8 : Value} (u v : Value) (h : W.heap[b]? = some (.cells #[x0, x1, x2, x3, x4, x5, x6, x7, x8] T m)) :
    ((W.setCell ⟨b, 1, none⟩ u).setCell ⟨b, 5, none⟩ v).heap[b]? = some (.cells #[x0, u, x2, x3, x4, v, x6, x7, x8] T m) := by
  have h0 := set_get (j := 1) u h
  have h1 := set_get (j := 5) v h0
  rw [h1]; simp

theorem set2_1 {W : World} {b T : Nat} {m : Nat × Nat} {x0 x1 x2 x3 x4 x5 x6 x7 x8 : Value} (u v : Value) (h : W.heap[b]? = some (.cells #[x0, x1, x2, x3, x4, x5, x6, x7, x8] T m)) :
    ((W.setCell ⟨b, 2, none⟩ u).setCell ⟨b, 6, none⟩ v).heap[b]? = some (.cells #[x0, x1, u, x3, x4, x5, v, x7, x8] T m) := by
  have h0 := set_get (j := 2) u h
  have h1 := set_get (j := 6) v h0
  rw [h1]; simp

theorem set2_2 {W : World} {b T : Nat} {m : Nat × Nat} {x0 x1 x2 x3 x4 x5 x6 x7 x8 : Value} (u v : Value) (h : W.heap[b]? = some (.cells #[x0, x1, x2, x3, x4, x5, x6, x7, x8] T m)) :
    ((W.setCell ⟨b, 3, none⟩ u).setCell ⟨b, 7, none⟩ v).heap[b]? = some (.cells #[x0, x1, x2, u, x4, x5, x6, v, x8] T m) := by
  have h0 := set_get (j := 3) u h
  have h1 := set_get (j := 7) v h0
  rw [h1]; simp

theorem set2_3 {W : World} {b T : Nat} {m : Nat × Nat} {x0 x1 x2 x3 x4 x5 x6 x7 x8 : Value} (u v : Value) (h : W.heap[b]? = some (.cells #[x0, x1, x2, x3, x4, x5, x6, x7, x8] T m)) :
    ((W.setCell ⟨b, 4, none⟩ u).setCell ⟨b, 8, none⟩ v).heap[b]? = some (.cells #[x0, x1, x2, x3, u, x5, x6, x7, v] T m) := by
  have h0 := set_get (j := 4) u h
  have h1 := set_get (j := 8) v h0
  rw [h1]; simp

theorem set2_ne {W : World} {a1 a2 : Addr} {c : Nat} {o : Obj} (u v : Value) (h1 : c ≠ a1.block) (h2 : c ≠ a2.block) (h : W.heap[c]? = some o) : ((W.setCell a1 u).setCell a2 v).heap[c]? = some o := by
  rw [Below.heap_setCell _ _ _ _ h2, Below.heap_setCell _ _ _ _ h1]; exact h

theorem alloc3_0 (w : World) (o1 o2 o3 : Obj) : (((w.alloc o1).alloc o2).alloc o3).heap[w.heap.size]? = some o1 := by
  rw [Below.heap_alloc _ _ _ (by simp; omega), Below.heap_alloc _ _ _ (by simp)]
  exact alloc_get _ _
theorem alloc3_1 (w : World) (o1 o2 o3 : Obj) : (((w.alloc o1).alloc o2).alloc o3).heap[w.heap.size + 1]? = some o2 := by
  rw [Below.heap_alloc _ _ _ (by simp)]
  have := alloc_get (w.alloc o1) o2
  simpa using this

set_option maxHeartbeats 1000000 in
theorem common_raw (n f0 f1 f2 f3 o0 o1 o2 o3 m g0 g1 g2 g3 p0 p1 p2 p3 : Int) (w : World) :
    Calls Tryz.prog 59 #[cv n f0 f1 f2 f3 o0 o1 o2 o3, cv m g0 g1 g2 g3 p0 p1 p2 p3] w fun e w' => e = .returned (cv n (bits .or .u64 f0 g0) (bits .or .u64 f1 g1) (bits .or .u64 f2 g2) (bits .or .u64 f3 g3) (bits .or .u64 o0 p0) (bits .or .u64 o1 p1) (bits .or .u64 o2 p2) (bits .or .u64 o3 p3)) ∧ Below w.heap.size w w' := by
  unfold cv
  go_enter Tryz.func59, Tryz.ntmps59
  go_wp2
  have hA1 := alloc3_0 w (.cells #[.int .i64 n, .int .u64 f0, .int .u64 f1, .int .u64 f2, .int .u64 f3, .int .u64 o0, .int .u64 o1, .int .u64 o2, .int .u64 o3] 58 (0, 0)) (.cells #[.int .i64 m, .int .u64 g0, .int .u64 g1, .int .u64 g2, .int .u64 g3, .int .u64 p0, .int .u64 p1, .int .u64 p2, .int .u64 p3] 58 (0, 0)) (.cells #[.int .i64 0, .int .u64 0, .int .u64 0, .int .u64 0, .int .u64 0, .int .u64 0, .int .u64 0, .int .u64 0, .int .u64 0] 58 (0, 0))
  have hB1 := alloc3_1 w (.cells #[.int .i64 n, .int .u64 f0, .int .u64 f1, .int .u64 f2, .int .u64 f3, .int .u64 o0, .int .u64 o1, .int .u64 o2, .int .u64 o3] 58 (0, 0)) (.cells #[.int .i64 m, .int .u64 g0, .int .u64 g1, .int .u64 g2, .int .u64 g3, .int .u64 p0, .int .u64 p1, .int .u64 p2, .int .u64 p3] 58 (0, 0)) (.cells #[.int .i64 0, .int .u64 0, .int .u64 0, .int .u64 0, .int .u64 0, .int .u64 0, .int .u64 0, .int .u64 0, .int .u64 0] 58 (0, 0))
  have hC1 := alloc_get2 w (.cells #[.int .i64 n, .int .u64 f0, .int .u64 f1, .int .u64 f2, .int .u64 f3, .int .u64 o0, .int .u64 o1, .int .u64 o2, .int .u64 o3] 58 (0, 0)) (.cells #[.int .i64 m, .int .u64 g0, .int .u64 g1, .int .u64 g2, .int .u64 g3, .int .u64 p0, .int .u64 p1, .int .u64 p2, .int .u64 p3] 58 (0, 0)) (.cells #[.int .i64 0, .int .u64 0, .int .u64 0, .int .u64 0, .int .u64 0, .int .u64 0, .int .u64 0, .int .u64 0, .int .u64 0] 58 (0, 0))
  have hW1 := bel1 (bel1 (bel1 (Below.refl _ (((w.alloc (.cells #[.int .i64 n, .int .u64 f0, .int .u64 f1, .int .u64 f2, .int .u64 f3, .int .u64 o0, .int .u64 o1, .int .u64 o2, .int .u64 o3] 58 (0, 0))).alloc (.cells #[.int .i64 m, .int .u64 g0, .int .u64 g1, .int .u64 g2, .int .u64 g3, .int .u64 p0, .int .u64 p1, .int .u64 p2, .int .u64 p3] 58 (0, 0))).alloc (.cells #[.int .i64 0, .int .u64 0, .int .u64 0, .int .u64 0, .int .u64 0, .int .u64 0, .int .u64 0, .int .u64 0, .int .u64 0] 58 (0, 0))))))
  go_loopw [6] (fun i wr => ∃ k : Nat, k ≤ 4 ∧ i = .int .i64 k ∧ wr.heap[w.heap.size]? = some (.cells #[.int .i64 n, .int .u64 (mxi k 0 f0 (bits .or .u64 f0 g0)), .int .u64 (mxi k 1 f1 (bits .or .u64 f1 g1)), .int .u64 (mxi k 2 f2 (bits .or .u64 f2 g2)), .int .u64 (mxi k 3 f3 (bits .or .u64 f3 g3)), .int .u64 (mxi k 0 o0 (bits .or .u64 o0 p0)), .int .u64 (mxi k 1 o1 (bits .or .u64 o1 p1)), .int .u64 (mxi k 2 o2 (bits .or .u64 o2 p2)), .int .u64 (mxi k 3 o3 (bits .or .u64 o3 p3))] 58 (0, 0)) ∧ wr.heap[w.heap.size + 1]? = some (.cells #[.int .i64 m, .int .u64 g0, .int .u64 g1, .int .u64 g2, .int .u64 g3, .int .u64 p0, .int .u64 p1, .int .u64 p2, .int .u64 p3] 58 (0, 0)) ∧ wr.heap[w.heap.size + 2]? = some (.cells #[.int .i64 0, .int .u64 0, .int .u64 0, .int .u64 0, .int .u64 0, .int .u64 0, .int .u64 0, .int .u64 0, .int .u64 0] 58 (0, 0)) ∧ Below w.heap.size w wr) (fun i _ => 4 - (intOf i).toNat)
  case atStart => exact ⟨0, by omega, rfl, hA1, hB1, hC1, hW1⟩
  case round =>
    clear hA1 hB1 hC1 hW1
    obtain ⟨k, hk, rfl, hA0, hB, hC, hW⟩ := hrel
    obtain ⟨hcB, hfB⟩ := cells_block hB
    rcases (show k = 0 ∨ k = 1 ∨ k = 2 ∨ k = 3 ∨ k = 4 by omega) with rfl | rfl | rfl | rfl | rfl
    · have hA : wr.heap[w.heap.size]? = some (.cells #[.int .i64 n, .int .u64 f0, .int .u64 f1, .int .u64 f2, .int .u64 f3, .int .u64 o0, .int .u64 o1, .int .u64 o2, .int .u64 o3] 58 (0, 0)) := hA0
      obtain ⟨hcA, hfA⟩ := cells_block hA
      clear hA0
      go_wp2
      go_region
      go_wp2
      go_region
      go_wp2
      go_roundw
      case rel => exact ⟨1, by omega, rfl, set2_0 _ _ hA, set2_ne _ _ (by simp) (by simp) hB, set2_ne _ _ (by simp) (by simp) hC, ((hW.setCell (Nat.le_refl _) _).setCell (Nat.le_refl _) _).drew.drew⟩
      case measure => simp [intOf]
    · have hA : wr.heap[w.heap.size]? = some (.cells #[.int .i64 n, .int .u64 (bits .or .u64 f0 g0), .int .u64 f1, .int .u64 f2, .int .u64 f3, .int .u64 (bits .or .u64 o0 p0), .int .u64 o1, .int .u64 o2, .int .u64 o3] 58 (0, 0)) := hA0
      obtain ⟨hcA, hfA⟩ := cells_block hA
      clear hA0
      go_wp2
      go_region
      go_wp2
      go_region
      go_wp2
      go_roundw
      case rel => exact ⟨2, by omega, rfl, set2_1 _ _ hA, set2_ne _ _ (by simp) (by simp) hB, set2_ne _ _ (by simp) (by simp) hC, ((hW.setCell (Nat.le_refl _) _).setCell (Nat.le_refl _) _).drew.drew⟩
      case measure => simp [intOf]
    · have hA : wr.heap[w.heap.size]? = some (.cells #[.int .i64 n, .int .u64 (bits .or .u64 f0 g0), .int .u64 (bits .or .u64 f1 g1), .int .u64 f2, .int .u64 f3, .int .u64 (bits .or .u64 o0 p0), .int .u64 (bits .or .u64 o1 p1), .int .u64 o2, .int .u64 o3] 58 (0, 0)) := hA0
      obtain ⟨hcA, hfA⟩ := cells_block hA
      clear hA0
      go_wp2
      go_region
      go_wp2
      go_region
      go_wp2
      go_roundw
      case rel => exact ⟨3, by omega, rfl, set2_2 _ _ hA, set2_ne _ _ (by simp) (by simp) hB, set2_ne _ _ (by simp) (by simp) hC, ((hW.setCell (Nat.le_refl _) _).setCell (Nat.le_refl _) _).drew.drew⟩
      case measure => simp [intOf]
    · have hA : wr.heap[w.heap.size]? = some (.cells #[.int .i64 n, .int .u64 (bits .or .u64 f0 g0), .int .u64 (bits .or .u64 f1 g1), .int .u64 (bits .or .u64 f2 g2), .int .u64 f3, .int .u64 (bits .or .u64 o0 p0), .int .u64 (bits .or .u64 o1 p1), .int .u64 (bits .or .u64 o2 p2), .int .u64 o3] 58 (0, 0)) := hA0
      obtain ⟨hcA, hfA⟩ := cells_block hA
      clear hA0
      go_wp2
      go_region
      go_wp2
      go_region
      go_wp2
      go_roundw
      case rel => exact ⟨4, by omega, rfl, set2_3 _ _ hA, set2_ne _ _ (by simp) (by simp) hB, set2_ne _ _ (by simp) (by simp) hC, ((hW.setCell (Nat.le_refl _) _).setCell (Nat.le_refl _) _).drew.drew⟩
      case measure => simp [intOf]
    · have hA : wr.heap[w.heap.size]? = some (.cells #[.int .i64 n, .int .u64 (bits .or .u64 f0 g0), .int .u64 (bits .or .u64 f1 g1), .int .u64 (bits .or .u64 f2 g2), .int .u64 (bits .or .u64 f3 g3), .int .u64 (bits .or .u64 o0 p0), .int .u64 (bits .or .u64 o1 p1), .int .u64 (bits .or .u64 o2 p2), .int .u64 (bits .or .u64 o3 p3)] 58 (0, 0)) := hA0
      obtain ⟨hcA, hfA⟩ := cells_block hA
      obtain ⟨hcC, hfC⟩ := cells_block hC
      clear hA0
      go_wp2
      refine bodyPost_ret (v := cv n (bits .or .u64 f0 g0) (bits .or .u64 f1 g1) (bits .or .u64 f2 g2) (bits .or .u64 f3 g3) (bits .or .u64 o0 p0) (bits .or .u64 o1 p1) (bits .or .u64 o2 p2) (bits .or .u64 o3 p3)) ?_ rfl ⟨rfl, ?_⟩
      · exact res_cube1 _ _ (w.heap.size + 2) _ _ _ _ _ _ _ _ _ Tryz.results59 rfl (put9_get _ _ _ _ _ _ _ _ _ hC)
      · exact put9_below _ _ _ _ _ _ _ _ _ hW (by omega)

set_option maxHeartbeats 1000000 in
theorem meet_raw (n f0 f1 f2 f3 o0 o1 o2 o3 m g0 g1 g2 g3 p0 p1 p2 p3 : Int) (w : World)
    (hcall0 : ∀ W, Calls Tryz.prog 58 #[cv n f0 f1 f2 f3 o0 o1 o2 o3, cv m g0 g1 g2 g3 p0 p1 p2 p3] W fun e w' => e = .returned (.bool true) ∧ Below W.heap.size W w') :
    Calls Tryz.prog 41 #[cv n f0 f1 f2 f3 o0 o1 o2 o3, cv m g0 g1 g2 g3 p0 p1 p2 p3] w fun e w' => e = .returned (.tuple #[cv n (bits .or .u64 f0 g0) (bits .or .u64 f1 g1) (bits .or .u64 f2 g2) (bits .or .u64 f3 g3) (bits .or .u64 o0 p0) (bits .or .u64 o1 p1) (bits .or .u64 o2 p2) (bits .or .u64 o3 p3), .bool true]) ∧ Below w.heap.size w w' := by
  have hcall : Hid (∀ W, Calls Tryz.prog 58 #[cv n f0 f1 f2 f3 o0 o1 o2 o3, cv m g0 g1 g2 g3 p0 p1 p2 p3] W fun e w' => e = .returned (.bool true) ∧ Below W.heap.size W w') := hcall0
  have hcom : Hid (∀ W, Calls Tryz.prog 59 #[cv n f0 f1 f2 f3 o0 o1 o2 o3, cv m g0 g1 g2 g3 p0 p1 p2 p3] W fun e w' => e = .returned (cv n (bits .or .u64 f0 g0) (bits .or .u64 f1 g1) (bits .or .u64 f2 g2) (bits .or .u64 f3 g3) (bits .or .u64 o0 p0) (bits .or .u64 o1 p1) (bits .or .u64 o2 p2) (bits .or .u64 o3 p3)) ∧ Below W.heap.size W w') := fun W => common_raw n f0 f1 f2 f3 o0 o1 o2 o3 m g0 g1 g2 g3 p0 p1 p2 p3 W
  clear hcall0
  unfold cv
  go_enter Tryz.func41, Tryz.ntmps41
  go_wp2_with (go_at_call 58; refine (hcall.out _).mono ?_; rintro e w1 ⟨rfl, hb1⟩; have hA1 := (hb1.block w.heap.size (by simp; omega)).trans (alloc3_0 _ _ _ _); have hB1 := (hb1.block (w.heap.size + 1) (by simp)).trans (alloc3_1 _ _ _ _); have hC1 := (hb1.block (w.heap.size + 2) (by simp)).trans (alloc_get2 _ _ _ _); have hW1 := bel1 (bel1 (bel1 hb1)); have hz1 : w.heap.size + 3 ≤ w1.heap.size := by { have := hb1.size; simp at this; omega }; clear hb1; obtain ⟨hcA, hfA⟩ := cells_block hA1; obtain ⟨hcB, hfB⟩ := cells_block hB1)
  refine (hcom.out _).mono ?_
  rintro e w2 ⟨rfl, hb2⟩
  have hC2 := (hb2.block (w.heap.size + 2) (by omega)).trans hC1
  have hW2 : Below w.heap.size w w2 := bel0 hW1 hb2
  clear hcA hfA hcB hfB hA1 hB1 hC1
  obtain ⟨hcC, hfC⟩ := cells_block hC2
  unfold cv
  go_wp2
  refine bodyPost_ret (v := .tuple #[cv n (bits .or .u64 f0 g0) (bits .or .u64 f1 g1) (bits .or .u64 f2 g2) (bits .or .u64 f3 g3) (bits .or .u64 o0 p0) (bits .or .u64 o1 p1) (bits .or .u64 o2 p2) (bits .or .u64 o3 p3), .bool true]) ?_ rfl ⟨rfl, ?_⟩
  · exact res_cube2 _ _ (w.heap.size + 2) _ _ _ _ _ _ _ _ _ Tryz.results41 rfl (put9_get _ _ _ _ _ _ _ _ _ hC2)
  · exact put9_below _ _ _ _ _ _ _ _ _ hW2 (by omega)

end Go.Proofs.YtecgjlpmmailjaaGreatDoor
namespace Go.Proofs.YtecgjlpmmailjaaGreatDoor
open Go.RowKit

theorem conv_any (W : World) (B : Nat) (v : Value) (t : List UInt8) (hown : W.ownsRow B 5 1 v t.length (bys t)) :
    (convert 60 9 v).run Tryz.prog W = .ok (.string ⟨t.toArray⟩) W := by
  have h0 := hown
  obtain ⟨_, h2⟩ := hown
  rcases h2 with ⟨rfl, h2⟩ | ⟨g, cap, cur, rfl, h2⟩
  · have hz : t = [] := List.eq_nil_of_length_eq_zero (by simpa using h2)
    subst hz
    exact run_convert_bytes_nil W _ 5 Tryz.underlying60 Tryz.underlying5 _ _ _ Tryz.underlying9
  · exact conv_owned W B g cap t h0

theorem bel_app {w wr w1 : World} {o : Obj} {e : TypeId} {size : Nat} {v : Value} {n : Nat} {xs : List Value} (hB : Below w.heap.size w wr) (hown : wr.ownsRow w.heap.size e size v n xs) (hg : (wr.alloc o).grownBy w1 v.ownBlock) : Below w.heap.size w w1 :=
  (belA hB o).grown hg (belA hB o).size (fun k h => (hown.lt k h).1)

theorem bys_snoc (t : List UInt8) (b : UInt8) : bys t ++ [.int .u8 (b.toNat : Int)] = bys (t ++ [b]) := by simp [bys]

/-- the text of All -/
def allT (n : Int) : List UInt8 := if 1 ≤ n ∧ n ≤ 256 then List.replicate n.toNat 120 else []
theorem good_allT (n : Int) : good (allT n) = true := by
  unfold allT
  split
  · exact good_replicate _ (by omega)
  · exact good_nil
theorem allT_len (n : Int) : (allT n).length ≤ 256 := good_len (good_allT n)

theorem allV (n : Int) (w : World) : Calls Tryz.prog 37 #[.int .i64 n] w fun e w' => e = .returned (cubeV (allT n)) ∧ Below w.heap.size w w' := all_any n w

end Go.Proofs.YtecgjlpmmailjaaGreatDoor
namespace Go.Proofs.YtecgjlpmmailjaaGreatDoor
open Go.RowKit
theorem ne_byte' {b : UInt8} {n : Nat} (h : b ≠ UInt8.ofNat n) : ((b.toNat : Int) != ((n : Nat) : Int)) = true := by
  have := ne_byte h
  unfold bne
  rw [this]; rfl

theorem toList_str (s : ByteArray) : (⟨s.data.toList.toArray⟩ : ByteArray) = s := by
  obtain ⟨l⟩ := s; simp

end Go.Proofs.YtecgjlpmmailjaaGreatDoor
namespace Go.Proofs.YtecgjlpmmailjaaGreatDoor
open Go.RowKit
theorem res_put2 {fn : Func} {p u : Tmp} {m : Nat × Nat} {x0 x1 x2 x3 x4 x5 x6 x7 x8 : Value} (tmps : Array Value) (W : World) (b : Nat) (n a1 a2 a3 a4 o1 o2 o3 o4 : Int) (hr : fn.results = #[.cell p 58, .tmp u]) (hp : tmps.getD p undef = .pointer (some ⟨b, 0, none⟩))
    (h : W.heap[b]? = some (.cells #[x0, x1, x2, x3, x4, x5, x6, x7, x8] 58 m)) :
    (results fn tmps).run Tryz.prog (put9 W b (.int .i64 n) (.int .u64 a1) (.int .u64 a2) (.int .u64 a3) (.int .u64 a4) (.int .u64 o1) (.int .u64 o2) (.int .u64 o3) (.int .u64 o4)).drew
      = .ok (.tuple #[cv n a1 a2 a3 a4 o1 o2 o3 o4, tmps.getD u undef]) (put9 W b (.int .i64 n) (.int .u64 a1) (.int .u64 a2) (.int .u64 a3) (.int .u64 a4) (.int .u64 o1) (.int .u64 o2) (.int .u64 o3) (.int .u64 o4)).drew := by
  have hg := put9_get (.int .i64 n) (.int .u64 a1) (.int .u64 a2) (.int .u64 a3) (.int .u64 a4) (.int .u64 o1) (.int .u64 o2) (.int .u64 o3) (.int .u64 o4) h
  generalize put9 W b (.int .i64 n) (.int .u64 a1) (.int .u64 a2) (.int .u64 a3) (.int .u64 a4) (.int .u64 o1) (.int .u64 o2) (.int .u64 o3) (.int .u64 o4) = V at hg ⊢
  exact res_cube2 tmps V.drew b n a1 a2 a3 a4 o1 o2 o3 o4 hr hp hg

theorem undrew {B : Nat} {a w : World} (h : Below B a.drew w) : Below B a w := ⟨h.os, h.tape, h.output, h.size, h.block⟩
theorem blk_keep {w w1 w2 : World} {o O : Obj} (hb1 : Below (w.alloc o).heap.size (w.alloc o) w1) (hb2 : Below (w1.alloc O).heap.size (w1.alloc O) w2) : w2.heap[w.heap.size]? = some o := by
  have hz : w.heap.size < w1.heap.size := by have := hb1.size; simp at this; omega
  rw [hb2.block _ (by simp; omega), Below.heap_alloc _ _ _ hz, hb1.block _ (by simp)]
  exact alloc_get _ _

end Go.Proofs.YtecgjlpmmailjaaGreatDoor
namespace Go.Proofs.YtecgjlpmmailjaaGreatDoor

theorem andnot_bit (x y : Nat) (hy : y < 18446744073709551616) (i : Nat) : (x &&& (18446744073709551615 - y)).testBit i = (x.testBit i && (decide (i < 64) && !y.testBit i)) := by
  have h : 18446744073709551615 - y = 2 ^ 64 - (y + 1) := by omega
  rw [Nat.testBit_and, h, Nat.testBit_two_pow_sub_succ (by exact hy)]

/-- P1.8 -/
def wrT (c r : List UInt8) : List UInt8 := List.zipWith (fun x y => if y == 120 then x else y) c r
/-- P1.9 -/
def bfT (c r : List UInt8) : List UInt8 := List.zipWith (fun x y => if y == 120 then x else 120) c r

theorem zip_len (f : UInt8 → UInt8 → UInt8) (a b : List UInt8) (h : a.length = b.length) : (List.zipWith f a b).length = a.length := by simp; omega
theorem zip_get (f : UInt8 → UInt8 → UInt8) (a b : List UInt8) (h : a.length = b.length) (k : Nat) (hk : k < a.length) : (List.zipWith f a b)[k]? = some (f a[k] (b[k]'(by omega))) := by
  rw [List.getElem?_zipWith, List.getElem?_eq_getElem hk, List.getElem?_eq_getElem (show k < b.length by omega)]
theorem zip_out (f : UInt8 → UInt8 → UInt8) (a b : List UInt8) (h : a.length = b.length) (k : Nat) (hk : ¬ k < a.length) : (List.zipWith f a b)[k]? = none := by
  rw [List.getElem?_eq_none (by rw [zip_len f a b h]; omega)]

theorem fx_wr (a b : List UInt8) (h : a.length = b.length) (k : Nat) : fx (wrT a b) k = (fx a k || fx b k) := by
  by_cases hk : k < a.length
  · have hb : k < b.length := by omega
    simp only [fx, wrT, zip_get _ a b h k hk, List.getElem?_eq_getElem hk, List.getElem?_eq_getElem hb]
    generalize a[k] = x
    generalize b[k] = y
    by_cases e : y = 120 <;> simp [e]
  · simp only [fx, wrT, zip_out _ a b h k hk]
    rw [List.getElem?_eq_none (by omega), List.getElem?_eq_none (by omega)]; rfl
theorem on_wr (a b : List UInt8) (h : a.length = b.length) (k : Nat) : on (wrT a b) k = ((on a k && !fx b k) || on b k) := by
  by_cases hk : k < a.length
  · have hb : k < b.length := by omega
    simp only [fx, on, wrT, zip_get _ a b h k hk, List.getElem?_eq_getElem hk, List.getElem?_eq_getElem hb]
    generalize a[k] = x
    generalize b[k] = y
    by_cases e : y = 120
    · subst e; simp
    · simp [e]
  · simp only [fx, on, wrT, zip_out _ a b h k hk]
    rw [List.getElem?_eq_none (by omega), List.getElem?_eq_none (by omega)]; rfl
theorem fx_bf (a b : List UInt8) (h : a.length = b.length) (k : Nat) : fx (bfT a b) k = (fx a k && !fx b k) := by
  by_cases hk : k < a.length
  · have hb : k < b.length := by omega
    simp only [fx, bfT, zip_get _ a b h k hk, List.getElem?_eq_getElem hk, List.getElem?_eq_getElem hb]
    generalize a[k] = x
    generalize b[k] = y
    by_cases e : y = 120 <;> simp [e]
  · simp only [fx, bfT, zip_out _ a b h k hk]
    rw [List.getElem?_eq_none (by omega), List.getElem?_eq_none (by omega)]; rfl
theorem on_bf (a b : List UInt8) (h : a.length = b.length) (k : Nat) : on (bfT a b) k = (on a k && !fx b k) := by
  by_cases hk : k < a.length
  · have hb : k < b.length := by omega
    simp only [fx, on, bfT, zip_get _ a b h k hk, List.getElem?_eq_getElem hk, List.getElem?_eq_getElem hb]
    generalize a[k] = x
    generalize b[k] = y
    by_cases e : y = 120 <;> simp [e]
  · simp only [fx, on, bfT, zip_out _ a b h k hk]
    rw [List.getElem?_eq_none (by omega), List.getElem?_eq_none (by omega)]; rfl

theorem FW_wr (a b : List UInt8) (h : a.length = b.length) (w : Nat) : bits .or .u64 (FW a w : Int) (FW b w : Int) = (FW (wrT a b) w : Nat) := by
  rw [u64_or_nat _ _ (FW_lt _ _) (FW_lt _ _)]
  congr 1
  apply Nat.eq_of_testBit_eq
  intro i
  rw [Nat.testBit_or, FW_bit, FW_bit, FW_bit, fx_wr a b h]
  by_cases hi : i < 64 <;> simp [hi]
theorem OW_wr (a b : List UInt8) (h : a.length = b.length) (w : Nat) : bits .or .u64 (bits .andNot .u64 (OW a w : Int) (FW b w : Int)) (OW b w : Int) = (OW (wrT a b) w : Nat) := by
  rw [u64_andNot_nat _ _ (OW_lt _ _) (FW_lt _ _), u64_or_nat _ _ (and_lt _ (OW_lt _ _)) (OW_lt _ _)]
  congr 1
  apply Nat.eq_of_testBit_eq
  intro i
  rw [Nat.testBit_or, andnot_bit _ _ (FW_lt _ _), OW_bit, OW_bit, OW_bit, FW_bit, on_wr a b h]
  by_cases hi : i < 64 <;> simp [hi]
theorem FW_bf (a b : List UInt8) (h : a.length = b.length) (w : Nat) : bits .andNot .u64 (FW a w : Int) (FW b w : Int) = (FW (bfT a b) w : Nat) := by
  rw [u64_andNot_nat _ _ (FW_lt _ _) (FW_lt _ _)]
  congr 1
  apply Nat.eq_of_testBit_eq
  intro i
  rw [andnot_bit _ _ (FW_lt _ _), FW_bit, FW_bit, FW_bit, fx_bf a b h]
  by_cases hi : i < 64 <;> simp [hi]
theorem OW_bf (a b : List UInt8) (h : a.length = b.length) (w : Nat) : bits .andNot .u64 (OW a w : Int) (FW b w : Int) = (OW (bfT a b) w : Nat) := by
  rw [u64_andNot_nat _ _ (OW_lt _ _) (FW_lt _ _)]
  congr 1
  apply Nat.eq_of_testBit_eq
  intro i
  rw [andnot_bit _ _ (FW_lt _ _), OW_bit, OW_bit, FW_bit, on_bf a b h]
  by_cases hi : i < 64 <;> simp [hi]

/-- what Write answers -/
def wtT (c r : List UInt8) : List UInt8 := if fitB c r = true then wrT c r else []
/-- what Before answers -/
def beT (c r : List UInt8) : List UInt8 := if agB c r = true then bfT c r else []
theorem good_wtT (a b : List UInt8) (ha : good a = true) (hb : good b = true) : good (wtT a b) = true := by
  unfold wtT; split
  · exact good_zip _ a b ha hb (fun x y hx hy => by split <;> assumption)
  · exact good_nil
theorem good_beT (a b : List UInt8) (ha : good a = true) (hb : good b = true) : good (beT a b) = true := by
  unfold beT; split
  · exact good_zip _ a b ha hb (fun x y hx hy => by split <;> first | assumption | decide)
  · exact good_nil

theorem take_zip (f : UInt8 → UInt8 → UInt8) (a b : List UInt8) (h : a.length = b.length) (k : Nat) (hk : k < a.length) :
    (List.zipWith f a b).take (k + 1) = (List.zipWith f a b).take k ++ [f a[k] (b[k]'(by omega))] := by
  have hl : k < (List.zipWith f a b).length := by rw [zip_len f a b h]; exact hk
  rw [List.take_succ_eq_append_getElem hl]
  congr 2
  rw [List.getElem_zipWith]
theorem take_all (f : UInt8 → UInt8 → UInt8) (a b : List UInt8) (h : a.length = b.length) : (List.zipWith f a b).take a.length = List.zipWith f a b := by
  apply List.take_of_length_le
  rw [zip_len f a b h]; exact Nat.le_refl _

/-- conflict, by the bytes -/
theorem cfl_bytes (a b : List UInt8) (k : Nat) (ha : k < a.length) (hb : k < b.length) (ta : tri a[k] = true) (tb : tri b[k] = true) : cfl a b k = (!(a[k] == 120) && !(b[k] == 120) && !(a[k] == b[k])) := by
  simp only [cfl, fx, on, List.getElem?_eq_getElem ha, List.getElem?_eq_getElem hb]
  generalize a[k] = x at *
  generalize b[k] = y at *
  simp [tri] at ta tb
  rcases ta with (rfl | rfl) | rfl <;> rcases tb with (rfl | rfl) | rfl <;> rfl
theorem agB_conf (a b : List UInt8) (k : Nat) (hk : k < a.length) (h : cfl a b k = true) : agB a b = false := by
  unfold agB
  rw [allTo_false k hk (by rw [h]; rfl)]; simp
theorem agB_all (a b : List UInt8) (hf : fitB a b = true) (h : ∀ k, k < a.length → cfl a b k = false) : agB a b = true := by
  unfold agB
  rw [hf, Bool.true_and, allTo_iff]
  intro k hk; rw [h k hk]; rfl
theorem agB_nofit (a b : List UInt8) (hf : fitB a b = false) : agB a b = false := by unfold agB; rw [hf]; rfl
end Go.Proofs.YtecgjlpmmailjaaGreatDoor
namespace Go.Proofs.YtecgjlpmmailjaaGreatDoor
open Go.RowKit

theorem meet_any (a b : List UInt8) (w : World) (ha : good a = true) :
    Calls Tryz.prog 41 #[cubeV a, cubeV b] w fun e w' => e = .returned (.tuple #[cubeV (mtT a b), .bool (agB a b)]) ∧ Below w.heap.size w w' := by
  unfold mtT
  cases hq : agB a b
  · exact meet_no a b w ha hq
  · have hl := fitB_len (agB_fit hq)
    have hc := agB_cfl hq
    refine (meet_raw _ _ _ _ _ _ _ _ _ _ _ _ _ _ _ _ _ _ w (fun W => agrees_D a b true W ha hq)).mono ?_
    rintro e w' ⟨rfl, hb⟩
    refine ⟨?_, hb⟩
    rw [FW_meet a b hl, FW_meet a b hl, FW_meet a b hl, FW_meet a b hl, OW_meet a b hl hc, OW_meet a b hl hc, OW_meet a b hl hc, OW_meet a b hl hc, if_pos rfl]
    unfold cubeV
    rw [meetT_len a b hl]

theorem meet_D (a b M : List UInt8) (q : Bool) (w : World) (ha : good a = true) (hM : mtT a b = M) (hq : agB a b = q) :
    Calls Tryz.prog 41 #[cubeV a, cubeV b] w fun e w' => e = .returned (.tuple #[cubeV M, .bool q]) ∧ Below w.heap.size w w' := by
  subst hM hq; exact meet_any a b w ha

theorem wi_eq (a b : List UInt8) (ha : good a = true) (hb : good b = true) : (agB a b && (mtT a b == a)) = wiB a b := by
  unfold wiB mtT
  cases hf : fitB a b
  · have : agB a b = false := by unfold agB; rw [hf]; rfl
    rw [this]; rfl
  · have hl := fitB_len hf
    rw [Bool.true_and, Bool.eq_iff_iff, allTo_iff]
    constructor
    · intro h k hk
      simp only [Bool.and_eq_true] at h
      rw [if_pos h.1, beq_iff_eq] at h
      have hm := meetT_get a b hl k hk
      rw [h.2, List.getElem?_eq_getElem hk] at hm
      have hc := agB_cfl h.1 k
      have hkb : k < b.length := by omega
      have ta := good_tri ha k hk
      have tb := good_tri hb k hkb
      simp only [cfl, fx, on, List.getElem?_eq_getElem hk, List.getElem?_eq_getElem hkb] at hc ⊢
      generalize a[k] = x at *
      generalize b[k] = y at *
      simp [tri] at ta tb
      rcases ta with (rfl | rfl) | rfl <;> rcases tb with (rfl | rfl) | rfl <;> simp_all
    · intro h
      have hag : agB a b = true := by
        unfold agB
        rw [hf, Bool.true_and, allTo_iff]
        intro k hk
        have hkb : k < b.length := by omega
        have hh := h k hk
        simp only [cfl, fx, on, List.getElem?_eq_getElem hk, List.getElem?_eq_getElem hkb] at hh ⊢
        generalize a[k] = x at *
        generalize b[k] = y at *
        simp at hh
        rcases hh with rfl | rfl <;> simp
      rw [hag, Bool.true_and, if_pos rfl, beq_iff_eq]
      apply List.ext_getElem?
      intro k
      by_cases hk : k < a.length
      · have hkb : k < b.length := by omega
        have hh := h k hk
        rw [meetT_get a b hl k hk, List.getElem?_eq_getElem hk]
        simp only [List.getElem?_eq_getElem hk, List.getElem?_eq_getElem hkb] at hh
        generalize a[k] = x at *
        generalize b[k] = y at *
        simp at hh
        rcases hh with rfl | rfl <;> by_cases e : x = 120 <;> simp [e]
      · rw [List.getElem?_eq_none (by rw [meetT_len a b hl]; omega), List.getElem?_eq_none (by omega)]

theorem common_any (a b : List UInt8) (w : World) (hq : agB a b = true) :
    Calls Tryz.prog 59 #[cubeV a, cubeV b] w fun e w' => e = .returned (cubeV (mtT a b)) ∧ Below w.heap.size w w' := by
  unfold mtT
  rw [hq]
  have hl := fitB_len (agB_fit hq)
  have hc := agB_cfl hq
  refine (common_raw _ _ _ _ _ _ _ _ _ _ _ _ _ _ _ _ _ _ w).mono ?_
  rintro e w' ⟨rfl, hb⟩
  refine ⟨?_, hb⟩
  rw [FW_meet a b hl, FW_meet a b hl, FW_meet a b hl, FW_meet a b hl, OW_meet a b hl hc, OW_meet a b hl hc, OW_meet a b hl hc, OW_meet a b hl hc, if_pos rfl]
  unfold cubeV
  rw [meetT_len a b hl]

theorem common_D (a b M : List UInt8) (w : World) (hM : mtT a b = M) (hq : agB a b = true) :
    Calls Tryz.prog 59 #[cubeV a, cubeV b] w fun e w' => e = .returned (cubeV M) ∧ Below w.heap.size w w' := by
  subst hM; exact common_any a b w hq

theorem kpb {a W : World} {g : Nat} {o : Obj} (h : Below a.heap.size a W) (hg : a.heap[g]? = some o) : W.heap[g]? = some o := by
  have hlt : g < a.heap.size := by
    rcases Nat.lt_or_ge g a.heap.size with h1 | h1
    · exact h1
    · rw [Array.getElem?_eq_none h1] at hg; cases hg
  rw [h.block g hlt]; exact hg
theorem und {a W : World} (h : Below a.drew.heap.size a.drew W) : Below a.heap.size a W := undrew h

theorem alw_0 (w : World) (o1 o2 : Obj) : ((w.alloc o1).alloc o2).heap[w.heap.size]? = some o1 := by
  rw [Below.heap_alloc _ _ _ (by simp)]
  exact alloc_get _ _
theorem alw_1 (w : World) (o1 o2 : Obj) : ((w.alloc o1).alloc o2).heap[w.heap.size + 1]? = some o2 := by
  have := alloc_get (w.alloc o1) o2
  simpa using this

/-- word k shows that a is not within b -/
def dwB (a b : List UInt8) (k : Nat) : Bool := bits .andNot .u64 (FW b k : Int) (FW a k : Int) != 0
theorem wi_dw {a b : List UInt8} (h : wiB a b = true) (k : Nat) : dwB a b k = false := by
  unfold wiB at h
  obtain ⟨hf, h⟩ := Bool.and_eq_true_iff.1 h
  have hl := fitB_len hf
  rw [allTo_iff] at h
  have e : FW b k &&& (18446744073709551615 - FW a k) = 0 := by
    apply Nat.eq_of_testBit_eq
    intro i
    rw [andnot_bit _ _ (FW_lt _ _), FW_bit, FW_bit, Nat.zero_testBit]
    by_cases hi : i < 64
    · by_cases hp : 64 * k + i < a.length
      · have hb : 64 * k + i < b.length := by omega
        have hh := h _ hp
        simp only [fx, List.getElem?_eq_getElem hp, List.getElem?_eq_getElem hb] at hh ⊢
        generalize a[64 * k + i] = x at *
        generalize b[64 * k + i] = y at *
        simp at hh
        rcases hh with rfl | rfl
        · simp
        · by_cases e : x = 120 <;> simp [e]
      · have hb : b.length ≤ 64 * k + i := by omega
        simp [fx, List.getElem?_eq_none hb]
    · simp [hi]
  unfold dwB
  rw [u64_andNot_nat _ _ (FW_lt _ _) (FW_lt _ _), e]
  rfl
theorem wi_all (a b : List UInt8) : ((!dwB a b 0 && !dwB a b 1 && !dwB a b 2 && !dwB a b 3) && wiB a b) = wiB a b := by
  cases h : wiB a b
  · simp
  · simp [wi_dw h]

theorem wp_drewN {P : Program} {C : Code} {Q : Exit → Act → World → Prop} {a : Act} {W : World} {n : Nat} (H : ∀ W3, Below W.heap.size W W3 → Code.wp P C Q a W3) : Code.wp P C Q a (W.drewN n) := H _ (below_drewN _ _ _)
set_option maxHeartbeats 2000000 in
theorem within_walk (a b M : List UInt8) (q d0 d1 d2 d3 : Bool) (w : World) (ha : good a = true) (hgM : good M = true) (hM0 : mtT a b = M) (hq0 : agB a b = q) (h0 : dwB a b 0 = d0) (h1 : dwB a b 1 = d1) (h2 : dwB a b 2 = d2) (h3 : dwB a b 3 = d3) :
    Calls Tryz.prog 43 #[cubeV a, cubeV b] w fun e w' => e = .returned (.bool ((!d0 && !d1 && !d2 && !d3) && (q && (M == a)))) ∧ Below w.heap.size w w' := by
  have hM : Hid (mtT a b = M) := hM0
  have hq : Hid (agB a b = q) := hq0
  clear hM0 hq0
  unfold dwB at h0 h1 h2 h3
  have hE := eql_cube M a hgM ha
  unfold cubeV cv
  obtain ⟨W2, hW2⟩ : ∃ W2, (w.alloc (.cells #[.int .i64 (a.length : Int), .int .u64 (FW a 0 : Int), .int .u64 (FW a 1 : Int), .int .u64 (FW a 2 : Int), .int .u64 (FW a 3 : Int), .int .u64 (OW a 0 : Int), .int .u64 (OW a 1 : Int), .int .u64 (OW a 2 : Int), .int .u64 (OW a 3 : Int)] 58 (0, 0))).alloc (.cells #[.int .i64 (b.length : Int), .int .u64 (FW b 0 : Int), .int .u64 (FW b 1 : Int), .int .u64 (FW b 2 : Int), .int .u64 (FW b 3 : Int), .int .u64 (OW b 0 : Int), .int .u64 (OW b 1 : Int), .int .u64 (OW b 2 : Int), .int .u64 (OW b 3 : Int)] 58 (0, 0)) = W2 := ⟨_, rfl⟩
  have hA : W2.heap[w.heap.size]? = some (.cells #[.int .i64 (a.length : Int), .int .u64 (FW a 0 : Int), .int .u64 (FW a 1 : Int), .int .u64 (FW a 2 : Int), .int .u64 (FW a 3 : Int), .int .u64 (OW a 0 : Int), .int .u64 (OW a 1 : Int), .int .u64 (OW a 2 : Int), .int .u64 (OW a 3 : Int)] 58 (0, 0)) := by rw [← hW2]; exact alw_0 _ _ _
  have hB : W2.heap[w.heap.size + 1]? = some (.cells #[.int .i64 (b.length : Int), .int .u64 (FW b 0 : Int), .int .u64 (FW b 1 : Int), .int .u64 (FW b 2 : Int), .int .u64 (FW b 3 : Int), .int .u64 (OW b 0 : Int), .int .u64 (OW b 1 : Int), .int .u64 (OW b 2 : Int), .int .u64 (OW b 3 : Int)] 58 (0, 0)) := by rw [← hW2]; exact alw_1 _ _ _
  have hBW : Below w.heap.size w W2 := by rw [← hW2]; exact belA (belA (Below.refl _ _) _) _
  obtain ⟨hcA, hfA⟩ := cells_block hA
  obtain ⟨hcB, hfB⟩ := cells_block hB
  have KA : Hid (∀ W, Below W2.heap.size W2 W → (∀ j, W.cell? ⟨w.heap.size, j, none⟩ = (#[.int .i64 (a.length : Int), .int .u64 (FW a 0 : Int), .int .u64 (FW a 1 : Int), .int .u64 (FW a 2 : Int), .int .u64 (FW a 3 : Int), .int .u64 (OW a 0 : Int), .int .u64 (OW a 1 : Int), .int .u64 (OW a 2 : Int), .int .u64 (OW a 3 : Int)] : Array Value)[j]?) ∧ (∀ j, W.cell? ⟨w.heap.size + 1, j, none⟩ = (#[.int .i64 (b.length : Int), .int .u64 (FW b 0 : Int), .int .u64 (FW b 1 : Int), .int .u64 (FW b 2 : Int), .int .u64 (FW b 3 : Int), .int .u64 (OW b 0 : Int), .int .u64 (OW b 1 : Int), .int .u64 (OW b 2 : Int), .int .u64 (OW b 3 : Int)] : Array Value)[j]?)) := fun W hW => ⟨(cells_block (kpb hW hA)).1, (cells_block (kpb hW hB)).1⟩
  cases q
  · go_enter Tryz.func43, Tryz.ntmps43
    go_wp2
    clear hW2 hA hB
    refine wp_loop_rounds 5 ?_
    rw [rounds_succ]
    go_wp2
    go_quiet (fail)
    cases d0
    rotate_left
    · go_wp2
      go_ret
      exact ⟨rfl, by first | exact hBW | exact hBW.trans (below_drewN _ _ _) | exact (hBW.trans (below_drewN _ _ _)).trans (below_drewN _ _ _)⟩
    go_wp2
    rw [rounds_succ]
    go_wp2
    go_quiet (fail)
    cases d1
    rotate_left
    · go_wp2
      go_ret
      exact ⟨rfl, by first | exact hBW | exact hBW.trans (below_drewN _ _ _) | exact (hBW.trans (below_drewN _ _ _)).trans (below_drewN _ _ _)⟩
    go_wp2
    rw [rounds_succ]
    go_wp2
    go_quiet (fail)
    cases d2
    rotate_left
    · go_wp2
      go_ret
      exact ⟨rfl, by first | exact hBW | exact hBW.trans (below_drewN _ _ _) | exact (hBW.trans (below_drewN _ _ _)).trans (below_drewN _ _ _)⟩
    go_wp2
    rw [rounds_succ]
    go_wp2
    go_quiet (fail)
    cases d3
    rotate_left
    · go_wp2
      go_ret
      exact ⟨rfl, by first | exact hBW | exact hBW.trans (below_drewN _ _ _) | exact (hBW.trans (below_drewN _ _ _)).trans (below_drewN _ _ _)⟩
    go_wp2
    rw [rounds_succ]
    go_wp2
    refine wp_drewN (fun W3 hB3 => ?_)
    obtain ⟨hc3A, hc3B⟩ := KA.out W3 hB3
    have K3 : Hid (∀ W, Below W3.heap.size W3 W → (∀ j, W.cell? ⟨w.heap.size, j, none⟩ = (#[.int .i64 (a.length : Int), .int .u64 (FW a 0 : Int), .int .u64 (FW a 1 : Int), .int .u64 (FW a 2 : Int), .int .u64 (FW a 3 : Int), .int .u64 (OW a 0 : Int), .int .u64 (OW a 1 : Int), .int .u64 (OW a 2 : Int), .int .u64 (OW a 3 : Int)] : Array Value)[j]?) ∧ (∀ j, W.cell? ⟨w.heap.size + 1, j, none⟩ = (#[.int .i64 (b.length : Int), .int .u64 (FW b 0 : Int), .int .u64 (FW b 1 : Int), .int .u64 (FW b 2 : Int), .int .u64 (FW b 3 : Int), .int .u64 (OW b 0 : Int), .int .u64 (OW b 1 : Int), .int .u64 (OW b 2 : Int), .int .u64 (OW b 3 : Int)] : Array Value)[j]?)) := fun W hW => KA.out W (bel0 hB3 hW)
    have HB3 : Hid (Below w.heap.size w W3) := bel0 hBW hB3
    clear hB3 hcA hcB hfA hfB KA hBW h0 h1 h2 h3
    go_region_with (go_at_call 58; refine (agrees_D a b false _ ha hq.out).mono ?_; rintro e w1 ⟨rfl, hb1⟩)
    all_goals
      go_wp2
      go_ret
      exact ⟨rfl, bel0 HB3.out (by first | exact und hb1 | exact hb1)⟩
  · go_enter Tryz.func43, Tryz.ntmps43
    go_wp2
    clear hW2 hA hB
    refine wp_loop_rounds 5 ?_
    rw [rounds_succ]
    go_wp2
    go_quiet (fail)
    cases d0
    rotate_left
    · go_wp2
      go_ret
      exact ⟨rfl, by first | exact hBW | exact hBW.trans (below_drewN _ _ _) | exact (hBW.trans (below_drewN _ _ _)).trans (below_drewN _ _ _)⟩
    go_wp2
    rw [rounds_succ]
    go_wp2
    go_quiet (fail)
    cases d1
    rotate_left
    · go_wp2
      go_ret
      exact ⟨rfl, by first | exact hBW | exact hBW.trans (below_drewN _ _ _) | exact (hBW.trans (below_drewN _ _ _)).trans (below_drewN _ _ _)⟩
    go_wp2
    rw [rounds_succ]
    go_wp2
    go_quiet (fail)
    cases d2
    rotate_left
    · go_wp2
      go_ret
      exact ⟨rfl, by first | exact hBW | exact hBW.trans (below_drewN _ _ _) | exact (hBW.trans (below_drewN _ _ _)).trans (below_drewN _ _ _)⟩
    go_wp2
    rw [rounds_succ]
    go_wp2
    go_quiet (fail)
    cases d3
    rotate_left
    · go_wp2
      go_ret
      exact ⟨rfl, by first | exact hBW | exact hBW.trans (below_drewN _ _ _) | exact (hBW.trans (below_drewN _ _ _)).trans (below_drewN _ _ _)⟩
    go_wp2
    rw [rounds_succ]
    go_wp2
    refine wp_drewN (fun W3 hB3 => ?_)
    obtain ⟨hc3A, hc3B⟩ := KA.out W3 hB3
    have K3 : Hid (∀ W, Below W3.heap.size W3 W → (∀ j, W.cell? ⟨w.heap.size, j, none⟩ = (#[.int .i64 (a.length : Int), .int .u64 (FW a 0 : Int), .int .u64 (FW a 1 : Int), .int .u64 (FW a 2 : Int), .int .u64 (FW a 3 : Int), .int .u64 (OW a 0 : Int), .int .u64 (OW a 1 : Int), .int .u64 (OW a 2 : Int), .int .u64 (OW a 3 : Int)] : Array Value)[j]?) ∧ (∀ j, W.cell? ⟨w.heap.size + 1, j, none⟩ = (#[.int .i64 (b.length : Int), .int .u64 (FW b 0 : Int), .int .u64 (FW b 1 : Int), .int .u64 (FW b 2 : Int), .int .u64 (FW b 3 : Int), .int .u64 (OW b 0 : Int), .int .u64 (OW b 1 : Int), .int .u64 (OW b 2 : Int), .int .u64 (OW b 3 : Int)] : Array Value)[j]?)) := fun W hW => KA.out W (bel0 hB3 hW)
    have HB3 : Hid (Below w.heap.size w W3) := bel0 hBW hB3
    clear hB3 hcA hcB hfA hfB KA hBW h0 h1 h2 h3
    go_region_held3 (fun W => (∀ j, W.cell? ⟨w.heap.size, j, none⟩ = (#[.int .i64 (a.length : Int), .int .u64 (FW a 0 : Int), .int .u64 (FW a 1 : Int), .int .u64 (FW a 2 : Int), .int .u64 (FW a 3 : Int), .int .u64 (OW a 0 : Int), .int .u64 (OW a 1 : Int), .int .u64 (OW a 2 : Int), .int .u64 (OW a 3 : Int)] : Array Value)[j]?) ∧ (∀ j, W.cell? ⟨w.heap.size + 1, j, none⟩ = (#[.int .i64 (b.length : Int), .int .u64 (FW b 0 : Int), .int .u64 (FW b 1 : Int), .int .u64 (FW b 2 : Int), .int .u64 (FW b 3 : Int), .int .u64 (OW b 0 : Int), .int .u64 (OW b 1 : Int), .int .u64 (OW b 2 : Int), .int .u64 (OW b 3 : Int)] : Array Value)[j]?)) (first | exact ⟨hc3A, hc3B⟩ | exact K3.out _ (bel0 (und hb1) hb2) | exact K3.out _ (und hb1) | exact K3.out _ hb1) (first | (go_at_call 59; refine (common_D a b M _ hM.out hq.out).mono ?_; rintro e w2 ⟨rfl, hb2⟩; unfold cubeV cv) | (go_at_call 58; refine (agrees_D a b true _ ha hq.out).mono ?_; rintro e w1 ⟨rfl, hb1⟩))
    go_wp2
    go_ret
    exact ⟨rfl, bel0 HB3.out (bel0 (und hb1) hb2)⟩

theorem within_any (a b : List UInt8) (w : World) (ha : good a = true) (hb : good b = true) :
    Calls Tryz.prog 43 #[cubeV a, cubeV b] w fun e w' => e = .returned (.bool (wiB a b)) ∧ Below w.heap.size w w' := by
  refine (within_walk a b _ _ _ _ _ _ w ha (good_mtT a b ha hb) rfl rfl rfl rfl rfl rfl).mono ?_
  rintro e w' ⟨rfl, h⟩
  exact ⟨by rw [wi_eq a b ha hb, wi_all a b], h⟩
theorem within_D (a b : List UInt8) (q : Bool) (w : World) (ha : good a = true) (hb : good b = true) (h : wiB a b = q) :
    Calls Tryz.prog 43 #[cubeV a, cubeV b] w fun e w' => e = .returned (.bool q) ∧ Below w.heap.size w w' := by
  subst h; exact within_any a b w ha hb
end Go.Proofs.YtecgjlpmmailjaaGreatDoor
namespace Go.Proofs.YtecgjlpmmailjaaGreatDoor
open Go.RowKit

theorem keepblk {W w' : World} {b : Nat} {o : Obj} (hb : Below W.heap.size W w') (h : W.heap[b]? = some o) : w'.heap[b]? = some o := (hb.block b (lt_of_get h)).trans h
theorem allocblk {W : World} {b : Nat} {o : Obj} (h : W.heap[b]? = some o) (O : Obj) : (W.alloc O).heap[b]? = some o := (Below.heap_alloc _ _ _ (lt_of_get h)).trans h

/-- the text is one of a cube -/
def cubB (t : List UInt8) : Bool := t.all tri && (decide (0 < t.length) && decide (t.length ≤ 256))
theorem cubB_iff (t : List UInt8) : cubB t = true ↔ (t ≠ [] ∧ good t = true) := by
  unfold cubB good
  simp only [Bool.and_eq_true, decide_eq_true_eq]
  constructor
  · rintro ⟨h1, h2, h3⟩
    exact ⟨fun e => by subst e; simp at h2, h3, h1⟩
  · rintro ⟨h1, h2, h3⟩
    exact ⟨h3, List.length_pos_iff.2 h1, h2⟩

theorem nat_ne {b : UInt8} {n : Nat} (h : b ≠ UInt8.ofNat n) : (b.toNat : Int) ≠ (n : Int) := by
  intro e
  have e2 : b.toNat = n := by omega
  apply h
  rw [← e2]
  simp

theorem not_all (s : ByteArray) (k : Nat) (hlt : k < s.size) (c48 : ¬ s[k] = 48) (c49 : ¬ s[k] = 49) (c120 : ¬ s[k] = 120) : s.data.toList.all tri = false := by
  rw [Bool.eq_false_iff]
  intro h
  rw [List.all_eq_true] at h
  have := h s[k] (by rw [← byte_at s k hlt]; exact List.getElem_mem _)
  simp [tri, c48, c49, c120] at this
theorem yes_all (s : ByteArray) (h : ∀ j (h : j < s.data.toList.length), tri s.data.toList[j] = true) : s.data.toList.all tri = true := by
  rw [List.all_eq_true]
  intro x hx
  obtain ⟨j, hj, rfl⟩ := List.getElem_of_mem hx
  exact h j hj

end Go.Proofs.YtecgjlpmmailjaaGreatDoor

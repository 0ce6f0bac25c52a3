import Derived.Test.YtbdnpbiimbeflaaW9
import Derived.RegionTactic
namespace Go.Proofs.Ytbdnpbiimbeflaa
open Go.RowKit

/-- word j behind k rounds -/
def mxi (k j : Nat) (x y : Int) : Int := if j < k then y else x

theorem set2_0 {W : World} {b T : Nat} {m : Nat × Nat} {x0 x1 x2 x3 x4 x5 x6 x7 x8 : Value} (u v : Value) (h : W.heap[b]? = some (.cells #[x0, x1, x2, x3, x4, x5, x6, x7, x8] T m)) :
    ((W.setCell ⟨b, 1, none⟩ u).setCell ⟨b, 5, none⟩ v).heap[b]? = some (.cells #[x0, u, x2, x3, x4, v, x6, x7, x8] T m) := by
  have h0 := set_get (j := 1) u h
  have h1 := set_get (j := 5) v h0
  rw [h1]; simp

theorem set2_1 {W : World} {b T : Nat} {m : Nat × Nat} {x0 x1 x2 x3 x4 x5 x6 x7 x8 : Value} (u v : Value) (h : W.heap[b]? = some (.cells #[x0, x1, x2, x3, x4, x5, x6, x7, x8] T m)) :
    ((W.setCell ⟨b, 2, none⟩ u).setCell ⟨b, 6, none⟩ v).heap[b]? = some (.cells #[x0, x1, u, x3, x4, x5, v, x7, x8] T m) := by
  have h0 := set_get (j := 2) u h
  have h1 := set_get (j := 6) v h0
  rw [h1]; simp

theorem set2_2 {W : World} {b T : Nat} {m : Nat × Nat} {x0 x1 x2 x3 x4 x5 x6 x7 x8 : Value} (u v : Value) (h : W.heap[b]? = some (.cells #[x0, x1, x2, x3, x4, x5, x6, x7, x8] T m)) :
    ((W.setCell ⟨b, 3, none⟩ u).setCell ⟨b, 7, none⟩ v).heap[b]? = some (.cells #[x0, x1, x2, u, x4, x5, x6, v, x8] T m) := by
  have h0 := set_get (j := 3) u h
  have h1 := set_get (j := 7) v h0
  rw [h1]; simp

theorem set2_3 {W : World} {b T : Nat} {m : Nat × Nat} {x0 x1 x2 x3 x4 x5 x6 x7 x8 : Value} (u v : Value) (h : W.heap[b]? = some (.cells #[x0, x1, x2, x3, x4, x5, x6, x7, x8] T m)) :
    ((W.setCell ⟨b, 4, none⟩ u).setCell ⟨b, 8, none⟩ v).heap[b]? = some (.cells #[x0, x1, x2, x3, u, x5, x6, x7, v] T m) := by
  have h0 := set_get (j := 4) u h
  have h1 := set_get (j := 8) v h0
  rw [h1]; simp

theorem set2_ne {W : World} {a1 a2 : Addr} {c : Nat} {o : Obj} (u v : Value) (h1 : c ≠ a1.block) (h2 : c ≠ a2.block) (h : W.heap[c]? = some o) : ((W.setCell a1 u).setCell a2 v).heap[c]? = some o := by
  rw [Below.heap_setCell _ _ _ _ h2, Below.heap_setCell _ _ _ _ h1]; exact h

theorem alloc3_0 (w : World) (o1 o2 o3 : Obj) : (((w.alloc o1).alloc o2).alloc o3).heap[w.heap.size]? = some o1 := by
  rw [Below.heap_alloc _ _ _ (by simp; omega), Below.heap_alloc _ _ _ (by simp)]
  exact alloc_get _ _
theorem alloc3_1 (w : World) (o1 o2 o3 : Obj) : (((w.alloc o1).alloc o2).alloc o3).heap[w.heap.size + 1]? = some o2 := by
  rw [Below.heap_alloc _ _ _ (by simp)]
  have := alloc_get (w.alloc o1) o2
  simpa using this

set_option maxHeartbeats 1000000 in
theorem common_raw (n f0 f1 f2 f3 o0 o1 o2 o3 m g0 g1 g2 g3 p0 p1 p2 p3 : Int) (w : World) :
    Calls Try.prog 54 #[cv n f0 f1 f2 f3 o0 o1 o2 o3, cv m g0 g1 g2 g3 p0 p1 p2 p3] w fun e w' => e = .returned (cv n (bits .or .u64 f0 g0) (bits .or .u64 f1 g1) (bits .or .u64 f2 g2) (bits .or .u64 f3 g3) (bits .or .u64 o0 p0) (bits .or .u64 o1 p1) (bits .or .u64 o2 p2) (bits .or .u64 o3 p3)) ∧ Below w.heap.size w w' := by
  unfold cv
  go_enter Try.func54, Try.ntmps54
  go_wp2
  have hA1 := alloc3_0 w (.cells #[.int .i64 n, .int .u64 f0, .int .u64 f1, .int .u64 f2, .int .u64 f3, .int .u64 o0, .int .u64 o1, .int .u64 o2, .int .u64 o3] 28 (0, 0)) (.cells #[.int .i64 m, .int .u64 g0, .int .u64 g1, .int .u64 g2, .int .u64 g3, .int .u64 p0, .int .u64 p1, .int .u64 p2, .int .u64 p3] 28 (0, 0)) (.cells #[.int .i64 0, .int .u64 0, .int .u64 0, .int .u64 0, .int .u64 0, .int .u64 0, .int .u64 0, .int .u64 0, .int .u64 0] 28 (0, 0))
  have hB1 := alloc3_1 w (.cells #[.int .i64 n, .int .u64 f0, .int .u64 f1, .int .u64 f2, .int .u64 f3, .int .u64 o0, .int .u64 o1, .int .u64 o2, .int .u64 o3] 28 (0, 0)) (.cells #[.int .i64 m, .int .u64 g0, .int .u64 g1, .int .u64 g2, .int .u64 g3, .int .u64 p0, .int .u64 p1, .int .u64 p2, .int .u64 p3] 28 (0, 0)) (.cells #[.int .i64 0, .int .u64 0, .int .u64 0, .int .u64 0, .int .u64 0, .int .u64 0, .int .u64 0, .int .u64 0, .int .u64 0] 28 (0, 0))
  have hC1 := alloc_get2 w (.cells #[.int .i64 n, .int .u64 f0, .int .u64 f1, .int .u64 f2, .int .u64 f3, .int .u64 o0, .int .u64 o1, .int .u64 o2, .int .u64 o3] 28 (0, 0)) (.cells #[.int .i64 m, .int .u64 g0, .int .u64 g1, .int .u64 g2, .int .u64 g3, .int .u64 p0, .int .u64 p1, .int .u64 p2, .int .u64 p3] 28 (0, 0)) (.cells #[.int .i64 0, .int .u64 0, .int .u64 0, .int .u64 0, .int .u64 0, .int .u64 0, .int .u64 0, .int .u64 0, .int .u64 0] 28 (0, 0))
  have hW1 := bel1 (bel1 (bel1 (Below.refl _ (((w.alloc (.cells #[.int .i64 n, .int .u64 f0, .int .u64 f1, .int .u64 f2, .int .u64 f3, .int .u64 o0, .int .u64 o1, .int .u64 o2, .int .u64 o3] 28 (0, 0))).alloc (.cells #[.int .i64 m, .int .u64 g0, .int .u64 g1, .int .u64 g2, .int .u64 g3, .int .u64 p0, .int .u64 p1, .int .u64 p2, .int .u64 p3] 28 (0, 0))).alloc (.cells #[.int .i64 0, .int .u64 0, .int .u64 0, .int .u64 0, .int .u64 0, .int .u64 0, .int .u64 0, .int .u64 0, .int .u64 0] 28 (0, 0))))))
  go_loopw [6] (fun i wr => ∃ k : Nat, k ≤ 4 ∧ i = .int .i64 k ∧ wr.heap[w.heap.size]? = some (.cells #[.int .i64 n, .int .u64 (mxi k 0 f0 (bits .or .u64 f0 g0)), .int .u64 (mxi k 1 f1 (bits .or .u64 f1 g1)), .int .u64 (mxi k 2 f2 (bits .or .u64 f2 g2)), .int .u64 (mxi k 3 f3 (bits .or .u64 f3 g3)), .int .u64 (mxi k 0 o0 (bits .or .u64 o0 p0)), .int .u64 (mxi k 1 o1 (bits .or .u64 o1 p1)), .int .u64 (mxi k 2 o2 (bits .or .u64 o2 p2)), .int .u64 (mxi k 3 o3 (bits .or .u64 o3 p3))] 28 (0, 0)) ∧ wr.heap[w.heap.size + 1]? = some (.cells #[.int .i64 m, .int .u64 g0, .int .u64 g1, .int .u64 g2, .int .u64 g3, .int .u64 p0, .int .u64 p1, .int .u64 p2, .int .u64 p3] 28 (0, 0)) ∧ wr.heap[w.heap.size + 2]? = some (.cells #[.int .i64 0, .int .u64 0, .int .u64 0, .int .u64 0, .int .u64 0, .int .u64 0, .int .u64 0, .int .u64 0, .int .u64 0] 28 (0, 0)) ∧ Below w.heap.size w wr) (fun i _ => 4 - (intOf i).toNat)
  case atStart => exact ⟨0, by omega, rfl, hA1, hB1, hC1, hW1⟩
  case round =>
    clear hA1 hB1 hC1 hW1
    obtain ⟨k, hk, rfl, hA0, hB, hC, hW⟩ := hrel
    obtain ⟨hcB, hfB⟩ := cells_block hB
    rcases (show k = 0 ∨ k = 1 ∨ k = 2 ∨ k = 3 ∨ k = 4 by omega) with rfl | rfl | rfl | rfl | rfl
    · have hA : wr.heap[w.heap.size]? = some (.cells #[.int .i64 n, .int .u64 f0, .int .u64 f1, .int .u64 f2, .int .u64 f3, .int .u64 o0, .int .u64 o1, .int .u64 o2, .int .u64 o3] 28 (0, 0)) := hA0
      obtain ⟨hcA, hfA⟩ := cells_block hA
      clear hA0
      go_wp2
      go_region
      go_wp2
      go_region
      go_wp2
      go_roundw
      case rel => exact ⟨1, by omega, rfl, set2_0 _ _ hA, set2_ne _ _ (by simp) (by simp) hB, set2_ne _ _ (by simp) (by simp) hC, ((hW.setCell (Nat.le_refl _) _).setCell (Nat.le_refl _) _).drew.drew⟩
      case measure => simp [intOf]
    · have hA : wr.heap[w.heap.size]? = some (.cells #[.int .i64 n, .int .u64 (bits .or .u64 f0 g0), .int .u64 f1, .int .u64 f2, .int .u64 f3, .int .u64 (bits .or .u64 o0 p0), .int .u64 o1, .int .u64 o2, .int .u64 o3] 28 (0, 0)) := hA0
      obtain ⟨hcA, hfA⟩ := cells_block hA
      clear hA0
      go_wp2
      go_region
      go_wp2
      go_region
      go_wp2
      go_roundw
      case rel => exact ⟨2, by omega, rfl, set2_1 _ _ hA, set2_ne _ _ (by simp) (by simp) hB, set2_ne _ _ (by simp) (by simp) hC, ((hW.setCell (Nat.le_refl _) _).setCell (Nat.le_refl _) _).drew.drew⟩
      case measure => simp [intOf]
    · have hA : wr.heap[w.heap.size]? = some (.cells #[.int .i64 n, .int .u64 (bits .or .u64 f0 g0), .int .u64 (bits .or .u64 f1 g1), .int .u64 f2, .int .u64 f3, .int .u64 (bits .or .u64 o0 p0), .int .u64 (bits .or .u64 o1 p1), .int .u64 o2, .int .u64 o3] 28 (0, 0)) := hA0
      obtain ⟨hcA, hfA⟩ := cells_block hA
      clear hA0
      go_wp2
      go_region
      go_wp2
      go_region
      go_wp2
      go_roundw
      case rel => exact ⟨3, by omega, rfl, set2_2 _ _ hA, set2_ne _ _ (by simp) (by simp) hB, set2_ne _ _ (by simp) (by simp) hC, ((hW.setCell (Nat.le_refl _) _).setCell (Nat.le_refl _) _).drew.drew⟩
      case measure => simp [intOf]
    · have hA : wr.heap[w.heap.size]? = some (.cells #[.int .i64 n, .int .u64 (bits .or .u64 f0 g0), .int .u64 (bits .or .u64 f1 g1), .int .u64 (bits .or .u64 f2 g2), .int .u64 f3, .int .u64 (bits .or .u64 o0 p0), .int .u64 (bits .or .u64 o1 p1), .int .u64 (bits .or .u64 o2 p2), .int .u64 o3] 28 (0, 0)) := hA0
      obtain ⟨hcA, hfA⟩ := cells_block hA
      clear hA0
      go_wp2
      go_region
      go_wp2
      go_region
      go_wp2
      go_roundw
      case rel => exact ⟨4, by omega, rfl, set2_3 _ _ hA, set2_ne _ _ (by simp) (by simp) hB, set2_ne _ _ (by simp) (by simp) hC, ((hW.setCell (Nat.le_refl _) _).setCell (Nat.le_refl _) _).drew.drew⟩
      case measure => simp [intOf]
    · have hA : wr.heap[w.heap.size]? = some (.cells #[.int .i64 n, .int .u64 (bits .or .u64 f0 g0), .int .u64 (bits .or .u64 f1 g1), .int .u64 (bits .or .u64 f2 g2), .int .u64 (bits .or .u64 f3 g3), .int .u64 (bits .or .u64 o0 p0), .int .u64 (bits .or .u64 o1 p1), .int .u64 (bits .or .u64 o2 p2), .int .u64 (bits .or .u64 o3 p3)] 28 (0, 0)) := hA0
      obtain ⟨hcA, hfA⟩ := cells_block hA
      obtain ⟨hcC, hfC⟩ := cells_block hC
      clear hA0
      go_wp2
      refine bodyPost_ret (v := cv n (bits .or .u64 f0 g0) (bits .or .u64 f1 g1) (bits .or .u64 f2 g2) (bits .or .u64 f3 g3) (bits .or .u64 o0 p0) (bits .or .u64 o1 p1) (bits .or .u64 o2 p2) (bits .or .u64 o3 p3)) ?_ rfl ⟨rfl, ?_⟩
      · exact res_cube1 _ _ (w.heap.size + 2) _ _ _ _ _ _ _ _ _ Try.results54 rfl (put9_get _ _ _ _ _ _ _ _ _ hC)
      · exact put9_below _ _ _ _ _ _ _ _ _ hW (by omega)

set_option maxHeartbeats 1000000 in
theorem meet_raw (n f0 f1 f2 f3 o0 o1 o2 o3 m g0 g1 g2 g3 p0 p1 p2 p3 : Int) (w : World)
    (hcall0 : ∀ W, Calls Try.prog 53 #[cv n f0 f1 f2 f3 o0 o1 o2 o3, cv m g0 g1 g2 g3 p0 p1 p2 p3] W fun e w' => e = .returned (.bool true) ∧ Below W.heap.size W w') :
    Calls Try.prog 36 #[cv n f0 f1 f2 f3 o0 o1 o2 o3, cv m g0 g1 g2 g3 p0 p1 p2 p3] w fun e w' => e = .returned (.tuple #[cv n (bits .or .u64 f0 g0) (bits .or .u64 f1 g1) (bits .or .u64 f2 g2) (bits .or .u64 f3 g3) (bits .or .u64 o0 p0) (bits .or .u64 o1 p1) (bits .or .u64 o2 p2) (bits .or .u64 o3 p3), .bool true]) ∧ Below w.heap.size w w' := by
  have hcall : Hid (∀ W, Calls Try.prog 53 #[cv n f0 f1 f2 f3 o0 o1 o2 o3, cv m g0 g1 g2 g3 p0 p1 p2 p3] W fun e w' => e = .returned (.bool true) ∧ Below W.heap.size W w') := hcall0
  have hcom : Hid (∀ W, Calls Try.prog 54 #[cv n f0 f1 f2 f3 o0 o1 o2 o3, cv m g0 g1 g2 g3 p0 p1 p2 p3] W fun e w' => e = .returned (cv n (bits .or .u64 f0 g0) (bits .or .u64 f1 g1) (bits .or .u64 f2 g2) (bits .or .u64 f3 g3) (bits .or .u64 o0 p0) (bits .or .u64 o1 p1) (bits .or .u64 o2 p2) (bits .or .u64 o3 p3)) ∧ Below W.heap.size W w') := fun W => common_raw n f0 f1 f2 f3 o0 o1 o2 o3 m g0 g1 g2 g3 p0 p1 p2 p3 W
  clear hcall0
  unfold cv
  go_enter Try.func36, Try.ntmps36
  go_wp2_with (go_at_call 53; refine (hcall.out _).mono ?_; rintro e w1 ⟨rfl, hb1⟩; have hA1 := (hb1.block w.heap.size (by simp; omega)).trans (alloc3_0 _ _ _ _); have hB1 := (hb1.block (w.heap.size + 1) (by simp)).trans (alloc3_1 _ _ _ _); have hC1 := (hb1.block (w.heap.size + 2) (by simp)).trans (alloc_get2 _ _ _ _); have hW1 := bel1 (bel1 (bel1 hb1)); have hz1 : w.heap.size + 3 ≤ w1.heap.size := by { have := hb1.size; simp at this; omega }; clear hb1; obtain ⟨hcA, hfA⟩ := cells_block hA1; obtain ⟨hcB, hfB⟩ := cells_block hB1)
  refine (hcom.out _).mono ?_
  rintro e w2 ⟨rfl, hb2⟩
  have hC2 := (hb2.block (w.heap.size + 2) (by omega)).trans hC1
  have hW2 : Below w.heap.size w w2 := bel0 hW1 hb2
  clear hcA hfA hcB hfB hA1 hB1 hC1
  obtain ⟨hcC, hfC⟩ := cells_block hC2
  unfold cv
  go_wp2
  refine bodyPost_ret (v := .tuple #[cv n (bits .or .u64 f0 g0) (bits .or .u64 f1 g1) (bits .or .u64 f2 g2) (bits .or .u64 f3 g3) (bits .or .u64 o0 p0) (bits .or .u64 o1 p1) (bits .or .u64 o2 p2) (bits .or .u64 o3 p3), .bool true]) ?_ rfl ⟨rfl, ?_⟩
  · exact res_cube2 _ _ (w.heap.size + 2) _ _ _ _ _ _ _ _ _ Try.results36 rfl (put9_get _ _ _ _ _ _ _ _ _ hC2)
  · exact put9_below _ _ _ _ _ _ _ _ _ hW2 (by omega)

end Go.Proofs.Ytbdnpbiimbeflaa

import Derived.Test.YtdgglglemdbgcaaW10
namespace Go.Proofs.Ytdgglglemdbgcaa
open Go.RowKit

set_option maxHeartbeats 1000000 in
theorem write_raw (n f0 f1 f2 f3 o0 o1 o2 o3 m g0 g1 g2 g3 p0 p1 p2 p3 : Int) (w : World)
    (hcall0 : ∀ W, Calls Try.prog 30 #[cv n f0 f1 f2 f3 o0 o1 o2 o3, cv m g0 g1 g2 g3 p0 p1 p2 p3] W fun e w' => e = .returned (.bool true) ∧ Below W.heap.size W w') :
    Calls Try.prog 16 #[cv n f0 f1 f2 f3 o0 o1 o2 o3, cv m g0 g1 g2 g3 p0 p1 p2 p3] w fun e w' => e = .returned (cv n (bits .or .u64 f0 g0) (bits .or .u64 f1 g1) (bits .or .u64 f2 g2) (bits .or .u64 f3 g3) (bits .or .u64 (bits .andNot .u64 o0 g0) p0) (bits .or .u64 (bits .andNot .u64 o1 g1) p1) (bits .or .u64 (bits .andNot .u64 o2 g2) p2) (bits .or .u64 (bits .andNot .u64 o3 g3) p3)) ∧ Below w.heap.size w w' := by
  have hcall : Hid (∀ W, Calls Try.prog 30 #[cv n f0 f1 f2 f3 o0 o1 o2 o3, cv m g0 g1 g2 g3 p0 p1 p2 p3] W fun e w' => e = .returned (.bool true) ∧ Below W.heap.size W w') := hcall0
  clear hcall0
  unfold cv
  go_enter Try.func16, Try.ntmps16
  go_wp2_with (go_at_call 30; refine (hcall.out _).mono ?_; rintro e w1 ⟨rfl, hb1⟩)
  have hA1 := (hb1.block w.heap.size (by simp; omega)).trans (alloc3_0 _ _ _ _)
  have hB1 := (hb1.block (w.heap.size + 1) (by simp)).trans (alloc3_1 _ _ _ _)
  have hC1 := (hb1.block (w.heap.size + 2) (by simp)).trans (alloc_get2 _ _ _ _)
  have hW1 := bel1 (bel1 (bel1 hb1))
  clear hb1
  go_loopw [11] (fun i wr => ∃ k : Nat, k ≤ 4 ∧ i = .int .i64 k ∧ wr.heap[w.heap.size]? = some (.cells #[.int .i64 n, .int .u64 (mxi k 0 f0 (bits .or .u64 f0 g0)), .int .u64 (mxi k 1 f1 (bits .or .u64 f1 g1)), .int .u64 (mxi k 2 f2 (bits .or .u64 f2 g2)), .int .u64 (mxi k 3 f3 (bits .or .u64 f3 g3)), .int .u64 (mxi k 0 o0 (bits .or .u64 (bits .andNot .u64 o0 g0) p0)), .int .u64 (mxi k 1 o1 (bits .or .u64 (bits .andNot .u64 o1 g1) p1)), .int .u64 (mxi k 2 o2 (bits .or .u64 (bits .andNot .u64 o2 g2) p2)), .int .u64 (mxi k 3 o3 (bits .or .u64 (bits .andNot .u64 o3 g3) p3))] 26 (0, 0)) ∧ wr.heap[w.heap.size + 1]? = some (.cells #[.int .i64 m, .int .u64 g0, .int .u64 g1, .int .u64 g2, .int .u64 g3, .int .u64 p0, .int .u64 p1, .int .u64 p2, .int .u64 p3] 26 (0, 0)) ∧ wr.heap[w.heap.size + 2]? = some (.cells #[.int .i64 0, .int .u64 0, .int .u64 0, .int .u64 0, .int .u64 0, .int .u64 0, .int .u64 0, .int .u64 0, .int .u64 0] 26 (0, 0)) ∧ Below w.heap.size w wr) (fun i _ => 4 - (intOf i).toNat)
  case atStart => exact ⟨0, by omega, rfl, hA1, hB1, hC1, hW1⟩
  case round =>
    clear hA1 hB1 hC1 hW1
    obtain ⟨k, hk, rfl, hA0, hB, hC, hW⟩ := hrel
    obtain ⟨hcB, hfB⟩ := cells_block hB
    rcases (show k = 0 ∨ k = 1 ∨ k = 2 ∨ k = 3 ∨ k = 4 by omega) with rfl | rfl | rfl | rfl | rfl
    · have hA : wr.heap[w.heap.size]? = some (.cells #[.int .i64 n, .int .u64 f0, .int .u64 f1, .int .u64 f2, .int .u64 f3, .int .u64 o0, .int .u64 o1, .int .u64 o2, .int .u64 o3] 26 (0, 0)) := hA0
      obtain ⟨hcA, hfA⟩ := cells_block hA
      clear hA0
      go_wp2
      go_region
      go_wp2
      go_region
      go_wp2
      go_roundw
      case rel => exact ⟨1, by omega, rfl, set2_0 _ _ hA, set2_ne _ _ (by simp) (by simp) hB, set2_ne _ _ (by simp) (by simp) hC, ((hW.setCell (Nat.le_refl _) _).setCell (Nat.le_refl _) _).drew.drew⟩
      case measure => simp [intOf]
    · have hA : wr.heap[w.heap.size]? = some (.cells #[.int .i64 n, .int .u64 (bits .or .u64 f0 g0), .int .u64 f1, .int .u64 f2, .int .u64 f3, .int .u64 (bits .or .u64 (bits .andNot .u64 o0 g0) p0), .int .u64 o1, .int .u64 o2, .int .u64 o3] 26 (0, 0)) := hA0
      obtain ⟨hcA, hfA⟩ := cells_block hA
      clear hA0
      go_wp2
      go_region
      go_wp2
      go_region
      go_wp2
      go_roundw
      case rel => exact ⟨2, by omega, rfl, set2_1 _ _ hA, set2_ne _ _ (by simp) (by simp) hB, set2_ne _ _ (by simp) (by simp) hC, ((hW.setCell (Nat.le_refl _) _).setCell (Nat.le_refl _) _).drew.drew⟩
      case measure => simp [intOf]
    · have hA : wr.heap[w.heap.size]? = some (.cells #[.int .i64 n, .int .u64 (bits .or .u64 f0 g0), .int .u64 (bits .or .u64 f1 g1), .int .u64 f2, .int .u64 f3, .int .u64 (bits .or .u64 (bits .andNot .u64 o0 g0) p0), .int .u64 (bits .or .u64 (bits .andNot .u64 o1 g1) p1), .int .u64 o2, .int .u64 o3] 26 (0, 0)) := hA0
      obtain ⟨hcA, hfA⟩ := cells_block hA
      clear hA0
      go_wp2
      go_region
      go_wp2
      go_region
      go_wp2
      go_roundw
      case rel => exact ⟨3, by omega, rfl, set2_2 _ _ hA, set2_ne _ _ (by simp) (by simp) hB, set2_ne _ _ (by simp) (by simp) hC, ((hW.setCell (Nat.le_refl _) _).setCell (Nat.le_refl _) _).drew.drew⟩
      case measure => simp [intOf]
    · have hA : wr.heap[w.heap.size]? = some (.cells #[.int .i64 n, .int .u64 (bits .or .u64 f0 g0), .int .u64 (bits .or .u64 f1 g1), .int .u64 (bits .or .u64 f2 g2), .int .u64 f3, .int .u64 (bits .or .u64 (bits .andNot .u64 o0 g0) p0), .int .u64 (bits .or .u64 (bits .andNot .u64 o1 g1) p1), .int .u64 (bits .or .u64 (bits .andNot .u64 o2 g2) p2), .int .u64 o3] 26 (0, 0)) := hA0
      obtain ⟨hcA, hfA⟩ := cells_block hA
      clear hA0
      go_wp2
      go_region
      go_wp2
      go_region
      go_wp2
      go_roundw
      case rel => exact ⟨4, by omega, rfl, set2_3 _ _ hA, set2_ne _ _ (by simp) (by simp) hB, set2_ne _ _ (by simp) (by simp) hC, ((hW.setCell (Nat.le_refl _) _).setCell (Nat.le_refl _) _).drew.drew⟩
      case measure => simp [intOf]
    · have hA : wr.heap[w.heap.size]? = some (.cells #[.int .i64 n, .int .u64 (bits .or .u64 f0 g0), .int .u64 (bits .or .u64 f1 g1), .int .u64 (bits .or .u64 f2 g2), .int .u64 (bits .or .u64 f3 g3), .int .u64 (bits .or .u64 (bits .andNot .u64 o0 g0) p0), .int .u64 (bits .or .u64 (bits .andNot .u64 o1 g1) p1), .int .u64 (bits .or .u64 (bits .andNot .u64 o2 g2) p2), .int .u64 (bits .or .u64 (bits .andNot .u64 o3 g3) p3)] 26 (0, 0)) := hA0
      obtain ⟨hcA, hfA⟩ := cells_block hA
      obtain ⟨hcC, hfC⟩ := cells_block hC
      clear hA0
      go_wp2
      refine bodyPost_ret (v := cv n (bits .or .u64 f0 g0) (bits .or .u64 f1 g1) (bits .or .u64 f2 g2) (bits .or .u64 f3 g3) (bits .or .u64 (bits .andNot .u64 o0 g0) p0) (bits .or .u64 (bits .andNot .u64 o1 g1) p1) (bits .or .u64 (bits .andNot .u64 o2 g2) p2) (bits .or .u64 (bits .andNot .u64 o3 g3) p3)) ?_ rfl ⟨rfl, ?_⟩
      · exact res_cube1 _ _ (w.heap.size + 2) _ _ _ _ _ _ _ _ _ Try.results16 rfl (put9_get _ _ _ _ _ _ _ _ _ hC)
      · exact put9_below _ _ _ _ _ _ _ _ _ hW (by omega)

set_option maxHeartbeats 1000000 in
theorem before_raw (n f0 f1 f2 f3 o0 o1 o2 o3 m g0 g1 g2 g3 p0 p1 p2 p3 : Int) (w : World)
    (hcall0 : ∀ W, Calls Try.prog 26 #[cv n f0 f1 f2 f3 o0 o1 o2 o3, cv m g0 g1 g2 g3 p0 p1 p2 p3] W fun e w' => e = .returned (.bool true) ∧ Below W.heap.size W w') :
    Calls Try.prog 15 #[cv n f0 f1 f2 f3 o0 o1 o2 o3, cv m g0 g1 g2 g3 p0 p1 p2 p3] w fun e w' => e = .returned (.tuple #[cv n (bits .andNot .u64 f0 g0) (bits .andNot .u64 f1 g1) (bits .andNot .u64 f2 g2) (bits .andNot .u64 f3 g3) (bits .andNot .u64 o0 g0) (bits .andNot .u64 o1 g1) (bits .andNot .u64 o2 g2) (bits .andNot .u64 o3 g3), .bool true]) ∧ Below w.heap.size w w' := by
  have hcall : Hid (∀ W, Calls Try.prog 26 #[cv n f0 f1 f2 f3 o0 o1 o2 o3, cv m g0 g1 g2 g3 p0 p1 p2 p3] W fun e w' => e = .returned (.bool true) ∧ Below W.heap.size W w') := hcall0
  clear hcall0
  unfold cv
  go_enter Try.func15, Try.ntmps15
  go_wp2_with (go_at_call 26; refine (hcall.out _).mono ?_; rintro e w1 ⟨rfl, hb1⟩)
  have hA1 := (hb1.block w.heap.size (by simp; omega)).trans (alloc3_0 _ _ _ _)
  have hB1 := (hb1.block (w.heap.size + 1) (by simp)).trans (alloc3_1 _ _ _ _)
  have hC1 := (hb1.block (w.heap.size + 2) (by simp)).trans (alloc_get2 _ _ _ _)
  have hW1 := bel1 (bel1 (bel1 hb1))
  clear hb1
  go_loopw [12] (fun i wr => ∃ k : Nat, k ≤ 4 ∧ i = .int .i64 k ∧ wr.heap[w.heap.size]? = some (.cells #[.int .i64 n, .int .u64 (mxi k 0 f0 (bits .andNot .u64 f0 g0)), .int .u64 (mxi k 1 f1 (bits .andNot .u64 f1 g1)), .int .u64 (mxi k 2 f2 (bits .andNot .u64 f2 g2)), .int .u64 (mxi k 3 f3 (bits .andNot .u64 f3 g3)), .int .u64 (mxi k 0 o0 (bits .andNot .u64 o0 g0)), .int .u64 (mxi k 1 o1 (bits .andNot .u64 o1 g1)), .int .u64 (mxi k 2 o2 (bits .andNot .u64 o2 g2)), .int .u64 (mxi k 3 o3 (bits .andNot .u64 o3 g3))] 26 (0, 0)) ∧ wr.heap[w.heap.size + 1]? = some (.cells #[.int .i64 m, .int .u64 g0, .int .u64 g1, .int .u64 g2, .int .u64 g3, .int .u64 p0, .int .u64 p1, .int .u64 p2, .int .u64 p3] 26 (0, 0)) ∧ wr.heap[w.heap.size + 2]? = some (.cells #[.int .i64 0, .int .u64 0, .int .u64 0, .int .u64 0, .int .u64 0, .int .u64 0, .int .u64 0, .int .u64 0, .int .u64 0] 26 (0, 0)) ∧ Below w.heap.size w wr) (fun i _ => 4 - (intOf i).toNat)
  case atStart => exact ⟨0, by omega, rfl, hA1, hB1, hC1, hW1⟩
  case round =>
    clear hA1 hB1 hC1 hW1
    obtain ⟨k, hk, rfl, hA0, hB, hC, hW⟩ := hrel
    obtain ⟨hcB, hfB⟩ := cells_block hB
    rcases (show k = 0 ∨ k = 1 ∨ k = 2 ∨ k = 3 ∨ k = 4 by omega) with rfl | rfl | rfl | rfl | rfl
    · have hA : wr.heap[w.heap.size]? = some (.cells #[.int .i64 n, .int .u64 f0, .int .u64 f1, .int .u64 f2, .int .u64 f3, .int .u64 o0, .int .u64 o1, .int .u64 o2, .int .u64 o3] 26 (0, 0)) := hA0
      obtain ⟨hcA, hfA⟩ := cells_block hA
      clear hA0
      go_wp2
      go_region
      go_wp2
      go_region
      go_wp2
      go_roundw
      case rel => exact ⟨1, by omega, rfl, set2_0 _ _ hA, set2_ne _ _ (by simp) (by simp) hB, set2_ne _ _ (by simp) (by simp) hC, ((hW.setCell (Nat.le_refl _) _).setCell (Nat.le_refl _) _).drew.drew⟩
      case measure => simp [intOf]
    · have hA : wr.heap[w.heap.size]? = some (.cells #[.int .i64 n, .int .u64 (bits .andNot .u64 f0 g0), .int .u64 f1, .int .u64 f2, .int .u64 f3, .int .u64 (bits .andNot .u64 o0 g0), .int .u64 o1, .int .u64 o2, .int .u64 o3] 26 (0, 0)) := hA0
      obtain ⟨hcA, hfA⟩ := cells_block hA
      clear hA0
      go_wp2
      go_region
      go_wp2
      go_region
      go_wp2
      go_roundw
      case rel => exact ⟨2, by omega, rfl, set2_1 _ _ hA, set2_ne _ _ (by simp) (by simp) hB, set2_ne _ _ (by simp) (by simp) hC, ((hW.setCell (Nat.le_refl _) _).setCell (Nat.le_refl _) _).drew.drew⟩
      case measure => simp [intOf]
    · have hA : wr.heap[w.heap.size]? = some (.cells #[.int .i64 n, .int .u64 (bits .andNot .u64 f0 g0), .int .u64 (bits .andNot .u64 f1 g1), .int .u64 f2, .int .u64 f3, .int .u64 (bits .andNot .u64 o0 g0), .int .u64 (bits .andNot .u64 o1 g1), .int .u64 o2, .int .u64 o3] 26 (0, 0)) := hA0
      obtain ⟨hcA, hfA⟩ := cells_block hA
      clear hA0
      go_wp2
      go_region
      go_wp2
      go_region
      go_wp2
      go_roundw
      case rel => exact ⟨3, by omega, rfl, set2_2 _ _ hA, set2_ne _ _ (by simp) (by simp) hB, set2_ne _ _ (by simp) (by simp) hC, ((hW.setCell (Nat.le_refl _) _).setCell (Nat.le_refl _) _).drew.drew⟩
      case measure => simp [intOf]
    · have hA : wr.heap[w.heap.size]? = some (.cells #[.int .i64 n, .int .u64 (bits .andNot .u64 f0 g0), .int .u64 (bits .andNot .u64 f1 g1), .int .u64 (bits .andNot .u64 f2 g2), .int .u64 f3, .int .u64 (bits .andNot .u64 o0 g0), .int .u64 (bits .andNot .u64 o1 g1), .int .u64 (bits .andNot .u64 o2 g2), .int .u64 o3] 26 (0, 0)) := hA0
      obtain ⟨hcA, hfA⟩ := cells_block hA
      clear hA0
      go_wp2
      go_region
      go_wp2
      go_region
      go_wp2
      go_roundw
      case rel => exact ⟨4, by omega, rfl, set2_3 _ _ hA, set2_ne _ _ (by simp) (by simp) hB, set2_ne _ _ (by simp) (by simp) hC, ((hW.setCell (Nat.le_refl _) _).setCell (Nat.le_refl _) _).drew.drew⟩
      case measure => simp [intOf]
    · have hA : wr.heap[w.heap.size]? = some (.cells #[.int .i64 n, .int .u64 (bits .andNot .u64 f0 g0), .int .u64 (bits .andNot .u64 f1 g1), .int .u64 (bits .andNot .u64 f2 g2), .int .u64 (bits .andNot .u64 f3 g3), .int .u64 (bits .andNot .u64 o0 g0), .int .u64 (bits .andNot .u64 o1 g1), .int .u64 (bits .andNot .u64 o2 g2), .int .u64 (bits .andNot .u64 o3 g3)] 26 (0, 0)) := hA0
      obtain ⟨hcA, hfA⟩ := cells_block hA
      obtain ⟨hcC, hfC⟩ := cells_block hC
      clear hA0
      go_wp2
      refine bodyPost_ret (v := .tuple #[cv n (bits .andNot .u64 f0 g0) (bits .andNot .u64 f1 g1) (bits .andNot .u64 f2 g2) (bits .andNot .u64 f3 g3) (bits .andNot .u64 o0 g0) (bits .andNot .u64 o1 g1) (bits .andNot .u64 o2 g2) (bits .andNot .u64 o3 g3), .bool true]) ?_ rfl ⟨rfl, ?_⟩
      · exact res_cube2 _ _ (w.heap.size + 2) _ _ _ _ _ _ _ _ _ Try.results15 rfl (put9_get _ _ _ _ _ _ _ _ _ hC)
      · exact put9_below _ _ _ _ _ _ _ _ _ hW (by omega)

end Go.Proofs.Ytdgglglemdbgcaa

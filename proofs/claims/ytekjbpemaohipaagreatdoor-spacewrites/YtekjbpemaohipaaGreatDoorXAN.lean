import Derived.Test.YtekjbpemaohipaaGreatDoorXAC
import Derived.Deep.RegionHeld3
import Derived.Test.YtekjbpemaohipaaGreatDoorXAE
import Derived.Deep.AppendLies
import Derived.OneCell
import Derived.Lib.ConvBytes
import Derived.Laws.IdiomStrings
import Derived.Test.YtekjbpemaohipaaGreatDoorXAD
import Derived.Shelf.Small.Strs
import Derived.Ground.NamesProg
import Derived.Test.YtekjbpemaohipaaGreatDoorProg
namespace Go.Proofs.YtekjbpemaohipaaGreatDoor
open Go.RowKit

set_option maxHeartbeats 1000000 in
theorem write_raw (n f0 f1 f2 f3 o0 o1 o2 o3 m g0 g1 g2 g3 p0 p1 p2 p3 : Int) (w : World)
    (hcall0 : ∀ W, Calls Tryz.prog 50 #[cv n f0 f1 f2 f3 o0 o1 o2 o3, cv m g0 g1 g2 g3 p0 p1 p2 p3] W fun e w' => e = .returned (.bool true) ∧ Below W.heap.size W w') :
    Calls Tryz.prog 33 #[cv n f0 f1 f2 f3 o0 o1 o2 o3, cv m g0 g1 g2 g3 p0 p1 p2 p3] w fun e w' => e = .returned (cv n (bits .or .u64 f0 g0) (bits .or .u64 f1 g1) (bits .or .u64 f2 g2) (bits .or .u64 f3 g3) (bits .or .u64 (bits .andNot .u64 o0 g0) p0) (bits .or .u64 (bits .andNot .u64 o1 g1) p1) (bits .or .u64 (bits .andNot .u64 o2 g2) p2) (bits .or .u64 (bits .andNot .u64 o3 g3) p3)) ∧ Below w.heap.size w w' := by
  have hcall : Hid (∀ W, Calls Tryz.prog 50 #[cv n f0 f1 f2 f3 o0 o1 o2 o3, cv m g0 g1 g2 g3 p0 p1 p2 p3] W fun e w' => e = .returned (.bool true) ∧ Below W.heap.size W w') := hcall0
  clear hcall0
  unfold cv
  go_enter Tryz.func33, Tryz.ntmps33
  go_wp2_with (go_at_call 50; refine (hcall.out _).mono ?_; rintro e w1 ⟨rfl, hb1⟩)
  have hA1 := (hb1.block w.heap.size (by simp; omega)).trans (alloc3_0 _ _ _ _)
  have hB1 := (hb1.block (w.heap.size + 1) (by simp)).trans (alloc3_1 _ _ _ _)
  have hC1 := (hb1.block (w.heap.size + 2) (by simp)).trans (alloc_get2 _ _ _ _)
  have hW1 := bel1 (bel1 (bel1 hb1))
  clear hb1
  go_loopw [11] (fun i wr => ∃ k : Nat, k ≤ 4 ∧ i = .int .i64 k ∧ wr.heap[w.heap.size]? = some (.cells #[.int .i64 n, .int .u64 (mxi k 0 f0 (bits .or .u64 f0 g0)), .int .u64 (mxi k 1 f1 (bits .or .u64 f1 g1)), .int .u64 (mxi k 2 f2 (bits .or .u64 f2 g2)), .int .u64 (mxi k 3 f3 (bits .or .u64 f3 g3)), .int .u64 (mxi k 0 o0 (bits .or .u64 (bits .andNot .u64 o0 g0) p0)), .int .u64 (mxi k 1 o1 (bits .or .u64 (bits .andNot .u64 o1 g1) p1)), .int .u64 (mxi k 2 o2 (bits .or .u64 (bits .andNot .u64 o2 g2) p2)), .int .u64 (mxi k 3 o3 (bits .or .u64 (bits .andNot .u64 o3 g3) p3))] 34 (0, 0)) ∧ wr.heap[w.heap.size + 1]? = some (.cells #[.int .i64 m, .int .u64 g0, .int .u64 g1, .int .u64 g2, .int .u64 g3, .int .u64 p0, .int .u64 p1, .int .u64 p2, .int .u64 p3] 34 (0, 0)) ∧ wr.heap[w.heap.size + 2]? = some (.cells #[.int .i64 0, .int .u64 0, .int .u64 0, .int .u64 0, .int .u64 0, .int .u64 0, .int .u64 0, .int .u64 0, .int .u64 0] 34 (0, 0)) ∧ Below w.heap.size w wr) (fun i _ => 4 - (intOf i).toNat)
  case atStart => exact ⟨0, by omega, rfl, hA1, hB1, hC1, hW1⟩
  case round =>
    clear hA1 hB1 hC1 hW1
    obtain ⟨k, hk, rfl, hA0, hB, hC, hW⟩ := hrel
    obtain ⟨hcB, hfB⟩ := cells_block hB
    rcases (show k = 0 ∨ k = 1 ∨ k = 2 ∨ k = 3 ∨ k = 4 by omega) with rfl | rfl | rfl | rfl | rfl
    · have hA : wr.heap[w.heap.size]? = some (.cells #[.int .i64 n, .int .u64 f0, .int .u64 f1, .int .u64 f2, .int .u64 f3, .int .u64 o0, .int .u64 o1, .int .u64 o2, .int .u64 o3] 34 (0, 0)) := hA0
      obtain ⟨hcA, hfA⟩ := cells_block hA
      clear hA0
      go_wp2
      go_region
      go_wp2
      go_region
      go_wp2
      go_roundw
      case rel => exact ⟨1, by omega, rfl, set2_0 _ _ hA, set2_ne _ _ (by simp) (by simp) hB, set2_ne _ _ (by simp) (by simp) hC, ((hW.setCell (Nat.le_refl _) _).setCell (Nat.le_refl _) _).drew.drew⟩
      case measure => simp [intOf]
    · have hA : wr.heap[w.heap.size]? = some (.cells #[.int .i64 n, .int .u64 (bits .or .u64 f0 g0), .int .u64 f1, .int .u64 f2, .int .u64 f3, .int .u64 (bits .or .u64 (bits .andNot .u64 o0 g0) p0), .int .u64 o1, .int .u64 o2, .int .u64 o3] 34 (0, 0)) := hA0
      obtain ⟨hcA, hfA⟩ := cells_block hA
      clear hA0
      go_wp2
      go_region
      go_wp2
      go_region
      go_wp2
      go_roundw
      case rel => exact ⟨2, by omega, rfl, set2_1 _ _ hA, set2_ne _ _ (by simp) (by simp) hB, set2_ne _ _ (by simp) (by simp) hC, ((hW.setCell (Nat.le_refl _) _).setCell (Nat.le_refl _) _).drew.drew⟩
      case measure => simp [intOf]
    · have hA : wr.heap[w.heap.size]? = some (.cells #[.int .i64 n, .int .u64 (bits .or .u64 f0 g0), .int .u64 (bits .or .u64 f1 g1), .int .u64 f2, .int .u64 f3, .int .u64 (bits .or .u64 (bits .andNot .u64 o0 g0) p0), .int .u64 (bits .or .u64 (bits .andNot .u64 o1 g1) p1), .int .u64 o2, .int .u64 o3] 34 (0, 0)) := hA0
      obtain ⟨hcA, hfA⟩ := cells_block hA
      clear hA0
      go_wp2
      go_region
      go_wp2
      go_region
      go_wp2
      go_roundw
      case rel => exact ⟨3, by omega, rfl, set2_2 _ _ hA, set2_ne _ _ (by simp) (by simp) hB, set2_ne _ _ (by simp) (by simp) hC, ((hW.setCell (Nat.le_refl _) _).setCell (Nat.le_refl _) _).drew.drew⟩
      case measure => simp [intOf]
    · have hA : wr.heap[w.heap.size]? = some (.cells #[.int .i64 n, .int .u64 (bits .or .u64 f0 g0), .int .u64 (bits .or .u64 f1 g1), .int .u64 (bits .or .u64 f2 g2), .int .u64 f3, .int .u64 (bits .or .u64 (bits .andNot .u64 o0 g0) p0), .int .u64 (bits .or .u64 (bits .andNot .u64 o1 g1) p1), .int .u64 (bits .or .u64 (bits .andNot .u64 o2 g2) p2), .int .u64 o3] 34 (0, 0)) := hA0
      obtain ⟨hcA, hfA⟩ := cells_block hA
      clear hA0
      go_wp2
      go_region
      go_wp2
      go_region
      go_wp2
      go_roundw
      case rel => exact ⟨4, by omega, rfl, set2_3 _ _ hA, set2_ne _ _ (by simp) (by simp) hB, set2_ne _ _ (by simp) (by simp) hC, ((hW.setCell (Nat.le_refl _) _).setCell (Nat.le_refl _) _).drew.drew⟩
      case measure => simp [intOf]
    · have hA : wr.heap[w.heap.size]? = some (.cells #[.int .i64 n, .int .u64 (bits .or .u64 f0 g0), .int .u64 (bits .or .u64 f1 g1), .int .u64 (bits .or .u64 f2 g2), .int .u64 (bits .or .u64 f3 g3), .int .u64 (bits .or .u64 (bits .andNot .u64 o0 g0) p0), .int .u64 (bits .or .u64 (bits .andNot .u64 o1 g1) p1), .int .u64 (bits .or .u64 (bits .andNot .u64 o2 g2) p2), .int .u64 (bits .or .u64 (bits .andNot .u64 o3 g3) p3)] 34 (0, 0)) := hA0
      obtain ⟨hcA, hfA⟩ := cells_block hA
      obtain ⟨hcC, hfC⟩ := cells_block hC
      clear hA0
      go_wp2
      refine bodyPost_ret (v := cv n (bits .or .u64 f0 g0) (bits .or .u64 f1 g1) (bits .or .u64 f2 g2) (bits .or .u64 f3 g3) (bits .or .u64 (bits .andNot .u64 o0 g0) p0) (bits .or .u64 (bits .andNot .u64 o1 g1) p1) (bits .or .u64 (bits .andNot .u64 o2 g2) p2) (bits .or .u64 (bits .andNot .u64 o3 g3) p3)) ?_ rfl ⟨rfl, ?_⟩
      · exact res_cube1 _ _ (w.heap.size + 2) _ _ _ _ _ _ _ _ _ Tryz.results33 rfl (put9_get _ _ _ _ _ _ _ _ _ hC)
      · exact put9_below _ _ _ _ _ _ _ _ _ hW (by omega)

set_option maxHeartbeats 1000000 in
theorem before_raw (n f0 f1 f2 f3 o0 o1 o2 o3 m g0 g1 g2 g3 p0 p1 p2 p3 : Int) (w : World)
    (hcall0 : ∀ W, Calls Tryz.prog 44 #[cv n f0 f1 f2 f3 o0 o1 o2 o3, cv m g0 g1 g2 g3 p0 p1 p2 p3] W fun e w' => e = .returned (.bool true) ∧ Below W.heap.size W w') :
    Calls Tryz.prog 28 #[cv n f0 f1 f2 f3 o0 o1 o2 o3, cv m g0 g1 g2 g3 p0 p1 p2 p3] w fun e w' => e = .returned (.tuple #[cv n (bits .andNot .u64 f0 g0) (bits .andNot .u64 f1 g1) (bits .andNot .u64 f2 g2) (bits .andNot .u64 f3 g3) (bits .andNot .u64 o0 g0) (bits .andNot .u64 o1 g1) (bits .andNot .u64 o2 g2) (bits .andNot .u64 o3 g3), .bool true]) ∧ Below w.heap.size w w' := by
  have hcall : Hid (∀ W, Calls Tryz.prog 44 #[cv n f0 f1 f2 f3 o0 o1 o2 o3, cv m g0 g1 g2 g3 p0 p1 p2 p3] W fun e w' => e = .returned (.bool true) ∧ Below W.heap.size W w') := hcall0
  clear hcall0
  unfold cv
  go_enter Tryz.func28, Tryz.ntmps28
  go_wp2_with (go_at_call 44; refine (hcall.out _).mono ?_; rintro e w1 ⟨rfl, hb1⟩)
  have hA1 := (hb1.block w.heap.size (by simp; omega)).trans (alloc3_0 _ _ _ _)
  have hB1 := (hb1.block (w.heap.size + 1) (by simp)).trans (alloc3_1 _ _ _ _)
  have hC1 := (hb1.block (w.heap.size + 2) (by simp)).trans (alloc_get2 _ _ _ _)
  have hW1 := bel1 (bel1 (bel1 hb1))
  clear hb1
  go_loopw [12] (fun i wr => ∃ k : Nat, k ≤ 4 ∧ i = .int .i64 k ∧ wr.heap[w.heap.size]? = some (.cells #[.int .i64 n, .int .u64 (mxi k 0 f0 (bits .andNot .u64 f0 g0)), .int .u64 (mxi k 1 f1 (bits .andNot .u64 f1 g1)), .int .u64 (mxi k 2 f2 (bits .andNot .u64 f2 g2)), .int .u64 (mxi k 3 f3 (bits .andNot .u64 f3 g3)), .int .u64 (mxi k 0 o0 (bits .andNot .u64 o0 g0)), .int .u64 (mxi k 1 o1 (bits .andNot .u64 o1 g1)), .int .u64 (mxi k 2 o2 (bits .andNot .u64 o2 g2)), .int .u64 (mxi k 3 o3 (bits .andNot .u64 o3 g3))] 34 (0, 0)) ∧ wr.heap[w.heap.size + 1]? = some (.cells #[.int .i64 m, .int .u64 g0, .int .u64 g1, .int .u64 g2, .int .u64 g3, .int .u64 p0, .int .u64 p1, .int .u64 p2, .int .u64 p3] 34 (0, 0)) ∧ wr.heap[w.heap.size + 2]? = some (.cells #[.int .i64 0, .int .u64 0, .int .u64 0, .int .u64 0, .int .u64 0, .int .u64 0, .int .u64 0, .int .u64 0, .int .u64 0] 34 (0, 0)) ∧ Below w.heap.size w wr) (fun i _ => 4 - (intOf i).toNat)
  case atStart => exact ⟨0, by omega, rfl, hA1, hB1, hC1, hW1⟩
  case round =>
    clear hA1 hB1 hC1 hW1
    obtain ⟨k, hk, rfl, hA0, hB, hC, hW⟩ := hrel
    obtain ⟨hcB, hfB⟩ := cells_block hB
    rcases (show k = 0 ∨ k = 1 ∨ k = 2 ∨ k = 3 ∨ k = 4 by omega) with rfl | rfl | rfl | rfl | rfl
    · have hA : wr.heap[w.heap.size]? = some (.cells #[.int .i64 n, .int .u64 f0, .int .u64 f1, .int .u64 f2, .int .u64 f3, .int .u64 o0, .int .u64 o1, .int .u64 o2, .int .u64 o3] 34 (0, 0)) := hA0
      obtain ⟨hcA, hfA⟩ := cells_block hA
      clear hA0
      go_wp2
      go_region
      go_wp2
      go_region
      go_wp2
      go_roundw
      case rel => exact ⟨1, by omega, rfl, set2_0 _ _ hA, set2_ne _ _ (by simp) (by simp) hB, set2_ne _ _ (by simp) (by simp) hC, ((hW.setCell (Nat.le_refl _) _).setCell (Nat.le_refl _) _).drew.drew⟩
      case measure => simp [intOf]
    · have hA : wr.heap[w.heap.size]? = some (.cells #[.int .i64 n, .int .u64 (bits .andNot .u64 f0 g0), .int .u64 f1, .int .u64 f2, .int .u64 f3, .int .u64 (bits .andNot .u64 o0 g0), .int .u64 o1, .int .u64 o2, .int .u64 o3] 34 (0, 0)) := hA0
      obtain ⟨hcA, hfA⟩ := cells_block hA
      clear hA0
      go_wp2
      go_region
      go_wp2
      go_region
      go_wp2
      go_roundw
      case rel => exact ⟨2, by omega, rfl, set2_1 _ _ hA, set2_ne _ _ (by simp) (by simp) hB, set2_ne _ _ (by simp) (by simp) hC, ((hW.setCell (Nat.le_refl _) _).setCell (Nat.le_refl _) _).drew.drew⟩
      case measure => simp [intOf]
    · have hA : wr.heap[w.heap.size]? = some (.cells #[.int .i64 n, .int .u64 (bits .andNot .u64 f0 g0), .int .u64 (bits .andNot .u64 f1 g1), .int .u64 f2, .int .u64 f3, .int .u64 (bits .andNot .u64 o0 g0), .int .u64 (bits .andNot .u64 o1 g1), .int .u64 o2, .int .u64 o3] 34 (0, 0)) := hA0
      obtain ⟨hcA, hfA⟩ := cells_block hA
      clear hA0
      go_wp2
      go_region
      go_wp2
      go_region
      go_wp2
      go_roundw
      case rel => exact ⟨3, by omega, rfl, set2_2 _ _ hA, set2_ne _ _ (by simp) (by simp) hB, set2_ne _ _ (by simp) (by simp) hC, ((hW.setCell (Nat.le_refl _) _).setCell (Nat.le_refl _) _).drew.drew⟩
      case measure => simp [intOf]
    · have hA : wr.heap[w.heap.size]? = some (.cells #[.int .i64 n, .int .u64 (bits .andNot .u64 f0 g0), .int .u64 (bits .andNot .u64 f1 g1), .int .u64 (bits .andNot .u64 f2 g2), .int .u64 f3, .int .u64 (bits .andNot .u64 o0 g0), .int .u64 (bits .andNot .u64 o1 g1), .int .u64 (bits .andNot .u64 o2 g2), .int .u64 o3] 34 (0, 0)) := hA0
      obtain ⟨hcA, hfA⟩ := cells_block hA
      clear hA0
      go_wp2
      go_region
      go_wp2
      go_region
      go_wp2
      go_roundw
      case rel => exact ⟨4, by omega, rfl, set2_3 _ _ hA, set2_ne _ _ (by simp) (by simp) hB, set2_ne _ _ (by simp) (by simp) hC, ((hW.setCell (Nat.le_refl _) _).setCell (Nat.le_refl _) _).drew.drew⟩
      case measure => simp [intOf]
    · have hA : wr.heap[w.heap.size]? = some (.cells #[.int .i64 n, .int .u64 (bits .andNot .u64 f0 g0), .int .u64 (bits .andNot .u64 f1 g1), .int .u64 (bits .andNot .u64 f2 g2), .int .u64 (bits .andNot .u64 f3 g3), .int .u64 (bits .andNot .u64 o0 g0), .int .u64 (bits .andNot .u64 o1 g1), .int .u64 (bits .andNot .u64 o2 g2), .int .u64 (bits .andNot .u64 o3 g3)] 34 (0, 0)) := hA0
      obtain ⟨hcA, hfA⟩ := cells_block hA
      obtain ⟨hcC, hfC⟩ := cells_block hC
      clear hA0
      go_wp2
      refine bodyPost_ret (v := .tuple #[cv n (bits .andNot .u64 f0 g0) (bits .andNot .u64 f1 g1) (bits .andNot .u64 f2 g2) (bits .andNot .u64 f3 g3) (bits .andNot .u64 o0 g0) (bits .andNot .u64 o1 g1) (bits .andNot .u64 o2 g2) (bits .andNot .u64 o3 g3), .bool true]) ?_ rfl ⟨rfl, ?_⟩
      · exact res_cube2 _ _ (w.heap.size + 2) _ _ _ _ _ _ _ _ _ Tryz.results28 rfl (put9_get _ _ _ _ _ _ _ _ _ hC)
      · exact put9_below _ _ _ _ _ _ _ _ _ hW (by omega)

end Go.Proofs.YtekjbpemaohipaaGreatDoor
namespace Go.Proofs.YtekjbpemaohipaaGreatDoor
open Go.RowKit

/-- place k of a lies in place k of b -/
def inK (a b : List UInt8) (k : Nat) : Bool := match a[k]?, b[k]? with | some x, some y => y == 120 || x == y | _, _ => true
theorem wiB_eq (a b : List UInt8) : wiB a b = (fitB a b && allTo (inK a b) a.length) := rfl

theorem wi_refl (a : List UInt8) (h : a ≠ []) : wiB a a = true := by
  rw [wiB_eq, Bool.and_eq_true, allTo_iff]
  refine ⟨?_, ?_⟩
  · cases a with
    | nil => exact absurd rfl h
    | cons x l => simp [fitB]
  · intro k hk
    simp [inK, List.getElem?_eq_getElem hk]

theorem fit_of {a b : List UInt8} (h : a ≠ []) (hl : a.length = b.length) : fitB a b = true := by
  cases a with
  | nil => exact absurd rfl h
  | cons x l => simp [fitB]; simpa using hl

theorem wi_anti (a b : List UInt8) (ha : a ≠ []) (hb : b ≠ []) (hl : a.length = b.length) (ga : good a = true) (gb : good b = true) : (wiB a b && wiB b a) = (a == b) := by
  rw [wiB_eq, wiB_eq, fit_of ha hl, fit_of hb hl.symm, Bool.true_and, Bool.true_and, Bool.eq_iff_iff, Bool.and_eq_true, allTo_iff, allTo_iff, beq_iff_eq]
  constructor
  · rintro ⟨h1, h2⟩
    apply List.ext_getElem hl
    intro k k1 k2
    have e1 := h1 k k1
    have e2 := h2 k k2
    have ta := good_tri ga k k1
    have tb := good_tri gb k k2
    simp only [inK, List.getElem?_eq_getElem k1, List.getElem?_eq_getElem k2] at e1 e2
    generalize a[k] = x at *
    generalize b[k] = y at *
    simp [tri] at ta tb
    rcases ta with (rfl | rfl) | rfl <;> rcases tb with (rfl | rfl) | rfl <;> simp_all
  · rintro rfl
    refine ⟨fun k hk => ?_, fun k hk => ?_⟩ <;> simp [inK, List.getElem?_eq_getElem hk]

theorem mt_nil (a b : List UInt8) (h : agB a b = false) : mtT a b = [] := by unfold mtT; rw [h]; rfl
theorem mt_yes (a b : List UInt8) (h : agB a b = true) : mtT a b = meetT a b := by unfold mtT; rw [if_pos h]

theorem wi_meet (a b d : List UInt8) (ha : a ≠ []) (hd : d ≠ []) (hl : a.length = b.length) (hl2 : a.length = d.length) (ga : good a = true) (gb : good b = true) (gd : good d = true) :
    (wiB d a && wiB d b) = (agB a b && wiB d (mtT a b)) := by
  cases hag : agB a b
  · rw [Bool.false_and, Bool.eq_false_iff]
    intro h
    rw [Bool.and_eq_true, wiB_eq, wiB_eq, Bool.and_eq_true, Bool.and_eq_true, allTo_iff, allTo_iff] at h
    have : agB a b = true := by
      unfold agB
      rw [fit_of ha hl, Bool.true_and, allTo_iff]
      intro k hk
      have e1 := h.1.2 k (by omega)
      have e2 := h.2.2 k (by omega)
      have kb : k < b.length := by omega
      have kd : k < d.length := by omega
      have ta := good_tri ga k hk
      have tb := good_tri gb k kb
      have td := good_tri gd k kd
      simp only [inK, cfl, fx, on, List.getElem?_eq_getElem hk, List.getElem?_eq_getElem kb, List.getElem?_eq_getElem kd] at e1 e2 ⊢
      generalize a[k] = x at *
      generalize b[k] = y at *
      generalize d[k] = z at *
      simp [tri] at ta tb td
      rcases ta with (rfl | rfl) | rfl <;> rcases tb with (rfl | rfl) | rfl <;> rcases td with (rfl | rfl) | rfl <;> simp_all
    rw [hag] at this
    cases this
  · rw [Bool.true_and, mt_yes a b hag]
    have hm := meetT_len a b hl
    rw [wiB_eq, wiB_eq, wiB_eq, fit_of hd (by omega), fit_of hd (by omega), fit_of hd (by omega), Bool.true_and, Bool.true_and, Bool.true_and, Bool.eq_iff_iff, Bool.and_eq_true, allTo_iff, allTo_iff, allTo_iff]
    have key : ∀ k, k < d.length → ((inK d a k = true ∧ inK d b k = true) ↔ inK d (meetT a b) k = true) := by
      intro k kd
      have ka : k < a.length := by omega
      have kb : k < b.length := by omega
      have hc := agB_cfl hag k
      have ta := good_tri ga k ka
      have tb := good_tri gb k kb
      have td := good_tri gd k kd
      simp only [inK, cfl, fx, on, meetT_get a b hl k ka, List.getElem?_eq_getElem ka, List.getElem?_eq_getElem kb, List.getElem?_eq_getElem kd] at hc ⊢
      generalize a[k] = x at *
      generalize b[k] = y at *
      generalize d[k] = z at *
      simp [tri] at ta tb td
      rcases ta with (rfl | rfl) | rfl <;> rcases tb with (rfl | rfl) | rfl <;> rcases td with (rfl | rfl) | rfl <;> simp_all
    constructor
    · rintro ⟨h1, h2⟩ k hk
      exact (key k hk).1 ⟨h1 k hk, h2 k hk⟩
    · intro h
      exact ⟨fun k hk => ((key k hk).2 (h k hk)).1, fun k hk => ((key k hk).2 (h k hk)).2⟩

theorem text_xx (w : World) : Calls Tryz.prog 37 #[cubeV (allT 2)] w fun e w' => e = .returned (.string ⟨#[120, 120]⟩) ∧ Below w.heap.size w w' :=
  text_any (allT 2) w (good_allT 2)

end Go.Proofs.YtekjbpemaohipaaGreatDoor
namespace Go.Proofs.YtekjbpemaohipaaGreatDoor

theorem fitB_ne {a b : List UInt8} (h : fitB a b = true) : a ≠ [] := by
  intro e; subst e; simp [fitB] at h

theorem wi_hu (a b z : List UInt8) (ha : a ≠ []) (hl : a.length = b.length) (hl2 : a.length = z.length) : wiB (huT a b) z = (wiB a z && wiB b z) := by
  have hb : b ≠ [] := by
    intro e; subst e; exact ha (List.eq_nil_of_length_eq_zero hl)
  have hlh := huT_len a b hl
  have hh : huT a b ≠ [] := by
    intro e; rw [e] at hlh; exact ha (List.eq_nil_of_length_eq_zero hlh.symm)
  rw [wiB_eq, wiB_eq, wiB_eq, fit_of ha hl2, fit_of hb (by omega), fit_of hh (by omega), Bool.true_and, Bool.true_and, Bool.true_and, hlh, ← hl]
  have key : ∀ k, k < a.length → inK (huT a b) z k = (inK a z k && inK b z k) := by
    intro k hk
    have kb : k < b.length := by omega
    have kz : k < z.length := by omega
    simp only [inK, huT_get a b hl k hk, List.getElem?_eq_getElem hk, List.getElem?_eq_getElem kb, List.getElem?_eq_getElem kz]
    generalize a[k] = x
    generalize b[k] = y
    generalize z[k] = v
    by_cases e : x = y
    · subst e; simp
    · by_cases e2 : v = 120
      · subst e2; simp
      · have e3 : ((120 : UInt8) == v) = false := by simpa using fun h => e2 h.symm
        have e4 : (v == 120) = false := by simpa using e2
        have e5 : (x == y) = false := by simpa using e
        rw [e4, e5, Bool.false_or, Bool.false_or, Bool.false_or]
        show ((120 : UInt8) == v) = _
        rw [e3]
        cases h1 : (x == v)
        · rfl
        · cases h2 : (y == v)
          · rfl
          · exact absurd ((eq_of_beq h1).trans (eq_of_beq h2).symm) e
  rw [Bool.eq_iff_iff, Bool.and_eq_true, allTo_iff, allTo_iff, allTo_iff]
  constructor
  · intro h
    refine ⟨fun k hk => ?_, fun k hk => ?_⟩
    · have := h k hk; rw [key k hk, Bool.and_eq_true] at this; exact this.1
    · have := h k hk; rw [key k hk, Bool.and_eq_true] at this; exact this.2
  · rintro ⟨h1, h2⟩ k hk
    rw [key k hk, h1 k hk, h2 k hk]; rfl

/-- the hull lies in z just if all of them do -/
theorem hul_wi (F : List UInt8) (L : List (List UInt8)) (H z : List UInt8) (hF : F ≠ []) (h : hulA F L = some H) (hl : F.length = z.length) :
    wiB H z = (wiB F z && L.all (fun x => wiB x z)) := by
  induction L generalizing F with
  | nil =>
    obtain rfl : F = H := Option.some.inj h
    simp
  | cons d l ih =>
    have h' : (if fitB F d = true then hulA (huT F d) l else none) = some H := h
    cases hf : fitB F d
    · rw [hf] at h'; cases h'
    · rw [if_pos hf] at h'
      have hld := fitB_len hf
      have hlh := huT_len F d hld
      have hh : huT F d ≠ [] := by
        intro e; rw [e] at hlh; exact hF (List.eq_nil_of_length_eq_zero hlh.symm)
      rw [ih (huT F d) hh h' (by omega), wi_hu F d z hF hld hl, List.all_cons, Bool.and_assoc]

theorem hul_len (F : List UInt8) (L : List (List UInt8)) (H : List UInt8) (h : hulA F L = some H) : H.length = F.length := by
  induction L generalizing F with
  | nil =>
    obtain rfl : F = H := Option.some.inj h
    rfl
  | cons d l ih =>
    have h' : (if fitB F d = true then hulA (huT F d) l else none) = some H := h
    cases hf : fitB F d
    · rw [hf] at h'; cases h'
    · rw [if_pos hf] at h'
      rw [ih (huT F d) h', huT_len F d (fitB_len hf)]

theorem hul_good (F : List UInt8) (L : List (List UInt8)) (H : List UInt8) (h : hulA F L = some H) (gF : good F = true) (gL : ∀ x ∈ L, good x = true) : good H = true := by
  induction L generalizing F with
  | nil =>
    obtain rfl : F = H := Option.some.inj h
    exact gF
  | cons d l ih =>
    have h' : (if fitB F d = true then hulA (huT F d) l else none) = some H := h
    cases hf : fitB F d
    · rw [hf] at h'; cases h'
    · rw [if_pos hf] at h'
      exact ih (huT F d) h' (good_huT F d gF (gL d (by simp))) (fun x hx => gL x (by simp [hx]))

theorem hul_fits (F : List UInt8) (L : List (List UInt8)) (hF : F ≠ []) (hL : ∀ x ∈ L, x.length = F.length) : ∃ H, hulA F L = some H := by
  induction L generalizing F with
  | nil => exact ⟨F, rfl⟩
  | cons d l ih =>
    have hld : F.length = d.length := (hL d (by simp)).symm
    have hf : fitB F d = true := fit_of hF hld
    have hlh := huT_len F d hld
    have hh : huT F d ≠ [] := by
      intro e; rw [e] at hlh; exact hF (List.eq_nil_of_length_eq_zero hlh.symm)
    obtain ⟨H, hH⟩ := ih (huT F d) hh (fun x hx => by rw [hL x (by simp [hx]), hlh])
    exact ⟨H, by show (if fitB F d = true then hulA (huT F d) l else none) = _; rw [if_pos hf]; exact hH⟩

/-- it holds all, and lies in every cube that does -/
theorem hul_least (F : List UInt8) (L : List (List UInt8)) (H : List UInt8) (hF : F ≠ []) (h : hulA F L = some H) : wiB F H = true ∧ ∀ x ∈ L, wiB x H = true := by
  have hl := hul_len F L H h
  have hH : H ≠ [] := by
    intro e; rw [e] at hl; exact hF (List.eq_nil_of_length_eq_zero hl.symm)
  have := hul_wi F L H H hF h hl.symm
  rw [wi_refl H hH, eq_comm, Bool.and_eq_true, List.all_eq_true] at this
  exact this
end Go.Proofs.YtekjbpemaohipaaGreatDoor
namespace Go.Proofs.YtekjbpemaohipaaGreatDoor
open Go.RowKit

/-- the digit of the hull at a place, one cube behind the other -/
def hdg (i : Nat) (d : UInt8) (L : List (List UInt8)) : UInt8 := L.foldl (fun d x => if x.getD i 0 == d then d else 120) d
theorem hdg_snoc (i : Nat) (d : UInt8) (L : List (List UInt8)) (k : Nat) (hk : k < L.length) : hdg i d (L.take (k + 1)) = if L[k].getD i 0 == hdg i d (L.take k) then hdg i d (L.take k) else 120 := by
  rw [List.take_add_one, List.getElem?_eq_getElem hk]
  show (L.take k ++ [L[k]]).foldl _ d = _
  rw [List.foldl_append]
  rfl
theorem hul_get (F : List UInt8) (L : List (List UInt8)) (H : List UInt8) (h : hulA F L = some H) (i : Nat) (hi : i < F.length) : H[i]? = some (hdg i F[i] L) := by
  induction L generalizing F with
  | nil =>
    obtain rfl : F = H := Option.some.inj h
    exact List.getElem?_eq_getElem hi
  | cons d l ih =>
    have h' : (if fitB F d = true then hulA (huT F d) l else none) = some H := h
    cases hf : fitB F d
    · rw [hf] at h'; cases h'
    · rw [if_pos hf] at h'
      have hld := fitB_len hf
      have hi2 : i < (huT F d).length := by rw [huT_len F d hld]; exact hi
      rw [ih (huT F d) h' hi2]
      have hg := huT_get F d hld i hi
      rw [List.getElem?_eq_getElem hi2] at hg
      rw [Option.some.inj hg]
      show some (hdg i _ l) = some (hdg i (if d.getD i 0 == F[i] then F[i] else 120) l)
      have hd : d.getD i 0 = d[i]'(by omega) := by simp [List.getElem?_eq_getElem (show i < d.length by omega)]
      rw [hd]
      congr 2
      by_cases e : F[i] = d[i]'(by omega)
      · rw [e]
      · have e2 : ¬ (d[i]'(by omega)) = F[i] := fun x => e x.symm
        simp [e, e2]
theorem hul_lens (F : List UInt8) (L : List (List UInt8)) (H : List UInt8) (h : hulA F L = some H) : ∀ x ∈ L, x.length = F.length := by
  induction L generalizing F with
  | nil => intro x hx; simp at hx
  | cons d l ih =>
    have h' : (if fitB F d = true then hulA (huT F d) l else none) = some H := h
    cases hf : fitB F d
    · rw [hf] at h'; cases h'
    · rw [if_pos hf] at h'
      have hld := fitB_len hf
      intro x hx
      rcases List.mem_cons.1 hx with rfl | hx
      · exact hld.symm
      · rw [ih _ h' x hx, huT_len F d hld]

theorem hulF_none (F : List UInt8) (L : List (List UInt8)) (x : List UInt8) (hx : x ∈ F :: L) (h : fitB x F = false) : hulF F L = none := by
  unfold hulF
  split
  · rfl
  · rename_i hF
    cases hA : hulA F L with
    | none => rfl
    | some H =>
      exfalso
      have hlen : x.length = F.length := by
        rcases List.mem_cons.1 hx with rfl | hx
        · rfl
        · exact hul_lens F L H hA x hx
      have hxe : x ≠ [] := by
        intro e
        rw [e] at hlen
        exact hF (List.eq_nil_of_length_eq_zero hlen.symm)
      rw [fit_of hxe hlen] at h
      cases h
theorem hulF_some (F : List UInt8) (L : List (List UInt8)) (h : ∀ x ∈ F :: L, fitB x F = true) : ∃ H, hulF F L = some H ∧ F ≠ [] ∧ H.length = F.length ∧ ∀ i, i < F.length → H[i]? = some (hdg i (F.getD i 0) (F :: L)) := by
  have hF : F ≠ [] := fitB_ne (h F (by simp))
  obtain ⟨H, hH⟩ := hul_fits F L hF (fun x hx => fitB_len (h x (by simp [hx])))
  refine ⟨H, ?_, hF, hul_len F L H hH, fun i hi => ?_⟩
  · unfold hulF; rw [if_neg hF]; exact hH
  · rw [hul_get F L H hH i hi]
    have hd : F.getD i 0 = F[i] := by simp [List.getElem?_eq_getElem hi]
    show some (hdg i F[i] L) = some (hdg i (if F.getD i 0 == F.getD i 0 then F.getD i 0 else 120) L)
    rw [hd]
    simp

/-- texts as strings -/
def stx (l : List (List UInt8)) : List Value := l.map (fun t => .string ⟨t.toArray⟩)
theorem stx_snoc (l : List (List UInt8)) (t : List UInt8) : stx (l ++ [t]) = stx l ++ [.string ⟨t.toArray⟩] := by simp [stx]
theorem stx_at {W : World} {B g cap k : Nat} {L : List (List UInt8)} {P : List UInt8} (hown : W.ownsRow B 9 1 (.slice (some ⟨g, 0, none⟩) L.length cap) L.length (stx L)) (hk : k < L.length) (hP : L[k] = P) :
    W.cell? ⟨g, k, none⟩ = some (.string ⟨P.toArray⟩) := by
  rw [hown.cellAt k (by omega)]
  simp [stx, List.getElem?_eq_getElem hk, hP]
/-- what the reference's Hull answers -/
def hulR : Option (List UInt8) → Value
  | some H => .tuple #[.string ⟨H.toArray⟩, .int .i64 0]
  | none => .tuple #[.string ⟨#[]⟩, .int .i64 11]
end Go.Proofs.YtekjbpemaohipaaGreatDoor
namespace Go.Proofs.YtekjbpemaohipaaGreatDoor
open Go.RowKit
theorem byte_bne (x : UInt8) (n : Nat) (hn : n < 256) : ((x.toNat : Int) != (n : Int)) = !(x == UInt8.ofNat n) := by
  unfold bne
  congr 1
  rw [Bool.eq_iff_iff, beq_iff_eq, beq_iff_eq]
  constructor
  · intro h
    have h1 : x.toNat = n := by omega
    rw [← h1]
    simp
  · rintro rfl
    simp
    omega
theorem byte_bne2 (x y : UInt8) : ((x.toNat : Int) != (y.toNat : Int)) = !(x == y) := by
  unfold bne
  congr 1
  rw [Bool.eq_iff_iff, beq_iff_eq, beq_iff_eq]
  constructor
  · intro h
    exact UInt8.toNat_inj.1 (by omega)
  · rintro rfl
    rfl
theorem cfl_str (a b : ByteArray) (k : Nat) (ha : k < a.size) (hb : k < b.size) (ga : good a.data.toList = true) (gb : good b.data.toList = true) (p1 p2 p3 : Bool) (n1 : ((a[k].toNat : Int) != 120) = p1) (n2 : ((b[k].toNat : Int) != 120) = p2) (n3 : ((b[k].toNat : Int) != (a[k].toNat : Int)) = p3) :
    cfl a.data.toList b.data.toList k = (p1 && p2 && p3) := by
  have f1 : ((a[k].toNat : Int) != 120) = !(a[k] == 120) := byte_bne a[k] 120 (by decide)
  have f2 : ((b[k].toNat : Int) != 120) = !(b[k] == 120) := byte_bne b[k] 120 (by decide)
  have f3 := byte_bne2 b[k] a[k]
  have f4 : (b[k] == a[k]) = (a[k] == b[k]) := by rw [Bool.eq_iff_iff, beq_iff_eq, beq_iff_eq]; exact eq_comm
  have la : k < a.data.toList.length := by simpa using ha
  have lb : k < b.data.toList.length := by simpa using hb
  rw [cfl_bytes _ _ k la lb (good_tri ga k la) (good_tri gb k lb), byte_at a k ha, byte_at b k hb, ← n1, ← n2, ← n3, f1, f2, f3, f4]
theorem cfl_succ {a b : List UInt8} {k : Nat} (h : ∀ j, j < k → cfl a b j = false) (hk : cfl a b k = false) : ∀ j, j < k + 1 → cfl a b j = false := by
  intro j hj
  by_cases e : j = k
  · subst e; exact hk
  · exact h j (by omega)
theorem ok_succ {p : Nat → Bool} {k : Nat} (h : ∀ j, j < k → p j = true) (hk : p k = true) : ∀ j, j < k + 1 → p j = true := by
  intro j hj
  by_cases e : j = k
  · subst e; exact hk
  · exact h j (by omega)
theorem inK_str (a b : ByteArray) (k : Nat) (ha : k < a.size) (hb : k < b.size) (p2 p3 : Bool) (n2 : ((b[k].toNat : Int) != 120) = p2) (n3 : ((b[k].toNat : Int) != (a[k].toNat : Int)) = p3) :
    (match a.data.toList[k]?, b.data.toList[k]? with | some x, some y => y == 120 || x == y | _, _ => true) = !(p2 && p3) := by
  have f2 : ((b[k].toNat : Int) != 120) = !(b[k] == 120) := byte_bne b[k] 120 (by decide)
  have f3 := byte_bne2 b[k] a[k]
  have f4 : (b[k] == a[k]) = (a[k] == b[k]) := by rw [Bool.eq_iff_iff, beq_iff_eq, beq_iff_eq]; exact eq_comm
  have la : a.data.toList[k]? = some a[k] := by rw [List.getElem?_eq_getElem (by simpa using ha)]; rfl
  have lb : b.data.toList[k]? = some b[k] := by rw [List.getElem?_eq_getElem (by simpa using hb)]; rfl
  simp only [la, lb]
  rw [← n2, ← n3, f2, f3, f4]
  cases (b[k] == 120) <;> cases (a[k] == b[k]) <;> rfl
theorem fit_no {a b : ByteArray} (h : fitB a.data.toList b.data.toList = false) : ((a.size : Int) != (b.size : Int)) = true ∨ (((a.size : Int) != (b.size : Int)) = false ∧ ((a.size : Int) == 0) = true) := by
  by_cases e : a.size = b.size
  · right
    have h0 : a.size = 0 := by
      unfold fitB at h
      simp at h
      by_cases e0 : a.size = 0
      · exact e0
      · exact absurd e (h (by
          intro e1
          exact e0 (by rw [show a.size = a.data.size from rfl, e1]; rfl)))
    exact ⟨by rw [e]; simp, by rw [h0]; rfl⟩
  · left
    rw [bne_iff_ne]
    omega
theorem fit_yes {a b : ByteArray} (h : fitB a.data.toList b.data.toList = true) : ((a.size : Int) != (b.size : Int)) = false ∧ ((a.size : Int) == 0) = false ∧ a.size = b.size := by
  have e : a.size = b.size := by simpa using fitB_len h
  refine ⟨by rw [e]; simp, ?_, e⟩
  rw [beq_eq_false_iff_ne]
  intro h0
  have h1 : a.data.toList = [] := by
    apply List.eq_nil_of_length_eq_zero
    have : a.data.toList.length = a.size := by simp
    omega
  rw [h1] at h
  simp [fitB] at h
theorem row_snoc {X : World} {B g cap k n : Nat} {T : List UInt8} {x : UInt8} (hk : k < T.length) (hx : T[k] = x) (h : X.ownsRow B 5 1 (.slice (some ⟨g, 0, none⟩) n cap) n ((rowAt T k).set k (.int .u8 (x.toNat : Int)))) : X.ownsRow B 5 1 (.slice (some ⟨g, 0, none⟩) n cap) n (rowAt T (k + 1)) := by
  rw [← rowAt_succ T k hk, hx]
  exact h
end Go.Proofs.YtekjbpemaohipaaGreatDoor
namespace Go.Proofs.YtekjbpemaohipaaGreatDoor
open Go.RowKit
/-- the header's bytes stand at gh, with z behind them -/
def hdr (W : World) (gh : Nat) (z : List Value) (h : List UInt8) : Prop := W.heap[gh]? = some (.cells (bys h ++ z).toArray 5 (h.length + z.length, h.length + z.length + 1))
theorem bys_len (h : List UInt8) : (bys h).length = h.length := by simp [bys]
theorem hdr_cell {W : World} {gh j : Nat} {z : List Value} {h : List UInt8} (hh : hdr W gh z h) (hj : j < h.length) : W.cell? ⟨gh, j, none⟩ = some (.int .u8 (h[j].toNat : Int)) := by
  unfold hdr at hh
  rw [cell_of_row W gh j _ _ _ hh]
  simp [bys, List.getElem?_append_left, hj]
theorem hdr_frozen {W : World} {gh j : Nat} {z : List Value} {h : List UInt8} (hh : hdr W gh z h) (hj : j < h.length) : W.frozen? ⟨gh, j, none⟩ = false := by
  unfold hdr at hh
  simp [World.frozen?, hh]
  omega
theorem hdr_set {W : World} {gh p : Nat} {z : List Value} {h : List UInt8} (x : UInt8) (hh : hdr W gh z h) (hp : p < h.length) : hdr (W.setCell ⟨gh, p, none⟩ (.int .u8 (x.toNat : Int))) gh z (h.set p x) := by
  have e : (bys h ++ z).toArray.setIfInBounds p (.int .u8 (x.toNat : Int)) = (bys (h.set p x) ++ z).toArray := by
    have := List.set_append_left (s := bys h) (t := z) (i := p) (x := Value.int .u8 (x.toNat : Int)) (by rw [bys_len]; exact hp)
    rw [List.setIfInBounds_toArray, this]
    simp [bys, List.map_set]
  have := set_get (j := p) (.int .u8 (x.toNat : Int)) hh
  rw [e] at this
  unfold hdr
  simpa using this
theorem hdr_alloc {W : World} {gh : Nat} {z : List Value} {h : List UInt8} (hh : hdr W gh z h) (o : Obj) : hdr (W.alloc o) gh z h := allocblk hh o
theorem hdr_new (w : World) (t : List UInt8) : hdr (Lib.bytesWorld w 5 ⟨t.toArray⟩) w.heap.size (List.replicate (grownCap w t.length 0 5 - t.length) (Value.int .u8 0)) t := by
  have h := Lib.bytesWorld_at_new w 5 ⟨t.toArray⟩
  have hz : (⟨t.toArray⟩ : ByteArray).size = t.length := by show t.toArray.size = _; simp
  have e : Lib.bytesCells w 5 ⟨t.toArray⟩ = (bys t ++ List.replicate (grownCap w t.length 0 5 - t.length) (Value.int .u8 0)).toArray := by
    unfold Lib.bytesCells
    rw [hz]
    simp [bys]
  unfold hdr
  rw [h, e]
  simp [bys_len]
theorem bel_bytes (w : World) (s : ByteArray) : Below w.heap.size w (Lib.bytesWorld w 5 s) := by
  have hb0 := ((Below.refl w.heap.size w).drew).alloc (Nat.le_refl _) (.cells (Lib.bytesCells w 5 s) 5)
  refine ⟨?_, ?_, ?_, ?_, fun k hk => Lib.bytesWorld_at_old w 5 s k hk⟩
  · simp only [Lib.bytesWorld, World.freeze]; exact hb0.os
  · simp only [Lib.bytesWorld, World.freeze]; exact hb0.tape
  · simp only [Lib.bytesWorld, World.freeze]; exact hb0.output
  · rw [Lib.bytesWorld_size]; omega
theorem cfl_str2 (a b : ByteArray) (k : Nat) (ha : k < a.size) (hb : k < b.size) (ga : good a.data.toList = true) (gb : good b.data.toList = true) (p1 p2 p3 : Bool) (n1 : ((a[k].toNat : Int) != 120) = p1) (n2 : ((b[k].toNat : Int) != 120) = p2) (n3 : ((a[k].toNat : Int) != (b[k].toNat : Int)) = p3) :
    cfl a.data.toList b.data.toList k = (p1 && p2 && p3) := by
  refine cfl_str a b k ha hb ga gb p1 p2 p3 n1 n2 ?_
  rw [← n3, byte_bne2, byte_bne2]
  congr 1
  rw [Bool.eq_iff_iff, beq_iff_eq, beq_iff_eq]
  exact eq_comm
/-- the bytes behind k rounds -/
def bxk (T a : List UInt8) (k : Nat) : List UInt8 := T.take k ++ a.drop k
theorem bxk_zero (T a : List UInt8) : bxk T a 0 = a := by simp [bxk]
theorem bxk_all (T a : List UInt8) (h : T.length = a.length) : bxk T a a.length = T := by
  unfold bxk
  rw [← h, List.take_length, h, List.drop_length, List.append_nil]
theorem bxk_len (T a : List UInt8) (h : T.length = a.length) (k : Nat) (hk : k ≤ a.length) : (bxk T a k).length = a.length := by
  unfold bxk
  rw [List.length_append, List.length_take, List.length_drop]
  omega
theorem bxk_succ (T a : List UInt8) (h : T.length = a.length) (k : Nat) (hk : k < a.length) : bxk T a (k + 1) = (bxk T a k).set k (T[k]'(by omega)) := by
  have ht : k < T.length := by omega
  have h2 : (T.take k).length = k := by rw [List.length_take]; omega
  unfold bxk
  have e := List.set_append_right (s := T.take k) (t := a.drop k) (i := k) (x := T[k]) (by omega)
  rw [e, h2, Nat.sub_self, List.take_add_one, List.getElem?_eq_getElem ht, List.drop_eq_getElem_cons hk, List.append_assoc]
  rfl
theorem bxk_keep (T a : List UInt8) (h : T.length = a.length) (k : Nat) (hk : k < a.length) (e : T[k]'(by omega) = a[k]) : bxk T a (k + 1) = bxk T a k := by
  have ht : k < T.length := by omega
  unfold bxk
  rw [List.take_add_one, List.getElem?_eq_getElem ht, List.drop_eq_getElem_cons hk, e]
  simp
end Go.Proofs.YtekjbpemaohipaaGreatDoor
namespace Go.Proofs.YtekjbpemaohipaaGreatDoor
open Go.RowKit
theorem info_strE : (Tryz.prog.info? 9).map (fun i => (i.zero, i.size, i.bytes)) = some (some (.string ⟨#[]⟩), 1, 16) := by kernel_rfl
theorem rs_bxk (a b : List UInt8) (k : Nat) : rsT a b k = bxk (meetT a b) a k := by
  unfold rsT bxk meetT
  rw [List.take_zipWith]
theorem notU {W : World} {B g n : Nat} {e e2 : TypeId} {sz : Nat} {v : Value} {xs : List Value} {cs : Array Value} {m : Nat × Nat} (h : W.ownsRow B e sz v n xs) (hk : W.heap[g]? = some (.cells cs e2 m)) (hne : e ≠ e2) : v.ownBlock ≠ some g := by
  intro hb
  rcases h.2 with ⟨rfl, _⟩ | ⟨g2, c2, cur2, rfl, _, hg2, _⟩
  · cases hb
  · have : g2 = g := by injection hb
    subst this
    rw [hk] at hg2
    injection hg2 with h
    injection h with _ h _
    exact hne h.symm
theorem hdr_grown {W W2 : World} {gh : Nat} {z : List Value} {h : List UInt8} {row : Option Nat} (hh : hdr W gh z h) (hg : W.grownBy W2 row) (hne : row ≠ some gh) : hdr W2 gh z h := by
  unfold hdr at hh ⊢
  exact (hg.block gh (lt_of_get3 hh) (fun e => hne e.symm)).trans hh
theorem pcs_skipE (a b : List UInt8) (k : Nat) (h : qual a b k = false) : pcs a b (k + 1) = pcs a b k := by
  refine pcs_skip a b k (k + 1) (by omega) ?_
  intro j h1 h2
  obtain rfl : j = k := by omega
  exact h
theorem stx_snocE (l : List (List UInt8)) (t : List UInt8) : stx (l ++ [t]) = stx l ++ [.string ⟨t.toArray⟩] := by simp [stx]
theorem hdr_bel {W W2 : World} {gh : Nat} {z : List Value} {h : List UInt8} (hh : hdr W gh z h) (hb : Below W.heap.size W W2) : hdr W2 gh z h := keepblk3 hb hh
end Go.Proofs.YtekjbpemaohipaaGreatDoor
namespace Go.Proofs
open Go.Shelf
def Tryz.l106_ren : Go.Shelf.Ren := ⟨fun | 106 => 81 | 213 => 101 | 265 => 121 | n => n, fun | 9 => 9 | 3 => 3 | n => n, fun | n => n⟩
theorem Tryz.l106 : Go.Proofs.Lays.n106 Tryz.prog Tryz.l106_ren := {
  mixed := by kernel_rfl
  f106 := Tryz.func81.trans (congrArg some (by kernel_rfl))
  f213 := Tryz.func101.trans (congrArg some (by kernel_rfl))
  f265 := Tryz.func121.trans (congrArg some (by kernel_rfl))
  t3 := Tryz.underlying3
  a3 := Tryz.isAgg3
  z3 := Tryz.sizeOf3
  v3 := Tryz.zeroValue3
  t9 := Tryz.underlying9
  a9 := Tryz.isAgg9
  z9 := Tryz.sizeOf9
  v9 := Tryz.zeroValue9 }
end Go.Proofs

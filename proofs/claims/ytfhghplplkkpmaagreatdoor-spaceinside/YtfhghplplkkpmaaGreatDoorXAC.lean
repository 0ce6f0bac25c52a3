import Derived.Test.YtfhghplplkkpmaaGreatDoorXAB
import Derived.Test.YtfhghplplkkpmaaGreatDoorXAA
import Derived.RegionTactic
import Derived.LoopN
import Derived.Laws.BytesArg
import Derived.Deep.RegionWith
namespace Go.Proofs.YtfhghplplkkpmaaGreatDoor
open Go.RowKit

theorem alloc_get2 (w : World) (o1 o2 o3 : Obj) : (((w.alloc o1).alloc o2).alloc o3).heap[w.heap.size + 2]? = some o3 := by
  have := alloc_get ((w.alloc o1).alloc o2) o3
  simpa using this

set_option maxHeartbeats 400000 in
theorem fits_any (a b : List UInt8) (w : World) : Calls Tryz.prog 47 #[cubeV a, cubeV b] w fun e w' => e = .returned (.bool (fitB a b)) ∧ Below w.heap.size w w' := by
  have hfin : Hid (fitB a b = (((a.length : Int) != 0) && ((a.length : Int) == (b.length : Int)))) := by
    unfold Hid fitB
    cases a with
    | nil => simp
    | cons x l =>
      rw [Bool.eq_iff_iff]
      simp
      omega
  unfold cubeV cv
  cases h0 : ((a.length : Int) != 0)
  all_goals
    go_enter Tryz.func47, Tryz.ntmps47
    go_wp2
    go_ret
    refine ⟨?_, ((Below.refl _ _).alloc (Nat.le_refl _) _).alloc (by simp) _⟩
    rw [hfin.out, h0]
    rfl

theorem fits_D (a b : List UInt8) (q : Bool) (w : World) (h : fitB a b = q) : Calls Tryz.prog 47 #[cubeV a, cubeV b] w fun e w' => e = .returned (.bool q) ∧ Below w.heap.size w w' := by
  subst h; exact fits_any a b w

set_option maxHeartbeats 1000000 in
theorem agrees_walk (a b : List UInt8) (q q0 q1 q2 q3 : Bool) (w : World) (hq0 : fitB a b = q) (h0 : cw a b 0 = q0) (h1 : cw a b 1 = q1) (h2 : cw a b 2 = q2) (h3 : cw a b 3 = q3) :
    Calls Tryz.prog 76 #[cubeV a, cubeV b] w fun e w' => e = .returned (.bool (q && (!q0 && !q1 && !q2 && !q3))) ∧ Below w.heap.size w w' := by
  have hq : Hid (fitB a b = q) := hq0
  clear hq0
  unfold cw at h0 h1 h2 h3
  unfold cubeV cv
  cases q
  · go_enter Tryz.func76, Tryz.ntmps76
    go_wp2_with (go_at_call 47; refine (fits_D a b false _ hq.out).mono ?_; rintro e w1 ⟨rfl, hb1⟩)
    go_ret
    exact ⟨rfl, bel1 (bel1 hb1)⟩
  · go_enter Tryz.func76, Tryz.ntmps76
    go_wp2_with (go_at_call 47; refine (fits_D a b true _ hq.out).mono ?_; rintro e w1 ⟨rfl, hb1⟩; obtain ⟨hc1, hf1⟩ := bcell hb1)
    refine wp_loop_rounds 5 ?_
    rw [rounds_succ]
    go_wp2
    go_quiet (fail)
    cases q0
    rotate_left
    · go_wp2
      go_ret
      exact ⟨rfl, by first | exact (bel1 (bel1 hb1)).trans (below_drewN _ _ _) | exact ((bel1 (bel1 hb1)).trans (below_drewN _ _ _)).trans (below_drewN _ _ _)⟩
    go_wp2
    rw [rounds_succ]
    go_wp2
    go_quiet (fail)
    cases q1
    rotate_left
    · go_wp2
      go_ret
      exact ⟨rfl, by first | exact (bel1 (bel1 hb1)).trans (below_drewN _ _ _) | exact ((bel1 (bel1 hb1)).trans (below_drewN _ _ _)).trans (below_drewN _ _ _)⟩
    go_wp2
    rw [rounds_succ]
    go_wp2
    go_quiet (fail)
    cases q2
    rotate_left
    · go_wp2
      go_ret
      exact ⟨rfl, by first | exact (bel1 (bel1 hb1)).trans (below_drewN _ _ _) | exact ((bel1 (bel1 hb1)).trans (below_drewN _ _ _)).trans (below_drewN _ _ _)⟩
    go_wp2
    rw [rounds_succ]
    go_wp2
    go_quiet (fail)
    cases q3
    rotate_left
    · go_wp2
      go_ret
      exact ⟨rfl, by first | exact (bel1 (bel1 hb1)).trans (below_drewN _ _ _) | exact ((bel1 (bel1 hb1)).trans (below_drewN _ _ _)).trans (below_drewN _ _ _)⟩
    go_wp2
    rw [rounds_succ]
    go_wp2
    go_ret
    exact ⟨rfl, (bel1 (bel1 hb1)).trans (below_drewN _ _ _)⟩

theorem agrees_any (a b : List UInt8) (w : World) (ha : good a = true) : Calls Tryz.prog 76 #[cubeV a, cubeV b] w fun e w' => e = .returned (.bool (agB a b)) ∧ Below w.heap.size w w' := by
  refine (agrees_walk a b _ _ _ _ _ w rfl rfl rfl rfl rfl).mono ?_
  rintro e w' ⟨rfl, hb⟩
  exact ⟨by unfold agB; rw [ag_words a b ha], hb⟩

theorem agrees_D (a b : List UInt8) (q : Bool) (w : World) (ha : good a = true) (h : agB a b = q) : Calls Tryz.prog 76 #[cubeV a, cubeV b] w fun e w' => e = .returned (.bool q) ∧ Below w.heap.size w w' := by
  subst h; exact agrees_any a b w ha

set_option maxHeartbeats 400000 in
theorem meet_no (a b : List UInt8) (w : World) (ha : good a = true) (hq0 : agB a b = false) :
    Calls Tryz.prog 56 #[cubeV a, cubeV b] w fun e w' => e = .returned (.tuple #[cubeV [], .bool false]) ∧ Below w.heap.size w w' := by
  have hq : Hid (agB a b = false) := hq0
  clear hq0
  rw [cubeV_nil]
  unfold cubeV cv
  go_enter Tryz.func56, Tryz.ntmps56
  go_wp2_with (go_at_call 76; refine (agrees_D a b false _ ha hq.out).mono ?_; rintro e w1 ⟨rfl, hb1⟩; obtain ⟨hc1, hf1⟩ := bcell hb1)
  have hk : w1.heap[w.heap.size + 2]? = some (.cells #[.int .i64 0, .int .u64 0, .int .u64 0, .int .u64 0, .int .u64 0, .int .u64 0, .int .u64 0, .int .u64 0, .int .u64 0] 40 (0, 0)) := by
    rw [hb1.block _ (by simp)]
    exact alloc_get2 _ _ _ _
  refine bodyPost_ret (v := .tuple #[cv 0 0 0 0 0 0 0 0 0, .bool false]) ?_ rfl ⟨rfl, ?_⟩
  · exact res_cube2 _ _ (w.heap.size + 2) _ _ _ _ _ _ _ _ _ Tryz.results56 rfl (put9_get _ _ _ _ _ _ _ _ _ hk)
  · exact put9_below _ _ _ _ _ _ _ _ _ (bel1 (bel1 (bel1 hb1))) (by omega)
end Go.Proofs.YtfhghplplkkpmaaGreatDoor
namespace Go.Proofs.YtfhghplplkkpmaaGreatDoor
open Go.RowKit

/-- word j behind k rounds -/
def mxi (k j : Nat) (x y : Int) : Int := if j < k then y else x

theorem set2_0 {W : World} {b T : Nat} {m : Nat × Nat} {x0 x1 x2 x3 x4 x5 x6 x7 x8 : Value} (u v : Value) (h : W.heap[b]? = some (.cells #[x0, x1, x2, x3, x4, x5, x6, x7, x8] T m)) :
    ((W.setCell ⟨b, 1, none⟩ u).setCell ⟨b, 5, none⟩ v).heap[b]? = some (.cells #[x0, u, x2, x3, x4, v, x6, x7, x8] T m) := by
  have h0 := set_get (j := 1) u h
  have h1 := set_get (j := 5) v h0
  rw [h1]; simp

theorem set2_1 {W : World} {b T : Nat} {m : Nat × Nat} {x0 x1 x2 x3 x4 x5 x6 x7 x8 : Value} (u v : Value) (h : W.heap[b]? = some (.cells #[x0, x1, x2, x3, x4, x5, x6, x7, x8] T m)) :
    ((W.setCell ⟨b, 2, none⟩ u).setCell ⟨b, 6, none⟩ v).heap[b]? = some (.cells #[x0, x1, u, x3, x4, x5, v, x7, x8] T m) := by
  have h0 := set_get (j := 2) u h
  have h1 := set_get (j := 6) v h0
  rw [h1]; simp

theorem set2_2 {W : World} {b T : Nat} {m : Nat × Nat} {x0 x1 x2 x3 x4 x5 x6 x7 x8 : Value} (u v : Value) (h : W.heap[b]? = some (.cells #[x0, x1, x2, x3, x4, x5, x6, x7, x8] T m)) :
    ((W.setCell ⟨b, 3, none⟩ u).setCell ⟨b, 7, none⟩ v).heap[b]? = some (.cells #[x0, x1, x2, u, x4, x5, x6, v, x8] T m) := by
  have h0 := set_get (j := 3) u h
  have h1 := set_get (j := 7) v h0
  rw [h1]; simp

theorem set2_3 {W : World} {b T : Nat} {m : Nat × Nat} {x0 x1 x2 x3 x4 x5 x6 x7 x8 : Value} (u v : Value) (h : W.heap[b]? = some (.cells #[x0, x1, x2, x3, x4, x5, x6, x7, x8] T m)) :
    ((W.setCell ⟨b, 4, none⟩ u).setCell ⟨b, 8, none⟩ v).heap[b]? = some (.cells #[x0, x1, x2, x3, u, x5, x6, x7, v] T m) := by
  have h0 := set_get (j := 4) u h
  have h1 := set_get (j := 8) v h0
  rw [h1]; simp

theorem set2_ne {W : World} {a1 a2 : Addr} {c : Nat} {o : Obj} (u v : Value) (h1 : c ≠ a1.block) (h2 : c ≠ a2.block) (h : W.heap[c]? = some o) : ((W.setCell a1 u).setCell a2 v).heap[c]? = some o := by
  rw [Below.heap_setCell _ _ _ _ h2, Below.heap_setCell _ _ _ _ h1]; exact h

theorem alloc3_0 (w : World) (o1 o2 o3 : Obj) : (((w.alloc o1).alloc o2).alloc o3).heap[w.heap.size]? = some o1 := by
  rw [Below.heap_alloc _ _ _ (by simp; omega), Below.heap_alloc _ _ _ (by simp)]
  exact alloc_get _ _
theorem alloc3_1 (w : World) (o1 o2 o3 : Obj) : (((w.alloc o1).alloc o2).alloc o3).heap[w.heap.size + 1]? = some o2 := by
  rw [Below.heap_alloc _ _ _ (by simp)]
  have := alloc_get (w.alloc o1) o2
  simpa using this

set_option maxHeartbeats 1000000 in
theorem common_raw (n f0 f1 f2 f3 o0 o1 o2 o3 m g0 g1 g2 g3 p0 p1 p2 p3 : Int) (w : World) :
    Calls Tryz.prog 77 #[cv n f0 f1 f2 f3 o0 o1 o2 o3, cv m g0 g1 g2 g3 p0 p1 p2 p3] w fun e w' => e = .returned (cv n (bits .or .u64 f0 g0) (bits .or .u64 f1 g1) (bits .or .u64 f2 g2) (bits .or .u64 f3 g3) (bits .or .u64 o0 p0) (bits .or .u64 o1 p1) (bits .or .u64 o2 p2) (bits .or .u64 o3 p3)) ∧ Below w.heap.size w w' := by
  unfold cv
  go_enter Tryz.func77, Tryz.ntmps77
  go_wp2
  have hA1 := alloc3_0 w (.cells #[.int .i64 n, .int .u64 f0, .int .u64 f1, .int .u64 f2, .int .u64 f3, .int .u64 o0, .int .u64 o1, .int .u64 o2, .int .u64 o3] 40 (0, 0)) (.cells #[.int .i64 m, .int .u64 g0, .int .u64 g1, .int .u64 g2, .int .u64 g3, .int .u64 p0, .int .u64 p1, .int .u64 p2, .int .u64 p3] 40 (0, 0)) (.cells #[.int .i64 0, .int .u64 0, .int .u64 0, .int .u64 0, .int .u64 0, .int .u64 0, .int .u64 0, .int .u64 0, .int .u64 0] 40 (0, 0))
  have hB1 := alloc3_1 w (.cells #[.int .i64 n, .int .u64 f0, .int .u64 f1, .int .u64 f2, .int .u64 f3, .int .u64 o0, .int .u64 o1, .int .u64 o2, .int .u64 o3] 40 (0, 0)) (.cells #[.int .i64 m, .int .u64 g0, .int .u64 g1, .int .u64 g2, .int .u64 g3, .int .u64 p0, .int .u64 p1, .int .u64 p2, .int .u64 p3] 40 (0, 0)) (.cells #[.int .i64 0, .int .u64 0, .int .u64 0, .int .u64 0, .int .u64 0, .int .u64 0, .int .u64 0, .int .u64 0, .int .u64 0] 40 (0, 0))
  have hC1 := alloc_get2 w (.cells #[.int .i64 n, .int .u64 f0, .int .u64 f1, .int .u64 f2, .int .u64 f3, .int .u64 o0, .int .u64 o1, .int .u64 o2, .int .u64 o3] 40 (0, 0)) (.cells #[.int .i64 m, .int .u64 g0, .int .u64 g1, .int .u64 g2, .int .u64 g3, .int .u64 p0, .int .u64 p1, .int .u64 p2, .int .u64 p3] 40 (0, 0)) (.cells #[.int .i64 0, .int .u64 0, .int .u64 0, .int .u64 0, .int .u64 0, .int .u64 0, .int .u64 0, .int .u64 0, .int .u64 0] 40 (0, 0))
  have hW1 := bel1 (bel1 (bel1 (Below.refl _ (((w.alloc (.cells #[.int .i64 n, .int .u64 f0, .int .u64 f1, .int .u64 f2, .int .u64 f3, .int .u64 o0, .int .u64 o1, .int .u64 o2, .int .u64 o3] 40 (0, 0))).alloc (.cells #[.int .i64 m, .int .u64 g0, .int .u64 g1, .int .u64 g2, .int .u64 g3, .int .u64 p0, .int .u64 p1, .int .u64 p2, .int .u64 p3] 40 (0, 0))).alloc (.cells #[.int .i64 0, .int .u64 0, .int .u64 0, .int .u64 0, .int .u64 0, .int .u64 0, .int .u64 0, .int .u64 0, .int .u64 0] 40 (0, 0))))))
  go_loopw [6] (fun i wr => ∃ k : Nat, k ≤ 4 ∧ i = .int .i64 k ∧ wr.heap[w.heap.size]? = some (.cells #[.int .i64 n, .int .u64 (mxi k 0 f0 (bits .or .u64 f0 g0)), .int .u64 (mxi k 1 f1 (bits .or .u64 f1 g1)), .int .u64 (mxi k 2 f2 (bits .or .u64 f2 g2)), .int .u64 (mxi k 3 f3 (bits .or .u64 f3 g3)), .int .u64 (mxi k 0 o0 (bits .or .u64 o0 p0)), .int .u64 (mxi k 1 o1 (bits .or .u64 o1 p1)), .int .u64 (mxi k 2 o2 (bits .or .u64 o2 p2)), .int .u64 (mxi k 3 o3 (bits .or .u64 o3 p3))] 40 (0, 0)) ∧ wr.heap[w.heap.size + 1]? = some (.cells #[.int .i64 m, .int .u64 g0, .int .u64 g1, .int .u64 g2, .int .u64 g3, .int .u64 p0, .int .u64 p1, .int .u64 p2, .int .u64 p3] 40 (0, 0)) ∧ wr.heap[w.heap.size + 2]? = some (.cells #[.int .i64 0, .int .u64 0, .int .u64 0, .int .u64 0, .int .u64 0, .int .u64 0, .int .u64 0, .int .u64 0, .int .u64 0] 40 (0, 0)) ∧ Below w.heap.size w wr) (fun i _ => 4 - (intOf i).toNat)
  case atStart => exact ⟨0, by omega, rfl, hA1, hB1, hC1, hW1⟩
  case round =>
    clear hA1 hB1 hC1 hW1
    obtain ⟨k, hk, rfl, hA0, hB, hC, hW⟩ := hrel
    obtain ⟨hcB, hfB⟩ := cells_block hB
    rcases (show k = 0 ∨ k = 1 ∨ k = 2 ∨ k = 3 ∨ k = 4 by omega) with rfl | rfl | rfl | rfl | rfl
    · have hA : wr.heap[w.heap.size]? = some (.cells #[.int .i64 n, .int .u64 f0, .int .u64 f1, .int .u64 f2, .int .u64 f3, .int .u64 o0, .int .u64 o1, .int .u64 o2, .int .u64 o3] 40 (0, 0)) := hA0
      obtain ⟨hcA, hfA⟩ := cells_block hA
      clear hA0
      go_wp2
      go_region
      go_wp2
      go_region
      go_wp2
      go_roundw
      case rel => exact ⟨1, by omega, rfl, set2_0 _ _ hA, set2_ne _ _ (by simp) (by simp) hB, set2_ne _ _ (by simp) (by simp) hC, ((hW.setCell (Nat.le_refl _) _).setCell (Nat.le_refl _) _).drew.drew⟩
      case measure => simp [intOf]
    · have hA : wr.heap[w.heap.size]? = some (.cells #[.int .i64 n, .int .u64 (bits .or .u64 f0 g0), .int .u64 f1, .int .u64 f2, .int .u64 f3, .int .u64 (bits .or .u64 o0 p0), .int .u64 o1, .int .u64 o2, .int .u64 o3] 40 (0, 0)) := hA0
      obtain ⟨hcA, hfA⟩ := cells_block hA
      clear hA0
      go_wp2
      go_region
      go_wp2
      go_region
      go_wp2
      go_roundw
      case rel => exact ⟨2, by omega, rfl, set2_1 _ _ hA, set2_ne _ _ (by simp) (by simp) hB, set2_ne _ _ (by simp) (by simp) hC, ((hW.setCell (Nat.le_refl _) _).setCell (Nat.le_refl _) _).drew.drew⟩
      case measure => simp [intOf]
    · have hA : wr.heap[w.heap.size]? = some (.cells #[.int .i64 n, .int .u64 (bits .or .u64 f0 g0), .int .u64 (bits .or .u64 f1 g1), .int .u64 f2, .int .u64 f3, .int .u64 (bits .or .u64 o0 p0), .int .u64 (bits .or .u64 o1 p1), .int .u64 o2, .int .u64 o3] 40 (0, 0)) := hA0
      obtain ⟨hcA, hfA⟩ := cells_block hA
      clear hA0
      go_wp2
      go_region
      go_wp2
      go_region
      go_wp2
      go_roundw
      case rel => exact ⟨3, by omega, rfl, set2_2 _ _ hA, set2_ne _ _ (by simp) (by simp) hB, set2_ne _ _ (by simp) (by simp) hC, ((hW.setCell (Nat.le_refl _) _).setCell (Nat.le_refl _) _).drew.drew⟩
      case measure => simp [intOf]
    · have hA : wr.heap[w.heap.size]? = some (.cells #[.int .i64 n, .int .u64 (bits .or .u64 f0 g0), .int .u64 (bits .or .u64 f1 g1), .int .u64 (bits .or .u64 f2 g2), .int .u64 f3, .int .u64 (bits .or .u64 o0 p0), .int .u64 (bits .or .u64 o1 p1), .int .u64 (bits .or .u64 o2 p2), .int .u64 o3] 40 (0, 0)) := hA0
      obtain ⟨hcA, hfA⟩ := cells_block hA
      clear hA0
      go_wp2
      go_region
      go_wp2
      go_region
      go_wp2
      go_roundw
      case rel => exact ⟨4, by omega, rfl, set2_3 _ _ hA, set2_ne _ _ (by simp) (by simp) hB, set2_ne _ _ (by simp) (by simp) hC, ((hW.setCell (Nat.le_refl _) _).setCell (Nat.le_refl _) _).drew.drew⟩
      case measure => simp [intOf]
    · have hA : wr.heap[w.heap.size]? = some (.cells #[.int .i64 n, .int .u64 (bits .or .u64 f0 g0), .int .u64 (bits .or .u64 f1 g1), .int .u64 (bits .or .u64 f2 g2), .int .u64 (bits .or .u64 f3 g3), .int .u64 (bits .or .u64 o0 p0), .int .u64 (bits .or .u64 o1 p1), .int .u64 (bits .or .u64 o2 p2), .int .u64 (bits .or .u64 o3 p3)] 40 (0, 0)) := hA0
      obtain ⟨hcA, hfA⟩ := cells_block hA
      obtain ⟨hcC, hfC⟩ := cells_block hC
      clear hA0
      go_wp2
      refine bodyPost_ret (v := cv n (bits .or .u64 f0 g0) (bits .or .u64 f1 g1) (bits .or .u64 f2 g2) (bits .or .u64 f3 g3) (bits .or .u64 o0 p0) (bits .or .u64 o1 p1) (bits .or .u64 o2 p2) (bits .or .u64 o3 p3)) ?_ rfl ⟨rfl, ?_⟩
      · exact res_cube1 _ _ (w.heap.size + 2) _ _ _ _ _ _ _ _ _ Tryz.results77 rfl (put9_get _ _ _ _ _ _ _ _ _ hC)
      · exact put9_below _ _ _ _ _ _ _ _ _ hW (by omega)

set_option maxHeartbeats 1000000 in
theorem meet_raw (n f0 f1 f2 f3 o0 o1 o2 o3 m g0 g1 g2 g3 p0 p1 p2 p3 : Int) (w : World)
    (hcall0 : ∀ W, Calls Tryz.prog 76 #[cv n f0 f1 f2 f3 o0 o1 o2 o3, cv m g0 g1 g2 g3 p0 p1 p2 p3] W fun e w' => e = .returned (.bool true) ∧ Below W.heap.size W w') :
    Calls Tryz.prog 56 #[cv n f0 f1 f2 f3 o0 o1 o2 o3, cv m g0 g1 g2 g3 p0 p1 p2 p3] w fun e w' => e = .returned (.tuple #[cv n (bits .or .u64 f0 g0) (bits .or .u64 f1 g1) (bits .or .u64 f2 g2) (bits .or .u64 f3 g3) (bits .or .u64 o0 p0) (bits .or .u64 o1 p1) (bits .or .u64 o2 p2) (bits .or .u64 o3 p3), .bool true]) ∧ Below w.heap.size w w' := by
  have hcall : Hid (∀ W, Calls Tryz.prog 76 #[cv n f0 f1 f2 f3 o0 o1 o2 o3, cv m g0 g1 g2 g3 p0 p1 p2 p3] W fun e w' => e = .returned (.bool true) ∧ Below W.heap.size W w') := hcall0
  have hcom : Hid (∀ W, Calls Tryz.prog 77 #[cv n f0 f1 f2 f3 o0 o1 o2 o3, cv m g0 g1 g2 g3 p0 p1 p2 p3] W fun e w' => e = .returned (cv n (bits .or .u64 f0 g0) (bits .or .u64 f1 g1) (bits .or .u64 f2 g2) (bits .or .u64 f3 g3) (bits .or .u64 o0 p0) (bits .or .u64 o1 p1) (bits .or .u64 o2 p2) (bits .or .u64 o3 p3)) ∧ Below W.heap.size W w') := fun W => common_raw n f0 f1 f2 f3 o0 o1 o2 o3 m g0 g1 g2 g3 p0 p1 p2 p3 W
  clear hcall0
  unfold cv
  go_enter Tryz.func56, Tryz.ntmps56
  go_wp2_with (go_at_call 76; refine (hcall.out _).mono ?_; rintro e w1 ⟨rfl, hb1⟩; have hA1 := (hb1.block w.heap.size (by simp; omega)).trans (alloc3_0 _ _ _ _); have hB1 := (hb1.block (w.heap.size + 1) (by simp)).trans (alloc3_1 _ _ _ _); have hC1 := (hb1.block (w.heap.size + 2) (by simp)).trans (alloc_get2 _ _ _ _); have hW1 := bel1 (bel1 (bel1 hb1)); have hz1 : w.heap.size + 3 ≤ w1.heap.size := by { have := hb1.size; simp at this; omega }; clear hb1; obtain ⟨hcA, hfA⟩ := cells_block hA1; obtain ⟨hcB, hfB⟩ := cells_block hB1)
  refine (hcom.out _).mono ?_
  rintro e w2 ⟨rfl, hb2⟩
  have hC2 := (hb2.block (w.heap.size + 2) (by omega)).trans hC1
  have hW2 : Below w.heap.size w w2 := bel0 hW1 hb2
  clear hcA hfA hcB hfB hA1 hB1 hC1
  obtain ⟨hcC, hfC⟩ := cells_block hC2
  unfold cv
  go_wp2
  refine bodyPost_ret (v := .tuple #[cv n (bits .or .u64 f0 g0) (bits .or .u64 f1 g1) (bits .or .u64 f2 g2) (bits .or .u64 f3 g3) (bits .or .u64 o0 p0) (bits .or .u64 o1 p1) (bits .or .u64 o2 p2) (bits .or .u64 o3 p3), .bool true]) ?_ rfl ⟨rfl, ?_⟩
  · exact res_cube2 _ _ (w.heap.size + 2) _ _ _ _ _ _ _ _ _ Tryz.results56 rfl (put9_get _ _ _ _ _ _ _ _ _ hC2)
  · exact put9_below _ _ _ _ _ _ _ _ _ hW2 (by omega)

end Go.Proofs.YtfhghplplkkpmaaGreatDoor
namespace Go.Proofs.YtfhghplplkkpmaaGreatDoor
open Go.RowKit

/-- the cells of a cube -/
def ce9 (t : List UInt8) : List Value := [.int .i64 (t.length : Int), .int .u64 (FW t 0 : Int), .int .u64 (FW t 1 : Int), .int .u64 (FW t 2 : Int), .int .u64 (FW t 3 : Int), .int .u64 (OW t 0 : Int), .int .u64 (OW t 1 : Int), .int .u64 (OW t 2 : Int), .int .u64 (OW t 3 : Int)]
/-- the cells of a list of cubes -/
def ces (l : List (List UInt8)) : List Value := l.flatMap ce9
theorem ces_snoc (l : List (List UInt8)) (t : List UInt8) : ces (l ++ [t]) = ces l ++ ce9 t := by simp [ces]
theorem ces_get (L : List (List UInt8)) (k m : Nat) (hm : m < 9) : (ces L)[k * 9 + m]? = (L[k]?).bind (fun t => (ce9 t)[m]?) := by
  induction L generalizing k with
  | nil => simp [ces]
  | cons t l ih =>
    have hc : ces (t :: l) = ce9 t ++ ces l := rfl
    have hl : (ce9 t).length = 9 := rfl
    rw [hc]
    cases k with
    | zero =>
      rw [List.getElem?_append_left (by rw [hl]; omega)]
      simp
    | succ k =>
      rw [List.getElem?_append_right (by rw [hl]; omega), hl, show (k + 1) * 9 + m - 9 = k * 9 + m by omega, ih]
      simp
theorem ce_at {W : World} {B g cap k : Nat} {L : List (List UInt8)} {P : List UInt8} (hown : W.ownsRow B 40 9 (.slice (some ⟨g, 0, none⟩) L.length cap) L.length (ces L)) (hk : k < L.length) (hP : L[k] = P) :
    W.cell? ⟨g, k * 9, none⟩ = some (.int .i64 (P.length : Int)) ∧ W.cell? ⟨g, k * 9 + 1, none⟩ = some (.int .u64 (FW P 0 : Int)) ∧ W.cell? ⟨g, k * 9 + 2, none⟩ = some (.int .u64 (FW P 1 : Int)) ∧ W.cell? ⟨g, k * 9 + 3, none⟩ = some (.int .u64 (FW P 2 : Int)) ∧ W.cell? ⟨g, k * 9 + 4, none⟩ = some (.int .u64 (FW P 3 : Int)) ∧ W.cell? ⟨g, k * 9 + 5, none⟩ = some (.int .u64 (OW P 0 : Int)) ∧ W.cell? ⟨g, k * 9 + 6, none⟩ = some (.int .u64 (OW P 1 : Int)) ∧ W.cell? ⟨g, k * 9 + 7, none⟩ = some (.int .u64 (OW P 2 : Int)) ∧ W.cell? ⟨g, k * 9 + 8, none⟩ = some (.int .u64 (OW P 3 : Int)) := by
  have cc : ∀ m, m < 9 → W.cell? ⟨g, k * 9 + m, none⟩ = (ce9 P)[m]? := by
    intro m hm
    rw [hown.cellAt (k * 9 + m) (by omega), ces_get L k m hm, List.getElem?_eq_getElem hk, ← hP]
    rfl
  exact ⟨cc 0 (by omega), cc 1 (by omega), cc 2 (by omega), cc 3 (by omega), cc 4 (by omega), cc 5 (by omega), cc 6 (by omega), cc 7 (by omega), cc 8 (by omega)⟩

theorem lt_of_get3 {W : World} {b : Nat} {o : Obj} (h : W.heap[b]? = some o) : b < W.heap.size := (Array.getElem?_eq_some_iff.1 h).1
theorem keepblk3 {W w' : World} {b : Nat} {o : Obj} (hb : Below W.heap.size W w') (h : W.heap[b]? = some o) : w'.heap[b]? = some o := (hb.block b (lt_of_get3 h)).trans h
theorem allocblk3 {W : World} {b : Nat} {o : Obj} (h : W.heap[b]? = some o) (O : Obj) : (W.alloc O).heap[b]? = some o := (Below.heap_alloc _ _ _ (lt_of_get3 h)).trans h

/-- the hull, one cube behind the other; none: one does not fit -/
def hulA : List UInt8 → List (List UInt8) → Option (List UInt8)
  | h, [] => some h
  | h, d :: l => if fitB h d = true then hulA (huT h d) l else none
theorem hulA_app (f : List UInt8) (l m : List (List UInt8)) : hulA f (l ++ m) = (hulA f l).bind (fun h => hulA h m) := by
  induction l generalizing f with
  | nil => rfl
  | cons d l ih =>
    show (if fitB f d = true then hulA (huT f d) (l ++ m) else none) = ((if fitB f d = true then hulA (huT f d) l else none)).bind _
    split
    · exact ih _
    · rfl
theorem hulA_step (f : List UInt8) (L : List (List UInt8)) (k : Nat) (hk : k < L.length) (H : List UInt8) (h : hulA f (L.take k) = some H) (hf : fitB H L[k] = true) : hulA f (L.take (k + 1)) = some (huT H L[k]) := by
  rw [List.take_add_one, hulA_app, h, List.getElem?_eq_getElem hk]
  show (if fitB H L[k] = true then some (huT H L[k]) else none) = _
  rw [if_pos hf]
theorem hulA_stop (f : List UInt8) (L : List (List UInt8)) (k : Nat) (hk : k < L.length) (H : List UInt8) (h : hulA f (L.take k) = some H) (hf : fitB H L[k] = false) : hulA f L = none := by
  have e : L = L.take k ++ (L[k] :: L.drop (k + 1)) := by rw [List.getElem_cons_drop, List.take_append_drop]
  have : hulA f (L.take k ++ (L[k] :: L.drop (k + 1))) = none := by
    rw [hulA_app, h]
    show (if fitB H L[k] = true then hulA (huT H L[k]) _ else none) = none
    rw [hf]; rfl
  rw [← e] at this
  exact this
/-- what Hull answers -/
def hulV (o : Option (List UInt8)) : Value := match o with
  | some h => .tuple #[cubeV h, .int .i64 0]
  | none => .tuple #[cubeV [], .int .i64 11]

set_option maxRecDepth 100000 in
set_option maxHeartbeats 2000000 in
theorem hull_some (F : List UInt8) (L : List (List UInt8)) (g c B : Nat) (w : World) (gF : good F = true) (hF0 : F ≠ []) (gL0 : ∀ x ∈ L, good x = true) (hLl : L.length < 9223372036854775807)
    (h1 : w.ownsRow B 40 9 (.slice (some ⟨g, 0, none⟩) L.length c) L.length (ces L)) :
    Calls Tryz.prog 25 #[cubeV F, .slice (some ⟨g, 0, none⟩) L.length c] w fun e w' => e = .returned (hulV (hulA F L)) ∧ Below w.heap.size w w' := by
  have gL : Hid (∀ x ∈ L, good x = true) := gL0
  have hF : ((F.length : Int) == 0) = false := by
    cases F with
    | nil => exact absurd rfl hF0
    | cons x l => simp; omega
  clear gL0 hF0
  unfold cubeV cv
  go_enter Tryz.func25, Tryz.ntmps25
  go_wp2
  go_loopw [17] (fun i wr => ∃ (k : Nat) (H : List UInt8), k ≤ L.length ∧ i = .int .i64 k ∧ Hid (hulA F (L.take k) = some H) ∧ good H = true ∧ wr.heap[w.heap.size + 2]? = some (.cells (#[.int .i64 (H.length : Int), .int .u64 (FW H 0 : Int), .int .u64 (FW H 1 : Int), .int .u64 (FW H 2 : Int), .int .u64 (FW H 3 : Int), .int .u64 (OW H 0 : Int), .int .u64 (OW H 1 : Int), .int .u64 (OW H 2 : Int), .int .u64 (OW H 3 : Int)]) 40 (0, 0)) ∧ wr.heap[w.heap.size + 1]? = some (.cells #[.int .i64 0, .int .u64 0, .int .u64 0, .int .u64 0, .int .u64 0, .int .u64 0, .int .u64 0, .int .u64 0, .int .u64 0] 40 (0, 0)) ∧ Below w.heap.size w wr) (fun i _ => L.length - (intOf i).toNat)
  case atStart => exact ⟨0, F, Nat.zero_le _, rfl, rfl, gF, alloc_get2 _ _ _ _, alloc3_1 _ _ _ _, belA (belA (belA (Below.refl _ _) _) _) _⟩
  case round =>
    obtain ⟨k, H, hk, rfl, hH, gH, hA, hC, hW⟩ := hrel
    have hown := owns_below h1 hW
    by_cases hlt : k < L.length
    · have i0 : (0 : Int) ≤ (k : Int) := by omega
      have i1 : (k : Int) < (L.length : Int) := by omega
      obtain ⟨D, hD⟩ : ∃ D, L[k] = D := ⟨_, rfl⟩
      have gD : good D = true := gL.out D (by rw [← hD]; exact List.getElem_mem hlt)
      obtain ⟨x0, x1, x2, x3, x4, x5, x6, x7, x8⟩ := ce_at hown hlt hD
      have hD' : Hid (L[k] = D) := hD
      obtain ⟨q, hq⟩ : ∃ q, fitB H D = q := ⟨_, rfl⟩
      have hq' : Hid (fitB H D = q) := hq
      clear hD hq hown
      obtain ⟨cA, fA⟩ := cells_block hA
      have zA := lt_of_get3 hA
      go_wp2_with fail
      refine (fits_D H D q _ hq'.out).mono ?_
      rintro e w3 ⟨rfl, hb3⟩
      have hA3 := keepblk3 hb3 (allocblk3 hA _)
      have hC3 := keepblk3 hb3 (allocblk3 hC _)
      have hD3 : w3.heap[wr.heap.size]? = some (.cells (#[.int .i64 (D.length : Int), .int .u64 (FW D 0 : Int), .int .u64 (FW D 1 : Int), .int .u64 (FW D 2 : Int), .int .u64 (FW D 3 : Int), .int .u64 (OW D 0 : Int), .int .u64 (OW D 1 : Int), .int .u64 (OW D 2 : Int), .int .u64 (OW D 3 : Int)]) 40 (0, 0)) := keepblk3 hb3 (alloc_get _ _)
      have hW3 := bel0 (belA hW _) hb3
      have zz : w.heap.size + 3 ≤ wr.heap.size := by have := lt_of_get3 hA; omega
      clear hA hC hW cA fA zA x0 x1 x2 x3 x4 x5 x6 x7 x8 hb3
      cases q
      · have hfin : Hid (hulA F L = none) := hulA_stop F L k hlt H hH.out (by rw [hD'.out]; exact hq'.out)
        obtain ⟨cC, fC⟩ := cells_block hC3
        go_wp2
        refine bodyPost_ret (v := .tuple #[cv 0 0 0 0 0 0 0 0 0, .int .i64 11]) ?_ rfl ⟨by rw [hfin.out]; unfold hulV; rw [cubeV_nil], ?_⟩
        · exact res_cube2 _ _ (w.heap.size + 1) _ _ _ _ _ _ _ _ _ Tryz.results25 rfl (put9_get _ _ _ _ _ _ _ _ _ hC3)
        · exact put9_below _ _ _ _ _ _ _ _ _ hW3 (by omega)
      · obtain ⟨N, hN⟩ : ∃ N, huT H D = N := ⟨_, rfl⟩
        have hl := fitB_len hq'.out
        have gN : good N = true := by rw [← hN]; exact good_huT H D gH gD
        have hlN : Hid (N.length = H.length) := by unfold Hid; rw [← hN]; exact huT_len H D hl
        have hst : Hid (hulA F (L.take (k + 1)) = some N) := by unfold Hid; rw [hulA_step F L k hlt H hH.out (by rw [hD'.out]; exact hq'.out), hD'.out, hN]
        have f0 := FW_hu H D hl gH gD 0
        have o0 := OW_hu H D hl 0
        rw [hN] at f0 o0
        have f1 := FW_hu H D hl gH gD 1
        have o1 := OW_hu H D hl 1
        rw [hN] at f1 o1
        have f2 := FW_hu H D hl gH gD 2
        have o2 := OW_hu H D hl 2
        rw [hN] at f2 o2
        have f3 := FW_hu H D hl gH gD 3
        have o3 := OW_hu H D hl 3
        rw [hN] at f3 o3
        clear hH hq' hD' hN hl gD
        go_wp2
        go_loopw [26] (fun i wr2 => ∃ j : Nat, j ≤ 4 ∧ i = .int .i64 j ∧ wr2.heap[w.heap.size + 2]? = some (.cells #[.int .i64 (H.length : Int), .int .u64 (mxi j 0 (FW H 0 : Int) (FW N 0 : Int)), .int .u64 (mxi j 1 (FW H 1 : Int) (FW N 1 : Int)), .int .u64 (mxi j 2 (FW H 2 : Int) (FW N 2 : Int)), .int .u64 (mxi j 3 (FW H 3 : Int) (FW N 3 : Int)), .int .u64 (mxi j 0 (OW H 0 : Int) (OW N 0 : Int)), .int .u64 (mxi j 1 (OW H 1 : Int) (OW N 1 : Int)), .int .u64 (mxi j 2 (OW H 2 : Int) (OW N 2 : Int)), .int .u64 (mxi j 3 (OW H 3 : Int) (OW N 3 : Int))] 40 (0, 0)) ∧ wr2.heap[wr.heap.size]? = some (.cells (#[.int .i64 (D.length : Int), .int .u64 (FW D 0 : Int), .int .u64 (FW D 1 : Int), .int .u64 (FW D 2 : Int), .int .u64 (FW D 3 : Int), .int .u64 (OW D 0 : Int), .int .u64 (OW D 1 : Int), .int .u64 (OW D 2 : Int), .int .u64 (OW D 3 : Int)]) 40 (0, 0)) ∧ wr2.heap[w.heap.size + 1]? = some (.cells #[.int .i64 0, .int .u64 0, .int .u64 0, .int .u64 0, .int .u64 0, .int .u64 0, .int .u64 0, .int .u64 0, .int .u64 0] 40 (0, 0)) ∧ Below w.heap.size w wr2) (fun i _ => 4 - (intOf i).toNat)
        case atStart => exact ⟨0, by omega, rfl, hA3, hD3, hC3, hW3⟩
        case round =>
          clear hA3 hD3 hC3 hW3
          obtain ⟨j, hj, rfl, hA0, hD, hC, hW⟩ := hrel
          obtain ⟨hcD, hfD⟩ := cells_block hD
          rcases (show j = 0 ∨ j = 1 ∨ j = 2 ∨ j = 3 ∨ j = 4 by omega) with rfl | rfl | rfl | rfl | rfl
          · have hA : wr.heap[w.heap.size + 2]? = some (.cells #[.int .i64 (H.length : Int), .int .u64 (FW H 0 : Int), .int .u64 (FW H 1 : Int), .int .u64 (FW H 2 : Int), .int .u64 (FW H 3 : Int), .int .u64 (OW H 0 : Int), .int .u64 (OW H 1 : Int), .int .u64 (OW H 2 : Int), .int .u64 (OW H 3 : Int)] 40 (0, 0)) := hA0
            obtain ⟨hcA, hfA⟩ := cells_block hA
            clear hA0
            go_wp2
            go_region
            go_wp2
            go_region
            go_wp2
            go_roundw
            case rel => exact ⟨1, by omega, rfl, set2_0 _ _ hA, set2_ne _ _ (by simp; omega) (by simp; omega) hD, set2_ne _ _ (by simp) (by simp) hC, ((hW.setCell (by simp; omega) _).setCell (by simp; omega) _).drew.drew⟩
            case measure => simp [intOf]
          · have hA : wr.heap[w.heap.size + 2]? = some (.cells #[.int .i64 (H.length : Int), .int .u64 (FW N 0 : Int), .int .u64 (FW H 1 : Int), .int .u64 (FW H 2 : Int), .int .u64 (FW H 3 : Int), .int .u64 (OW N 0 : Int), .int .u64 (OW H 1 : Int), .int .u64 (OW H 2 : Int), .int .u64 (OW H 3 : Int)] 40 (0, 0)) := hA0
            obtain ⟨hcA, hfA⟩ := cells_block hA
            clear hA0
            go_wp2
            go_region
            go_wp2
            go_region
            go_wp2
            go_roundw
            case rel => exact ⟨2, by omega, rfl, set2_1 _ _ hA, set2_ne _ _ (by simp; omega) (by simp; omega) hD, set2_ne _ _ (by simp) (by simp) hC, ((hW.setCell (by simp; omega) _).setCell (by simp; omega) _).drew.drew⟩
            case measure => simp [intOf]
          · have hA : wr.heap[w.heap.size + 2]? = some (.cells #[.int .i64 (H.length : Int), .int .u64 (FW N 0 : Int), .int .u64 (FW N 1 : Int), .int .u64 (FW H 2 : Int), .int .u64 (FW H 3 : Int), .int .u64 (OW N 0 : Int), .int .u64 (OW N 1 : Int), .int .u64 (OW H 2 : Int), .int .u64 (OW H 3 : Int)] 40 (0, 0)) := hA0
            obtain ⟨hcA, hfA⟩ := cells_block hA
            clear hA0
            go_wp2
            go_region
            go_wp2
            go_region
            go_wp2
            go_roundw
            case rel => exact ⟨3, by omega, rfl, set2_2 _ _ hA, set2_ne _ _ (by simp; omega) (by simp; omega) hD, set2_ne _ _ (by simp) (by simp) hC, ((hW.setCell (by simp; omega) _).setCell (by simp; omega) _).drew.drew⟩
            case measure => simp [intOf]
          · have hA : wr.heap[w.heap.size + 2]? = some (.cells #[.int .i64 (H.length : Int), .int .u64 (FW N 0 : Int), .int .u64 (FW N 1 : Int), .int .u64 (FW N 2 : Int), .int .u64 (FW H 3 : Int), .int .u64 (OW N 0 : Int), .int .u64 (OW N 1 : Int), .int .u64 (OW N 2 : Int), .int .u64 (OW H 3 : Int)] 40 (0, 0)) := hA0
            obtain ⟨hcA, hfA⟩ := cells_block hA
            clear hA0
            go_wp2
            go_region
            go_wp2
            go_region
            go_wp2
            go_roundw
            case rel => exact ⟨4, by omega, rfl, set2_3 _ _ hA, set2_ne _ _ (by simp; omega) (by simp; omega) hD, set2_ne _ _ (by simp) (by simp) hC, ((hW.setCell (by simp; omega) _).setCell (by simp; omega) _).drew.drew⟩
            case measure => simp [intOf]
          · have hA : wr.heap[w.heap.size + 2]? = some (.cells (#[.int .i64 (N.length : Int), .int .u64 (FW N 0 : Int), .int .u64 (FW N 1 : Int), .int .u64 (FW N 2 : Int), .int .u64 (FW N 3 : Int), .int .u64 (OW N 0 : Int), .int .u64 (OW N 1 : Int), .int .u64 (OW N 2 : Int), .int .u64 (OW N 3 : Int)]) 40 (0, 0)) := by rw [hlN.out]; exact hA0
            clear hA0 hcD hfD f0 f1 f2 f3 o0 o1 o2 o3
            go_wp2
            go_roundw
            case rel => exact ⟨k + 1, N, by omega, by go_num, hst, gN, hA, hC, hW⟩
            case measure => simp [intOf]; omega
    · have i1 : ¬ (k : Int) < (L.length : Int) := by omega
      have hfin : Hid (hulA F L = some H) := by
        have := hH.out
        rwa [List.take_of_length_le (by omega)] at this
      obtain ⟨cA, fA⟩ := cells_block hA
      obtain ⟨cC, fC⟩ := cells_block hC
      clear hown
      go_wp2
      refine bodyPost_ret (v := .tuple #[cubeV H, .int .i64 0]) ?_ rfl ⟨by rw [hfin.out]; rfl, ?_⟩
      · exact res_cube2 _ _ (w.heap.size + 1) _ _ _ _ _ _ _ _ _ Tryz.results25 rfl (put9_get _ _ _ _ _ _ _ _ _ hC)
      · exact put9_below _ _ _ _ _ _ _ _ _ hW (by omega)
end Go.Proofs.YtfhghplplkkpmaaGreatDoor
namespace Go.Proofs.YtfhghplplkkpmaaGreatDoor
open Go.RowKit

theorem alloc_get1 (w : World) (o1 o2 : Obj) : ((w.alloc o1).alloc o2).heap[w.heap.size + 1]? = some o2 := by
  have := alloc_get (w.alloc o1) o2
  simpa using this

theorem hull_zero (V : Value) (w : World) : Calls Tryz.prog 25 #[cubeV [], V] w fun e w' => e = .returned (hulV none) ∧ Below w.heap.size w w' := by
  rw [cubeV_nil]
  unfold cv
  go_enter Tryz.func25, Tryz.ntmps25
  go_wp2
  refine bodyPost_ret (v := .tuple #[cv 0 0 0 0 0 0 0 0 0, .int .i64 11]) ?_ rfl ⟨by unfold hulV; rw [cubeV_nil], ?_⟩
  · exact res_cube2 _ _ (w.heap.size + 1) _ _ _ _ _ _ _ _ _ Tryz.results25 rfl (alloc_get1 _ _ _)
  · exact belA (belA (Below.refl _ _) _) _

set_option maxHeartbeats 1000000 in
theorem hull_nil (F : List UInt8) (p : Option Addr) (c : Nat) (w : World) (hF0 : F ≠ []) : Calls Tryz.prog 25 #[cubeV F, .slice p 0 c] w fun e w' => e = .returned (hulV (some F)) ∧ Below w.heap.size w w' := by
  have hF : ((F.length : Int) == 0) = false := by
    cases F with
    | nil => exact absurd rfl hF0
    | cons x l => simp; omega
  clear hF0
  unfold cubeV cv
  go_enter Tryz.func25, Tryz.ntmps25
  go_wp2
  go_loopw [17] (fun i wr => i = .int .i64 0 ∧ wr.heap[w.heap.size + 2]? = some (.cells (#[.int .i64 (F.length : Int), .int .u64 (FW F 0 : Int), .int .u64 (FW F 1 : Int), .int .u64 (FW F 2 : Int), .int .u64 (FW F 3 : Int), .int .u64 (OW F 0 : Int), .int .u64 (OW F 1 : Int), .int .u64 (OW F 2 : Int), .int .u64 (OW F 3 : Int)]) 40 (0, 0)) ∧ wr.heap[w.heap.size + 1]? = some (.cells #[.int .i64 0, .int .u64 0, .int .u64 0, .int .u64 0, .int .u64 0, .int .u64 0, .int .u64 0, .int .u64 0, .int .u64 0] 40 (0, 0)) ∧ Below w.heap.size w wr) (fun _ _ => 0)
  case atStart => exact ⟨rfl, alloc_get2 _ _ _ _, alloc3_1 _ _ _ _, belA (belA (belA (Below.refl _ _) _) _) _⟩
  case round =>
    obtain ⟨rfl, hA, hC, hW⟩ := hrel
    obtain ⟨cA, fA⟩ := cells_block hA
    obtain ⟨cC, fC⟩ := cells_block hC
    go_wp2
    refine bodyPost_ret (v := .tuple #[cubeV F, .int .i64 0]) ?_ rfl ⟨rfl, ?_⟩
    · exact res_cube2 _ _ (w.heap.size + 1) _ _ _ _ _ _ _ _ _ Tryz.results25 rfl (put9_get _ _ _ _ _ _ _ _ _ hC)
    · exact put9_below _ _ _ _ _ _ _ _ _ hW (by omega)

/-- what Hull answers -/
def hulF (F : List UInt8) (L : List (List UInt8)) : Option (List UInt8) := if F = [] then none else hulA F L

theorem hull_any (F : List UInt8) (L : List (List UInt8)) (V : Value) (B : Nat) (w : World) (gF : good F = true) (gL : ∀ x ∈ L, good x = true) (hLl : L.length < 9223372036854775807)
    (h1 : w.ownsRow B 40 9 V L.length (ces L)) :
    Calls Tryz.prog 25 #[cubeV F, V] w fun e w' => e = .returned (hulV (hulF F L)) ∧ Below w.heap.size w w' := by
  unfold hulF
  by_cases hF : F = []
  · subst hF
    rw [if_pos rfl]
    exact hull_zero V w
  · rw [if_neg hF]
    rcases h1.2 with ⟨rfl, n1⟩ | ⟨g, c, _, rfl, _⟩
    · obtain rfl : L = [] := List.eq_nil_of_length_eq_zero n1
      exact hull_nil F _ _ w hF
    · exact hull_some F L g c B w gF hF gL hLl h1
end Go.Proofs.YtfhghplplkkpmaaGreatDoor
namespace Go.Proofs.YtfhghplplkkpmaaGreatDoor
open Go.RowKit

theorem conv_any (W : World) (B : Nat) (v : Value) (t : List UInt8) (hown : W.ownsRow B 5 1 v t.length (bys t)) :
    (convert 56 9 v).run Tryz.prog W = .ok (.string ⟨t.toArray⟩) W := by
  have h0 := hown
  obtain ⟨_, h2⟩ := hown
  rcases h2 with ⟨rfl, h2⟩ | ⟨g, cap, cur, rfl, h2⟩
  · have hz : t = [] := List.eq_nil_of_length_eq_zero (by simpa using h2)
    subst hz
    exact run_convert_bytes_nil W _ 5 Tryz.underlying56 Tryz.underlying5 _ _ _ Tryz.underlying9
  · exact conv_owned W B g cap t h0

theorem bel_app {w wr w1 : World} {o : Obj} {e : TypeId} {size : Nat} {v : Value} {n : Nat} {xs : List Value} (hB : Below w.heap.size w wr) (hown : wr.ownsRow w.heap.size e size v n xs) (hg : (wr.alloc o).grownBy w1 v.ownBlock) : Below w.heap.size w w1 :=
  (belA hB o).grown hg (belA hB o).size (fun k h => (hown.lt k h).1)

theorem bys_snoc (t : List UInt8) (b : UInt8) : bys t ++ [.int .u8 (b.toNat : Int)] = bys (t ++ [b]) := by simp [bys]

/-- the text of All -/
def allT (n : Int) : List UInt8 := if 1 ≤ n ∧ n ≤ 256 then List.replicate n.toNat 120 else []
theorem good_allT (n : Int) : good (allT n) = true := by
  unfold allT
  split
  · exact good_replicate _ (by omega)
  · exact good_nil
theorem allT_len (n : Int) : (allT n).length ≤ 256 := good_len (good_allT n)

theorem allV (n : Int) (w : World) : Calls Tryz.prog 11 #[.int .i64 n] w fun e w' => e = .returned (cubeV (allT n)) ∧ Below w.heap.size w w' := all_any n w

end Go.Proofs.YtfhghplplkkpmaaGreatDoor
namespace Go.Proofs.YtfhghplplkkpmaaGreatDoor
open Go.RowKit
theorem ne_byte' {b : UInt8} {n : Nat} (h : b ≠ UInt8.ofNat n) : ((b.toNat : Int) != ((n : Nat) : Int)) = true := by
  have := ne_byte h
  unfold bne
  rw [this]; rfl

theorem toList_str (s : ByteArray) : (⟨s.data.toList.toArray⟩ : ByteArray) = s := by
  obtain ⟨l⟩ := s; simp

end Go.Proofs.YtfhghplplkkpmaaGreatDoor
namespace Go.Proofs.YtfhghplplkkpmaaGreatDoor
open Go.RowKit
theorem res_put2 {fn : Func} {p u : Tmp} {m : Nat × Nat} {x0 x1 x2 x3 x4 x5 x6 x7 x8 : Value} (tmps : Array Value) (W : World) (b : Nat) (n a1 a2 a3 a4 o1 o2 o3 o4 : Int) (hr : fn.results = #[.cell p 40, .tmp u]) (hp : tmps.getD p undef = .pointer (some ⟨b, 0, none⟩))
    (h : W.heap[b]? = some (.cells #[x0, x1, x2, x3, x4, x5, x6, x7, x8] 40 m)) :
    (results fn tmps).run Tryz.prog (put9 W b (.int .i64 n) (.int .u64 a1) (.int .u64 a2) (.int .u64 a3) (.int .u64 a4) (.int .u64 o1) (.int .u64 o2) (.int .u64 o3) (.int .u64 o4)).drew
      = .ok (.tuple #[cv n a1 a2 a3 a4 o1 o2 o3 o4, tmps.getD u undef]) (put9 W b (.int .i64 n) (.int .u64 a1) (.int .u64 a2) (.int .u64 a3) (.int .u64 a4) (.int .u64 o1) (.int .u64 o2) (.int .u64 o3) (.int .u64 o4)).drew := by
  have hg := put9_get (.int .i64 n) (.int .u64 a1) (.int .u64 a2) (.int .u64 a3) (.int .u64 a4) (.int .u64 o1) (.int .u64 o2) (.int .u64 o3) (.int .u64 o4) h
  generalize put9 W b (.int .i64 n) (.int .u64 a1) (.int .u64 a2) (.int .u64 a3) (.int .u64 a4) (.int .u64 o1) (.int .u64 o2) (.int .u64 o3) (.int .u64 o4) = V at hg ⊢
  exact res_cube2 tmps V.drew b n a1 a2 a3 a4 o1 o2 o3 o4 hr hp hg

theorem undrew {B : Nat} {a w : World} (h : Below B a.drew w) : Below B a w := ⟨h.os, h.tape, h.output, h.size, h.block⟩
theorem blk_keep {w w1 w2 : World} {o O : Obj} (hb1 : Below (w.alloc o).heap.size (w.alloc o) w1) (hb2 : Below (w1.alloc O).heap.size (w1.alloc O) w2) : w2.heap[w.heap.size]? = some o := by
  have hz : w.heap.size < w1.heap.size := by have := hb1.size; simp at this; omega
  rw [hb2.block _ (by simp; omega), Below.heap_alloc _ _ _ hz, hb1.block _ (by simp)]
  exact alloc_get _ _

end Go.Proofs.YtfhghplplkkpmaaGreatDoor

import Derived.Test.YtkcbkeimbpopcaaGreatDoorXB2
import Derived.Test.YtkcbkeimbpopcaaGreatDoorXB1
import Derived.Test.YtkcbkeimbpopcaaGreatDoorXBP
import Derived.Deep.RegionHeld3
namespace Go.Proofs.YtkcbkeimbpopcaaGreatDoor
open Go.RowKit Go.Shelf
set_option maxRecDepth 100000 in
set_option maxHeartbeats 4000000 in
theorem likeL_any (b : Int) (V V2 : Value) (Rs Ts : List (List UInt8 × List (List UInt8))) (w : World) (hTs : (ordT (topC (stl Rs))) = Ts) (h : LSP w V Rs) (hN : Rs.length ≤ 1000) (h2 : RSR w V2 Ts) (ho : szC Ts ≤ 128) (hg : gdC Ts) : Calls Tryz.prog 11 #[.agg #[.int .i64 b, V, .bool true], .agg #[.int .i64 b, V2]] w fun e w' => e = .returned (.bool true) ∧ Below w.heap.size w w' := by
  obtain ⟨p, cp, rfl⟩ := h.shape
  obtain ⟨p2, cp2, rfl⟩ := h2.shape
  have hsz : szC (topC (stl Rs)) ≤ 128 := by
    have := szC_ord (topC (stl Rs))
    rw [hTs] at this
    omega
  obtain ⟨w0, hw0⟩ : ∃ w0, (w.alloc (.cells #[.int .i64 b, .slice p (Rs.length) cp, .bool true] 24 (0, 0))).alloc (.cells #[.int .i64 b, .slice p2 (Ts.length) cp2] 27 (0, 0)) = w0 := ⟨_, rfl⟩
  have ha : w0.heap[w.heap.size]? = some (.cells #[.int .i64 b, .slice p (Rs.length) cp, .bool true] 24 (0, 0)) := by rw [← hw0]; exact alw_0 _ _ _
  have hb : w0.heap[w.heap.size + 1]? = some (.cells #[.int .i64 b, .slice p2 (Ts.length) cp2] 27 (0, 0)) := by rw [← hw0]; exact alw_1 _ _ _
  have hB0 : Below w.heap.size w w0 := by rw [← hw0]; exact belA (belA (Below.refl _ _) _) _
  have HSz : Hid (∀ W, Below w0.heap.size w0 W → Calls Tryz.prog 31 #[.agg #[.int .i64 b, .slice p (Rs.length) cp, .bool true]] W fun e w' => e = .returned (.int .i64 (szC Ts : Int)) ∧ Below W.heap.size W w') := fun W hW => by rw [← hTs]; exact spSizeL_any b p cp Rs W (h.below (bel0 hB0 hW)) hN hsz
  have HSx : Hid (∀ W, Below w0.heap.size w0 W → Calls Tryz.prog 15 #[.agg #[.int .i64 b, .slice p (Rs.length) cp, .bool true]] W fun e w' => e = .returned (.string ⟨(txC Ts).toArray⟩) ∧ Below W.heap.size W w') := fun W hW => by rw [← hTs]; exact spTextL_any b p cp Rs W (h.below (bel0 hB0 hW)) hN hsz (by rw [hTs]; exact hg)
  have HDz : Hid (∀ W, Below w0.heap.size w0 W → Calls Tryz.prog 32 #[.agg #[.int .i64 b, .slice p2 (Ts.length) cp2]] W fun e w' => e = .returned (.int .i64 (szC Ts : Int)) ∧ Below W.heap.size W w') := fun W hW => dSizeL_any b _ Ts W (h2.later (bel0 hB0 hW)) (by omega)
  have HDx : Hid (∀ W, Below w0.heap.size w0 W → Calls Tryz.prog 33 #[.agg #[.int .i64 b, .slice p2 (Ts.length) cp2]] W fun e w' => e = .returned (.string ⟨(txC Ts).toArray⟩) ∧ Below W.heap.size W w') := fun W hW => dTextL_any b _ Ts W (h2.later (bel0 hB0 hW)) ho hg
  obtain ⟨n, hn⟩ : ∃ n, Ts.length = n := ⟨_, rfl⟩
  rw [hn] at hb HDz HDx hw0 ⊢
  obtain ⟨m, hm⟩ : ∃ m, Rs.length = m := ⟨_, rfl⟩
  rw [hm] at ha HSz HSx hw0 ⊢
  have HBi : Hid (∀ W, Calls Tryz.prog 14 #[.agg #[.int .i64 b, .slice p m cp, .bool true]] W fun e w' => e = .returned (.int .i64 b) ∧ Below W.heap.size W w') := fun W => bitsL_any b p m cp W
  have HX : Hid (∀ W, Below w0.heap.size w0 W → W.cell? ⟨w.heap.size, 0, none⟩ = some (.int .i64 b) ∧ W.cell? ⟨w.heap.size, 1, none⟩ = some (.slice p m cp) ∧ W.cell? ⟨w.heap.size, 2, none⟩ = some (.bool true) ∧ W.cell? ⟨w.heap.size + 1, 0, none⟩ = some (.int .i64 b) ∧ W.cell? ⟨w.heap.size + 1, 1, none⟩ = some (.slice p2 n cp2)) := fun W hW => by
    obtain ⟨c1, -⟩ := cells_block (keepblk3 hW ha)
    obtain ⟨c2, -⟩ := cells_block (keepblk3 hW hb)
    exact ⟨c1 0, c1 1, c1 2, c2 0, c2 1⟩
  clear ha hb h h2 hn hm hN hsz hTs
  go_enter Tryz.func11, Tryz.ntmps11
  go_wp2_with fail
  clear hw0
  refine quiet_lit3 (C := fun W => Below w0.heap.size w0 W) (by kernel_rfl) (by kernel_rfl) (show Below _ _ _ from (Below.refl _ _).drew) ?_
  go_big_quiet_want
  refine ⟨.agg #[.int .i64 b, .slice p m cp, .bool true], fun W hW => ?_, ?_⟩
  · obtain ⟨x0, x1, x2, y0, y1⟩ := HX.out W hW
    go_simp
  go_big_quiet_on
  simp only [Act.put, List.setIfInBounds_toArray, List.set_cons_zero, List.set_cons_succ]
  go_big_quiet_want
  refine ⟨.int .i64 b, fun W hW => ?_, ?_⟩
  · go_simp
    refine (HBi.out W).mono ?_
    rintro e w7 ⟨rfl, hb⟩
    exact ⟨rfl, bel0 hW hb⟩
  go_big_quiet_on
  simp only [Act.put, List.setIfInBounds_toArray, List.set_cons_zero, List.set_cons_succ]
  go_big_quiet_want
  refine ⟨.pointer (some ⟨w.heap.size + 1, 0, none⟩), fun W hW => ?_, ?_⟩
  · go_simp
  go_big_quiet_on
  simp only [Act.put, List.setIfInBounds_toArray, List.set_cons_zero, List.set_cons_succ]
  go_big_quiet_want
  refine ⟨.int .i64 b, fun W hW => ?_, ?_⟩
  · obtain ⟨x0, x1, x2, y0, y1⟩ := HX.out W hW
    go_simp
  go_big_quiet_on
  simp only [Act.put, List.setIfInBounds_toArray, List.set_cons_zero, List.set_cons_succ]
  go_big_quiet_want
  refine ⟨.bool true, fun W hW => ?_, ?_⟩
  · go_simp
  go_big_quiet_on
  simp only [Act.put, List.setIfInBounds_toArray, List.set_cons_zero, List.set_cons_succ]
  go_big_quiet_want
  go_big_quiet_op
  go_big_quiet_on
  go_big_quiet_want
  refine ⟨.agg #[.int .i64 b, .slice p m cp, .bool true], fun W hW => ?_, ?_⟩
  · obtain ⟨x0, x1, x2, y0, y1⟩ := HX.out W hW
    go_simp
  go_big_quiet_on
  simp only [Act.put, List.setIfInBounds_toArray, List.set_cons_zero, List.set_cons_succ]
  go_big_quiet_want
  refine ⟨.int .i64 (szC Ts : Int), fun W hW => ?_, ?_⟩
  · go_simp
    refine (HSz.out W hW).mono ?_
    rintro e w7 ⟨rfl, hb⟩
    exact ⟨rfl, bel0 hW hb⟩
  go_big_quiet_on
  simp only [Act.put, List.setIfInBounds_toArray, List.set_cons_zero, List.set_cons_succ]
  go_big_quiet_want
  refine ⟨.agg #[.int .i64 b, .slice p2 n cp2], fun W hW => ?_, ?_⟩
  · obtain ⟨x0, x1, x2, y0, y1⟩ := HX.out W hW
    go_simp
  go_big_quiet_on
  simp only [Act.put, List.setIfInBounds_toArray, List.set_cons_zero, List.set_cons_succ]
  go_big_quiet_want
  refine ⟨.int .i64 (szC Ts : Int), fun W hW => ?_, ?_⟩
  · go_simp
    refine (HDz.out W hW).mono ?_
    rintro e w7 ⟨rfl, hb⟩
    exact ⟨rfl, bel0 hW hb⟩
  go_big_quiet_on
  simp only [Act.put, List.setIfInBounds_toArray, List.set_cons_zero, List.set_cons_succ]
  go_big_quiet_want
  refine ⟨.bool true, fun W hW => ?_, ?_⟩
  · go_simp
  go_big_quiet_on
  simp only [Act.put, List.setIfInBounds_toArray, List.set_cons_zero, List.set_cons_succ]
  go_big_quiet_want
  refine ⟨.bool true, fun W hW => ?_, ?_⟩
  · go_simp
  go_big_quiet_on
  simp only [Act.put, List.setIfInBounds_toArray, List.set_cons_zero, List.set_cons_succ]
  go_big_quiet_want
  go_big_quiet_op
  go_big_quiet_on
  go_big_quiet_want
  refine ⟨.agg #[.int .i64 b, .slice p m cp, .bool true], fun W hW => ?_, ?_⟩
  · obtain ⟨x0, x1, x2, y0, y1⟩ := HX.out W hW
    go_simp
  go_big_quiet_on
  simp only [Act.put, List.setIfInBounds_toArray, List.set_cons_zero, List.set_cons_succ]
  go_big_quiet_want
  refine ⟨.string ⟨(txC Ts).toArray⟩, fun W hW => ?_, ?_⟩
  · go_simp
    refine (HSx.out W hW).mono ?_
    rintro e w7 ⟨rfl, hb⟩
    exact ⟨rfl, bel0 hW hb⟩
  go_big_quiet_on
  simp only [Act.put, List.setIfInBounds_toArray, List.set_cons_zero, List.set_cons_succ]
  go_big_quiet_want
  refine ⟨.agg #[.int .i64 b, .slice p2 n cp2], fun W hW => ?_, ?_⟩
  · obtain ⟨x0, x1, x2, y0, y1⟩ := HX.out W hW
    go_simp
  go_big_quiet_on
  simp only [Act.put, List.setIfInBounds_toArray, List.set_cons_zero, List.set_cons_succ]
  go_big_quiet_want
  refine ⟨.string ⟨(txC Ts).toArray⟩, fun W hW => ?_, ?_⟩
  · go_simp
    refine (HDx.out W hW).mono ?_
    rintro e w7 ⟨rfl, hb⟩
    exact ⟨rfl, bel0 hW hb⟩
  go_big_quiet_on
  simp only [Act.put, List.setIfInBounds_toArray, List.set_cons_zero, List.set_cons_succ]
  go_big_quiet_want
  refine ⟨.bool true, fun W hW => ?_, ?_⟩
  · go_simp
  go_big_quiet_on
  simp only [Act.put, List.setIfInBounds_toArray, List.set_cons_zero, List.set_cons_succ]
  go_big_quiet_want
  refine ⟨.bool true, fun W hW => ?_, ?_⟩
  · go_simp
  go_big_quiet_on
  simp only [Act.put, List.setIfInBounds_toArray, List.set_cons_zero, List.set_cons_succ]
  go_big_quiet_want
  go_big_quiet_op
  go_big_quiet_on
  refine wpQuiet_nil ?_
  intro W hW
  go_wp2_with fail
  go_ret
  exact ⟨rfl, bel0 hB0 hW⟩
set_option maxRecDepth 100000 in
theorem sameL_any (b e : Int) (V V2 : Value) (Rs Ts : List (List UInt8 × List (List UInt8))) (w : World) (hTs : (ordT (topC (stl Rs))) = Ts) (h : LSP w V Rs) (hN : Rs.length ≤ 1000) (h2 : RSR w V2 Ts) (ho : szC Ts ≤ 128) (hg : gdC Ts) : Calls Tryz.prog 21 #[.agg #[.int .i64 b, V, .bool true], .int .i64 e, .agg #[.int .i64 b, V2], .int .i64 e] w fun r w' => r = .returned (.bool true) ∧ Below w.heap.size w w' := by
  obtain ⟨p, cp, rfl⟩ := h.shape
  obtain ⟨p2, cp2, rfl⟩ := h2.shape
  obtain ⟨w0, hw0⟩ : ∃ w0, (w.alloc (.cells #[.int .i64 b, .slice p (Rs.length) cp, .bool true] 24 (0, 0))).alloc (.cells #[.int .i64 b, .slice p2 (Ts.length) cp2] 27 (0, 0)) = w0 := ⟨_, rfl⟩
  have ha : w0.heap[w.heap.size]? = some (.cells #[.int .i64 b, .slice p (Rs.length) cp, .bool true] 24 (0, 0)) := by rw [← hw0]; exact alw_0 _ _ _
  have hb : w0.heap[w.heap.size + 1]? = some (.cells #[.int .i64 b, .slice p2 (Ts.length) cp2] 27 (0, 0)) := by rw [← hw0]; exact alw_1 _ _ _
  have hB0 : Below w.heap.size w w0 := by rw [← hw0]; exact belA (belA (Below.refl _ _) _) _
  have HL : Hid (∀ W, Below w0.heap.size w0 W → Calls Tryz.prog 11 #[.agg #[.int .i64 b, .slice p (Rs.length) cp, .bool true], .agg #[.int .i64 b, .slice p2 (Ts.length) cp2]] W fun e w' => e = .returned (.bool true) ∧ Below W.heap.size W w') := fun W hW => likeL_any b _ _ Rs Ts W hTs (h.below (bel0 hB0 hW)) hN (h2.later (bel0 hB0 hW)) ho hg
  have HA : Hid (w0.heap[w.heap.size]? = some (.cells #[.int .i64 b, .slice p (Rs.length) cp, .bool true] 24 (0, 0)) ∧ w0.heap[w.heap.size + 1]? = some (.cells #[.int .i64 b, .slice p2 (Ts.length) cp2] 27 (0, 0))) := ⟨ha, hb⟩
  clear ha hb h h2
  go_enter Tryz.func21, Tryz.ntmps21
  go_wp2_with fail
  refine (num_any e _).mono ?_
  rintro r W1 ⟨rfl, hb1⟩
  obtain ⟨c1, -⟩ := cells_block (keepblk3 hb1 HA.out.1)
  obtain ⟨c2, -⟩ := cells_block (keepblk3 hb1 HA.out.2)
  clear hw0
  go_wp2_with fail
  refine (HL.out W1 hb1).mono ?_
  rintro r W2 ⟨rfl, hb2⟩
  go_wp2_with fail
  go_ret
  exact ⟨rfl, bel0 hB0 (bel0 hb1 hb2)⟩
end Go.Proofs.YtkcbkeimbpopcaaGreatDoor
namespace Go.Proofs.YtkcbkeimbpopcaaGreatDoor
open Go.RowKit Go.Shelf
set_option maxRecDepth 100000 in
theorem width_any (c : List UInt8) (w : World) (gc : good c = true) : Calls Tryz.prog 63 #[.agg #[.int .i64 (c.length : Int), .int .u64 (FW c 0 : Int), .int .u64 (FW c 1 : Int), .int .u64 (FW c 2 : Int), .int .u64 (FW c 3 : Int), .int .u64 (OW c 0 : Int), .int .u64 (OW c 1 : Int), .int .u64 (OW c 2 : Int), .int .u64 (OW c 3 : Int)]] w fun e w' => e = .returned (.int .i64 (c.length : Int)) ∧ Below w.heap.size w w' := by
  obtain ⟨w2, hw2⟩ : ∃ w2, w.alloc (.cells #[.int .i64 (c.length : Int), .int .u64 (FW c 0 : Int), .int .u64 (FW c 1 : Int), .int .u64 (FW c 2 : Int), .int .u64 (FW c 3 : Int), .int .u64 (OW c 0 : Int), .int .u64 (OW c 1 : Int), .int .u64 (OW c 2 : Int), .int .u64 (OW c 3 : Int)] 54 (0, 0)) = w2 := ⟨_, rfl⟩
  have hA : w2.heap[w.heap.size]? = some (.cells #[.int .i64 (c.length : Int), .int .u64 (FW c 0 : Int), .int .u64 (FW c 1 : Int), .int .u64 (FW c 2 : Int), .int .u64 (FW c 3 : Int), .int .u64 (OW c 0 : Int), .int .u64 (OW c 1 : Int), .int .u64 (OW c 2 : Int), .int .u64 (OW c 3 : Int)] 54 (0, 0)) := by rw [← hw2]; exact alloc_get _ _
  have hB2 : Below w.heap.size w w2 := by rw [← hw2]; exact belA (Below.refl _ _) _
  obtain ⟨hcT, -⟩ := cells_block hA
  have hl : c.length ≤ 256 := by
    have := gc
    unfold good at this
    simp at this
    exact this.1
  have H1 : Calls Tryz.prog 39 #[.agg #[.int .i64 (c.length : Int), .int .u64 (FW c 0 : Int), .int .u64 (FW c 1 : Int), .int .u64 (FW c 2 : Int), .int .u64 (FW c 3 : Int), .int .u64 (OW c 0 : Int), .int .u64 (OW c 1 : Int), .int .u64 (OW c 2 : Int), .int .u64 (OW c 3 : Int)]] w2 fun e w' => e = .returned (.string ⟨c.toArray⟩) ∧ Below w2.heap.size w2 w' := text_any c w2 gc
  have h2 : (⟨c.toArray⟩ : ByteArray).size = c.length := by simp [ByteArray.size]
  clear hA
  go_enter Tryz.func63, Tryz.ntmps63
  go_wp2_with fail
  refine H1.mono ?_
  rintro e W1 ⟨rfl, hb1⟩
  go_wp2_with fail
  go_ret
  exact ⟨by simp, bel0 hB2 hb1⟩
theorem sbef_D (a b M : List UInt8) (q : Bool) (w : World) (ga : good a = true) (hM : beT a b = M) (hq : agB a b = q) : Calls Tryz.prog 65 #[.agg #[.int .i64 (a.length : Int), .int .u64 (FW a 0 : Int), .int .u64 (FW a 1 : Int), .int .u64 (FW a 2 : Int), .int .u64 (FW a 3 : Int), .int .u64 (OW a 0 : Int), .int .u64 (OW a 1 : Int), .int .u64 (OW a 2 : Int), .int .u64 (OW a 3 : Int)], .agg #[.int .i64 (b.length : Int), .int .u64 (FW b 0 : Int), .int .u64 (FW b 1 : Int), .int .u64 (FW b 2 : Int), .int .u64 (FW b 3 : Int), .int .u64 (OW b 0 : Int), .int .u64 (OW b 1 : Int), .int .u64 (OW b 2 : Int), .int .u64 (OW b 3 : Int)]] w fun e w' => e = .returned (.tuple #[.agg #[.int .i64 (M.length : Int), .int .u64 (FW M 0 : Int), .int .u64 (FW M 1 : Int), .int .u64 (FW M 2 : Int), .int .u64 (FW M 3 : Int), .int .u64 (OW M 0 : Int), .int .u64 (OW M 1 : Int), .int .u64 (OW M 2 : Int), .int .u64 (OW M 3 : Int)], .bool q]) ∧ Below w.heap.size w w' := by
  subst hM hq
  exact before_any a b w ga
set_option maxRecDepth 100000 in
set_option maxHeartbeats 4000000 in
theorem allBefore_any (r : List UInt8) (L : List (List UInt8)) (n : Nat) (p : Option Addr) (cp : Nat) (w : World) (hn : L.length = n) (hN : n ≤ 1000) (gL : ∀ x ∈ L, good x = true) (hr : IRC w p L) :
    Calls Tryz.prog 66 #[.slice p n cp, .agg #[.int .i64 (r.length : Int), .int .u64 (FW r 0 : Int), .int .u64 (FW r 1 : Int), .int .u64 (FW r 2 : Int), .int .u64 (FW r 3 : Int), .int .u64 (OW r 0 : Int), .int .u64 (OW r 1 : Int), .int .u64 (OW r 2 : Int), .int .u64 (OW r 3 : Int)]] w fun e w' => ∃ v, e = .returned v ∧ w'.ownsRow w.heap.size 54 9 v (bfL r L).length (ces (bfL r L)) ∧ Below w.heap.size w w' := by
  obtain ⟨i0, hi, hz0, hz1, hz2⟩ := info_parts info_cubeQ
  obtain ⟨w2, hw2⟩ : ∃ w2, w.alloc (.cells #[.int .i64 (r.length : Int), .int .u64 (FW r 0 : Int), .int .u64 (FW r 1 : Int), .int .u64 (FW r 2 : Int), .int .u64 (FW r 3 : Int), .int .u64 (OW r 0 : Int), .int .u64 (OW r 1 : Int), .int .u64 (OW r 2 : Int), .int .u64 (OW r 3 : Int)] 54 (0, 0)) = w2 := ⟨_, rfl⟩
  have hA : w2.heap[w.heap.size]? = some (.cells #[.int .i64 (r.length : Int), .int .u64 (FW r 0 : Int), .int .u64 (FW r 1 : Int), .int .u64 (FW r 2 : Int), .int .u64 (FW r 3 : Int), .int .u64 (OW r 0 : Int), .int .u64 (OW r 1 : Int), .int .u64 (OW r 2 : Int), .int .u64 (OW r 3 : Int)] 54 (0, 0)) := by rw [← hw2]; exact alloc_get _ _
  have hB2 : Below w.heap.size w w2 := by rw [← hw2]; exact belA (Below.refl _ _) _
  have HA : Hid (w2.heap[w.heap.size]? = some (.cells #[.int .i64 (r.length : Int), .int .u64 (FW r 0 : Int), .int .u64 (FW r 1 : Int), .int .u64 (FW r 2 : Int), .int .u64 (FW r 3 : Int), .int .u64 (OW r 0 : Int), .int .u64 (OW r 1 : Int), .int .u64 (OW r 2 : Int), .int .u64 (OW r 3 : Int)] 54 (0, 0)) ∧ Below w.heap.size w w2) := ⟨hA, hB2⟩
  have HR : Hid (IRC w2 p L) := hr.later hB2
  have HN : Hid (L.length = n) := hn
  have HG : Hid (∀ x ∈ L, good x = true) := gL
  clear hA hB2 hr hn gL
  go_enter Tryz.func66, Tryz.ntmps66
  go_wp2_with (at_make; refine wpList_make_own _ rfl _ _ 71 rfl w2.heap.size 54 i0 _ 9 Tryz.underlying71 hi hz0 hz1 .i64 .i64 _ n rfl rfl rfl (by rw [hz2]; omega) (by unfold maxLen; omega) (by first | exact Nat.le_refl _ | (rw [← hw2]; exact Nat.le_refl _)) ?_; intro w3 o3 g3)
  have HS0 : Hid (w3.ownsRow w2.heap.size 54 9 (.slice (some ⟨w2.heap.size, 0, none⟩) 0 n) (bfL r (L.take 0)).length (ces (bfL r (L.take 0))) ∧ Below w2.heap.size w2 w3) := by
    refine ⟨?_, (Below.refl _ _).grown g3 (Nat.le_refl _) (fun b e => by cases e)⟩
    simpa [bfL, ces] using o3
  clear hw2 o3 g3
  go_loopw [5, 15] (fun v5 v15 wr => ∃ k : Nat, v15 = .int .i64 (k : Int) ∧ k ≤ n ∧ Hid (wr.ownsRow w2.heap.size 54 9 v5 (bfL r (L.take k)).length (ces (bfL r (L.take k))) ∧ Below w2.heap.size w2 wr)) (fun _ v15 _ => n - (intOf v15).toNat)
  case atStart => exact ⟨0, rfl, Nat.zero_le _, HS0⟩
  case round =>
    clear HS0
    obtain ⟨k, rfl, hk, hS⟩ := hrel
    by_cases hlt : k < n
    · have j1 : (k : Int) < (n : Int) := by omega
      have j0 : (0 : Int) ≤ (k : Int) := by omega
      obtain ⟨x, hx⟩ : ∃ x, L[k]? = some x := ⟨_, List.getElem?_eq_getElem (by rw [HN.out]; exact hlt)⟩
      obtain ⟨gq, oq, rfl, p0, p1, p2, p3, p4, p5, p6, p7, p8⟩ := HR.out wr hS.out.2 k x hx
      have gx : good x = true := HG.out x (List.mem_of_getElem? hx)
      have hst := bfL_step (r := r) hx
      have hlm : (bfL r (L.take k)).length ≤ 1000 := by
        have h1 := bfL_len r (L.take k)
        rw [List.length_take] at h1
        omega
      obtain ⟨Lj, hLj⟩ : ∃ l, bfL r (L.take k) = l := ⟨_, rfl⟩
      rw [hLj] at hst hlm
      have hSo := hS.out
      rw [hLj] at hSo
      obtain ⟨wa, hwa⟩ : ∃ wa, wr.alloc (.cells #[.int .i64 (x.length : Int), .int .u64 (FW x 0 : Int), .int .u64 (FW x 1 : Int), .int .u64 (FW x 2 : Int), .int .u64 (FW x 3 : Int), .int .u64 (OW x 0 : Int), .int .u64 (OW x 1 : Int), .int .u64 (OW x 2 : Int), .int .u64 (OW x 3 : Int)] 54 (0, 0)) = wa := ⟨_, rfl⟩
      have hal : Below wr.heap.size wr wa := by rw [← hwa]; exact belA (Below.refl _ _) _
      have hBa := bel0 hSo.2 hal
      obtain ⟨d0, d1, d2, d3, d4, d5, d6, d7, d8⟩ : CB wa wr.heap.size 0 x := CB_of (by rw [← hwa]; exact alloc_get _ _)
      obtain ⟨e0, e1, e2, e3, e4, e5, e6, e7, e8⟩ : CB wa w.heap.size 0 r := CB_of (keepblk3 hBa HA.out.1)
      obtain ⟨D, hD⟩ : ∃ D, beT x r = D := ⟨_, rfl⟩
      obtain ⟨q, hq⟩ : ∃ q, agB x r = q := ⟨_, rfl⟩
      have HMM : Hid (Calls Tryz.prog 65 #[.agg #[.int .i64 (x.length : Int), .int .u64 (FW x 0 : Int), .int .u64 (FW x 1 : Int), .int .u64 (FW x 2 : Int), .int .u64 (FW x 3 : Int), .int .u64 (OW x 0 : Int), .int .u64 (OW x 1 : Int), .int .u64 (OW x 2 : Int), .int .u64 (OW x 3 : Int)], .agg #[.int .i64 (r.length : Int), .int .u64 (FW r 0 : Int), .int .u64 (FW r 1 : Int), .int .u64 (FW r 2 : Int), .int .u64 (FW r 3 : Int), .int .u64 (OW r 0 : Int), .int .u64 (OW r 1 : Int), .int .u64 (OW r 2 : Int), .int .u64 (OW r 3 : Int)]] wa fun e w' => e = .returned (.tuple #[.agg #[.int .i64 (D.length : Int), .int .u64 (FW D 0 : Int), .int .u64 (FW D 1 : Int), .int .u64 (FW D 2 : Int), .int .u64 (FW D 3 : Int), .int .u64 (OW D 0 : Int), .int .u64 (OW D 1 : Int), .int .u64 (OW D 2 : Int), .int .u64 (OW D 3 : Int)], .bool q]) ∧ Below wa.heap.size wa w') := sbef_D x r D q wa gx hD hq
      rw [hD, hq] at hst
      have HST : Hid (bfL r (L.take (k + 1)) = Lj ++ (if q = true then [D] else []) ∧ Below w2.heap.size w2 wa ∧ wa.ownsRow w2.heap.size 54 9 u5 Lj.length (ces Lj)) := ⟨hst, hBa, own_belQ hSo.1 hal⟩
      clear hx gx hst hLj hS hSo hD hq hal hBa
      go_wp2_with fail
      refine HMM.out.mono ?_
      rintro e W1 ⟨rfl, hb1⟩
      clear HMM hwa d0 d1 d2 d3 d4 d5 d6 d7 d8 e0 e1 e2 e3 e4 e5 e6 e7 e8 p0 p1 p2 p3 p4 p5 p6 p7 p8
      have hB1 := bel0 HST.out.2.1 hb1
      have o1 : W1.ownsRow w2.heap.size 54 9 u5 Lj.length (ces Lj) := own_belQ HST.out.2.2 hb1
      cases q with
      | false =>
        have HE : Hid ((W1.alloc (.cells #[.int .i64 (D.length : Int), .int .u64 (FW D 0 : Int), .int .u64 (FW D 1 : Int), .int .u64 (FW D 2 : Int), .int .u64 (FW D 3 : Int), .int .u64 (OW D 0 : Int), .int .u64 (OW D 1 : Int), .int .u64 (OW D 2 : Int), .int .u64 (OW D 3 : Int)] 54 (0, 0))).ownsRow w2.heap.size 54 9 u5 (bfL r (L.take (k + 1))).length (ces (bfL r (L.take (k + 1)))) ∧ Below w2.heap.size w2 (W1.alloc (.cells #[.int .i64 (D.length : Int), .int .u64 (FW D 0 : Int), .int .u64 (FW D 1 : Int), .int .u64 (FW D 2 : Int), .int .u64 (FW D 3 : Int), .int .u64 (OW D 0 : Int), .int .u64 (OW D 1 : Int), .int .u64 (OW D 2 : Int), .int .u64 (OW D 3 : Int)] 54 (0, 0)))) := by
          unfold Hid
          rw [HST.out.1, if_neg (by simp), List.append_nil]
          exact ⟨o1.alloc _, belA hB1 _⟩
        clear o1 hB1 hb1
        go_wp2_with fail
        go_roundw
        case rel => exact ⟨k + 1, by go_num, by omega, HE⟩
        case measure => simp [intOf]; omega
      | true =>
        obtain ⟨W9, hW9⟩ : ∃ W9, W1.alloc (.cells #[.int .i64 (D.length : Int), .int .u64 (FW D 0 : Int), .int .u64 (FW D 1 : Int), .int .u64 (FW D 2 : Int), .int .u64 (FW D 3 : Int), .int .u64 (OW D 0 : Int), .int .u64 (OW D 1 : Int), .int .u64 (OW D 2 : Int), .int .u64 (OW D 3 : Int)] 54 (0, 0)) = W9 := ⟨_, rfl⟩
        have hB9 : Below w2.heap.size w2 W9 := by rw [← hW9]; exact belA hB1 _
        have o9 : W9.ownsRow w2.heap.size 54 9 u5 Lj.length (ces Lj) := by rw [← hW9]; exact o1.alloc _
        obtain ⟨d0, d1, d2, d3, d4, d5, d6, d7, d8⟩ : CB W9 W1.heap.size 0 D := CB_of (by rw [← hW9]; exact alloc_get _ _)
        have hs9 := hB9.size
        clear o1 hB1 hb1
        go_wp2_with (at_builtin; refine wpList_append_own _ rfl _ _ 71 rfl w2.heap.size 54 i0 _ 9 72 Tryz.underlying71 hi hz0 hz1 hz2 rfl (by decide) _ _ _ rfl (o9.alloc _) ⟨_, 0, none⟩ 1 1 (ce9 D) rfl rfl (World.news_of_block (cs := #[.int .i64 (D.length : Int), .int .u64 (FW D 0 : Int), .int .u64 (FW D 1 : Int), .int .u64 (FW D 2 : Int), .int .u64 (FW D 3 : Int), .int .u64 (OW D 0 : Int), .int .u64 (OW D 1 : Int), .int .u64 (OW D 2 : Int), .int .u64 (OW D 3 : Int)]) (t := 54) (fr := (0, 0)) (alloc_get _ _)) (by simp [ce9, Value.oneCell']) (by unfold maxLen; omega) (by omega) (by simp; omega) ?_; intro v4 w4 o4 g4 _)
        have HE : Hid (w4.ownsRow w2.heap.size 54 9 v4 (bfL r (L.take (k + 1))).length (ces (bfL r (L.take (k + 1)))) ∧ Below w2.heap.size w2 w4) := by
          unfold Hid
          rw [HST.out.1, if_pos (by first | rfl | trivial), List.length_append, ces_snoc]
          exact ⟨o4, (belA hB9 _).grown g4 (by simp; omega) (fun b e => (o9.lt b e).1)⟩
        clear o9 o4 g4
        go_wp2_with fail
        go_roundw
        case rel => exact ⟨k + 1, by go_num, by omega, HE⟩
        case measure => simp [intOf]; omega
    · have j1 : ¬ (k : Int) < (n : Int) := by omega
      obtain rfl : k = n := by omega
      have HF : Hid (wr.ownsRow w.heap.size 54 9 u5 (bfL r L).length (ces (bfL r L)) ∧ Below w.heap.size w wr) := by
        have h := hS.out
        rw [List.take_of_length_le (by rw [HN.out]; exact Nat.le_refl _)] at h
        exact ⟨own_base h.1 HA.out.2.size, bel0 HA.out.2 h.2⟩
      clear hS
      go_wp2_with fail
      go_ret
      exact ⟨_, rfl, HF.out⟩
end Go.Proofs.YtkcbkeimbpopcaaGreatDoor

import Derived.Test.YtpbbmmkhlpkkbaaGreatDoorXAP
import Derived.Test.YtpbbmmkhlpkkbaaGreatDoorXAG
import Derived.BigQuiet
namespace Go.Proofs.YtpbbmmkhlpkkbaaGreatDoor
open Go.RowKit Go.Shelf
theorem res_sG {fn : Func} {p u : Tmp} {m : Nat × Nat} (tmps : Array Value) (W : World) (b : Nat) (v0 v1 v2 : Value) (hr : fn.results = #[.cell p 25, .tmp u]) (hp : tmps.getD p undef = .pointer (some ⟨b, 0, none⟩)) (h : W.heap[b]? = some (.cells #[v0, v1, v2] 25 m)) :
    (results fn tmps).run Tryz.prog W = .ok (.tuple #[.agg #[v0, v1, v2], tmps.getD u undef]) W := by
  have hc : ∀ j, W.cell? ⟨b, j, none⟩ = (#[v0, v1, v2] : Array Value)[j]? := by
    intro j; unfold World.cell?; rw [h]; simp
  rw [results_cell_tmp hr, hp]
  simp [go_sem, hc]
theorem fitsG (b x : Int) (p : Option Addr) (n c : Nat) (w : World) : Calls Tryz.prog 29 #[.agg #[.int .i64 b, .slice p n c, .bool false], .int .i64 x] w fun e w' => e = .returned (.bool (!(b == 0) && (b == x))) ∧ Below w.heap.size w w' := by
  obtain ⟨w2, hw2⟩ : ∃ w2, w.alloc (.cells #[.int .i64 b, .slice p n c, .bool false] 25 (0, 0)) = w2 := ⟨_, rfl⟩
  have h0 : w2.heap[w.heap.size]? = some (.cells #[.int .i64 b, .slice p n c, .bool false] 25 (0, 0)) := by rw [← hw2]; exact alloc_get _ _
  have hB : Below w.heap.size w w2 := by rw [← hw2]; exact belA (Below.refl _ _) _
  obtain ⟨hc0, -⟩ := cells_block h0
  have HB : Hid (Below w.heap.size w w2) := hB
  clear h0 hB
  by_cases hz : b = 0
  · have m1 : (b != 0) = false := by simpa using hz
    have m2 : (b == 0) = true := by simpa using hz
    have HR : Hid ((!(b == 0) && (b == x)) = false) := by unfold Hid; rw [m2]; rfl
    clear hz m2
    go_enter Tryz.func29, Tryz.ntmps29
    go_wp2_with fail
    go_ret
    exact ⟨by rw [HR.out]; rfl, HB.out⟩
  · have m1 : (b != 0) = true := by simpa using hz
    have m2 : (b == 0) = false := by simpa using hz
    obtain ⟨q, hq⟩ : ∃ q, (b == x) = q := ⟨_, rfl⟩
    have HR : Hid ((!(b == 0) && (b == x)) = q) := by unfold Hid; rw [m2, hq]; rfl
    clear hz m2
    go_enter Tryz.func29, Tryz.ntmps29
    go_wp2_with fail
    go_ret
    exact ⟨by rw [HR.out]; rfl, HB.out⟩
set_option maxRecDepth 100000 in
set_option maxHeartbeats 4000000 in
theorem joinW (b b2 : Int) (p1 p2 : Option Addr) (n1 k1 n2 k2 : Nat) (w : World) (hf : (!(b == 0) && (b == b2)) = false) :
    Calls Tryz.prog 10 #[.agg #[.int .i64 b, .slice p1 n1 k1, .bool false], .agg #[.int .i64 b2, .slice p2 n2 k2, .bool false]] w fun e w' => e = .returned (.tuple #[.agg #[.int .i64 0, .slice none 0 0, .bool false], .int .i64 11]) ∧ Below w.heap.size w w' := by
  obtain ⟨wA, hwA⟩ : ∃ wA, (((w.alloc (.cells #[.int .i64 b, .slice p1 n1 k1, .bool false] 25 (0, 0))).alloc (.cells #[.int .i64 b2, .slice p2 n2 k2, .bool false] 25 (0, 0))).alloc (.cells #[.int .i64 0, .slice none 0 0, .bool false] 25 (0, 0))) = wA := ⟨_, rfl⟩
  have hBA : Below w.heap.size w wA := by rw [← hwA]; exact belA (belA (belA (Below.refl _ _) _) _) _
  have d1 : wA.heap[w.heap.size]? = some (.cells #[.int .i64 b, .slice p1 n1 k1, .bool false] 25 (0, 0)) := by rw [← hwA, Below.heap_alloc _ _ _ (by simp <;> omega)]; exact alw_0 _ _ _
  have d2 : wA.heap[w.heap.size + 1]? = some (.cells #[.int .i64 b2, .slice p2 n2 k2, .bool false] 25 (0, 0)) := by rw [← hwA, Below.heap_alloc _ _ _ (by simp <;> omega)]; exact alw_1 _ _ _
  have d3 : wA.heap[w.heap.size + 1 + 1]? = some (.cells #[.int .i64 0, .slice none 0 0, .bool false] 25 (0, 0)) := by rw [← hwA]; have := alloc_get ((w.alloc (.cells #[.int .i64 b, .slice p1 n1 k1, .bool false] 25 (0, 0))).alloc (.cells #[.int .i64 b2, .slice p2 n2 k2, .bool false] 25 (0, 0))) (.cells #[.int .i64 0, .slice none 0 0, .bool false] 25 (0, 0)); simpa using this
  have HD : Hid (∀ W, Below wA.heap.size wA W → W.heap[w.heap.size + 1 + 1]? = some (.cells #[.int .i64 0, .slice none 0 0, .bool false] 25 (0, 0)) ∧ Below w.heap.size w W) := fun W hW => ⟨keepblk3 hW d3, bel0 hBA hW⟩
  have hmf : ∀ (fn : Fn) (first cap : Array Value) (w : World), (Instr.makeFunc fn first cap).run Tryz.prog w = .ok (.func fn first cap) w := fun _ _ _ _ => rfl
  obtain ⟨hc1, -⟩ := cells_block d1
  obtain ⟨hc2, -⟩ := cells_block d2
  have HF : Hid (Calls Tryz.prog 29 #[.agg #[.int .i64 b, .slice p1 n1 k1, .bool false], .int .i64 b2] wA fun e w' => e = .returned (.bool false) ∧ Below wA.heap.size wA w') := by
    have h := fitsG b b2 p1 n1 k1 wA
    rw [hf] at h
    exact h
  clear hBA d1 d2 d3 hf
  go_enter Tryz.func10, Tryz.ntmps10
  go_wp2_with fail
  refine HF.out.mono ?_
  rintro e W1 ⟨rfl, hb1⟩
  obtain ⟨k3, hB1⟩ := HD.out W1 hb1
  obtain ⟨hc3, hf3⟩ := cells_block k3
  have HP : Hid ((((W1.setCell ⟨w.heap.size + 1 + 1, 0, none⟩ (.int .i64 0)).setCell ⟨w.heap.size + 1 + 1, 1, none⟩ (.slice none 0 0)).setCell ⟨w.heap.size + 1 + 1, 2, none⟩ (.bool false)).heap[w.heap.size + 1 + 1]? = some (.cells #[.int .i64 0, .slice none 0 0, .bool false] 25 (0, 0)) ∧ Below w.heap.size w (((W1.setCell ⟨w.heap.size + 1 + 1, 0, none⟩ (.int .i64 0)).setCell ⟨w.heap.size + 1 + 1, 1, none⟩ (.slice none 0 0)).setCell ⟨w.heap.size + 1 + 1, 2, none⟩ (.bool false))) := ⟨put3w _ _ _ k3, ((hB1.setCell (by simp; omega) _).setCell (by simp; omega) _).setCell (by simp; omega) _⟩
  clear hc1 hc2 k3 hwA hb1 hB1
  go_wp2_with fail
  refine bodyPost_ret (v := .tuple #[.agg #[.int .i64 0, .slice none 0 0, .bool false], .int .i64 11]) (res_sG _ _ (w.heap.size + 1 + 1) _ _ _ Tryz.results10 rfl HP.out.1) rfl ?_
  exact ⟨rfl, HP.out.2⟩
set_option maxRecDepth 100000 in
set_option maxHeartbeats 4000000 in
theorem meetW (b b2 : Int) (p1 p2 : Option Addr) (n1 k1 n2 k2 : Nat) (w : World) (hf : (!(b == 0) && (b == b2)) = false) :
    Calls Tryz.prog 11 #[.agg #[.int .i64 b, .slice p1 n1 k1, .bool false], .agg #[.int .i64 b2, .slice p2 n2 k2, .bool false]] w fun e w' => e = .returned (.tuple #[.agg #[.int .i64 0, .slice none 0 0, .bool false], .int .i64 11]) ∧ Below w.heap.size w w' := by
  obtain ⟨wA, hwA⟩ : ∃ wA, (((w.alloc (.cells #[.int .i64 b, .slice p1 n1 k1, .bool false] 25 (0, 0))).alloc (.cells #[.int .i64 b2, .slice p2 n2 k2, .bool false] 25 (0, 0))).alloc (.cells #[.int .i64 0, .slice none 0 0, .bool false] 25 (0, 0))) = wA := ⟨_, rfl⟩
  have hBA : Below w.heap.size w wA := by rw [← hwA]; exact belA (belA (belA (Below.refl _ _) _) _) _
  have d1 : wA.heap[w.heap.size]? = some (.cells #[.int .i64 b, .slice p1 n1 k1, .bool false] 25 (0, 0)) := by rw [← hwA, Below.heap_alloc _ _ _ (by simp <;> omega)]; exact alw_0 _ _ _
  have d2 : wA.heap[w.heap.size + 1]? = some (.cells #[.int .i64 b2, .slice p2 n2 k2, .bool false] 25 (0, 0)) := by rw [← hwA, Below.heap_alloc _ _ _ (by simp <;> omega)]; exact alw_1 _ _ _
  have d3 : wA.heap[w.heap.size + 1 + 1]? = some (.cells #[.int .i64 0, .slice none 0 0, .bool false] 25 (0, 0)) := by rw [← hwA]; have := alloc_get ((w.alloc (.cells #[.int .i64 b, .slice p1 n1 k1, .bool false] 25 (0, 0))).alloc (.cells #[.int .i64 b2, .slice p2 n2 k2, .bool false] 25 (0, 0))) (.cells #[.int .i64 0, .slice none 0 0, .bool false] 25 (0, 0)); simpa using this
  have HD : Hid (∀ W, Below wA.heap.size wA W → W.heap[w.heap.size + 1 + 1]? = some (.cells #[.int .i64 0, .slice none 0 0, .bool false] 25 (0, 0)) ∧ Below w.heap.size w W) := fun W hW => ⟨keepblk3 hW d3, bel0 hBA hW⟩
  have hmf : ∀ (fn : Fn) (first cap : Array Value) (w : World), (Instr.makeFunc fn first cap).run Tryz.prog w = .ok (.func fn first cap) w := fun _ _ _ _ => rfl
  obtain ⟨hc1, -⟩ := cells_block d1
  obtain ⟨hc2, -⟩ := cells_block d2
  have HF : Hid (Calls Tryz.prog 29 #[.agg #[.int .i64 b, .slice p1 n1 k1, .bool false], .int .i64 b2] wA fun e w' => e = .returned (.bool false) ∧ Below wA.heap.size wA w') := by
    have h := fitsG b b2 p1 n1 k1 wA
    rw [hf] at h
    exact h
  clear hBA d1 d2 d3 hf
  go_enter Tryz.func11, Tryz.ntmps11
  go_wp2_with fail
  refine HF.out.mono ?_
  rintro e W1 ⟨rfl, hb1⟩
  obtain ⟨k3, hB1⟩ := HD.out W1 hb1
  obtain ⟨hc3, hf3⟩ := cells_block k3
  have HP : Hid ((((W1.setCell ⟨w.heap.size + 1 + 1, 0, none⟩ (.int .i64 0)).setCell ⟨w.heap.size + 1 + 1, 1, none⟩ (.slice none 0 0)).setCell ⟨w.heap.size + 1 + 1, 2, none⟩ (.bool false)).heap[w.heap.size + 1 + 1]? = some (.cells #[.int .i64 0, .slice none 0 0, .bool false] 25 (0, 0)) ∧ Below w.heap.size w (((W1.setCell ⟨w.heap.size + 1 + 1, 0, none⟩ (.int .i64 0)).setCell ⟨w.heap.size + 1 + 1, 1, none⟩ (.slice none 0 0)).setCell ⟨w.heap.size + 1 + 1, 2, none⟩ (.bool false))) := ⟨put3w _ _ _ k3, ((hB1.setCell (by simp; omega) _).setCell (by simp; omega) _).setCell (by simp; omega) _⟩
  clear hc1 hc2 k3 hwA hb1 hB1
  go_wp2_with fail
  refine bodyPost_ret (v := .tuple #[.agg #[.int .i64 0, .slice none 0 0, .bool false], .int .i64 11]) (res_sG _ _ (w.heap.size + 1 + 1) _ _ _ Tryz.results11 rfl HP.out.1) rfl ?_
  exact ⟨rfl, HP.out.2⟩
set_option maxRecDepth 100000 in
set_option maxHeartbeats 4000000 in
theorem minusW (b b2 : Int) (p1 p2 : Option Addr) (n1 k1 n2 k2 : Nat) (w : World) (hf : (!(b == 0) && (b == b2)) = false) :
    Calls Tryz.prog 12 #[.agg #[.int .i64 b, .slice p1 n1 k1, .bool false], .agg #[.int .i64 b2, .slice p2 n2 k2, .bool false]] w fun e w' => e = .returned (.tuple #[.agg #[.int .i64 0, .slice none 0 0, .bool false], .int .i64 11]) ∧ Below w.heap.size w w' := by
  obtain ⟨wA, hwA⟩ : ∃ wA, (((w.alloc (.cells #[.int .i64 b, .slice p1 n1 k1, .bool false] 25 (0, 0))).alloc (.cells #[.int .i64 b2, .slice p2 n2 k2, .bool false] 25 (0, 0))).alloc (.cells #[.int .i64 0, .slice none 0 0, .bool false] 25 (0, 0))) = wA := ⟨_, rfl⟩
  have hBA : Below w.heap.size w wA := by rw [← hwA]; exact belA (belA (belA (Below.refl _ _) _) _) _
  have d1 : wA.heap[w.heap.size]? = some (.cells #[.int .i64 b, .slice p1 n1 k1, .bool false] 25 (0, 0)) := by rw [← hwA, Below.heap_alloc _ _ _ (by simp <;> omega)]; exact alw_0 _ _ _
  have d2 : wA.heap[w.heap.size + 1]? = some (.cells #[.int .i64 b2, .slice p2 n2 k2, .bool false] 25 (0, 0)) := by rw [← hwA, Below.heap_alloc _ _ _ (by simp <;> omega)]; exact alw_1 _ _ _
  have d3 : wA.heap[w.heap.size + 1 + 1]? = some (.cells #[.int .i64 0, .slice none 0 0, .bool false] 25 (0, 0)) := by rw [← hwA]; have := alloc_get ((w.alloc (.cells #[.int .i64 b, .slice p1 n1 k1, .bool false] 25 (0, 0))).alloc (.cells #[.int .i64 b2, .slice p2 n2 k2, .bool false] 25 (0, 0))) (.cells #[.int .i64 0, .slice none 0 0, .bool false] 25 (0, 0)); simpa using this
  have HD : Hid (∀ W, Below wA.heap.size wA W → W.heap[w.heap.size + 1 + 1]? = some (.cells #[.int .i64 0, .slice none 0 0, .bool false] 25 (0, 0)) ∧ Below w.heap.size w W) := fun W hW => ⟨keepblk3 hW d3, bel0 hBA hW⟩
  have hmf : ∀ (fn : Fn) (first cap : Array Value) (w : World), (Instr.makeFunc fn first cap).run Tryz.prog w = .ok (.func fn first cap) w := fun _ _ _ _ => rfl
  obtain ⟨hc1, -⟩ := cells_block d1
  obtain ⟨hc2, -⟩ := cells_block d2
  have HF : Hid (Calls Tryz.prog 29 #[.agg #[.int .i64 b, .slice p1 n1 k1, .bool false], .int .i64 b2] wA fun e w' => e = .returned (.bool false) ∧ Below wA.heap.size wA w') := by
    have h := fitsG b b2 p1 n1 k1 wA
    rw [hf] at h
    exact h
  clear hBA d1 d2 d3 hf
  go_enter Tryz.func12, Tryz.ntmps12
  go_wp2_with fail
  refine HF.out.mono ?_
  rintro e W1 ⟨rfl, hb1⟩
  obtain ⟨k3, hB1⟩ := HD.out W1 hb1
  obtain ⟨hc3, hf3⟩ := cells_block k3
  have HP : Hid ((((W1.setCell ⟨w.heap.size + 1 + 1, 0, none⟩ (.int .i64 0)).setCell ⟨w.heap.size + 1 + 1, 1, none⟩ (.slice none 0 0)).setCell ⟨w.heap.size + 1 + 1, 2, none⟩ (.bool false)).heap[w.heap.size + 1 + 1]? = some (.cells #[.int .i64 0, .slice none 0 0, .bool false] 25 (0, 0)) ∧ Below w.heap.size w (((W1.setCell ⟨w.heap.size + 1 + 1, 0, none⟩ (.int .i64 0)).setCell ⟨w.heap.size + 1 + 1, 1, none⟩ (.slice none 0 0)).setCell ⟨w.heap.size + 1 + 1, 2, none⟩ (.bool false))) := ⟨put3w _ _ _ k3, ((hB1.setCell (by simp; omega) _).setCell (by simp; omega) _).setCell (by simp; omega) _⟩
  clear hc1 hc2 k3 hwA hb1 hB1
  go_wp2_with fail
  refine bodyPost_ret (v := .tuple #[.agg #[.int .i64 0, .slice none 0 0, .bool false], .int .i64 11]) (res_sG _ _ (w.heap.size + 1 + 1) _ _ _ Tryz.results12 rfl HP.out.1) rfl ?_
  exact ⟨rfl, HP.out.2⟩
set_option maxRecDepth 100000 in
theorem widthZ (w : World) : Calls Tryz.prog 41 #[.agg #[.int .i64 0, .int .u64 0, .int .u64 0, .int .u64 0, .int .u64 0, .int .u64 0, .int .u64 0, .int .u64 0, .int .u64 0]] w fun e w' => e = .returned (.int .i64 0) ∧ Below w.heap.size w w' := by
  obtain ⟨w2, hw2⟩ : ∃ w2, w.alloc (.cells #[.int .i64 0, .int .u64 0, .int .u64 0, .int .u64 0, .int .u64 0, .int .u64 0, .int .u64 0, .int .u64 0, .int .u64 0] 38 (0, 0)) = w2 := ⟨_, rfl⟩
  have hA : w2.heap[w.heap.size]? = some (.cells #[.int .i64 0, .int .u64 0, .int .u64 0, .int .u64 0, .int .u64 0, .int .u64 0, .int .u64 0, .int .u64 0, .int .u64 0] 38 (0, 0)) := by rw [← hw2]; exact alloc_get _ _
  have hB2 : Below w.heap.size w w2 := by rw [← hw2]; exact belA (Below.refl _ _) _
  obtain ⟨hcT, -⟩ := cells_block hA
  have H1 : Calls Tryz.prog 26 #[.agg #[.int .i64 0, .int .u64 0, .int .u64 0, .int .u64 0, .int .u64 0, .int .u64 0, .int .u64 0, .int .u64 0, .int .u64 0]] w2 fun e w' => e = .returned (.string ⟨#[]⟩) ∧ Below w2.heap.size w2 w' := text_any [] w2 (by decide)
  clear hA
  go_enter Tryz.func41, Tryz.ntmps41
  go_wp2_with fail
  refine H1.mono ?_
  rintro e W1 ⟨rfl, hb1⟩
  go_wp2_with fail
  go_ret
  exact ⟨by simp, bel0 hB2 hb1⟩
set_option maxRecDepth 100000 in
set_option maxHeartbeats 4000000 in
theorem beforeW (b : Int) (p1 : Option Addr) (n1 k1 : Nat) (w : World) :
    Calls Tryz.prog 13 #[.agg #[.int .i64 b, .slice p1 n1 k1, .bool false], .agg #[.int .i64 0, .int .u64 0, .int .u64 0, .int .u64 0, .int .u64 0, .int .u64 0, .int .u64 0, .int .u64 0, .int .u64 0]] w fun e w' => e = .returned (.tuple #[.agg #[.int .i64 0, .slice none 0 0, .bool false], .int .i64 11]) ∧ Below w.heap.size w w' := by
  obtain ⟨w2, hw2⟩ : ∃ wA, (((w.alloc (.cells #[.int .i64 b, .slice p1 n1 k1, .bool false] 25 (0, 0))).alloc (.cells #[.int .i64 0, .int .u64 0, .int .u64 0, .int .u64 0, .int .u64 0, .int .u64 0, .int .u64 0, .int .u64 0, .int .u64 0] 38 (0, 0))).alloc (.cells #[.int .i64 0, .slice none 0 0, .bool false] 25 (0, 0))) = wA := ⟨_, rfl⟩
  have hB2 : Below w.heap.size w w2 := by rw [← hw2]; exact belA (belA (belA (Below.refl _ _) _) _) _
  have d1 : w2.heap[w.heap.size]? = some (.cells #[.int .i64 b, .slice p1 n1 k1, .bool false] 25 (0, 0)) := by rw [← hw2, Below.heap_alloc _ _ _ (by simp <;> omega)]; exact alw_0 _ _ _
  have d2 : w2.heap[w.heap.size + 1]? = some (.cells #[.int .i64 0, .int .u64 0, .int .u64 0, .int .u64 0, .int .u64 0, .int .u64 0, .int .u64 0, .int .u64 0, .int .u64 0] 38 (0, 0)) := by rw [← hw2, Below.heap_alloc _ _ _ (by simp <;> omega)]; exact alw_1 _ _ _
  have d3 : w2.heap[w.heap.size + 1 + 1]? = some (.cells #[.int .i64 0, .slice none 0 0, .bool false] 25 (0, 0)) := by rw [← hw2]; have := alloc_get ((w.alloc (.cells #[.int .i64 b, .slice p1 n1 k1, .bool false] 25 (0, 0))).alloc (.cells #[.int .i64 0, .int .u64 0, .int .u64 0, .int .u64 0, .int .u64 0, .int .u64 0, .int .u64 0, .int .u64 0, .int .u64 0] 38 (0, 0))) (.cells #[.int .i64 0, .slice none 0 0, .bool false] 25 (0, 0)); simpa using this
  have HK : Hid (∀ W, Below w2.heap.size w2 W → ((∀ j, W.cell? ⟨w.heap.size, j, none⟩ = (#[.int .i64 b, .slice p1 n1 k1, .bool false] : Array Value)[j]?) ∧ (∀ j, W.cell? ⟨w.heap.size + 1, j, none⟩ = (#[.int .i64 0, .int .u64 0, .int .u64 0, .int .u64 0, .int .u64 0, .int .u64 0, .int .u64 0, .int .u64 0, .int .u64 0] : Array Value)[j]?))) := fun W hW => ⟨(cells_block (keepblk3 hW d1)).1, (cells_block (keepblk3 hW d2)).1⟩
  have HRS : Hid (∀ W, Below w2.heap.size w2 W → W.heap[w.heap.size + 1 + 1]? = some (.cells #[.int .i64 0, .slice none 0 0, .bool false] 25 (0, 0)) ∧ Below w.heap.size w W) := fun W hW => ⟨keepblk3 hW d3, bel0 hB2 hW⟩
  have hq : (!(b == 0) && (b == 0)) = false := by cases b == 0 <;> rfl
  have HF : Hid (∀ W, Calls Tryz.prog 29 #[.agg #[.int .i64 b, .slice p1 n1 k1, .bool false], .int .i64 0] W fun e w' => e = .returned (.bool false) ∧ Below W.heap.size W w') := fun W => by
    have h := fitsG b 0 p1 n1 k1 W
    rw [hq] at h
    exact h
  have HWD : Hid (∀ W, Calls Tryz.prog 41 #[.agg #[.int .i64 0, .int .u64 0, .int .u64 0, .int .u64 0, .int .u64 0, .int .u64 0, .int .u64 0, .int .u64 0, .int .u64 0]] W fun e w' => e = .returned (.int .i64 0) ∧ Below W.heap.size W w') := fun W => widthZ W
  have hk0 := HK.out w2 (Below.refl _ _)
  have hk0d : ((∀ j, w2.drew.cell? ⟨w.heap.size, j, none⟩ = (#[.int .i64 b, .slice p1 n1 k1, .bool false] : Array Value)[j]?) ∧ (∀ j, w2.drew.cell? ⟨w.heap.size + 1, j, none⟩ = (#[.int .i64 0, .int .u64 0, .int .u64 0, .int .u64 0, .int .u64 0, .int .u64 0, .int .u64 0, .int .u64 0, .int .u64 0] : Array Value)[j]?)) := hk0
  obtain ⟨hka, hkb⟩ := hk0
  have hk0 : ((∀ j, w2.cell? ⟨w.heap.size, j, none⟩ = (#[.int .i64 b, .slice p1 n1 k1, .bool false] : Array Value)[j]?) ∧ (∀ j, w2.cell? ⟨w.heap.size + 1, j, none⟩ = (#[.int .i64 0, .int .u64 0, .int .u64 0, .int .u64 0, .int .u64 0, .int .u64 0, .int .u64 0, .int .u64 0, .int .u64 0] : Array Value)[j]?)) := ⟨hka, hkb⟩
  clear hB2 d1 d2 d3 hq
  go_enter Tryz.func13, Tryz.ntmps13
  go_upto_region 1 with fail
  clear hw2 hka hkb
  go_region_held3 (fun W => ((∀ j, W.cell? ⟨w.heap.size, j, none⟩ = (#[.int .i64 b, .slice p1 n1 k1, .bool false] : Array Value)[j]?) ∧ (∀ j, W.cell? ⟨w.heap.size + 1, j, none⟩ = (#[.int .i64 0, .int .u64 0, .int .u64 0, .int .u64 0, .int .u64 0, .int .u64 0, .int .u64 0, .int .u64 0, .int .u64 0] : Array Value)[j]?))) (first | with_reducible exact hk0 | with_reducible exact hk0d | with_reducible exact hk5 | with_reducible exact hk6) (first | (go_at_call 29; refine (HF.out _).mono ?_; rintro e w6 ⟨rfl, hb6⟩; have hb6' : Below w2.heap.size w2 w6 := bel0 hb5' hb6; have hk6 := HK.out w6 hb6') | (go_at_call 41; refine (HWD.out _).mono ?_; rintro e w5 ⟨rfl, hb5⟩; have hb5' : Below w2.heap.size w2 w5 := (by first | exact hb5 | exact und hb5); have hk5 := HK.out w5 hb5'))
  obtain ⟨k3, hB1⟩ := HRS.out w6 hb6'
  obtain ⟨hc3, hf3⟩ := cells_block k3
  have HP : Hid ((((w6.setCell ⟨w.heap.size + 1 + 1, 0, none⟩ (.int .i64 0)).setCell ⟨w.heap.size + 1 + 1, 1, none⟩ (.slice none 0 0)).setCell ⟨w.heap.size + 1 + 1, 2, none⟩ (.bool false)).heap[w.heap.size + 1 + 1]? = some (.cells #[.int .i64 0, .slice none 0 0, .bool false] 25 (0, 0)) ∧ Below w.heap.size w (((w6.setCell ⟨w.heap.size + 1 + 1, 0, none⟩ (.int .i64 0)).setCell ⟨w.heap.size + 1 + 1, 1, none⟩ (.slice none 0 0)).setCell ⟨w.heap.size + 1 + 1, 2, none⟩ (.bool false))) := ⟨put3w _ _ _ k3, ((hB1.setCell (by simp; omega) _).setCell (by simp; omega) _).setCell (by simp; omega) _⟩
  clear hk0 hk0d hk5 hk6 k3 hB1
  go_wp2_with fail
  refine bodyPost_ret (v := .tuple #[.agg #[.int .i64 0, .slice none 0 0, .bool false], .int .i64 11]) (res_sG _ _ (w.heap.size + 1 + 1) _ _ _ Tryz.results13 rfl HP.out.1) rfl ?_
  exact ⟨rfl, HP.out.2⟩
set_option maxRecDepth 100000 in
set_option maxHeartbeats 4000000 in
theorem afterW (b : Int) (lim : Int) (p1 : Option Addr) (n1 k1 : Nat) (w : World) :
    Calls Tryz.prog 14 #[.agg #[.int .i64 b, .slice p1 n1 k1, .bool false], .agg #[.int .i64 0, .int .u64 0, .int .u64 0, .int .u64 0, .int .u64 0, .int .u64 0, .int .u64 0, .int .u64 0, .int .u64 0], .int .i64 lim] w fun e w' => e = .returned (.tuple #[.agg #[.int .i64 0, .slice none 0 0, .bool false], .int .i64 11]) ∧ Below w.heap.size w w' := by
  obtain ⟨w2, hw2⟩ : ∃ wA, (((w.alloc (.cells #[.int .i64 b, .slice p1 n1 k1, .bool false] 25 (0, 0))).alloc (.cells #[.int .i64 0, .int .u64 0, .int .u64 0, .int .u64 0, .int .u64 0, .int .u64 0, .int .u64 0, .int .u64 0, .int .u64 0] 38 (0, 0))).alloc (.cells #[.int .i64 0, .slice none 0 0, .bool false] 25 (0, 0))) = wA := ⟨_, rfl⟩
  have hB2 : Below w.heap.size w w2 := by rw [← hw2]; exact belA (belA (belA (Below.refl _ _) _) _) _
  have d1 : w2.heap[w.heap.size]? = some (.cells #[.int .i64 b, .slice p1 n1 k1, .bool false] 25 (0, 0)) := by rw [← hw2, Below.heap_alloc _ _ _ (by simp <;> omega)]; exact alw_0 _ _ _
  have d2 : w2.heap[w.heap.size + 1]? = some (.cells #[.int .i64 0, .int .u64 0, .int .u64 0, .int .u64 0, .int .u64 0, .int .u64 0, .int .u64 0, .int .u64 0, .int .u64 0] 38 (0, 0)) := by rw [← hw2, Below.heap_alloc _ _ _ (by simp <;> omega)]; exact alw_1 _ _ _
  have d3 : w2.heap[w.heap.size + 1 + 1]? = some (.cells #[.int .i64 0, .slice none 0 0, .bool false] 25 (0, 0)) := by rw [← hw2]; have := alloc_get ((w.alloc (.cells #[.int .i64 b, .slice p1 n1 k1, .bool false] 25 (0, 0))).alloc (.cells #[.int .i64 0, .int .u64 0, .int .u64 0, .int .u64 0, .int .u64 0, .int .u64 0, .int .u64 0, .int .u64 0, .int .u64 0] 38 (0, 0))) (.cells #[.int .i64 0, .slice none 0 0, .bool false] 25 (0, 0)); simpa using this
  have HK : Hid (∀ W, Below w2.heap.size w2 W → ((∀ j, W.cell? ⟨w.heap.size, j, none⟩ = (#[.int .i64 b, .slice p1 n1 k1, .bool false] : Array Value)[j]?) ∧ (∀ j, W.cell? ⟨w.heap.size + 1, j, none⟩ = (#[.int .i64 0, .int .u64 0, .int .u64 0, .int .u64 0, .int .u64 0, .int .u64 0, .int .u64 0, .int .u64 0, .int .u64 0] : Array Value)[j]?))) := fun W hW => ⟨(cells_block (keepblk3 hW d1)).1, (cells_block (keepblk3 hW d2)).1⟩
  have HRS : Hid (∀ W, Below w2.heap.size w2 W → W.heap[w.heap.size + 1 + 1]? = some (.cells #[.int .i64 0, .slice none 0 0, .bool false] 25 (0, 0)) ∧ Below w.heap.size w W) := fun W hW => ⟨keepblk3 hW d3, bel0 hB2 hW⟩
  have hq : (!(b == 0) && (b == 0)) = false := by cases b == 0 <;> rfl
  have HF : Hid (∀ W, Calls Tryz.prog 29 #[.agg #[.int .i64 b, .slice p1 n1 k1, .bool false], .int .i64 0] W fun e w' => e = .returned (.bool false) ∧ Below W.heap.size W w') := fun W => by
    have h := fitsG b 0 p1 n1 k1 W
    rw [hq] at h
    exact h
  have HWD : Hid (∀ W, Calls Tryz.prog 41 #[.agg #[.int .i64 0, .int .u64 0, .int .u64 0, .int .u64 0, .int .u64 0, .int .u64 0, .int .u64 0, .int .u64 0, .int .u64 0]] W fun e w' => e = .returned (.int .i64 0) ∧ Below W.heap.size W w') := fun W => widthZ W
  have hk0 := HK.out w2 (Below.refl _ _)
  have hk0d : ((∀ j, w2.drew.cell? ⟨w.heap.size, j, none⟩ = (#[.int .i64 b, .slice p1 n1 k1, .bool false] : Array Value)[j]?) ∧ (∀ j, w2.drew.cell? ⟨w.heap.size + 1, j, none⟩ = (#[.int .i64 0, .int .u64 0, .int .u64 0, .int .u64 0, .int .u64 0, .int .u64 0, .int .u64 0, .int .u64 0, .int .u64 0] : Array Value)[j]?)) := hk0
  obtain ⟨hka, hkb⟩ := hk0
  have hk0 : ((∀ j, w2.cell? ⟨w.heap.size, j, none⟩ = (#[.int .i64 b, .slice p1 n1 k1, .bool false] : Array Value)[j]?) ∧ (∀ j, w2.cell? ⟨w.heap.size + 1, j, none⟩ = (#[.int .i64 0, .int .u64 0, .int .u64 0, .int .u64 0, .int .u64 0, .int .u64 0, .int .u64 0, .int .u64 0, .int .u64 0] : Array Value)[j]?)) := ⟨hka, hkb⟩
  clear hB2 d1 d2 d3 hq
  go_enter Tryz.func14, Tryz.ntmps14
  go_upto_region 1 with fail
  clear hw2 hka hkb
  go_region_held3 (fun W => ((∀ j, W.cell? ⟨w.heap.size, j, none⟩ = (#[.int .i64 b, .slice p1 n1 k1, .bool false] : Array Value)[j]?) ∧ (∀ j, W.cell? ⟨w.heap.size + 1, j, none⟩ = (#[.int .i64 0, .int .u64 0, .int .u64 0, .int .u64 0, .int .u64 0, .int .u64 0, .int .u64 0, .int .u64 0, .int .u64 0] : Array Value)[j]?))) (first | with_reducible exact hk0 | with_reducible exact hk0d | with_reducible exact hk5 | with_reducible exact hk6) (first | (go_at_call 29; refine (HF.out _).mono ?_; rintro e w6 ⟨rfl, hb6⟩; have hb6' : Below w2.heap.size w2 w6 := bel0 hb5' hb6; have hk6 := HK.out w6 hb6') | (go_at_call 41; refine (HWD.out _).mono ?_; rintro e w5 ⟨rfl, hb5⟩; have hb5' : Below w2.heap.size w2 w5 := (by first | exact hb5 | exact und hb5); have hk5 := HK.out w5 hb5'))
  obtain ⟨k3, hB1⟩ := HRS.out w6 hb6'
  obtain ⟨hc3, hf3⟩ := cells_block k3
  have HP : Hid ((((w6.setCell ⟨w.heap.size + 1 + 1, 0, none⟩ (.int .i64 0)).setCell ⟨w.heap.size + 1 + 1, 1, none⟩ (.slice none 0 0)).setCell ⟨w.heap.size + 1 + 1, 2, none⟩ (.bool false)).heap[w.heap.size + 1 + 1]? = some (.cells #[.int .i64 0, .slice none 0 0, .bool false] 25 (0, 0)) ∧ Below w.heap.size w (((w6.setCell ⟨w.heap.size + 1 + 1, 0, none⟩ (.int .i64 0)).setCell ⟨w.heap.size + 1 + 1, 1, none⟩ (.slice none 0 0)).setCell ⟨w.heap.size + 1 + 1, 2, none⟩ (.bool false))) := ⟨put3w _ _ _ k3, ((hB1.setCell (by simp; omega) _).setCell (by simp; omega) _).setCell (by simp; omega) _⟩
  clear hk0 hk0d hk5 hk6 k3 hB1
  go_wp2_with fail
  refine bodyPost_ret (v := .tuple #[.agg #[.int .i64 0, .slice none 0 0, .bool false], .int .i64 11]) (res_sG _ _ (w.heap.size + 1 + 1) _ _ _ Tryz.results14 rfl HP.out.1) rfl ?_
  exact ⟨rfl, HP.out.2⟩
set_option maxRecDepth 100000 in
set_option maxHeartbeats 4000000 in
theorem withinW (b b2 lim : Int) (p1 p2 : Option Addr) (n1 k1 n2 k2 : Nat) (w : World) (hf : (!(b == 0) && (b == b2)) = false) :
    Calls Tryz.prog 15 #[.agg #[.int .i64 b, .slice p1 n1 k1, .bool false], .agg #[.int .i64 b2, .slice p2 n2 k2, .bool false], .int .i64 lim] w fun e w' => e = .returned (.tuple #[.bool false, .int .i64 11]) ∧ Below w.heap.size w w' := by
  obtain ⟨w2, hw2⟩ : ∃ wA, ((w.alloc (.cells #[.int .i64 b, .slice p1 n1 k1, .bool false] 25 (0, 0))).alloc (.cells #[.int .i64 b2, .slice p2 n2 k2, .bool false] 25 (0, 0))) = wA := ⟨_, rfl⟩
  have hB : Below w.heap.size w w2 := by rw [← hw2]; exact belA (belA (Below.refl _ _) _) _
  have e1 : w2.heap[w.heap.size]? = some (.cells #[.int .i64 b, .slice p1 n1 k1, .bool false] 25 (0, 0)) := by rw [← hw2]; exact alw_0 _ _ _
  have e2 : w2.heap[w.heap.size + 1]? = some (.cells #[.int .i64 b2, .slice p2 n2 k2, .bool false] 25 (0, 0)) := by rw [← hw2]; exact alw_1 _ _ _
  have hc1 := (cells_block e1).1
  have hc2 := (cells_block e2).1
  have HFT := fitsG b b2 p1 n1 k1 w2
  rw [hf] at HFT
  have HB : Hid (Below w.heap.size w w2) := hB
  clear e1 e2 hB hf
  go_enter Tryz.func15, Tryz.ntmps15
  go_wp2_with fail
  refine HFT.mono ?_
  rintro e w3 ⟨rfl, hb3⟩
  have HZ : Hid (Below w.heap.size w w3) := bel0 HB.out hb3
  clear HFT hc1 hc2 hw2 hb3
  go_wp2_with fail
  go_ret2
  exact ⟨rfl, HZ.out⟩
set_option maxRecDepth 100000 in
set_option maxHeartbeats 4000000 in
theorem leastW (lim : Int) (p : Option Addr) (n cp : Nat) (w : World) :
    Calls Tryz.prog 17 #[.agg #[.int .i64 0, .slice p n cp, .bool false], .int .i64 lim] w fun e w' => e = .returned (.tuple #[.string ⟨#[]⟩, .bool false, .int .i64 11]) ∧ Below w.heap.size w w' := by
  obtain ⟨w2, hw2⟩ : ∃ w2, (w.alloc (.cells #[.int .i64 0, .slice p n cp, .bool false] 25 (0, 0))).alloc (.cells #[.int .i64 lim] 3 (0, 0)) = w2 := ⟨_, rfl⟩
  have b1 : w2.heap[w.heap.size]? = some (.cells #[.int .i64 0, .slice p n cp, .bool false] 25 (0, 0)) := by rw [← hw2]; exact alw_0 _ _ _
  have b2 : w2.heap[w.heap.size + 1]? = some (.cells #[.int .i64 lim] 3 (0, 0)) := by rw [← hw2]; exact alw_1 _ _ _
  have hB2 : Below w.heap.size w w2 := by rw [← hw2]; exact belA (belA (Below.refl _ _) _) _
  have hc1 := (cells_block b1).1
  have hc2 : w2.cell? ⟨w.heap.size + 1, 0, none⟩ = some (.int .i64 lim) := (cells_block b2).1 0
  have hmf : ∀ (fn : Fn) (first cap : Array Value) (w : World), (Instr.makeFunc fn first cap).run Tryz.prog w = .ok (.func fn first cap) w := fun _ _ _ _ => rfl
  have HRF := refusal_any 0 lim p n cp w2
  rw [show rfE 0 lim = 11 by unfold rfE; rw [if_pos rfl]] at HRF
  have HB : Hid (Below w.heap.size w w2) := hB2
  clear b1 b2 hB2
  go_enter Tryz.func17, Tryz.ntmps17
  go_wp2_with fail
  refine HRF.mono ?_
  rintro e w3 ⟨rfl, hb3⟩
  have HZ : Hid (Below w.heap.size w w3) := bel0 HB.out hb3
  clear HRF hc1 hc2 hw2 hb3
  go_wp2_with fail
  go_ret3
  exact ⟨rfl, HZ.out⟩
set_option maxRecDepth 100000 in
set_option maxHeartbeats 4000000 in
theorem ofW (c : List UInt8) (L : List (List UInt8)) (q : Option Addr) (m k B : Nat) (w : World) (hm : L.length = m) (hm2 : m ≤ 1000) (gc : good c = true) (gL : ∀ x ∈ L, good x = true) (hq : w.ownsRow B 38 9 (.slice q m k) m (ces L)) (hh : hulF c L = none) :
    Calls Tryz.prog 18 #[.agg #[.int .i64 (c.length : Int), .int .u64 (FW c 0 : Int), .int .u64 (FW c 1 : Int), .int .u64 (FW c 2 : Int), .int .u64 (FW c 3 : Int), .int .u64 (OW c 0 : Int), .int .u64 (OW c 1 : Int), .int .u64 (OW c 2 : Int), .int .u64 (OW c 3 : Int)], .slice q m k] w fun e w' => e = .returned (.tuple #[.agg #[.int .i64 0, .slice none 0 0, .bool false], .int .i64 11]) ∧ Below w.heap.size w w' := by
  obtain ⟨w1, hw1⟩ : ∃ w1, (w.alloc (.cells #[.int .i64 (c.length : Int), .int .u64 (FW c 0 : Int), .int .u64 (FW c 1 : Int), .int .u64 (FW c 2 : Int), .int .u64 (FW c 3 : Int), .int .u64 (OW c 0 : Int), .int .u64 (OW c 1 : Int), .int .u64 (OW c 2 : Int), .int .u64 (OW c 3 : Int)] 38 (0, 0))).alloc (.cells #[.slice q m k] 42 (0, 0)) = w1 := ⟨_, rfl⟩
  obtain ⟨w2, hw2⟩ : ∃ w2, w1.alloc (.cells #[.int .i64 0, .slice none 0 0, .bool false] 25 (0, 0)) = w2 := ⟨_, rfl⟩
  have hs1 : w1.heap.size = w.heap.size + 2 := by rw [← hw1]; simp
  have h1a : w1.heap[w.heap.size]? = some (.cells #[.int .i64 (c.length : Int), .int .u64 (FW c 0 : Int), .int .u64 (FW c 1 : Int), .int .u64 (FW c 2 : Int), .int .u64 (FW c 3 : Int), .int .u64 (OW c 0 : Int), .int .u64 (OW c 1 : Int), .int .u64 (OW c 2 : Int), .int .u64 (OW c 3 : Int)] 38 (0, 0)) := by rw [← hw1]; exact alw_0 _ _ _
  have h1b : w1.heap[w.heap.size + 1]? = some (.cells #[.slice q m k] 42 (0, 0)) := by rw [← hw1]; exact alw_1 _ _ _
  have hB1 : Below w.heap.size w w1 := by rw [← hw1]; exact belA (belA (Below.refl _ _) _) _
  have hB2 : Below w1.heap.size w1 w2 := by rw [← hw2]; exact belA (Below.refl _ _) _
  have h2s : w2.heap[w.heap.size + 2]? = some (.cells #[.int .i64 0, .slice none 0 0, .bool false] 25 (0, 0)) := by rw [← hs1, ← hw2]; exact alloc_get _ _
  have h2a := keepblk3 hB2 h1a
  have h2b := keepblk3 hB2 h1b
  have hBw2 : Below w.heap.size w w2 := bel0 hB1 hB2
  obtain ⟨hca, -⟩ := cells_block h2a
  obtain ⟨hcb, -⟩ := cells_block h2b
  obtain ⟨hcs, hfs⟩ := cells_block h2s
  have HA : Hid (w2.heap[w.heap.size + 2]? = some (.cells #[.int .i64 0, .slice none 0 0, .bool false] 25 (0, 0)) ∧ Below w.heap.size w w2) := ⟨h2s, hBw2⟩
  have hull : Calls Tryz.prog 54 #[cubeV c, .slice q m k] w2 fun e w' => e = .returned (hulV (hulF c L)) ∧ Below w2.heap.size w2 w' := hull_any c L _ B w2 gc gL (by omega) (by rw [hm]; exact own_belQ hq hBw2)
  rw [hh] at hull
  have HU : Hid (Calls Tryz.prog 54 #[cubeV c, .slice q m k] w2 fun e w' => e = .returned (hulV none) ∧ Below w2.heap.size w2 w') := hull
  have hlong : ¬ (2048 : Int) < (m : Int) := by omega
  clear h1a h1b hB1 hB2 h2s h2a h2b hBw2 hull gc gL hq hm hh
  go_enter Tryz.func18, Tryz.ntmps18
  go_wp2_with fail
  refine HU.out.mono ?_
  rintro e W1 ⟨rfl, hb1⟩
  unfold hulV cubeV cv
  have hz1 := keepblk3 hb1 HA.out.1
  obtain ⟨hcR, hfR⟩ := cells_block hz1
  have BW1 := bel0 HA.out.2 hb1
  have hcR2 : ∀ (o : Obj) j, (W1.alloc o).cell? ⟨w.heap.size + 2, j, none⟩ = (#[.int .i64 0, .slice none 0 0, .bool false] : Array Value)[j]? := fun o => (cells_block (allocblk3 hz1 o)).1
  have hfR2 : ∀ (o : Obj) j, (W1.alloc o).frozen? ⟨w.heap.size + 2, j, none⟩ = false := fun o => (cells_block (allocblk3 hz1 o)).2
  have HF1 : Hid (∀ o : Obj, ((((W1.alloc o).setCell ⟨w.heap.size + 2, 0, none⟩ (.int .i64 0)).setCell ⟨w.heap.size + 2, 1, none⟩ (.slice none 0 0)).setCell ⟨w.heap.size + 2, 2, none⟩ (.bool false)).heap[w.heap.size + 2]? = some (.cells #[.int .i64 0, .slice none 0 0, .bool false] 25 (0, 0)) ∧ Below w.heap.size w ((((W1.alloc o).setCell ⟨w.heap.size + 2, 0, none⟩ (.int .i64 0)).setCell ⟨w.heap.size + 2, 1, none⟩ (.slice none 0 0)).setCell ⟨w.heap.size + 2, 2, none⟩ (.bool false))) := fun o => ⟨put3w _ _ _ (allocblk3 hz1 o), (((belA BW1 o).setCell (by show w.heap.size ≤ w.heap.size + 2; omega) _).setCell (by show w.heap.size ≤ w.heap.size + 2; omega) _).setCell (by show w.heap.size ≤ w.heap.size + 2; omega) _⟩
  clear hz1 hca hcb hcs hfs HU HA hb1 hw1 hw2 hs1 hcR hfR
  go_wp2_with fail
  refine bodyPost_ret (v := .tuple #[.agg #[.int .i64 0, .slice none 0 0, .bool false], .int .i64 11]) (res_sG _ _ (w.heap.size + 2) _ _ _ Tryz.results18 rfl (HF1.out _).1) rfl ?_
  exact ⟨rfl, (HF1.out _).2⟩
end Go.Proofs.YtpbbmmkhlpkkbaaGreatDoor

import Derived.Test.YtclgjdhobdncjaaDoorF1
namespace Go.Proofs.YtclgjdhobdncjaaDoor
open Go.RowKit Go.Shelf
set_option maxRecDepth 100000 in
theorem appendUint_16 (u : Nat) (hu : u < 4294967296) (B n : Nat) (sv : Value) (xs : List Value) (w : World) (hdb : DB w) (hown : w.ownsRow B 5 1 sv n xs) (hBw : B ≤ w.heap.size) (hlim : n + 70 ≤ 140737488355328) :
    Calls Tryd.prog 35 #[sv, .int .u64 (u : Int), .int .i64 16] w fun e w' => ∃ v', e = .returned v' ∧ w'.ownsRow B 5 1 v' (n + (hexN u).length) (xs ++ Lib.byteCells (hexN u)) ∧ Below B w w' ∧ Ch w w' := by
  have HF := formatBits_16 u hu B n sv xs w hdb hown hBw hlim
  clear hdb hown hBw hlim
  go_enter Tryd.func35, Tryd.ntmps35
  go_wp2_with fail
  refine HF.mono ?_
  rintro e w1 ⟨v1, rfl, ho1, hb1⟩
  go_wp2_with fail
  go_ret
  exact ⟨v1, rfl, ho1, hb1⟩
set_option maxRecDepth 100000 in
theorem appendInt_16i (u : Nat) (hu : u < 4294967296) (B n : Nat) (sv : Value) (xs : List Value) (w : World) (hdb : DB w) (hown : w.ownsRow B 5 1 sv n xs) (hBw : B ≤ w.heap.size) (hlim : n + 70 ≤ 140737488355328) :
    Calls Tryd.prog 28 #[sv, .int .i64 (u : Int), .int .i64 16] w fun e w' => ∃ v', e = .returned v' ∧ w'.ownsRow B 5 1 v' (n + (hexN u).length) (xs ++ Lib.byteCells (hexN u)) ∧ Below B w w' ∧ Ch w w' := by
  have HF := appendUint_16 u hu B n sv xs w hdb hown hBw hlim
  have i1 : ¬ (u : Int) < 0 := by omega
  have e1 : IntKind.u64.wrap (u : Int) = (u : Int) := by rw [IntKind.wrap_u64]; omega
  clear hdb hown hBw hlim
  go_enter Tryd.func28, Tryd.ntmps28
  go_wp2_with fail
  refine HF.mono ?_
  rintro e w1 ⟨v1, rfl, ho1, hb1⟩
  go_wp2_with fail
  go_ret
  exact ⟨v1, rfl, ho1, hb1⟩
set_option maxRecDepth 100000 in
theorem appendInt_16 (u : Nat) (hu : u < 4294967296) (B n : Nat) (sv : Value) (xs : List Value) (w : World) (hdb : DB w) (hown : w.ownsRow B 5 1 sv n xs) (hBw : B ≤ w.heap.size) (hlim : n + 70 ≤ 140737488355328) :
    Calls Tryd.prog 19 #[sv, .int .i64 (u : Int), .int .i64 16] w fun e w' => ∃ v', e = .returned v' ∧ w'.ownsRow B 5 1 v' (n + (hexN u).length) (xs ++ Lib.byteCells (hexN u)) ∧ Below B w w' ∧ Ch w w' := by
  have HF := appendInt_16i u hu B n sv xs w hdb hown hBw hlim
  clear hdb hown hBw hlim
  go_enter Tryd.func19, Tryd.ntmps19
  go_wp2_with fail
  refine HF.mono ?_
  rintro e w1 ⟨v1, rfl, ho1, hb1⟩
  go_wp2_with fail
  go_ret
  exact ⟨v1, rfl, ho1, hb1⟩
/-- the table of what is not seen lies there -/
abbrev unseenL : List (Int × Int) := [(128, 159), (8203, 8207), (8232, 8238), (65279, 65279)]
abbrev unseenC : Array Value := #[.int .i32 128, .int .i32 159, .int .i32 8203, .int .i32 8207, .int .i32 8232, .int .i32 8238, .int .i32 65279, .int .i32 65279]
def UN (w : World) : Prop := ∃ t fr, w.heap[1]? = some (.cells unseenC t fr)
theorem UN.below {w W : World} (h : UN w) (hb : Below w.heap.size w W) : UN W := by
  obtain ⟨t, fr, h⟩ := h
  exact ⟨t, fr, (hb.block _ (lt_of_get h)).trans h⟩
theorem UN.cell {w : World} (h : UN w) (j : Nat) : w.cell? ⟨1, j, none⟩ = unseenC[j]? := by
  obtain ⟨t, fr, h⟩ := h
  exact cell_of_row w _ j _ _ _ h
theorem idx_unseen (k : Nat) (z : Int × Int) (h : unseenL[k]? = some z) (W : World) : Sem.run Tryd.prog (Instr.index 51 (.agg unseenC) (.int .i64 (k : Int))) W = .ok (.agg #[.int .i32 z.1, .int .i32 z.2]) W := by
  match k, h with
  | 0, h => obtain rfl := Option.some.inj h; rfl
  | 1, h => obtain rfl := Option.some.inj h; rfl
  | 2, h => obtain rfl := Option.some.inj h; rfl
  | 3, h => obtain rfl := Option.some.inj h; rfl
  | k + 4, h => simp at h
theorem uns_of {k : Nat} {z : Int × Int} (h : unseenL[k]? = some z) {n : Nat} (h1 : z.1 ≤ (n : Int)) (h2 : (n : Int) ≤ z.2) : unsN n = true := by
  unfold unsN
  match k, h with
  | 0, h => obtain rfl := Option.some.inj h; simp only at h1 h2; exact decide_eq_true (by omega)
  | 1, h => obtain rfl := Option.some.inj h; simp only at h1 h2; exact decide_eq_true (by omega)
  | 2, h => obtain rfl := Option.some.inj h; simp only at h1 h2; exact decide_eq_true (by omega)
  | 3, h => obtain rfl := Option.some.inj h; simp only at h1 h2; exact decide_eq_true (by omega)
  | k + 4, h => simp at h
theorem uns_not {n : Nat} (h : ∀ (j : Nat) (z : Int × Int), j < 4 → unseenL[j]? = some z → ¬ (z.1 ≤ (n : Int) ∧ (n : Int) ≤ z.2)) : unsN n = false := by
  unfold unsN
  have h0 := h 0 _ (by decide) rfl
  have h1 := h 1 _ (by decide) rfl
  have h2 := h 2 _ (by decide) rfl
  have h3 := h 3 _ (by decide) rfl
  simp only at h0 h1 h2 h3
  exact decide_eq_false (by omega)
end Go.Proofs.YtclgjdhobdncjaaDoor

import Derived.Test.YtclgjdhobdncjaaDoorC1
namespace Go.Proofs.YtclgjdhobdncjaaDoor
open Go.RowKit
def hexI (r : Int) : Int := if 48 ≤ r ∧ r ≤ 57 then r - 48 else if 97 ≤ r ∧ r ≤ 102 then r - 97 + 10 else if 65 ≤ r ∧ r ≤ 70 then r - 65 + 10 else -1
set_option maxRecDepth 100000 in
theorem hexValue_any (r : Int) (w : World) (h0 : -2 ≤ r) (h1 : r ≤ 1114111) :
    Calls Tryd.prog 36 #[.int .i32 r] w fun e w' => e = .returned (.int .i32 (hexI r)) ∧ w' = w := by
  by_cases a1 : 48 ≤ r ∧ r ≤ 57
  · have hr : Hid (hexI r = r - 48) := by unfold Hid hexI; rw [if_pos a1]
    have w0 : IntKind.i32.wrap (r - 48) = r - 48 := by rw [IntKind.wrap_i32]; omega
    have j0 : 48 ≤ r := by omega
    have j1 : r ≤ 57 := by omega
    go_enter Tryd.func36, Tryd.ntmps36
    go_wp2
    go_ret
    exact ⟨by rw [hr.out]; rfl, rfl⟩
  · by_cases a2 : 97 ≤ r ∧ r ≤ 102
    · have hr : Hid (hexI r = r - 97 + 10) := by unfold Hid hexI; rw [if_neg a1, if_pos a2]
      have w0 : IntKind.i32.wrap (r - 97) = r - 97 := by rw [IntKind.wrap_i32]; omega
      have w1 : IntKind.i32.wrap (r - 97 + 10) = r - 97 + 10 := by rw [IntKind.wrap_i32]; omega
      have j0 : 48 ≤ r := by omega
      have j1 : ¬ r ≤ 57 := by omega
      have j2 : 97 ≤ r := by omega
      have j3 : r ≤ 102 := by omega
      go_enter Tryd.func36, Tryd.ntmps36
      go_wp2
      go_ret
      exact ⟨by rw [hr.out]; rfl, rfl⟩
    · by_cases a3 : 65 ≤ r ∧ r ≤ 70
      · have hr : Hid (hexI r = r - 65 + 10) := by unfold Hid hexI; rw [if_neg a1, if_neg a2, if_pos a3]
        have w0 : IntKind.i32.wrap (r - 65) = r - 65 := by rw [IntKind.wrap_i32]; omega
        have w1 : IntKind.i32.wrap (r - 65 + 10) = r - 65 + 10 := by rw [IntKind.wrap_i32]; omega
        have j0 : 48 ≤ r := by omega
        have j1 : ¬ r ≤ 57 := by omega
        have j2 : ¬ 97 ≤ r := by omega
        have j3 : 65 ≤ r := by omega
        have j4 : r ≤ 70 := by omega
        go_enter Tryd.func36, Tryd.ntmps36
        go_wp2
        go_ret
        exact ⟨by rw [hr.out]; rfl, rfl⟩
      · have hr : Hid (hexI r = -1) := by unfold Hid hexI; rw [if_neg a1, if_neg a2, if_neg a3]
        by_cases c1 : 48 ≤ r
        · have d1 : ¬ r ≤ 57 := by omega
          by_cases c2 : 97 ≤ r
          · have d2 : ¬ r ≤ 102 := by omega
            have c3 : 65 ≤ r := by omega
            have d3 : ¬ r ≤ 70 := by omega
            go_enter Tryd.func36, Tryd.ntmps36
            go_wp2
            go_ret
            exact ⟨by rw [hr.out]; rfl, rfl⟩
          · by_cases c3 : 65 ≤ r
            · have d3 : ¬ r ≤ 70 := by omega
              go_enter Tryd.func36, Tryd.ntmps36
              go_wp2
              go_ret
              exact ⟨by rw [hr.out]; rfl, rfl⟩
            · go_enter Tryd.func36, Tryd.ntmps36
              go_wp2
              go_ret
              exact ⟨by rw [hr.out]; rfl, rfl⟩
        · have c2 : ¬ 97 ≤ r := by omega
          have c3 : ¬ 65 ≤ r := by omega
          go_enter Tryd.func36, Tryd.ntmps36
          go_wp2
          go_ret
          exact ⟨by rw [hr.out]; rfl, rfl⟩
/-- a run of characters lies there -/
def CH (W : World) (ad : Addr) (C : List (Int × Nat)) : Prop := ∀ k c, C[k]? = some c → W.cell? (ad.add (k * 2)) = some (.int .i32 c.1) ∧ W.cell? (ad.add (k * 2 + 1)) = some (.int .i64 (c.2 : Int))
theorem CH.below {W X : World} {ad : Addr} {C : List (Int × Nat)} (h : CH W ad C) (hb : Below W.heap.size W X) : CH X ad C := fun k c hc =>
  ⟨(hb.cell (World.block_lt_of_cell? W _ (h k c hc).1)).trans (h k c hc).1, (hb.cell (World.block_lt_of_cell? W _ (h k c hc).2)).trans (h k c hc).2⟩
end Go.Proofs.YtclgjdhobdncjaaDoor

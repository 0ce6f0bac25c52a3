import Derived.Test.YtmblloddhpcdeaaW8
namespace Go.Proofs.Ytmblloddhpcdeaa
open Go.RowKit

theorem cub_10x (t : List UInt8) : (cubeT t == [49, 48, 120]) = (t == [49, 48, 120]) := by
  by_cases h : t = [49, 48, 120]
  · subst h; decide
  · have h2 : ¬ cubeT t = [49, 48, 120] := by
      intro e
      unfold cubeT at e
      split at e
      · exact h e
      · cases e
    have e1 : (t == [49, 48, 120]) = false := by simpa using h
    have e2 : (cubeT t == [49, 48, 120]) = false := by simpa using h2
    rw [e1, e2]

theorem made_X (X : List UInt8) (w : World) (h : X = [49, 48, 120]) :
    Calls Try.prog 12 #[.string ⟨#[49, 48, 120]⟩] w fun e w' => e = .returned (.tuple #[cubeV X, .bool true]) ∧ Below w.heap.size w w' := by
  subst h
  exact made_D ⟨#[49, 48, 120]⟩ [49, 48, 120] w (by decide) (by decide)

set_option maxHeartbeats 1000000 in
theorem ternParses_raw (s : ByteArray) (D X : List UInt8) (E : Int) (q : Bool) (w : World) (hs : s.size ≤ maxLen) (hD0 : cubeT s.data.toList = D) (hE0 : refP s.data.toList = E) (hX0 : X = [49, 48, 120])
    (e1 : ∀ W, (Op.equalIn 10000 27 (.agg #[.int .i64 (D.length : Int), .int .u64 (FW D 0 : Int), .int .u64 (FW D 1 : Int), .int .u64 (FW D 2 : Int), .int .u64 (FW D 3 : Int), .int .u64 (OW D 0 : Int), .int .u64 (OW D 1 : Int), .int .u64 (OW D 2 : Int), .int .u64 (OW D 3 : Int)]) (.agg #[.int .i64 (D.length : Int), .int .u64 (FW D 0 : Int), .int .u64 (FW D 1 : Int), .int .u64 (FW D 2 : Int), .int .u64 (FW D 3 : Int), .int .u64 (OW D 0 : Int), .int .u64 (OW D 1 : Int), .int .u64 (OW D 2 : Int), .int .u64 (OW D 3 : Int)])).run Try.prog W = .ok true W) (e2 : ∀ W, (Op.equalIn 10000 27 (.agg #[.int .i64 (D.length : Int), .int .u64 (FW D 0 : Int), .int .u64 (FW D 1 : Int), .int .u64 (FW D 2 : Int), .int .u64 (FW D 3 : Int), .int .u64 (OW D 0 : Int), .int .u64 (OW D 1 : Int), .int .u64 (OW D 2 : Int), .int .u64 (OW D 3 : Int)]) (.agg #[.int .i64 (X.length : Int), .int .u64 (FW X 0 : Int), .int .u64 (FW X 1 : Int), .int .u64 (FW X 2 : Int), .int .u64 (FW X 3 : Int), .int .u64 (OW X 0 : Int), .int .u64 (OW X 1 : Int), .int .u64 (OW X 2 : Int), .int .u64 (OW X 3 : Int)])).run Try.prog W = .ok q W) (hq2 : (s.toList == [49, 48, 120]) = q) :
    Calls Try.prog 4 #[.string s] w fun e w' => e = .returned (.bool true) ∧ Below w.heap.size w w' := by
  have hD : Hid (cubeT s.data.toList = D) := hD0
  have hE : Hid (refP s.data.toList = E) := hE0
  have hX : Hid (X = [49, 48, 120]) := hX0
  clear hD0 hE0 hX0
  go_enter Try.func4, Try.ntmps4
  go_wp2_with fail
  refine (made_D s D _ hs hD.out).mono ?_
  rintro e w1 ⟨rfl, hb1⟩
  unfold cubeV cv
  go_wp2_with fail
  refine (made_X X _ hX.out).mono ?_
  rintro e w2 ⟨rfl, hb2⟩
  obtain ⟨hc2, hf2⟩ := bcell hb2
  have z12 : w1.heap.size < w2.heap.size := by { have := hb2.size; simp at this; omega }
  unfold cubeV cv
  go_wp2_with fail
  refine (parse_D s _ hs D E hD.out hE.out).mono ?_
  rintro e w3 ⟨rfl, hb3⟩
  obtain ⟨hc3, hf3⟩ := bcell hb3
  have z23 : w2.heap.size < w3.heap.size := by { have := hb3.size; simp at this; omega }
  have z13 : w1.heap.size < w3.heap.size := by omega
  have z12' : w1.heap.size < w2.heap.size + 1 := by omega
  unfold cubeV cv
  cases q
  all_goals
    go_wp2
    go_ret
    exact ⟨rfl, belA (bel2 (bel2 hb1 hb2) hb3) _⟩

theorem ternParses_walk (s : ByteArray) (w : World) (hs : s.size ≤ maxLen) :
    Calls Try.prog 4 #[.string s] w fun e w' => e = .returned (.bool true) ∧ Below w.heap.size w w' := by
  have hg := good_cubeT s.data.toList
  refine ternParses_raw s _ [49, 48, 120] _ (s.data.toList == [49, 48, 120]) w hs rfl rfl rfl ?_ ?_ ?_
  · intro W; rw [eql_cube _ _ hg hg]; simp
  · intro W; rw [eql_cube _ _ hg (by decide), cub_10x]
  · rw [ByteArray.toList_eq]
end Go.Proofs.Ytmblloddhpcdeaa

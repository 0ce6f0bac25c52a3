import Derived.Test.YtbdnpbiimbeflaaW4
import Derived.ChangeKeysEq
namespace Go.Proofs.Ytbdnpbiimbeflaa
open Go.RowKit

theorem cells_u64 : Try.prog.cellsOf 24 = 1 := by kernel_rfl
theorem info_u64 : (Try.prog.info? 24).map (fun i => (i.zero, i.size, i.bytes)) = some (some (.int .u64 0), 1, 8) := by kernel_rfl

theorem arr_eq (d : Nat) (a0 a1 a2 a3 b0 b1 b2 b3 : Int) (w : World) :
    (Op.equalIn (d + 2) 26 (.agg #[.int .u64 a0, .int .u64 a1, .int .u64 a2, .int .u64 a3]) (.agg #[.int .u64 b0, .int .u64 b1, .int .u64 b2, .int .u64 b3])).run Try.prog w = .ok (a0 == b0 && (a1 == b1 && (a2 == b2 && (a3 == b3)))) w := by
  obtain ⟨i0, hi, _, _, _⟩ := info_parts info_u64
  rw [run_equalIn_array w (d + 1) _ _ Try.underlying26 hi, cells_u64]
  have hr : List.range 4 = [0, 1, 2, 3] := by decide
  rw [hr]
  simp [Op.eqItems, go_sem]
  by_cases h0 : a0 = b0 <;> by_cases h1 : a1 = b1 <;> by_cases h2 : a2 = b2 <;> by_cases h3 : a3 = b3 <;> simp [h0, h1, h2, h3]

theorem cub_eq (n a0 a1 a2 a3 c0 c1 c2 c3 m b0 b1 b2 b3 d0 d1 d2 d3 : Int) (w : World) :
    (Op.equalIn 10000 28 (.agg #[.int .i64 n, .int .u64 a0, .int .u64 a1, .int .u64 a2, .int .u64 a3, .int .u64 c0, .int .u64 c1, .int .u64 c2, .int .u64 c3]) (.agg #[.int .i64 m, .int .u64 b0, .int .u64 b1, .int .u64 b2, .int .u64 b3, .int .u64 d0, .int .u64 d1, .int .u64 d2, .int .u64 d3])).run Try.prog w
      = .ok (n == m && ((a0 == b0 && (a1 == b1 && (a2 == b2 && (a3 == b3)))) && (c0 == d0 && (c1 == d1 && (c2 == d2 && (c3 == d3)))))) w := by
  have hA := fun w => arr_eq 9997 a0 a1 a2 a3 b0 b1 b2 b3 w
  have hC := fun w => arr_eq 9997 c0 c1 c2 c3 d0 d1 d2 d3 w
  generalize (a0 == b0 && (a1 == b1 && (a2 == b2 && (a3 == b3)))) = A at hA ⊢
  generalize (c0 == d0 && (c1 == d1 && (c2 == d2 && (c3 == d3)))) = C at hC ⊢
  rw [show 10000 = (9997 + 2) + 1 from rfl, run_equalIn_agg w (9997 + 2) _ _ _ (by kernel_rfl) (by kernel_rfl)]
  by_cases hn : n = m
  · subst hn
    cases A <;> cases C <;> simp [Op.eqFields, go_sem, hA, hC]
  · simp [Op.eqFields, go_sem, hn]

theorem bool9 (a b c d e f g h i : Bool) : (a && ((b && (c && (d && e))) && (f && (g && (h && i))))) = (a && b && c && d && e && f && g && h && i) := by
  cases a <;> cases b <;> cases c <;> cases d <;> cases e <;> simp [Bool.and_assoc]

theorem eql_cube (a b : List UInt8) (ha : good a = true) (hb : good b = true) (w : World) :
    (Op.equalIn 10000 28 (.agg #[.int .i64 (a.length : Int), .int .u64 (FW a 0 : Int), .int .u64 (FW a 1 : Int), .int .u64 (FW a 2 : Int), .int .u64 (FW a 3 : Int), .int .u64 (OW a 0 : Int), .int .u64 (OW a 1 : Int), .int .u64 (OW a 2 : Int), .int .u64 (OW a 3 : Int)]) (.agg #[.int .i64 (b.length : Int), .int .u64 (FW b 0 : Int), .int .u64 (FW b 1 : Int), .int .u64 (FW b 2 : Int), .int .u64 (FW b 3 : Int), .int .u64 (OW b 0 : Int), .int .u64 (OW b 1 : Int), .int .u64 (OW b 2 : Int), .int .u64 (OW b 3 : Int)])).run Try.prog w = .ok (a == b) w := by
  rw [cub_eq, ← wordsEq_eq a b ha hb, bool9]; rfl

/-- against the zero value as it is written down -/
theorem eql_zero (a : List UInt8) (ha : good a = true) (w : World) :
    (Op.equalIn 10000 28 (.agg #[.int .i64 (a.length : Int), .int .u64 (FW a 0 : Int), .int .u64 (FW a 1 : Int), .int .u64 (FW a 2 : Int), .int .u64 (FW a 3 : Int), .int .u64 (OW a 0 : Int), .int .u64 (OW a 1 : Int), .int .u64 (OW a 2 : Int), .int .u64 (OW a 3 : Int)]) (.agg #[.int .i64 0, .int .u64 0, .int .u64 0, .int .u64 0, .int .u64 0, .int .u64 0, .int .u64 0, .int .u64 0, .int .u64 0])).run Try.prog w = .ok (a.isEmpty) w := by
  have h := eql_cube a [] ha good_nil w
  have e : (a == []) = a.isEmpty := by cases a <;> rfl
  rw [e] at h
  have e2 : (#[.int .i64 (([] : List UInt8).length : Int), .int .u64 (FW [] 0 : Int), .int .u64 (FW [] 1 : Int), .int .u64 (FW [] 2 : Int), .int .u64 (FW [] 3 : Int), .int .u64 (OW [] 0 : Int), .int .u64 (OW [] 1 : Int), .int .u64 (OW [] 2 : Int), .int .u64 (OW [] 3 : Int)] : Array Value) = #[.int .i64 0, .int .u64 0, .int .u64 0, .int .u64 0, .int .u64 0, .int .u64 0, .int .u64 0, .int .u64 0, .int .u64 0] := by
    have := cubeV_nil
    unfold cubeV cv at this
    simp only [Value.agg.injEq] at this
    exact this
  rw [e2] at h
  exact h

theorem bel1 {w w1 : World} {o : Obj} (h : Below (w.alloc o).heap.size (w.alloc o) w1) : Below w.heap.size w w1 :=
  ((Below.refl _ _).alloc (Nat.le_refl _) _).trans (h.mono (by simp))
theorem belA {w w1 : World} (h : Below w.heap.size w w1) (o : Obj) : Below w.heap.size w (w1.alloc o) := h.alloc h.size o
theorem bel0 {w w1 w2 : World} (h : Below w.heap.size w w1) (h2 : Below w1.heap.size w1 w2) : Below w.heap.size w w2 := h.trans (h2.mono h.size)
theorem bel2 {w w1 w2 : World} {o : Obj} (h : Below w.heap.size w w1) (h2 : Below (w1.alloc o).heap.size (w1.alloc o) w2) : Below w.heap.size w w2 := bel0 h (bel1 h2)

theorem parse_D (s : ByteArray) (w : World) (hs : s.size ≤ maxLen) (D : List UInt8) (E : Int) (hD : cubeT s.data.toList = D) (hE : refP s.data.toList = E) :
    Calls Try.prog 10 #[.string s] w fun e w' => e = .returned (.tuple #[cubeV D, .int .i64 E]) ∧ Below w.heap.size w w' := by
  subst hD hE; exact parse_any s w hs

end Go.Proofs.Ytbdnpbiimbeflaa

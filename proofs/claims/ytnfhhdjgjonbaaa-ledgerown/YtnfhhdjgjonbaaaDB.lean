import Derived.Test.YtnfhhdjgjonbaaaDA
namespace Go.Proofs.Ytnfhhdjgjonbaaa
open Go.RowKit Go.WideShapes
theorem cI1 : Try.prog.cellsOf 3 = 1 := by kernel_rfl
theorem cS1 : Try.prog.cellsOf 9 = 1 := by kernel_rfl
theorem cR3 : Try.prog.cellsOf 29 = 3 := by kernel_rfl
section
variable {H : Type} {enc : TypeId × Value → H} {w : World} {base : Nat} {sp : Nat → Bool} {held : Bool}
theorem rec_open {fuel : Nat} {cs : List Value} {x : DataW H × List MemPlace} (h : DataW.trod enc Try.prog w base sp held fuel 29 cs = some x) : ∃ (s k : Int) (t : List UInt8), cs = [.int .i64 s, .int .i64 k, .string ⟨t.toArray⟩] := by
  obtain ⟨xs, n, _, rfl, hl, hlen, hf⟩ := DataW.trod_struct Try.underlying29 h
  rw [cR3] at hl
  match xs, hlen with
  | [y0, y1, y2], _ =>
    have g0 := hf 0 _ rfl
    have g1 := hf 1 _ rfl
    have g2 := hf 2 _ rfl
    obtain ⟨z0, a0, b0, w0⟩ := DataW.trod_int Try.underlying3 g0
    obtain ⟨z1, a1, b1, w1⟩ := DataW.trod_int Try.underlying3 g1
    obtain ⟨z2, a2, b2, _⟩ := DataW.trod_string Try.underlying9 g2
    replace a0 : (cs.drop 0).take (Try.prog.cellsOf 3) = [.int .i64 z0] := a0
    rw [cI1] at a0
    replace a1 : (cs.drop 1).take (Try.prog.cellsOf 3) = [.int .i64 z1] := a1
    rw [cI1] at a1
    replace a2 : (cs.drop 2).take (Try.prog.cellsOf 9) = [.string z2] := a2
    rw [cS1] at a2
    clear g0 g1 g2 h hf
    refine ⟨z0, z1, z2.data.toList, ?_⟩
    match cs, hl with
    | [d0, d1, d2], _ =>
      have e0 : d0 = .int .i64 z0 := by simpa using a0
      have e1 : d1 = .int .i64 z1 := by simpa using a1
      have e2 : d2 = .string z2 := by simpa using a2
      rw [e0, e1, e2]
/-- a record that is handed in -/
theorem rec_arg {v : Value} {d : DataW H} {q : List MemPlace} (ho : ∃ cs, v = .agg cs ∧ cs.size = Try.prog.cellsOf 29) (h : ∃ fuel, DataW.trod enc Try.prog w base sp held fuel 29 v.cells.toList = some (d, q)) : ∃ (s k : Int) (t : List UInt8), v = .agg #[.int .i64 s, .int .i64 k, .string ⟨t.toArray⟩] := by
  obtain ⟨cs, rfl, hcs⟩ := ho
  obtain ⟨fuel, hf⟩ := h
  obtain ⟨s, k, t, e⟩ := rec_open hf
  refine ⟨s, k, t, ?_⟩
  have e6 : cs.toList = _ := e
  rw [← Array.toArray_toList (xs := cs), e6]
end
end Go.Proofs.Ytnfhhdjgjonbaaa

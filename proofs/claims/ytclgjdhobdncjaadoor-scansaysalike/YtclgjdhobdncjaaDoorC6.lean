import Derived.Test.YtclgjdhobdncjaaDoorC5
import Derived.Test.YtclgjdhobdncjaaDoorD0
import Derived.Laws.Rows
namespace Go.Proofs.YtclgjdhobdncjaaDoor
open Go.RowKit
/-- the escapes of one letter -/
abbrev shortsL : List (Int × Int) := [(34, 34), (92, 92), (110, 10), (114, 13), (116, 9)]
abbrev shortsC : Array Value := #[.int .i32 34, .int .i32 34, .int .i32 92, .int .i32 92, .int .i32 110, .int .i32 10, .int .i32 114, .int .i32 13, .int .i32 116, .int .i32 9]
/-- the table of the escapes lies there -/
def SH (w : World) : Prop := ∃ t fr, w.heap[0]? = some (.cells shortsC t fr)
theorem SH.below {w W : World} (h : SH w) (hb : Below w.heap.size w W) : SH W := by
  obtain ⟨t, fr, h⟩ := h
  exact ⟨t, fr, (hb.block _ (lt_of_get h)).trans h⟩
/-- what the escape of that letter says -/
def shO (x : Int) : Option Int := if x = 34 then some 34 else if x = 92 then some 92 else if x = 110 then some 10 else if x = 114 then some 13 else if x = 116 then some 9 else none
theorem idx_short (k : Nat) (z : Int × Int) (h : shortsL[k]? = some z) (W : World) : Sem.run Tryd.prog (Instr.index 47 (.agg shortsC) (.int .i64 (k : Int))) W = .ok (.agg #[.int .i32 z.1, .int .i32 z.2]) W := by
  match k, h with
  | 0, h => obtain rfl := Option.some.inj h; rfl
  | 1, h => obtain rfl := Option.some.inj h; rfl
  | 2, h => obtain rfl := Option.some.inj h; rfl
  | 3, h => obtain rfl := Option.some.inj h; rfl
  | 4, h => obtain rfl := Option.some.inj h; rfl
  | k + 5, h => simp at h
theorem SH.cell {w : World} (h : SH w) (j : Nat) : w.cell? ⟨0, j, none⟩ = shortsC[j]? := by
  obtain ⟨t, fr, h⟩ := h
  exact cell_of_row w _ j _ _ _ h
end Go.Proofs.YtclgjdhobdncjaaDoor

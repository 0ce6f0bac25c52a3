import Derived.Test.YtnfhhdjgjonbaaaLJ
import Derived.Test.YtnfhhdjgjonbaaaLP0
import Derived.Test.YtnfhhdjgjonbaaaY1
import Derived.Laws.EntriesVeiled
namespace Go.Proofs.Ytnfhhdjgjonbaaa
open Go.RowKit Go.Shelf
/-- what a record is handed on as -/
def rcV (r : Rec) : Value := .agg #[.int .i64 (r.seq : Int), .int .i64 (r.kind : Int), .string ⟨r.text.toArray⟩]
theorem rc_at {D : List UInt8} {k : Nat} (h : k ≤ (whL 1 D).length) : rcE D (plc D k) = rdE (D.drop (plc D k)) := by
  have := plc_le h
  unfold rcE
  rw [if_neg (by omega), Int.toNat_natCast]
end Go.Proofs.Ytnfhhdjgjonbaaa

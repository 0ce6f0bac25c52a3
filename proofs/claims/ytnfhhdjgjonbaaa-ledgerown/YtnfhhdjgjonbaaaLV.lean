import Derived.Test.YtnfhhdjgjonbaaaLR
import Derived.Test.YtnfhhdjgjonbaaaLT
import Derived.Test.YtnfhhdjgjonbaaaLV0
import Derived.Test.YtnfhhdjgjonbaaaLK
namespace Go.Proofs.Ytnfhhdjgjonbaaa
open Go.RowKit
/-- entries lie there -/
def ER (w : World) (p : Option Addr) (L : List (Int × List UInt8)) : Prop := ∀ (k : Nat) (e : Int × List UInt8), L[k]? = some e → ∃ g o, p = some ⟨g, o, none⟩ ∧ w.cell? ⟨g, o + k * 2, none⟩ = some (.int .i64 e.1) ∧ w.cell? ⟨g, o + k * 2 + 1, none⟩ = some (.string ⟨e.2.toArray⟩)
theorem ER.below {w w' : World} {p : Option Addr} {L : List (Int × List UInt8)} (h : ER w p L) (hb : Below w.heap.size w w') : ER w' p L := fun k x hx => by
  obtain ⟨g, o, rfl, h0, h1⟩ := h k x hx
  exact ⟨g, o, rfl, (hb.cell (World.block_lt_of_cell? w _ h0)).trans h0, (hb.cell (World.block_lt_of_cell? w _ h1)).trans h1⟩
/-- the kind that the law makes of a number -/
def kdN (k : Int) : Nat := 1 + (Int.tmod k 4).natAbs
theorem kdN_ok (k : Int) : 1 ≤ kdN k ∧ kdN k ≤ 4 := by
  unfold kdN
  have := Int.tmod_lt_of_pos k (b := 4) (by decide)
  have h2 := Int.lt_tmod_of_pos k (b := 4) (by decide)
  omega
def enP (e : Int × List UInt8) : Nat × List UInt8 := (kdN e.1, e.2.take 16384)
/-- what is written of entries -/
def enA (L : List (Int × List UInt8)) : List (Nat × List UInt8) := (L.take 40).map enP
theorem enA_ok (L : List (Int × List UInt8)) : okA 1 (enA L) := by
  refine okA_of 1 (Nat.le_refl _) ?_ ?_
  · simp [enA]; omega
  · intro e he
    obtain ⟨x, -, rfl⟩ := List.mem_map.1 he
    have := kdN_ok x.1
    exact ⟨this.1, this.2, by simp [enP]; omega⟩
theorem enA_len (L : List (Int × List UInt8)) : (enA L).length ≤ 40 := by simp [enA]; omega
theorem enA_bytes (L : List (Int × List UInt8)) : (encA 1 (enA L)).length ≤ 656160 := by
  have h := encA_bound (l := enA L) 1 (fun e he => by
    obtain ⟨x, -, rfl⟩ := List.mem_map.1 he
    simp [enP]; omega)
  have := enA_len L
  omega
/-- what written answers -/
def WRQ (L : List (Int × List UInt8)) (w : World) (e : Ending) (w' : World) : Prop :=
  ∃ v u, e = .returned (.tuple #[v, u, .bool true]) ∧ OR w' w.heap.size v (recA 1 (enA L)) ∧ OB w' w.heap.size u (encA 1 (enA L)) ∧ Below w.heap.size w w'
end Go.Proofs.Ytnfhhdjgjonbaaa

import Derived.Test.YtfcdaljhbeogeaaH2
import Derived.Test.YtfcdaljhbeogeaaK0
namespace Go.Proofs.Ytfcdaljhbeogeaa
open Go.RowKit
/-- a route: kind, value, length, out -/
abbrev IRt := Int × Int × Int × Int
def rcel (r : IRt) : List Value := [.int .i64 r.1, .int .i64 r.2.1, .int .i64 r.2.2.1, .int .i64 r.2.2.2]
/-- a row of routes lies there, now and later -/
def IRR (w : World) (o : Option Addr) (L : List IRt) : Prop := ∀ W : World, Below w.heap.size w W → ∀ (k : Nat) (r : IRt), L[k]? = some r → ∃ g o0, o = some ⟨g, o0, none⟩ ∧ W.cell? ⟨g, o0 + k * 4, none⟩ = some (.int .i64 r.1) ∧ W.cell? ⟨g, o0 + k * 4 + 1, none⟩ = some (.int .i64 r.2.1) ∧ W.cell? ⟨g, o0 + k * 4 + 2, none⟩ = some (.int .i64 r.2.2.1) ∧ W.cell? ⟨g, o0 + k * 4 + 3, none⟩ = some (.int .i64 r.2.2.2)
theorem IRR.later {w w' : World} {o : Option Addr} {L : List IRt} (h : IRR w o L) (hb : Below w.heap.size w w') : IRR w' o L := fun W hW => h W (bel0 hb hW)
/-- may the route be, for b bits -/
def rmay (b : Nat) (r : IRt) : Bool := decide (1 ≤ r.1 ∧ r.1 ≤ 3 ∧ 0 ≤ r.2.2.1 ∧ r.2.2.1 ≤ (b : Int) ∧ 0 ≤ r.2.2.2 ∧ r.2.2.2 < 48 ∧ 0 ≤ r.2.1 ∧ r.2.1 < ((2 ^ b : Nat) : Int) ∧ r.2.1.toNat % 2 ^ (b - r.2.2.1.toNat) = 0)
def rfit (bits : Int) (L : List IRt) : Int := if 256 < L.length then 2 else if ¬ (1 ≤ bits ∧ bits ≤ 32) then 1 else if L.all (rmay bits.toNat) = true then 0 else 80
def rhas (b : Nat) (r : IRt) (v : Nat) : Bool := decide (v / 2 ^ (b - r.2.2.1.toNat) = r.2.1.toNat / 2 ^ (b - r.2.2.1.toNat))
def rahead (r s : IRt) : Bool := if r.2.2.1 ≠ s.2.2.1 then decide (s.2.2.1 < r.2.2.1) else if r.2.1 ≠ s.2.1 then decide (r.2.1 < s.2.1) else decide (r.1 < s.1)
/-- the first of the first i routes that has the value, by its place; 0: none (else the place and one) -/
def rfirst (b : Nat) (v : Nat) (L : List IRt) : Nat → Nat
  | 0 => 0
  | i + 1 => if rhas b (L.getD i (0, 0, 0, 0)) v = true ∧ (rfirst b v L i = 0 ∨ rahead (L.getD i (0, 0, 0, 0)) (L.getD (rfirst b v L i - 1) (0, 0, 0, 0)) = true) then i + 1 else rfirst b v L i
theorem rfirst_le (b v : Nat) (L : List IRt) : ∀ i, rfirst b v L i ≤ i
  | 0 => Nat.le_refl _
  | i + 1 => by
    have := rfirst_le b v L i
    unfold rfirst
    split <;> omega
def rlook (bits : Int) (L : List IRt) (v : Int) : Int × Int := if rfit bits L ≠ 0 then (0, rfit bits L) else if ¬ (0 ≤ v ∧ v < ((2 ^ bits.toNat : Nat) : Int)) then (0, 1) else ((rfirst bits.toNat v.toNat L L.length : Int) - 1, 0)
theorem has_val {v s val : Nat} (h : val % s = 0) : (v - v % s = val) ↔ (v / s = val / s) := by
  have h1 := Nat.div_add_mod v s
  have h2 := Nat.div_add_mod val s
  have h3 := Nat.mod_le v s
  constructor
  · intro e
    rcases Nat.eq_zero_or_pos s with rfl | hs
    · simp
    · have e1 : s * (v / s) = s * (val / s) := by omega
      exact Nat.eq_of_mul_eq_mul_left hs e1
  · intro e
    rw [e] at h1
    omega
end Go.Proofs.Ytfcdaljhbeogeaa

import Derived.Test.YtnfhhdjgjonbaaaLG
import Derived.Deep.RegionHeld3
import Derived.Lib.SlBytesConst
namespace Go.Proofs.Ytnfhhdjgjonbaaa
open Go.RowKit
set_option maxRecDepth 100000 in
set_option maxHeartbeats 1000000 in
theorem bytes_any (l : List UInt8) (p1 p2 : Option Addr) (c1 c2 n : Nat) (w : World) (hn : l.length = n) (hL : n ≤ 281474976710656) (h1 : BR w p1 l) (h2 : BR w p2 l) :
    Calls Try.prog 8 #[.slice p1 n c1, .slice p2 n c2] w fun e w' => e = .returned (.bool true) ∧ Below w.heap.size w w' := by
  have H1 : Hid (BR w p1 l) := h1
  have H2 : Hid (BR w p2 l) := h2
  have HN : Hid (l.length = n) := hn
  clear h1 h2 hn
  go_enter Try.func8, Try.ntmps8
  go_wp2_with fail
  go_loopw [5] (fun vi wr => ∃ i : Nat, vi = .int .i64 i ∧ i ≤ n ∧ Below w.heap.size w wr) (fun vi _ => n - (intOf vi).toNat)
  case atStart => exact ⟨0, rfl, Nat.zero_le _, Below.refl _ _⟩
  case round =>
    obtain ⟨i, rfl, hi, hB⟩ := hrel
    by_cases hlt : i < n
    · have j1 : (i : Int) < (n : Int) := by omega
      have j0 : (0 : Int) ≤ (i : Int) := by omega
      obtain ⟨r, hri⟩ : ∃ r, l[i]? = some r := ⟨_, List.getElem?_eq_getElem (by rw [HN.out]; omega)⟩
      obtain ⟨g, o0, rfl, x0⟩ := (H1.out.below hB) i r hri
      obtain ⟨k, q0, rfl, x1⟩ := (H2.out.below hB) i r hri
      obtain ⟨X, hX⟩ : ∃ X : Int, (r.toNat : Int) = X := ⟨_, rfl⟩
      rw [hX] at x0 x1
      have e5 : (X != X) = false := by simp
      clear hri hX
      go_wp2_with fail
      go_quiet (fail)
      go_wp2_with fail
      exact ⟨⟨i + 1, rfl, by omega, bel_drewZ nq hB⟩, by simp only [intOf]; omega⟩
    · go_wp2_with fail
      go_ret
      exact ⟨rfl, hB⟩
/-- a list of no bytes that was made here -/
theorem OB_empty {W : World} {B b : Nat} (h : W.heap[b]? = some (.cells #[] 5 (0, 0))) (hB : B ≤ b) : OB W B (.slice (some ⟨b, 0, none⟩) 0 0) [] :=
  ⟨rfl, .inr ⟨b, 0, #[], rfl, hB, h, Nat.le_refl _, by unfold maxLen; omega, rfl, rfl⟩⟩
theorem BR.len0 {W : World} {p : Option Addr} : BR W p [] := fun k x hx => by simp at hx
end Go.Proofs.Ytnfhhdjgjonbaaa

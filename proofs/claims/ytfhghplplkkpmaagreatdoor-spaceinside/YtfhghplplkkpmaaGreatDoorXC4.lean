import Derived.Test.YtfhghplplkkpmaaGreatDoorXC3
import Derived.Test.YtfhghplplkkpmaaGreatDoorXAT
namespace Go.Proofs.YtfhghplplkkpmaaGreatDoor
open Go.RowKit Go.Shelf
/-- what headers answers -/
def HDQ (w : World) (e : Ending) (w' : World) : Prop := ∃ q' n' c', e = .returned (.slice q' n' c') ∧ n' ≤ 256 ∧ RST w' q' n' ∧ Below w.heap.size w w'
theorem bys_zero (n : Nat) : bys (List.replicate n 0) = List.replicate n (Value.int .u8 0) := by simp [bys]
theorem hdr_low (b : Int) (q : Option Addr) (len cap : Nat) (w : World) (hb : b < 1 ∨ 8 < b) (hcap : len ≤ cap) (hr : RST w q len) : Calls Tryz.prog 7 #[.int .i64 b, .slice q len cap] w fun e w' => HDQ w e w' := by
  have HR : Hid (RST w q len) := hr
  clear hr
  by_cases hl : 64 < len
  · obtain ⟨ad, x, rfl, -, -⟩ := HR.out w (Below.refl _ _) 0 (by omega)
    have m1 : (64 : Int) < (len : Int) := by omega
    have m2 : (64 : Int) ≤ (cap : Int) := by omega
    have m3 : 64 ≤ cap := by omega
    by_cases h1 : b < 1
    · clear hb
      go_enter Tryz.func7, Tryz.ntmps7
      go_wp2_with fail
      go_ret
      exact ⟨_, _, _, rfl, by omega, HR.out.less (by omega), Below.refl _ _⟩
    · have h2 : 8 < b := hb.resolve_left h1
      clear hb
      go_enter Tryz.func7, Tryz.ntmps7
      go_wp2_with fail
      go_ret
      exact ⟨_, _, _, rfl, by omega, HR.out.less (by omega), Below.refl _ _⟩
  · have m1 : ¬ (64 : Int) < (len : Int) := by omega
    by_cases h1 : b < 1
    · clear hb
      go_enter Tryz.func7, Tryz.ntmps7
      go_wp2_with fail
      go_ret
      exact ⟨_, _, _, rfl, by omega, HR.out, Below.refl _ _⟩
    · have h2 : 8 < b := hb.resolve_left h1
      clear hb
      go_enter Tryz.func7, Tryz.ntmps7
      go_wp2_with fail
      go_ret
      exact ⟨_, _, _, rfl, by omega, HR.out, Below.refl _ _⟩
theorem rst_own {W : World} {B n c : Nat} {p : Option Addr} {D : List (List UInt8)} (h : W.ownsRow B 9 1 (.slice p n c) n (stx D)) (hD : D.length = n) (hl : ∀ x ∈ D, x.length ≤ maxLen) : RST W p n := fun X hX i hi => by
  have hx : D[i]? = some (D[i]'(by omega)) := List.getElem?_eq_getElem (by omega)
  obtain ⟨g, o0, rfl, hc⟩ := IRSt_own h hD X hX i _ hx
  exact ⟨⟨g, o0, none⟩, _, rfl, by rw [add_plain]; exact hc, hl _ (List.getElem_mem _)⟩
end Go.Proofs.YtfhghplplkkpmaaGreatDoor

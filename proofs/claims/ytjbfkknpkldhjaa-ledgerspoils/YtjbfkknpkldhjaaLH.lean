import Derived.Test.YtjbfkknpkldhjaaLG
import Derived.Deep.RegionHeld3
import Derived.Lib.SlBytesConst
namespace Go.Proofs.Ytjbfkknpkldhjaa
open Go.RowKit
set_option maxRecDepth 100000 in
set_option maxHeartbeats 1000000 in
theorem bytes_any (l : List UInt8) (p1 p2 : Option Addr) (c1 c2 n : Nat) (w : World) (hn : l.length = n) (hL : n ≤ 281474976710656) (h1 : BR w p1 l) (h2 : BR w p2 l) :
    Calls Try.prog 15 #[.slice p1 n c1, .slice p2 n c2] w fun e w' => e = .returned (.bool true) ∧ Below w.heap.size w w' := by
  have H1 : Hid (BR w p1 l) := h1
  have H2 : Hid (BR w p2 l) := h2
  have HN : Hid (l.length = n) := hn
  clear h1 h2 hn
  go_enter Try.func15, Try.ntmps15
  go_wp2_with fail
  go_loopw [5] (fun vi wr => ∃ i : Nat, vi = .int .i64 i ∧ i ≤ n ∧ Below w.heap.size w wr) (fun vi _ => n - (intOf vi).toNat)
  case atStart => exact ⟨0, rfl, Nat.zero_le _, Below.refl _ _⟩
  case round =>
    obtain ⟨i, rfl, hi, hB⟩ := hrel
    by_cases hlt : i < n
    · have j1 : (i : Int) < (n : Int) := by omega
      have j0 : (0 : Int) ≤ (i : Int) := by omega
      obtain ⟨r, hri⟩ : ∃ r, l[i]? = some r := ⟨_, List.getElem?_eq_getElem (by rw [HN.out]; omega)⟩
      obtain ⟨g, o0, rfl, x0⟩ := (H1.out.below hB) i r hri
      obtain ⟨k, q0, rfl, x1⟩ := (H2.out.below hB) i r hri
      obtain ⟨X, hX⟩ : ∃ X : Int, (r.toNat : Int) = X := ⟨_, rfl⟩
      rw [hX] at x0 x1
      have e5 : (X != X) = false := by simp
      clear hri hX
      go_wp2_with fail
      go_quiet (fail)
      go_wp2_with fail
      exact ⟨⟨i + 1, rfl, by omega, bel_drewZ nq hB⟩, by simp only [intOf]; omega⟩
    · go_wp2_with fail
      go_ret
      exact ⟨rfl, hB⟩
set_option maxRecDepth 100000 in
set_option maxHeartbeats 1000000 in
theorem kept_any (l : List UInt8) (p1 p2 : Option Addr) (c1 c2 n : Nat) (w : World) (hn : l.length = n) (hL : n ≤ 281474976710656) (h1 : BR w p1 l) (h2 : BR w p2 l) :
    Calls Try.prog 11 #[.slice p1 n c1, .slice p2 n c2] w fun e w' => e = .returned (.bool true) ∧ Below w.heap.size w w' := by
  have HB : Hid (Calls Try.prog 15 #[.slice p1 n c1, .slice p2 n c2] w fun e w' => e = .returned (.bool true) ∧ Below w.heap.size w w') := bytes_any l p1 p2 c1 c2 n w hn hL h1 h2
  clear hn h1 h2
  go_enter Try.func11, Try.ntmps11
  go_wp2_with fail
  refine HB.out.mono ?_
  rintro e W1 ⟨rfl, b1⟩
  go_wp2_with fail
  go_ret
  exact ⟨rfl, b1⟩
/-- a list of no bytes that was made here -/
theorem OB_empty {W : World} {B b : Nat} (h : W.heap[b]? = some (.cells #[] 5 (0, 0))) (hB : B ≤ b) : OB W B (.slice (some ⟨b, 0, none⟩) 0 0) [] :=
  ⟨rfl, .inr ⟨b, 0, #[], rfl, hB, h, Nat.le_refl _, by unfold maxLen; omega, rfl, rfl⟩⟩
theorem BR.len0 {W : World} {p : Option Addr} : BR W p [] := fun k x hx => by simp at hx
set_option maxRecDepth 100000 in
set_option maxHeartbeats 1000000 in
theorem ledgerSums_walk (l : List UInt8) (p : Option Addr) (n c : Nat) (w : World) (hn : l.length = n) (_ : n ≤ c) (hr : BR w p l) :
    Calls Try.prog 3 #[.slice p n c] w fun e w' => e = .returned (.bool true) ∧ Below w.heap.size w w' := by
  have HR : Hid (BR w p l) := hr
  have HN : Hid (l.length = n) := hn
  clear hr hn
  by_cases h1 : 200000 < n
  · have h1' : (200000 : Int) < (n : Int) := by omega
    go_enter Try.func3, Try.ntmps3
    go_wp2_with fail
    go_ret
    exact ⟨rfl, Below.refl _ _⟩
  · have h1' : ¬ (200000 : Int) < (n : Int) := by omega
    have hA : ∀ o : Obj, Below w.heap.size w (w.alloc o) := fun o => (Below.refl _ _).alloc (Nat.le_refl _) o
    go_enter Try.func3, Try.ntmps3
    go_wp2_with (at_builtin; refine app_bytes rfl _ _ rfl w.heap.size _ [] rfl (OB_empty (alloc_getZ _ _) (Nat.le_refl _)) _ _ _ l rfl HN.out (HR.out.below (hA _)) (by rw [List.length_nil]; omega) (hA _).size ?_)
    intro v1 W1 o1 g1 _
    have E1 : Hid (ES w W1 v1 l) := ⟨o1, bel_grZ (hA _) g1 (fun k e => by cases e; exact Nat.le_refl _)⟩
    clear o1 g1
    obtain ⟨p1, c1, rfl⟩ := E1.out.slice
    have hnn := HN.out
    rw [hnn] at E1
    have S1 := sum_any l p c W1 (by omega) (HR.out.below E1.out.2)
    rw [hnn] at S1
    rw [hnn]
    clear hnn
    go_wp2_with fail
    refine S1.mono ?_
    rintro e W2 ⟨rfl, b2⟩
    have E2 : Hid (ES w W2 (.slice p1 n c1) l) := E1.out.later b2
    have D2 := dsum_any l p1 c1 W2 (by have := HN.out; omega) E2.out.1.br
    rw [HN.out] at D2
    have e5 : ((sumN l : Int) == (sumN l : Int)) = true := by simp
    clear S1 E1 b2
    go_wp2_with fail
    refine D2.mono ?_
    rintro e W3 ⟨rfl, rfl⟩
    have K3 := kept_any l p p1 c c1 n W3 HN.out (by omega) (HR.out.below E2.out.2) E2.out.1.br
    go_wp2_with fail
    refine K3.mono ?_
    rintro e W4 ⟨rfl, b4⟩
    have E4 : Hid (ES w W4 (.slice p1 n c1) l) := E2.out.later b4
    clear D2 K3 b4 E2
    have kc := fun (w : World) (C : Array Value) (n c : Nat) => Lib.run_convert_bytes_const (P := Try.prog) w 22 5 C n c Try.underlying22 Try.underlying5
    go_wp2_with fail
    refine (sum_any [49, 50, 51, 52, 53, 54, 55, 56, 57] _ 9 _ (by decide) (BR_new (alloc_getZ _ _) rfl)).mono ?_
    rintro e W5 ⟨rfl, b5⟩
    rw [sumN_ex]
    have B5 : Hid (Below w.heap.size w W5) := bel0Z (belAZ E4.out.2 _) b5
    clear b5 E4
    go_wp2_with fail
    go_ret
    exact ⟨rfl, B5.out⟩
end Go.Proofs.Ytjbfkknpkldhjaa

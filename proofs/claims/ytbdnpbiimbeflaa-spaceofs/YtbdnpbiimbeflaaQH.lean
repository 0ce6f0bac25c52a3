import Derived.Test.YtbdnpbiimbeflaaQG
import Derived.Test.YtbdnpbiimbeflaaRL
import Derived.Shelf.Small.Bits
namespace Go.Proofs.Ytbdnpbiimbeflaa
open Go.RowKit Go.Shelf
set_option maxRecDepth 100000 in
set_option maxHeartbeats 1000000 in
theorem ins_le1 (n : Nat) (hn : n ≤ 1) (p : Option Addr) (c : Nat) (w : World) : Calls Try.prog 70 #[.slice p n c, .int .i64 0, .int .i64 (n : Int), .func (.func 41) #[] #[]] w fun e w' => e = .returned (.tuple #[]) ∧ Below w.heap.size w w' := by
  have h1 : ¬ (1 : Int) < (n : Int) := by omega
  go_enter Try.func70, Try.ntmps70
  go_wp2_with fail
  go_loopw [8] (fun v wr => v = .int .i64 1 ∧ Below w.heap.size w wr) (fun _ _ => 0)
  case atStart => exact ⟨rfl, Below.refl _ _⟩
  case round =>
    obtain ⟨rfl, hB⟩ := hrel
    go_wp2_with fail
    exact ⟨rfl, .tuple #[], by simp [results, Try.results70], rfl, hB⟩
set_option maxRecDepth 100000 in
set_option maxHeartbeats 2000000 in
theorem pdq_le1 (n : Nat) (hn : n ≤ 1) (p : Option Addr) (c : Nat) (l : Int) (w : World) : Calls Try.prog 60 #[.slice p n c, .int .i64 0, .int .i64 (n : Int), .int .i64 l, .func (.func 41) #[] #[]] w fun e w' => e = .returned (.tuple #[]) ∧ Below w.heap.size w w' := by
  have h1 : (n : Int) ≤ 12 := by omega
  have h2 : (0 : Int) ≤ (n : Int) := by omega
  have HI : Hid (∀ W, Calls Try.prog 70 #[.slice p n c, .int .i64 0, .int .i64 (n : Int), .func (.func 41) #[] #[]] W fun e w' => e = .returned (.tuple #[]) ∧ Below W.heap.size W w') := fun W => ins_le1 n hn p c W
  go_enter Try.func60, Try.ntmps60
  go_wp2_with fail
  go_loopw [1, 2, 3] (fun v1 v2 _ wr => v1 = .int .i64 0 ∧ v2 = .int .i64 (n : Int) ∧ Below w.heap.size w wr) (fun _ _ _ _ => 0)
  case atStart => exact ⟨rfl, rfl, Below.refl _ _⟩
  case round =>
    obtain ⟨rfl, rfl, hB⟩ := hrel
    go_wp2_with fail
    refine (HI.out _).mono ?_
    rintro e W1 ⟨rfl, hb1⟩
    go_wp2_with fail
    exact ⟨rfl, .tuple #[], by simp [results, Try.results60], rfl, bel0 hB hb1⟩
set_option maxRecDepth 100000 in
set_option maxHeartbeats 1000000 in
theorem sort_le1 (n : Nat) (hn : n ≤ 1) (p : Option Addr) (c : Nat) (w : World) : Calls Try.prog 40 #[.slice p n c, .func (.func 41) #[] #[]] w fun e w' => e = .returned (.tuple #[]) ∧ Below w.heap.size w w' := by
  have HL : Hid (∀ W, Calls Try.prog 61 #[.int .u64 (n : Int)] W fun e w' => (∃ l : Int, e = .returned (.int .i64 l)) ∧ w' = W) := fun W => (Any.bits_Len Try.l125 n W (by omega) (by omega)).mono fun _ _ ⟨he, hw⟩ => ⟨⟨_, he⟩, hw⟩
  have HP : Hid (∀ (l : Int) (W : World), Calls Try.prog 60 #[.slice p n c, .int .i64 0, .int .i64 (n : Int), .int .i64 l, .func (.func 41) #[] #[]] W fun e w' => e = .returned (.tuple #[]) ∧ Below W.heap.size W w') := fun l W => pdq_le1 n hn p c l W
  have h3 : IntKind.u64.wrap (n : Int) = (n : Int) := by unfold IntKind.wrap; simp [IntKind.bits]; omega
  go_enter Try.func40, Try.ntmps40
  go_wp2_with fail
  refine (HL.out _).mono ?_
  rintro e W1 ⟨⟨l, rfl⟩, rfl⟩
  go_wp2_with fail
  refine (HP.out _ _).mono ?_
  rintro e W2 ⟨rfl, hb2⟩
  go_wp2_with fail
  exact ⟨rfl, .tuple #[], by simp [results, Try.results40], rfl, hb2⟩
end Go.Proofs.Ytbdnpbiimbeflaa

import Derived.Test.YtbdnpbiimbeflaaRows
import Derived.WalkKit
import Derived.WalkSpells
import Derived.WalkLawsBesides
import Derived.Deep.QuietTactic
import Derived.BigQuiet
namespace Go.Proofs.Ytbdnpbiimbeflaa
open Go.RowKit

/-- the value of a cube: its width, the four words of its fixed places, the four words of its ones -/
def cv (n a b c d e f g h : Int) : Value := .agg #[.int .i64 n, .int .u64 a, .int .u64 b, .int .u64 c, .int .u64 d, .int .u64 e, .int .u64 f, .int .u64 g, .int .u64 h]

theorem bcell {W w1 : World} (hb : Below W.heap.size W w1) : (∀ b o, b < W.heap.size → w1.cell? ⟨b, o, none⟩ = W.cell? ⟨b, o, none⟩) ∧ (∀ b o, b < W.heap.size → w1.frozen? ⟨b, o, none⟩ = W.frozen? ⟨b, o, none⟩) :=
  ⟨fun b o h => hb.cell (p := ⟨b, o, none⟩) h, fun b o h => hb.frozen (p := ⟨b, o, none⟩) h⟩

theorem below_drewN (B n : Nat) (w : World) : Below B w (w.drewN n) := by
  induction n with
  | zero => exact Below.refl _ _
  | succ n ih => exact ⟨ih.os, ih.tape, ih.output, ih.size, ih.block⟩

set_option maxHeartbeats 400000 in
theorem all_yes (n : Int) (w : World) (h1 : 1 ≤ n) (h2 : n ≤ 256) :
    Calls Try.prog 12 #[.int .i64 n] w fun e w' => e = .returned (cv n 0 0 0 0 0 0 0 0) ∧ Below w.heap.size w w' := by
  go_enter Try.func12, Try.ntmps12
  go_wp2
  exact bodyPost_ret (v := cv n 0 0 0 0 0 0 0 0) (by simp [results, Try.results12, go_sem, cv]) rfl ⟨rfl, (Below.refl _ _).alloc (Nat.le_refl _) _⟩

set_option maxHeartbeats 400000 in
theorem all_no (n : Int) (w : World) (h : n < 1 ∨ 256 < n) :
    Calls Try.prog 12 #[.int .i64 n] w fun e w' => e = .returned (cv 0 0 0 0 0 0 0 0 0) ∧ Below w.heap.size w w' := by
  rcases h with h | h
  · go_enter Try.func12, Try.ntmps12
    go_wp2
    exact bodyPost_ret (v := cv 0 0 0 0 0 0 0 0 0) (by simp [results, Try.results12, go_sem, cv]) rfl ⟨rfl, (Below.refl _ _).alloc (Nat.le_refl _) _⟩
  · have h' : ¬ n < 1 := by omega
    go_enter Try.func12, Try.ntmps12
    go_wp2
    exact bodyPost_ret (v := cv 0 0 0 0 0 0 0 0 0) (by simp [results, Try.results12, go_sem, cv]) rfl ⟨rfl, (Below.refl _ _).alloc (Nat.le_refl _) _⟩

theorem wrap_pow (r : Nat) (h : r < 64) : IntKind.u64.wrap ((2 : Int) ^ r) = ((2 ^ r : Nat) : Int) := by
  rw [IntKind.wrap_u64]
  have h1 : 2 ^ r < 2 ^ 64 := Nat.pow_lt_pow_right (by omega) h
  have h2 : ((2 : Int) ^ r) = ((2 ^ r : Nat) : Int) := by simp
  rw [h2]; generalize 2 ^ r = x at h1 ⊢; omega

set_option maxHeartbeats 400000 in
theorem spot_raw (p : Int) (w : World) (h1 : 0 ≤ p) (h2 : p < 256) :
    Calls Try.prog 22 #[.int .i64 p] w fun e w' => e = .returned (.tuple #[.int .i64 (p / 64), .int .u64 ((2 ^ (p % 64).toNat : Nat) : Int)]) ∧ ∃ n, w' = w.drewN n := by
  have hm : 0 ≤ p % 64 ∧ p % 64 < 64 := by omega
  go_enter Try.func22, Try.ntmps22
  go_wp2
  go_quiet (fail)
  go_wp2
  go_ret2
  exact ⟨by rw [wrap_pow _ (by omega)]; rfl, _, rfl⟩

theorem spot_at (p : Int) (k r : Nat) (w : World) (hk : k < 4) (hr : r < 64) (hp : p = ((64 * k + r : Nat) : Int)) :
    Calls Try.prog 22 #[.int .i64 p] w fun e w' => e = .returned (.tuple #[.int .i64 k, .int .u64 ((2 ^ r : Nat) : Int)]) ∧ ∃ n, w' = w.drewN n := by
  refine (spot_raw p w (by omega) (by omega)).mono ?_
  rintro e w' ⟨rfl, h⟩
  have e1 : p / 64 = (k : Int) := by omega
  have e2 : (p % 64).toNat = r := by omega
  rw [e1, e2]
  exact ⟨rfl, h⟩

set_option maxHeartbeats 400000 in
theorem at_0 (n a b c d e f g h p : Int) (r : Nat) (w : World) (hr : r < 64) (hp : p = ((64 * 0 + r : Nat) : Int)) :
    Calls Try.prog 48 #[cv n a b c d e f g h, .int .i64 p] w fun e' w' => e' = .returned (.int .u8 (if (bits .and .u64 a ((2 ^ r : Nat) : Int) == 0) = true then 120 else if (bits .and .u64 e ((2 ^ r : Nat) : Int) == 0) = true then 48 else 49)) ∧ Below w.heap.size w w' := by
  have HP : Hid (p = ((64 * 0 + r : Nat) : Int)) := hp
  clear hp
  unfold cv
  generalize hX : (2 ^ r : Nat) = X
  have HX : Hid ((2 ^ r : Nat) = X) := hX
  clear hX
  go_enter Try.func48, Try.ntmps48
  go_wp2_with (go_at_call 22; refine (spot_at p 0 r _ (by decide) hr HP.out).mono ?_; rintro e w' ⟨rfl, nq, rfl⟩; rw [HX.out])
  all_goals go_ret
  all_goals exact ⟨by simp_all, ((Below.refl _ _).alloc (Nat.le_refl _) _).trans (below_drewN _ _ _)⟩

set_option maxHeartbeats 400000 in
theorem at_1 (n a b c d e f g h p : Int) (r : Nat) (w : World) (hr : r < 64) (hp : p = ((64 * 1 + r : Nat) : Int)) :
    Calls Try.prog 48 #[cv n a b c d e f g h, .int .i64 p] w fun e' w' => e' = .returned (.int .u8 (if (bits .and .u64 b ((2 ^ r : Nat) : Int) == 0) = true then 120 else if (bits .and .u64 f ((2 ^ r : Nat) : Int) == 0) = true then 48 else 49)) ∧ Below w.heap.size w w' := by
  have HP : Hid (p = ((64 * 1 + r : Nat) : Int)) := hp
  clear hp
  unfold cv
  generalize hX : (2 ^ r : Nat) = X
  have HX : Hid ((2 ^ r : Nat) = X) := hX
  clear hX
  go_enter Try.func48, Try.ntmps48
  go_wp2_with (go_at_call 22; refine (spot_at p 1 r _ (by decide) hr HP.out).mono ?_; rintro e w' ⟨rfl, nq, rfl⟩; rw [HX.out])
  all_goals go_ret
  all_goals exact ⟨by simp_all, ((Below.refl _ _).alloc (Nat.le_refl _) _).trans (below_drewN _ _ _)⟩

set_option maxHeartbeats 400000 in
theorem at_2 (n a b c d e f g h p : Int) (r : Nat) (w : World) (hr : r < 64) (hp : p = ((64 * 2 + r : Nat) : Int)) :
    Calls Try.prog 48 #[cv n a b c d e f g h, .int .i64 p] w fun e' w' => e' = .returned (.int .u8 (if (bits .and .u64 c ((2 ^ r : Nat) : Int) == 0) = true then 120 else if (bits .and .u64 g ((2 ^ r : Nat) : Int) == 0) = true then 48 else 49)) ∧ Below w.heap.size w w' := by
  have HP : Hid (p = ((64 * 2 + r : Nat) : Int)) := hp
  clear hp
  unfold cv
  generalize hX : (2 ^ r : Nat) = X
  have HX : Hid ((2 ^ r : Nat) = X) := hX
  clear hX
  go_enter Try.func48, Try.ntmps48
  go_wp2_with (go_at_call 22; refine (spot_at p 2 r _ (by decide) hr HP.out).mono ?_; rintro e w' ⟨rfl, nq, rfl⟩; rw [HX.out])
  all_goals go_ret
  all_goals exact ⟨by simp_all, ((Below.refl _ _).alloc (Nat.le_refl _) _).trans (below_drewN _ _ _)⟩

set_option maxHeartbeats 400000 in
theorem at_3 (n a b c d e f g h p : Int) (r : Nat) (w : World) (hr : r < 64) (hp : p = ((64 * 3 + r : Nat) : Int)) :
    Calls Try.prog 48 #[cv n a b c d e f g h, .int .i64 p] w fun e' w' => e' = .returned (.int .u8 (if (bits .and .u64 d ((2 ^ r : Nat) : Int) == 0) = true then 120 else if (bits .and .u64 h ((2 ^ r : Nat) : Int) == 0) = true then 48 else 49)) ∧ Below w.heap.size w w' := by
  have HP : Hid (p = ((64 * 3 + r : Nat) : Int)) := hp
  clear hp
  unfold cv
  generalize hX : (2 ^ r : Nat) = X
  have HX : Hid ((2 ^ r : Nat) = X) := hX
  clear hX
  go_enter Try.func48, Try.ntmps48
  go_wp2_with (go_at_call 22; refine (spot_at p 3 r _ (by decide) hr HP.out).mono ?_; rintro e w' ⟨rfl, nq, rfl⟩; rw [HX.out])
  all_goals go_ret
  all_goals exact ⟨by simp_all, ((Below.refl _ _).alloc (Nat.le_refl _) _).trans (below_drewN _ _ _)⟩
end Go.Proofs.Ytbdnpbiimbeflaa

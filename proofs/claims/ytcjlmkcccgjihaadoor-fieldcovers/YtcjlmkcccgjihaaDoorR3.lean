import Derived.Test.YtcjlmkcccgjihaaDoorR2
namespace Go.Proofs.YtcjlmkcccgjihaaDoor
open Go.RowKit Go.Shelf
theorem pow_pred (k : Nat) : 2 ^ k - 1 + 1 = 2 ^ k := by
  have : 0 < 2 ^ k := Nat.pow_pos (by decide)
  omega
theorem halves_any (b lo hi : Nat) (hb : b ≤ 32) (hhi : hi < 4294967296) (k : Nat) : ∀ (base : Nat) (w : World), k ≤ b → base + (2 ^ k - 1) < 4294967296 →
    Calls Tryd.prog 19 #[.int .i64 (b : Int), .int .i64 (base : Int), .int .i64 ((b - k : Nat) : Int), .int .i64 (lo : Int), .int .i64 (hi : Int)] w fun e w' => hvR w (hvT b k base lo hi) e w' := by
  induction k with
  | zero =>
    intro base w hk hbs
    by_cases h1 : lo ≤ base ∧ base + 2 ^ 0 - 1 ≤ hi
    · rw [hvT_leaf h1]
      exact half_in b lo hi 0 base 0 w hb hk rfl (by omega) h1.1 (by have := h1.2; simp at this; omega) hhi
    · have h2 : hi < base ∨ base + 2 ^ 0 - 1 < lo := by simp at h1 ⊢; omega
      rw [hvT_out h1 h2]
      exact half_out b lo hi 0 base 0 w hb hk rfl (by omega) (by simp at h2; omega)
  | succ k ih =>
    intro base w hk hbs
    have hp0 : 0 < 2 ^ k := Nat.pow_pos (by decide)
    have hps : 2 ^ (k + 1) = 2 ^ k * 2 := Nat.pow_succ 2 k
    have hG4 := Nat.pow_le_pow_right (n := 2) (by decide) (show k ≤ 32 by omega)
    obtain ⟨G, hG⟩ : ∃ G, 2 ^ k = G := ⟨_, rfl⟩
    obtain ⟨P, hP⟩ : ∃ P, 2 ^ (k + 1) - 1 = P := ⟨_, rfl⟩
    have hPG : P = G + G - 1 := by omega
    by_cases h1 : lo ≤ base ∧ base + 2 ^ (k + 1) - 1 ≤ hi
    · rw [hvT_leaf h1]
      exact half_in b lo hi (k + 1) base P w hb hk hP (by omega) h1.1 (by omega) hhi
    · by_cases h2 : hi < base ∨ base + 2 ^ (k + 1) - 1 < lo
      · rw [hvT_out h1 h2]
        exact half_out b lo hi (k + 1) base P w hb hk hP (by omega) (by omega)
      · rw [hvT_two h1 h2]
        have l1 := hvT_len b k base lo hi
        have l2 := hvT_len b k (base + 2 ^ k) lo hi
        have I1 := fun W => ih base W (by omega) (by omega)
        have I2 := fun W => ih (base + 2 ^ k) W (by omega) (by omega)
        have hn1 : b - k = b - (k + 1) + 1 := by omega
        simp only [hn1] at I1 I2
        simp only [hG] at I2
        rw [hG] at l1 l2 ⊢
        exact half_two b lo hi k base (b - (k + 1)) P G w _ _ hb (by omega) (by omega) hP hG (by omega) (by omega) (by omega) (by omega) (by omega) (by omega) I1 I2
/-- Cover's error -/
def covE (b lo hi : Int) : Nat :=
  if b < 1 ∨ 32 < b then 1
  else if ¬ (0 ≤ lo ∧ lo ≤ ((2 ^ b.toNat - 1 : Nat) : Int)) ∨ ¬ (0 ≤ hi ∧ hi ≤ ((2 ^ b.toNat - 1 : Nat) : Int)) then 42
  else if hi < lo then 43 else 0
def covL (b lo hi : Int) : List (List UInt8) := if covE b lo hi = 0 then cov b.toNat lo.toNat hi.toNat else []
def cvR (w : World) (b lo hi : Int) (e : Ending) (w' : World) : Prop := ∃ v, e = .returned (.tuple #[v, .int .i64 (covE b lo hi : Int)]) ∧ w'.ownsRow w.heap.size 9 1 v (covL b lo hi).length (stx (covL b lo hi)) ∧ Below w.heap.size w w'
theorem cvR_nil {w w' : World} {b lo hi : Int} {n : Nat} {e : Ending} (h : covE b lo hi = n) (hn : n ≠ 0) (he : e = .returned (.tuple #[.slice none 0 0, .int .i64 (n : Int)])) (hb : Below w.heap.size w w') : cvR w b lo hi e w' := by
  refine ⟨.slice none 0 0, by rw [h]; exact he, ?_, hb⟩
  have : covL b lo hi = [] := by unfold covL; rw [if_neg (by rw [h]; exact hn)]
  rw [this]
  exact World.ownsRow_nil _ _ _ _
set_option maxRecDepth 100000 in
set_option maxHeartbeats 1000000 in
theorem cover_any (b lo hi : Int) (w : World) (hdb : DB w) :
    Calls Tryd.prog 6 #[.int .i64 b, .int .i64 lo, .int .i64 hi] w fun e w' => cvR w b lo hi e w' := by
  by_cases h1 : b < 1
  · have hr : Hid (covE b lo hi = 1) := if_pos (.inl h1)
    go_enter Tryd.func6, Tryd.ntmps6
    go_wp2_with fail
    go_ret2
    exact cvR_nil hr.out (by decide) rfl (Below.refl _ _)
  · by_cases h2 : 32 < b
    · have hr : Hid (covE b lo hi = 1) := if_pos (.inr h2)
      go_enter Tryd.func6, Tryd.ntmps6
      go_wp2_with fail
      go_ret2
      exact cvR_nil hr.out (by decide) rfl (Below.refl _ _)
    · obtain ⟨n, rfl⟩ : ∃ n : Nat, b = (n : Int) := ⟨b.toNat, by omega⟩
      have HF := fun v W => fits_any v n (by omega) W
      have hE : covE (n : Int) lo hi = if ¬ (0 ≤ lo ∧ lo ≤ ((2 ^ n - 1 : Nat) : Int)) ∨ ¬ (0 ≤ hi ∧ hi ≤ ((2 ^ n - 1 : Nat) : Int)) then 42 else if hi < lo then 43 else 0 := by
        unfold covE
        rw [if_neg (by omega), Int.toNat_natCast]
      by_cases g1 : 0 ≤ lo ∧ lo ≤ ((2 ^ n - 1 : Nat) : Int)
      · have F1 := fun W => HF lo W
        rw [decide_eq_true g1] at F1
        by_cases g2 : 0 ≤ hi ∧ hi ≤ ((2 ^ n - 1 : Nat) : Int)
        · have F2 := fun W => HF hi W
          rw [decide_eq_true g2] at F2
          rw [if_neg (by rintro (h | h); exact h g1; exact h g2)] at hE
          by_cases g3 : hi < lo
          · rw [if_pos g3] at hE
            have hr : Hid (covE (n : Int) lo hi = 43) := hE
            clear hE HF g1 g2
            go_enter Tryd.func6, Tryd.ntmps6
            go_wp2_with fail
            refine (F1 _).mono ?_
            rintro e w1 ⟨rfl, rfl⟩
            go_wp2_with fail
            refine (F2 _).mono ?_
            rintro e w2 ⟨rfl, rfl⟩
            go_wp2_with fail
            go_ret2
            exact cvR_nil hr.out (by decide) rfl (Below.refl _ _)
          · rw [if_neg g3] at hE
            obtain ⟨l, rfl⟩ : ∃ l : Nat, lo = (l : Int) := ⟨lo.toNat, by omega⟩
            obtain ⟨h, rfl⟩ : ∃ h : Nat, hi = (h : Int) := ⟨hi.toNat, by omega⟩
            have hp0 : 0 < 2 ^ n := Nat.pow_pos (by decide)
            have HP := prefixes_any n l h (by omega) (by omega) (by omega) (by omega) w hdb
            have hcl : covL (n : Int) (l : Int) (h : Int) = cov n l h := by unfold covL; rw [if_pos hE]; simp
            rw [← hcl] at HP
            have hr : Hid (covE (n : Int) (l : Int) (h : Int) = 0) := hE
            clear hE HF g1 g2 hcl hp0 hdb
            go_enter Tryd.func6, Tryd.ntmps6
            go_wp2_with fail
            refine (F1 _).mono ?_
            rintro e w1 ⟨rfl, rfl⟩
            go_wp2_with fail
            refine (F2 _).mono ?_
            rintro e w2 ⟨rfl, rfl⟩
            go_wp2_with fail
            refine HP.mono ?_
            rintro e w3 ⟨v3, rfl, ho3, hb3⟩
            go_wp2_with fail
            go_ret2
            exact ⟨v3, by rw [hr.out]; rfl, ho3, hb3⟩
        · have F2 := fun W => HF hi W
          rw [decide_eq_false g2] at F2
          rw [if_pos (.inr g2)] at hE
          have hr : Hid (covE (n : Int) lo hi = 42) := hE
          clear hE HF g1 g2
          go_enter Tryd.func6, Tryd.ntmps6
          go_wp2_with fail
          refine (F1 _).mono ?_
          rintro e w1 ⟨rfl, rfl⟩
          go_wp2_with fail
          refine (F2 _).mono ?_
          rintro e w2 ⟨rfl, rfl⟩
          go_wp2_with fail
          go_ret2
          exact cvR_nil hr.out (by decide) rfl (Below.refl _ _)
      · have F1 := fun W => HF lo W
        rw [decide_eq_false g1] at F1
        rw [if_pos (.inl g1)] at hE
        have hr : Hid (covE (n : Int) lo hi = 42) := hE
        clear hE HF g1
        go_enter Tryd.func6, Tryd.ntmps6
        go_wp2_with fail
        refine (F1 _).mono ?_
        rintro e w1 ⟨rfl, rfl⟩
        go_wp2_with fail
        go_ret2
        exact cvR_nil hr.out (by decide) rfl (Below.refl _ _)
end Go.Proofs.YtcjlmkcccgjihaaDoor

import Derived.Test.YtclgjdhobdncjaaDoorCA
namespace Go.Proofs.YtclgjdhobdncjaaDoor
open Go.RowKit Go.Shelf
theorem escS_sh (l : List UInt8) (i : Nat) (h : i + 1 < l.length → bt l (i + 1) ≠ 120 ∧ bt l (i + 1) ≠ 117) : escS l i = (if shO (chr l (i + 1)) = none then 0 else 2, (shO (chr l (i + 1))).elim [] (fun y => [UInt8.ofNat y.toNat])) := by
  by_cases hi : i + 1 < l.length
  · obtain ⟨h1, h2⟩ := h hi
    have key : ∀ k : Nat, k < 128 → (chr l (i + 1) = (k : Int) ↔ bt l (i + 1) = k) := fun k hk => by rw [chr_asc l (i + 1) k hk]; exact ⟨fun e => e.2, fun e => ⟨hi, e⟩⟩
    have k1 : chr l (i + 1) = 34 ↔ bt l (i + 1) = 34 := key 34 (by decide)
    have k2 : chr l (i + 1) = 92 ↔ bt l (i + 1) = 92 := key 92 (by decide)
    have k3 : chr l (i + 1) = 110 ↔ bt l (i + 1) = 110 := key 110 (by decide)
    have k4 : chr l (i + 1) = 114 ↔ bt l (i + 1) = 114 := key 114 (by decide)
    have k5 : chr l (i + 1) = 116 ↔ bt l (i + 1) = 116 := key 116 (by decide)
    unfold escS
    rw [if_neg (show ¬ l.length ≤ i + 1 by omega)]
    unfold shO
    by_cases g1 : bt l (i + 1) = 34
    · rw [if_pos g1, if_pos (k1.2 g1)]; rfl
    rw [if_neg g1, if_neg (fun e => g1 (k1.1 e))]
    by_cases g2 : bt l (i + 1) = 92
    · rw [if_pos g2, if_pos (k2.2 g2)]; rfl
    rw [if_neg g2, if_neg (fun e => g2 (k2.1 e))]
    by_cases g3 : bt l (i + 1) = 110
    · rw [if_pos g3, if_pos (k3.2 g3)]; rfl
    rw [if_neg g3, if_neg (fun e => g3 (k3.1 e))]
    by_cases g4 : bt l (i + 1) = 114
    · rw [if_pos g4, if_pos (k4.2 g4)]; rfl
    rw [if_neg g4, if_neg (fun e => g4 (k4.1 e))]
    by_cases g5 : bt l (i + 1) = 116
    · rw [if_pos g5, if_pos (k5.2 g5)]; rfl
    rw [if_neg g5, if_neg (fun e => g5 (k5.1 e)), if_neg h1, if_neg h2]
    rfl
  · have hc : chr l (i + 1) = -2 := by unfold chr; rw [if_neg hi]
    rw [hc]
    unfold escS
    rw [if_pos (by omega)]
    rfl
/-- what the escape at a place says -/
theorem escapeAt_any (l : List UInt8) (i : Nat) (ad : Addr) (cap : Nat) (w : World) (hs : l.length ≤ 16384) (hi : i < l.length) (b0 : bt l i = 92) (hcap : (chars l i).length ≤ cap) (hC : CH w ad (chars l i)) (hsh : SH w) :
    Calls Tryd.prog 25 #[.slice (some ad) (chars l i).length cap] w fun e w' => escR w (escS l i).1 (escS l i).2 e w' := by
  have short : (i + 1 < l.length → bt l (i + 1) ≠ 120 ∧ bt l (i + 1) ≠ 117) → Calls Tryd.prog 25 #[.slice (some ad) (chars l i).length cap] w fun e w' => escR w (escS l i).1 (escS l i).2 e w' := fun hno => by
    have hc0 : chars l i = (92, i) :: chars l (i + 1) := by rw [chars_asc hi (by omega), b0]; rfl
    obtain ⟨r, hr⟩ := chars_head l (i + 1)
    have h1 := (hC 1 _ (by rw [hc0, hr]; rfl)).1
    have hl := chars_len l _ i (Nat.le_refl _)
    rw [escS_sh l i hno]
    have key : ∀ k : Nat, k < 128 → (i + 1 < l.length → bt l (i + 1) ≠ k) → chr l (i + 1) ≠ (k : Int) := fun k hk h e => by
      have := (chr_asc l (i + 1) k hk).1 e
      exact h this.1 this.2
    exact esc_short ad _ cap (chr l (i + 1)) w (by rw [hc0, hr]; simp) (by omega) h1 (key 120 (by decide) (fun h => (hno h).1)) (key 117 (by decide) (fun h => (hno h).2)) hsh
  by_cases h1 : i + 1 < l.length
  · by_cases g1 : bt l (i + 1) = 120
    · exact esc_x l i ad cap w hs h1 b0 g1 hcap hC
    · by_cases g2 : bt l (i + 1) = 117
      · exact esc_u l i ad cap w hs h1 b0 g2 hcap hC
      · exact short (fun _ => ⟨g1, g2⟩)
  · exact short (fun h => absurd h h1)
end Go.Proofs.YtclgjdhobdncjaaDoor

import Derived.Test.YtcjlmkcccgjihaaDoorR3
namespace Go.Proofs.YtcjlmkcccgjihaaDoor
open Go.RowKit Go.Shelf
theorem hvT_cov (n l h : Nat) (hn : n ≤ 32) (hlh : l ≤ h) (hh : h < 2 ^ n) : hvT n n 0 l h = cov n l h := by
  unfold hvT cov
  rw [hv_all n l h hn hlh hh]
set_option maxRecDepth 100000 in
set_option maxHeartbeats 1000000 in
theorem refCover_any (b lo hi : Int) (w : World) :
    Calls Tryd.prog 13 #[.int .i64 b, .int .i64 lo, .int .i64 hi] w fun e w' => cvR w b lo hi e w' := by
  by_cases h1 : b < 1
  · have hr : Hid (covE b lo hi = 1) := if_pos (.inl h1)
    go_enter Tryd.func13, Tryd.ntmps13
    go_wp2_with fail
    go_ret2
    exact cvR_nil hr.out (by decide) rfl (Below.refl _ _)
  · by_cases h2 : 32 < b
    · have hr : Hid (covE b lo hi = 1) := if_pos (.inr h2)
      go_enter Tryd.func13, Tryd.ntmps13
      go_wp2_with fail
      go_ret2
      exact cvR_nil hr.out (by decide) rfl (Below.refl _ _)
    · obtain ⟨n, rfl⟩ : ∃ n : Nat, b = (n : Int) := ⟨b.toNat, by omega⟩
      have HT := fun W => top_any n (by omega) W
      have hp0 : 0 < 2 ^ n := Nat.pow_pos (by decide)
      have hp1 : 2 ^ n ≤ 2 ^ 32 := Nat.pow_le_pow_right (by decide) (by omega)
      have hE : covE (n : Int) lo hi = if ¬ (0 ≤ lo ∧ lo ≤ ((2 ^ n - 1 : Nat) : Int)) ∨ ¬ (0 ≤ hi ∧ hi ≤ ((2 ^ n - 1 : Nat) : Int)) then 42 else if hi < lo then 43 else 0 := by
        unfold covE
        rw [if_neg (by omega), Int.toNat_natCast]
      obtain ⟨T, hT⟩ : ∃ T, 2 ^ n - 1 = T := ⟨_, rfl⟩
      simp only [hT] at HT
      rw [hT] at hE
      have hT32 : T < 4294967296 := by omega
      by_cases g1 : lo < 0
      · rw [if_pos (.inl (by omega))] at hE
        have hr : Hid (covE (n : Int) lo hi = 42) := hE
        clear hE hT hp0 hp1
        go_enter Tryd.func13, Tryd.ntmps13
        go_wp2_with fail
        go_ret2
        exact cvR_nil hr.out (by decide) rfl (Below.refl _ _)
      by_cases g2 : (T : Int) < lo
      · rw [if_pos (.inl (by omega))] at hE
        have hr : Hid (covE (n : Int) lo hi = 42) := hE
        clear hE hT hp0 hp1
        go_enter Tryd.func13, Tryd.ntmps13
        go_wp2_with fail
        refine (HT _).mono ?_
        rintro e w1 ⟨rfl, rfl⟩
        go_wp2_with fail
        go_ret2
        exact cvR_nil hr.out (by decide) rfl (Below.refl _ _)
      by_cases g3 : hi < 0
      · rw [if_pos (.inr (by omega))] at hE
        have hr : Hid (covE (n : Int) lo hi = 42) := hE
        clear hE hT hp0 hp1
        go_enter Tryd.func13, Tryd.ntmps13
        go_wp2_with fail
        refine (HT _).mono ?_
        rintro e w1 ⟨rfl, rfl⟩
        go_wp2_with fail
        go_ret2
        exact cvR_nil hr.out (by decide) rfl (Below.refl _ _)
      by_cases g4 : (T : Int) < hi
      · rw [if_pos (.inr (by omega))] at hE
        have hr : Hid (covE (n : Int) lo hi = 42) := hE
        clear hE hT hp0 hp1
        go_enter Tryd.func13, Tryd.ntmps13
        go_wp2_with fail
        refine (HT _).mono ?_
        rintro e w1 ⟨rfl, rfl⟩
        go_wp2_with fail
        refine (HT _).mono ?_
        rintro e w2 ⟨rfl, rfl⟩
        go_wp2_with fail
        go_ret2
        exact cvR_nil hr.out (by decide) rfl (Below.refl _ _)
      rw [if_neg (by omega)] at hE
      by_cases g5 : hi < lo
      · rw [if_pos g5] at hE
        have hr : Hid (covE (n : Int) lo hi = 43) := hE
        clear hE hT hp0 hp1
        go_enter Tryd.func13, Tryd.ntmps13
        go_wp2_with fail
        refine (HT _).mono ?_
        rintro e w1 ⟨rfl, rfl⟩
        go_wp2_with fail
        refine (HT _).mono ?_
        rintro e w2 ⟨rfl, rfl⟩
        go_wp2_with fail
        go_ret2
        exact cvR_nil hr.out (by decide) rfl (Below.refl _ _)
      · rw [if_neg g5] at hE
        obtain ⟨l, rfl⟩ : ∃ l : Nat, lo = (l : Int) := ⟨lo.toNat, by omega⟩
        obtain ⟨h, rfl⟩ : ∃ h : Nat, hi = (h : Int) := ⟨hi.toNat, by omega⟩
        have HH := halves_any n l h (by omega) (by omega) n 0 w (Nat.le_refl _) (by omega)
        have hcl : covL (n : Int) (l : Int) (h : Int) = cov n l h := by unfold covL; rw [if_pos hE]; simp
        rw [hvT_cov n l h (by omega) (by omega) (by omega), ← hcl, Nat.sub_self] at HH
        have hr : Hid (covE (n : Int) (l : Int) (h : Int) = 0) := hE
        clear hE hT hp0 hp1 hcl
        go_enter Tryd.func13, Tryd.ntmps13
        go_wp2_with fail
        refine (HT _).mono ?_
        rintro e w1 ⟨rfl, rfl⟩
        go_wp2_with fail
        refine (HT _).mono ?_
        rintro e w2 ⟨rfl, rfl⟩
        go_wp2_with fail
        refine HH.mono ?_
        rintro e w3 ⟨v3, rfl, ho3, hb3⟩
        go_wp2_with fail
        go_ret2
        exact ⟨v3, by rw [hr.out]; rfl, ho3, hb3⟩
set_option maxRecDepth 100000 in
theorem num_any (e : Nat) (he : e < 1000) (w : World) : Calls Tryd.prog 7 #[.int .i64 (e : Int)] w fun x w' => x = .returned (.int .i64 (e : Int)) ∧ w' = w := by
  have e1 : IntKind.i64.wrap (e : Int) = (e : Int) := by rw [IntKind.wrap_i64]; omega
  go_enter Tryd.func7, Tryd.ntmps7
  go_wp2
  go_ret
  exact ⟨rfl, rfl⟩
set_option maxRecDepth 100000 in
set_option maxHeartbeats 1000000 in
/-- like rows are alike -/
theorem same_any (L : List (List UInt8)) (B1 B2 : Nat) (va vb : Value) (w : World) (hL : L.length ≤ 4294967296) (ha : w.ownsRow B1 9 1 va L.length (stx L)) (hb : w.ownsRow B2 9 1 vb L.length (stx L)) :
    Calls Tryd.prog 14 #[va, vb] w fun x w' => x = .returned (.bool true) ∧ Below w.heap.size w w' := by
  have HA : Hid (w.ownsRow B1 9 1 va L.length (stx L)) := ha
  have HB : Hid (w.ownsRow B2 9 1 vb L.length (stx L)) := hb
  obtain ⟨qa, ca, rfl⟩ := shapeP ha
  obtain ⟨qb, cb, rfl⟩ := shapeP hb
  clear ha hb
  go_enter Tryd.func14, Tryd.ntmps14
  go_wp2_with fail
  go_loopw [5] (fun vi wr => ∃ i : Nat, vi = .int .i64 i ∧ i ≤ L.length ∧ Below w.heap.size w wr) (fun vi _ => L.length - (intOf vi).toNat)
  case atStart => exact ⟨0, rfl, Nat.zero_le _, Below.refl _ _⟩
  case round =>
    obtain ⟨i, rfl, hi, hW⟩ := hrel
    by_cases hlt : i < L.length
    · have q1 : (i : Int) < (L.length : Int) := by omega
      have q0 : (0 : Int) ≤ (i : Int) := by omega
      have hA := owns_below HA.out hW
      have hB := owns_below HB.out hW
      obtain ⟨ga, ca2, hfa⟩ := own_form hA (by omega)
      obtain ⟨gb, cb2, hfb⟩ := own_form hB (by omega)
      injection hfa with x1 x2 x3
      injection hfb with y1 y2 y3
      subst x1 x3 y1 y3
      have hx := hA.cells rfl i _ (stx_get L i hlt)
      have hy := hB.cells rfl i _ (stx_get L i hlt)
      rw [add0] at hx hy
      obtain ⟨t, ht⟩ : ∃ t, L[i] = t := ⟨_, rfl⟩
      rw [ht] at hx hy
      clear ht HA HB hA hB
      go_wp2_with fail
      go_quiet (fail)
      go_wp2_with fail
      go_roundw
      case rel => exact ⟨i + 1, by go_num, by omega, bel_drewN _ hW⟩
      case measure => simp [intOf]; omega
    · have q1 : ¬ (i : Int) < (L.length : Int) := by omega
      clear HA HB
      go_wp2_with fail
      go_ret
      exact ⟨rfl, hW⟩
end Go.Proofs.YtcjlmkcccgjihaaDoor

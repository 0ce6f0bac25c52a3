import Derived.Test.YtcjlmkcccgjihaaDoorR4
namespace Go.Proofs.YtcjlmkcccgjihaaDoor
open Go.RowKit Go.Shelf
theorem cov_439 : covE 4 3 9 = 0 ∧ covL 4 3 9 = [[48, 48, 49, 49], [48, 49, 120, 120], [49, 48, 48, 120]] := by
  have hE : covE 4 3 9 = 0 := by decide
  refine ⟨hE, ?_⟩
  have f1 : fre 3 9 = 0 := by decide
  have f2 : fre 4 9 = 2 := by decide
  have f3 : fre 8 9 = 1 := by decide
  have h : cov 4 3 9 = [[48, 48, 49, 49], [48, 49, 120, 120], [49, 48, 48, 120]] := by
    rw [cov_le (by decide), f1, show 3 + 2 ^ 0 = 4 by decide, cov_le (by decide), f2, show 4 + 2 ^ 2 = 8 by decide, cov_le (by decide), f3, show 8 + 2 ^ 1 = 10 by decide, cov_end (by decide)]
    decide
  unfold covL
  rw [if_pos hE]
  exact h
theorem covE_lt' (b lo hi : Int) : covE b lo hi < 1000 := by
  unfold covE
  split
  · decide
  · split
    · decide
    · split <;> decide
theorem gr_len (e : Nat) : ∀ (m a : Nat), e + 1 - a ≤ m → (gr a e).length ≤ m := by
  intro m
  induction m with
  | zero => intro a h; rw [gr_end (by omega)]; simp
  | succ m ih =>
    intro a h
    by_cases hle : a ≤ e
    · have hp : 0 < 2 ^ fre a e := Nat.pow_pos (by decide)
      have := ih (a + 2 ^ fre a e) (by omega)
      rw [gr_le hle, List.length_cons]
      omega
    · rw [gr_end hle]; simp
theorem covL_len (b lo hi : Int) : (covL b lo hi).length ≤ 4294967296 := by
  unfold covL
  by_cases h : covE b lo hi = 0
  · rw [if_pos h]
    have hb : ¬ (b < 1 ∨ 32 < b) := fun hb => by
      unfold covE at h
      rw [if_pos hb] at h
      exact absurd h (by decide)
    have hh : hi ≤ ((2 ^ b.toNat - 1 : Nat) : Int) := by
      refine Classical.byContradiction (fun hn => ?_)
      unfold covE at h
      rw [if_neg hb, if_pos (.inr (fun x => hn x.2))] at h
      exact absurd h (by decide)
    have hp : 2 ^ b.toNat ≤ 2 ^ 32 := Nat.pow_le_pow_right (by decide) (by omega)
    have hp0 : 0 < 2 ^ b.toNat := Nat.pow_pos (by decide)
    have := gr_len hi.toNat _ lo.toNat (Nat.le_refl _)
    unfold cov
    rw [List.length_map]
    omega
  · rw [if_neg h]; simp
set_option maxRecDepth 100000 in
set_option maxHeartbeats 1000000 in
theorem known_any (w : World) (hdb : DB w) : Calls Tryd.prog 15 #[] w fun e w' => e = .returned (.bool true) ∧ Below w.heap.size w w' := by
  have HC := cover_any 4 3 9 w hdb
  obtain ⟨hE, hL⟩ := cov_439
  have HN := fun W => num_any 0 (by decide) W
  have HS := fun va vb W (h1 : W.ownsRow w.heap.size 9 1 va 3 (stx [[48, 48, 49, 49], [48, 49, 120, 120], [49, 48, 48, 120]])) (h2 : W.ownsRow w.heap.size 9 1 vb 3 (stx [[48, 48, 49, 49], [48, 49, 120, 120], [49, 48, 48, 120]])) => same_any [[48, 48, 49, 49], [48, 49, 120, 120], [49, 48, 48, 120]] w.heap.size w.heap.size va vb W (by decide) h1 h2
  have HS2 : Hid (∀ va vb W, W.ownsRow w.heap.size 9 1 va 3 (stx [[48, 48, 49, 49], [48, 49, 120, 120], [49, 48, 48, 120]]) → W.ownsRow w.heap.size 9 1 vb 3 (stx [[48, 48, 49, 49], [48, 49, 120, 120], [49, 48, 48, 120]]) → Calls Tryd.prog 14 #[va, vb] W fun x w' => x = .returned (.bool true) ∧ Below W.heap.size W w') := HS
  have HE : Hid (covE 4 3 9 = 0) := hE
  have HL : Hid (covL 4 3 9 = [[48, 48, 49, 49], [48, 49, 120, 120], [49, 48, 48, 120]]) := hL
  clear hdb HS hE hL
  go_enter Tryd.func15, Tryd.ntmps15
  go_wp2_with fail
  refine HC.mono ?_
  rintro e w1 ⟨v1, rfl, ho1, hb1⟩
  rw [HL.out] at ho1
  rw [HE.out]
  have ho1' : w1.ownsRow w.heap.size 9 1 v1 3 (stx [[48, 48, 49, 49], [48, 49, 120, 120], [49, 48, 48, 120]]) := ho1
  have HO : Hid (w1.ownsRow w.heap.size 9 1 v1 3 (stx [[48, 48, 49, 49], [48, 49, 120, 120], [49, 48, 48, 120]])) := ho1'
  clear ho1 ho1'
  go_wp2_with fail
  refine (HN _).mono ?_
  rintro e w2 ⟨rfl, rfl⟩
  go_wp2_with fail
  refine (HS2.out _ _ _ (HO.out.alloc _) (World.ownsRow_lit (base := w.heap.size) (e := 9) (size := 1) _ #[.string ⟨#[48, 48, 49, 49]⟩, .string ⟨#[48, 49, 120, 120]⟩, .string ⟨#[49, 48, 48, 120]⟩] 3 hb1.size (by unfold maxLen; omega) rfl)).mono ?_
  rintro e w3 ⟨rfl, hb3⟩
  go_wp2_with fail
  go_ret
  exact ⟨rfl, bel0 (hb1.alloc hb1.size _) hb3⟩
set_option maxRecDepth 100000 in
set_option maxHeartbeats 1000000 in
theorem fieldCovers_walk (b lo hi : Int) (w : World) (hdb0 : DB w) :
    Calls Tryd.prog 4 #[.int .i64 b, .int .i64 lo, .int .i64 hi] w fun e w' => e = .returned (.bool true) ∧ Below w.heap.size w w' := by
  have hdb : Hid (DB w) := hdb0
  have C1 := cover_any b lo hi w hdb0
  have C2 := fun W => refCover_any b lo hi W
  have hE := covE_lt' b lo hi
  have hLl := covL_len b lo hi
  unfold cvR at C1
  unfold cvR at C2
  obtain ⟨E, hE2⟩ : ∃ E, covE b lo hi = E := ⟨_, rfl⟩
  obtain ⟨L, hL2⟩ : ∃ L, covL b lo hi = L := ⟨_, rfl⟩
  rw [hE2] at hE C1
  rw [hL2] at hLl C1
  simp only [hE2, hL2] at C2
  have HN := fun W => num_any E hE W
  clear hE2 hL2 hdb0
  go_enter Tryd.func4, Tryd.ntmps4
  go_wp2_with fail
  refine C1.mono ?_
  rintro e w1 ⟨v1, rfl, ho1, hb1⟩
  go_wp2_with fail
  refine (C2 _).mono ?_
  rintro e w2 ⟨v2, rfl, ho2, hb2⟩
  have ho1' := owns_below ho1 hb2
  have hB2 := bel0 hb1 hb2
  have HS := same_any L w.heap.size w1.heap.size v1 v2 w2 hLl ho1' ho2
  have HK : Hid (∀ W, Below w.heap.size w W → Calls Tryd.prog 15 #[] W fun e w' => e = .returned (.bool true) ∧ Below W.heap.size W w') := fun W hW => known_any W (hdb.out.below hW)
  clear ho1 ho2 ho1' C1 C2
  go_wp2_with fail
  refine (HN _).mono ?_
  rintro e w3 ⟨rfl, rfl⟩
  go_wp2_with fail
  refine HS.mono ?_
  rintro e w4 ⟨rfl, hb4⟩
  have hB4 := bel0 hB2 hb4
  go_wp2_with fail
  refine (HK.out _ hB4).mono ?_
  rintro e w5 ⟨rfl, hb5⟩
  go_wp2_with fail
  go_ret
  exact ⟨rfl, bel0 hB4 hb5⟩
end Go.Proofs.YtcjlmkcccgjihaaDoor

import Derived.Test.YtmblloddhpcdeaaW6
namespace Go.Proofs.Ytmblloddhpcdeaa
open Go.RowKit

set_option maxHeartbeats 400000 in
theorem refAll_yes (n : Int) (m : Nat) (w : World) (hn : n = (m : Int)) (h1 : 1 ≤ m) (h2 : m ≤ 256) :
    Calls Try.prog 11 #[.int .i64 n] w fun e w' => e = .returned (.string ⟨(List.replicate m 120).toArray⟩) ∧ Below w.heap.size w w' := by
  subst hn
  obtain ⟨i0, hi, hz0, hz1, hz2⟩ := info_parts info_u8
  have d1 : decide ((m : Int) < 1) = false := by simp; omega
  have d2 : decide ((256 : Int) < (m : Int)) = false := by simp; omega
  go_enter Try.func11, Try.ntmps11
  go_wp2
  clear d1 d2
  go_loopw [3, 4] (fun v i wr => ∃ k : Nat, k ≤ m ∧ i = .int .i64 k ∧ wr.ownsRow w.heap.size 5 1 v k (bys (List.replicate k 120)) ∧ Below w.heap.size w wr) (fun _ i _ => m - (intOf i).toNat)
  case atStart => exact ⟨0, Nat.zero_le _, rfl, World.ownsRow_nil _ _ _ _, Below.refl _ _⟩
  case round =>
    obtain ⟨k, hk, rfl, hown, hB⟩ := hrel
    by_cases hlt : k < m
    · go_wp2_with (at_builtin; refine wpList_append_own _ rfl _ _ 51 rfl w.heap.size 5 i0 (.int .u8 0) 1 1 Try.underlying51 hi hz0 hz1 hz2 rfl (by decide) _ _ _ rfl (hown.alloc _) ⟨wr.heap.size, 0, none⟩ 1 1 [.int .u8 120] rfl rfl (cell_one_new _ _ _) (by simp [Value.oneCell']) (by unfold maxLen; omega) (by omega) (by have := hB.size; simp; omega) ?_; intro v' w1 hown' hgrow _)
      go_roundw
      case rel =>
        refine ⟨k + 1, by omega, by go_num, ?_, ?_⟩
        · have e : bys (List.replicate (k + 1) 120) = bys (List.replicate k 120) ++ [.int .u8 120] := by simp [bys, List.replicate_succ']
          rw [e]; exact hown'
        · exact bel_app hB hown hgrow
      case measure => simp [intOf]; omega
    · have hkn : k = m := by omega
      subst hkn
      have hcv := conv_any wr w.heap.size _ (List.replicate k 120) (by rw [List.length_replicate]; exact hown)
      go_wp2
      go_ret
      exact ⟨rfl, hB⟩

set_option maxHeartbeats 400000 in
theorem refAll_no (n : Int) (w : World) (h : n < 1 ∨ 256 < n) :
    Calls Try.prog 11 #[.int .i64 n] w fun e w' => e = .returned (.string ⟨#[]⟩) ∧ Below w.heap.size w w' := by
  rcases h with h | h
  · go_enter Try.func11, Try.ntmps11
    go_wp2
    go_ret
    exact ⟨rfl, Below.refl _ _⟩
  · have h' : ¬ n < 1 := by omega
    go_enter Try.func11, Try.ntmps11
    go_wp2
    go_ret
    exact ⟨rfl, Below.refl _ _⟩

theorem refAll_any (n : Int) (w : World) : Calls Try.prog 11 #[.int .i64 n] w fun e w' => e = .returned (.string ⟨(allT n).toArray⟩) ∧ Below w.heap.size w w' := by
  unfold allT
  by_cases h : 1 ≤ n ∧ n ≤ 256
  · rw [if_pos h]
    exact refAll_yes n n.toNat w (by omega) (by omega) (by omega)
  · rw [if_neg h]
    exact refAll_no n w (by omega)

set_option maxHeartbeats 400000 in
theorem ternAlls_walk (n : Int) (w : World) (_h : (Lit.int .i64 n).wf = true) : Calls Try.prog 3 #[.int .i64 n] w fun e w' => e = .returned (.bool true) ∧ Below w.heap.size w w' := by
  have g1 := good_allT 1
  have gn := good_allT n
  have ln := allT_len n
  have e1 : (allT 1 == [120]) = true := by decide
  have en : (allT n == allT n) = true := by simp
  go_enter Try.func3, Try.ntmps3
  go_wp2_with fail
  refine (allV 1 _).mono ?_
  rintro e w1 ⟨rfl, hb1⟩
  go_wp2_with fail
  refine (is_list (allT 1) [120] _ g1 (by decide)).mono ?_
  rintro e w2 ⟨rfl, hb2⟩
  rw [e1]
  go_wp2_with fail
  refine (allV n _).mono ?_
  rintro e w3 ⟨rfl, hb3⟩
  go_wp2_with fail
  refine (refAll_any n _).mono ?_
  rintro e w4 ⟨rfl, hb4⟩
  go_wp2_with fail
  refine (is_list (allT n) (allT n) _ gn ln).mono ?_
  rintro e w5 ⟨rfl, hb5⟩
  rw [en]
  go_wp2_with fail
  go_ret
  exact ⟨rfl, bel0 (bel0 (bel0 (bel0 hb1 hb2) hb3) hb4) hb5⟩
end Go.Proofs.Ytmblloddhpcdeaa

import Derived.Test.YtdkhdkfjadalpaaDoorL2
namespace Go.Proofs.YtdkhdkfjadalpaaDoor
open Go.RowKit Go.Shelf
set_option maxRecDepth 100000 in
set_option maxHeartbeats 1000000 in
theorem prefix_any (b a f : Nat) (hb : b ≤ 32) (hf : f ≤ b) (w : World) :
    Calls Tryd.prog 7 #[.string ⟨(digL b a f).toArray⟩, .int .i64 (b : Int)] w fun e w' => e = .returned (.bool true) ∧ w' = w := by
  have hlen := digL_len b a f hf
  have hch : ∀ j (c : UInt8), j < b → (digL b a f)[j]? = some c → (j < b - f ∧ (c = 48 ∨ c = 49)) ∨ (¬ j < b - f ∧ c = 120) := fun j c hj h => by
    rcases digL_chr hf hj h with ⟨h1, h2⟩ | h
    · exact .inl ⟨h1, by rw [h2]; exact bitB_cases b a j⟩
    · exact .inr h
  obtain ⟨S, hS⟩ : ∃ S, digL b a f = S := ⟨_, rfl⟩
  rw [hS] at hlen ⊢
  simp only [hS] at hch
  clear hS
  go_enter Tryd.func7, Tryd.ntmps7
  go_wp2_with fail
  go_loop [5] (fun vi => ∃ i : Nat, vi = .int .i64 i ∧ i ≤ b) (fun vi => b - (intOf vi).toNat)
  case atStart => exact ⟨0, rfl, Nat.zero_le _⟩
  case round =>
    obtain ⟨i, rfl, hi⟩ := hrel
    by_cases hlt : i < S.length
    · have q0 : (0 : Int) ≤ (i : Int) := by omega
      have q1 : (i : Int) < (S.length : Int) := by omega
      obtain ⟨c, hc, hlc⟩ := byte_get S i hlt
      have h1 := hch i c (by omega) hlc
      by_cases hi0 : i = 0
      · subst hi0
        clear hch
        rcases h1 with ⟨_, rfl | rfl⟩ | ⟨_, rfl⟩
        all_goals
          go_wp2_with fail
          go_round
          case rel => exact ⟨1, by go_num, by omega⟩
          case measure => simp [intOf]; omega
      · obtain ⟨i', rfl⟩ : ∃ i', i = i' + 1 := ⟨i - 1, by omega⟩
        have p1 : (0 : Int) < ((i' + 1 : Nat) : Int) := by omega
        have p2 : IntKind.i64.wrap (((i' + 1 : Nat) : Int) - 1) = (i' : Int) := by rw [IntKind.wrap_i64]; omega
        have p0 : (0 : Int) ≤ (i' : Int) := by omega
        have p3 : (i' : Int) < (S.length : Int) := by omega
        obtain ⟨d, hd, hld⟩ := byte_get S i' (by omega)
        have h2 := hch i' d (by omega) hld
        have hno : ¬ (d = 120 ∧ (c = 48 ∨ c = 49)) := by
          rintro ⟨x, y⟩
          subst x
          rcases h2 with ⟨_, z | z⟩ | ⟨z, _⟩
          · exact absurd z (by decide)
          · exact absurd z (by decide)
          · rcases h1 with ⟨z2, _⟩ | ⟨_, z2⟩
            · omega
            · subst z2
              rcases y with y | y <;> exact absurd y (by decide)
        have hd3 : d = 48 ∨ d = 49 ∨ d = 120 := by
          rcases h2 with ⟨_, z | z⟩ | ⟨_, z⟩
          · exact .inl z
          · exact .inr (.inl z)
          · exact .inr (.inr z)
        have hc3 : c = 48 ∨ c = 49 ∨ c = 120 := by
          rcases h1 with ⟨_, z | z⟩ | ⟨_, z⟩
          · exact .inl z
          · exact .inr (.inl z)
          · exact .inr (.inr z)
        clear hch h1 h2
        rcases hc3 with rfl | rfl | rfl <;> rcases hd3 with rfl | rfl | rfl
        all_goals first
          | exact absurd ⟨rfl, .inl rfl⟩ hno
          | exact absurd ⟨rfl, .inr rfl⟩ hno
          | skip
        all_goals
          clear hno
          go_wp2_with fail
          go_round
          case rel => exact ⟨i' + 1 + 1, by go_num, by omega⟩
          case measure => simp [intOf]; omega
    · have q1 : ¬ (i : Int) < (S.length : Int) := by omega
      have q2 : (S.length : Int) = (b : Int) := by omega
      clear hch
      go_wp2_with fail
      go_ret
      exact ⟨by first | rfl | simp, rfl⟩
set_option maxRecDepth 100000 in
set_option maxHeartbeats 1000000 in
theorem has_any (b a f v : Nat) (hb : b ≤ 32) (hf : f ≤ b) (w : World) :
    Calls Tryd.prog 8 #[.string ⟨(digL b a f).toArray⟩, .string ⟨((List.range b).map (bitB b v)).toArray⟩] w fun e w' => e = .returned (.bool (decide (∀ j, j < b - f → bitB b a j = bitB b v j))) ∧ Below w.heap.size w w' := by
  have hlen := digL_len b a f hf
  have hch := fun j (c : UInt8) hj h => digL_chr (b := b) (v := a) (f := f) (j := j) (c := c) hf hj h
  have hln2 : ((List.range b).map (bitB b v)).length = b := by simp
  have hch2 : ∀ j (c : UInt8), j < b → ((List.range b).map (bitB b v))[j]? = some c → c = bitB b v j := fun j c hj h => by
    simp [hj] at h
    exact h.symm
  obtain ⟨S, hS⟩ : ∃ S, digL b a f = S := ⟨_, rfl⟩
  obtain ⟨X, hX⟩ : ∃ X : List UInt8, (List.range b).map (bitB b v) = X := ⟨_, rfl⟩
  rw [hS] at hlen ⊢
  rw [hX] at hln2 ⊢
  simp only [hS] at hch
  simp only [hX] at hch2
  obtain ⟨R, hR⟩ : ∃ R, decide (∀ j, j < b - f → bitB b a j = bitB b v j) = R := ⟨_, rfl⟩
  rw [hR]
  have HR : Hid (decide (∀ j, j < b - f → bitB b a j = bitB b v j) = R) := hR
  have hll : (S.length : Int) = (X.length : Int) := by omega
  clear hS hX hR
  go_enter Tryd.func8, Tryd.ntmps8
  go_wp2_with fail
  go_loopw [5] (fun vi wr => ∃ i : Nat, vi = .int .i64 i ∧ i ≤ b ∧ (∀ j, j < i → j < b - f → bitB b a j = bitB b v j) ∧ Below w.heap.size w wr) (fun vi _ => b - (intOf vi).toNat)
  case atStart => exact ⟨0, rfl, Nat.zero_le _, fun j h => by omega, Below.refl _ _⟩
  case round =>
    obtain ⟨i, rfl, hi, hall, hB⟩ := hrel
    by_cases hlt : i < S.length
    · have q0 : (0 : Int) ≤ (i : Int) := by omega
      have q1 : (i : Int) < (S.length : Int) := by omega
      have q2 : (i : Int) < (X.length : Int) := by omega
      obtain ⟨c, hc, hlc⟩ := byte_get S i hlt
      obtain ⟨d, hd, hld⟩ := byte_get X i (by omega)
      have h2 := hch2 i d (by omega) hld
      rcases hch i c (by omega) hlc with ⟨h1, hcb⟩ | ⟨h1, hcb⟩
      · have hne : ((c.toNat : Int) == 120) = false := by
          rw [hcb]
          rcases bitB_cases b a i with h | h <;> rw [h] <;> decide
        have hne2 : ((c.toNat : Int) != 120) = true := by rw [bne, hne]; rfl
        by_cases heq : c = d
        · have HA : Hid (∀ j, j < i + 1 → j < b - f → bitB b a j = bitB b v j) := fun j hj hjf => by
            by_cases h : j = i
            · subst h
              rw [← hcb, ← h2]
              exact heq
            · exact hall j (by omega) hjf
          subst heq
          clear hch hch2 hall h2 hcb
          go_wp2_with fail
          go_quiet (fail)
          go_wp2_with fail
          go_roundw
          case rel => exact ⟨i + 1, by go_num, by omega, HA.out, bel_drewN _ hB⟩
          case measure => simp [intOf]; omega
        · have hRf : R = false := by
            rw [← HR.out]
            refine decide_eq_false (fun h => heq ?_)
            rw [hcb, h2]
            exact h i h1
          subst hRf
          have ne1 : ((c.toNat : Int) == (d.toNat : Int)) = false := u8_ne heq
          have ne2 : ((c.toNat : Int) != (d.toNat : Int)) = true := by rw [bne, ne1]; rfl
          clear hch hch2 hall h2 hcb HR
          go_wp2_with fail
          go_quiet (fail)
          go_wp2_with fail
          go_ret
          exact ⟨rfl, bel_drewN _ hB⟩
      · subst hcb
        have HA : Hid (∀ j, j < i + 1 → j < b - f → bitB b a j = bitB b v j) := fun j hj hjf => by
          by_cases h : j = i
          · omega
          · exact hall j (by omega) hjf
        clear hch hch2 hall h2
        go_wp2_with fail
        go_quiet (fail)
        go_wp2_with fail
        go_roundw
        case rel => exact ⟨i + 1, by go_num, by omega, HA.out, bel_drewN _ hB⟩
        case measure => simp [intOf]; omega
    · have q1 : ¬ (i : Int) < (S.length : Int) := by omega
      have hRt : R = true := by
        rw [← HR.out]
        exact decide_eq_true (fun j hj => hall j (by omega) hj)
      subst hRt
      clear hch hch2 hall HR
      go_wp2_with fail
      go_ret
      exact ⟨rfl, hB⟩
end Go.Proofs.YtdkhdkfjadalpaaDoor

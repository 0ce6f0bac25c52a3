import Derived.Test.YtmblloddhpcdeacYA
namespace Go.Proofs.Ytmblloddhpcdeac
open Go.RowKit

set_option maxRecDepth 100000 in
set_option maxHeartbeats 2000000 in
theorem rAfter_any (a h : ByteArray) (w : World) (hz0' : a.size = h.size) (hl : a.size ≤ 256) : Calls Try.prog 47 #[.string a, .string h] w fun e w' => e = .returned (aftV a.data.toList h.data.toList) ∧ Below w.heap.size w w' := by
  obtain ⟨i0, hi, hz0, hz1, hz2⟩ := info_parts info_u8
  have hz : Hid (a.size = h.size) := hz0'
  have hll : Hid (a.data.toList.length = h.data.toList.length) := by unfold Hid; simpa using hz0'
  have hla : Hid (a.data.toList.length = a.size) := by simp [Hid]
  clear hz0'
  go_enter Try.func47, Try.ntmps47
  go_wp2
  go_loopw [6, 7] (fun q i wr => ∃ k : Nat, k ≤ a.size ∧ i = .int .i64 k ∧ q = .int .i64 (lastV a.data.toList h.data.toList k) ∧ w = wr) (fun _ i _ => a.size - (intOf i).toNat)
  case atStart => exact ⟨0, Nat.zero_le _, rfl, rfl, rfl⟩
  case round =>
    obtain ⟨k, hk, rfl, rfl, rfl⟩ := hrel
    by_cases hlt : k < a.size
    · have hlt2 : k < h.size := by rw [← hz.out]; exact hlt
      have j0 : (0 : Int) ≤ (k : Int) := by omega
      have j1 : (k : Int) < (a.size : Int) := by omega
      have j2 : (k : Int) < (h.size : Int) := by omega
      obtain ⟨p1, n1⟩ : ∃ p, ((a[k].toNat : Int) == 120) = p := ⟨_, rfl⟩
      obtain ⟨p2, n2⟩ : ∃ p, ((h[k].toNat : Int) == 48) = p := ⟨_, rfl⟩
      have hs : Hid (lastV a.data.toList h.data.toList (k + 1) = if (p1 && p2) = true then (k : Int) else lastV a.data.toList h.data.toList k) := lastV_succ a h k hlt hlt2 p1 p2 n1 n2
      obtain ⟨Q, hQ⟩ : ∃ Q, lastV a.data.toList h.data.toList k = Q := ⟨_, rfl⟩
      rw [hQ] at hs ⊢
      clear hQ
      cases p1 <;> cases p2
      all_goals
        go_wp2
        go_roundw
        case rel => exact ⟨k + 1, by omega, by go_num, by rw [hs.out]; rfl, by first | rfl | trivial⟩
        case measure => simp [intOf]; omega
    · obtain rfl : k = a.size := by omega
      have j1 : ¬ ((a.size : Nat) : Int) < (a.size : Int) := by omega
      cases hLB : lastB a.data.toList h.data.toList a.size with
      | none =>
        have hn : Hid ((nx a.data.toList h.data.toList).2 = false) := nx_none _ _ hll.out (by rw [hla.out]; exact hLB)
        have e1 : lastV a.data.toList h.data.toList a.size = -1 := by unfold lastV; rw [hLB]
        rw [e1]
        go_wp2
        go_ret2
        exact ⟨by unfold aftV; rw [hn.out]; rfl, Below.refl _ _⟩
      | some q =>
        obtain ⟨hn0, hg0⟩ := nx_some _ _ hll.out q (by rw [hla.out]; exact hLB)
        have e1 : lastV a.data.toList h.data.toList a.size = (q : Int) := by unfold lastV; rw [hLB]
        rw [e1]
        have hn : Hid ((nx a.data.toList h.data.toList).2 = true) := hn0
        obtain ⟨R, hR⟩ : ∃ R, (nx a.data.toList h.data.toList).1 = R := ⟨_, rfl⟩
        have hRl : Hid (R.length = a.size) := by unfold Hid; rw [← hR, nx_len, ← hll.out, hla.out]
        have hg : Hid (∀ k (hk : k < a.size) (hk2 : k < h.size), R[k]? = some (if k = q then 49 else if q < k ∧ a[k] = 120 then 48 else h[k])) := by
          intro k hk hk2
          have := hg0 k (by rw [hla.out]; exact hk) (by rw [← hll.out, hla.out]; exact hk)
          rw [hR, byte_at a k hk, byte_at h k hk2] at this
          exact this
        have HR : Hid ((nx a.data.toList h.data.toList).1 = R) := hR
        clear hn0 hg0 hR e1 hLB
        have q0 : ¬ (q : Int) < 0 := by omega
        go_wp2
        go_loopw [8, 9] (fun v i wr => ∃ k : Nat, k ≤ a.size ∧ i = .int .i64 k ∧ wr.ownsRow w.heap.size 5 1 v k (bys (R.take k)) ∧ Below w.heap.size w wr) (fun _ i _ => a.size - (intOf i).toNat)
        case atStart => exact ⟨0, Nat.zero_le _, rfl, World.ownsRow_nil _ _ _ _, Below.refl _ _⟩
        case round =>
          obtain ⟨k, hk, rfl, hown, hB⟩ := hrel
          by_cases hlt : k < a.size
          · have hlt2 : k < h.size := by rw [← hz.out]; exact hlt
            have j0 : (0 : Int) ≤ (k : Int) := by omega
            have j1 : (k : Int) < (a.size : Int) := by omega
            have j2 : (k : Int) < (h.size : Int) := by omega
            have hgk := hg.out k hlt hlt2
            by_cases e : k = q
            · have Hl : Hid (R[k]? = some 49) := by unfold Hid; rw [hgk, if_pos e]
              have e2 : ((k : Int) == (q : Int)) = true := by rw [e]; simp
              clear hgk
              go_wp2_with (at_builtin; refine wpList_append_own _ rfl _ _ 39 rfl w.heap.size 5 i0 (.int .u8 0) 1 1 Try.underlying39 hi hz0 hz1 hz2 rfl (by decide) _ _ _ rfl (hown.alloc _) ⟨_, 0, none⟩ 1 1 [.int .u8 49] rfl rfl (cell_one_new _ _ _) (by simp [Value.oneCell']) (by unfold maxLen; omega) (by omega) (by have := hB.size; simp; omega) ?_; intro v' w1 hown' hgrow _)
              go_roundw
              case rel => exact ⟨k + 1, by omega, by go_num, own_snocY (x := 49) Hl.out hown', bel_app hB hown hgrow⟩
              case measure => simp [intOf]; omega
            · have e2 : ((k : Int) == (q : Int)) = false := beq_false_of_ne (by omega)
              by_cases g : q < k
              · have g2 : (k : Int) > (q : Int) := by omega
                by_cases x : a[k] = 120
                · have x2 : ((a[k].toNat : Int) == 120) = true := by rw [x]; rfl
                  have Hl : Hid (R[k]? = some 48) := by unfold Hid; rw [hgk, if_neg e, if_pos ⟨g, x⟩]
                  clear hgk
                  go_wp2_with (at_builtin; refine wpList_append_own _ rfl _ _ 39 rfl w.heap.size 5 i0 (.int .u8 0) 1 1 Try.underlying39 hi hz0 hz1 hz2 rfl (by decide) _ _ _ rfl (hown.alloc _) ⟨_, 0, none⟩ 1 1 [.int .u8 48] rfl rfl (cell_one_new _ _ _) (by simp [Value.oneCell']) (by unfold maxLen; omega) (by omega) (by have := hB.size; simp; omega) ?_; intro v' w1 hown' hgrow _)
                  go_roundw
                  case rel => exact ⟨k + 1, by omega, by go_num, own_snocY (x := 48) Hl.out hown', bel_app hB hown hgrow⟩
                  case measure => simp [intOf]; omega
                · have x2 : ((a[k].toNat : Int) == 120) = false := ne_byte (n := 120) x
                  have Hl : Hid (R[k]? = some h[k]) := by unfold Hid; rw [hgk, if_neg e, if_neg (fun y => x y.2)]
                  clear hgk
                  go_wp2_with (at_builtin; refine wpList_append_own _ rfl _ _ 39 rfl w.heap.size 5 i0 (.int .u8 0) 1 1 Try.underlying39 hi hz0 hz1 hz2 rfl (by decide) _ _ _ rfl (hown.alloc _) ⟨_, 0, none⟩ 1 1 [.int .u8 (h[k].toNat : Int)] rfl rfl (cell_one_new _ _ _) (by simp [Value.oneCell']) (by unfold maxLen; omega) (by omega) (by have := hB.size; simp; omega) ?_; intro v' w1 hown' hgrow _)
                  go_roundw
                  case rel => exact ⟨k + 1, by omega, by go_num, own_snocY (x := h[k]) Hl.out hown', bel_app hB hown hgrow⟩
                  case measure => simp [intOf]; omega
              · have g2 : ¬ (k : Int) > (q : Int) := by omega
                have Hl : Hid (R[k]? = some h[k]) := by unfold Hid; rw [hgk, if_neg e, if_neg (fun y => g y.1)]
                clear hgk
                go_wp2_with (at_builtin; refine wpList_append_own _ rfl _ _ 39 rfl w.heap.size 5 i0 (.int .u8 0) 1 1 Try.underlying39 hi hz0 hz1 hz2 rfl (by decide) _ _ _ rfl (hown.alloc _) ⟨_, 0, none⟩ 1 1 [.int .u8 (h[k].toNat : Int)] rfl rfl (cell_one_new _ _ _) (by simp [Value.oneCell']) (by unfold maxLen; omega) (by omega) (by have := hB.size; simp; omega) ?_; intro v' w1 hown' hgrow _)
                go_roundw
                case rel => exact ⟨k + 1, by omega, by go_num, own_snocY (x := h[k]) Hl.out hown', bel_app hB hown hgrow⟩
                case measure => simp [intOf]; omega
          · have hkn : k = a.size := by omega
            have hT : R.take k = R := List.take_of_length_le (by rw [hRl.out]; omega)
            have hcv := conv_any wr w.heap.size _ R (by rw [hRl.out, ← hkn]; rw [hT] at hown; exact hown)
            have j1 : ¬ (k : Int) < (a.size : Int) := by omega
            clear hT
            go_wp2
            go_ret2
            exact ⟨by unfold aftV; rw [hn.out, HR.out]; rfl, hB⟩
end Go.Proofs.Ytmblloddhpcdeac

import Derived.Test.YtdgglglemdbgcaaW12
namespace Go.Proofs.Ytdgglglemdbgcaa
open Go.RowKit

theorem keepblk {W w' : World} {b : Nat} {o : Obj} (hb : Below W.heap.size W w') (h : W.heap[b]? = some o) : w'.heap[b]? = some o := (hb.block b (lt_of_get h)).trans h
theorem allocblk {W : World} {b : Nat} {o : Obj} (h : W.heap[b]? = some o) (O : Obj) : (W.alloc O).heap[b]? = some o := (Below.heap_alloc _ _ _ (lt_of_get h)).trans h

theorem digit_yes (x : Int) (w : World) (h : x = 48 ∨ x = 49) : Calls Try.prog 34 #[.int .u8 x] w fun e w' => e = .returned (.bool true) ∧ w' = w := by
  rcases h with rfl | rfl
  all_goals
    go_enter Try.func34, Try.ntmps34
    go_wp2
    go_ret
    exact ⟨rfl, rfl⟩
theorem digit_no (x : Int) (w : World) (h1 : x ≠ 48) (h2 : x ≠ 49) : Calls Try.prog 34 #[.int .u8 x] w fun e w' => e = .returned (.bool false) ∧ w' = w := by
  have b1 : (x == 48) = false := by simpa using h1
  have b2 : (x == 49) = false := by simpa using h2
  clear h1 h2
  go_enter Try.func34, Try.ntmps34
  go_wp2
  go_ret
  exact ⟨rfl, rfl⟩

/-- the text is one of a cube -/
def cubB (t : List UInt8) : Bool := t.all tri && (decide (0 < t.length) && decide (t.length ≤ 256))
theorem cubB_iff (t : List UInt8) : cubB t = true ↔ (t ≠ [] ∧ good t = true) := by
  unfold cubB good
  simp only [Bool.and_eq_true, decide_eq_true_eq]
  constructor
  · rintro ⟨h1, h2, h3⟩
    exact ⟨fun e => by subst e; simp at h2, h3, h1⟩
  · rintro ⟨h1, h2, h3⟩
    exact ⟨h3, List.length_pos_iff.2 h1, h2⟩

theorem nat_ne {b : UInt8} {n : Nat} (h : b ≠ UInt8.ofNat n) : (b.toNat : Int) ≠ (n : Int) := by
  intro e
  have e2 : b.toNat = n := by omega
  apply h
  rw [← e2]
  simp

theorem not_all (s : ByteArray) (k : Nat) (hlt : k < s.size) (c48 : ¬ s[k] = 48) (c49 : ¬ s[k] = 49) (c120 : ¬ s[k] = 120) : s.data.toList.all tri = false := by
  rw [Bool.eq_false_iff]
  intro h
  rw [List.all_eq_true] at h
  have := h s[k] (by rw [← byte_at s k hlt]; exact List.getElem_mem _)
  simp [tri, c48, c49, c120] at this
theorem yes_all (s : ByteArray) (h : ∀ j (h : j < s.data.toList.length), tri s.data.toList[j] = true) : s.data.toList.all tri = true := by
  rw [List.all_eq_true]
  intro x hx
  obtain ⟨j, hj, rfl⟩ := List.getElem_of_mem hx
  exact h j hj

set_option maxHeartbeats 400000 in
theorem cube_any (s : ByteArray) (w : World) (hs : s.size ≤ maxLen) :
    Calls Try.prog 23 #[.string s] w fun e w' => e = .returned (.bool (cubB s.data.toList)) ∧ w' = w := by
  unfold maxLen at hs
  have hlen : Hid (s.data.toList.length = s.size) := by simp [Hid]
  go_enter Try.func23, Try.ntmps23
  go_wp2
  go_loop [3] (fun i => ∃ k : Nat, k ≤ s.size ∧ i = .int .i64 k ∧ ∀ j (h : j < s.data.toList.length), j < k → tri s.data.toList[j] = true) (fun i => s.size - (intOf i).toNat)
  case atStart => exact ⟨0, Nat.zero_le _, rfl, fun j _ h => by omega⟩
  case round =>
    obtain ⟨k, hk, rfl, htri⟩ := hrel
    by_cases hlt : k < s.size
    · by_cases c48 : s[k] = 48
      · have R := tri_succ hlt htri (.inl c48)
        have b48 : (s[k].toNat : Int) = 48 := by rw [c48]; decide
        have B48 : Hid ((s[k].toNat : Int) = 48) := b48
        clear c48 htri b48
        go_wp2_with (go_at_call 34; refine (digit_yes _ _ (.inl B48.out)).mono ?_; rintro e w' ⟨rfl, rfl⟩)
        go_round
        case rel => exact ⟨k + 1, by omega, by go_num, R⟩
        case measure => simp [intOf]; omega
      · by_cases c49 : s[k] = 49
        · have R := tri_succ hlt htri (.inr (.inl c49))
          have b49 : (s[k].toNat : Int) = 49 := by rw [c49]; decide
          have B49 : Hid ((s[k].toNat : Int) = 49) := b49
          clear c48 c49 htri b49
          go_wp2_with (go_at_call 34; refine (digit_yes _ _ (.inr B49.out)).mono ?_; rintro e w' ⟨rfl, rfl⟩)
          go_round
          case rel => exact ⟨k + 1, by omega, by go_num, R⟩
          case measure => simp [intOf]; omega
        · have n48 : Hid ((s[k].toNat : Int) ≠ 48) := nat_ne c48
          have n49 : Hid ((s[k].toNat : Int) ≠ 49) := nat_ne c49
          by_cases c120 : s[k] = 120
          · have R := tri_succ hlt htri (.inr (.inr c120))
            have b120 : ((s[k].toNat : Int) != 120) = false := by rw [c120]; decide
            clear c48 c49 c120 htri
            go_wp2_with (go_at_call 34; refine (digit_no _ _ n48.out n49.out).mono ?_; rintro e w' ⟨rfl, rfl⟩)
            go_round
            case rel => exact ⟨k + 1, by omega, by go_num, R⟩
            case measure => simp [intOf]; omega
          · have R : Hid (s.data.toList.all tri = false) := not_all s k hlt c48 c49 c120
            have b120 : ((s[k].toNat : Int) != 120) = true := ne_byte' c120
            clear c48 c49 c120 htri
            go_wp2_with (go_at_call 34; refine (digit_no _ _ n48.out n49.out).mono ?_; rintro e w' ⟨rfl, rfl⟩)
            go_ret
            exact ⟨by unfold cubB; rw [R.out]; rfl, rfl⟩
    · have R : Hid (s.data.toList.all tri = true) := yes_all s (fun j h => htri j h (by have := hlen.out; omega))
      clear htri
      have hl1 := hlen.out
      have e1 : Hid (decide (0 < s.data.toList.length) = decide ((0 : Int) < (s.size : Int))) := by unfold Hid; rw [hl1]; simp
      have e2 : Hid (decide (s.data.toList.length ≤ 256) = decide ((s.size : Int) ≤ 256)) := by
        unfold Hid; rw [hl1]
        rw [Bool.eq_iff_iff]; simp; omega
      clear hl1
      by_cases d1 : (0 : Int) < (s.size : Int)
      · go_wp2
        go_ret
        exact ⟨by unfold cubB; rw [R.out, e1.out, e2.out, decide_eq_true d1]; rfl, rfl⟩
      · go_wp2
        go_ret
        exact ⟨by unfold cubB; rw [R.out, e1.out, e2.out, decide_eq_false (Int.not_lt.2 d1)]; rfl, rfl⟩

theorem cube_D (s : ByteArray) (q : Bool) (w : World) (hs : s.size ≤ maxLen) (h : cubB s.data.toList = q) :
    Calls Try.prog 23 #[.string s] w fun e w' => e = .returned (.bool q) ∧ w' = w := by subst h; exact cube_any s w hs
end Go.Proofs.Ytdgglglemdbgcaa

import Derived.Test.YtdgglglemdbgcaaW6
import Derived.Deep.RegionWith
namespace Go.Proofs.Ytdgglglemdbgcaa
open Go.RowKit

theorem num_any (n : Int) (w : World) : Calls Try.prog 18 #[.int .i64 n] w fun e w' => e = .returned (.int .i64 n) ∧ w' = w := by
  go_enter Try.func18, Try.ntmps18
  go_wp2
  go_ret
  exact ⟨rfl, rfl⟩

set_option maxHeartbeats 400000 in
theorem refP_long (s : ByteArray) (w : World) (hs : s.size ≤ maxLen) (h : 256 < s.size) :
    Calls Try.prog 24 #[.string s] w fun e w' => e = .returned (.int .i64 2) ∧ w' = w := by
  unfold maxLen at hs
  have h' : (256 : Int) < s.size := by omega
  go_enter Try.func24, Try.ntmps24
  go_wp2
  go_ret
  exact ⟨rfl, rfl⟩

set_option maxHeartbeats 400000 in
theorem refP_none (w : World) :
    Calls Try.prog 24 #[.string ⟨#[]⟩] w fun e w' => e = .returned (.int .i64 10) ∧ w' = w := by
  go_enter Try.func24, Try.ntmps24
  go_wp2
  go_ret
  exact ⟨rfl, rfl⟩

theorem ne_byte' {b : UInt8} {n : Nat} (h : b ≠ UInt8.ofNat n) : ((b.toNat : Int) != ((n : Nat) : Int)) = true := by
  have := ne_byte h
  unfold bne
  rw [this]; rfl

set_option maxHeartbeats 400000 in
theorem refP_loop (s : ByteArray) (w : World) (h1 : 1 ≤ s.size) (h2 : s.size ≤ 256) :
    Calls Try.prog 24 #[.string s] w fun e w' => e = .returned (.int .i64 (refP s.data.toList)) ∧ w' = w := by
  have he : (s.toList.isEmpty) = false := by
    rw [ByteArray.toList_eq]
    obtain ⟨⟨l⟩⟩ := s
    simp [ByteArray.size] at h1 ⊢
    intro h; subst h; simp at h1
  have hd : decide ((256 : Int) < (s.size : Int)) = false := by simp; omega
  go_enter Try.func24, Try.ntmps24
  go_wp2
  clear hd he
  go_loop [3] (fun i => ∃ k : Nat, k ≤ s.size ∧ i = .int .i64 k ∧ ∀ j (h : j < s.data.toList.length), j < k → tri s.data.toList[j] = true) (fun i => s.size - (intOf i).toNat)
  case atStart => exact ⟨0, Nat.zero_le _, rfl, fun j _ h => by omega⟩
  case round =>
    obtain ⟨k, hk, rfl, htri⟩ := hrel
    by_cases hlt : k < s.size
    · by_cases c48 : s[k] = 48
      · have R := tri_succ hlt htri (.inl c48)
        have b48 : ((s[k].toNat : Int) != 48) = false := by rw [c48]; decide
        clear c48 htri
        go_wp2
        go_round
        case rel => exact ⟨k + 1, by omega, by go_num, R⟩
        case measure => simp [intOf]; omega
      · by_cases c49 : s[k] = 49
        · have R := tri_succ hlt htri (.inr (.inl c49))
          have b48 : ((s[k].toNat : Int) != 48) = true := by rw [c49]; decide
          have b49 : ((s[k].toNat : Int) != 49) = false := by rw [c49]; decide
          clear c48 c49 htri
          go_wp2
          go_round
          case rel => exact ⟨k + 1, by omega, by go_num, R⟩
          case measure => simp [intOf]; omega
        · by_cases c120 : s[k] = 120
          · have R := tri_succ hlt htri (.inr (.inr c120))
            have b48 : ((s[k].toNat : Int) != 48) = true := by rw [c120]; decide
            have b49 : ((s[k].toNat : Int) != 49) = true := by rw [c120]; decide
            have b120 : ((s[k].toNat : Int) != 120) = false := by rw [c120]; decide
            clear c48 c49 c120 htri
            go_wp2
            go_round
            case rel => exact ⟨k + 1, by omega, by go_num, R⟩
            case measure => simp [intOf]; omega
          · have R : Hid (refP s.data.toList = 10) := (parse_bad s k hlt h2 c48 c49 c120).1
            have b48 : ((s[k].toNat : Int) != 48) = true := ne_byte' c48
            have b49 : ((s[k].toNat : Int) != 49) = true := ne_byte' c49
            have b120 : ((s[k].toNat : Int) != 120) = true := ne_byte' c120
            clear c48 c49 c120 htri
            go_wp2
            go_ret
            exact ⟨by rw [R.out]; rfl, rfl⟩
    · have hlen : s.data.toList.length = s.size := by simp
      have R : Hid (refP s.data.toList = 0) := (parse_good s h1 h2 (fun j h => htri j h (by omega))).1
      clear hlen
      clear htri
      go_wp2
      go_ret
      exact ⟨by rw [R.out]; rfl, rfl⟩

theorem refP_any (s : ByteArray) (w : World) (hs : s.size ≤ maxLen) :
    Calls Try.prog 24 #[.string s] w fun e w' => e = .returned (.int .i64 (refP s.data.toList)) ∧ w' = w := by
  have hlen : s.data.toList.length = s.size := by simp
  by_cases h1 : 256 < s.size
  · have hz : refP s.data.toList = 2 := by unfold refP; rw [if_pos (by omega)]
    rw [hz]; exact refP_long s w hs h1
  · by_cases h2 : s.size = 0
    · have hz0 : s.data.toList = [] := List.eq_nil_of_length_eq_zero (by omega)
      have hz : s = ⟨#[]⟩ := by
        obtain ⟨⟨l⟩⟩ := s
        simp at hz0
        subst hz0; rfl
      subst hz
      exact refP_none w
    · exact refP_loop s w (by omega) (by omega)

theorem toList_str (s : ByteArray) : (⟨s.data.toList.toArray⟩ : ByteArray) = s := by
  obtain ⟨l⟩ := s; simp

theorem refP_E (s : ByteArray) (E : Int) (w : World) (hs : s.size ≤ maxLen) (h : refP s.data.toList = E) :
    Calls Try.prog 24 #[.string s] w fun e w' => e = .returned (.int .i64 E) ∧ w' = w := by subst h; exact refP_any s w hs

set_option maxHeartbeats 400000 in
theorem refC_any (s : ByteArray) (w : World) (hs : s.size ≤ maxLen) :
    Calls Try.prog 10 #[.string s] w fun e w' => e = .returned (.string ⟨(cubeT s.data.toList).toArray⟩) ∧ w' = w := by
  by_cases h : refP s.data.toList = 0
  · have hc : Hid (cubeT s.data.toList = s.data.toList) := cubeT_self _ h
    have hh : Hid (refP s.data.toList = 0) := h
    clear h
    go_enter Try.func10, Try.ntmps10
    go_wp2_with (go_at_call 24; refine (refP_E s 0 _ hs hh.out).mono ?_; rintro e w' ⟨rfl, rfl⟩)
    go_ret
    exact ⟨by rw [hc.out, toList_str]; rfl, rfl⟩
  · have hc : Hid (cubeT s.data.toList = []) := cubeT_nil_iff _ h
    obtain ⟨E, hE⟩ : ∃ E, refP s.data.toList = E := ⟨_, rfl⟩
    rw [hE] at h
    have hh : Hid (refP s.data.toList = E) := hE
    clear hE
    have hne : (E != 0) = true := by simp [h]
    go_enter Try.func10, Try.ntmps10
    go_wp2_with (go_at_call 24; refine (refP_E s E _ hs hh.out).mono ?_; rintro e w' ⟨rfl, rfl⟩)
    go_ret
    exact ⟨by rw [hc.out]; rfl, rfl⟩

theorem refC_D (s : ByteArray) (D : List UInt8) (w : World) (hs : s.size ≤ maxLen) (h : cubeT s.data.toList = D) :
    Calls Try.prog 10 #[.string s] w fun e w' => e = .returned (.string ⟨D.toArray⟩) ∧ w' = w := by subst h; exact refC_any s w hs
end Go.Proofs.Ytdgglglemdbgcaa

import Derived.Test.YtmblloddhpcdeacM4
namespace Go.Proofs.Ytmblloddhpcdeac
open Go.RowKit

theorem dig_succ {s : ByteArray} {k : Nat} (hlt : k < s.size) (h : ∀ j (h : j < s.data.toList.length), j < k → dig s.data.toList[j] = true) (hc : s[k] = 48 ∨ s[k] = 49) :
    ∀ j (h : j < s.data.toList.length), j < k + 1 → dig s.data.toList[j] = true := by
  intro j hj hjk
  by_cases e : j = k
  · subst e
    rw [byte_at s j hlt]
    rcases hc with h | h <;> rw [h] <;> decide
  · exact h j hj (by omega)

/-- all bytes are digits -/
def hdB (t : List UInt8) : Bool := t.all dig

set_option maxHeartbeats 400000 in
theorem header_any (s : ByteArray) (n : Int) (w : World) (hs : s.size ≤ maxLen) :
    Calls Try.prog 11 #[.string s, .int .i64 n] w fun e w' => e = .returned (.bool (hdB s.data.toList && ((s.size : Int) == n))) ∧ w' = w := by
  unfold maxLen at hs
  have hlen : Hid (s.data.toList.length = s.size) := by simp [Hid]
  go_enter Try.func11, Try.ntmps11
  go_wp2
  go_loop [5] (fun i => ∃ k : Nat, k ≤ s.size ∧ i = .int .i64 k ∧ ∀ j (h : j < s.data.toList.length), j < k → dig s.data.toList[j] = true) (fun i => s.size - (intOf i).toNat)
  case atStart => exact ⟨0, Nat.zero_le _, rfl, fun j _ h => by omega⟩
  case round =>
    obtain ⟨k, hk, rfl, htri⟩ := hrel
    by_cases hlt : k < s.size
    · by_cases c : s[k] = 48 ∨ s[k] = 49
      · have R := dig_succ hlt htri c
        have B : Hid ((s[k].toNat : Int) = 48 ∨ (s[k].toNat : Int) = 49) := by
          rcases c with c | c
          · exact .inl (by rw [c]; decide)
          · exact .inr (by rw [c]; decide)
        clear c htri
        go_wp2_with (go_at_call 40; refine (digit_yes _ _ B.out).mono ?_; rintro e w' ⟨rfl, rfl⟩)
        go_round
        case rel => exact ⟨k + 1, by omega, by go_num, R⟩
        case measure => simp [intOf]; omega
      · have n48 : Hid ((s[k].toNat : Int) ≠ 48) := nat_ne (fun e => c (.inl e))
        have n49 : Hid ((s[k].toNat : Int) ≠ 49) := nat_ne (fun e => c (.inr e))
        have R : Hid (hdB s.data.toList = false) := by
          unfold Hid hdB
          rw [Bool.eq_false_iff]
          intro h
          rw [List.all_eq_true] at h
          exact c (dig_tri (h s[k] (by rw [← byte_at s k hlt]; exact List.getElem_mem _)))
        clear c htri
        go_wp2_with (go_at_call 40; refine (digit_no _ _ n48.out n49.out).mono ?_; rintro e w' ⟨rfl, rfl⟩)
        go_ret
        exact ⟨by rw [R.out]; rfl, rfl⟩
    · have R : Hid (hdB s.data.toList = true) := by
        unfold Hid hdB
        rw [List.all_eq_true]
        intro x hx
        obtain ⟨j, hj, rfl⟩ := List.getElem_of_mem hx
        exact htri j hj (by have := hlen.out; omega)
      clear htri
      go_wp2
      go_ret
      exact ⟨by rw [R.out, Bool.true_and]; rfl, rfl⟩
theorem header_D (s : ByteArray) (n : Int) (q : Bool) (w : World) (hs : s.size ≤ maxLen) (h : (hdB s.data.toList && ((s.size : Int) == n)) = q) :
    Calls Try.prog 11 #[.string s, .int .i64 n] w fun e w' => e = .returned (.bool q) ∧ w = w' := by
  subst h; exact (header_any s n w hs).mono (fun _ _ h => ⟨h.1, h.2.symm⟩)

theorem okX_str (a b : ByteArray) (k : Nat) (ha : k < a.size) (hb : k < b.size) (p1 p2 : Bool) (n1 : ((a[k].toNat : Int) != 120) = p1) (n2 : ((a[k].toNat : Int) != (b[k].toNat : Int)) = p2) :
    okX a.data.toList b.data.toList k = !(p1 && p2) := by
  have f1 : ((a[k].toNat : Int) != 120) = !(a[k] == 120) := byte_bne a[k] 120 (by decide)
  have f2 := byte_bne2 a[k] b[k]
  have la : a.data.toList[k]? = some a[k] := by rw [List.getElem?_eq_getElem (by simpa using ha)]; rfl
  have lb : b.data.toList[k]? = some b[k] := by rw [List.getElem?_eq_getElem (by simpa using hb)]; rfl
  simp only [okX, la, lb]
  rw [← n1, ← n2, f1, f2]
  cases (a[k] == 120) <;> cases (a[k] == b[k]) <;> rfl

set_option maxHeartbeats 2000000 in
theorem holds_any (a b : ByteArray) (w : World) (hl : a.size ≤ 256) (hz0 : a.size = b.size) :
    Calls Try.prog 17 #[.string a, .string b] w fun e w' => e = .returned (.bool (hoB a.data.toList b.data.toList)) ∧ Below w.heap.size w w' := by
  have hz : Hid (a.size = b.size) := hz0
  have LA : Hid (a.data.toList.length = a.size) := by simp [Hid]
  clear hz0
  unfold hoB
  go_enter Try.func17, Try.ntmps17
  go_wp2
  go_loopw [5] (fun i wr => ∃ k : Nat, k ≤ a.size ∧ i = .int .i64 k ∧ Hid (∀ j, j < k → okX a.data.toList b.data.toList j = true) ∧ Below w.heap.size w wr) (fun i _ => a.size - (intOf i).toNat)
  case atStart => exact ⟨0, Nat.zero_le _, rfl, fun j h => by omega, Below.refl _ _⟩
  case round =>
    obtain ⟨k, hk, rfl, hok, hB⟩ := hrel
    by_cases hlt : k < a.size
    · skip
      have hkb : k < b.size := by rw [← hz.out]; exact hlt
      have i0' : (0 : Int) ≤ (k : Int) := by omega
      have i1 : (k : Int) < (a.size : Int) := by omega
      have i2 : (k : Int) < (b.size : Int) := by omega
      obtain ⟨p2, n2⟩ : ∃ p, ((a[k].toNat : Int) != 120) = p := ⟨_, rfl⟩
      obtain ⟨p3, n3⟩ : ∃ p, ((a[k].toNat : Int) != (b[k].toNat : Int)) = p := ⟨_, rfl⟩
      have hH : Hid (okX a.data.toList b.data.toList k = !(p2 && p3)) := okX_str a b k hlt hkb p2 p3 n2 n3
      have hlt' : Hid (k < a.data.toList.length) := by unfold Hid; rw [LA.out]; exact hlt
      cases p2 <;> cases p3
      all_goals
        go_wp2
        go_quiet (fail)
        go_wp2
        first
          | (have hF : okX a.data.toList b.data.toList k = false := hH.out
             have hF2 := allTo_false k hlt'.out hF
             go_ret
             refine ⟨?_, hB.trans (below_drewN _ _ _)⟩
             rw [hF2]
             rfl)
          | (have hF : okX a.data.toList b.data.toList k = true := hH.out
             have hF2 := ok_succ hok.out hF
             go_roundw
             case rel => exact ⟨k + 1, by omega, by go_num, hF2, hB.trans (below_drewN _ _ _)⟩
             case measure => simp [intOf]; omega)
    · have hA : Hid (allTo (okX a.data.toList b.data.toList) a.data.toList.length = true) := (allTo_iff _ _).2 (fun j hj => hok.out j (by rw [LA.out] at hj; omega))
      clear hok
      go_wp2
      go_ret
      exact ⟨by rw [hA.out]; rfl, hB⟩
theorem holds_D (a b : ByteArray) (q : Bool) (w : World) (hl : a.size ≤ 256) (hz : a.size = b.size) (h : hoB a.data.toList b.data.toList = q) :
    Calls Try.prog 17 #[.string a, .string b] w fun e w' => e = .returned (.bool q) ∧ Below w.heap.size w w' := by
  subst h; exact holds_any a b w hl hz
end Go.Proofs.Ytmblloddhpcdeac

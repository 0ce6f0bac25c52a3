import Derived.Test.YtdgglglemdbgcaaR1
namespace Go.Proofs.Ytdgglglemdbgcaa
open Go.RowKit

set_option maxHeartbeats 400000 in
theorem rWithin_no (a b : ByteArray) (w : World) (hf0 : fitB a.data.toList b.data.toList = false) :
    Calls Try.prog 9 #[.string a, .string b] w fun e w' => e = .returned (.bool false) ∧ Below w.heap.size w w' := by
  have hf : Hid (fitB a.data.toList b.data.toList = false) := hf0
  clear hf0
  go_enter Try.func9, Try.ntmps9
  go_wp2_with (go_at_call 28; refine (rFit_D a b false _ hf.out).mono ?_; rintro e w' ⟨rfl, rfl⟩)
  go_ret
  exact ⟨rfl, Below.refl _ _⟩

theorem inK_str (a b : ByteArray) (k : Nat) (ha : k < a.size) (hb : k < b.size) (p2 p3 : Bool) (n2 : ((b[k].toNat : Int) != 120) = p2) (n3 : ((a[k].toNat : Int) != (b[k].toNat : Int)) = p3) :
    (match a.data.toList[k]?, b.data.toList[k]? with | some x, some y => y == 120 || x == y | _, _ => true) = !(p2 && p3) := by
  have f2 : ((b[k].toNat : Int) != 120) = !(b[k] == 120) := byte_bne b[k] 120 (by decide)
  have f3 := byte_bne2 a[k] b[k]
  have la : a.data.toList[k]? = some a[k] := by rw [List.getElem?_eq_getElem (by simpa using ha)]; rfl
  have lb : b.data.toList[k]? = some b[k] := by rw [List.getElem?_eq_getElem (by simpa using hb)]; rfl
  simp only [la, lb]
  rw [← n2, ← n3, f2, f3]
  cases (b[k] == 120) <;> cases (a[k] == b[k]) <;> rfl

set_option maxHeartbeats 2000000 in
theorem rWithin_loop (a b : ByteArray) (w : World) (ga : good a.data.toList = true) (_gb : good b.data.toList = true) (hf0 : fitB a.data.toList b.data.toList = true) :
    Calls Try.prog 9 #[.string a, .string b] w fun e w' => e = .returned (.bool (allTo (fun k => match a.data.toList[k]?, b.data.toList[k]? with | some x, some y => y == 120 || x == y | _, _ => true) a.data.toList.length)) ∧ Below w.heap.size w w' := by
  have hf : Hid (fitB a.data.toList b.data.toList = true) := hf0
  have hz0 : a.size = b.size := by simpa using fitB_len hf0
  have hz : Hid (a.size = b.size) := hz0
  have hl : a.size ≤ 256 := by simpa using good_len ga
  have LA : Hid (a.data.toList.length = a.size) := by simp [Hid]
  clear hf0 hz0
  obtain ⟨f, hf1⟩ : ∃ f : Nat → Bool, (fun k => match a.data.toList[k]?, b.data.toList[k]? with | some x, some y => y == 120 || x == y | _, _ => true) = f := ⟨_, rfl⟩
  rw [hf1]
  have HF : Hid ((fun k => match a.data.toList[k]?, b.data.toList[k]? with | some x, some y => y == 120 || x == y | _, _ => true) = f) := hf1
  clear hf1
  go_enter Try.func9, Try.ntmps9
  go_wp2_with (go_at_call 28; refine (rFit_D a b true _ hf.out).mono ?_; rintro e w' ⟨rfl, rfl⟩)
  go_loopw [6] (fun i wr => ∃ k : Nat, k ≤ a.size ∧ i = .int .i64 k ∧ Hid (∀ j, j < k → f j = true) ∧ Below w.heap.size w wr) (fun i _ => a.size - (intOf i).toNat)
  case atStart => exact ⟨0, Nat.zero_le _, rfl, fun j h => by omega, Below.refl _ _⟩
  case round =>
    obtain ⟨k, hk, rfl, hok, hB⟩ := hrel
    by_cases hlt : k < a.size
    · skip
      have hkb : k < b.size := by rw [← hz.out]; exact hlt
      have i0' : (0 : Int) ≤ (k : Int) := by omega
      have i1 : (k : Int) < (a.size : Int) := by omega
      have i2 : (k : Int) < (b.size : Int) := by omega
      obtain ⟨p2, n2⟩ : ∃ p, ((b[k].toNat : Int) != 120) = p := ⟨_, rfl⟩
      obtain ⟨p3, n3⟩ : ∃ p, ((a[k].toNat : Int) != (b[k].toNat : Int)) = p := ⟨_, rfl⟩
      have hH : Hid (f k = !(p2 && p3)) := by unfold Hid; rw [← HF.out]; exact inK_str a b k hlt hkb p2 p3 n2 n3
      have hlt' : Hid (k < a.data.toList.length) := by unfold Hid; rw [LA.out]; exact hlt
      cases p2 <;> cases p3
      all_goals
        go_wp2
        go_quiet (fail)
        go_wp2
        first
          | (have hF : f k = false := hH.out
             have hF2 := allTo_false k hlt'.out hF
             go_ret
             refine ⟨?_, hB.trans (below_drewN _ _ _)⟩
             rw [hF2]
             rfl)
          | (have hF : f k = true := hH.out
             have hF2 := ok_succ hok.out hF
             go_roundw
             case rel => exact ⟨k + 1, by omega, by go_num, hF2, hB.trans (below_drewN _ _ _)⟩
             case measure => simp [intOf]; omega)
    · have hA : Hid (allTo f a.data.toList.length = true) := (allTo_iff _ _).2 (fun j hj => hok.out j (by rw [LA.out] at hj; omega))
      clear hok
      go_wp2
      go_ret
      exact ⟨by rw [hA.out]; rfl, hB⟩

theorem rWithin_D (A B : List UInt8) (q : Bool) (w : World) (ga : good A = true) (gb : good B = true) (hq : wiB A B = q) :
    Calls Try.prog 9 #[.string ⟨A.toArray⟩, .string ⟨B.toArray⟩] w fun e w' => e = .returned (.bool q) ∧ Below w.heap.size w w' := by
  subst hq
  unfold wiB
  cases hf : fitB A B
  · exact rWithin_no ⟨A.toArray⟩ ⟨B.toArray⟩ w hf
  · rw [Bool.true_and]
    exact rWithin_loop ⟨A.toArray⟩ ⟨B.toArray⟩ w ga gb hf
end Go.Proofs.Ytdgglglemdbgcaa

import Derived.Test.YtmblloddhpcdeacY8
import Derived.Test.YtmblloddhpcdeacY9
import Derived.Test.YtmblloddhpcdeacW14
namespace Go.Proofs.Ytmblloddhpcdeac
open Go.RowKit

theorem own_snocY {W : World} {B k : Nat} {v' : Value} {t : List UInt8} {x : UInt8} (hx : t[k]? = some x)
    (h : W.ownsRow B 5 1 v' (k + 1) (bys (t.take k) ++ [.int .u8 (x.toNat : Int)])) : W.ownsRow B 5 1 v' (k + 1) (bys (t.take (k + 1))) := by
  rw [List.take_add_one, hx]
  rw [bys_snoc] at h
  exact h

set_option maxHeartbeats 1000000 in
theorem rLeast_any (s : ByteArray) (w : World) (hl : s.size ≤ 256) : Calls Try.prog 46 #[.string s] w fun e w' => e = .returned (.string ⟨(lst s.data.toList).toArray⟩) ∧ Below w.heap.size w w' := by
  obtain ⟨i0, hi, hz0, hz1, hz2⟩ := info_parts info_u8
  have hLl : Hid ((lst s.data.toList).length = s.size) := by unfold Hid; rw [lst_len]; simp
  go_enter Try.func46, Try.ntmps46
  go_wp2
  go_loopw [3, 4] (fun v i wr => ∃ k : Nat, k ≤ s.size ∧ i = .int .i64 k ∧ wr.ownsRow w.heap.size 5 1 v k (bys ((lst s.data.toList).take k)) ∧ Below w.heap.size w wr) (fun _ i _ => s.size - (intOf i).toNat)
  case atStart => exact ⟨0, Nat.zero_le _, rfl, World.ownsRow_nil _ _ _ _, Below.refl _ _⟩
  case round =>
    obtain ⟨k, hk, rfl, hown, hB⟩ := hrel
    by_cases hlt : k < s.size
    · have j0 : (0 : Int) ≤ (k : Int) := by omega
      have j1 : (k : Int) < (s.size : Int) := by omega
      have hlk : (lst s.data.toList)[k]? = some (if s[k] == 120 then 48 else s[k]) := by
        have e := byte_at s k hlt
        unfold lst
        rw [List.getElem?_map, List.getElem?_eq_getElem (show k < s.data.toList.length by simpa using hlt), e]
        rfl
      by_cases hx : s[k] = 120
      · have e1 : ((s[k].toNat : Int) == 120) = true := by rw [hx]; rfl
        have Hl : Hid ((lst s.data.toList)[k]? = some 48) := by unfold Hid; rw [hlk, hx]; rfl
        clear hlk
        go_wp2_with (at_builtin; refine wpList_append_own _ rfl _ _ 39 rfl w.heap.size 5 i0 (.int .u8 0) 1 1 Try.underlying39 hi hz0 hz1 hz2 rfl (by decide) _ _ _ rfl (hown.alloc _) ⟨_, 0, none⟩ 1 1 [.int .u8 48] rfl rfl (cell_one_new _ _ _) (by simp [Value.oneCell']) (by unfold maxLen; omega) (by omega) (by have := hB.size; simp; omega) ?_; intro v' w1 hown' hgrow _)
        go_roundw
        case rel => exact ⟨k + 1, by omega, by go_num, own_snocY Hl.out hown', bel_app hB hown hgrow⟩
        case measure => simp [intOf]; omega
      · have e1 : ((s[k].toNat : Int) == 120) = false := ne_byte (n := 120) hx
        have Hl : Hid ((lst s.data.toList)[k]? = some s[k]) := by
          unfold Hid; rw [hlk]
          have : (s[k] == 120) = false := by simpa using hx
          rw [this]; rfl
        clear hlk
        go_wp2_with (at_builtin; refine wpList_append_own _ rfl _ _ 39 rfl w.heap.size 5 i0 (.int .u8 0) 1 1 Try.underlying39 hi hz0 hz1 hz2 rfl (by decide) _ _ _ rfl (hown.alloc _) ⟨_, 0, none⟩ 1 1 [.int .u8 (s[k].toNat : Int)] rfl rfl (cell_one_new _ _ _) (by simp [Value.oneCell']) (by unfold maxLen; omega) (by omega) (by have := hB.size; simp; omega) ?_; intro v' w1 hown' hgrow _)
        go_roundw
        case rel => exact ⟨k + 1, by omega, by go_num, own_snocY Hl.out hown', bel_app hB hown hgrow⟩
        case measure => simp [intOf]; omega
    · have hkn : k = s.size := by omega
      have hT : (lst s.data.toList).take k = lst s.data.toList := List.take_of_length_le (by rw [hLl.out]; omega)
      have hcv := conv_any wr w.heap.size _ (lst s.data.toList) (by rw [hLl.out, ← hkn]; rw [hT] at hown; exact hown)
      have j1 : ¬ (k : Int) < (s.size : Int) := by omega
      clear hT
      go_wp2
      go_ret
      exact ⟨rfl, hB⟩

/-- what After answers -/
def aftV (t h : List UInt8) : Value := .tuple #[.string ⟨(if (nx t h).2 = true then (nx t h).1 else []).toArray⟩, .bool (nx t h).2]
def lastV (t h : List UInt8) (k : Nat) : Int := match lastB t h k with | some q => (q : Int) | none => -1
theorem lastV_succ (t h : ByteArray) (k : Nat) (hk : k < t.size) (hk2 : k < h.size) (p1 p2 : Bool) (n1 : ((t[k].toNat : Int) == 120) = p1) (n2 : ((h[k].toNat : Int) == 48) = p2) : lastV t.data.toList h.data.toList (k + 1) = if (p1 && p2) = true then (k : Int) else lastV t.data.toList h.data.toList k := by
  have e1 : t.data.toList.getD k 0 = t[k] := by
    rw [← byte_at t k hk]
    simp [List.getElem?_eq_getElem (show k < t.data.toList.length by simpa using hk)]
  have e2 : h.data.toList.getD k 0 = h[k] := by
    rw [← byte_at h k hk2]
    simp [List.getElem?_eq_getElem (show k < h.data.toList.length by simpa using hk2)]
  have m1 : (t[k] == 120) = p1 := by
    have := byte_bne t[k] 120 (by decide)
    unfold bne at this
    rw [← n1]
    exact (Bool.not_inj this).symm
  have m2 : (h[k] == 48) = p2 := by
    have := byte_bne h[k] 48 (by decide)
    unfold bne at this
    rw [← n2]
    exact (Bool.not_inj this).symm
  unfold lastV
  simp only [lastB, e1, e2, m1, m2]
  cases p1 <;> cases p2 <;> rfl
end Go.Proofs.Ytmblloddhpcdeac

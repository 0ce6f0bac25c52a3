import Derived.Test.YtmblloddhpcdeacH1
namespace Go.Proofs.Ytmblloddhpcdeac
open Go.RowKit

theorem own_snoc2 {W : World} {B k : Nat} {v' : Value} {f : UInt8 → UInt8 → UInt8} {a b : ByteArray} {x : UInt8} (hl : a.size = b.size) (hk : k < a.size) (hx : f a[k] (b[k]'(by omega)) = x)
    (h : W.ownsRow B 5 1 v' (k + 1) (bys ((List.zipWith f a.data.toList b.data.toList).take k) ++ [.int .u8 (x.toNat : Int)])) : W.ownsRow B 5 1 v' (k + 1) (bys ((List.zipWith f a.data.toList b.data.toList).take (k + 1))) := by
  have la : a.data.toList.length = b.data.toList.length := by simp; exact hl
  have lk : k < a.data.toList.length := by simpa using hk
  rw [take_zip f _ _ la k lk, byte_at a k hk, byte_at b k (by omega), hx, ← bys_snoc]
  exact h

set_option maxHeartbeats 2000000 in
theorem written_any (a b : ByteArray) (w : World) (hl : a.size ≤ 256) (hz0 : a.size = b.size) :
    Calls Try.prog 14 #[.string a, .string b] w fun e w' => e = .returned (.string ⟨(wrT a.data.toList b.data.toList).toArray⟩) ∧ Below w.heap.size w w' := by
  have hz : Hid (a.size = b.size) := hz0
  have LA : Hid (a.data.toList.length = a.size) := by simp [Hid]
  have hzl : Hid (a.data.toList.length = b.data.toList.length) := by unfold Hid; simp; exact hz0
  clear hz0
  obtain ⟨i0, hi, hz0, hz1, hz2⟩ := info_parts info_u8
  go_enter Try.func14, Try.ntmps14
  go_wp2
  go_loopw [5, 6] (fun v i wr => ∃ k : Nat, k ≤ a.size ∧ i = .int .i64 k ∧ wr.ownsRow w.heap.size 5 1 v k (bys ((wrT a.data.toList b.data.toList).take k)) ∧ Below w.heap.size w wr) (fun _ i _ => a.size - (intOf i).toNat)
  case atStart => exact ⟨0, Nat.zero_le _, rfl, World.ownsRow_nil _ _ _ _, Below.refl _ _⟩
  case round =>
    obtain ⟨k, hk, rfl, hown, hB⟩ := hrel
    by_cases hlt : k < a.size
    · skip
      have hkb : k < b.size := by rw [← hz.out]; exact hlt
      have i0' : (0 : Int) ≤ (k : Int) := by omega
      have i1 : (k : Int) < (a.size : Int) := by omega
      have i2 : (k : Int) < (b.size : Int) := by omega
      obtain ⟨p2, n2⟩ : ∃ p, ((b[k].toNat : Int) == 120) = p := ⟨_, rfl⟩
      have M2 : Hid ((b[k] == 120) = p2) := by
        unfold Hid
        have := byte_bne b[k] 120 (by decide)
        unfold bne at this
        rw [← n2]
        exact (Bool.not_inj this).symm
      cases p2
      · go_wp2_with (at_builtin; refine wpList_append_own _ rfl _ _ 39 rfl w.heap.size 5 i0 (.int .u8 0) 1 1 Try.underlying39 hi hz0 hz1 hz2 rfl (by decide) _ _ _ rfl (hown.alloc _) ⟨wr.heap.size, 0, none⟩ 1 1 [.int .u8 (b[k].toNat : Int)] rfl rfl (cell_one_new _ _ _) (by simp [Value.oneCell']) (by unfold maxLen; omega) (by omega) (by have := hB.size; simp; omega) ?_; intro v' w1 hown' hgrow _)
        go_roundw
        case rel => exact ⟨k + 1, by omega, by go_num, own_snoc2 (f := fun x y => if y == 120 then x else y) hz.out hlt (by show (if (b[k] == 120) = true then a[k] else b[k]) = b[k]; rw [M2.out]; rfl) hown', bel_app hB hown hgrow⟩
        case measure => simp [intOf]; omega
      · go_wp2_with (at_builtin; refine wpList_append_own _ rfl _ _ 39 rfl w.heap.size 5 i0 (.int .u8 0) 1 1 Try.underlying39 hi hz0 hz1 hz2 rfl (by decide) _ _ _ rfl (hown.alloc _) ⟨wr.heap.size, 0, none⟩ 1 1 [.int .u8 (a[k].toNat : Int)] rfl rfl (cell_one_new _ _ _) (by simp [Value.oneCell']) (by unfold maxLen; omega) (by omega) (by have := hB.size; simp; omega) ?_; intro v' w1 hown' hgrow _)
        go_roundw
        case rel => exact ⟨k + 1, by omega, by go_num, own_snoc2 (f := fun x y => if y == 120 then x else y) hz.out hlt (by show (if (b[k] == 120) = true then a[k] else b[k]) = a[k]; rw [M2.out]; rfl) hown', bel_app hB hown hgrow⟩
        case measure => simp [intOf]; omega
    · have hkn : k = a.size := by omega
      have hT : (wrT a.data.toList b.data.toList).take k = wrT a.data.toList b.data.toList := by rw [hkn, ← LA.out]; exact take_all _ _ _ hzl.out
      have hL : (wrT a.data.toList b.data.toList).length = k := by rw [wr_len _ _ hzl.out, LA.out, hkn]
      have hcv := conv_any wr w.heap.size _ (wrT a.data.toList b.data.toList) (by rw [hL]; rw [hT] at hown; exact hown)
      clear hT hL
      go_wp2
      go_ret
      exact ⟨rfl, hB⟩
end Go.Proofs.Ytmblloddhpcdeac

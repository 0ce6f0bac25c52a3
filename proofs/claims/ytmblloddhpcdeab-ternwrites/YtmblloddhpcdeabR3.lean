import Derived.Test.YtmblloddhpcdeabR1
namespace Go.Proofs.Ytmblloddhpcdeab
open Go.RowKit

set_option maxHeartbeats 400000 in
theorem rWrite_no (a b : ByteArray) (w : World) (hf0 : fitB a.data.toList b.data.toList = false) :
    Calls Try.prog 23 #[.string a, .string b] w fun e w' => e = .returned (.string ⟨#[]⟩) ∧ Below w.heap.size w w' := by
  have hf : Hid (fitB a.data.toList b.data.toList = false) := hf0
  clear hf0
  go_enter Try.func23, Try.ntmps23
  go_wp2_with (go_at_call 37; refine (rFit_D a b false _ hf.out).mono ?_; rintro e w' ⟨rfl, rfl⟩)
  go_ret
  exact ⟨rfl, Below.refl _ _⟩

set_option maxHeartbeats 2000000 in
theorem rWrite_loop (a b : ByteArray) (w : World) (ga : good a.data.toList = true) (_gb : good b.data.toList = true) (hf0 : fitB a.data.toList b.data.toList = true) :
    Calls Try.prog 23 #[.string a, .string b] w fun e w' => e = .returned (.string ⟨(wrT a.data.toList b.data.toList).toArray⟩) ∧ Below w.heap.size w w' := by
  have hf : Hid (fitB a.data.toList b.data.toList = true) := hf0
  have hz0 : a.size = b.size := by simpa using fitB_len hf0
  have hz : Hid (a.size = b.size) := hz0
  have hl : a.size ≤ 256 := by simpa using good_len ga
  have LA : Hid (a.data.toList.length = a.size) := by simp [Hid]
  clear hf0 hz0
  obtain ⟨i0, hi, hz0, hz1, hz2⟩ := info_parts info_u8
  go_enter Try.func23, Try.ntmps23
  go_wp2_with (go_at_call 37; refine (rFit_D a b true _ hf.out).mono ?_; rintro e w' ⟨rfl, rfl⟩)
  go_loopw [6, 7] (fun v i wr => ∃ k : Nat, k ≤ a.size ∧ i = .int .i64 k ∧ wr.ownsRow w.heap.size 5 1 v k (bys ((wrT a.data.toList b.data.toList).take k)) ∧ Below w.heap.size w wr) (fun _ i _ => a.size - (intOf i).toNat)
  case atStart => exact ⟨0, Nat.zero_le _, rfl, World.ownsRow_nil _ _ _ _, Below.refl _ _⟩
  case round =>
    obtain ⟨k, hk, rfl, hown, hB⟩ := hrel
    by_cases hlt : k < a.size
    · skip
      have hkb : k < b.size := by rw [← hz.out]; exact hlt
      have i0' : (0 : Int) ≤ (k : Int) := by omega
      have i1 : (k : Int) < (a.size : Int) := by omega
      have i2 : (k : Int) < (b.size : Int) := by omega
      obtain ⟨p2, n2⟩ : ∃ p, ((b[k].toNat : Int) == 120) = p := ⟨_, rfl⟩
      have M2 : Hid ((b[k] == 120) = p2) := by
        unfold Hid
        have := byte_bne b[k] 120 (by decide)
        unfold bne at this
        rw [← n2]
        exact (Bool.not_inj this).symm
      cases p2
      · go_wp2_with (at_builtin; refine wpList_append_own _ rfl _ _ 55 rfl w.heap.size 5 i0 (.int .u8 0) 1 1 Try.underlying55 hi hz0 hz1 hz2 rfl (by decide) _ _ _ rfl (hown.alloc _) ⟨wr.heap.size, 0, none⟩ 1 1 [.int .u8 (b[k].toNat : Int)] rfl rfl (cell_one_new _ _ _) (by simp [Value.oneCell']) (by unfold maxLen; omega) (by omega) (by have := hB.size; simp; omega) ?_; intro v' w1 hown' hgrow _)
        go_roundw
        case rel => exact ⟨k + 1, by omega, by go_num, own_snoc (f := fun x y => if y == 120 then x else y) hz.out hlt (by show (if (b[k] == 120) = true then a[k] else b[k]) = b[k]; rw [M2.out]; rfl) hown', bel_app hB hown hgrow⟩
        case measure => simp [intOf]; omega
      · go_wp2_with (at_builtin; refine wpList_append_own _ rfl _ _ 55 rfl w.heap.size 5 i0 (.int .u8 0) 1 1 Try.underlying55 hi hz0 hz1 hz2 rfl (by decide) _ _ _ rfl (hown.alloc _) ⟨wr.heap.size, 0, none⟩ 1 1 [.int .u8 (a[k].toNat : Int)] rfl rfl (cell_one_new _ _ _) (by simp [Value.oneCell']) (by unfold maxLen; omega) (by omega) (by have := hB.size; simp; omega) ?_; intro v' w1 hown' hgrow _)
        go_roundw
        case rel => exact ⟨k + 1, by omega, by go_num, own_snoc (f := fun x y => if y == 120 then x else y) hz.out hlt (by show (if (b[k] == 120) = true then a[k] else b[k]) = a[k]; rw [M2.out]; rfl) hown', bel_app hB hown hgrow⟩
        case measure => simp [intOf]; omega
    · have hkn : k = a.size := by omega
      have hT : (wrT a.data.toList b.data.toList).take k = wrT a.data.toList b.data.toList := by rw [hkn, ← LA.out]; exact take_all _ _ _ (fitB_len hf.out)
      have hL : (wrT a.data.toList b.data.toList).length = k := by unfold wrT; rw [zip_len _ _ _ (fitB_len hf.out), LA.out, hkn]
      have hcv := conv_any wr w.heap.size _ (wrT a.data.toList b.data.toList) (by rw [hL]; rw [hT] at hown; exact hown)
      clear hT hL
      go_wp2
      go_ret
      exact ⟨rfl, hB⟩

theorem rWrite_D (A B M : List UInt8) (w : World) (ga : good A = true) (gb : good B = true) (hM : wtT A B = M) :
    Calls Try.prog 23 #[.string ⟨A.toArray⟩, .string ⟨B.toArray⟩] w fun e w' => e = .returned (.string ⟨M.toArray⟩) ∧ Below w.heap.size w w' := by
  subst hM
  unfold wtT
  cases hf : fitB A B
  · exact rWrite_no ⟨A.toArray⟩ ⟨B.toArray⟩ w hf
  · exact rWrite_loop ⟨A.toArray⟩ ⟨B.toArray⟩ w ga gb hf

end Go.Proofs.Ytmblloddhpcdeab

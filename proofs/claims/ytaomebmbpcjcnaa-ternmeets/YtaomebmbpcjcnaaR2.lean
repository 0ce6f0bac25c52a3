import Derived.Test.YtaomebmbpcjcnaaR1
namespace Go.Proofs.Ytaomebmbpcjcnaa
open Go.RowKit

set_option maxHeartbeats 400000 in
theorem rMeet_no (a b : ByteArray) (w : World) (hf0 : fitB a.data.toList b.data.toList = false) :
    Calls Try.prog 10 #[.string a, .string b] w fun e w' => e = .returned (.tuple #[.string ⟨#[]⟩, .bool false]) ∧ Below w.heap.size w w' := by
  have hf : Hid (fitB a.data.toList b.data.toList = false) := hf0
  clear hf0
  go_enter Try.func10, Try.ntmps10
  go_wp2_with (go_at_call 30; refine (rFit_D a b false _ hf.out).mono ?_; rintro e w' ⟨rfl, rfl⟩)
  go_ret2
  exact ⟨rfl, Below.refl _ _⟩

set_option maxHeartbeats 2000000 in
theorem rMeet_loop (a b : ByteArray) (w : World) (ga : good a.data.toList = true) (gb : good b.data.toList = true) (hf0 : fitB a.data.toList b.data.toList = true) :
    Calls Try.prog 10 #[.string a, .string b] w fun e w' => e = .returned (.tuple #[.string ⟨(mtT a.data.toList b.data.toList).toArray⟩, .bool (agB a.data.toList b.data.toList)]) ∧ Below w.heap.size w w' := by
  have hf : Hid (fitB a.data.toList b.data.toList = true) := hf0
  have hz0 : a.size = b.size := by simpa using fitB_len hf0
  have hz : Hid (a.size = b.size) := hz0
  have hl : a.size ≤ 256 := by simpa using good_len ga
  have LA : Hid (a.data.toList.length = a.size) := by simp [Hid]
  clear hf0 hz0
  obtain ⟨i0, hi, hz0, hz1, hz2⟩ := info_parts info_u8
  go_enter Try.func10, Try.ntmps10
  go_wp2_with (go_at_call 30; refine (rFit_D a b true _ hf.out).mono ?_; rintro e w' ⟨rfl, rfl⟩)
  go_loopw [7, 8] (fun v i wr => ∃ k : Nat, k ≤ a.size ∧ i = .int .i64 k ∧ wr.ownsRow w.heap.size 5 1 v k (bys ((meetT a.data.toList b.data.toList).take k)) ∧ Below w.heap.size w wr ∧ Hid (∀ j, j < k → cfl a.data.toList b.data.toList j = false)) (fun _ i _ => a.size - (intOf i).toNat)
  case atStart => exact ⟨0, Nat.zero_le _, rfl, World.ownsRow_nil _ _ _ _, Below.refl _ _, fun j h => by omega⟩
  case round =>
    obtain ⟨k, hk, rfl, hown, hB, hok⟩ := hrel
    by_cases hlt : k < a.size
    · have hkb : k < b.size := by rw [← hz.out]; exact hlt
      have i0' : (0 : Int) ≤ (k : Int) := by omega
      have i1 : (k : Int) < (a.size : Int) := by omega
      have i2 : (k : Int) < (b.size : Int) := by omega
      obtain ⟨p1, n1⟩ : ∃ p, ((a[k].toNat : Int) != 120) = p := ⟨_, rfl⟩
      obtain ⟨p2, n2⟩ : ∃ p, ((b[k].toNat : Int) != 120) = p := ⟨_, rfl⟩
      obtain ⟨p3, n3⟩ : ∃ p, ((a[k].toNat : Int) != (b[k].toNat : Int)) = p := ⟨_, rfl⟩
      have hH : Hid (cfl a.data.toList b.data.toList k = (p1 && p2 && p3)) := cfl_str a b k hlt hkb ga gb p1 p2 p3 n1 n2 n3
      have m1 : ((a[k].toNat : Int) == 120) = !p1 := by rw [← n1]; unfold bne; simp
      have hlt' : Hid (k < a.data.toList.length) := by unfold Hid; rw [LA.out]; exact hlt
      have M1 : Hid ((a[k] == 120) = !p1) := by
        unfold Hid
        rw [← n1, show ((a[k].toNat : Int) != 120) = !(a[k] == 120) from byte_bne a[k] 120 (by decide)]; simp
      cases p1 <;> cases p2 <;> cases p3
      · skip
        go_wp2
        go_quiet (fail)
        go_wp2_with (at_builtin; refine wpList_append_own _ rfl _ _ 53 rfl w.heap.size 5 i0 (.int .u8 0) 1 1 Try.underlying53 hi hz0 hz1 hz2 rfl (by decide) _ _ _ rfl (World.ownsRow.alloc (w := wr.drewN nq) hown _) ⟨wr.heap.size, 0, none⟩ 1 1 [.int .u8 (b[k].toNat : Int)] rfl rfl (cell_one_new _ _ _) (by simp [Value.oneCell']) (by unfold maxLen; omega) (by omega) (by have := hB.size; simp; omega) ?_; intro v' w1 hown' hgrow _)
        go_roundw
        case rel => exact ⟨k + 1, by omega, by go_num, own_snoc (f := fun x y => if x == 120 then y else x) hz.out hlt (by show (if (a[k] == 120) = true then b[k] else a[k]) = b[k]; rw [M1.out]; rfl) hown', bel_app (wr := wr.drewN nq) (hB.trans (below_drewN _ _ _)) hown hgrow, cfl_succ hok.out hH.out⟩
        case measure => simp [intOf]; omega
      · skip
        go_wp2
        go_quiet (fail)
        go_wp2_with (at_builtin; refine wpList_append_own _ rfl _ _ 53 rfl w.heap.size 5 i0 (.int .u8 0) 1 1 Try.underlying53 hi hz0 hz1 hz2 rfl (by decide) _ _ _ rfl (World.ownsRow.alloc (w := wr.drewN nq) hown _) ⟨wr.heap.size, 0, none⟩ 1 1 [.int .u8 (b[k].toNat : Int)] rfl rfl (cell_one_new _ _ _) (by simp [Value.oneCell']) (by unfold maxLen; omega) (by omega) (by have := hB.size; simp; omega) ?_; intro v' w1 hown' hgrow _)
        go_roundw
        case rel => exact ⟨k + 1, by omega, by go_num, own_snoc (f := fun x y => if x == 120 then y else x) hz.out hlt (by show (if (a[k] == 120) = true then b[k] else a[k]) = b[k]; rw [M1.out]; rfl) hown', bel_app (wr := wr.drewN nq) (hB.trans (below_drewN _ _ _)) hown hgrow, cfl_succ hok.out hH.out⟩
        case measure => simp [intOf]; omega
      · skip
        go_wp2
        go_quiet (fail)
        go_wp2_with (at_builtin; refine wpList_append_own _ rfl _ _ 53 rfl w.heap.size 5 i0 (.int .u8 0) 1 1 Try.underlying53 hi hz0 hz1 hz2 rfl (by decide) _ _ _ rfl (World.ownsRow.alloc (w := wr.drewN nq) hown _) ⟨wr.heap.size, 0, none⟩ 1 1 [.int .u8 (b[k].toNat : Int)] rfl rfl (cell_one_new _ _ _) (by simp [Value.oneCell']) (by unfold maxLen; omega) (by omega) (by have := hB.size; simp; omega) ?_; intro v' w1 hown' hgrow _)
        go_roundw
        case rel => exact ⟨k + 1, by omega, by go_num, own_snoc (f := fun x y => if x == 120 then y else x) hz.out hlt (by show (if (a[k] == 120) = true then b[k] else a[k]) = b[k]; rw [M1.out]; rfl) hown', bel_app (wr := wr.drewN nq) (hB.trans (below_drewN _ _ _)) hown hgrow, cfl_succ hok.out hH.out⟩
        case measure => simp [intOf]; omega
      · skip
        go_wp2
        go_quiet (fail)
        go_wp2_with (at_builtin; refine wpList_append_own _ rfl _ _ 53 rfl w.heap.size 5 i0 (.int .u8 0) 1 1 Try.underlying53 hi hz0 hz1 hz2 rfl (by decide) _ _ _ rfl (World.ownsRow.alloc (w := wr.drewN nq) hown _) ⟨wr.heap.size, 0, none⟩ 1 1 [.int .u8 (b[k].toNat : Int)] rfl rfl (cell_one_new _ _ _) (by simp [Value.oneCell']) (by unfold maxLen; omega) (by omega) (by have := hB.size; simp; omega) ?_; intro v' w1 hown' hgrow _)
        go_roundw
        case rel => exact ⟨k + 1, by omega, by go_num, own_snoc (f := fun x y => if x == 120 then y else x) hz.out hlt (by show (if (a[k] == 120) = true then b[k] else a[k]) = b[k]; rw [M1.out]; rfl) hown', bel_app (wr := wr.drewN nq) (hB.trans (below_drewN _ _ _)) hown hgrow, cfl_succ hok.out hH.out⟩
        case measure => simp [intOf]; omega
      · skip
        go_wp2
        go_quiet (fail)
        go_wp2_with (at_builtin; refine wpList_append_own _ rfl _ _ 53 rfl w.heap.size 5 i0 (.int .u8 0) 1 1 Try.underlying53 hi hz0 hz1 hz2 rfl (by decide) _ _ _ rfl (World.ownsRow.alloc (w := wr.drewN nq) hown _) ⟨wr.heap.size, 0, none⟩ 1 1 [.int .u8 (a[k].toNat : Int)] rfl rfl (cell_one_new _ _ _) (by simp [Value.oneCell']) (by unfold maxLen; omega) (by omega) (by have := hB.size; simp; omega) ?_; intro v' w1 hown' hgrow _)
        go_roundw
        case rel => exact ⟨k + 1, by omega, by go_num, own_snoc (f := fun x y => if x == 120 then y else x) hz.out hlt (by show (if (a[k] == 120) = true then b[k] else a[k]) = a[k]; rw [M1.out]; rfl) hown', bel_app (wr := wr.drewN nq) (hB.trans (below_drewN _ _ _)) hown hgrow, cfl_succ hok.out hH.out⟩
        case measure => simp [intOf]; omega
      · skip
        go_wp2
        go_quiet (fail)
        go_wp2_with (at_builtin; refine wpList_append_own _ rfl _ _ 53 rfl w.heap.size 5 i0 (.int .u8 0) 1 1 Try.underlying53 hi hz0 hz1 hz2 rfl (by decide) _ _ _ rfl (World.ownsRow.alloc (w := wr.drewN nq) hown _) ⟨wr.heap.size, 0, none⟩ 1 1 [.int .u8 (a[k].toNat : Int)] rfl rfl (cell_one_new _ _ _) (by simp [Value.oneCell']) (by unfold maxLen; omega) (by omega) (by have := hB.size; simp; omega) ?_; intro v' w1 hown' hgrow _)
        go_roundw
        case rel => exact ⟨k + 1, by omega, by go_num, own_snoc (f := fun x y => if x == 120 then y else x) hz.out hlt (by show (if (a[k] == 120) = true then b[k] else a[k]) = a[k]; rw [M1.out]; rfl) hown', bel_app (wr := wr.drewN nq) (hB.trans (below_drewN _ _ _)) hown hgrow, cfl_succ hok.out hH.out⟩
        case measure => simp [intOf]; omega
      · skip
        go_wp2
        go_quiet (fail)
        go_wp2_with (at_builtin; refine wpList_append_own _ rfl _ _ 53 rfl w.heap.size 5 i0 (.int .u8 0) 1 1 Try.underlying53 hi hz0 hz1 hz2 rfl (by decide) _ _ _ rfl (World.ownsRow.alloc (w := wr.drewN nq) hown _) ⟨wr.heap.size, 0, none⟩ 1 1 [.int .u8 (a[k].toNat : Int)] rfl rfl (cell_one_new _ _ _) (by simp [Value.oneCell']) (by unfold maxLen; omega) (by omega) (by have := hB.size; simp; omega) ?_; intro v' w1 hown' hgrow _)
        go_roundw
        case rel => exact ⟨k + 1, by omega, by go_num, own_snoc (f := fun x y => if x == 120 then y else x) hz.out hlt (by show (if (a[k] == 120) = true then b[k] else a[k]) = a[k]; rw [M1.out]; rfl) hown', bel_app (wr := wr.drewN nq) (hB.trans (below_drewN _ _ _)) hown hgrow, cfl_succ hok.out hH.out⟩
        case measure => simp [intOf]; omega
      · have hC := agB_conf _ _ k hlt'.out hH.out
        have hC' : Hid (agB a.data.toList b.data.toList = false) := hC
        clear hC
        go_wp2
        go_quiet (fail)
        go_wp2
        go_ret2
        exact ⟨by unfold mtT; rw [hC'.out]; rfl, hB.trans (below_drewN _ _ _)⟩
    · have hkn : k = a.size := by omega
      have hA : agB a.data.toList b.data.toList = true := agB_all _ _ hf.out (fun j hj => hok.out j (by rw [LA.out] at hj; omega))
      have hM : Hid (mtT a.data.toList b.data.toList = meetT a.data.toList b.data.toList) := by unfold Hid mtT; rw [if_pos hA]
      have hA' : Hid (agB a.data.toList b.data.toList = true) := hA
      have hT : (meetT a.data.toList b.data.toList).take k = meetT a.data.toList b.data.toList := by rw [hkn, ← LA.out]; exact take_all _ _ _ (fitB_len hf.out)
      have hL : (meetT a.data.toList b.data.toList).length = k := by rw [meetT_len _ _ (fitB_len hf.out), LA.out, hkn]
      have hcv := conv_any wr w.heap.size _ (meetT a.data.toList b.data.toList) (by rw [hL]; rw [hT] at hown; exact hown)
      clear hA hT hL
      go_wp2
      go_ret2
      exact ⟨by rw [hM.out, hA'.out]; rfl, hB⟩

theorem rMeet_D (A B M : List UInt8) (q : Bool) (w : World) (ga : good A = true) (gb : good B = true) (hM : mtT A B = M) (hq : agB A B = q) :
    Calls Try.prog 10 #[.string ⟨A.toArray⟩, .string ⟨B.toArray⟩] w fun e w' => e = .returned (.tuple #[.string ⟨M.toArray⟩, .bool q]) ∧ Below w.heap.size w w' := by
  subst hM hq
  cases hf : fitB A B
  · have h1 : agB A B = false := agB_nofit A B hf
    have h2 : mtT A B = [] := by unfold mtT; rw [h1]; rfl
    rw [h1, h2]
    exact rMeet_no ⟨A.toArray⟩ ⟨B.toArray⟩ w hf
  · exact rMeet_loop ⟨A.toArray⟩ ⟨B.toArray⟩ w ga gb hf
end Go.Proofs.Ytaomebmbpcjcnaa

import Derived.Test.YtepokgainceidaaGreatDoorYBS
import Derived.Test.YtepokgainceidaaGreatDoorYAV
namespace Go.Proofs.YtepokgainceidaaGreatDoor
open Go.RowKit Go.Shelf
set_option maxRecDepth 100000 in
set_option maxHeartbeats 8000000 in
theorem refOf3_any (n : Nat) (s : List UInt8) (w : World) (h2 : n ≤ 256) : Calls Tryz.prog 45 #[.string ⟨s.toArray⟩, .string ⟨#[48, 49, 120]⟩, .int .i64 (n : Int)] w fun e w' => e = .returned (.bool (cuB n s)) ∧ Below w.heap.size w w' := by
  by_cases hl : ¬ s.length = n
  · have i1 : ((s.length : Int) != (n : Int)) = true := by simp only [bne_iff_ne]; omega
    have hr : Hid (cuB n s = false) := by unfold Hid cuB; rw [decide_eq_false hl]; rfl
    go_enter Tryz.func45, Tryz.ntmps45
    go_wp2_with fail
    go_ret
    exact ⟨by rw [hr.out]; rfl, Below.refl _ _⟩
  replace hl := Classical.not_not.1 hl
  have i1 : ((s.length : Int) != (n : Int)) = false := by rw [hl]; simp
  obtain ⟨q, hq⟩ : ∃ q, cuB n s = q := ⟨_, rfl⟩
  rw [hq]
  have HNO : Hid (∀ (k : Nat) (c : UInt8), s[k]? = some c → Tn.tri c = false → q = false) := fun k c h hc => by rw [← hq]; exact cuB_no h hc
  have HYES : Hid ((∀ (k : Nat) (c : UInt8), s[k]? = some c → Tn.tri c = true) → q = true) := fun h => by rw [← hq]; exact cuB_yes hl h
  have HL : Hid (s.length = n) := hl
  have hs256 : s.length ≤ 256 := by omega
  clear hq hl
  go_enter Tryz.func45, Tryz.ntmps45
  go_wp2_with fail
  go_loopw [7] (fun vk wr => ∃ k : Nat, vk = .int .i64 k ∧ k ≤ s.length ∧ Hid (∀ (j : Nat) (c : UInt8), j < k → s[j]? = some c → Tn.tri c = true) ∧ Below w.heap.size w wr) (fun vk _ => s.length - (intOf vk).toNat)
  case atStart => exact ⟨0, rfl, Nat.zero_le _, fun j c hj => by omega, Below.refl _ _⟩
  case round =>
    obtain ⟨k, rfl, hk, hno, hB⟩ := hrel
    by_cases hlt : k < s.length
    · have j0 : (0 : Int) ≤ (k : Int) := by omega
      have j1 : (k : Int) < (s.length : Int) := by omega
      obtain ⟨c, hc, hlc⟩ := byte_get s k hlt
      have HNK : Hid (Tn.tri c = false → q = false) := HNO.out k c hlc
      have HNX : Hid (Tn.tri c = true → ∀ (j : Nat) (d : UInt8), j < k + 1 → s[j]? = some d → Tn.tri d = true) := fun h j d hj hd => by
        rcases Nat.lt_or_ge j k with h3 | h3
        · exact hno.out j d h3 hd
        · obtain rfl : j = k := by omega
          rw [hlc] at hd
          rw [← Option.some.inj hd]
          exact h
      have htri : Tn.tri c = (dg01 c || c == 120) := rfl
      clear hlc hno
      go_wp2_with fail
      go_loopw [8, 9] (fun vf vj wi => ∃ (j : Nat) (f : Bool), vj = .int .i64 j ∧ j ≤ 3 ∧ vf = .bool f ∧ Hid ((j = 0 → f = false) ∧ (j = 1 → f = (c == 48)) ∧ (j = 2 → f = dg01 c) ∧ (j = 3 → f = Tn.tri c)) ∧ Below w.heap.size w wi) (fun _ vj _ => 3 - (intOf vj).toNat)
      case atStart => exact ⟨0, false, rfl, by omega, rfl, ⟨fun _ => rfl, fun h => by omega, fun h => by omega, fun h => by omega⟩, hB⟩
      case round =>
        clear hB
        obtain ⟨j, f, rfl, hj, rfl, hf, hB⟩ := hrel
        rcases (show j = 0 ∨ j = 1 ∨ j = 2 ∨ j = 3 by omega) with hj0 | hj1 | hj2 | hj3
        · obtain rfl : f = false := hf.out.1 hj0
          have q0 : (j : Int) < 3 := by omega
          have q1 : (0 : Int) ≤ (j : Int) := by omega
          have HJ : Hid (j = 0) := hj0
          obtain ⟨e0, he0⟩ : ∃ e, (c == 48) = e := ⟨_, rfl⟩
          have HE : Hid ((((c.toNat : Int)) == 48) = e0) := by
            unfold Hid
            rw [← he0, Bool.eq_iff_iff, beq_iff_eq, beq_iff_eq]
            exact ⟨fun h => UInt8.toNat_inj.1 (by show c.toNat = 48; omega), fun h => by rw [h]; rfl⟩
          have HF2 : Hid ((j + 1 = 0 → e0 = false) ∧ (j + 1 = 1 → e0 = (c == 48)) ∧ (j + 1 = 2 → e0 = dg01 c) ∧ (j + 1 = 3 → e0 = Tn.tri c)) := ⟨fun h => by omega, fun _ => he0.symm, fun h => by have := HJ.out; omega, fun h => by have := HJ.out; omega⟩
          clear hf hj0 he0
          go_wp2_with fail
          refine quiet_lit3 (C := fun W => Below w.heap.size w W) (by kernel_rfl) (by kernel_rfl) (show Below _ _ _ from hB.drew) ?_
          go_big_quiet_want
          go_big_quiet_op
          go_big_quiet_on
          go_big_quiet_want
          go_big_quiet_op
          go_big_quiet_on
          go_big_quiet_want
          go_big_quiet_op
          go_big_quiet_on
          go_big_quiet_want
          go_big_quiet_op
          go_big_quiet_on
          go_big_quiet_want
          refine ⟨.int .u8 (c.toNat : Int), fun W hW => ?_, ?_⟩
          · go_simp
          go_big_quiet_on
          simp only [Act.put, List.setIfInBounds_toArray, List.set_cons_zero, List.set_cons_succ]
          go_big_quiet_want
          go_big_quiet_op
          go_big_quiet_on
          go_big_quiet_want
          go_big_quiet_op
          go_big_quiet_on
          go_big_quiet_want
          refine ⟨.int .u8 48, fun W hW => ?_, ?_⟩
          · have hj0 := HJ.out
            subst hj0
            go_simp
            rfl
          go_big_quiet_on
          simp only [Act.put, List.setIfInBounds_toArray, List.set_cons_zero, List.set_cons_succ]
          go_big_quiet_want
          refine ⟨.bool e0, fun W hW => ?_, ?_⟩
          · go_simp
            exact HE.out
          go_big_quiet_on
          simp only [Act.put, List.setIfInBounds_toArray, List.set_cons_zero, List.set_cons_succ]
          go_big_quiet_want
          refine ⟨.bool e0, fun W hW => ?_, ?_⟩
          · go_simp
          go_big_quiet_on
          simp only [Act.put, List.setIfInBounds_toArray, List.set_cons_zero, List.set_cons_succ]
          go_big_quiet_want
          go_big_quiet_op
          go_big_quiet_on
          refine wpQuiet_nil ?_
          intro W hW
          go_wp2_with fail
          go_roundw
          case rel => exact ⟨j + 1, e0, by go_num, by have := HJ.out; omega, rfl, HF2, hW⟩
          case measure => simp [intOf]; omega
        · have hf1 : f = (c == 48) := hf.out.2.1 hj1
          have q0 : (j : Int) < 3 := by omega
          have q1 : (0 : Int) ≤ (j : Int) := by omega
          have HJ : Hid (j = 1) := hj1
          cases f with
          | true =>
            have HF2 : Hid ((j + 1 = 0 → true = false) ∧ (j + 1 = 1 → true = (c == 48)) ∧ (j + 1 = 2 → true = dg01 c) ∧ (j + 1 = 3 → true = Tn.tri c)) := ⟨fun h => by omega, fun h => by have := HJ.out; omega, fun _ => by unfold dg01; rw [← hf1]; rfl, fun h => by have := HJ.out; omega⟩
            clear hf hj1 hf1
            go_wp2_with fail
            refine quiet_lit3 (C := fun W => Below w.heap.size w W) (by kernel_rfl) (by kernel_rfl) (show Below _ _ _ from hB.drew) ?_
            go_big_quiet_want
            go_big_quiet_op
            go_big_quiet_on
            go_big_quiet_want
            go_big_quiet_op
            go_big_quiet_on
            go_big_quiet_skip
            go_big_quiet_skip
            go_big_quiet_skip
            go_big_quiet_skip
            go_big_quiet_skip
            go_big_quiet_skip
            go_big_quiet_skip
            go_big_quiet_want
            refine ⟨.bool true, fun W hW => ?_, ?_⟩
            · go_simp
            go_big_quiet_on
            simp only [Act.put, List.setIfInBounds_toArray, List.set_cons_zero, List.set_cons_succ]
            go_big_quiet_want
            go_big_quiet_op
            go_big_quiet_on
            refine wpQuiet_nil ?_
            intro W hW
            go_wp2_with fail
            go_roundw
            case rel => exact ⟨j + 1, true, by go_num, by have := HJ.out; omega, rfl, HF2, hW⟩
            case measure => simp [intOf]; omega
          | false =>
            obtain ⟨e0, he0⟩ : ∃ e, (c == 49) = e := ⟨_, rfl⟩
            have HE : Hid ((((c.toNat : Int)) == 49) = e0) := by
              unfold Hid
              rw [← he0, Bool.eq_iff_iff, beq_iff_eq, beq_iff_eq]
              exact ⟨fun h => UInt8.toNat_inj.1 (by show c.toNat = 49; omega), fun h => by rw [h]; rfl⟩
            have HF2 : Hid ((j + 1 = 0 → e0 = false) ∧ (j + 1 = 1 → e0 = (c == 48)) ∧ (j + 1 = 2 → e0 = dg01 c) ∧ (j + 1 = 3 → e0 = Tn.tri c)) := ⟨fun h => by omega, fun h => by have := HJ.out; omega, fun _ => by unfold dg01; rw [← hf1, he0]; rfl, fun h => by have := HJ.out; omega⟩
            clear hf hj1 hf1 he0
            go_wp2_with fail
            refine quiet_lit3 (C := fun W => Below w.heap.size w W) (by kernel_rfl) (by kernel_rfl) (show Below _ _ _ from hB.drew) ?_
            go_big_quiet_want
            go_big_quiet_op
            go_big_quiet_on
            go_big_quiet_want
            go_big_quiet_op
            go_big_quiet_on
            go_big_quiet_want
            go_big_quiet_op
            go_big_quiet_on
            go_big_quiet_want
            go_big_quiet_op
            go_big_quiet_on
            go_big_quiet_want
            refine ⟨.int .u8 (c.toNat : Int), fun W hW => ?_, ?_⟩
            · go_simp
            go_big_quiet_on
            simp only [Act.put, List.setIfInBounds_toArray, List.set_cons_zero, List.set_cons_succ]
            go_big_quiet_want
            go_big_quiet_op
            go_big_quiet_on
            go_big_quiet_want
            go_big_quiet_op
            go_big_quiet_on
            go_big_quiet_want
            refine ⟨.int .u8 49, fun W hW => ?_, ?_⟩
            · have hj0 := HJ.out
              subst hj0
              go_simp
              rfl
            go_big_quiet_on
            simp only [Act.put, List.setIfInBounds_toArray, List.set_cons_zero, List.set_cons_succ]
            go_big_quiet_want
            refine ⟨.bool e0, fun W hW => ?_, ?_⟩
            · go_simp
              exact HE.out
            go_big_quiet_on
            simp only [Act.put, List.setIfInBounds_toArray, List.set_cons_zero, List.set_cons_succ]
            go_big_quiet_want
            refine ⟨.bool e0, fun W hW => ?_, ?_⟩
            · go_simp
            go_big_quiet_on
            simp only [Act.put, List.setIfInBounds_toArray, List.set_cons_zero, List.set_cons_succ]
            go_big_quiet_want
            go_big_quiet_op
            go_big_quiet_on
            refine wpQuiet_nil ?_
            intro W hW
            go_wp2_with fail
            go_roundw
            case rel => exact ⟨j + 1, e0, by go_num, by have := HJ.out; omega, rfl, HF2, hW⟩
            case measure => simp [intOf]; omega
        · have hf1 : f = dg01 c := hf.out.2.2.1 hj2
          have q0 : (j : Int) < 3 := by omega
          have q1 : (0 : Int) ≤ (j : Int) := by omega
          have HJ : Hid (j = 2) := hj2
          cases f with
          | true =>
            have HF2 : Hid ((j + 1 = 0 → true = false) ∧ (j + 1 = 1 → true = (c == 48)) ∧ (j + 1 = 2 → true = dg01 c) ∧ (j + 1 = 3 → true = Tn.tri c)) := ⟨fun h => by omega, fun h => by have := HJ.out; omega, fun h => by have := HJ.out; omega, fun _ => by rw [htri, ← hf1]; rfl⟩
            clear hf hj2 hf1
            go_wp2_with fail
            refine quiet_lit3 (C := fun W => Below w.heap.size w W) (by kernel_rfl) (by kernel_rfl) (show Below _ _ _ from hB.drew) ?_
            go_big_quiet_want
            go_big_quiet_op
            go_big_quiet_on
            go_big_quiet_want
            go_big_quiet_op
            go_big_quiet_on
            go_big_quiet_skip
            go_big_quiet_skip
            go_big_quiet_skip
            go_big_quiet_skip
            go_big_quiet_skip
            go_big_quiet_skip
            go_big_quiet_skip
            go_big_quiet_want
            refine ⟨.bool true, fun W hW => ?_, ?_⟩
            · go_simp
            go_big_quiet_on
            simp only [Act.put, List.setIfInBounds_toArray, List.set_cons_zero, List.set_cons_succ]
            go_big_quiet_want
            go_big_quiet_op
            go_big_quiet_on
            refine wpQuiet_nil ?_
            intro W hW
            go_wp2_with fail
            go_roundw
            case rel => exact ⟨j + 1, true, by go_num, by have := HJ.out; omega, rfl, HF2, hW⟩
            case measure => simp [intOf]; omega
          | false =>
            obtain ⟨e0, he0⟩ : ∃ e, (c == 120) = e := ⟨_, rfl⟩
            have HE : Hid ((((c.toNat : Int)) == 120) = e0) := by
              unfold Hid
              rw [← he0, Bool.eq_iff_iff, beq_iff_eq, beq_iff_eq]
              exact ⟨fun h => UInt8.toNat_inj.1 (by show c.toNat = 120; omega), fun h => by rw [h]; rfl⟩
            have HF2 : Hid ((j + 1 = 0 → e0 = false) ∧ (j + 1 = 1 → e0 = (c == 48)) ∧ (j + 1 = 2 → e0 = dg01 c) ∧ (j + 1 = 3 → e0 = Tn.tri c)) := ⟨fun h => by omega, fun h => by have := HJ.out; omega, fun h => by have := HJ.out; omega, fun _ => by rw [htri, ← hf1, he0]; rfl⟩
            clear hf hj2 hf1 he0
            go_wp2_with fail
            refine quiet_lit3 (C := fun W => Below w.heap.size w W) (by kernel_rfl) (by kernel_rfl) (show Below _ _ _ from hB.drew) ?_
            go_big_quiet_want
            go_big_quiet_op
            go_big_quiet_on
            go_big_quiet_want
            go_big_quiet_op
            go_big_quiet_on
            go_big_quiet_want
            go_big_quiet_op
            go_big_quiet_on
            go_big_quiet_want
            go_big_quiet_op
            go_big_quiet_on
            go_big_quiet_want
            refine ⟨.int .u8 (c.toNat : Int), fun W hW => ?_, ?_⟩
            · go_simp
            go_big_quiet_on
            simp only [Act.put, List.setIfInBounds_toArray, List.set_cons_zero, List.set_cons_succ]
            go_big_quiet_want
            go_big_quiet_op
            go_big_quiet_on
            go_big_quiet_want
            go_big_quiet_op
            go_big_quiet_on
            go_big_quiet_want
            refine ⟨.int .u8 120, fun W hW => ?_, ?_⟩
            · have hj0 := HJ.out
              subst hj0
              go_simp
              rfl
            go_big_quiet_on
            simp only [Act.put, List.setIfInBounds_toArray, List.set_cons_zero, List.set_cons_succ]
            go_big_quiet_want
            refine ⟨.bool e0, fun W hW => ?_, ?_⟩
            · go_simp
              exact HE.out
            go_big_quiet_on
            simp only [Act.put, List.setIfInBounds_toArray, List.set_cons_zero, List.set_cons_succ]
            go_big_quiet_want
            refine ⟨.bool e0, fun W hW => ?_, ?_⟩
            · go_simp
            go_big_quiet_on
            simp only [Act.put, List.setIfInBounds_toArray, List.set_cons_zero, List.set_cons_succ]
            go_big_quiet_want
            go_big_quiet_op
            go_big_quiet_on
            refine wpQuiet_nil ?_
            intro W hW
            go_wp2_with fail
            go_roundw
            case rel => exact ⟨j + 1, e0, by go_num, by have := HJ.out; omega, rfl, HF2, hW⟩
            case measure => simp [intOf]; omega
        · have hf2 : f = Tn.tri c := hf.out.2.2.2 hj3
          have q0 : ¬ (j : Int) < 3 := by omega
          clear hf hj3
          cases f with
          | true =>
            have HN2 : Hid (∀ (j : Nat) (d : UInt8), j < k + 1 → s[j]? = some d → Tn.tri d = true) := HNX.out hf2.symm
            clear HNX HNK hf2
            go_wp2_with fail
            go_roundw
            case rel => exact ⟨k + 1, by go_num, by omega, HN2, hB⟩
            case measure => simp [intOf]; omega
          | false =>
            obtain rfl : q = false := HNK.out hf2.symm
            clear HNX HNK hf2
            go_wp2_with fail
            go_ret
            exact ⟨rfl, hB⟩
    · have j1 : ¬ (k : Int) < (s.length : Int) := by omega
      obtain rfl : q = true := HYES.out (fun j d hd => hno.out j d (by have := (List.getElem?_eq_some_iff.1 hd).1; omega) hd)
      go_wp2_with fail
      go_ret
      exact ⟨rfl, hB⟩
set_option maxRecDepth 100000 in
set_option maxHeartbeats 600000 in
theorem refDecimal_any (n : Nat) : ∀ (w : World), n < 4294967296 →
    Calls Tryz.prog 50 #[.int .i64 (n : Int)] w fun e w' => e = .returned (.string ⟨(Lib.decDigits n).toArray⟩) ∧ Below w.heap.size w w' := by
  induction n using Nat.strongRecOn with
  | ind n ih =>
  intro w hn
  obtain ⟨d, hd⟩ : ∃ d, n % 10 = d := ⟨_, rfl⟩
  have hd10 : d < 10 := by omega
  obtain ⟨z, hz⟩ : ∃ z, UInt8.ofNat (48 + d) = z := ⟨_, rfl⟩
  have hb : ((z.toNat : Nat) : Int) = 48 + (d : Int) := by
    rw [← hz, UInt8.toNat_ofNat']
    omega
  have hcv := conv_own [z] (B := w.heap.size) (W := w.alloc (.cells #[.int .u8 ((z.toNat : Nat) : Int)] 5)) (World.ownsRow_lit w #[.int .u8 ((z.toNat : Nat) : Int)] 1 (Nat.le_refl _) (by decide) rfl)
  rw [hb] at hcv
  have r1 : (n : Int).tmod 10 = (d : Int) := by rw [Int.tmod_eq_emod_of_nonneg (by omega)]; omega
  have r2 : IntKind.u8.wrap (48 + (d : Int)) = 48 + (d : Int) := by rw [IntKind.wrap_u8]; omega
  by_cases h : n < 10
  · have i1 : (n : Int) < 10 := by omega
    have e : Lib.decDigits n = [z] := by rw [Lib.decDigits, dif_pos h, ← hz, ← hd, Nat.mod_eq_of_lt h]
    rw [e]
    clear ih hb hd hz
    go_enter Tryz.func50, Tryz.ntmps50
    go_wp2
    go_ret
    exact ⟨rfl, (Below.refl _ _).alloc (Nat.le_refl _) _⟩
  · have i1 : ¬ (n : Int) < 10 := by omega
    have e : Lib.decDigits n = Lib.decDigits (n / 10) ++ [z] := by rw [Lib.decDigits, dif_neg h, hd, hz]
    rw [e]
    obtain ⟨m, hm⟩ : ∃ m, n / 10 = m := ⟨_, rfl⟩
    rw [hm]
    have r3 : (n : Int).tdiv 10 = (m : Int) := by rw [Int.tdiv_eq_ediv_of_nonneg (by omega)]; omega
    have r4 : (n : Int) / 10 = (m : Int) := by omega
    have hml := dec_10 m (by omega)
    have hc := fun W => ih m (by omega) W (by omega)
    obtain ⟨A, hA⟩ : ∃ A, Lib.decDigits m = A := ⟨_, rfl⟩
    rw [hA] at hml ⊢
    simp only [hA] at hc
    have HC : Hid (∀ W, Calls Tryz.prog 50 #[.int .i64 (m : Int)] W fun e w' => e = .returned (.string ⟨A.toArray⟩) ∧ Below W.heap.size W w') := hc
    have HE : Hid (ByteArray.mk A.toArray ++ ByteArray.mk #[z] = ⟨(A ++ [z]).toArray⟩) := ByteArray.ext (by simp)
    clear ih hb hd hm e hc hA hz
    go_enter Tryz.func50, Tryz.ntmps50
    go_wp2_with fail
    refine (HC.out _).mono ?_
    rintro e W1 ⟨rfl, hb1⟩
    go_wp2_with fail
    go_ret
    exact ⟨congrArg (fun z => Ending.returned (.string z)) HE.out, bel0 ((Below.refl _ _).alloc (Nat.le_refl _) _) hb1⟩
end Go.Proofs.YtepokgainceidaaGreatDoor

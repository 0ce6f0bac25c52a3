import Derived.Test.YtggifkdgkjmljaaGreatDoorZ34
import Derived.Test.YtggifkdgkjmljaaGreatDoorZ7
import Derived.Test.YtggifkdgkjmljaaGreatDoorZ5
import Derived.Deep.RegionWith
namespace Go.Proofs.YtggifkdgkjmljaaGreatDoor
open Go.RowKit
set_option maxRecDepth 100000 in
set_option maxHeartbeats 2000000 in
theorem refInside_at (l : List UInt8) (i : Nat) (w : World) (hi : i < l.length) (hs : l.length ≤ 281474976710656) (HE0 : escC l) :
    Calls Tryz.prog 30 #[.string ⟨l.toArray⟩, .int .i64 (i : Int)] w fun e w' => e = .returned (.tuple #[.string ⟨(insS l (i + 1) []).1.toArray⟩, .int .i64 ((insS l (i + 1) []).2.1 : Int), .int .i64 ((insS l (i + 1) []).2.2 : Int)]) ∧ Below w.heap.size w w' := by
  have HE : Hid (escC l) := HE0
  clear HE0
  have hi2 : (i : Int) < 281474976710656 := by omega
  go_enter Tryz.func30, Tryz.ntmps30
  go_wp2_with fail
  have HI0 : Hid (i < l.length) := hi
  clear hi hi2
  go_loopw [7, 8] (fun vs vj wr => ∃ (said : List UInt8) (j : Nat), vs = .string ⟨said.toArray⟩ ∧ vj = .int .i64 j ∧ said.length ≤ j ∧ 1 ≤ j ∧ j ≤ 281474976710657 ∧ insS l j said = insS l (i + 1) [] ∧ Below w.heap.size w wr) (fun _ vj _ => l.length - (intOf vj).toNat)
  case atStart => exact ⟨[], i + 1, rfl, by go_num, by simp, by omega, by have := HI0.out; omega, rfl, Below.refl _ _⟩
  case round =>
    obtain ⟨said, j, rfl, rfl, hsj, hj1, hj2, hins, hB⟩ := hrel
    by_cases hlt : j < l.length
    · have j0 : (0 : Int) ≤ (j : Int) := by omega
      have j1 : (j : Int) < (l.length : Int) := by omega
      have j3 : ¬ (l.length : Int) ≤ (j : Int) := by omega
      obtain ⟨c, hc, hlc⟩ := byte_get l j hlt
      have hb := bt_of hlc
      rw [insS, if_pos hlt] at hins
      by_cases g34 : c = 34
      · rw [if_pos (by rw [hb, g34]; rfl)] at hins
        have HR : Hid (insS l (i + 1) [] = (said, j + 1, 0)) := hins.symm
        subst g34
        clear hins hb
        go_wp2_with fail
        refine bodyPost_ret (results_three _ _ _ _ _ ⟨rfl, rfl, rfl⟩) rfl ?_
        exact ⟨by rw [HR.out]; rfl, hB⟩
      · have b34 : ¬ bt l j = 34 := fun e => g34 (UInt8.toNat_inj.1 (by rw [← hb, e]; rfl))
        have n34 : ((c.toNat : Int) == 34) = false := u8_ne (d := 34) g34
        have m34 : ((c.toNat : Int) != 34) = true := by rw [bne, n34]; rfl
        rw [if_neg b34] at hins
        by_cases g92 : c = 92
        · rw [if_pos (by rw [hb, g92]; rfl)] at hins
          have HC := HE.out j wr hlt
          subst g92
          by_cases hz : (escS l j).1 = 0
          · rw [if_pos hz] at hins
            have HR : Hid (insS l (i + 1) [] = ([], j, 34)) := hins.symm
            rw [hz] at HC
            clear hins hb
            go_wp2_with fail
            refine HC.mono ?_
            rintro e w2 ⟨rfl, hb2⟩
            go_wp2_with fail
            refine bodyPost_ret (results_three _ _ _ _ _ ⟨rfl, rfl, rfl⟩) rfl ?_
            exact ⟨by rw [HR.out]; rfl, bel0 hB hb2⟩
          · rw [if_neg hz] at hins
            obtain ⟨hq1, hq2⟩ := escS_end l j (by omega)
            obtain ⟨k, hk⟩ : ∃ k, (escS l j).1 = k := ⟨_, rfl⟩
            obtain ⟨b, hbb⟩ : ∃ b, (escS l j).2 = b := ⟨_, rfl⟩
            rw [hk, hbb] at HC hins hq2
            rw [hk] at hz hq1
            have kz : ((k : Int) == 0) = false := by rw [beq_eq_false_iff_ne]; omega
            have HI : Hid (insS l (j + k) (said ++ b) = insS l (i + 1) []) := hins
            clear hins hb hk hbb
            go_wp2_with fail
            refine HC.mono ?_
            rintro e w2 ⟨rfl, hb2⟩
            have hcat := cat_bytes said b
            go_wp2_with fail
            go_roundw
            case rel => exact ⟨said ++ b, j + k, by rw [← hcat], by go_num, by simp; omega, by omega, by omega, HI.out, bel0 hB hb2⟩
            case measure => simp [intOf]; omega
        · have b92 : ¬ bt l j = 92 := fun e => g92 (UInt8.toNat_inj.1 (by rw [← hb, e]; rfl))
          have n92 : ((c.toNat : Int) == 92) = false := u8_ne (d := 92) g92
          rw [if_neg b92] at hins
          have HC := refSize_any l j wr hlt hs
          by_cases hbad : lo1 l j = true ∨ bt l j < 32 ∨ bt l j = 127
          · rw [if_pos hbad] at hins
            have HR : Hid (insS l (i + 1) [] = ([], j, 33)) := hins.symm
            rw [hb] at hbad
            clear hins hb
            obtain ⟨k, hk⟩ : ∃ k, (dc l j).2 = k := ⟨_, rfl⟩
            obtain ⟨lo, hlo⟩ : ∃ lo, lo1 l j = lo := ⟨_, rfl⟩
            rw [hk, hlo] at HC
            rw [hlo] at hbad
            clear hk hlo
            cases lo with
            | true =>
              clear hbad
              go_wp2_with fail
              refine HC.mono ?_
              rintro e w2 ⟨rfl, rfl⟩
              go_wp2_with fail
              refine bodyPost_ret (results_three _ _ _ _ _ ⟨rfl, rfl, rfl⟩) rfl ?_
              exact ⟨by rw [HR.out]; rfl, hB⟩
            | false =>
              by_cases c32 : c.toNat < 32
              · have d32 : (c.toNat : Int) < 32 := by omega
                clear hbad
                go_wp2_with fail
                refine HC.mono ?_
                rintro e w2 ⟨rfl, rfl⟩
                go_wp2_with fail
                refine bodyPost_ret (results_three _ _ _ _ _ ⟨rfl, rfl, rfl⟩) rfl ?_
                exact ⟨by rw [HR.out]; rfl, hB⟩
              · have d32 : ¬ (c.toNat : Int) < 32 := by omega
                obtain rfl : c = 127 := by
                  rcases hbad with h | h | h
                  · cases h
                  · exact absurd h c32
                  · exact UInt8.toNat_inj.1 h
                clear hbad
                go_wp2_with fail
                refine HC.mono ?_
                rintro e w2 ⟨rfl, rfl⟩
                go_wp2_with fail
                refine bodyPost_ret (results_three _ _ _ _ _ ⟨rfl, rfl, rfl⟩) rfl ?_
                exact ⟨by rw [HR.out]; rfl, hB⟩
          · rw [if_neg hbad] at hins
            have hlo : lo1 l j = false := Bool.eq_false_iff.2 (fun h => hbad (.inl h))
            rw [hlo] at HC
            rw [hb] at hbad
            have c32 : ¬ (c.toNat : Int) < 32 := by omega
            have c127 : ((c.toNat : Int) == 127) = false := by rw [beq_eq_false_iff_ne]; omega
            have hp := dc_pos l j
            have hle := dc_le l j hlt
            obtain ⟨k, hk⟩ : ∃ k, (dc l j).2 = k := ⟨_, rfl⟩
            rw [hk] at HC hins hp hle
            have HI : Hid (insS l (j + k) (said ++ (l.drop j).take k) = insS l (i + 1) []) := hins
            have hE := fun W => slice_str l j k hle W
            have hcat := cat_bytes said ((l.drop j).take k)
            have hlen : ((l.drop j).take k).length = k := by simp; omega
            obtain ⟨T, hT⟩ : ∃ T, (l.drop j).take k = T := ⟨_, rfl⟩
            rw [hT] at HI hE hcat hlen
            clear hins hb hk hbad hT hlo
            go_wp2_with fail
            refine HC.mono ?_
            rintro e w2 ⟨rfl, rfl⟩
            go_wp2_with fail
            go_roundw
            case rel => exact ⟨said ++ T, j + k, by rw [← hcat], by go_num, by simp; omega, by omega, by omega, HI.out, hB⟩
            case measure => simp [intOf]; omega
    · have j1 : ¬ (j : Int) < (l.length : Int) := by omega
      have j3 : (l.length : Int) ≤ (j : Int) := by omega
      rw [insS, if_neg hlt] at hins
      have HR : Hid (insS l (i + 1) [] = ([], l.length, 32)) := hins.symm
      clear hins
      go_wp2_with fail
      refine bodyPost_ret (results_three _ _ _ _ _ ⟨rfl, rfl, rfl⟩) rfl ?_
      exact ⟨by rw [HR.out]; rfl, hB⟩
end Go.Proofs.YtggifkdgkjmljaaGreatDoor
namespace Go.Proofs.YtggifkdgkjmljaaGreatDoor
open Go.RowKit
set_option maxRecDepth 100000 in
set_option maxHeartbeats 4000000 in
theorem refEscape_any (l : List UInt8) (i : Nat) (w : World) (hs : l.length ≤ 281474976710656) (hi : i < l.length) :
    Calls Tryz.prog 42 #[.string ⟨l.toArray⟩, .int .i64 (i : Int)] w fun e w' => e = .returned (.tuple #[.int .i64 ((escS l i).1 : Int), .string ⟨(escS l i).2.toArray⟩]) ∧ Below w.heap.size w w' := by
  by_cases h1 : l.length ≤ i + 1
  · have hr : Hid (escS l i = (0, [])) := if_pos h1
    have i1 : (l.length : Int) ≤ (i : Int) + 1 := by omega
    go_enter Tryz.func42, Tryz.ntmps42
    go_wp2_with fail
    go_ret2
    exact ⟨by rw [hr.out]; rfl, Below.refl _ _⟩
  · have i1 : ¬ (l.length : Int) ≤ (i : Int) + 1 := by omega
    have i2 : (i : Int) + 1 < (l.length : Int) := by omega
    obtain ⟨c, hc, hlc⟩ := byte_get l (i + 1) (by omega)
    have hb := bt_of hlc
    have hne : ∀ k : UInt8, c ≠ k → ((c.toNat : Int) == (k.toNat : Int)) = false := fun k h => u8_ne h
    have hnb : ∀ k : UInt8, c ≠ k → bt l (i + 1) ≠ k.toNat := fun k h e => h (UInt8.toNat_inj.1 (by rw [← hb]; exact e))
    by_cases g34 : c = 34
    · have hr : Hid (escS l i = (2, [34])) := by unfold Hid escS; rw [if_neg h1, if_pos (by rw [hb, g34]; rfl)]
      subst g34
      clear hne hnb hb
      go_enter Tryz.func42, Tryz.ntmps42
      go_wp2_with fail
      go_ret2
      exact ⟨by rw [hr.out]; rfl, Below.refl _ _⟩
    have n34 := g34
    have m34 : ((c.toNat : Int) == 34) = false := hne 34 n34
    clear g34
    by_cases g92 : c = 92
    · have hr : Hid (escS l i = (2, [92])) := by unfold Hid escS; rw [if_neg h1, if_neg (show ¬ bt l (i + 1) = 34 from hnb 34 n34), if_pos (by rw [hb, g92]; rfl)]
      subst g92
      clear hne hnb hb
      go_enter Tryz.func42, Tryz.ntmps42
      go_wp2_with fail
      go_ret2
      exact ⟨by rw [hr.out]; rfl, Below.refl _ _⟩
    have n92 := g92
    have m92 : ((c.toNat : Int) == 92) = false := hne 92 n92
    clear g92
    by_cases g110 : c = 110
    · have hr : Hid (escS l i = (2, [10])) := by unfold Hid escS; rw [if_neg h1, if_neg (show ¬ bt l (i + 1) = 34 from hnb 34 n34), if_neg (show ¬ bt l (i + 1) = 92 from hnb 92 n92), if_pos (by rw [hb, g110]; rfl)]
      subst g110
      clear hne hnb hb
      go_enter Tryz.func42, Tryz.ntmps42
      go_wp2_with fail
      go_ret2
      exact ⟨by rw [hr.out]; rfl, Below.refl _ _⟩
    have n110 := g110
    have m110 : ((c.toNat : Int) == 110) = false := hne 110 n110
    clear g110
    by_cases g114 : c = 114
    · have hr : Hid (escS l i = (2, [13])) := by unfold Hid escS; rw [if_neg h1, if_neg (show ¬ bt l (i + 1) = 34 from hnb 34 n34), if_neg (show ¬ bt l (i + 1) = 92 from hnb 92 n92), if_neg (show ¬ bt l (i + 1) = 110 from hnb 110 n110), if_pos (by rw [hb, g114]; rfl)]
      subst g114
      clear hne hnb hb
      go_enter Tryz.func42, Tryz.ntmps42
      go_wp2_with fail
      go_ret2
      exact ⟨by rw [hr.out]; rfl, Below.refl _ _⟩
    have n114 := g114
    have m114 : ((c.toNat : Int) == 114) = false := hne 114 n114
    clear g114
    by_cases g116 : c = 116
    · have hr : Hid (escS l i = (2, [9])) := by unfold Hid escS; rw [if_neg h1, if_neg (show ¬ bt l (i + 1) = 34 from hnb 34 n34), if_neg (show ¬ bt l (i + 1) = 92 from hnb 92 n92), if_neg (show ¬ bt l (i + 1) = 110 from hnb 110 n110), if_neg (show ¬ bt l (i + 1) = 114 from hnb 114 n114), if_pos (by rw [hb, g116]; rfl)]
      subst g116
      clear hne hnb hb
      go_enter Tryz.func42, Tryz.ntmps42
      go_wp2_with fail
      go_ret2
      exact ⟨by rw [hr.out]; rfl, Below.refl _ _⟩
    have n116 := g116
    have m116 : ((c.toNat : Int) == 116) = false := hne 116 n116
    clear g116
    by_cases g120 : c = 120
    · have hE : escS l i = (if i + 3 < l.length then match hexD (l.getD (i + 2) 0), hexD (l.getD (i + 3) 0) with
        | some a, some b => (4, [UInt8.ofNat (16 * a + b)])
        | _, _ => (0, []) else (0, [])) := by unfold escS; rw [if_neg h1, if_neg (show ¬ bt l (i + 1) = 34 from hnb 34 n34), if_neg (show ¬ bt l (i + 1) = 92 from hnb 92 n92), if_neg (show ¬ bt l (i + 1) = 110 from hnb 110 n110), if_neg (show ¬ bt l (i + 1) = 114 from hnb 114 n114), if_neg (show ¬ bt l (i + 1) = 116 from hnb 116 n116), if_pos (by rw [hb, g120]; rfl)]; rfl
      subst g120
      clear hne hnb hb m34 m92 m110 m114 m116 n34 n92 n110 n114 n116
      by_cases h3 : i + 3 < l.length
      · have i3 : (i : Int) + 3 < (l.length : Int) := by omega
        have i4 : (i : Int) + 2 < (l.length : Int) := by omega
        obtain ⟨p, hp, hlp⟩ := byte_get l (i + 2) (by omega)
        obtain ⟨q, hq, hlq⟩ := byte_get l (i + 3) h3
        rw [if_pos h3, getD_of hlp, getD_of hlq] at hE
        have HP := fun W => refHex_any p W
        have HQ := fun W => refHex_any q W
        cases dp : hexD p with
        | none =>
          rw [dp] at hE HP
          simp only [optI] at HP
          have hr : Hid (escS l i = (0, [])) := hE
          clear hE dp
          go_enter Tryz.func42, Tryz.ntmps42
          go_wp2_with fail
          refine (HP _).mono ?_
          rintro e w2 ⟨rfl, rfl⟩
          go_wp2_with fail
          go_ret2
          exact ⟨by rw [hr.out]; rfl, Below.refl _ _⟩
        | some a =>
          have ha := hexD_lt dp
          have ja : (0 : Int) ≤ (a : Int) := by omega
          cases dq : hexD q with
          | none =>
            rw [dp, dq] at hE
            rw [dp] at HP
            rw [dq] at HQ
            simp only [optI] at HP HQ
            have hr : Hid (escS l i = (0, [])) := hE
            clear hE dp dq
            go_enter Tryz.func42, Tryz.ntmps42
            go_wp2_with fail
            refine (HP _).mono ?_
            rintro e w2 ⟨rfl, rfl⟩
            go_wp2_with fail
            refine (HQ _).mono ?_
            rintro e w2 ⟨rfl, rfl⟩
            go_wp2_with fail
            go_ret2
            exact ⟨by rw [hr.out]; rfl, Below.refl _ _⟩
          | some b =>
            have hbb := hexD_lt dq
            have jb : (0 : Int) ≤ (b : Int) := by omega
            rw [dp, dq] at hE
            rw [dp] at HP
            rw [dq] at HQ
            simp only [optI] at HP HQ
            have hr : Hid (escS l i = (4, [UInt8.ofNat (16 * a + b)])) := hE
            have cvd : Sem.run Tryz.prog (convert 34 9 (.slice (some ⟨w.heap.size, 0, none⟩) 1 1)) (w.alloc (.cells #[.int .u8 (16 * (a : Int) + (b : Int))] 5)).drew = .ok (.string ⟨#[UInt8.ofNat (16 * a + b)]⟩) (w.alloc (.cells #[.int .u8 (16 * (a : Int) + (b : Int))] 5)).drew := conv_new w [UInt8.ofNat (16 * a + b)] 1 _ (fun j hj => by
              show (w.alloc (.cells #[.int .u8 (16 * (a : Int) + (b : Int))] 5)).cell? ⟨w.heap.size, j, none⟩ = _
              rw [cells_new]
              match j, hj with
              | 0, _ =>
                show some (Value.int .u8 (16 * (a : Int) + (b : Int))) = some (.int .u8 ((UInt8.ofNat (16 * a + b)).toNat : Int))
                exact congrArg (fun z => some (Value.int .u8 z)) (by have := ofN (16 * a + b) (by omega); omega)
              | j + 1, h => simp only [List.length_cons, List.length_nil] at h; omega)
            have hwr : IntKind.i64.wrap (16 * (a : Int)) = 16 * (a : Int) := by rw [IntKind.wrap_i64]; omega
            have hwr2 : IntKind.i64.wrap (16 * (a : Int) + (b : Int)) = 16 * (a : Int) + (b : Int) := by rw [IntKind.wrap_i64]; omega
            have hwr3 : IntKind.u8.wrap (16 * (a : Int) + (b : Int)) = 16 * (a : Int) + (b : Int) := by rw [IntKind.wrap_u8]; omega
            have HP2 : Hid (∀ W, Calls Tryz.prog 39 #[.int .u8 (p.toNat : Int)] W fun e w' => e = .returned (.int .i64 (a : Int)) ∧ W = w') := fun W => (HP W).mono (fun e w' h => ⟨h.1, h.2.symm⟩)
            have HQ2 : Hid (∀ W, Calls Tryz.prog 39 #[.int .u8 (q.toNat : Int)] W fun e w' => e = .returned (.int .i64 (b : Int)) ∧ W = w') := fun W => (HQ W).mono (fun e w' h => ⟨h.1, h.2.symm⟩)
            have hwi2 : IntKind.i64.wrap ((i : Int) + 2) = (i : Int) + 2 := by rw [IntKind.wrap_i64]; omega
            have hwi3 : IntKind.i64.wrap ((i : Int) + 3) = (i : Int) + 3 := by rw [IntKind.wrap_i64]; omega
            have ix2 := fun W => idx_str l (i + 2) p hlp ((i : Int) + 2) (by omega) W
            have ix3 := fun W => idx_str l (i + 3) q hlq ((i : Int) + 3) (by omega) W
            clear hE dp dq HP HQ
            go_enter Tryz.func42, Tryz.ntmps42
            go_wp2_with fail
            refine (HP2.out _).mono ?_
            rintro e w2 ⟨rfl, rfl⟩
            go_wp2_with fail
            refine (HQ2.out _).mono ?_
            rintro e w2 ⟨rfl, rfl⟩
            go_wp2_with fail
            obtain ⟨SV, hSV⟩ : ∃ SV, Value.string ⟨l.toArray⟩ = SV := ⟨_, rfl⟩
            rw [hSV] at ix2 ix3 ⊢
            obtain ⟨xp, hxp⟩ : ∃ x : Int, (p.toNat : Int) = x := ⟨_, rfl⟩
            obtain ⟨xq, hxq⟩ : ∃ x : Int, (q.toNat : Int) = x := ⟨_, rfl⟩
            rw [hxp] at HP2 ix2 ⊢
            rw [hxq] at HQ2 ix3 ⊢
            clear hSV hxp hxq hp hq hlp hlq hc hlc
            go_region_with (go_at_call 39; (first | with_reducible refine (HP2.out _).mono ?_ | with_reducible refine (HQ2.out _).mono ?_); rintro e w3 ⟨rfl, rfl⟩)
            all_goals
              go_wp2_with fail
              go_ret2
              exact ⟨by rw [hr.out]; first | rfl | (simp [Act.put]; done) | (simp only [Act.put]; rfl), by first | exact ((Below.refl _ _).alloc (Nat.le_refl _) _).drew | exact (Below.refl _ _).alloc (Nat.le_refl _) _⟩
      · have i3 : ¬ (i : Int) + 3 < (l.length : Int) := by omega
        rw [if_neg h3] at hE
        have hr : Hid (escS l i = (0, [])) := hE
        clear hE
        go_enter Tryz.func42, Tryz.ntmps42
        go_wp2_with fail
        go_ret2
        exact ⟨by rw [hr.out]; rfl, Below.refl _ _⟩
    have n120 := g120
    have m120 : ((c.toNat : Int) == 120) = false := hne 120 n120
    clear g120
    by_cases g117 : c = 117
    · have hE : escS l i = (if 0 < (brS l i).1 then ((brS l i).1, utfL (brS l i).2) else (0, [])) := by unfold escS; rw [if_neg h1, if_neg (show ¬ bt l (i + 1) = 34 from hnb 34 n34), if_neg (show ¬ bt l (i + 1) = 92 from hnb 92 n92), if_neg (show ¬ bt l (i + 1) = 110 from hnb 110 n110), if_neg (show ¬ bt l (i + 1) = 114 from hnb 114 n114), if_neg (show ¬ bt l (i + 1) = 116 from hnb 116 n116), if_neg (show ¬ bt l (i + 1) = 120 from hnb 120 n120), if_pos (by rw [hb, g117]; rfl)]
      subst g117
      have HB := refBraced_any l i w hs hi
      have hle := brS_le l i
      clear hne hnb hb m34 m92 m110 m114 m116 m120 n34 n92 n110 n114 n116 n120
      obtain ⟨K, hK⟩ : ∃ K, (brS l i).1 = K := ⟨_, rfl⟩
      obtain ⟨N, hN⟩ : ∃ N, (brS l i).2 = N := ⟨_, rfl⟩
      rw [hK, hN] at hE HB hle
      clear hK hN
      by_cases h0 : 0 < K
      · have k0 : (0 : Int) < (K : Int) := by omega
        rw [if_pos h0] at hE
        have HU := fun W => refUtf_any N W (hle h0)
        have hr : Hid (escS l i = (K, utfL N)) := hE
        clear hE hle
        go_enter Tryz.func42, Tryz.ntmps42
        go_wp2_with fail
        refine HB.mono ?_
        rintro e w2 ⟨rfl, hb2⟩
        go_wp2_with fail
        refine (HU _).mono ?_
        rintro e w3 ⟨rfl, hb3⟩
        go_wp2_with fail
        go_ret2
        exact ⟨by rw [hr.out]; rfl, bel0 hb2 hb3⟩
      · have k0 : ¬ (0 : Int) < (K : Int) := by omega
        rw [if_neg h0] at hE
        have hr : Hid (escS l i = (0, [])) := hE
        clear hE hle
        go_enter Tryz.func42, Tryz.ntmps42
        go_wp2_with fail
        refine HB.mono ?_
        rintro e w2 ⟨rfl, hb2⟩
        go_wp2_with fail
        go_ret2
        exact ⟨by rw [hr.out]; rfl, hb2⟩
    have m117 : ((c.toNat : Int) == 117) = false := hne 117 g117
    have hr : Hid (escS l i = (0, [])) := by unfold Hid escS; rw [if_neg h1, if_neg (show ¬ bt l (i + 1) = 34 from hnb 34 n34), if_neg (show ¬ bt l (i + 1) = 92 from hnb 92 n92), if_neg (show ¬ bt l (i + 1) = 110 from hnb 110 n110), if_neg (show ¬ bt l (i + 1) = 114 from hnb 114 n114), if_neg (show ¬ bt l (i + 1) = 116 from hnb 116 n116), if_neg (show ¬ bt l (i + 1) = 120 from hnb 120 n120), if_neg (show ¬ bt l (i + 1) = 117 from hnb 117 g117)]
    clear hne hnb hb
    go_enter Tryz.func42, Tryz.ntmps42
    go_wp2_with fail
    go_ret2
    exact ⟨by rw [hr.out]; rfl, Below.refl _ _⟩
end Go.Proofs.YtggifkdgkjmljaaGreatDoor
namespace Go.Proofs.YtggifkdgkjmljaaGreatDoor
open Go.RowKit Go.Shelf
theorem results_rt (tmps : Array Value) (W : World) (a b c : Value) (h : tmps.getD 4 undef = a ∧ tmps.getD 5 undef = b ∧ tmps.getD 6 undef = c) : (results Tryz.f19 tmps).run Tryz.prog W = .ok (.tuple #[a, b, c]) W := by
  obtain ⟨h1, h2, h3⟩ := h
  have h1' : tmps[4]?.getD undef = a := by simpa using h1
  have h2' : tmps[5]?.getD undef = b := by simpa using h2
  have h3' : tmps[6]?.getD undef = c := by simpa using h3
  simp [results, h1', h2', h3', go_sem]
set_option maxRecDepth 100000 in
set_option maxHeartbeats 1000000 in
theorem tk_A (l : List UInt8) (i : Nat) (c : UInt8) (w : World) (hi : (i : Int) < (l.length : Int)) (hs : l.length ≤ 281474976710656) (hc : ∀ h', (ByteArray.mk l.toArray)[i]'h' = c) (j : Nat) (_hij : i < j) (_hjl : j ≤ l.length) (HL : Hid (∀ W : World, Calls Tryz.prog 24 #[.int .u8 (c.toNat : Int)] W fun e w' => e = .returned (.bool true) ∧ w' = W)) (HR : Hid (∀ W : World, Calls Tryz.prog 25 #[.string ⟨l.toArray⟩, .int .i64 (i : Int)] W fun e w' => e = .returned (.int .i64 (j : Int)) ∧ w' = W)) (h24 : (24 : Int) < (j : Int) - (i : Int)) :
    Calls Tryz.prog 19 #[.string ⟨l.toArray⟩, .int .i64 (i : Int)] w fun e w' => e = .returned (.tuple #[.int .i64 0, .int .i64 (i : Int), .int .i64 36]) ∧ Below w.heap.size w w' := by
  go_enter Tryz.func19, Tryz.ntmps19
  go_wp2_with fail
  refine (HL.out _).mono ?_
  rintro e w ⟨rfl, rfl⟩
  go_wp2_with fail
  refine (HR.out _).mono ?_
  rintro e w ⟨rfl, rfl⟩
  go_wp2_with fail
  refine bodyPost_ret (results_rt _ _ _ _ _ ⟨rfl, rfl, rfl⟩) rfl ?_
  exact ⟨rfl, Below.refl _ _⟩
set_option maxRecDepth 100000 in
set_option maxHeartbeats 1000000 in
theorem tk_B1 (l : List UInt8) (i : Nat) (c : UInt8) (w : World) (hi : (i : Int) < (l.length : Int)) (hs : l.length ≤ 281474976710656) (hc : ∀ h', (ByteArray.mk l.toArray)[i]'h' = c) (j : Nat) (_hij : i < j) (_hjl : j ≤ l.length) (HL : Hid (∀ W : World, Calls Tryz.prog 24 #[.int .u8 (c.toNat : Int)] W fun e w' => e = .returned (.bool true) ∧ w' = W)) (HR : Hid (∀ W : World, Calls Tryz.prog 25 #[.string ⟨l.toArray⟩, .int .i64 (i : Int)] W fun e w' => e = .returned (.int .i64 (j : Int)) ∧ w' = W)) (h24 : ¬ (24 : Int) < (j : Int) - (i : Int)) (he : (l.length : Int) ≤ (j : Int) + 1) :
    Calls Tryz.prog 19 #[.string ⟨l.toArray⟩, .int .i64 (i : Int)] w fun e w' => e = .returned (.tuple #[.int .i64 2, .int .i64 (j : Int), .int .i64 0]) ∧ Below w.heap.size w w' := by
  go_enter Tryz.func19, Tryz.ntmps19
  go_wp2_with fail
  refine (HL.out _).mono ?_
  rintro e w ⟨rfl, rfl⟩
  go_wp2_with fail
  refine (HR.out _).mono ?_
  rintro e w ⟨rfl, rfl⟩
  go_wp2_with fail
  refine bodyPost_ret (results_rt _ _ _ _ _ ⟨rfl, rfl, rfl⟩) rfl ?_
  exact ⟨rfl, Below.refl _ _⟩
set_option maxRecDepth 100000 in
set_option maxHeartbeats 1000000 in
theorem tk_B2 (l : List UInt8) (i : Nat) (c : UInt8) (w : World) (hi : (i : Int) < (l.length : Int)) (hs : l.length ≤ 281474976710656) (hc : ∀ h', (ByteArray.mk l.toArray)[i]'h' = c) (j : Nat) (_hij : i < j) (_hjl : j ≤ l.length) (HL : Hid (∀ W : World, Calls Tryz.prog 24 #[.int .u8 (c.toNat : Int)] W fun e w' => e = .returned (.bool true) ∧ w' = W)) (HR : Hid (∀ W : World, Calls Tryz.prog 25 #[.string ⟨l.toArray⟩, .int .i64 (i : Int)] W fun e w' => e = .returned (.int .i64 (j : Int)) ∧ w' = W)) (h24 : ¬ (24 : Int) < (j : Int) - (i : Int)) (he : ¬ (l.length : Int) ≤ (j : Int) + 1) (d : UInt8) (hd : ∀ h', (ByteArray.mk l.toArray)[j]'h' = d) (h46 : ((d.toNat : Int) == 46) = false) :
    Calls Tryz.prog 19 #[.string ⟨l.toArray⟩, .int .i64 (i : Int)] w fun e w' => e = .returned (.tuple #[.int .i64 2, .int .i64 (j : Int), .int .i64 0]) ∧ Below w.heap.size w w' := by
  have j1 : (j : Int) < (l.length : Int) := by omega
  have m46 : ((d.toNat : Int) != 46) = true := by rw [bne, h46]; rfl
  go_enter Tryz.func19, Tryz.ntmps19
  go_wp2_with fail
  refine (HL.out _).mono ?_
  rintro e w ⟨rfl, rfl⟩
  go_wp2_with fail
  refine (HR.out _).mono ?_
  rintro e w ⟨rfl, rfl⟩
  go_wp2_with fail
  refine bodyPost_ret (results_rt _ _ _ _ _ ⟨rfl, rfl, rfl⟩) rfl ?_
  exact ⟨rfl, Below.refl _ _⟩
set_option maxRecDepth 100000 in
set_option maxHeartbeats 1000000 in
theorem tk_B3 (l : List UInt8) (i : Nat) (c : UInt8) (w : World) (hi : (i : Int) < (l.length : Int)) (hs : l.length ≤ 281474976710656) (hc : ∀ h', (ByteArray.mk l.toArray)[i]'h' = c) (j : Nat) (_hij : i < j) (_hjl : j ≤ l.length) (HL : Hid (∀ W : World, Calls Tryz.prog 24 #[.int .u8 (c.toNat : Int)] W fun e w' => e = .returned (.bool true) ∧ w' = W)) (HR : Hid (∀ W : World, Calls Tryz.prog 25 #[.string ⟨l.toArray⟩, .int .i64 (i : Int)] W fun e w' => e = .returned (.int .i64 (j : Int)) ∧ w' = W)) (h24 : ¬ (24 : Int) < (j : Int) - (i : Int)) (e2 : UInt8) (hd : ∀ h', (ByteArray.mk l.toArray)[j]'h' = 46) (hd2 : ∀ h', (ByteArray.mk l.toArray)[j + 1]'h' = e2) (he : ¬ (l.length : Int) ≤ (j : Int) + 1) (HL2 : Hid (∀ W : World, Calls Tryz.prog 24 #[.int .u8 (e2.toNat : Int)] W fun e w' => e = .returned (.bool false) ∧ w' = W)) :
    Calls Tryz.prog 19 #[.string ⟨l.toArray⟩, .int .i64 (i : Int)] w fun e w' => e = .returned (.tuple #[.int .i64 2, .int .i64 (j : Int), .int .i64 0]) ∧ Below w.heap.size w w' := by
  have j1 : (j : Int) < (l.length : Int) := by omega
  have j2 : (j : Int) + 1 < (l.length : Int) := by omega
  have j3 : (0 : Int) ≤ (j : Int) + 1 := by omega
  go_enter Tryz.func19, Tryz.ntmps19
  go_wp2_with fail
  refine (HL.out _).mono ?_
  rintro e w ⟨rfl, rfl⟩
  go_wp2_with fail
  refine (HR.out _).mono ?_
  rintro e w ⟨rfl, rfl⟩
  go_wp2_with fail
  refine (HL2.out _).mono ?_
  rintro e w ⟨rfl, rfl⟩
  go_wp2_with fail
  refine bodyPost_ret (results_rt _ _ _ _ _ ⟨rfl, rfl, rfl⟩) rfl ?_
  exact ⟨rfl, Below.refl _ _⟩
set_option maxRecDepth 100000 in
set_option maxHeartbeats 1000000 in
theorem tk_C1 (l : List UInt8) (i : Nat) (c : UInt8) (w : World) (hi : (i : Int) < (l.length : Int)) (hs : l.length ≤ 281474976710656) (hc : ∀ h', (ByteArray.mk l.toArray)[i]'h' = c) (j : Nat) (_hij : i < j) (_hjl : j ≤ l.length) (HL : Hid (∀ W : World, Calls Tryz.prog 24 #[.int .u8 (c.toNat : Int)] W fun e w' => e = .returned (.bool true) ∧ w' = W)) (HR : Hid (∀ W : World, Calls Tryz.prog 25 #[.string ⟨l.toArray⟩, .int .i64 (i : Int)] W fun e w' => e = .returned (.int .i64 (j : Int)) ∧ w' = W)) (h24 : ¬ (24 : Int) < (j : Int) - (i : Int)) (e2 : UInt8) (hd : ∀ h', (ByteArray.mk l.toArray)[j]'h' = 46) (hd2 : ∀ h', (ByteArray.mk l.toArray)[j + 1]'h' = e2) (he : ¬ (l.length : Int) ≤ (j : Int) + 1) (HL2 : Hid (∀ W : World, Calls Tryz.prog 24 #[.int .u8 (e2.toNat : Int)] W fun e w' => e = .returned (.bool true) ∧ w' = W)) (k : Nat) (_hk1 : j + 1 < k) (_hk2 : k ≤ l.length) (HR2 : Hid (∀ W : World, Calls Tryz.prog 25 #[.string ⟨l.toArray⟩, .int .i64 ((j : Int) + 1)] W fun e w' => e = .returned (.int .i64 (k : Int)) ∧ w' = W)) (g24 : (24 : Int) < (k : Int) - (j : Int) - 1) :
    Calls Tryz.prog 19 #[.string ⟨l.toArray⟩, .int .i64 (i : Int)] w fun e w' => e = .returned (.tuple #[.int .i64 0, .int .i64 (i : Int), .int .i64 36]) ∧ Below w.heap.size w w' := by
  have j1 : (j : Int) < (l.length : Int) := by omega
  have j2 : (j : Int) + 1 < (l.length : Int) := by omega
  have j3 : (0 : Int) ≤ (j : Int) + 1 := by omega
  go_enter Tryz.func19, Tryz.ntmps19
  go_wp2_with fail
  refine (HL.out _).mono ?_
  rintro e w ⟨rfl, rfl⟩
  go_wp2_with fail
  refine (HR.out _).mono ?_
  rintro e w ⟨rfl, rfl⟩
  go_wp2_with fail
  refine (HL2.out _).mono ?_
  rintro e w ⟨rfl, rfl⟩
  go_wp2_with fail
  refine (HR2.out _).mono ?_
  rintro e w ⟨rfl, rfl⟩
  go_wp2_with fail
  refine bodyPost_ret (results_rt _ _ _ _ _ ⟨rfl, rfl, rfl⟩) rfl ?_
  exact ⟨rfl, Below.refl _ _⟩
set_option maxRecDepth 100000 in
set_option maxHeartbeats 1000000 in
theorem tk_C2 (l : List UInt8) (i : Nat) (c : UInt8) (w : World) (hi : (i : Int) < (l.length : Int)) (hs : l.length ≤ 281474976710656) (hc : ∀ h', (ByteArray.mk l.toArray)[i]'h' = c) (j : Nat) (_hij : i < j) (_hjl : j ≤ l.length) (HL : Hid (∀ W : World, Calls Tryz.prog 24 #[.int .u8 (c.toNat : Int)] W fun e w' => e = .returned (.bool true) ∧ w' = W)) (HR : Hid (∀ W : World, Calls Tryz.prog 25 #[.string ⟨l.toArray⟩, .int .i64 (i : Int)] W fun e w' => e = .returned (.int .i64 (j : Int)) ∧ w' = W)) (h24 : ¬ (24 : Int) < (j : Int) - (i : Int)) (e2 : UInt8) (hd : ∀ h', (ByteArray.mk l.toArray)[j]'h' = 46) (hd2 : ∀ h', (ByteArray.mk l.toArray)[j + 1]'h' = e2) (he : ¬ (l.length : Int) ≤ (j : Int) + 1) (HL2 : Hid (∀ W : World, Calls Tryz.prog 24 #[.int .u8 (e2.toNat : Int)] W fun e w' => e = .returned (.bool true) ∧ w' = W)) (k : Nat) (_hk1 : j + 1 < k) (_hk2 : k ≤ l.length) (HR2 : Hid (∀ W : World, Calls Tryz.prog 25 #[.string ⟨l.toArray⟩, .int .i64 ((j : Int) + 1)] W fun e w' => e = .returned (.int .i64 (k : Int)) ∧ w' = W)) (g24 : ¬ (24 : Int) < (k : Int) - (j : Int) - 1) :
    Calls Tryz.prog 19 #[.string ⟨l.toArray⟩, .int .i64 (i : Int)] w fun e w' => e = .returned (.tuple #[.int .i64 3, .int .i64 (k : Int), .int .i64 0]) ∧ Below w.heap.size w w' := by
  have j1 : (j : Int) < (l.length : Int) := by omega
  have j2 : (j : Int) + 1 < (l.length : Int) := by omega
  have j3 : (0 : Int) ≤ (j : Int) + 1 := by omega
  go_enter Tryz.func19, Tryz.ntmps19
  go_wp2_with fail
  refine (HL.out _).mono ?_
  rintro e w ⟨rfl, rfl⟩
  go_wp2_with fail
  refine (HR.out _).mono ?_
  rintro e w ⟨rfl, rfl⟩
  go_wp2_with fail
  refine (HL2.out _).mono ?_
  rintro e w ⟨rfl, rfl⟩
  go_wp2_with fail
  refine (HR2.out _).mono ?_
  rintro e w ⟨rfl, rfl⟩
  go_wp2_with fail
  refine bodyPost_ret (results_rt _ _ _ _ _ ⟨rfl, rfl, rfl⟩) rfl ?_
  exact ⟨rfl, Below.refl _ _⟩
end Go.Proofs.YtggifkdgkjmljaaGreatDoor
namespace Go.Proofs.YtggifkdgkjmljaaGreatDoor
open Go.RowKit Go.Shelf
theorem dotA_bt {l : List UInt8} {j : Nat} (hj : j + 1 < l.length) : dotA l j 4 = (decide (bt l j = 46) && digX (bt l (j + 1))) := by
  unfold dotA
  rw [kl_bt hj, digX_cls (bt_lt l (j + 1))]
  congr 1
  by_cases h : bt l j = 46
  · have : kl l j = 5 := by rw [kl_bt (by omega), h]; rfl
    rw [this, h]
    rfl
  · have : kl l j ≠ 5 := fun e => h (kl5 e).2
    rw [decide_eq_false this, decide_eq_false h]
theorem dotA_end {l : List UInt8} {j c : Nat} (hc : c ≠ 0) (hj : ¬ j + 1 < l.length) : dotA l j c = false := by
  unfold dotA
  rw [kl0.2 hj, decide_eq_false (show ¬ 0 = c by omega), Bool.and_false]
theorem dotA_no {l : List UInt8} {j c : Nat} (h : bt l j ≠ 46) : dotA l j c = false := by
  unfold dotA
  rw [decide_eq_false (show ¬ kl l j = 5 from fun e => h (kl5 e).2), Bool.false_and]
set_option maxRecDepth 100000 in
set_option maxHeartbeats 1000000 in
theorem tk_num (l : List UInt8) (i : Nat) (c : UInt8) (w : World) (hi : (i : Int) < (l.length : Int)) (hs : l.length ≤ 281474976710656) (hc : ∀ h', (ByteArray.mk l.toArray)[i]'h' = c) (HL : Hid (∀ W : World, Calls Tryz.prog 24 #[.int .u8 (c.toNat : Int)] W fun e w' => e = .returned (.bool false) ∧ w' = W)) (HD : Hid (∀ W : World, Calls Tryz.prog 26 #[.int .u8 (c.toNat : Int)] W fun e w' => e = .returned (.bool true) ∧ w' = W)) (hi' : i < l.length) (v : Option Nat) (hv : Hid (numN (subL l i (nrun l i)) = v)) (hn1 : i ≤ nrun l i) (hn2 : nrun l i ≤ l.length) :
    Calls Tryz.prog 19 #[.string ⟨l.toArray⟩, .int .i64 (i : Int)] w fun e w' => e = .returned (.tuple #[.int .i64 (if v = none then 0 else 4), .int .i64 (if v = none then (i : Int) else (nrun l i : Int)), .int .i64 (if v = none then 31 else 0)]) ∧ Below w.heap.size w w' := by
  obtain ⟨r, hr⟩ : ∃ r, nrun l i = r := ⟨_, rfl⟩
  rw [hr] at hv hn1 hn2 ⊢
  have HR : Hid (nrun l i = r) := hr
  clear hr
  go_enter Tryz.func19, Tryz.ntmps19
  go_wp2_with fail
  refine (HL.out _).mono ?_
  rintro e w ⟨rfl, rfl⟩
  go_wp2_with fail
  refine (HD.out _).mono ?_
  rintro e w ⟨rfl, rfl⟩
  go_wp2_with fail
  go_loopw [10] (fun vj wr => ∃ k : Nat, i ≤ k ∧ k ≤ l.length ∧ vj = .int .i64 k ∧ Hid (nrun l k = r) ∧ wr = w) (fun vj _ => l.length - (intOf vj).toNat)
  case atStart => exact ⟨i, Nat.le_refl _, Nat.le_of_lt hi', rfl, HR, rfl⟩
  case round =>
    obtain ⟨k, hk1, hk2, rfl, hkr, rfl⟩ := hrel
    by_cases hlt : k < l.length
    · have j0 : (0 : Int) ≤ (k : Int) := by omega
      have j1 : (k : Int) < (l.length : Int) := by omega
      obtain ⟨d, hd, hld⟩ := byte_get l k hlt
      have hb := bt_of hld
      have hw := inW_bt hlt
      rw [hb] at hw
      have HW := refWord_any d.toNat wr
      cases hq : (letX d.toNat || digX d.toNat) with
      | true =>
        rw [hq] at HW hw
        have HI : Hid (nrun l (k + 1) = r) := by rw [← nrun_yes (by rw [hw]; rfl)]; exact hkr.out
        clear hkr hw hb hq
        go_wp2_with fail
        refine HW.mono ?_
        rintro e w2 ⟨rfl, rfl⟩
        go_wp2_with fail
        go_roundw
        case rel => exact ⟨k + 1, by omega, by omega, by go_num, HI, trivial⟩
        case measure => simp [intOf]; omega
      | false =>
        rw [hq] at HW hw
        clear hq
        by_cases h46 : d = 46
        · subst h46
          by_cases hl2 : k + 1 < l.length
          · have j2 : (k : Int) + 1 < (l.length : Int) := by omega
            have j3 : (0 : Int) ≤ (k : Int) + 1 := by omega
            obtain ⟨d2, hd2, hld2⟩ := byte_get l (k + 1) hl2
            have hb2 := bt_of hld2
            have hdA := dotA_bt hl2
            rw [hb, hb2] at hdA
            have HD2 := refDigit_any d2.toNat wr
            cases hq2 : digX d2.toNat with
            | true =>
              rw [hq2] at HD2 hdA
              have HI : Hid (nrun l (k + 1) = r) := by rw [← nrun_yes (by rw [hdA]; simp)]; exact hkr.out
              clear hkr hw hb hb2 hq2 hdA
              go_wp2_with fail
              refine HW.mono ?_
              rintro e w2 ⟨rfl, rfl⟩
              go_wp2_with fail
              refine HD2.mono ?_
              rintro e w2 ⟨rfl, rfl⟩
              go_wp2_with fail
              go_roundw
              case rel => exact ⟨k + 1, by omega, by omega, by go_num, HI, trivial⟩
              case measure => simp [intOf]; omega
            | false =>
              rw [hq2] at HD2 hdA
              have HI : r = k := by rw [← hkr.out]; exact nrun_no (by rw [hw, hdA]; simp)
              subst HI
              clear hkr hw hb hb2 hq2 hdA
              go_wp2_with fail
              refine HW.mono ?_
              rintro e w2 ⟨rfl, rfl⟩
              go_wp2_with fail
              refine HD2.mono ?_
              rintro e w2 ⟨rfl, rfl⟩
              have HN := fun W : World => refNumber_all (subL l i r) W (by have := subL_len l i r; omega)
              simp only [hv.out] at HN
              have hE : (ByteArray.mk l.toArray).extract i r = ⟨(subL l i r).toArray⟩ := ext_sub l i r
              obtain ⟨T, hT⟩ : ∃ T, subL l i r = T := ⟨_, rfl⟩
              simp only [hT] at HN
              rw [hT] at hE
              clear hT hv
              have j5 : (i : Int) ≤ (r : Int) := by omega
              have j6 : (r : Int) ≤ (l.length : Int) := by omega
              cases v with
              | none =>
                go_wp2_with fail
                refine (HN _).mono ?_
                rintro e w3 ⟨rfl, hb3⟩
                go_wp2_with fail
                refine bodyPost_ret (results_rt _ _ _ _ _ ⟨rfl, rfl, rfl⟩) rfl ?_
                exact ⟨rfl, hb3⟩
              | some x =>
                have jx : ¬ (x : Int) < 0 := by omega
                go_wp2_with fail
                refine (HN _).mono ?_
                rintro e w3 ⟨rfl, hb3⟩
                go_wp2_with fail
                refine bodyPost_ret (results_rt _ _ _ _ _ ⟨rfl, rfl, rfl⟩) rfl ?_
                exact ⟨rfl, hb3⟩
          · have j2 : ¬ (k : Int) + 1 < (l.length : Int) := by omega
            have HI : r = k := by rw [← hkr.out]; exact nrun_no (by rw [hw, dotA_end (by decide) hl2]; rfl)
            subst HI
            clear hkr hw hb
            go_wp2_with fail
            refine HW.mono ?_
            rintro e w2 ⟨rfl, rfl⟩
            have HN := fun W : World => refNumber_all (subL l i r) W (by have := subL_len l i r; omega)
            simp only [hv.out] at HN
            have hE : (ByteArray.mk l.toArray).extract i r = ⟨(subL l i r).toArray⟩ := ext_sub l i r
            obtain ⟨T, hT⟩ : ∃ T, subL l i r = T := ⟨_, rfl⟩
            simp only [hT] at HN
            rw [hT] at hE
            clear hT hv
            have j5 : (i : Int) ≤ (r : Int) := by omega
            have j6 : (r : Int) ≤ (l.length : Int) := by omega
            cases v with
            | none =>
              go_wp2_with fail
              refine (HN _).mono ?_
              rintro e w3 ⟨rfl, hb3⟩
              go_wp2_with fail
              refine bodyPost_ret (results_rt _ _ _ _ _ ⟨rfl, rfl, rfl⟩) rfl ?_
              exact ⟨rfl, hb3⟩
            | some x =>
              have jx : ¬ (x : Int) < 0 := by omega
              go_wp2_with fail
              refine (HN _).mono ?_
              rintro e w3 ⟨rfl, hb3⟩
              go_wp2_with fail
              refine bodyPost_ret (results_rt _ _ _ _ _ ⟨rfl, rfl, rfl⟩) rfl ?_
              exact ⟨rfl, hb3⟩
        · have hne : ((d.toNat : Int) == 46) = false := u8_ne (d := 46) h46
          have HI : r = k := by rw [← hkr.out]; exact nrun_no (by rw [hw, dotA_no (by rw [hb]; exact fun e => h46 (UInt8.toNat_inj.1 e))]; rfl)
          subst HI
          clear hkr hw hb
          go_wp2_with fail
          refine HW.mono ?_
          rintro e w2 ⟨rfl, rfl⟩
          have HN := fun W : World => refNumber_all (subL l i r) W (by have := subL_len l i r; omega)
          simp only [hv.out] at HN
          have hE : (ByteArray.mk l.toArray).extract i r = ⟨(subL l i r).toArray⟩ := ext_sub l i r
          obtain ⟨T, hT⟩ : ∃ T, subL l i r = T := ⟨_, rfl⟩
          simp only [hT] at HN
          rw [hT] at hE
          clear hT hv
          have j5 : (i : Int) ≤ (r : Int) := by omega
          have j6 : (r : Int) ≤ (l.length : Int) := by omega
          cases v with
          | none =>
            go_wp2_with fail
            refine (HN _).mono ?_
            rintro e w3 ⟨rfl, hb3⟩
            go_wp2_with fail
            refine bodyPost_ret (results_rt _ _ _ _ _ ⟨rfl, rfl, rfl⟩) rfl ?_
            exact ⟨rfl, hb3⟩
          | some x =>
            have jx : ¬ (x : Int) < 0 := by omega
            go_wp2_with fail
            refine (HN _).mono ?_
            rintro e w3 ⟨rfl, hb3⟩
            go_wp2_with fail
            refine bodyPost_ret (results_rt _ _ _ _ _ ⟨rfl, rfl, rfl⟩) rfl ?_
            exact ⟨rfl, hb3⟩
    · have j1 : ¬ (k : Int) < (l.length : Int) := by omega
      have HI : r = k := by rw [← hkr.out]; exact nrun_no (by rw [inW_end hlt, dotA_end (by decide) (by omega)]; rfl)
      subst HI
      clear hkr
      have HN := fun W : World => refNumber_all (subL l i r) W (by have := subL_len l i r; omega)
      simp only [hv.out] at HN
      have hE : (ByteArray.mk l.toArray).extract i r = ⟨(subL l i r).toArray⟩ := ext_sub l i r
      obtain ⟨T, hT⟩ : ∃ T, subL l i r = T := ⟨_, rfl⟩
      simp only [hT] at HN
      rw [hT] at hE
      clear hT hv
      have j5 : (i : Int) ≤ (r : Int) := by omega
      have j6 : (r : Int) ≤ (l.length : Int) := by omega
      cases v with
      | none =>
        go_wp2_with fail
        refine (HN _).mono ?_
        rintro e w3 ⟨rfl, hb3⟩
        go_wp2_with fail
        refine bodyPost_ret (results_rt _ _ _ _ _ ⟨rfl, rfl, rfl⟩) rfl ?_
        exact ⟨rfl, hb3⟩
      | some x =>
        have jx : ¬ (x : Int) < 0 := by omega
        go_wp2_with fail
        refine (HN _).mono ?_
        rintro e w3 ⟨rfl, hb3⟩
        go_wp2_with fail
        refine bodyPost_ret (results_rt _ _ _ _ _ ⟨rfl, rfl, rfl⟩) rfl ?_
        exact ⟨rfl, hb3⟩
end Go.Proofs.YtggifkdgkjmljaaGreatDoor
namespace Go.Proofs.YtggifkdgkjmljaaGreatDoor
open Go.RowKit Go.Shelf
set_option maxRecDepth 100000 in
set_option maxHeartbeats 1000000 in
theorem tk_pat (l : List UInt8) (i : Nat) (w : World) (hi : (i : Int) < (l.length : Int)) (hs : l.length ≤ 281474976710656) (hc : ∀ h', (ByteArray.mk l.toArray)[i]'h' = 37) (HL : Hid (∀ W : World, Calls Tryz.prog 24 #[.int .u8 (37 : Int)] W fun e w' => e = .returned (.bool false) ∧ w' = W)) (HD : Hid (∀ W : World, Calls Tryz.prog 26 #[.int .u8 (37 : Int)] W fun e w' => e = .returned (.bool false) ∧ w' = W)) (j : Nat) (hij : i ≤ j) (hjl : j ≤ l.length) (HR : Hid (∀ W : World, Calls Tryz.prog 25 #[.string ⟨l.toArray⟩, .int .i64 ((i : Int) + 1)] W fun e w' => e = .returned (.int .i64 (j : Int)) ∧ w' = W)) (q : Bool) (T : List UInt8) (hE : (ByteArray.mk l.toArray).extract i j = ⟨T.toArray⟩) (HP : Hid (∀ W : World, Calls Tryz.prog 29 #[.string ⟨T.toArray⟩] W fun e w' => e = .returned (.bool q) ∧ Below W.heap.size W w')) :
    Calls Tryz.prog 19 #[.string ⟨l.toArray⟩, .int .i64 (i : Int)] w fun e w' => e = .returned (.tuple #[.int .i64 (if q = true then 5 else 0), .int .i64 (if q = true then (j : Int) else (i : Int)), .int .i64 (if q = true then 0 else 44)]) ∧ Below w.heap.size w w' := by
  have j5 : (i : Int) ≤ (j : Int) := by omega
  have j6 : (j : Int) ≤ (l.length : Int) := by omega
  go_enter Tryz.func19, Tryz.ntmps19
  go_wp2_with fail
  refine (HL.out _).mono ?_
  rintro e w ⟨rfl, rfl⟩
  go_wp2_with fail
  refine (HD.out _).mono ?_
  rintro e w ⟨rfl, rfl⟩
  go_wp2_with fail
  refine (HR.out _).mono ?_
  rintro e w ⟨rfl, rfl⟩
  go_wp2_with fail
  refine (HP.out _).mono ?_
  rintro e w3 ⟨rfl, hb3⟩
  cases q with
  | true =>
    go_wp2_with fail
    refine bodyPost_ret (results_rt _ _ _ _ _ ⟨rfl, rfl, rfl⟩) rfl ?_
    exact ⟨rfl, hb3⟩
  | false =>
    go_wp2_with fail
    refine bodyPost_ret (results_rt _ _ _ _ _ ⟨rfl, rfl, rfl⟩) rfl ?_
    exact ⟨rfl, hb3⟩
set_option maxRecDepth 100000 in
set_option maxHeartbeats 1000000 in
theorem tk_q1 (l : List UInt8) (i : Nat) (w : World) (hi : (i : Int) < (l.length : Int)) (_ : l.length ≤ 281474976710656) (hc : ∀ h', (ByteArray.mk l.toArray)[i]'h' = 34) (HL : Hid (∀ W : World, Calls Tryz.prog 24 #[.int .u8 (34 : Int)] W fun e w' => e = .returned (.bool false) ∧ w' = W)) (HD : Hid (∀ W : World, Calls Tryz.prog 26 #[.int .u8 (34 : Int)] W fun e w' => e = .returned (.bool false) ∧ w' = W)) (said : List UInt8) (a e0 : Nat) (HI : Hid (∀ W : World, Calls Tryz.prog 30 #[.string ⟨l.toArray⟩, .int .i64 (i : Int)] W fun e w' => e = .returned (.tuple #[.string ⟨said.toArray⟩, .int .i64 (a : Int), .int .i64 (e0 : Int)]) ∧ Below W.heap.size W w')) (he : ((e0 : Int) == 0) = false) :
    Calls Tryz.prog 19 #[.string ⟨l.toArray⟩, .int .i64 (i : Int)] w fun e w' => e = .returned (.tuple #[.int .i64 0, .int .i64 (a : Int), .int .i64 (e0 : Int)]) ∧ Below w.heap.size w w' := by
  have hm : ((e0 : Int) != 0) = true := by rw [bne, he]; rfl
  go_enter Tryz.func19, Tryz.ntmps19
  go_wp2_with fail
  refine (HL.out _).mono ?_
  rintro e w ⟨rfl, rfl⟩
  go_wp2_with fail
  refine (HD.out _).mono ?_
  rintro e w ⟨rfl, rfl⟩
  go_wp2_with fail
  refine (HI.out _).mono ?_
  rintro e w3 ⟨rfl, hb3⟩
  go_wp2_with fail
  refine bodyPost_ret (results_rt _ _ _ _ _ ⟨rfl, rfl, rfl⟩) rfl ?_
  exact ⟨rfl, hb3⟩
set_option maxRecDepth 100000 in
set_option maxHeartbeats 1000000 in
theorem tk_q2 (l : List UInt8) (i : Nat) (w : World) (hi : (i : Int) < (l.length : Int)) (_ : l.length ≤ 281474976710656) (hc : ∀ h', (ByteArray.mk l.toArray)[i]'h' = 34) (HL : Hid (∀ W : World, Calls Tryz.prog 24 #[.int .u8 (34 : Int)] W fun e w' => e = .returned (.bool false) ∧ w' = W)) (HD : Hid (∀ W : World, Calls Tryz.prog 26 #[.int .u8 (34 : Int)] W fun e w' => e = .returned (.bool false) ∧ w' = W)) (said : List UInt8) (a : Nat) (HI : Hid (∀ W : World, Calls Tryz.prog 30 #[.string ⟨l.toArray⟩, .int .i64 (i : Int)] W fun e w' => e = .returned (.tuple #[.string ⟨said.toArray⟩, .int .i64 (a : Int), .int .i64 0]) ∧ Below W.heap.size W w')) (hl : (256 : Int) < (said.length : Int)) :
    Calls Tryz.prog 19 #[.string ⟨l.toArray⟩, .int .i64 (i : Int)] w fun e w' => e = .returned (.tuple #[.int .i64 0, .int .i64 (i : Int), .int .i64 37]) ∧ Below w.heap.size w w' := by
  go_enter Tryz.func19, Tryz.ntmps19
  go_wp2_with fail
  refine (HL.out _).mono ?_
  rintro e w ⟨rfl, rfl⟩
  go_wp2_with fail
  refine (HD.out _).mono ?_
  rintro e w ⟨rfl, rfl⟩
  go_wp2_with fail
  refine (HI.out _).mono ?_
  rintro e w3 ⟨rfl, hb3⟩
  go_wp2_with fail
  refine bodyPost_ret (results_rt _ _ _ _ _ ⟨rfl, rfl, rfl⟩) rfl ?_
  exact ⟨rfl, hb3⟩
set_option maxRecDepth 100000 in
set_option maxHeartbeats 1000000 in
theorem tk_q3 (l : List UInt8) (i : Nat) (w : World) (hi : (i : Int) < (l.length : Int)) (_ : l.length ≤ 281474976710656) (hc : ∀ h', (ByteArray.mk l.toArray)[i]'h' = 34) (HL : Hid (∀ W : World, Calls Tryz.prog 24 #[.int .u8 (34 : Int)] W fun e w' => e = .returned (.bool false) ∧ w' = W)) (HD : Hid (∀ W : World, Calls Tryz.prog 26 #[.int .u8 (34 : Int)] W fun e w' => e = .returned (.bool false) ∧ w' = W)) (said : List UInt8) (a : Nat) (HI : Hid (∀ W : World, Calls Tryz.prog 30 #[.string ⟨l.toArray⟩, .int .i64 (i : Int)] W fun e w' => e = .returned (.tuple #[.string ⟨said.toArray⟩, .int .i64 (a : Int), .int .i64 0]) ∧ Below W.heap.size W w')) (hl : ¬ (256 : Int) < (said.length : Int)) :
    Calls Tryz.prog 19 #[.string ⟨l.toArray⟩, .int .i64 (i : Int)] w fun e w' => e = .returned (.tuple #[.int .i64 6, .int .i64 (a : Int), .int .i64 0]) ∧ Below w.heap.size w w' := by
  go_enter Tryz.func19, Tryz.ntmps19
  go_wp2_with fail
  refine (HL.out _).mono ?_
  rintro e w ⟨rfl, rfl⟩
  go_wp2_with fail
  refine (HD.out _).mono ?_
  rintro e w ⟨rfl, rfl⟩
  go_wp2_with fail
  refine (HI.out _).mono ?_
  rintro e w3 ⟨rfl, hb3⟩
  go_wp2_with fail
  refine bodyPost_ret (results_rt _ _ _ _ _ ⟨rfl, rfl, rfl⟩) rfl ?_
  exact ⟨rfl, hb3⟩
set_option maxRecDepth 100000 in
set_option maxHeartbeats 1000000 in
theorem tk_sg (l : List UInt8) (i : Nat) (c : UInt8) (w : World) (hi : (i : Int) < (l.length : Int)) (hs : l.length ≤ 281474976710656) (hc : ∀ h', (ByteArray.mk l.toArray)[i]'h' = c) (HL : Hid (∀ W : World, Calls Tryz.prog 24 #[.int .u8 (c.toNat : Int)] W fun e w' => e = .returned (.bool false) ∧ w' = W)) (HD : Hid (∀ W : World, Calls Tryz.prog 26 #[.int .u8 (c.toNat : Int)] W fun e w' => e = .returned (.bool false) ∧ w' = W)) (n37 : ((c.toNat : Int) == 37) = false) (n34 : ((c.toNat : Int) == 34) = false) (hi' : i < l.length) (g : SR w) :
    Calls Tryz.prog 19 #[.string ⟨l.toArray⟩, .int .i64 (i : Int)] w fun e w' => e = .returned (.tuple #[.int .i64 (if sgn (l.drop i) = 0 then 0 else 7), .int .i64 ((i : Int) + (sgn (l.drop i) : Int)), .int .i64 (if sgn (l.drop i) = 0 then 30 else 0)]) ∧ Below w.heap.size w w' := by
  have HG : Hid (SR w) := g
  have h1 : subL l i (i + 1) = [l[i]] := by unfold subL; rw [Nat.add_sub_cancel_left, List.drop_eq_getElem_cons hi']; rfl
  have HS1 := refSign_any (subL l i (i + 1)) w g
  have hE1 : ∀ W : World, Sem.run Tryz.prog (Instr.slice 9 (.string ⟨l.toArray⟩) (some (.int .i64 (i : Int))) (some (.int .i64 ((i : Int) + 1))) none) W = .ok (.string ⟨(subL l i (i + 1)).toArray⟩) W := fun W => by
    have := slice_str l i 1 hi' W
    unfold subL
    rw [Nat.add_sub_cancel_left]
    exact this
  have k1 : (i : Int) + 1 ≤ (l.length : Int) := by omega
  have m1 : ∀ x : UInt8, ([x] ∈ signsL) ↔ [x] ∈ signs1 := fun x => by
    rw [show signsL = signs2 ++ signs1 from rfl, List.mem_append]
    refine ⟨fun h => h.resolve_left (fun h2 => ?_), .inr⟩
    have h3 : ∀ s ∈ signs2, s.length = 2 := by decide
    have := h3 _ h2
    simp at this
  have m2 : ∀ x y : UInt8, ([x, y] ∈ signsL) ↔ [x, y] ∈ signs2 := fun x y => by
    rw [show signsL = signs2 ++ signs1 from rfl, List.mem_append]
    refine ⟨fun h => h.resolve_right (fun h2 => ?_), .inl⟩
    have h3 : ∀ s ∈ signs1, s.length = 1 := by decide
    have := h3 _ h2
    simp at this
  rw [h1] at HS1 hE1
  obtain ⟨q1, hq1⟩ : ∃ q, isSg [l[i]] = q := ⟨_, rfl⟩
  rw [hq1] at HS1
  have HQ1 : Hid (([l[i]] ∈ signs1) ↔ q1 = true) := by unfold Hid; rw [← m1, ← hq1]; unfold isSg; simp
  obtain ⟨T1, hT1⟩ : ∃ T, [l[i]] = T := ⟨_, rfl⟩
  rw [hT1] at HS1 hE1
  by_cases h2l : i + 1 < l.length
  · have k2 : (i : Int) + 2 ≤ (l.length : Int) := by omega
    have h2 : subL l i (i + 2) = [l[i], l[i + 1]] := by
      unfold subL
      rw [Nat.add_sub_cancel_left, List.drop_eq_getElem_cons hi', List.drop_eq_getElem_cons h2l]
      rfl
    have HS2 := refSign_any (subL l i (i + 2)) w g
    have hE2 : ∀ W : World, Sem.run Tryz.prog (Instr.slice 9 (.string ⟨l.toArray⟩) (some (.int .i64 (i : Int))) (some (.int .i64 ((i : Int) + 2))) none) W = .ok (.string ⟨(subL l i (i + 2)).toArray⟩) W := fun W => by
      have := slice_str l i 2 h2l W
      unfold subL
      rw [Nat.add_sub_cancel_left]
      exact this
    rw [h2] at HS2 hE2
    obtain ⟨q2, hq2⟩ : ∃ q, isSg [l[i], l[i + 1]] = q := ⟨_, rfl⟩
    rw [hq2] at HS2
    have HQ2 : Hid (([l[i], l[i + 1]] ∈ signs2) ↔ q2 = true) := by unfold Hid; rw [← m2, ← hq2]; unfold isSg; simp
    obtain ⟨T2, hT2⟩ : ∃ T, [l[i], l[i + 1]] = T := ⟨_, rfl⟩
    rw [hT2] at HS2 hE2
    have hsg : sgn (l.drop i) = if q2 = true then 2 else if q1 = true then 1 else 0 := by
      rw [List.drop_eq_getElem_cons hi', List.drop_eq_getElem_cons h2l, sgn_two]
      simp only [HQ1.out, HQ2.out]
    rw [hsg]
    clear hsg hq1 hq2 hT1 hT2 HQ1 HQ2 h1 h2 m1 m2 g
    cases q2 with
    | true =>
      clear HS1 hE1
      go_enter Tryz.func19, Tryz.ntmps19
      go_wp2_with fail
      refine (HL.out _).mono ?_
      rintro e w ⟨rfl, rfl⟩
      go_wp2_with fail
      refine (HD.out _).mono ?_
      rintro e w ⟨rfl, rfl⟩
      go_wp2_with fail
      go_loop [15] (fun vn => vn = .int .i64 2) (fun vn => (intOf vn).toNat)
      case atStart => exact rfl
      case round =>
        subst hrel
        go_wp2_with fail
        refine HS2.mono ?_
        rintro e w3 ⟨rfl, rfl⟩
        go_wp2_with fail
        refine bodyPost_ret (results_rt _ _ _ _ _ ⟨rfl, rfl, rfl⟩) rfl ?_
        exact ⟨rfl, Below.refl _ _⟩
    | false =>
      cases q1 with
      | true =>
        go_enter Tryz.func19, Tryz.ntmps19
        go_wp2_with fail
        refine (HL.out _).mono ?_
        rintro e w ⟨rfl, rfl⟩
        go_wp2_with fail
        refine (HD.out _).mono ?_
        rintro e w ⟨rfl, rfl⟩
        go_wp2_with fail
        go_loop [15] (fun vn => vn = .int .i64 2 ∨ vn = .int .i64 1) (fun vn => (intOf vn).toNat)
        case atStart => exact .inl rfl
        case round =>
          rcases hrel with rfl | rfl
          · go_wp2_with fail
            refine HS2.mono ?_
            rintro e w3 ⟨rfl, rfl⟩
            go_wp2_with fail
            go_round
            case rel => exact .inr rfl
            case measure => simp [intOf]
          · go_wp2_with fail
            refine HS1.mono ?_
            rintro e w3 ⟨rfl, rfl⟩
            go_wp2_with fail
            refine bodyPost_ret (results_rt _ _ _ _ _ ⟨rfl, rfl, rfl⟩) rfl ?_
            exact ⟨rfl, Below.refl _ _⟩
      | false =>
        go_enter Tryz.func19, Tryz.ntmps19
        go_wp2_with fail
        refine (HL.out _).mono ?_
        rintro e w ⟨rfl, rfl⟩
        go_wp2_with fail
        refine (HD.out _).mono ?_
        rintro e w ⟨rfl, rfl⟩
        go_wp2_with fail
        go_loop [15] (fun vn => vn = .int .i64 2 ∨ vn = .int .i64 1 ∨ vn = .int .i64 0) (fun vn => (intOf vn).toNat)
        case atStart => exact .inl rfl
        case round =>
          rcases hrel with rfl | rfl | rfl
          · go_wp2_with fail
            refine HS2.mono ?_
            rintro e w3 ⟨rfl, rfl⟩
            go_wp2_with fail
            go_round
            case rel => exact .inr (.inl rfl)
            case measure => simp [intOf]
          · go_wp2_with fail
            refine HS1.mono ?_
            rintro e w3 ⟨rfl, rfl⟩
            go_wp2_with fail
            go_round
            case rel => exact .inr (.inr rfl)
            case measure => simp [intOf]
          · go_wp2_with fail
            refine bodyPost_ret (results_rt _ _ _ _ _ ⟨rfl, rfl, rfl⟩) rfl ?_
            exact ⟨by simp, Below.refl _ _⟩
  · have k2 : ¬ (i : Int) + 2 ≤ (l.length : Int) := by omega
    have hsg : sgn (l.drop i) = if q1 = true then 1 else 0 := by
      have hd : l.drop (i + 1) = [] := List.drop_eq_nil_of_le (by omega)
      rw [List.drop_eq_getElem_cons hi', hd, sgn_one]
      simp only [HQ1.out]
    rw [hsg]
    clear hsg hq1 hT1 HQ1 h1 m1 m2 g
    cases q1 with
    | true =>
      go_enter Tryz.func19, Tryz.ntmps19
      go_wp2_with fail
      refine (HL.out _).mono ?_
      rintro e w ⟨rfl, rfl⟩
      go_wp2_with fail
      refine (HD.out _).mono ?_
      rintro e w ⟨rfl, rfl⟩
      go_wp2_with fail
      go_loop [15] (fun vn => vn = .int .i64 2 ∨ vn = .int .i64 1) (fun vn => (intOf vn).toNat)
      case atStart => exact .inl rfl
      case round =>
        rcases hrel with rfl | rfl
        · go_wp2_with fail
          go_round
          case rel => exact .inr rfl
          case measure => simp [intOf]
        · go_wp2_with fail
          refine HS1.mono ?_
          rintro e w3 ⟨rfl, rfl⟩
          go_wp2_with fail
          refine bodyPost_ret (results_rt _ _ _ _ _ ⟨rfl, rfl, rfl⟩) rfl ?_
          exact ⟨rfl, Below.refl _ _⟩
    | false =>
      go_enter Tryz.func19, Tryz.ntmps19
      go_wp2_with fail
      refine (HL.out _).mono ?_
      rintro e w ⟨rfl, rfl⟩
      go_wp2_with fail
      refine (HD.out _).mono ?_
      rintro e w ⟨rfl, rfl⟩
      go_wp2_with fail
      go_loop [15] (fun vn => vn = .int .i64 2 ∨ vn = .int .i64 1 ∨ vn = .int .i64 0) (fun vn => (intOf vn).toNat)
      case atStart => exact .inl rfl
      case round =>
        rcases hrel with rfl | rfl | rfl
        · go_wp2_with fail
          go_round
          case rel => exact .inr (.inl rfl)
          case measure => simp [intOf]
        · go_wp2_with fail
          refine HS1.mono ?_
          rintro e w3 ⟨rfl, rfl⟩
          go_wp2_with fail
          go_round
          case rel => exact .inr (.inr rfl)
          case measure => simp [intOf]
        · go_wp2_with fail
          refine bodyPost_ret (results_rt _ _ _ _ _ ⟨rfl, rfl, rfl⟩) rfl ?_
          exact ⟨by simp, Below.refl _ _⟩
end Go.Proofs.YtggifkdgkjmljaaGreatDoor
namespace Go.Proofs.YtggifkdgkjmljaaGreatDoor
open Go.RowKit Go.Shelf
/-- what the document's token answers -/
def tokR3 (l : List UInt8) (i : Nat) : Nat × Nat × Nat := if tokE l i = 0 then ((tokC l i).1, tokJ l i, 0) else (0, tokJ l i, tokE l i)
theorem tokR3_ok {l : List UInt8} {i k j : Nat} (he : tokE l i = 0) (hk : (tokC l i).1 = k) (hj : tokJ l i = j) : tokR3 l i = (k, j, 0) := by
  unfold tokR3
  rw [if_pos he, hk, hj]
theorem tokR3_no {l : List UInt8} {i e j : Nat} (h0 : e ≠ 0) (he : tokE l i = e) (hj : tokJ l i = j) : tokR3 l i = (0, j, e) := by
  unfold tokR3
  rw [he, if_neg h0, hj]
/-- the document's token, however long the text -/
def tokR4 (l : List UInt8) (i : Nat) : Nat × Nat × Nat := if kl l i = 4 then (if numN (subL l i (nrun l i)) = none then (0, i, 31) else (4, nrun l i, 0)) else tokR3 l i
theorem tokR4_no {l : List UInt8} {i : Nat} (h : kl l i ≠ 4) : tokR4 l i = tokR3 l i := if_neg h
theorem num_run {l : List UInt8} {i : Nat} (hi : i < l.length) (h4 : kl l i = 4) : i < nrun l i ∧ nrun l i ≤ l.length := by
  have hw : (inW l i || dotA l i 4) = true := by unfold inW; rw [h4]; rfl
  have hy := nrun_yes hw
  have hg := nrun_ge l _ (i + 1) (Nat.le_refl _)
  rw [← hy] at hg
  exact ⟨by omega, hg.2 hi⟩
theorem tokR4_short {l : List UInt8} {i : Nat} (hi : i < l.length) (hs : l.length ≤ 16384) : tokR4 l i = tokR3 l i := by
  unfold tokR4
  by_cases h4 : kl l i = 4
  · rw [if_pos h4]
    obtain ⟨b1, b2, b3, b4, b5⟩ := tok_num hi hs h4
    cases hv : numN (subL l i (nrun l i)) with
    | none =>
      rw [hv] at b4 b5
      rw [tokR3_no (by decide) b4 b5, if_pos rfl]
      simp
    | some v =>
      rw [hv] at b4 b5
      rw [tokR3_ok b4 (by rw [b3]) b5, if_neg (by simp)]
      simp
  · rw [if_neg h4]
theorem refToken_big (l : List UInt8) (i : Nat) (w : World) (hi : i < l.length) (hs : l.length ≤ 281474976710656) (hn : ∀ j, j < l.length → kl l j ≠ 1) (hg : SR w) :
    Calls Tryz.prog 19 #[.string ⟨l.toArray⟩, .int .i64 (i : Int)] w fun e w' => e = .returned (.tuple #[.int .i64 ((tokR4 l i).1 : Int), .int .i64 ((tokR4 l i).2.1 : Int), .int .i64 ((tokR4 l i).2.2 : Int)]) ∧ Below w.heap.size w w' := by
  have hiI : (i : Int) < (l.length : Int) := by omega
  obtain ⟨c, hc, hlc⟩ := byte_get l i hi
  have hb := bt_of hlc
  have hk : kl l i = cls (c.toNat : Int) := by rw [← hb]; exact kl_bt hi
  have hx := c.toNat_lt
  have HLet : ∀ W : World, Calls Tryz.prog 24 #[.int .u8 (c.toNat : Int)] W fun e w' => e = .returned (.bool (decide (kl l i = 3))) ∧ w' = W := fun W => by
    have := refLetter_any c.toNat W
    rw [letX_cls hx, ← hk] at this
    exact this
  have HDig : ∀ W : World, Calls Tryz.prog 26 #[.int .u8 (c.toNat : Int)] W fun e w' => e = .returned (.bool (decide (kl l i = 4))) ∧ w' = W := fun W => by
    have := refDigit_any c.toNat W
    rw [digX_cls hx, ← hk] at this
    exact this
  by_cases h3 : kl l i = 3
  · rw [tokR4_no (by omega)]
    rw [decide_eq_true h3] at HLet
    obtain ⟨j, hj⟩ : ∃ j, wrun l i = j := ⟨_, rfl⟩
    have HR : ∀ W : World, Calls Tryz.prog 25 #[.string ⟨l.toArray⟩, .int .i64 (i : Int)] W fun e w' => e = .returned (.int .i64 (j : Int)) ∧ w' = W := fun W => by
      have := refRun_any l i W (Nat.le_of_lt hi) (by omega) i rfl
      rw [hj] at this
      exact this
    cases hd : dotA l j 3 with
    | false =>
      obtain ⟨b1, b2, b3, b4, b5⟩ := tok_name hi h3 hj hd
      by_cases h24 : 24 < j - i
      · rw [if_pos h24] at b3 b4
        rw [tokR3_no (by decide) b3 b4]
        exact tk_A l i c w hiI (by omega) hc j b1 b2 HLet HR (by omega)
      · rw [if_neg h24] at b3 b4
        rw [tokR3_ok b3 (by rw [b5]) b4]
        by_cases hl2 : j + 1 < l.length
        · obtain ⟨d, hdd, hld⟩ := byte_get l j (by omega)
          by_cases h46 : d = 46
          · subst h46
            obtain ⟨d2, hd2, hld2⟩ := byte_get l (j + 1) hl2
            have hb2 := bt_of hld2
            have h5 : kl l j = 5 := by rw [kl_bt (by omega), bt_of hld]; rfl
            have hk2 : ¬ kl l (j + 1) = 3 := fun e => by
              unfold dotA at hd
              rw [h5, e] at hd
              cases hd
            refine tk_B3 l i c w hiI (by omega) hc j b1 b2 HLet HR (by omega) d2 hdd hd2 (by omega) (fun W => ?_)
            have := refLetter_any d2.toNat W
            rw [letX_cls d2.toNat_lt, ← hb2, ← kl_bt hl2, decide_eq_false hk2, hb2] at this
            exact this
          · exact tk_B2 l i c w hiI (by omega) hc j b1 b2 HLet HR (by omega) (by omega) d hdd (u8_ne (d := 46) h46)
        · exact tk_B1 l i c w hiI (by omega) hc j b1 b2 HLet HR (by omega) (by omega)
    | true =>
      obtain ⟨k, hk'⟩ : ∃ k, wrun l (j + 1) = k := ⟨_, rfl⟩
      obtain ⟨b1, b2, b3, b4, b5, b6, b7⟩ := tok_port hi h3 hj hd hk'
      obtain ⟨d1, d2⟩ : kl l j = 5 ∧ kl l (j + 1) = 3 := by unfold dotA at hd; simpa using hd
      obtain ⟨x, hxx, hlx⟩ := byte_get l j (by omega)
      obtain rfl : x = 46 := UInt8.toNat_inj.1 (by rw [← bt_of hlx, (kl5 d1).2]; rfl)
      obtain ⟨y, hy, hly⟩ := byte_get l (j + 1) b2
      have hby := bt_of hly
      have HL2 : ∀ W : World, Calls Tryz.prog 24 #[.int .u8 (y.toNat : Int)] W fun e w' => e = .returned (.bool true) ∧ w' = W := fun W => by
        have := refLetter_any y.toNat W
        rw [letX_cls y.toNat_lt, ← hby, ← kl_bt b2, decide_eq_true d2, hby] at this
        exact this
      have HR2 : ∀ W : World, Calls Tryz.prog 25 #[.string ⟨l.toArray⟩, .int .i64 ((j : Int) + 1)] W fun e w' => e = .returned (.int .i64 (k : Int)) ∧ w' = W := fun W => by
        have := refRun_any l (j + 1) W (by omega) (by omega) ((j : Int) + 1) rfl
        rw [hk'] at this
        exact this
      by_cases h24 : 24 < j - i
      · rw [if_pos (.inl h24)] at b5 b6
        rw [tokR3_no (by decide) b5 b6]
        exact tk_A l i c w hiI (by omega) hc j b1 (by omega) HLet HR (by omega)
      · by_cases g24 : 24 < k - j - 1
        · rw [if_pos (.inr g24)] at b5 b6
          rw [tokR3_no (by decide) b5 b6]
          exact tk_C1 l i c w hiI (by omega) hc j b1 (by omega) HLet HR (by omega) y hxx hy (by omega) HL2 k b3 b4 HR2 (by omega)
        · have hno : ¬ (24 < j - i ∨ 24 < k - j - 1) := by omega
          rw [if_neg hno] at b5 b6
          rw [tokR3_ok b5 (by rw [b7]) b6]
          exact tk_C2 l i c w hiI (by omega) hc j b1 (by omega) HLet HR (by omega) y hxx hy (by omega) HL2 k b3 b4 HR2 (by omega)
  rw [decide_eq_false h3] at HLet
  by_cases h4 : kl l i = 4
  · rw [decide_eq_true h4] at HDig
    obtain ⟨b1, b2⟩ := num_run hi h4
    have := tk_num l i c w hiI (by omega) hc HLet HDig hi (numN (subL l i (nrun l i))) rfl (by omega) b2
    cases hv : numN (subL l i (nrun l i)) with
    | none =>
      rw [hv] at this
      rw [show tokR4 l i = (0, i, 31) by unfold tokR4; rw [if_pos h4, hv, if_pos rfl]]
      exact this
    | some v =>
      rw [hv] at this
      rw [show tokR4 l i = (4, nrun l i, 0) by unfold tokR4; rw [if_pos h4, hv, if_neg (by simp)]]
      exact this
  rw [tokR4_no h4]
  rw [decide_eq_false h4] at HDig
  by_cases h6 : kl l i = 6
  · have c37 : c = 37 := by
      have ht : ∀ x : Fin 256, cls (x.val : Int) = 6 → x.val = 37 := by decide +kernel
      rw [hk] at h6
      exact UInt8.toNat_inj.1 (ht ⟨c.toNat, hx⟩ h6)
    subst c37
    obtain ⟨b1, b2, b3, b4, b5⟩ := tok_pat hi h6
    obtain ⟨j, hj⟩ : ∃ j, wrun l (i + 1) = j := ⟨_, rfl⟩
    rw [hj] at b1 b2 b3 b4 b5
    have HR : ∀ W : World, Calls Tryz.prog 25 #[.string ⟨l.toArray⟩, .int .i64 ((i : Int) + 1)] W fun e w' => e = .returned (.int .i64 (j : Int)) ∧ w' = W := fun W => by
      have := refRun_any l (i + 1) W hi (by omega) ((i : Int) + 1) rfl
      rw [hj] at this
      exact this
    have hsl := subL_len l i j
    have h0 : (subL l i j)[0]? = some 37 := by
      unfold subL
      rw [List.getElem?_take, if_pos (by omega), List.getElem?_drop]
      exact hlc
    have := tk_pat l i w hiI (by omega) hc HLet HDig j (by omega) b2 HR (patX (subL l i j)) (subL l i j) (ext_sub l i j) (fun W => refPattern_any (subL l i j) W h0 (by omega))
    cases hq : patX (subL l i j) with
    | true =>
      rw [hq] at this b4 b5
      rw [tokR3_ok b4 (by rw [b3]) b5]
      exact this
    | false =>
      rw [hq] at this b4 b5
      rw [tokR3_no (by decide) b4 b5]
      exact this
  by_cases h7 : kl l i = 7
  · have c34 : c = 34 := by
      have ht : ∀ x : Fin 256, cls (x.val : Int) = 7 → x.val = 34 := by decide +kernel
      rw [hk] at h7
      exact UInt8.toNat_inj.1 (ht ⟨c.toNat, hx⟩ h7)
    subst c34
    obtain ⟨b1, b2, b3⟩ := tok_quo hi hn h7
    have HI := fun W : World => refInside_at l i W hi (by omega) (fun k W' hk' => refEscape_any l k W' (by omega) hk')
    obtain ⟨r, hr⟩ : ∃ r, insS l (i + 1) [] = r := ⟨_, rfl⟩
    simp only [hr] at HI
    rw [hr] at b1 b2 b3
    obtain ⟨said, a, e0⟩ := r
    by_cases he : e0 = 0
    · subst he
      by_cases h256 : 256 < said.length
      · obtain ⟨q1, q2⟩ := b2 rfl h256
        rw [tokR3_no (by decide) q1 q2]
        exact tk_q2 l i w hiI (by omega) hc HLet HDig said a HI (by omega)
      · obtain ⟨q1, q2, q3⟩ := b3 rfl h256
        rw [tokR3_ok q1 (by rw [q3]) q2]
        exact tk_q3 l i w hiI (by omega) hc HLet HDig said a HI (by omega)
    · obtain ⟨q1, q2⟩ := b1 he
      rw [tokR3_no he q1 q2]
      exact tk_q1 l i w hiI (by omega) hc HLet HDig said a e0 HI (by rw [beq_eq_false_iff_ne]; omega)
  · have n37 : ((c.toNat : Int) == 37) = false := u8_ne (d := 37) (fun e => h6 (by rw [hk, e]; rfl))
    have n34 : ((c.toNat : Int) == 34) = false := u8_ne (d := 34) (fun e => h7 (by rw [hk, e]; rfl))
    obtain ⟨b1, b2, b3⟩ := tok_sign h3 h4 h6 h7
    have := tk_sg l i c w hiI (by omega) hc HLet HDig n37 n34 hi hg
    by_cases hz : sgn (l.drop i) = 0
    · rw [if_pos hz] at b2
      rw [tokR3_no (by decide) b2 b3]
      simp only [if_pos hz] at this
      exact this
    · rw [if_neg hz] at b2
      rw [tokR3_ok b2 (by rw [b1]) b3]
      simp only [if_neg hz] at this
      exact this
theorem refToken_any (l : List UInt8) (i : Nat) (w : World) (hi : i < l.length) (hs : l.length ≤ 16384) (hn : ∀ j, j < l.length → kl l j ≠ 1) (hg : SR w) :
    Calls Tryz.prog 19 #[.string ⟨l.toArray⟩, .int .i64 (i : Int)] w fun e w' => e = .returned (.tuple #[.int .i64 ((tokR3 l i).1 : Int), .int .i64 ((tokR3 l i).2.1 : Int), .int .i64 ((tokR3 l i).2.2 : Int)]) ∧ Below w.heap.size w w' := by
  rw [← tokR4_short hi hs]
  exact refToken_big l i w hi (by omega) hn hg
end Go.Proofs.YtggifkdgkjmljaaGreatDoor

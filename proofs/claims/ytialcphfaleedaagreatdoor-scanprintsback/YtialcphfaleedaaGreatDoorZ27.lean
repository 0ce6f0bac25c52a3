import Derived.Test.YtialcphfaleedaaGreatDoorZ26
namespace Go.Proofs.YtialcphfaleedaaGreatDoor
open Go.RowKit Go.Shelf
theorem dotA_bt {l : List UInt8} {j : Nat} (hj : j + 1 < l.length) : dotA l j 4 = (decide (bt l j = 46) && digX (bt l (j + 1))) := by
  unfold dotA
  rw [kl_bt hj, digX_cls (bt_lt l (j + 1))]
  congr 1
  by_cases h : bt l j = 46
  · have : kl l j = 5 := by rw [kl_bt (by omega), h]; rfl
    rw [this, h]
    rfl
  · have : kl l j ≠ 5 := fun e => h (kl5 e).2
    rw [decide_eq_false this, decide_eq_false h]
theorem dotA_end {l : List UInt8} {j c : Nat} (hc : c ≠ 0) (hj : ¬ j + 1 < l.length) : dotA l j c = false := by
  unfold dotA
  rw [kl0.2 hj, decide_eq_false (show ¬ 0 = c by omega), Bool.and_false]
theorem dotA_no {l : List UInt8} {j c : Nat} (h : bt l j ≠ 46) : dotA l j c = false := by
  unfold dotA
  rw [decide_eq_false (show ¬ kl l j = 5 from fun e => h (kl5 e).2), Bool.false_and]
set_option maxRecDepth 100000 in
set_option maxHeartbeats 1000000 in
theorem tk_num (l : List UInt8) (i : Nat) (c : UInt8) (w : World) (hi : (i : Int) < (l.length : Int)) (hs : l.length ≤ 16384) (hc : ∀ h', (ByteArray.mk l.toArray)[i]'h' = c) (HL : Hid (∀ W : World, Calls Tryz.prog 42 #[.int .u8 (c.toNat : Int)] W fun e w' => e = .returned (.bool false) ∧ w' = W)) (HD : Hid (∀ W : World, Calls Tryz.prog 44 #[.int .u8 (c.toNat : Int)] W fun e w' => e = .returned (.bool true) ∧ w' = W)) (hi' : i < l.length) (v : Option Nat) (hv : Hid (numN (subL l i (nrun l i)) = v)) (hn1 : i ≤ nrun l i) (hn2 : nrun l i ≤ l.length) :
    Calls Tryz.prog 38 #[.string ⟨l.toArray⟩, .int .i64 (i : Int)] w fun e w' => e = .returned (.tuple #[.int .i64 (if v = none then 0 else 4), .int .i64 (if v = none then (i : Int) else (nrun l i : Int)), .int .i64 (if v = none then 31 else 0)]) ∧ Below w.heap.size w w' := by
  obtain ⟨r, hr⟩ : ∃ r, nrun l i = r := ⟨_, rfl⟩
  rw [hr] at hv hn1 hn2 ⊢
  have HR : Hid (nrun l i = r) := hr
  clear hr
  go_enter Tryz.func38, Tryz.ntmps38
  go_wp2_with fail
  refine (HL.out _).mono ?_
  rintro e w ⟨rfl, rfl⟩
  go_wp2_with fail
  refine (HD.out _).mono ?_
  rintro e w ⟨rfl, rfl⟩
  go_wp2_with fail
  go_loopw [10] (fun vj wr => ∃ k : Nat, i ≤ k ∧ k ≤ l.length ∧ vj = .int .i64 k ∧ Hid (nrun l k = r) ∧ wr = w) (fun vj _ => l.length - (intOf vj).toNat)
  case atStart => exact ⟨i, Nat.le_refl _, Nat.le_of_lt hi', rfl, HR, rfl⟩
  case round =>
    obtain ⟨k, hk1, hk2, rfl, hkr, rfl⟩ := hrel
    by_cases hlt : k < l.length
    · have j0 : (0 : Int) ≤ (k : Int) := by omega
      have j1 : (k : Int) < (l.length : Int) := by omega
      obtain ⟨d, hd, hld⟩ := byte_get l k hlt
      have hb := bt_of hld
      have hw := inW_bt hlt
      rw [hb] at hw
      have HW := refWord_any d.toNat wr
      cases hq : (letX d.toNat || digX d.toNat) with
      | true =>
        rw [hq] at HW hw
        have HI : Hid (nrun l (k + 1) = r) := by rw [← nrun_yes (by rw [hw]; rfl)]; exact hkr.out
        clear hkr hw hb hq
        go_wp2_with fail
        refine HW.mono ?_
        rintro e w2 ⟨rfl, rfl⟩
        go_wp2_with fail
        go_roundw
        case rel => exact ⟨k + 1, by omega, by omega, by go_num, HI, trivial⟩
        case measure => simp [intOf]; omega
      | false =>
        rw [hq] at HW hw
        clear hq
        by_cases h46 : d = 46
        · subst h46
          by_cases hl2 : k + 1 < l.length
          · have j2 : (k : Int) + 1 < (l.length : Int) := by omega
            have j3 : (0 : Int) ≤ (k : Int) + 1 := by omega
            obtain ⟨d2, hd2, hld2⟩ := byte_get l (k + 1) hl2
            have hb2 := bt_of hld2
            have hdA := dotA_bt hl2
            rw [hb, hb2] at hdA
            have HD2 := refDigit_any d2.toNat wr
            cases hq2 : digX d2.toNat with
            | true =>
              rw [hq2] at HD2 hdA
              have HI : Hid (nrun l (k + 1) = r) := by rw [← nrun_yes (by rw [hdA]; simp)]; exact hkr.out
              clear hkr hw hb hb2 hq2 hdA
              go_wp2_with fail
              refine HW.mono ?_
              rintro e w2 ⟨rfl, rfl⟩
              go_wp2_with fail
              refine HD2.mono ?_
              rintro e w2 ⟨rfl, rfl⟩
              go_wp2_with fail
              go_roundw
              case rel => exact ⟨k + 1, by omega, by omega, by go_num, HI, trivial⟩
              case measure => simp [intOf]; omega
            | false =>
              rw [hq2] at HD2 hdA
              have HI : r = k := by rw [← hkr.out]; exact nrun_no (by rw [hw, hdA]; simp)
              subst HI
              clear hkr hw hb hb2 hq2 hdA
              go_wp2_with fail
              refine HW.mono ?_
              rintro e w2 ⟨rfl, rfl⟩
              go_wp2_with fail
              refine HD2.mono ?_
              rintro e w2 ⟨rfl, rfl⟩
              have HN := fun W : World => refNumber_all (subL l i r) W (by have := subL_len l i r; omega)
              simp only [hv.out] at HN
              have hE : (ByteArray.mk l.toArray).extract i r = ⟨(subL l i r).toArray⟩ := ext_sub l i r
              obtain ⟨T, hT⟩ : ∃ T, subL l i r = T := ⟨_, rfl⟩
              simp only [hT] at HN
              rw [hT] at hE
              clear hT hv
              have j5 : (i : Int) ≤ (r : Int) := by omega
              have j6 : (r : Int) ≤ (l.length : Int) := by omega
              cases v with
              | none =>
                go_wp2_with fail
                refine (HN _).mono ?_
                rintro e w3 ⟨rfl, hb3⟩
                go_wp2_with fail
                refine bodyPost_ret (results_rt _ _ _ _ _ ⟨rfl, rfl, rfl⟩) rfl ?_
                exact ⟨rfl, hb3⟩
              | some x =>
                have jx : ¬ (x : Int) < 0 := by omega
                go_wp2_with fail
                refine (HN _).mono ?_
                rintro e w3 ⟨rfl, hb3⟩
                go_wp2_with fail
                refine bodyPost_ret (results_rt _ _ _ _ _ ⟨rfl, rfl, rfl⟩) rfl ?_
                exact ⟨rfl, hb3⟩
          · have j2 : ¬ (k : Int) + 1 < (l.length : Int) := by omega
            have HI : r = k := by rw [← hkr.out]; exact nrun_no (by rw [hw, dotA_end (by decide) hl2]; rfl)
            subst HI
            clear hkr hw hb
            go_wp2_with fail
            refine HW.mono ?_
            rintro e w2 ⟨rfl, rfl⟩
            have HN := fun W : World => refNumber_all (subL l i r) W (by have := subL_len l i r; omega)
            simp only [hv.out] at HN
            have hE : (ByteArray.mk l.toArray).extract i r = ⟨(subL l i r).toArray⟩ := ext_sub l i r
            obtain ⟨T, hT⟩ : ∃ T, subL l i r = T := ⟨_, rfl⟩
            simp only [hT] at HN
            rw [hT] at hE
            clear hT hv
            have j5 : (i : Int) ≤ (r : Int) := by omega
            have j6 : (r : Int) ≤ (l.length : Int) := by omega
            cases v with
            | none =>
              go_wp2_with fail
              refine (HN _).mono ?_
              rintro e w3 ⟨rfl, hb3⟩
              go_wp2_with fail
              refine bodyPost_ret (results_rt _ _ _ _ _ ⟨rfl, rfl, rfl⟩) rfl ?_
              exact ⟨rfl, hb3⟩
            | some x =>
              have jx : ¬ (x : Int) < 0 := by omega
              go_wp2_with fail
              refine (HN _).mono ?_
              rintro e w3 ⟨rfl, hb3⟩
              go_wp2_with fail
              refine bodyPost_ret (results_rt _ _ _ _ _ ⟨rfl, rfl, rfl⟩) rfl ?_
              exact ⟨rfl, hb3⟩
        · have hne : ((d.toNat : Int) == 46) = false := u8_ne (d := 46) h46
          have HI : r = k := by rw [← hkr.out]; exact nrun_no (by rw [hw, dotA_no (by rw [hb]; exact fun e => h46 (UInt8.toNat_inj.1 e))]; rfl)
          subst HI
          clear hkr hw hb
          go_wp2_with fail
          refine HW.mono ?_
          rintro e w2 ⟨rfl, rfl⟩
          have HN := fun W : World => refNumber_all (subL l i r) W (by have := subL_len l i r; omega)
          simp only [hv.out] at HN
          have hE : (ByteArray.mk l.toArray).extract i r = ⟨(subL l i r).toArray⟩ := ext_sub l i r
          obtain ⟨T, hT⟩ : ∃ T, subL l i r = T := ⟨_, rfl⟩
          simp only [hT] at HN
          rw [hT] at hE
          clear hT hv
          have j5 : (i : Int) ≤ (r : Int) := by omega
          have j6 : (r : Int) ≤ (l.length : Int) := by omega
          cases v with
          | none =>
            go_wp2_with fail
            refine (HN _).mono ?_
            rintro e w3 ⟨rfl, hb3⟩
            go_wp2_with fail
            refine bodyPost_ret (results_rt _ _ _ _ _ ⟨rfl, rfl, rfl⟩) rfl ?_
            exact ⟨rfl, hb3⟩
          | some x =>
            have jx : ¬ (x : Int) < 0 := by omega
            go_wp2_with fail
            refine (HN _).mono ?_
            rintro e w3 ⟨rfl, hb3⟩
            go_wp2_with fail
            refine bodyPost_ret (results_rt _ _ _ _ _ ⟨rfl, rfl, rfl⟩) rfl ?_
            exact ⟨rfl, hb3⟩
    · have j1 : ¬ (k : Int) < (l.length : Int) := by omega
      have HI : r = k := by rw [← hkr.out]; exact nrun_no (by rw [inW_end hlt, dotA_end (by decide) (by omega)]; rfl)
      subst HI
      clear hkr
      have HN := fun W : World => refNumber_all (subL l i r) W (by have := subL_len l i r; omega)
      simp only [hv.out] at HN
      have hE : (ByteArray.mk l.toArray).extract i r = ⟨(subL l i r).toArray⟩ := ext_sub l i r
      obtain ⟨T, hT⟩ : ∃ T, subL l i r = T := ⟨_, rfl⟩
      simp only [hT] at HN
      rw [hT] at hE
      clear hT hv
      have j5 : (i : Int) ≤ (r : Int) := by omega
      have j6 : (r : Int) ≤ (l.length : Int) := by omega
      cases v with
      | none =>
        go_wp2_with fail
        refine (HN _).mono ?_
        rintro e w3 ⟨rfl, hb3⟩
        go_wp2_with fail
        refine bodyPost_ret (results_rt _ _ _ _ _ ⟨rfl, rfl, rfl⟩) rfl ?_
        exact ⟨rfl, hb3⟩
      | some x =>
        have jx : ¬ (x : Int) < 0 := by omega
        go_wp2_with fail
        refine (HN _).mono ?_
        rintro e w3 ⟨rfl, hb3⟩
        go_wp2_with fail
        refine bodyPost_ret (results_rt _ _ _ _ _ ⟨rfl, rfl, rfl⟩) rfl ?_
        exact ⟨rfl, hb3⟩
end Go.Proofs.YtialcphfaleedaaGreatDoor

import Derived.Test.YtjbfkknpkldhjaaLV
namespace Go.Proofs.Ytjbfkknpkldhjaa
open Go.RowKit
set_option maxRecDepth 100000 in
set_option maxHeartbeats 8000000 in
theorem ledgerCuts_walk (L : List (Int × List UInt8)) (p : Option Addr) (n c : Nat) (cut : Int) (w : World) (hn : L.length = n) (_ : n ≤ c) (hr : ER w p L) (_ : (Lit.int .i64 cut).wf = true) :
    Calls Try.prog 6 #[.slice p n c, .int .i64 cut] w fun e w' => e = .returned (.bool true) ∧ Below w.heap.size w w' := by
  have HR : Hid (ER w p L) := hr
  have HN : Hid (L.length = n) := hn
  clear hr hn
  go_enter Try.func6, Try.ntmps6
  go_wp2_with fail
  refine (fixed_any w).mono ?_
  rintro e W1 ⟨rfl, b1⟩
  have HWR := written_any L p n c W1 HN.out (HR.out.below b1)
  go_wp2_with fail
  refine HWR.mono ?_
  rintro e W2 ⟨v, u, rfl, hO, hD, b2⟩
  have B2 : Hid (Below w.heap.size w W2) := bel0Z b1 b2
  obtain ⟨pr, cr, rfl⟩ := hO.shape
  obtain ⟨pd, cd, rfl, hcd⟩ := hD.shape
  have HOK : Hid (okA 1 (enA L)) := enA_ok L
  have hDB := enA_bytes L
  have hRB : (recA 1 (enA L)).length ≤ 40 := by rw [recA_len]; exact enA_len L
  obtain ⟨RS, hRS⟩ : ∃ RS, recA 1 (enA L) = RS := ⟨_, rfl⟩
  obtain ⟨DS, hDS⟩ : ∃ DS, encA 1 (enA L) = DS := ⟨_, rfl⟩
  have hcut : ∀ j, j ≤ DS.length → whL 1 (DS.take j) = RS.take (cntA RS j) ∧ whE 1 (DS.take j) = (if whB (RS.take (cntA RS j)) = j then 0 else 191) := fun j hj => by
    have := wh_cut (enA L) 1 j HOK.out (by rw [hDS]; exact hj)
    rw [hRS, hDS] at this
    exact this
  have HCUT : Hid (∀ j, j ≤ DS.length → whL 1 (DS.take j) = RS.take (cntA RS j) ∧ whE 1 (DS.take j) = (if whB (RS.take (cntA RS j)) = j then 0 else 191)) := hcut
  have hwl : DS.length = whB RS := by rw [← hDS, ← hRS]; exact encA_len _ 1
  rw [hRS] at hO hRB ⊢
  rw [hDS] at hD hDB hcd ⊢
  have HRR : Hid (RR W2 pr RS) := hO.rr
  have HBR : Hid (BR W2 pd DS) := hD.br
  obtain ⟨NR, hNR⟩ : ∃ NR, RS.length = NR := ⟨_, rfl⟩
  obtain ⟨ND, hND⟩ : ∃ ND, DS.length = ND := ⟨_, rfl⟩
  rw [hNR] at hRB ⊢
  rw [hND] at hDB hcd ⊢
  have hrc : NR ≤ cr := by rw [← hNR]; exact (by
    rcases hO.2 with ⟨e, h0⟩ | ⟨g, cc, _, e, _, _, hcc, _⟩
    · rw [h0]; exact Nat.zero_le _
    · injection e with _ _ e3
      rw [e3]; exact hcc)
  have HNR : Hid (RS.length = NR) := hNR
  have HND : Hid (DS.length = ND) := hND
  have HTX0 : Hid (∀ (k : Nat) (r : Rec), RS[k]? = some r → r.text.length ≤ 281474976710656) := fun k r hr => by
    have hk := (List.getElem?_eq_some_iff.1 hr).1
    have h5 := whB_take_succ hr
    have h6 : whB (RS.take (k + 1)) ≤ whB RS := by
      have h7 := whB_app (RS.take (k + 1)) (RS.drop (k + 1))
      rw [List.take_append_drop] at h7
      omega
    omega
  clear hO hD hcut hRS hDS HWR hNR hND b1 b2 hwl
  have HTX : Hid (∀ (k : Nat) (r : Rec), RS[k]? = some r → r.text.length ≤ 281474976710656) := HTX0.out
  clear HTX0
  by_cases h1 : cut < 0
  · go_upto_if 31 with fail
    go_cut [1] from 13 (fun v1 wz => ∃ C : Nat, v1 = .int .i64 C ∧ C ≤ ND ∧ wz = W2)
    case first =>
      go_wp2_with fail
      go_meet
      exact ⟨ND, rfl, Nat.le_refl _, rfl⟩
    case rest =>
      obtain ⟨C, rfl, hC, hW2⟩ := hcut
      subst hW2
      have HML : Hid ((DS.take C).length = C) := by show (DS.take C).length = C; rw [List.length_take, HND.out]; omega
      have HWH := whole_any (DS.take C) pd C cd wc HML.out (by omega) (by omega) (HBR.out.take C)
      obtain ⟨x1, x2⟩ := HCUT.out C (by rw [HND.out]; exact hC)
      have x3 := plc_full (DS.take C)
      have hcn := cnt_le RS C
      have hcw := cnt_whB RS C
      rw [x1] at x3
      obtain ⟨CN, hCN⟩ : ∃ CN, cntA RS C = CN := ⟨_, rfl⟩
      rw [hCN] at x1 x2 x3 hcn hcw
      rw [HNR.out] at hcn
      have hlen : (whL 1 (DS.take C)).length = CN := by rw [x1, List.length_take, HNR.out]; omega
      obtain ⟨PE, hPE⟩ : ∃ PE, whB (RS.take CN) = PE := ⟨_, rfl⟩
      rw [hPE] at x2 x3 hcw
      obtain ⟨EE, hEE⟩ : ∃ EE, whE 1 (DS.take C) = EE := ⟨_, rfl⟩
      have HEE : Hid (EE = if PE = C then 0 else 191) := by show EE = _; rw [← hEE, x2]
      have HQ : Hid (Calls Try.prog 18 #[.slice pd C cd] wc fun e w' => ∃ pg cg, e = .returned (.tuple #[.slice pg CN cg, .int .i64 (PE : Int), .int .i64 (EE : Int)]) ∧ RR w' pg (RS.take CN) ∧ Below wc.heap.size wc w') := by
        refine HWH.mono ?_
        rintro e w' ⟨v, h1, h2, h3⟩
        obtain ⟨pg, cg, rfl⟩ := h2.shape
        rw [hlen, hEE] at h1
        rw [List.length_take, HNR.out, Nat.min_eq_left hcn] at x3
        rw [x3] at h1
        have h4 := h2.rr
        rw [x1] at h4
        exact ⟨pg, cg, h1, h4, h3⟩
      have HPE : Hid (whB (RS.take CN) = PE) := hPE
      have HCN : Hid (cntA RS C = CN) := hCN
      clear HWH x1 x2 x3 hlen hPE hEE hCN
      have y0 : (0 : Int) ≤ (C : Int) := by omega
      have y1 : (C : Int) ≤ (cd : Int) := by omega
      go_wp2_with fail
      refine HQ.out.mono ?_
      rintro e W3 ⟨pg, cg, rfl, hrg, b3⟩
      have HRG : Hid (RR W3 pg (RS.take CN)) := hrg
      have HR3 : Hid (RR W3 pr RS) := HRR.out.below b3
      have B3 : Hid (Below w.heap.size w W3) := bel0Z B2.out b3
      clear hrg b3 HQ
      go_wp2_with fail
      go_loopw [11, 12] (fun vn ve wr => ∃ k e : Nat, vn = .int .i64 k ∧ ve = .int .i64 e ∧ k ≤ CN ∧ Hid (e = whB (RS.take k)) ∧ e ≤ 100000000 ∧ wr = W3) (fun vn _ _ => CN - (intOf vn).toNat)
      case atStart => exact ⟨0, 0, rfl, rfl, Nat.zero_le _, rfl, Nat.zero_le _, rfl⟩
      case round =>
        obtain ⟨k, e, rfl, rfl, hk, he, hel, rfl⟩ := hrel
        have hst := cnt_step RS k C (by rw [HCN.out]; exact hk)
        rw [HCN.out] at hst
        by_cases hlt : k < CN
        · obtain ⟨r, hr, hle⟩ := hst.1 hlt
          have hw := whB_take_succ hr
          rw [← he.out] at hle hw
          have j1 : (k : Int) < (NR : Int) := by omega
          have j0 : (0 : Int) ≤ (k : Int) := by omega
          obtain ⟨g, o, rfl, z0, z1, z2⟩ := HR3.out k r hr
          obtain ⟨rs, rk, rt⟩ := r
          simp only at hle hw z0 z1 z2
          have j2 : (e : Int) + (rt.length : Int) + 20 ≤ (C : Int) := by omega
          have HW : Hid (e + rt.length + 20 = whB (RS.take (k + 1))) := hw.symm
          clear hst hr hw he
          go_wp2_with fail
          exact ⟨⟨k + 1, e + rt.length + 20, rfl, by rw [show (((e + rt.length + 20 : Nat)) : Int) = (e : Int) + (rt.length : Int) + 20 by omega], by omega, HW, by omega, trivial⟩, by simp only [intOf]; omega⟩
        · obtain rfl : k = CN := by omega
          have HPe : Hid (e = PE) := by show e = PE; rw [he.out, HPE.out]
          have HRC := records_any (RS.take k) pg pr cg cr k wr (by rw [List.length_take, HNR.out]; omega) (by omega) HRG.out (HR3.out.take k)
          have y2 : (k : Int) ≤ (cr : Int) := by omega
          have y3 : (0 : Int) ≤ (k : Int) := by omega
          have hPe := HPe.out
          subst hPe
          have epe : ((e : Int) != (e : Int)) = false := by simp
          by_cases hkn : k < NR
          · obtain ⟨r, hr⟩ : ∃ r, RS[k]? = some r := ⟨_, List.getElem?_eq_getElem (by rw [HNR.out]; omega)⟩
            have hno : ¬ e + r.text.length + 20 ≤ C := fun h => by
              have := hst.2 ⟨r, hr, by rw [← he.out]; exact h⟩
              omega
            obtain ⟨g, o, rfl, z0, z1, z2⟩ := HR3.out k r hr
            obtain ⟨rs, rk, rt⟩ := r
            simp only at hno z0 z1 z2
            have j1 : (k : Int) < (NR : Int) := by omega
            have j2 : ¬ (e : Int) + (rt.length : Int) + 20 ≤ (C : Int) := by omega
            have j3 : rt.length ≤ 281474976710656 := HTX.out k ⟨rs, rk, rt⟩ hr
            clear hst hr he
            go_wp2_with fail
            refine HRC.mono ?_
            rintro e2 W4 ⟨rfl, b4⟩
            clear HRC
            by_cases hec : e = C
            · have hE0 : EE = 0 := by rw [HEE.out, if_pos hec]
              have q1 : ((e : Int) == (C : Int)) = true := by simp [hec]
              subst hE0
              clear hec
              go_wp2_with fail
              go_ret
              exact ⟨rfl, bel0Z B3.out b4⟩
            · have hE0 : EE = 191 := by rw [HEE.out, if_neg hec]
              have q1 : ((e : Int) == (C : Int)) = false := by simp; omega
              subst hE0
              clear hec
              go_wp2_with fail
              go_ret
              exact ⟨rfl, bel0Z B3.out b4⟩
          · have j1 : ¬ (k : Int) < (NR : Int) := by omega
            clear hst he
            go_wp2_with fail
            refine HRC.mono ?_
            rintro e2 W4 ⟨rfl, b4⟩
            clear HRC
            by_cases hec : e = C
            · have hE0 : EE = 0 := by rw [HEE.out, if_pos hec]
              have q1 : ((e : Int) == (C : Int)) = true := by simp [hec]
              subst hE0
              clear hec
              go_wp2_with fail
              go_ret
              exact ⟨rfl, bel0Z B3.out b4⟩
            · have hE0 : EE = 191 := by rw [HEE.out, if_neg hec]
              have q1 : ((e : Int) == (C : Int)) = false := by simp; omega
              subst hE0
              clear hec
              go_wp2_with fail
              go_ret
              exact ⟨rfl, bel0Z B3.out b4⟩
  · go_upto_if 31 with fail
    go_cut [1] from 13 (fun v1 wz => ∃ C : Nat, v1 = .int .i64 C ∧ C ≤ ND ∧ wz = W2)
    case first =>
      by_cases h2 : (ND : Int) < cut
      · go_wp2_with fail
        go_meet
        exact ⟨ND, rfl, Nat.le_refl _, rfl⟩
      · obtain ⟨C, rfl⟩ : ∃ C : Nat, cut = C := ⟨cut.toNat, by omega⟩
        go_wp2_with fail
        go_meet
        exact ⟨C, rfl, by omega, rfl⟩
    case rest =>
      obtain ⟨C, rfl, hC, hW2⟩ := hcut
      subst hW2
      have HML : Hid ((DS.take C).length = C) := by show (DS.take C).length = C; rw [List.length_take, HND.out]; omega
      have HWH := whole_any (DS.take C) pd C cd wc HML.out (by omega) (by omega) (HBR.out.take C)
      obtain ⟨x1, x2⟩ := HCUT.out C (by rw [HND.out]; exact hC)
      have x3 := plc_full (DS.take C)
      have hcn := cnt_le RS C
      have hcw := cnt_whB RS C
      rw [x1] at x3
      obtain ⟨CN, hCN⟩ : ∃ CN, cntA RS C = CN := ⟨_, rfl⟩
      rw [hCN] at x1 x2 x3 hcn hcw
      rw [HNR.out] at hcn
      have hlen : (whL 1 (DS.take C)).length = CN := by rw [x1, List.length_take, HNR.out]; omega
      obtain ⟨PE, hPE⟩ : ∃ PE, whB (RS.take CN) = PE := ⟨_, rfl⟩
      rw [hPE] at x2 x3 hcw
      obtain ⟨EE, hEE⟩ : ∃ EE, whE 1 (DS.take C) = EE := ⟨_, rfl⟩
      have HEE : Hid (EE = if PE = C then 0 else 191) := by show EE = _; rw [← hEE, x2]
      have HQ : Hid (Calls Try.prog 18 #[.slice pd C cd] wc fun e w' => ∃ pg cg, e = .returned (.tuple #[.slice pg CN cg, .int .i64 (PE : Int), .int .i64 (EE : Int)]) ∧ RR w' pg (RS.take CN) ∧ Below wc.heap.size wc w') := by
        refine HWH.mono ?_
        rintro e w' ⟨v, h1, h2, h3⟩
        obtain ⟨pg, cg, rfl⟩ := h2.shape
        rw [hlen, hEE] at h1
        rw [List.length_take, HNR.out, Nat.min_eq_left hcn] at x3
        rw [x3] at h1
        have h4 := h2.rr
        rw [x1] at h4
        exact ⟨pg, cg, h1, h4, h3⟩
      have HPE : Hid (whB (RS.take CN) = PE) := hPE
      have HCN : Hid (cntA RS C = CN) := hCN
      clear HWH x1 x2 x3 hlen hPE hEE hCN
      have y0 : (0 : Int) ≤ (C : Int) := by omega
      have y1 : (C : Int) ≤ (cd : Int) := by omega
      go_wp2_with fail
      refine HQ.out.mono ?_
      rintro e W3 ⟨pg, cg, rfl, hrg, b3⟩
      have HRG : Hid (RR W3 pg (RS.take CN)) := hrg
      have HR3 : Hid (RR W3 pr RS) := HRR.out.below b3
      have B3 : Hid (Below w.heap.size w W3) := bel0Z B2.out b3
      clear hrg b3 HQ
      go_wp2_with fail
      go_loopw [11, 12] (fun vn ve wr => ∃ k e : Nat, vn = .int .i64 k ∧ ve = .int .i64 e ∧ k ≤ CN ∧ Hid (e = whB (RS.take k)) ∧ e ≤ 100000000 ∧ wr = W3) (fun vn _ _ => CN - (intOf vn).toNat)
      case atStart => exact ⟨0, 0, rfl, rfl, Nat.zero_le _, rfl, Nat.zero_le _, rfl⟩
      case round =>
        obtain ⟨k, e, rfl, rfl, hk, he, hel, rfl⟩ := hrel
        have hst := cnt_step RS k C (by rw [HCN.out]; exact hk)
        rw [HCN.out] at hst
        by_cases hlt : k < CN
        · obtain ⟨r, hr, hle⟩ := hst.1 hlt
          have hw := whB_take_succ hr
          rw [← he.out] at hle hw
          have j1 : (k : Int) < (NR : Int) := by omega
          have j0 : (0 : Int) ≤ (k : Int) := by omega
          obtain ⟨g, o, rfl, z0, z1, z2⟩ := HR3.out k r hr
          obtain ⟨rs, rk, rt⟩ := r
          simp only at hle hw z0 z1 z2
          have j2 : (e : Int) + (rt.length : Int) + 20 ≤ (C : Int) := by omega
          have HW : Hid (e + rt.length + 20 = whB (RS.take (k + 1))) := hw.symm
          clear hst hr hw he
          go_wp2_with fail
          exact ⟨⟨k + 1, e + rt.length + 20, rfl, by rw [show (((e + rt.length + 20 : Nat)) : Int) = (e : Int) + (rt.length : Int) + 20 by omega], by omega, HW, by omega, trivial⟩, by simp only [intOf]; omega⟩
        · obtain rfl : k = CN := by omega
          have HPe : Hid (e = PE) := by show e = PE; rw [he.out, HPE.out]
          have HRC := records_any (RS.take k) pg pr cg cr k wr (by rw [List.length_take, HNR.out]; omega) (by omega) HRG.out (HR3.out.take k)
          have y2 : (k : Int) ≤ (cr : Int) := by omega
          have y3 : (0 : Int) ≤ (k : Int) := by omega
          have hPe := HPe.out
          subst hPe
          have epe : ((e : Int) != (e : Int)) = false := by simp
          by_cases hkn : k < NR
          · obtain ⟨r, hr⟩ : ∃ r, RS[k]? = some r := ⟨_, List.getElem?_eq_getElem (by rw [HNR.out]; omega)⟩
            have hno : ¬ e + r.text.length + 20 ≤ C := fun h => by
              have := hst.2 ⟨r, hr, by rw [← he.out]; exact h⟩
              omega
            obtain ⟨g, o, rfl, z0, z1, z2⟩ := HR3.out k r hr
            obtain ⟨rs, rk, rt⟩ := r
            simp only at hno z0 z1 z2
            have j1 : (k : Int) < (NR : Int) := by omega
            have j2 : ¬ (e : Int) + (rt.length : Int) + 20 ≤ (C : Int) := by omega
            have j3 : rt.length ≤ 281474976710656 := HTX.out k ⟨rs, rk, rt⟩ hr
            clear hst hr he
            go_wp2_with fail
            refine HRC.mono ?_
            rintro e2 W4 ⟨rfl, b4⟩
            clear HRC
            by_cases hec : e = C
            · have hE0 : EE = 0 := by rw [HEE.out, if_pos hec]
              have q1 : ((e : Int) == (C : Int)) = true := by simp [hec]
              subst hE0
              clear hec
              go_wp2_with fail
              go_ret
              exact ⟨rfl, bel0Z B3.out b4⟩
            · have hE0 : EE = 191 := by rw [HEE.out, if_neg hec]
              have q1 : ((e : Int) == (C : Int)) = false := by simp; omega
              subst hE0
              clear hec
              go_wp2_with fail
              go_ret
              exact ⟨rfl, bel0Z B3.out b4⟩
          · have j1 : ¬ (k : Int) < (NR : Int) := by omega
            clear hst he
            go_wp2_with fail
            refine HRC.mono ?_
            rintro e2 W4 ⟨rfl, b4⟩
            clear HRC
            by_cases hec : e = C
            · have hE0 : EE = 0 := by rw [HEE.out, if_pos hec]
              have q1 : ((e : Int) == (C : Int)) = true := by simp [hec]
              subst hE0
              clear hec
              go_wp2_with fail
              go_ret
              exact ⟨rfl, bel0Z B3.out b4⟩
            · have hE0 : EE = 191 := by rw [HEE.out, if_neg hec]
              have q1 : ((e : Int) == (C : Int)) = false := by simp; omega
              subst hE0
              clear hec
              go_wp2_with fail
              go_ret
              exact ⟨rfl, bel0Z B3.out b4⟩
end Go.Proofs.Ytjbfkknpkldhjaa

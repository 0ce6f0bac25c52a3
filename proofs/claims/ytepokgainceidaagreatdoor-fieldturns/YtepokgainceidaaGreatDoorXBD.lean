import Derived.Test.YtepokgainceidaaGreatDoorXBB
namespace Go.Proofs.YtepokgainceidaaGreatDoor
open Go.RowKit Go.Shelf
theorem digL0 (b v : Nat) : (List.range b).map (bitB b v) = digL b v 0 := by simp [digL]
set_option maxRecDepth 100000 in
set_option maxHeartbeats 8000000 in
theorem refPack_any (L : List IFld) (o : Option Addr) (c : Nat) (V : List Int) (o2 : Option Addr) (c2 : Nat) (w : World) (hL : L.length ≤ 281474976710656) (hx : ∀ f ∈ L, f.1.length ≤ 281474976710656) (hr : IRF w o L) (hrv : IRV w o2 V) :
    Calls Tryz.prog 64 #[.slice o L.length c, .slice o2 V.length c2] w fun e w' => e = .returned (.tuple #[.string ⟨(pkM L V).1.toArray⟩, .int .i64 (pkM L V).2]) ∧ Below w.heap.size w w' := by
  have HC := refCheck_any L o c w hL hx hr
  obtain ⟨R, hR⟩ : ∃ R, pkM L V = R := ⟨_, rfl⟩
  rw [hR]
  by_cases h0 : ¬ (chkM L).1 = 0
  · have hres : Hid (R = ([], (chkM L).1)) := by unfold Hid; rw [← hR]; unfold pkM; rw [if_pos h0]
    obtain ⟨ce, hce⟩ : ∃ x, (chkM L).1 = x := ⟨_, rfl⟩
    rw [hce] at HC h0 hres
    have y1 : (ce != 0) = true := by simpa using h0
    clear hx hr hrv hR hce
    go_enter Tryz.func64, Tryz.ntmps64
    go_wp2_with fail
    refine HC.mono ?_
    rintro e W1 ⟨rfl, hb1⟩
    go_wp2_with fail
    refine bodyPost_ret (results_tmp2 rfl _ _ _) rfl ?_
    exact ⟨by rw [hres.out]; rfl, hb1⟩
  replace h0 := Classical.not_not.1 h0
  rw [h0] at HC
  obtain ⟨k1, k2, k3, k4⟩ := chk_ok h0
  by_cases hlen : ¬ V.length = L.length
  · have hres : Hid (R = ([], 1)) := by unfold Hid; rw [← hR]; unfold pkM; rw [if_neg (fun h => h h0), if_pos hlen]
    have y1 : ((V.length : Int) != (L.length : Int)) = true := by simp only [bne_iff_ne]; omega
    clear hx hr hrv hR
    go_enter Tryz.func64, Tryz.ntmps64
    go_wp2_with fail
    refine HC.mono ?_
    rintro e W1 ⟨rfl, hb1⟩
    go_wp2_with fail
    refine bodyPost_ret (results_tmp2 rfl _ _ _) rfl ?_
    exact ⟨by rw [hres.out]; rfl, hb1⟩
  replace hlen := Classical.not_not.1 hlen
  have y1 : ((V.length : Int) != (L.length : Int)) = false := by rw [hlen]; simp
  have HRF : Hid (pkF (L.drop 0) (V.drop 0) [] = R) := by unfold Hid; rw [← hR]; unfold pkM; rw [if_neg (fun h => h h0), if_neg (fun h => h hlen)]; rfl
  have HR : Hid (IRF w o L) := hr
  have HRV : Hid (IRV w o2 V) := hrv
  have HLV : Hid (V.length = L.length) := hlen
  have HK3 : Hid (∀ f ∈ L, 1 ≤ f.2 ∧ f.2 ≤ 32) := k3
  clear hx hr hrv hR h0 k3 k4
  go_enter Tryz.func64, Tryz.ntmps64
  go_wp2_with fail
  refine HC.mono ?_
  rintro e W1 ⟨rfl, hb1⟩
  clear HC
  go_wp2_with fail
  go_loopw [8, 9] (fun vs vk wr => ∃ (k : Nat) (acc : List UInt8), vk = .int .i64 k ∧ k ≤ L.length ∧ vs = .string ⟨acc.toArray⟩ ∧ acc.length ≤ 32 * k ∧ Hid (pkF (L.drop k) (V.drop k) acc = R) ∧ Below w.heap.size w wr) (fun _ vk _ => L.length - (intOf vk).toNat)
  case atStart => exact ⟨0, [], rfl, Nat.zero_le _, rfl, by simp, HRF, hb1⟩
  case round =>
    clear HRF hb1
    obtain ⟨k, acc, rfl, hk, rfl, hal, hrun, hB⟩ := hrel
    by_cases hlt : k < L.length
    · have j1 : (k : Int) < (L.length : Int) := by omega
      have j0 : (0 : Int) ≤ (k : Int) := by omega
      obtain ⟨f, hf⟩ : ∃ f, L[k]? = some f := ⟨_, List.getElem?_eq_getElem hlt⟩
      obtain ⟨v, hv⟩ : ∃ v, V[k]? = some v := ⟨_, List.getElem?_eq_getElem (by rw [HLV.out]; exact hlt)⟩
      have j2 : (k : Int) < (V.length : Int) := by rw [HLV.out]; omega
      obtain ⟨g, o0, rfl, -⟩ := HR.out wr hB k f hf
      obtain ⟨g2, q0, rfl, -⟩ := HRV.out wr hB k v hv
      have hstep := hrun.out
      rw [pkF_step hf hv] at hstep
      have hbits := HK3.out f (List.mem_of_getElem? hf)
      have XV : Hid (∀ W : World, Below w.heap.size w W → W.cell? ⟨g2, q0 + k, none⟩ = some (.int .i64 v)) := fun W hW => by
        obtain ⟨g3, q3, h1, h2⟩ := HRV.out W hW k v hv
        injection h1 with h1
        injection h1 with h1 h4
        subst h1 h4
        exact h2
      have XF : Hid (∀ W : World, Below w.heap.size w W → W.cell? ⟨g, o0 + k * 2 + 1, none⟩ = some (.int .i64 f.2)) := fun W hW => by
        obtain ⟨g3, q3, h1, -, h2⟩ := HR.out W hW k f hf
        injection h1 with h1
        injection h1 with h1 h4
        subst h1 h4
        exact h2
      obtain ⟨x, bi⟩ := f
      obtain ⟨b, rfl⟩ : ∃ b : Nat, bi = (b : Int) := ⟨bi.toNat, by simp only at hbits; omega⟩
      simp only [Int.toNat_natCast] at hstep hbits XF
      have hb32 : b ≤ 32 := by omega
      have HSTEP : Hid ((if 0 ≤ v ∧ v ≤ ((2 ^ b - 1 : Nat) : Int) then pkF (L.drop (k + 1)) (V.drop (k + 1)) (acc ++ digL b v.toNat 0) else ([], 42)) = R) := hstep
      have HP2 : Hid (2 ^ b ≤ 2 ^ 32) := Nat.pow_le_pow_right (by decide) hb32
      have HTP : Hid (∀ W : World, Calls Tryz.prog 69 #[.int .i64 (b : Int)] W fun e w' => e = .returned (.int .i64 ((2 ^ b - 1 : Nat) : Int)) ∧ w' = W) := fun W => top_any b hb32 W
      obtain ⟨tp, htp⟩ : ∃ t : Nat, 2 ^ b - 1 = t := ⟨_, rfl⟩
      have htp2 : tp < 4294967296 := by have := HP2.out; omega
      rw [htp] at HSTEP
      simp only [htp] at HTP
      clear hrun hf hv hstep htp
      by_cases hv0 : v < 0
      · have hres : Hid (R = ([], 42)) := by unfold Hid; rw [← HSTEP.out, if_neg (by omega)]
        clear HSTEP
        go_wp2_with fail
        refine quiet_lit3 (C := fun W => Below w.heap.size w W) (by kernel_rfl) (by kernel_rfl) (show Below _ _ _ from hB.drew) ?_
        go_big_quiet_want
        go_big_quiet_op
        go_big_quiet_on
        go_big_quiet_want
        go_big_quiet_op
        go_big_quiet_on
        go_big_quiet_want
        refine ⟨.pointer (some ⟨g2, q0 + k, none⟩), fun W hW => ?_, ?_⟩
        · go_simp
        go_big_quiet_on
        simp only [Act.put, List.setIfInBounds_toArray, List.set_cons_zero, List.set_cons_succ]
        go_big_quiet_want
        refine ⟨.int .i64 v, fun W hW => ?_, ?_⟩
        · have z0 := XV.out W hW
          go_simp
        go_big_quiet_on
        simp only [Act.put, List.setIfInBounds_toArray, List.set_cons_zero, List.set_cons_succ]
        go_big_quiet_want
        refine ⟨.bool true, fun W hW => ?_, ?_⟩
        · go_simp
        go_big_quiet_on
        simp only [Act.put, List.setIfInBounds_toArray, List.set_cons_zero, List.set_cons_succ]
        go_big_quiet_want
        go_big_quiet_op
        go_big_quiet_on
        go_big_quiet_skip
        go_big_quiet_skip
        go_big_quiet_skip
        go_big_quiet_skip
        go_big_quiet_skip
        go_big_quiet_skip
        go_big_quiet_skip
        go_big_quiet_skip
        go_big_quiet_skip
        go_big_quiet_skip
        go_big_quiet_skip
        go_big_quiet_want
        refine ⟨.bool true, fun W hW => ?_, ?_⟩
        · go_simp
        go_big_quiet_on
        simp only [Act.put, List.setIfInBounds_toArray, List.set_cons_zero, List.set_cons_succ]
        refine wpQuiet_nil ?_
        intro W hW
        go_wp2_with fail
        refine bodyPost_ret (results_tmp2 rfl _ _ _) rfl ?_
        exact ⟨by rw [hres.out]; rfl, hW⟩
      by_cases hvt : (tp : Int) < v
      · have hres : Hid (R = ([], 42)) := by unfold Hid; rw [← HSTEP.out, if_neg (by omega)]
        clear HSTEP
        go_wp2_with fail
        refine quiet_lit3 (C := fun W => Below w.heap.size w W) (by kernel_rfl) (by kernel_rfl) (show Below _ _ _ from hB.drew) ?_
        go_big_quiet_want
        go_big_quiet_op
        go_big_quiet_on
        go_big_quiet_want
        go_big_quiet_op
        go_big_quiet_on
        go_big_quiet_want
        refine ⟨.pointer (some ⟨g2, q0 + k, none⟩), fun W hW => ?_, ?_⟩
        · go_simp
        go_big_quiet_on
        simp only [Act.put, List.setIfInBounds_toArray, List.set_cons_zero, List.set_cons_succ]
        go_big_quiet_want
        refine ⟨.int .i64 v, fun W hW => ?_, ?_⟩
        · have z0 := XV.out W hW
          go_simp
        go_big_quiet_on
        simp only [Act.put, List.setIfInBounds_toArray, List.set_cons_zero, List.set_cons_succ]
        go_big_quiet_want
        refine ⟨.bool false, fun W hW => ?_, ?_⟩
        · go_simp
          try omega
        go_big_quiet_on
        simp only [Act.put, List.setIfInBounds_toArray, List.set_cons_zero, List.set_cons_succ]
        go_big_quiet_want
        go_big_quiet_op
        go_big_quiet_on
        go_big_quiet_want
        go_big_quiet_op
        go_big_quiet_on
        go_big_quiet_want
        go_big_quiet_op
        go_big_quiet_on
        go_big_quiet_want
        refine ⟨.pointer (some ⟨g2, q0 + k, none⟩), fun W hW => ?_, ?_⟩
        · go_simp
        go_big_quiet_on
        simp only [Act.put, List.setIfInBounds_toArray, List.set_cons_zero, List.set_cons_succ]
        go_big_quiet_want
        refine ⟨.int .i64 v, fun W hW => ?_, ?_⟩
        · have z0 := XV.out W hW
          go_simp
        go_big_quiet_on
        simp only [Act.put, List.setIfInBounds_toArray, List.set_cons_zero, List.set_cons_succ]
        go_big_quiet_want
        go_big_quiet_op
        go_big_quiet_on
        go_big_quiet_want
        go_big_quiet_op
        go_big_quiet_on
        go_big_quiet_want
        refine ⟨.pointer (some ⟨g, o0 + k * 2, none⟩), fun W hW => ?_, ?_⟩
        · go_simp
        go_big_quiet_on
        simp only [Act.put, List.setIfInBounds_toArray, List.set_cons_zero, List.set_cons_succ]
        go_big_quiet_want
        refine ⟨.pointer (some ⟨g, o0 + k * 2 + 1, none⟩), fun W hW => ?_, ?_⟩
        · go_simp
        go_big_quiet_on
        simp only [Act.put, List.setIfInBounds_toArray, List.set_cons_zero, List.set_cons_succ]
        go_big_quiet_want
        refine ⟨.int .i64 (b : Int), fun W hW => ?_, ?_⟩
        · have z0 := XF.out W hW
          go_simp
        go_big_quiet_on
        simp only [Act.put, List.setIfInBounds_toArray, List.set_cons_zero, List.set_cons_succ]
        go_big_quiet_want
        refine ⟨.int .i64 (tp : Int), fun W hW => ?_, ?_⟩
        · go_simp
          refine (HTP.out W).mono ?_
          rintro e w7 ⟨rfl, rfl⟩
          exact ⟨rfl, by simpa using hW⟩
        go_big_quiet_on
        simp only [Act.put, List.setIfInBounds_toArray, List.set_cons_zero, List.set_cons_succ]
        go_big_quiet_want
        refine ⟨.bool true, fun W hW => ?_, ?_⟩
        · go_simp
          try omega
        go_big_quiet_on
        simp only [Act.put, List.setIfInBounds_toArray, List.set_cons_zero, List.set_cons_succ]
        go_big_quiet_want
        refine ⟨.bool true, fun W hW => ?_, ?_⟩
        · go_simp
        go_big_quiet_on
        simp only [Act.put, List.setIfInBounds_toArray, List.set_cons_zero, List.set_cons_succ]
        refine wpQuiet_nil ?_
        intro W hW
        go_wp2_with fail
        refine bodyPost_ret (results_tmp2 rfl _ _ _) rfl ?_
        exact ⟨by rw [hres.out]; rfl, hW⟩
      have hgo : Hid (pkF (L.drop (k + 1)) (V.drop (k + 1)) (acc ++ digL b v.toNat 0) = R) := by unfold Hid; rw [← HSTEP.out, if_pos (by omega)]
      obtain ⟨vn, rfl⟩ : ∃ vn : Nat, v = (vn : Int) := ⟨v.toNat, by omega⟩
      rw [Int.toNat_natCast] at hgo
      have HDG : Hid (∀ W : World, Calls Tryz.prog 96 #[.int .i64 (vn : Int), .int .i64 (b : Int)] W fun e w' => e = .returned (.string ⟨(digL b vn 0).toArray⟩) ∧ Below W.heap.size W w') := fun W => by
        have := rdigits_any vn b hb32 (by omega) W
        rw [digL0] at this
        exact this
      have hDl := digL_len b vn 0 (Nat.zero_le _)
      obtain ⟨D, hD⟩ : ∃ D, digL b vn 0 = D := ⟨_, rfl⟩
      rw [hD] at hgo hDl
      simp only [hD] at HDG
      have HDL : Hid (D.length = b) := hDl
      clear HSTEP hD hDl
      go_wp2_with fail
      refine quiet_lit3 (C := fun W => Below w.heap.size w W) (by kernel_rfl) (by kernel_rfl) (show Below _ _ _ from hB.drew) ?_
      go_big_quiet_want
      go_big_quiet_op
      go_big_quiet_on
      go_big_quiet_want
      go_big_quiet_op
      go_big_quiet_on
      go_big_quiet_want
      refine ⟨.pointer (some ⟨g2, q0 + k, none⟩), fun W hW => ?_, ?_⟩
      · go_simp
      go_big_quiet_on
      simp only [Act.put, List.setIfInBounds_toArray, List.set_cons_zero, List.set_cons_succ]
      go_big_quiet_want
      refine ⟨.int .i64 (vn : Int), fun W hW => ?_, ?_⟩
      · have z0 := XV.out W hW
        go_simp
      go_big_quiet_on
      simp only [Act.put, List.setIfInBounds_toArray, List.set_cons_zero, List.set_cons_succ]
      go_big_quiet_want
      refine ⟨.bool false, fun W hW => ?_, ?_⟩
      · go_simp
        try omega
      go_big_quiet_on
      simp only [Act.put, List.setIfInBounds_toArray, List.set_cons_zero, List.set_cons_succ]
      go_big_quiet_want
      go_big_quiet_op
      go_big_quiet_on
      go_big_quiet_want
      go_big_quiet_op
      go_big_quiet_on
      go_big_quiet_want
      go_big_quiet_op
      go_big_quiet_on
      go_big_quiet_want
      refine ⟨.pointer (some ⟨g2, q0 + k, none⟩), fun W hW => ?_, ?_⟩
      · go_simp
      go_big_quiet_on
      simp only [Act.put, List.setIfInBounds_toArray, List.set_cons_zero, List.set_cons_succ]
      go_big_quiet_want
      refine ⟨.int .i64 (vn : Int), fun W hW => ?_, ?_⟩
      · have z0 := XV.out W hW
        go_simp
      go_big_quiet_on
      simp only [Act.put, List.setIfInBounds_toArray, List.set_cons_zero, List.set_cons_succ]
      go_big_quiet_want
      go_big_quiet_op
      go_big_quiet_on
      go_big_quiet_want
      go_big_quiet_op
      go_big_quiet_on
      go_big_quiet_want
      refine ⟨.pointer (some ⟨g, o0 + k * 2, none⟩), fun W hW => ?_, ?_⟩
      · go_simp
      go_big_quiet_on
      simp only [Act.put, List.setIfInBounds_toArray, List.set_cons_zero, List.set_cons_succ]
      go_big_quiet_want
      refine ⟨.pointer (some ⟨g, o0 + k * 2 + 1, none⟩), fun W hW => ?_, ?_⟩
      · go_simp
      go_big_quiet_on
      simp only [Act.put, List.setIfInBounds_toArray, List.set_cons_zero, List.set_cons_succ]
      go_big_quiet_want
      refine ⟨.int .i64 (b : Int), fun W hW => ?_, ?_⟩
      · have z0 := XF.out W hW
        go_simp
      go_big_quiet_on
      simp only [Act.put, List.setIfInBounds_toArray, List.set_cons_zero, List.set_cons_succ]
      go_big_quiet_want
      refine ⟨.int .i64 (tp : Int), fun W hW => ?_, ?_⟩
      · go_simp
        refine (HTP.out W).mono ?_
        rintro e w7 ⟨rfl, rfl⟩
        exact ⟨rfl, by simpa using hW⟩
      go_big_quiet_on
      simp only [Act.put, List.setIfInBounds_toArray, List.set_cons_zero, List.set_cons_succ]
      go_big_quiet_want
      refine ⟨.bool false, fun W hW => ?_, ?_⟩
      · go_simp
        try omega
      go_big_quiet_on
      simp only [Act.put, List.setIfInBounds_toArray, List.set_cons_zero, List.set_cons_succ]
      go_big_quiet_want
      refine ⟨.bool false, fun W hW => ?_, ?_⟩
      · go_simp
      go_big_quiet_on
      simp only [Act.put, List.setIfInBounds_toArray, List.set_cons_zero, List.set_cons_succ]
      refine wpQuiet_nil ?_
      intro W hW
      have hB2 : Below w.heap.size w W := hW
      clear hB hW
      go_wp2_with fail
      refine quiet_lit3 (C := fun Wz => Below w.heap.size w Wz) (by kernel_rfl) (by kernel_rfl) (show Below _ _ _ from hB2.drew) ?_
      go_big_quiet_want
      go_big_quiet_op
      go_big_quiet_on
      go_big_quiet_want
      go_big_quiet_op
      go_big_quiet_on
      go_big_quiet_want
      go_big_quiet_op
      go_big_quiet_on
      go_big_quiet_want
      refine ⟨.pointer (some ⟨g2, q0 + k, none⟩), fun W hW => ?_, ?_⟩
      · go_simp
      go_big_quiet_on
      simp only [Act.put, List.setIfInBounds_toArray, List.set_cons_zero, List.set_cons_succ]
      go_big_quiet_want
      refine ⟨.int .i64 (vn : Int), fun W hW => ?_, ?_⟩
      · have z0 := XV.out W hW
        go_simp
      go_big_quiet_on
      simp only [Act.put, List.setIfInBounds_toArray, List.set_cons_zero, List.set_cons_succ]
      go_big_quiet_want
      go_big_quiet_op
      go_big_quiet_on
      go_big_quiet_want
      go_big_quiet_op
      go_big_quiet_on
      go_big_quiet_want
      refine ⟨.pointer (some ⟨g, o0 + k * 2, none⟩), fun W hW => ?_, ?_⟩
      · go_simp
      go_big_quiet_on
      simp only [Act.put, List.setIfInBounds_toArray, List.set_cons_zero, List.set_cons_succ]
      go_big_quiet_want
      refine ⟨.pointer (some ⟨g, o0 + k * 2 + 1, none⟩), fun W hW => ?_, ?_⟩
      · go_simp
      go_big_quiet_on
      simp only [Act.put, List.setIfInBounds_toArray, List.set_cons_zero, List.set_cons_succ]
      go_big_quiet_want
      refine ⟨.int .i64 (b : Int), fun W hW => ?_, ?_⟩
      · have z0 := XF.out W hW
        go_simp
      go_big_quiet_on
      simp only [Act.put, List.setIfInBounds_toArray, List.set_cons_zero, List.set_cons_succ]
      go_big_quiet_want
      refine ⟨.string ⟨D.toArray⟩, fun W hW => ?_, ?_⟩
      · go_simp
        refine (HDG.out W).mono ?_
        rintro e w7 ⟨rfl, hb⟩
        exact ⟨rfl, bel0 hW hb⟩
      go_big_quiet_on
      simp only [Act.put, List.setIfInBounds_toArray, List.set_cons_zero, List.set_cons_succ]
      go_big_quiet_want
      refine ⟨.string ⟨(acc ++ D).toArray⟩, fun W hW => ?_, ?_⟩
      · go_simp
        rw [if_neg (by rw [HDL.out]; omega)]
        exact ⟨rfl, by rw [cat_bytes]⟩
      go_big_quiet_on
      simp only [Act.put, List.setIfInBounds_toArray, List.set_cons_zero, List.set_cons_succ]
      go_big_quiet_want
      go_big_quiet_op
      go_big_quiet_on
      refine wpQuiet_nil ?_
      intro W2 hW2
      go_wp2_with fail
      go_roundw
      case rel => exact ⟨k + 1, acc ++ D, by go_num, by omega, rfl, by rw [List.length_append, HDL.out]; omega, hgo, hW2⟩
      case measure => simp [intOf]; omega
    · have j1 : ¬ (k : Int) < (L.length : Int) := by omega
      have hres : Hid (R = (acc, 0)) := by
        unfold Hid
        rw [← hrun.out, pkF_end (by omega)]
      clear hrun
      go_wp2_with fail
      refine bodyPost_ret (results_tmp2 rfl _ _ _) rfl ?_
      exact ⟨by rw [hres.out]; rfl, hB⟩
set_option maxRecDepth 100000 in
set_option maxHeartbeats 2000000 in
theorem alike_any (V : List Int) (o1 o2 : Option Addr) (c1 c2 : Nat) (w : World) (hL : V.length ≤ 281474976710656) (h1 : IRV w o1 V) (h2 : IRV w o2 V) :
    Calls Tryz.prog 31 #[.slice o1 V.length c1, .slice o2 V.length c2] w fun e w' => e = .returned (.bool true) ∧ Below w.heap.size w w' := by
  have x1 : Hid (IRV w o1 V) := h1
  have x2 : Hid (IRV w o2 V) := h2
  clear h1 h2
  go_enter Tryz.func31, Tryz.ntmps31
  go_wp2_with fail
  go_loopw [5] (fun i wr => ∃ k : Nat, k ≤ V.length ∧ i = .int .i64 k ∧ Below w.heap.size w wr) (fun i _ => V.length - (intOf i).toNat)
  case atStart => exact ⟨0, Nat.zero_le _, rfl, Below.refl _ _⟩
  case round =>
    obtain ⟨k, hk, rfl, hB⟩ := hrel
    by_cases hlt : k < V.length
    · have j1 : (k : Int) < (V.length : Int) := by omega
      have j0 : (0 : Int) ≤ (k : Int) := by omega
      obtain ⟨f, hf⟩ : ∃ f, V[k]? = some f := ⟨_, List.getElem?_eq_getElem hlt⟩
      obtain ⟨G1, Q1, rfl, -⟩ := x1.out w (Below.refl _ _) k f hf
      obtain ⟨G2, Q2, rfl, -⟩ := x2.out w (Below.refl _ _) k f hf
      have X1 : Hid (∀ W, Below w.heap.size w W → W.cell? ⟨G1, Q1 + k, none⟩ = some (.int .i64 f)) := fun W hW => by
        obtain ⟨g2, q2, e, h⟩ := x1.out W hW k f hf
        injection e with e
        injection e with e1 e2
        subst e1 e2
        exact h
      have X2 : Hid (∀ W, Below w.heap.size w W → W.cell? ⟨G2, Q2 + k, none⟩ = some (.int .i64 f)) := fun W hW => by
        obtain ⟨g2, q2, e, h⟩ := x2.out W hW k f hf
        injection e with e
        injection e with e1 e2
        subst e1 e2
        exact h
      clear x1 x2 hf
      go_wp2_with fail
      refine quiet_lit3 (C := fun W => Below w.heap.size w W) (by kernel_rfl) (by kernel_rfl) (show Below _ _ _ from hB.drew) ?_
      go_big_quiet_want
      go_big_quiet_op
      go_big_quiet_on
      go_big_quiet_want
      go_big_quiet_op
      go_big_quiet_on
      go_big_quiet_want
      refine ⟨.pointer (some ⟨G1, Q1 + k, none⟩), fun W hW => ?_, ?_⟩
      · go_simp
      go_big_quiet_on
      simp only [Act.put, List.setIfInBounds_toArray, List.set_cons_zero, List.set_cons_succ]
      go_big_quiet_want
      refine ⟨.int .i64 f, fun W hW => ?_, ?_⟩
      · have z0 := X1.out W hW
        go_simp
      go_big_quiet_on
      simp only [Act.put, List.setIfInBounds_toArray, List.set_cons_zero, List.set_cons_succ]
      go_big_quiet_want
      go_big_quiet_op
      go_big_quiet_on
      go_big_quiet_want
      go_big_quiet_op
      go_big_quiet_on
      go_big_quiet_want
      refine ⟨.pointer (some ⟨G2, Q2 + k, none⟩), fun W hW => ?_, ?_⟩
      · go_simp
      go_big_quiet_on
      simp only [Act.put, List.setIfInBounds_toArray, List.set_cons_zero, List.set_cons_succ]
      go_big_quiet_want
      refine ⟨.int .i64 f, fun W hW => ?_, ?_⟩
      · have z0 := X2.out W hW
        go_simp
      go_big_quiet_on
      simp only [Act.put, List.setIfInBounds_toArray, List.set_cons_zero, List.set_cons_succ]
      go_big_quiet_want
      refine ⟨.bool false, fun W hW => ?_, ?_⟩
      · go_simp
      go_big_quiet_on
      simp only [Act.put, List.setIfInBounds_toArray, List.set_cons_zero, List.set_cons_succ]
      refine wpQuiet_nil ?_
      intro W hW
      go_wp2_with fail
      go_roundw
      case rel => exact ⟨k + 1, by omega, by go_num, hW⟩
      case measure => simp [intOf]; omega
    · have j1 : ¬ (k : Int) < (V.length : Int) := by omega
      go_wp2_with fail
      go_ret
      exact ⟨rfl, hB⟩
end Go.Proofs.YtepokgainceidaaGreatDoor

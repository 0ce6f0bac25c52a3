import Derived.Test.YtfaocmlbgbjbpaaBF
namespace Go.Proofs.Ytfaocmlbgbjbpaa
open Go.RowKit
theorem rfirst_succ {b v : Nat} {L : List IRt} {i : Nat} {r : IRt} (h : L[i]? = some r) : rfirst b v L (i + 1) = if rhas b r v = true ∧ (rfirst b v L i = 0 ∨ rahead r (L.getD (rfirst b v L i - 1) (0, 0, 0, 0)) = true) then i + 1 else rfirst b v L i := by
  have e : L.getD i (0, 0, 0, 0) = r := by simp [List.getD, h]
  rw [rfirst, e]
theorem rfit_ok {bits : Int} {L : List IRt} (h : rfit bits L = 0) : 1 ≤ bits ∧ bits ≤ 32 ∧ L.length ≤ 256 ∧ L.all (rmay bits.toNat) = true := by
  unfold rfit at h
  split at h
  · omega
  · rename_i h1
    split at h
    · omega
    · rename_i h2
      split at h
      · rename_i h3
        have h2 := Classical.not_not.1 h2
        exact ⟨h2.1, h2.2, by omega, h3⟩
      · omega
theorem res_lkq (tmps : Array Value) (W : World) (x y : Value) (h : tmps[6]?.getD undef = x ∧ tmps[7]?.getD undef = y) : (results Try.f7 tmps).run Try.prog W = .ok (.tuple #[x, y]) W := by
  simp [results, h.1, h.2, go_sem]
set_option maxRecDepth 100000 in
set_option maxHeartbeats 2000000 in
theorem qlook_any (bits : Int) (L : List IRt) (o : Option Addr) (c : Nat) (v : Int) (w : World) (hL : L.length ≤ 281474976710656) (hr : IRR w o L) :
    Calls Try.prog 7 #[.int .i64 bits, .slice o L.length c, .int .i64 v] w fun e w' => e = .returned (.tuple #[.int .i64 (rlook bits L v).1, .int .i64 (rlook bits L v).2]) ∧ Below w.heap.size w w' := by
  have HFT0 := qfit_any bits L o c w hL hr
  obtain ⟨R, hR⟩ : ∃ R, rlook bits L v = R := ⟨_, rfl⟩
  rw [hR]
  unfold rlook at hR
  obtain ⟨F, hF⟩ : ∃ F, rfit bits L = F := ⟨_, rfl⟩
  rw [hF] at HFT0 hR
  have HFT : Hid (Calls Try.prog 17 #[.int .i64 bits, .slice o L.length c] w fun e w' => e = .returned (.int .i64 F) ∧ Below w.heap.size w w') := HFT0
  clear HFT0
  by_cases f0 : F = 0
  · subst f0
    rw [if_neg (fun h => h rfl)] at hR
    obtain ⟨b1, b2, b3, b4⟩ := rfit_ok hF
    obtain ⟨b, rfl⟩ : ∃ b : Nat, bits = b := ⟨bits.toNat, by omega⟩
    rw [Int.toNat_natCast] at hR b4
    have hb : b ≤ 32 := by omega
    have hp2 : 2 ^ b ≤ 2 ^ 32 := Nat.pow_le_pow_right (by decide) hb
    have hp0 : 0 < 2 ^ b := Nat.pow_pos (by decide)
    have ep : IntKind.i64.wrap ((2 : Int) ^ b) = ((2 ^ b : Nat) : Int) := by rw [pow_cast, IntKind.wrap_i64]; omega
    have s0 : (0 : Int) ≤ (b : Int) := by omega
    have s1 : (b : Int) < 64 := by omega
    have HAL : Hid (∀ (i : Nat) (r : IRt), L[i]? = some r → rmay b r = true) := fun i r h => List.all_eq_true.1 b4 r (List.mem_of_getElem? h)
    have HH0 := fun (r : IRt) (v : Nat) (hm : rmay b r = true) (W : World) => qhas_any b r v W hb hm
    have HI : Hid (IRR w o L) := hr
    obtain ⟨PP, hPP⟩ : ∃ PP, 2 ^ b = PP := ⟨_, rfl⟩
    rw [hPP] at ep hp0 hp2 hR
    clear hr hF b1 b2 b4
    by_cases c1 : v < 0
    · rw [if_pos (fun h => by omega)] at hR
      subst hR
      clear HH0 HAL HI hPP
      go_enter Try.func7, Try.ntmps7
      go_wp2_with fail
      refine HFT.out.mono ?_
      rintro e W1 ⟨rfl, hb1⟩
      go_wp2_with fail
      refine bodyPost_ret (res_lkq _ _ _ _ ⟨rfl, rfl⟩) rfl ?_
      exact ⟨rfl, hb1⟩
    by_cases c2 : (PP : Int) ≤ v
    · rw [if_pos (fun h => by omega)] at hR
      subst hR
      clear HH0 HAL HI hPP
      go_enter Try.func7, Try.ntmps7
      go_wp2_with fail
      refine HFT.out.mono ?_
      rintro e W1 ⟨rfl, hb1⟩
      go_wp2_with fail
      refine bodyPost_ret (res_lkq _ _ _ _ ⟨rfl, rfl⟩) rfl ?_
      exact ⟨rfl, hb1⟩
    rw [if_neg (fun h => h (by omega))] at hR
    obtain ⟨u, rfl⟩ : ∃ u : Nat, v = u := ⟨v.toNat, by omega⟩
    rw [Int.toNat_natCast] at hR
    subst hR
    have c3 : ¬ PP ≤ u := by omega
    have HH : Hid (∀ (r0 r1 r2 r3 : Int) (W : World), rmay b (r0, r1, r2, r3) = true → Calls Try.prog 18 #[.int .i64 (b : Int), .agg #[.int .i64 r0, .int .i64 r1, .int .i64 r2, .int .i64 r3], .int .i64 (u : Int)] W fun e w' => e = .returned (.bool (rhas b (r0, r1, r2, r3) u)) ∧ Below W.heap.size W w') := fun r0 r1 r2 r3 W hm => HH0 (r0, r1, r2, r3) u hm W
    have HA : Hid (∀ (r0 r1 r2 r3 s0 s1 s2 s3 : Int) (W : World), Calls Try.prog 19 #[.agg #[.int .i64 r0, .int .i64 r1, .int .i64 r2, .int .i64 r3], .agg #[.int .i64 s0, .int .i64 s1, .int .i64 s2, .int .i64 s3]] W fun e w' => e = .returned (.bool (rahead (r0, r1, r2, r3) (s0, s1, s2, s3))) ∧ Below W.heap.size W w') := fun r0 r1 r2 r3 s0 s1 s2 s3 W => qahead_any (r0, r1, r2, r3) (s0, s1, s2, s3) W
    clear HH0 hPP hp0 hp2
    go_enter Try.func7, Try.ntmps7
    go_wp2_with fail
    refine HFT.out.mono ?_
    rintro e W1 ⟨rfl, hb1⟩
    go_wp2_with fail
    go_loopw [9, 10] (fun vk vi wr => ∃ i f : Nat, vi = .int .i64 i ∧ i ≤ L.length ∧ vk = .int .i64 ((f : Int) - 1) ∧ Hid (f = rfirst b u L i) ∧ f ≤ i ∧ Below w.heap.size w wr) (fun _ vi _ => L.length - (intOf vi).toNat)
    case atStart => exact ⟨0, 0, rfl, Nat.zero_le _, rfl, rfl, Nat.le_refl _, hb1⟩
    case round =>
      clear hb1
      obtain ⟨i, f, rfl, hi, rfl, hf, hfi, hB⟩ := hrel
      by_cases hlt : i < L.length
      · have j1 : (i : Int) < (L.length : Int) := by omega
        have j0 : (0 : Int) ≤ (i : Int) := by omega
        obtain ⟨r, hri⟩ : ∃ r, L[i]? = some r := ⟨_, List.getElem?_eq_getElem hlt⟩
        obtain ⟨g, o0, rfl, -⟩ := HI.out wr hB i r hri
        have XR : Hid (∀ W, Below w.heap.size w W → W.cell? ⟨g, o0 + i * 4, none⟩ = some (.int .i64 r.1) ∧ W.cell? ⟨g, o0 + i * 4 + 1, none⟩ = some (.int .i64 r.2.1) ∧ W.cell? ⟨g, o0 + i * 4 + 2, none⟩ = some (.int .i64 r.2.2.1) ∧ W.cell? ⟨g, o0 + i * 4 + 3, none⟩ = some (.int .i64 r.2.2.2)) := fun W hW => by
          obtain ⟨g3, q3, e, hh⟩ := HI.out W hW i r hri
          injection e with e
          injection e with e1 e2
          subst e1 e2
          exact hh
        have hst := rfirst_succ (b := b) (v := u) hri
        rw [← hf.out] at hst
        have hma := HAL.out i r hri
        obtain ⟨r0, r1, r2, r3⟩ := r
        simp only at XR
        have hHas := fun W => HH.out r0 r1 r2 r3 W hma
        obtain ⟨H, hH⟩ : ∃ H, rhas b (r0, r1, r2, r3) u = H := ⟨_, rfl⟩
        simp only [hH] at hHas
        rw [hH] at hst
        have HHS : Hid (∀ W : World, Calls Try.prog 18 #[.int .i64 (b : Int), .agg #[.int .i64 r0, .int .i64 r1, .int .i64 r2, .int .i64 r3], .int .i64 (u : Int)] W fun e w' => e = .returned (.bool H) ∧ Below W.heap.size W w') := hHas
        clear hHas hH hma hri hf
        cases H with
        | false =>
          rw [if_neg (fun h => by cases h.1)] at hst
          have HF : Hid (f = rfirst b u L (i + 1)) := hst.symm
          clear hst
          go_wp2_with fail
          refine quiet_lit3 (C := fun W => Below wr.heap.size wr W) (by kernel_rfl) (by kernel_rfl) (show Below _ _ _ from (Below.refl _ _).drew) ?_
          go_big_quiet_want
          go_big_quiet_op
          go_big_quiet_on
          go_big_quiet_want
          go_big_quiet_op
          go_big_quiet_on
          go_big_quiet_want
          go_big_quiet_op
          go_big_quiet_on
          go_big_quiet_want
          refine ⟨.pointer (some ⟨g, o0 + i * 4, none⟩), fun W hW => ?_, ?_⟩
          · go_simp
          go_big_quiet_on
          simp only [Act.put, List.setIfInBounds_toArray, List.set_cons_zero, List.set_cons_succ]
          go_big_quiet_want
          refine ⟨.agg #[.int .i64 r0, .int .i64 r1, .int .i64 r2, .int .i64 r3], fun W hW => ?_, ?_⟩
          · obtain ⟨x0, x1, x2, x3⟩ := XR.out W (bel0 hB hW)
            go_simp
          go_big_quiet_on
          simp only [Act.put, List.setIfInBounds_toArray, List.set_cons_zero, List.set_cons_succ]
          go_big_quiet_want
          go_big_quiet_op
          go_big_quiet_on
          go_big_quiet_want
          refine ⟨.bool false, fun W hW => ?_, ?_⟩
          · go_simp
            refine (HHS.out W).mono ?_
            rintro e w7 ⟨rfl, hb⟩
            exact ⟨rfl, bel0 hW hb⟩
          go_big_quiet_on
          simp only [Act.put, List.setIfInBounds_toArray, List.set_cons_zero, List.set_cons_succ]
          go_big_quiet_want
          go_big_quiet_op
          go_big_quiet_on
          go_big_quiet_skip
          go_big_quiet_skip
          go_big_quiet_skip
          go_big_quiet_skip
          go_big_quiet_skip
          go_big_quiet_skip
          go_big_quiet_skip
          go_big_quiet_skip
          go_big_quiet_skip
          go_big_quiet_skip
          go_big_quiet_skip
          go_big_quiet_skip
          go_big_quiet_skip
          go_big_quiet_want
          refine ⟨.bool false, fun W hW => ?_, ?_⟩
          · go_simp
          go_big_quiet_on
          simp only [Act.put, List.setIfInBounds_toArray, List.set_cons_zero, List.set_cons_succ]
          refine wpQuiet_nil ?_
          intro W hW
          go_wp2_with fail
          go_roundw
          case rel => exact ⟨i + 1, f, by go_num, by omega, by first | rfl | go_num, HF, by omega, bel0 hB hW⟩
          case measure => simp [intOf]; omega
        | true =>
          cases f with
          | zero =>
            rw [if_pos ⟨rfl, .inl rfl⟩] at hst
            have HF : Hid (i + 1 = rfirst b u L (i + 1)) := hst.symm
            have k0 : ((0 : Nat) : Int) - 1 = -1 := by omega
            rw [k0]
            clear hst k0
            go_wp2_with fail
            refine quiet_lit3 (C := fun W => Below wr.heap.size wr W) (by kernel_rfl) (by kernel_rfl) (show Below _ _ _ from (Below.refl _ _).drew) ?_
            go_big_quiet_want
            go_big_quiet_op
            go_big_quiet_on
            go_big_quiet_want
            go_big_quiet_op
            go_big_quiet_on
            go_big_quiet_want
            go_big_quiet_op
            go_big_quiet_on
            go_big_quiet_want
            refine ⟨.pointer (some ⟨g, o0 + i * 4, none⟩), fun W hW => ?_, ?_⟩
            · go_simp
            go_big_quiet_on
            simp only [Act.put, List.setIfInBounds_toArray, List.set_cons_zero, List.set_cons_succ]
            go_big_quiet_want
            refine ⟨.agg #[.int .i64 r0, .int .i64 r1, .int .i64 r2, .int .i64 r3], fun W hW => ?_, ?_⟩
            · obtain ⟨x0, x1, x2, x3⟩ := XR.out W (bel0 hB hW)
              go_simp
            go_big_quiet_on
            simp only [Act.put, List.setIfInBounds_toArray, List.set_cons_zero, List.set_cons_succ]
            go_big_quiet_want
            go_big_quiet_op
            go_big_quiet_on
            go_big_quiet_want
            refine ⟨.bool true, fun W hW => ?_, ?_⟩
            · go_simp
              refine (HHS.out W).mono ?_
              rintro e w7 ⟨rfl, hb⟩
              exact ⟨rfl, bel0 hW hb⟩
            go_big_quiet_on
            simp only [Act.put, List.setIfInBounds_toArray, List.set_cons_zero, List.set_cons_succ]
            go_big_quiet_want
            go_big_quiet_op
            go_big_quiet_on
            go_big_quiet_want
            go_big_quiet_op
            go_big_quiet_on
            go_big_quiet_want
            refine ⟨.bool true, fun W hW => ?_, ?_⟩
            · go_simp
            go_big_quiet_on
            simp only [Act.put, List.setIfInBounds_toArray, List.set_cons_zero, List.set_cons_succ]
            go_big_quiet_want
            go_big_quiet_op
            go_big_quiet_on
            go_big_quiet_skip
            go_big_quiet_skip
            go_big_quiet_skip
            go_big_quiet_skip
            go_big_quiet_skip
            go_big_quiet_skip
            go_big_quiet_skip
            go_big_quiet_skip
            go_big_quiet_skip
            go_big_quiet_want
            refine ⟨.bool true, fun W hW => ?_, ?_⟩
            · go_simp
            go_big_quiet_on
            simp only [Act.put, List.setIfInBounds_toArray, List.set_cons_zero, List.set_cons_succ]
            go_big_quiet_want
            refine ⟨.bool true, fun W hW => ?_, ?_⟩
            · go_simp
            go_big_quiet_on
            simp only [Act.put, List.setIfInBounds_toArray, List.set_cons_zero, List.set_cons_succ]
            refine wpQuiet_nil ?_
            intro W hW
            go_wp2_with fail
            go_roundw
            case rel => exact ⟨i + 1, i + 1, by go_num, by omega, by first | go_num | (congr 1; omega), HF, by omega, bel0 hB hW⟩
            case measure => simp [intOf]; omega
          | succ f =>
            have k0 : ((f + 1 : Nat) : Int) - 1 = (f : Int) := by omega
            rw [k0]
            have k1 : ¬ (f : Int) < 0 := by omega
            have k2 : (0 : Int) ≤ (f : Int) := by omega
            have k3 : (f : Int) < (L.length : Int) := by omega
            obtain ⟨t, htf⟩ : ∃ t, L[f]? = some t := ⟨_, List.getElem?_eq_getElem (by omega)⟩
            have hgd : L.getD (f + 1 - 1) (0, 0, 0, 0) = t := by simp [List.getD, htf]
            rw [hgd] at hst
            have XT : Hid (∀ W, Below w.heap.size w W → W.cell? ⟨g, o0 + f * 4, none⟩ = some (.int .i64 t.1) ∧ W.cell? ⟨g, o0 + f * 4 + 1, none⟩ = some (.int .i64 t.2.1) ∧ W.cell? ⟨g, o0 + f * 4 + 2, none⟩ = some (.int .i64 t.2.2.1) ∧ W.cell? ⟨g, o0 + f * 4 + 3, none⟩ = some (.int .i64 t.2.2.2)) := fun W hW => by
              obtain ⟨g3, q3, e, hh⟩ := HI.out W hW f t htf
              injection e with e
              injection e with e1 e2
              subst e1 e2
              exact hh
            obtain ⟨s0, s1, s2, s3⟩ := t
            simp only at XT
            have hAh := fun W => HA.out r0 r1 r2 r3 s0 s1 s2 s3 W
            obtain ⟨D, hD⟩ : ∃ D, rahead (r0, r1, r2, r3) (s0, s1, s2, s3) = D := ⟨_, rfl⟩
            simp only [hD] at hAh
            rw [hD] at hst
            have HAS : Hid (∀ W : World, Calls Try.prog 19 #[.agg #[.int .i64 r0, .int .i64 r1, .int .i64 r2, .int .i64 r3], .agg #[.int .i64 s0, .int .i64 s1, .int .i64 s2, .int .i64 s3]] W fun e w' => e = .returned (.bool D) ∧ Below W.heap.size W w') := hAh
            clear hAh hD hgd htf k0
            cases D with
            | true =>
              rw [if_pos ⟨rfl, .inr rfl⟩] at hst
              have HF : Hid (i + 1 = rfirst b u L (i + 1)) := hst.symm
              clear hst
              go_wp2_with fail
              refine quiet_lit3 (C := fun W => Below wr.heap.size wr W) (by kernel_rfl) (by kernel_rfl) (show Below _ _ _ from (Below.refl _ _).drew) ?_
              go_big_quiet_want
              go_big_quiet_op
              go_big_quiet_on
              go_big_quiet_want
              go_big_quiet_op
              go_big_quiet_on
              go_big_quiet_want
              go_big_quiet_op
              go_big_quiet_on
              go_big_quiet_want
              refine ⟨.pointer (some ⟨g, o0 + i * 4, none⟩), fun W hW => ?_, ?_⟩
              · go_simp
              go_big_quiet_on
              simp only [Act.put, List.setIfInBounds_toArray, List.set_cons_zero, List.set_cons_succ]
              go_big_quiet_want
              refine ⟨.agg #[.int .i64 r0, .int .i64 r1, .int .i64 r2, .int .i64 r3], fun W hW => ?_, ?_⟩
              · obtain ⟨x0, x1, x2, x3⟩ := XR.out W (bel0 hB hW)
                go_simp
              go_big_quiet_on
              simp only [Act.put, List.setIfInBounds_toArray, List.set_cons_zero, List.set_cons_succ]
              go_big_quiet_want
              go_big_quiet_op
              go_big_quiet_on
              go_big_quiet_want
              refine ⟨.bool true, fun W hW => ?_, ?_⟩
              · go_simp
                refine (HHS.out W).mono ?_
                rintro e w7 ⟨rfl, hb⟩
                exact ⟨rfl, bel0 hW hb⟩
              go_big_quiet_on
              simp only [Act.put, List.setIfInBounds_toArray, List.set_cons_zero, List.set_cons_succ]
              go_big_quiet_want
              go_big_quiet_op
              go_big_quiet_on
              go_big_quiet_want
              go_big_quiet_op
              go_big_quiet_on
              go_big_quiet_want
              refine ⟨.bool false, fun W hW => ?_, ?_⟩
              · go_simp
              go_big_quiet_on
              simp only [Act.put, List.setIfInBounds_toArray, List.set_cons_zero, List.set_cons_succ]
              go_big_quiet_want
              go_big_quiet_op
              go_big_quiet_on
              go_big_quiet_want
              go_big_quiet_op
              go_big_quiet_on
              go_big_quiet_want
              go_big_quiet_op
              go_big_quiet_on
              go_big_quiet_want
              refine ⟨.pointer (some ⟨g, o0 + i * 4, none⟩), fun W hW => ?_, ?_⟩
              · go_simp
              go_big_quiet_on
              simp only [Act.put, List.setIfInBounds_toArray, List.set_cons_zero, List.set_cons_succ]
              go_big_quiet_want
              refine ⟨.agg #[.int .i64 r0, .int .i64 r1, .int .i64 r2, .int .i64 r3], fun W hW => ?_, ?_⟩
              · obtain ⟨x0, x1, x2, x3⟩ := XR.out W (bel0 hB hW)
                go_simp
              go_big_quiet_on
              simp only [Act.put, List.setIfInBounds_toArray, List.set_cons_zero, List.set_cons_succ]
              go_big_quiet_want
              go_big_quiet_op
              go_big_quiet_on
              go_big_quiet_want
              go_big_quiet_op
              go_big_quiet_on
              go_big_quiet_want
              refine ⟨.pointer (some ⟨g, o0 + f * 4, none⟩), fun W hW => ?_, ?_⟩
              · go_simp
              go_big_quiet_on
              simp only [Act.put, List.setIfInBounds_toArray, List.set_cons_zero, List.set_cons_succ]
              go_big_quiet_want
              refine ⟨.agg #[.int .i64 s0, .int .i64 s1, .int .i64 s2, .int .i64 s3], fun W hW => ?_, ?_⟩
              · obtain ⟨x0, x1, x2, x3⟩ := XT.out W (bel0 hB hW)
                go_simp
              go_big_quiet_on
              simp only [Act.put, List.setIfInBounds_toArray, List.set_cons_zero, List.set_cons_succ]
              go_big_quiet_want
              refine ⟨.bool true, fun W hW => ?_, ?_⟩
              · go_simp
                refine (HAS.out W).mono ?_
                rintro e w7 ⟨rfl, hb⟩
                exact ⟨rfl, bel0 hW hb⟩
              go_big_quiet_on
              simp only [Act.put, List.setIfInBounds_toArray, List.set_cons_zero, List.set_cons_succ]
              go_big_quiet_want
              refine ⟨.bool true, fun W hW => ?_, ?_⟩
              · go_simp
              go_big_quiet_on
              simp only [Act.put, List.setIfInBounds_toArray, List.set_cons_zero, List.set_cons_succ]
              go_big_quiet_want
              refine ⟨.bool true, fun W hW => ?_, ?_⟩
              · go_simp
              go_big_quiet_on
              simp only [Act.put, List.setIfInBounds_toArray, List.set_cons_zero, List.set_cons_succ]
              refine wpQuiet_nil ?_
              intro W hW
              go_wp2_with fail
              go_roundw
              case rel => exact ⟨i + 1, i + 1, by go_num, by omega, by first | go_num | (congr 1; omega), HF, by omega, bel0 hB hW⟩
              case measure => simp [intOf]; omega
            | false =>
              rw [if_neg (fun h => h.2.elim (fun h => by omega) (fun h => by cases h))] at hst
              have HF : Hid (f + 1 = rfirst b u L (i + 1)) := hst.symm
              clear hst
              go_wp2_with fail
              refine quiet_lit3 (C := fun W => Below wr.heap.size wr W) (by kernel_rfl) (by kernel_rfl) (show Below _ _ _ from (Below.refl _ _).drew) ?_
              go_big_quiet_want
              go_big_quiet_op
              go_big_quiet_on
              go_big_quiet_want
              go_big_quiet_op
              go_big_quiet_on
              go_big_quiet_want
              go_big_quiet_op
              go_big_quiet_on
              go_big_quiet_want
              refine ⟨.pointer (some ⟨g, o0 + i * 4, none⟩), fun W hW => ?_, ?_⟩
              · go_simp
              go_big_quiet_on
              simp only [Act.put, List.setIfInBounds_toArray, List.set_cons_zero, List.set_cons_succ]
              go_big_quiet_want
              refine ⟨.agg #[.int .i64 r0, .int .i64 r1, .int .i64 r2, .int .i64 r3], fun W hW => ?_, ?_⟩
              · obtain ⟨x0, x1, x2, x3⟩ := XR.out W (bel0 hB hW)
                go_simp
              go_big_quiet_on
              simp only [Act.put, List.setIfInBounds_toArray, List.set_cons_zero, List.set_cons_succ]
              go_big_quiet_want
              go_big_quiet_op
              go_big_quiet_on
              go_big_quiet_want
              refine ⟨.bool true, fun W hW => ?_, ?_⟩
              · go_simp
                refine (HHS.out W).mono ?_
                rintro e w7 ⟨rfl, hb⟩
                exact ⟨rfl, bel0 hW hb⟩
              go_big_quiet_on
              simp only [Act.put, List.setIfInBounds_toArray, List.set_cons_zero, List.set_cons_succ]
              go_big_quiet_want
              go_big_quiet_op
              go_big_quiet_on
              go_big_quiet_want
              go_big_quiet_op
              go_big_quiet_on
              go_big_quiet_want
              refine ⟨.bool false, fun W hW => ?_, ?_⟩
              · go_simp
              go_big_quiet_on
              simp only [Act.put, List.setIfInBounds_toArray, List.set_cons_zero, List.set_cons_succ]
              go_big_quiet_want
              go_big_quiet_op
              go_big_quiet_on
              go_big_quiet_want
              go_big_quiet_op
              go_big_quiet_on
              go_big_quiet_want
              go_big_quiet_op
              go_big_quiet_on
              go_big_quiet_want
              refine ⟨.pointer (some ⟨g, o0 + i * 4, none⟩), fun W hW => ?_, ?_⟩
              · go_simp
              go_big_quiet_on
              simp only [Act.put, List.setIfInBounds_toArray, List.set_cons_zero, List.set_cons_succ]
              go_big_quiet_want
              refine ⟨.agg #[.int .i64 r0, .int .i64 r1, .int .i64 r2, .int .i64 r3], fun W hW => ?_, ?_⟩
              · obtain ⟨x0, x1, x2, x3⟩ := XR.out W (bel0 hB hW)
                go_simp
              go_big_quiet_on
              simp only [Act.put, List.setIfInBounds_toArray, List.set_cons_zero, List.set_cons_succ]
              go_big_quiet_want
              go_big_quiet_op
              go_big_quiet_on
              go_big_quiet_want
              go_big_quiet_op
              go_big_quiet_on
              go_big_quiet_want
              refine ⟨.pointer (some ⟨g, o0 + f * 4, none⟩), fun W hW => ?_, ?_⟩
              · go_simp
              go_big_quiet_on
              simp only [Act.put, List.setIfInBounds_toArray, List.set_cons_zero, List.set_cons_succ]
              go_big_quiet_want
              refine ⟨.agg #[.int .i64 s0, .int .i64 s1, .int .i64 s2, .int .i64 s3], fun W hW => ?_, ?_⟩
              · obtain ⟨x0, x1, x2, x3⟩ := XT.out W (bel0 hB hW)
                go_simp
              go_big_quiet_on
              simp only [Act.put, List.setIfInBounds_toArray, List.set_cons_zero, List.set_cons_succ]
              go_big_quiet_want
              refine ⟨.bool false, fun W hW => ?_, ?_⟩
              · go_simp
                refine (HAS.out W).mono ?_
                rintro e w7 ⟨rfl, hb⟩
                exact ⟨rfl, bel0 hW hb⟩
              go_big_quiet_on
              simp only [Act.put, List.setIfInBounds_toArray, List.set_cons_zero, List.set_cons_succ]
              go_big_quiet_want
              refine ⟨.bool false, fun W hW => ?_, ?_⟩
              · go_simp
              go_big_quiet_on
              simp only [Act.put, List.setIfInBounds_toArray, List.set_cons_zero, List.set_cons_succ]
              go_big_quiet_want
              refine ⟨.bool false, fun W hW => ?_, ?_⟩
              · go_simp
              go_big_quiet_on
              simp only [Act.put, List.setIfInBounds_toArray, List.set_cons_zero, List.set_cons_succ]
              refine wpQuiet_nil ?_
              intro W hW
              go_wp2_with fail
              go_roundw
              case rel => exact ⟨i + 1, f + 1, by go_num, by omega, by first | go_num | (congr 1; omega), HF, by omega, bel0 hB hW⟩
              case measure => simp [intOf]; omega
      · have j1 : ¬ (i : Int) < (L.length : Int) := by omega
        obtain rfl : i = L.length := by omega
        have hff := hf.out
        have HFF : Hid (f = rfirst b u L L.length) := hff
        clear hff hf
        go_wp2_with fail
        refine bodyPost_ret (res_lkq _ _ _ _ ⟨rfl, rfl⟩) rfl ?_
        exact ⟨by rw [← HFF.out]; rfl, hB⟩
  · rw [if_pos f0] at hR
    subst hR
    have f1 : (F == 0) = false := beq_eq_false_iff_ne.2 f0
    clear hr hF
    go_enter Try.func7, Try.ntmps7
    go_wp2_with fail
    refine HFT.out.mono ?_
    rintro e W1 ⟨rfl, hb1⟩
    go_wp2_with fail
    refine bodyPost_ret (res_lkq _ _ _ _ ⟨rfl, rfl⟩) rfl ?_
    exact ⟨rfl, hb1⟩
end Go.Proofs.Ytfaocmlbgbjbpaa

import Derived.Test.YtfcdaljhbeogeaaSL
import Derived.Deep.RegionHeld3
namespace Go.Proofs.Ytfcdaljhbeogeaa
open Go.RowKit
theorem bel_und {a W : World} (h : Below a.drew.heap.size a.drew W) : Below a.heap.size a W := ⟨h.os, h.tape, h.output, h.size, h.block⟩
set_option maxRecDepth 100000 in
set_option maxHeartbeats 4000000 in
theorem ribLeast_walk (bits : Int) (L : List IRt) (n : Nat) (o : Option Addr) (c : Nat) (w : World) (hL : L.length = n) (hr : IRR w o L) :
    Calls Try.prog 8 #[.int .i64 bits, .slice o n c] w fun e w' => e = .returned (.bool true) ∧ Below w.heap.size w w' := by
  have HAW : Hid (Calls Try.prog 22 #[] w fun e w' => e = .returned (.bool true) ∧ Below w.heap.size w w') := awake_any w
  by_cases h40 : 40 < n
  · have i1 : (40 : Int) < (n : Int) := by omega
    clear hr
    go_enter Try.func8, Try.ntmps8
    go_wp2_with fail
    refine HAW.out.mono ?_
    rintro e W0 ⟨rfl, hb0⟩
    go_wp2_with fail
    go_ret
    exact ⟨rfl, hb0⟩
  have i1 : ¬ (40 : Int) < (n : Int) := by omega
  have hSL : ∀ W, Below w.heap.size w W → Calls Try.prog 28 #[.int .i64 bits, .slice o n c] W fun e w' => ∃ (O : List IRt) (v : Value), e = .returned (.tuple #[v, .int .i64 (rfit bits L)]) ∧ slimR bits L O ∧ w'.ownsRow W.heap.size 59 4 v O.length (rels O) ∧ Below W.heap.size W w' := fun W hW => by
    have := bslim_any bits L o c W (by omega) (hr.later hW)
    rw [hL] at this
    exact this
  by_cases hF : rfit bits L = 0
  rotate_left
  · have HE : Hid (∀ O, slimR bits L O → O = []) := fun O => by
      unfold slimR
      rw [if_neg hF]
      exact fun h => h
    obtain ⟨F, hF2⟩ : ∃ F, rfit bits L = F := ⟨_, rfl⟩
    rw [hF2] at hSL hF
    have y0 : (F == 0) = false := beq_false_of_ne hF
    have HSL : Hid (∀ W, Below w.heap.size w W → Calls Try.prog 28 #[.int .i64 bits, .slice o n c] W fun e w' => ∃ (O : List IRt) (v : Value), e = .returned (.tuple #[v, .int .i64 F]) ∧ slimR bits L O ∧ w'.ownsRow W.heap.size 59 4 v O.length (rels O) ∧ Below W.heap.size W w') := hSL
    clear hr hSL hF2
    go_enter Try.func8, Try.ntmps8
    go_wp2_with fail
    refine HAW.out.mono ?_
    rintro e W0 ⟨rfl, hb0⟩
    go_wp2_with fail
    refine (HSL.out _ hb0).mono ?_
    rintro e W2 ⟨O, v2, rfl, hs, o2, hb2⟩
    obtain rfl := HE.out O hs
    obtain ⟨p2, c2, rfl⟩ := shapeP o2
    clear o2 hs HSL HE
    go_wp2_with fail
    go_ret
    exact ⟨rfl, bel0 hb0 hb2⟩
  obtain ⟨⟨hb1, hb2⟩, hm⟩ := rfit_ok2 hF
  obtain ⟨b, rfl⟩ : ∃ b : Nat, bits = b := ⟨bits.toNat, by omega⟩
  rw [Int.toNat_natCast] at hm
  have hb32 : b ≤ 32 := by omega
  have k1 : ¬ (b : Int) < 1 := by omega
  have k2 : ¬ (32 : Int) < (b : Int) := by omega
  have HE : Hid (∀ M, slimR (b : Int) L M → M.length ≤ n ∧ (∀ r ∈ M, rmay b r = true) ∧ ∀ k, k < M.length → ∃ p : Nat, (p : Int) ∈ pts b L ∧ outL b p M ≠ outL b p (M.eraseIdx k)) := fun M h2 => by
    unfold slimR at h2
    rw [if_pos hF] at h2
    obtain ⟨O, h1, rfl⟩ := h2
    rw [Int.toNat_natCast]
    have s1 := (nedL_sub b (metL b O)).trans (metL_sub b O)
    exact ⟨Nat.le_trans s1.length_le (by rw [← hL]; exact ord_len h1.srt (fun o ho => h1.mem ho)), fun r hr => hm r (h1.mem (s1.subset hr)), fun k hk => least_ok hm h1 hk⟩
  have HSL : Hid (∀ W, Below w.heap.size w W → Calls Try.prog 28 #[.int .i64 (b : Int), .slice o n c] W fun e w' => ∃ (O : List IRt) (v : Value), e = .returned (.tuple #[v, .int .i64 0]) ∧ slimR (b : Int) L O ∧ w'.ownsRow W.heap.size 59 4 v O.length (rels O) ∧ Below W.heap.size W w') := by
    unfold Hid
    rw [hF] at hSL
    exact hSL
  have HPT : Hid (∀ W, Below w.heap.size w W → Calls Try.prog 25 #[.int .i64 (b : Int), .slice o n c] W fun e w' => ∃ v : Value, e = .returned v ∧ w'.ownsRow W.heap.size 3 1 v (pts b L).length (iv (pts b L)) ∧ Below W.heap.size W w') := fun W hW => points_any b n L o c W hb32 hL (by omega) (hr.later hW) hm
  have HOU : Hid (∀ (W : World) (v : Nat) (p : Option Addr) (c m : Nat) (S : List IRt), S.length = m → m ≤ n → (∀ r ∈ S, rmay b r = true) → IRR W p S → Calls Try.prog 29 #[.int .i64 (b : Int), .slice p m c, .int .i64 (v : Int)] W fun e w' => e = .returned (.int .i64 (outL b v S)) ∧ Below W.heap.size W w') := fun W v p c m S h1 h2 h3 h4 => out_any b v m S p c W hb32 h1 (by omega) h4 h3
  have HZP : Hid (∀ x ∈ pts b L, 0 ≤ x) := fun x hx => pts_nat hm hx
  have hpl := pts_len b L
  rw [hL] at hpl
  obtain ⟨Y, hY⟩ : ∃ Y, pts b L = Y := ⟨_, rfl⟩
  have hY1 : 1 ≤ Y.length := by rw [← hY]; unfold pts; simp
  simp only [hY] at HPT hpl HZP HE
  clear hr hSL hF hm hb1 hb2 hL hY
  go_enter Try.func8, Try.ntmps8
  go_wp2_with fail
  refine HAW.out.mono ?_
  rintro e W0 ⟨rfl, hb0⟩
  go_wp2_with fail
  refine (HSL.out _ hb0).mono ?_
  rintro e W2 ⟨M, v2, rfl, hM, o2, hb2⟩
  have hbW2 := bel0 hb0 hb2
  obtain ⟨p2, c2, rfl⟩ := shapeP o2
  obtain ⟨g1, g4, g5⟩ := HE.out M hM
  obtain ⟨nM, hnM⟩ : ∃ nM, M.length = nM := ⟨_, rfl⟩
  have hcap := rown_cap o2
  rw [hnM] at g1 g5 o2 hcap
  have HMM : Hid (IRR W2 p2 M ∧ M.length = nM ∧ (∀ r ∈ M, rmay b r = true) ∧ (0 < nM → ∃ g : Nat, p2 = some ⟨g, 0, none⟩) ∧ nM ≤ c2) := ⟨IRR_of_own o2, hnM, g4, fun h => rown_at o2 h, hcap⟩
  have HLK : Hid (∀ k, k < nM → ∃ p : Nat, (p : Int) ∈ Y ∧ outL b p M ≠ outL b p (M.eraseIdx k)) := g5
  simp only [hnM]
  clear o2 hM HE g4 g5 hnM HSL HAW hb0 hcap
  go_wp2_with fail
  refine (HPT.out _ hbW2).mono ?_
  rintro e W3 ⟨v3, rfl, o3, hb3⟩
  have hbW3 := bel0 hbW2 hb3
  obtain ⟨p3, c3, rfl⟩ := shapeP o3
  obtain ⟨g8, rfl⟩ := rown_at o3 (by omega)
  have HZ : Hid (IRI W3 (some ⟨g8, 0, none⟩) Y) := IRI_of o3
  obtain ⟨z, hz⟩ : ∃ z, Y.length = z := ⟨_, rfl⟩
  have HZN : Hid (Y.length = z) := hz
  rw [hz] at hpl hY1
  simp only [hz]
  have HB3 : Hid (Below W2.heap.size W2 W3) := hb3
  clear o3 hz HPT hbW2 hb3 hb2
  go_wp2_with fail
  go_loopw [8] (fun vi wr => ∃ i : Nat, vi = .int .i64 (i : Int) ∧ i ≤ nM ∧ Below W3.heap.size W3 wr) (fun vi _ => nM - (intOf vi).toNat)
  case atStart => exact ⟨0, rfl, Nat.zero_le _, Below.refl _ _⟩
  case round =>
    obtain ⟨k, rfl, hin, hB⟩ := hrel
    by_cases hlt : k < nM
    · have j1 : (k : Int) < (nM : Int) := by omega
      have j0 : (0 : Int) ≤ (k : Int) := by omega
      obtain ⟨g2, rfl⟩ := HMM.out.2.2.2.1 (by omega)
      have HWO : Hid (Calls Try.prog 30 #[.slice (some ⟨g2, 0, none⟩) nM c2, .int .i64 (k : Int)] wr fun e w' => ∃ v : Value, e = .returned v ∧ w'.ownsRow wr.heap.size 59 4 v (M.eraseIdx k).length (rels (M.eraseIdx k)) ∧ Below wr.heap.size wr w') := without_any M nM k g2 c2 wr HMM.out.2.1 hlt (by omega) HMM.out.2.2.2.2 (HMM.out.1.later (bel0 HB3.out hB))
      obtain ⟨pp, hpp, hpne⟩ := HLK.out k hlt
      go_wp2_with fail
      refine HWO.out.mono ?_
      rintro e W4 ⟨v4, rfl, o4, hb4⟩
      have hB4 := bel0 hB hb4
      obtain ⟨p4, c4, rfl⟩ := shapeP o4
      obtain ⟨E, hE⟩ : ∃ E, M.eraseIdx k = E := ⟨_, rfl⟩
      rw [hE] at o4 hpne
      obtain ⟨nE, hnE⟩ : ∃ nE, E.length = nE := ⟨_, rfl⟩
      have hEs : E.Sublist M := by rw [← hE]; exact List.eraseIdx_sublist _ _
      have HEE : Hid (IRR W4 p4 E ∧ E.length = nE ∧ (∀ r ∈ E, rmay b r = true) ∧ nE ≤ n) := ⟨IRR_of_own o4, hnE, fun r hr => HMM.out.2.2.1 r (hEs.subset hr), by rw [← hnE]; exact Nat.le_trans hEs.length_le (by rw [HMM.out.2.1]; exact g1)⟩
      have HPP : Hid ((pp : Int) ∈ Y ∧ outL b pp M ≠ outL b pp E) := ⟨hpp, hpne⟩
      simp only [hE, hnE]
      clear o4 hpp hpne hE hnE hEs HWO
      go_wp2_with fail
      go_loopw [10, 11] (fun vn vi wq => ∃ (i : Nat) (B : Bool), vi = .int .i64 (i : Int) ∧ i ≤ z ∧ vn = .bool B ∧ (B = false → ∀ (j : Nat) (v : Nat), j < i → Y[j]? = some (v : Int) → outL b v M = outL b v E) ∧ Below W4.heap.size W4 wq) (fun _ vi _ => z - (intOf vi).toNat)
      case atStart => exact ⟨0, false, rfl, Nat.zero_le _, rfl, fun _ j v h => by omega, Below.refl _ _⟩
      case round =>
        obtain ⟨i, B, rfl, hin, rfl, hall, hBq⟩ := hrel
        have HALL : Hid (B = false → ∀ (j : Nat) (v : Nat), j < i → Y[j]? = some (v : Int) → outL b v M = outL b v E) := hall
        clear hall
        cases B with
        | true =>
          by_cases hiz : i < z
          · have q1 : (i : Int) < (z : Int) := by omega
            go_wp2_with fail
            go_roundw
            case rel => exact ⟨k + 1, by go_num, by omega, bel0 hB4 hBq⟩
            case measure => simp [intOf]; omega
          · have q1 : ¬ (i : Int) < (z : Int) := by omega
            go_wp2_with fail
            go_roundw
            case rel => exact ⟨k + 1, by go_num, by omega, bel0 hB4 hBq⟩
            case measure => simp [intOf]; omega
        | false =>
          by_cases hiz : i < z
          · have q1 : (i : Int) < (z : Int) := by omega
            have q0 : (0 : Int) ≤ (i : Int) := by omega
            obtain ⟨x, hxi⟩ : ∃ x, Y[i]? = some x := ⟨_, List.getElem?_eq_getElem (by rw [HZN.out]; omega)⟩
            have hx0 := HZP.out x (List.mem_of_getElem? hxi)
            obtain ⟨v, rfl⟩ : ∃ v : Nat, x = v := ⟨x.toNat, (Int.toNat_of_nonneg hx0).symm⟩
            have HC0 : Hid (∀ W, Below W4.heap.size W4 W → W.cell? ⟨g8, i, none⟩ = some (.int .i64 (v : Int))) := fun W hW => by
              have := iri_cell HZ.out hxi (bel0 hB4 hW)
              simpa using this
            have p0 := HC0.out _ hBq
            obtain ⟨X1, hX1⟩ : ∃ X, outL b v M = X := ⟨_, rfl⟩
            obtain ⟨X2, hX2⟩ : ∃ X, outL b v E = X := ⟨_, rfl⟩
            have HC1 : Hid (∀ W, Below W4.heap.size W4 W → Calls Try.prog 29 #[.int .i64 (b : Int), .slice (some ⟨g2, 0, none⟩) nM c2, .int .i64 (v : Int)] W fun e w' => e = .returned (.int .i64 X1) ∧ Below W.heap.size W w') := fun W hW => by
              have := HOU.out W v (some ⟨g2, 0, none⟩) c2 nM M HMM.out.2.1 g1 HMM.out.2.2.1 (HMM.out.1.later (bel0 (bel0 HB3.out hB4) hW))
              rw [hX1] at this
              exact this
            have HC2 : Hid (∀ W, Below W4.heap.size W4 W → Calls Try.prog 29 #[.int .i64 (b : Int), .slice p4 nE c4, .int .i64 (v : Int)] W fun e w' => e = .returned (.int .i64 X2) ∧ Below W.heap.size W w') := fun W hW => by
              have := HOU.out W v p4 c4 nE E HEE.out.2.1 HEE.out.2.2.2 HEE.out.2.2.1 (HEE.out.1.later hW)
              rw [hX2] at this
              exact this
            have HNX : Hid (X1 = X2 → ∀ (j : Nat) (v' : Nat), j < i + 1 → Y[j]? = some (v' : Int) → outL b v' M = outL b v' E) := fun e j v' hj hy => by
              by_cases ej : j = i
              · subst ej
                rw [hxi] at hy
                have : v = v' := by injection hy with hy; exact Int.ofNat.inj hy
                subst this
                rw [hX1, hX2, e]
              · exact HALL.out rfl j v' (by omega) hy
            clear hX1 hX2 hxi hx0 HALL
            go_upto_region 19 with fail
            go_region_held3 (fun W => W.cell? ⟨g8, i, none⟩ = some (.int .i64 (v : Int))) (first | exact p0 | exact HC0.out _ hB7 | exact HC0.out _ hB6) (first | (have chk := h1d; go_at_call 29; refine (HC2.out _ (by first | exact hB6 | exact hB6.drew | exact bel_drewN _ hB6)).mono ?_; rintro e w7 ⟨rfl, hb7⟩; have hB7 : Below W4.heap.size W4 w7 := bel0 hB6 (by first | exact hb7 | exact bel_und hb7)) | (go_at_call 29; refine (HC1.out _ (by first | exact hBq | exact hBq.drew | exact bel_drewN _ hBq)).mono ?_; rintro e w6 ⟨rfl, hb6⟩; have hB6 : Below W4.heap.size W4 w6 := bel0 hBq (by first | exact hb6 | exact bel_und hb6); have h1d : True := trivial))
            clear HC1 HC2 HC0 p0
            go_wp2_with fail
            go_roundw
            case rel => exact ⟨i + 1, (X1 != X2), by go_num, by omega, rfl, fun e => HNX.out (by simpa using e), hB7⟩
            case measure => simp [intOf]; omega
          · have q1 : ¬ (i : Int) < (z : Int) := by omega
            obtain ⟨j, hj⟩ := List.getElem?_of_mem HPP.out.1
            have hjl := (List.getElem?_eq_some_iff.1 hj).1
            exact absurd (HALL.out rfl j pp (by rw [HZN.out] at hjl; omega) hj) HPP.out.2
    · have j1 : ¬ (k : Int) < (nM : Int) := by omega
      go_wp2_with fail
      go_ret
      exact ⟨rfl, bel0 hbW3 hB⟩
end Go.Proofs.Ytfcdaljhbeogeaa

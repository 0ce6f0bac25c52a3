import Derived.Test.YtfcdaljhbeogeaaBH
namespace Go.Proofs.Ytfcdaljhbeogeaa
open Go.RowKit
set_option maxRecDepth 100000 in
set_option maxHeartbeats 2000000 in
theorem bfirst_any (b u : Nat) (L : List IRt) (o : Option Addr) (c : Nat) (w : World) (hb : b ≤ 32) (hu : u < 2 ^ b) (hL : L.length ≤ 256) (hm : L.all (rmay b) = true) (hr : IRR w o L) :
    Calls Try.prog 41 #[.slice o L.length c, .int .i64 (b : Int), .int .i64 (u : Int)] w fun e w' => e = .returned (.int .i64 ((rfirst b u L L.length : Int) - 1)) ∧ Below w.heap.size w w' := by
  have HAL : Hid (∀ (i : Nat) (r : IRt), L[i]? = some r → rmay b r = true) := fun i r h => List.all_eq_true.1 hm r (List.mem_of_getElem? h)
  have HH : Hid (∀ (r0 r1 r2 r3 : Int) (W : World), rmay b (r0, r1, r2, r3) = true → Calls Try.prog 55 #[.int .i64 (b : Int), .agg #[.int .i64 r0, .int .i64 r1, .int .i64 r2, .int .i64 r3], .int .i64 (u : Int)] W fun e w' => e = .returned (.bool (rhas b (r0, r1, r2, r3) u)) ∧ Below W.heap.size W w') := fun r0 r1 r2 r3 W hm => bhas_any b (r0, r1, r2, r3) u W hb hm hu
  have HI : Hid (IRR w o L) := hr
  clear hr hm hu
  go_enter Try.func41, Try.ntmps41
  go_wp2_with fail
  go_loopw [7, 12] (fun vk vi wr => ∃ i f : Nat, vi = .int .i64 i ∧ i ≤ L.length ∧ vk = .int .i64 ((f : Int) - 1) ∧ Hid (f = rfirst b u L i) ∧ f ≤ i ∧ Below w.heap.size w wr) (fun _ vi _ => L.length - (intOf vi).toNat)
  case atStart => exact ⟨0, 0, rfl, Nat.zero_le _, rfl, rfl, Nat.le_refl _, Below.refl _ _⟩
  case round =>
    obtain ⟨i, f, rfl, hi, rfl, hf, hfi, hB⟩ := hrel
    by_cases hlt : i < L.length
    · have j1 : (i : Int) < (L.length : Int) := by omega
      have j0 : (0 : Int) ≤ (i : Int) := by omega
      obtain ⟨r, hri⟩ : ∃ r, L[i]? = some r := ⟨_, List.getElem?_eq_getElem hlt⟩
      have hst := rfirst_succ (b := b) (v := u) hri
      rw [← hf.out] at hst
      have hma := HAL.out i r hri
      have HAH : Hid (∀ (k : Nat) (t : IRt) (W : World), k < i → L[k]? = some t → Below w.heap.size w W → Calls Try.prog 51 #[.slice o L.length c, .int .i64 (i : Int), .int .i64 (k : Int)] W fun e w' => e = .returned (.bool (rahead r t)) ∧ Below W.heap.size W w') := fun k t W hk ht hW => bahead_any L o c i k r t W hL hri ht (HI.out.later hW) hk
      obtain ⟨g, o0, rfl, p0, p1, p2, p3⟩ := HI.out wr hB i r hri
      obtain ⟨r0, r1, r2, r3⟩ := r
      simp only at p0 p1 p2 p3
      have hHas := fun W => HH.out r0 r1 r2 r3 W hma
      obtain ⟨H, hH⟩ : ∃ H, rhas b (r0, r1, r2, r3) u = H := ⟨_, rfl⟩
      simp only [hH] at hHas
      rw [hH] at hst
      have HHS : Hid (∀ W : World, Calls Try.prog 55 #[.int .i64 (b : Int), .agg #[.int .i64 r0, .int .i64 r1, .int .i64 r2, .int .i64 r3], .int .i64 (u : Int)] W fun e w' => e = .returned (.bool H) ∧ Below W.heap.size W w') := hHas
      have hBA : ∀ O : Obj, Below w.heap.size w (wr.alloc O) := fun O => hB.alloc hB.size O
      clear hHas hH hma hri hf
      cases H with
      | false =>
        rw [if_neg (fun h => by cases h.1)] at hst
        have HF : Hid (f = rfirst b u L (i + 1)) := hst.symm
        clear hst
        go_wp2_with fail
        refine (HHS.out _).mono ?_
        rintro e W1 ⟨rfl, hb1⟩
        have hB1 := bel0 (by first | exact hBA _ | exact put4_below _ _ _ _ (hBA _) hB.size) hb1
        go_wp2_with fail
        go_roundw
        case rel => exact ⟨i + 1, f, by go_num, by omega, by first | rfl | go_num, HF, by omega, hB1⟩
        case measure => simp [intOf]; omega
      | true =>
        cases f with
        | zero =>
          rw [if_pos ⟨rfl, .inl rfl⟩] at hst
          have HF : Hid (i + 1 = rfirst b u L (i + 1)) := hst.symm
          have k0 : ((0 : Nat) : Int) - 1 = -1 := by omega
          rw [k0]
          clear hst k0
          go_wp2_with fail
          refine (HHS.out _).mono ?_
          rintro e W1 ⟨rfl, hb1⟩
          have hB1 := bel0 (by first | exact hBA _ | exact put4_below _ _ _ _ (hBA _) hB.size) hb1
          go_wp2_with fail
          go_roundw
          case rel => exact ⟨i + 1, i + 1, by go_num, by omega, by first | go_num | (congr 1; omega), HF, by omega, hB1⟩
          case measure => simp [intOf]; omega
        | succ f =>
          have k0 : ((f + 1 : Nat) : Int) - 1 = (f : Int) := by omega
          rw [k0]
          have k1 : ¬ (f : Int) < 0 := by omega
          have k2 : (0 : Int) ≤ (f : Int) := by omega
          have k3 : (f : Int) < (L.length : Int) := by omega
          obtain ⟨t, htf⟩ : ∃ t, L[f]? = some t := ⟨_, List.getElem?_eq_getElem (by omega)⟩
          have hgd : L.getD (f + 1 - 1) (0, 0, 0, 0) = t := by simp [List.getD, htf]
          rw [hgd] at hst
          have hAh := fun (W : World) (hW : Below w.heap.size w W) => HAH.out f t W (by omega) htf hW
          obtain ⟨D, hD⟩ : ∃ D, rahead (r0, r1, r2, r3) t = D := ⟨_, rfl⟩
          simp only [hD] at hAh
          rw [hD] at hst
          have HAS : Hid (∀ W : World, Below w.heap.size w W → Calls Try.prog 51 #[.slice (some ⟨g, o0, none⟩) L.length c, .int .i64 (i : Int), .int .i64 (f : Int)] W fun e w' => e = .returned (.bool D) ∧ Below W.heap.size W w') := hAh
          clear hAh hD hgd htf k0
          cases D with
          | true =>
            rw [if_pos ⟨rfl, .inr rfl⟩] at hst
            have HF : Hid (i + 1 = rfirst b u L (i + 1)) := hst.symm
            clear hst
            go_wp2_with fail
            refine (HHS.out _).mono ?_
            rintro e W1 ⟨rfl, hb1⟩
            have hB1 := bel0 (by first | exact hBA _ | exact put4_below _ _ _ _ (hBA _) hB.size) hb1
            go_wp2_with fail
            refine (HAS.out _ hB1).mono ?_
            rintro e W2 ⟨rfl, hb2⟩
            have hB2 := bel0 hB1 hb2
            go_wp2_with fail
            go_roundw
            case rel => exact ⟨i + 1, i + 1, by go_num, by omega, by first | go_num | (congr 1; omega), HF, by omega, hB2⟩
            case measure => simp [intOf]; omega
          | false =>
            rw [if_neg (fun h => h.2.elim (fun h => by omega) (fun h => by cases h))] at hst
            have HF : Hid (f + 1 = rfirst b u L (i + 1)) := hst.symm
            clear hst
            go_wp2_with fail
            refine (HHS.out _).mono ?_
            rintro e W1 ⟨rfl, hb1⟩
            have hB1 := bel0 (by first | exact hBA _ | exact put4_below _ _ _ _ (hBA _) hB.size) hb1
            go_wp2_with fail
            refine (HAS.out _ hB1).mono ?_
            rintro e W2 ⟨rfl, hb2⟩
            have hB2 := bel0 hB1 hb2
            go_wp2_with fail
            go_roundw
            case rel => exact ⟨i + 1, f + 1, by go_num, by omega, by first | go_num | (congr 1; omega), HF, by omega, hB2⟩
            case measure => simp [intOf]; omega
    · have j1 : ¬ (i : Int) < (L.length : Int) := by omega
      obtain rfl : i = L.length := by omega
      have HFF : Hid (f = rfirst b u L L.length) := hf
      clear hf
      go_wp2_with fail
      go_ret
      exact ⟨by rw [← HFF.out]; rfl, hB⟩
theorem res_lkb (tmps : Array Value) (W : World) (x y : Value) (h : tmps[6]?.getD undef = x ∧ tmps[7]?.getD undef = y) : (results Try.f26 tmps).run Try.prog W = .ok (.tuple #[x, y]) W := by
  simp [results, h.1, h.2, go_sem]
set_option maxRecDepth 100000 in
set_option maxHeartbeats 1000000 in
theorem blook_any (bits : Int) (L : List IRt) (o : Option Addr) (c : Nat) (v : Int) (w : World) (hL : L.length ≤ 281474976710656) (hr : IRR w o L) :
    Calls Try.prog 26 #[.int .i64 bits, .slice o L.length c, .int .i64 v] w fun e w' => e = .returned (.tuple #[.int .i64 (rlook bits L v).1, .int .i64 (rlook bits L v).2]) ∧ Below w.heap.size w w' := by
  have HFT0 := brefusal_any bits L o c w hL hr
  obtain ⟨R, hR⟩ : ∃ R, rlook bits L v = R := ⟨_, rfl⟩
  rw [hR]
  unfold rlook at hR
  obtain ⟨F, hF⟩ : ∃ F, rfit bits L = F := ⟨_, rfl⟩
  rw [hF] at HFT0 hR
  have HFT : Hid (Calls Try.prog 35 #[.int .i64 bits, .slice o L.length c] w fun e w' => e = .returned (.int .i64 F) ∧ Below w.heap.size w w') := HFT0
  clear HFT0
  by_cases f0 : F = 0
  · subst f0
    rw [if_neg (fun h => h rfl)] at hR
    obtain ⟨b1, b2, b3, b4⟩ := rfit_ok hF
    obtain ⟨b, rfl⟩ : ∃ b : Nat, bits = b := ⟨bits.toNat, by omega⟩
    rw [Int.toNat_natCast] at hR b4
    have hb : b ≤ 32 := by omega
    have HFI0 := fun W => bfits_any b v W hb
    by_cases c1 : 0 ≤ v ∧ v < ((2 ^ b : Nat) : Int)
    · rw [if_neg (fun h => h c1)] at hR
      rw [decide_eq_true c1] at HFI0
      obtain ⟨u, rfl⟩ : ∃ u : Nat, v = u := ⟨v.toNat, by omega⟩
      rw [Int.toNat_natCast] at hR
      subst hR
      have HFI : Hid (∀ W : World, Calls Try.prog 40 #[.int .i64 (b : Int), .int .i64 (u : Int)] W fun e w' => e = .returned (.bool true) ∧ w' = W) := HFI0
      have H1 : Hid (∀ W : World, Below w.heap.size w W → Calls Try.prog 41 #[.slice o L.length c, .int .i64 (b : Int), .int .i64 (u : Int)] W fun e w' => e = .returned (.int .i64 ((rfirst b u L L.length : Int) - 1)) ∧ Below W.heap.size W w') := fun W hW => bfirst_any b u L o c W hb (Int.ofNat_lt.1 c1.2) b3 b4 (hr.later hW)
      clear HFI0 hF b1 b2 b3 b4 c1 hr
      go_enter Try.func26, Try.ntmps26
      go_wp2_with fail
      refine HFT.out.mono ?_
      rintro e W1 ⟨rfl, hb1⟩
      go_wp2_with fail
      refine (HFI.out _).mono ?_
      rintro e W2 ⟨rfl, rfl⟩
      go_wp2_with fail
      refine (H1.out _ hb1).mono ?_
      rintro e W3 ⟨rfl, hb3⟩
      go_wp2_with fail
      refine bodyPost_ret (res_lkb _ _ _ _ ⟨rfl, rfl⟩) rfl ?_
      exact ⟨rfl, bel0 hb1 hb3⟩
    · rw [if_pos c1] at hR
      rw [decide_eq_false c1] at HFI0
      subst hR
      have HFI : Hid (∀ W : World, Calls Try.prog 40 #[.int .i64 (b : Int), .int .i64 v] W fun e w' => e = .returned (.bool false) ∧ w' = W) := HFI0
      clear HFI0 hF b1 b2 b3 b4 c1 hr
      go_enter Try.func26, Try.ntmps26
      go_wp2_with fail
      refine HFT.out.mono ?_
      rintro e W1 ⟨rfl, hb1⟩
      go_wp2_with fail
      refine (HFI.out _).mono ?_
      rintro e W2 ⟨rfl, rfl⟩
      go_wp2_with fail
      refine bodyPost_ret (res_lkb _ _ _ _ ⟨rfl, rfl⟩) rfl ?_
      exact ⟨rfl, hb1⟩
  · rw [if_pos f0] at hR
    subst hR
    have f1 : (F == 0) = false := beq_eq_false_iff_ne.2 f0
    clear hr hF
    go_enter Try.func26, Try.ntmps26
    go_wp2_with fail
    refine HFT.out.mono ?_
    rintro e W1 ⟨rfl, hb1⟩
    go_wp2_with fail
    refine bodyPost_ret (res_lkb _ _ _ _ ⟨rfl, rfl⟩) rfl ?_
    exact ⟨rfl, hb1⟩
end Go.Proofs.Ytfcdaljhbeogeaa

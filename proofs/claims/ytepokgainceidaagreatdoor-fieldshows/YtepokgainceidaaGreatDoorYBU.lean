import Derived.Test.YtepokgainceidaaGreatDoorYBT
import Derived.Test.YtepokgainceidaaGreatDoorYAU
import Derived.Test.YtepokgainceidaaGreatDoorYAV
namespace Go.Proofs.YtepokgainceidaaGreatDoor
open Go.RowKit Go.Shelf
theorem toNat_pb (p b : Nat) : ((p : Int) + (b : Int)).toNat = p + b := by omega
theorem lt_4g {c d : Nat} (h : c ≤ d) (h2 : d ≤ 32) : c < 4294967296 := by omega
theorem cat7q (a b c d : List UInt8) : ByteArray.mk a.toArray ++ ByteArray.mk #[46] ++ ByteArray.mk b.toArray ++ ByteArray.mk #[46] ++ ByteArray.mk c.toArray ++ ByteArray.mk #[46] ++ ByteArray.mk d.toArray = ⟨(a ++ [46] ++ b ++ [46] ++ c ++ [46] ++ d).toArray⟩ := ByteArray.ext (by simp)
set_option maxRecDepth 100000 in
set_option maxHeartbeats 4000000 in
theorem refQuad_any (n : Nat) (w : World) (hn : n < 4294967296) : Calls Tryz.prog 49 #[.int .i64 (n : Int)] w fun e w' => e = .returned (.string ⟨(quadL n).toArray⟩) ∧ Below w.heap.size w w' := by
  have eq : quadL n = Lib.decDigits (n / 16777216) ++ [46] ++ Lib.decDigits (n / 65536 % 256) ++ [46] ++ Lib.decDigits (n / 256 % 256) ++ [46] ++ Lib.decDigits (n % 256) := rfl
  have a1 : bits BinOp.and IntKind.i64 ((n : Int) / 16777216) 255 = ((n / 16777216 : Nat) : Int) := by
    have := and_q n 16777216 _ hn rfl
    refine this.trans ?_
    omega
  have a2 : bits BinOp.and IntKind.i64 ((n : Int) / 65536) 255 = ((n / 65536 % 256 : Nat) : Int) := and_q n 65536 _ hn rfl
  have a3 : bits BinOp.and IntKind.i64 ((n : Int) / 256) 255 = ((n / 256 % 256 : Nat) : Int) := and_q n 256 _ hn rfl
  have a4 : bits BinOp.and IntKind.i64 (n : Int) 255 = ((n % 256 : Nat) : Int) := i64_and255 n (by omega)
  have c1 := fun W => refDecimal_any (n / 16777216) W (by omega)
  have c2 := fun W => refDecimal_any (n / 65536 % 256) W (by omega)
  have c3 := fun W => refDecimal_any (n / 256 % 256) W (by omega)
  have c4 := fun W => refDecimal_any (n % 256) W (by omega)
  have l1 := dec_10 (n / 16777216) (by omega)
  have l2 := dec_10 (n / 65536 % 256) (by omega)
  have l3 := dec_10 (n / 256 % 256) (by omega)
  have l4 := dec_10 (n % 256) (by omega)
  obtain ⟨A, hA⟩ : ∃ A, Lib.decDigits (n / 16777216) = A := ⟨_, rfl⟩
  obtain ⟨B, hB⟩ : ∃ B, Lib.decDigits (n / 65536 % 256) = B := ⟨_, rfl⟩
  obtain ⟨C, hC⟩ : ∃ C, Lib.decDigits (n / 256 % 256) = C := ⟨_, rfl⟩
  obtain ⟨D, hD⟩ : ∃ D, Lib.decDigits (n % 256) = D := ⟨_, rfl⟩
  rw [eq, hA, hB, hC, hD]
  rw [hA] at l1
  rw [hB] at l2
  rw [hC] at l3
  rw [hD] at l4
  simp only [hA] at c1
  simp only [hB] at c2
  simp only [hC] at c3
  simp only [hD] at c4
  obtain ⟨x1, hx1⟩ : ∃ x, ((n / 16777216 : Nat) : Int) = x := ⟨_, rfl⟩
  obtain ⟨x2, hx2⟩ : ∃ x, ((n / 65536 % 256 : Nat) : Int) = x := ⟨_, rfl⟩
  obtain ⟨x3, hx3⟩ : ∃ x, ((n / 256 % 256 : Nat) : Int) = x := ⟨_, rfl⟩
  obtain ⟨x4, hx4⟩ : ∃ x, ((n % 256 : Nat) : Int) = x := ⟨_, rfl⟩
  rw [hx1] at a1
  rw [hx2] at a2
  rw [hx3] at a3
  rw [hx4] at a4
  simp only [hx1] at c1
  simp only [hx2] at c2
  simp only [hx3] at c3
  simp only [hx4] at c4
  clear hA hB hC hD eq hx1 hx2 hx3 hx4
  go_enter Tryz.func49, Tryz.ntmps49
  go_wp2_with fail
  refine (c1 _).mono ?_
  rintro e W1 ⟨rfl, hb1⟩
  go_wp2_with fail
  refine (c2 _).mono ?_
  rintro e W2 ⟨rfl, hb2⟩
  go_wp2_with fail
  refine (c3 _).mono ?_
  rintro e W3 ⟨rfl, hb3⟩
  go_wp2_with fail
  refine (c4 _).mono ?_
  rintro e W4 ⟨rfl, hb4⟩
  go_wp2_with fail
  go_ret
  exact ⟨congrArg (fun z => Ending.returned (.string z)) (cat7q A B C D), bel0 (bel0 (bel0 hb1 hb2) hb3) hb4⟩
set_option maxRecDepth 100000 in
theorem refNumber4_any (n : Nat) (w : World) (hn : n < 4294967296) : Calls Tryz.prog 48 #[.int .i64 (n : Int)] w fun e w' => e = .returned (.string ⟨(numW n).toArray⟩) ∧ Below w.heap.size w w' := by
  unfold numW
  have c1 := fun W => refDecimal_any n W hn
  have c2 := fun W => refQuad_any n W hn
  by_cases h : n < 65536
  · have i1 : (n : Int) < 65536 := by omega
    rw [if_pos h]
    go_enter Tryz.func48, Tryz.ntmps48
    go_wp2_with fail
    refine (c1 _).mono ?_
    rintro e W1 ⟨rfl, hb1⟩
    go_wp2_with fail
    go_ret
    exact ⟨rfl, hb1⟩
  · have i1 : ¬ (n : Int) < 65536 := by omega
    rw [if_neg h]
    go_enter Tryz.func48, Tryz.ntmps48
    go_wp2_with fail
    refine (c2 _).mono ?_
    rintro e W1 ⟨rfl, hb1⟩
    go_wp2_with fail
    go_ret
    exact ⟨rfl, hb1⟩
set_option maxRecDepth 100000 in
set_option maxHeartbeats 4000000 in
theorem refCount_any (D : List UInt8) (w : World) (hD : D.length ≤ 256) : Calls Tryz.prog 46 #[.string ⟨D.toArray⟩] w fun e w' => e = .returned (.tuple #[.int .i64 ((cntS D 0 true 0).1 : Int), .bool (cntS D 0 true 0).2]) ∧ w' = w := by
  obtain ⟨R, hR⟩ : ∃ R, cntS D 0 true 0 = R := ⟨_, rfl⟩
  have HR : Hid (cntS (D.drop 0) 0 true 0 = R) := hR
  rw [hR]
  clear hR
  go_enter Tryz.func46, Tryz.ntmps46
  go_wp2_with fail
  go_loopw [4, 5, 6] (fun vn vf vk wr => ∃ (n k : Nat) (f : Bool), vn = .int .i64 n ∧ vf = .bool f ∧ vk = .int .i64 k ∧ k ≤ D.length ∧ n ≤ k ∧ Hid (cntS (D.drop k) n f k = R) ∧ wr = w) (fun _ _ vk _ => D.length - (intOf vk).toNat)
  case atStart => exact ⟨0, 0, true, rfl, rfl, rfl, Nat.zero_le _, Nat.zero_le _, HR, rfl⟩
  case round =>
    clear HR
    obtain ⟨n, k, f, rfl, rfl, rfl, hk, hnk, hrun, rfl⟩ := hrel
    by_cases hlt : k < D.length
    · have j0 : (0 : Int) ≤ (k : Int) := by omega
      have j1 : (k : Int) < (D.length : Int) := by omega
      obtain ⟨c, hc, hlc⟩ := byte_get D k hlt
      have hst := hrun.out
      rw [cnt_step hlc] at hst
      by_cases c120 : c = 120
      · rw [if_pos c120] at hst
        have HST : Hid (cntS (D.drop (k + 1)) n f (k + 1) = R) := hst
        subst c120
        clear hst hrun hlc
        go_wp2_with fail
        go_roundw
        case rel => exact ⟨n, k + 1, f, rfl, rfl, by go_num, by omega, by omega, HST, by first | rfl | trivial⟩
        case measure => simp [intOf]; omega
      · rw [if_neg c120] at hst
        have HST : Hid (cntS (D.drop (k + 1)) (n + 1) (f && decide (n + 1 = k + 1)) (k + 1) = R) := hst
        have d120 : ((c.toNat : Int) != 120) = true := by
          rw [bne_iff_ne]
          intro e
          exact c120 (UInt8.toNat_inj.1 (by show c.toNat = 120; omega))
        have w1 : IntKind.i64.wrap ((n : Int) + 1) = ((n + 1 : Nat) : Int) := by rw [IntKind.wrap_i64]; omega
        have w2 : IntKind.i64.wrap ((k : Int) + 1) = ((k + 1 : Nat) : Int) := by rw [IntKind.wrap_i64]; omega
        have w3 : wrap64 ((n : Int) + 1) = ((n + 1 : Nat) : Int) := by rw [w64 (by omega) (by omega)]; omega
        have w4 : wrap64 ((k : Int) + 1) = ((k + 1 : Nat) : Int) := by rw [w64 (by omega) (by omega)]; omega
        clear hst hrun hlc
        cases f with
        | true =>
          by_cases hnk2 : n = k
          · have b1 : (((n + 1 : Nat) : Int) == ((k + 1 : Nat) : Int)) = true := by rw [hnk2]; simp
            have HS2 : Hid (cntS (D.drop (k + 1)) (n + 1) true (k + 1) = R) := by have := HST.out; rw [decide_eq_true (by omega)] at this; exact this
            have HNK : Hid (n = k) := hnk2
            clear hnk2
            go_wp2_with fail
            go_roundw
            case rel => exact ⟨n + 1, k + 1, true, by first | rfl | go_num, by first | rfl | exact congrArg Value.bool (beq_iff_eq.2 (by have := HNK.out; omega)), by first | rfl | go_num, by omega, by omega, HS2, by first | rfl | trivial⟩
            case measure => simp [intOf]; omega
          · have b1 : (((n + 1 : Nat) : Int) == ((k + 1 : Nat) : Int)) = false := by rw [beq_eq_false_iff_ne]; omega
            have HS2 : Hid (cntS (D.drop (k + 1)) (n + 1) false (k + 1) = R) := by have := HST.out; rw [decide_eq_false (by omega)] at this; exact this
            have HNK : Hid (¬ n = k) := hnk2
            clear hnk2
            go_wp2_with fail
            go_roundw
            case rel => exact ⟨n + 1, k + 1, false, by first | rfl | go_num, by first | rfl | exact congrArg Value.bool (beq_eq_false_iff_ne.2 (by have := HNK.out; omega)), by first | rfl | go_num, by omega, by omega, HS2, by first | rfl | trivial⟩
            case measure => simp [intOf]; omega
        | false =>
          have HS2 : Hid (cntS (D.drop (k + 1)) (n + 1) false (k + 1) = R) := by have := HST.out; rw [Bool.false_and] at this; exact this
          go_wp2_with fail
          go_roundw
          case rel => exact ⟨n + 1, k + 1, false, by first | rfl | go_num, rfl, by first | rfl | go_num, by omega, by omega, HS2, by first | rfl | trivial⟩
          case measure => simp [intOf]; omega
    · have j1 : ¬ (k : Int) < (D.length : Int) := by omega
      have hR2 : R = (n, f) := by rw [← hrun.out, List.drop_eq_nil_of_le (by omega)]; rfl
      have HR2 : Hid (R = (n, f)) := hR2
      clear hrun hR2
      go_wp2_with fail
      refine bodyPost_ret (results_tmp2 rfl _ _ _) rfl ?_
      exact ⟨by rw [HR2.out]; rfl, rfl⟩
set_option maxRecDepth 100000 in
set_option maxHeartbeats 8000000 in
theorem refShow_any (L : List IFld) (o : Option Addr) (c : Nat) (s : List UInt8) (w : World) (hL : L.length ≤ 281474976710656) (hx : ∀ f ∈ L, f.1.length ≤ 281474976710656) (hr : IRF w o L) :
    Calls Tryz.prog 15 #[.slice o L.length c, .string ⟨s.toArray⟩] w fun e w' => e = .returned (.tuple #[.string ⟨(swM L s).1.toArray⟩, .int .i64 (swM L s).2]) ∧ Below w.heap.size w w' := by
  have HC := refCheck_any L o c w hL hx hr
  obtain ⟨R, hR⟩ : ∃ R, swM L s = R := ⟨_, rfl⟩
  rw [hR]
  by_cases h0 : ¬ (chkM L).1 = 0
  · have hres : Hid (R = ([], (chkM L).1)) := by unfold Hid; rw [← hR]; unfold swM; rw [if_pos h0]
    obtain ⟨ce, hce⟩ : ∃ x, (chkM L).1 = x := ⟨_, rfl⟩
    rw [hce] at HC h0 hres
    have y1 : (ce != 0) = true := by simpa using h0
    clear hx hr hR hce
    go_enter Tryz.func15, Tryz.ntmps15
    go_wp2_with fail
    refine HC.mono ?_
    rintro e W1 ⟨rfl, hb1⟩
    go_wp2_with fail
    refine bodyPost_ret (results_tmp2 rfl _ _ _) rfl ?_
    exact ⟨by rw [hres.out]; rfl, hb1⟩
  replace h0 := Classical.not_not.1 h0
  rw [h0] at HC
  obtain ⟨k1, k2, k3, k4⟩ := chk_ok h0
  have hb0 : ∀ f ∈ L, 0 ≤ f.2 ∧ f.2 ≤ 32 := fun f hf => by have := k3 f hf; omega
  have hnl := chk_nm h0
  have hxx : ∀ f ∈ L, f.1.length ≤ 24 ∧ 1 ≤ f.2 ∧ f.2 ≤ 32 := fun f hf => ⟨hnl f hf, k3 f hf⟩
  obtain ⟨n, hn⟩ : ∃ n : Nat, sumB L = (n : Int) := ⟨(sumB L).toNat, by have := (sumB_bound L hb0).1; omega⟩
  have hn256 : n ≤ 256 := by omega
  have hsh : swM L s = if cuB n s = false then ([], 46) else (swJ (swL L s L.length), 0) := by unfold swM; rw [if_neg (fun h => h h0), hn, Int.toNat_natCast]
  obtain ⟨f0, hf0⟩ : ∃ f, L[0]? = some f := ⟨_, List.getElem?_eq_getElem k1⟩
  obtain ⟨g, o0, rfl, -⟩ := hr w (Below.refl _ _) 0 f0 hf0
  have HR : Hid (IRF w (some ⟨g, o0, none⟩) L) := hr
  have HB0 : Hid (∀ f ∈ L, 0 ≤ f.2 ∧ f.2 ≤ 32) := hb0
  have HXX : Hid (∀ f ∈ L, f.1.length ≤ 24 ∧ 1 ≤ f.2 ∧ f.2 ≤ 32) := hxx
  have HN : Hid (sumB L = (n : Int)) := hn
  have HWD : Hid (∀ W : World, Below w.heap.size w W → Calls Tryz.prog 35 #[.slice (some ⟨g, o0, none⟩) L.length c] W fun e w' => e = .returned (.int .i64 (n : Int)) ∧ Below W.heap.size W w') := fun W hW => by
    have := refWidth_any L (some ⟨g, o0, none⟩) c W (by omega) hb0 (hr.later hW)
    rw [hn] at this
    exact this
  have HOF : Hid (∀ W : World, Calls Tryz.prog 45 #[.string ⟨s.toArray⟩, .string ⟨#[48, 49, 120]⟩, .int .i64 (n : Int)] W fun e w' => e = .returned (.bool (cuB n s)) ∧ Below W.heap.size W w') := fun W => refOf3_any n s W hn256
  cases hh : cuB n s with
  | false =>
    have hres : Hid (R = ([], 46)) := by unfold Hid; rw [← hR, hsh, hh, if_pos rfl]
    simp only [hh] at HOF
    clear hx hr hR h0 k3 k4 hb0 hn hf0 hsh hh hnl hxx
    go_enter Tryz.func15, Tryz.ntmps15
    go_wp2_with fail
    refine HC.mono ?_
    rintro e W1 ⟨rfl, hb1⟩
    go_wp2_with fail
    refine (HWD.out _ hb1).mono ?_
    rintro e W2 ⟨rfl, hb2⟩
    go_wp2_with fail
    refine (HOF.out _).mono ?_
    rintro e W4 ⟨rfl, hb4⟩
    go_wp2_with fail
    refine bodyPost_ret (results_tmp2 rfl _ _ _) rfl ?_
    exact ⟨by rw [hres.out]; rfl, bel0 (bel0 hb1 hb2) hb4⟩
  | true =>
    have hres : Hid (R = (swJ (swL L s L.length), 0)) := by unfold Hid; rw [← hR, hsh, hh, if_neg (by decide)]
    have hh2 := hh
    unfold cuB at hh2
    rw [Bool.and_eq_true, decide_eq_true_eq] at hh2
    obtain ⟨hsn, hs3⟩ := hh2
    simp only [hh] at HOF
    have HS3 : Hid (s.all Tn.tri = true) := hs3
    have HSN : Hid (s.length = n) := hsn
    clear hx hr hR h0 k3 k4 hb0 hn hf0 hsh hh hnl hxx hsn hs3
    go_enter Tryz.func15, Tryz.ntmps15
    go_wp2_with fail
    refine HC.mono ?_
    rintro e W1 ⟨rfl, hb1⟩
    go_wp2_with fail
    refine (HWD.out _ hb1).mono ?_
    rintro e W2 ⟨rfl, hb2⟩
    go_wp2_with fail
    refine (HOF.out _).mono ?_
    rintro e W4 ⟨rfl, hb4⟩
    have hB4 := bel0 (bel0 hb1 hb2) hb4
    clear HC HWD HOF hb1 hb2 hb4
    go_wp2_with fail
    go_loopw [9, 10, 11] (fun va vp vk wr => ∃ (k p : Nat) (A : List UInt8), va = .string ⟨A.toArray⟩ ∧ vp = .int .i64 p ∧ vk = .int .i64 k ∧ k ≤ L.length ∧ Hid (sumB (L.take k) = (p : Int)) ∧ Hid (Lib.join (swL L s k) [32, 38, 32] = A) ∧ Below w.heap.size w wr) (fun _ _ vk _ => L.length - (intOf vk).toNat)
    case atStart => exact ⟨0, 0, [], rfl, rfl, rfl, Nat.zero_le _, rfl, rfl, hB4⟩
    case round =>
      clear hB4
      obtain ⟨k, p, A, rfl, rfl, rfl, hk, hp, hA, hB⟩ := hrel
      have hin := swL_in HXX.out k hk (s := s)
      have hTl := swL_len L s k
      have hjl := join_le (T := swL L s k) (sep := [32, 38, 32]) (B := 91) (by decide) (fun t ht => (hin t ht).1)
      rw [hA.out] at hjl
      have hA12 : A.length ≤ 2184 := by omega
      have hemp : A = [] ↔ swL L s k = [] := by
        rw [← hA.out]
        constructor
        · intro h
          refine Classical.byContradiction fun h2 => join_ne h2 (fun t ht => (hin t ht).2) h
        · intro h
          rw [h]
          rfl
      by_cases hlt : k < L.length
      · have j1 : (k : Int) < (L.length : Int) := by omega
        have j0 : (0 : Int) ≤ (k : Int) := by omega
        obtain ⟨f, hf⟩ : ∃ f, L[k]? = some f := ⟨_, List.getElem?_eq_getElem hlt⟩
        obtain ⟨g9, o9, e9, p0, p1⟩ := HR.out wr hB k f hf
        injection e9 with e9
        injection e9 with e9 e10
        subst e9 e10
        have hbits := HXX.out f (List.mem_of_getElem? hf)
        have hst := sumB_take hf
        have hle := sumB_take_le HB0.out (k + 1)
        rw [hst, HN.out, hp.out] at hle
        rw [hp.out] at hst
        obtain ⟨x, bi⟩ := f
        obtain ⟨b, rfl⟩ : ∃ b : Nat, bi = (b : Int) := ⟨bi.toNat, by simp only at hbits; omega⟩
        have XF : Hid (∀ W : World, Below w.heap.size w W → W.cell? ⟨g, o0 + k * 2, none⟩ = some (.string ⟨x.toArray⟩) ∧ W.cell? ⟨g, o0 + k * 2 + 1, none⟩ = some (.int .i64 (b : Int))) := fun W hW => by
          obtain ⟨g3, q3, h1, h2⟩ := HR.out W hW k _ hf
          injection h1 with h1
          injection h1 with h1 h4
          subst h1 h4
          exact h2
        simp only at hle hbits p0 p1 hst
        have HST : Hid (sumB (L.take (k + 1)) = ((p + b : Nat) : Int)) := by unfold Hid; rw [hst]; omega
        have hsn := HSN.out
        have hsc := swL_succ (s := s) hf hp.out
        have hDl : (subL s p (p + b)).length = b := by unfold subL; rw [List.length_take, List.length_drop]; omega
        have hDt : (subL s p (p + b)).all Tn.tri = true := by
          rw [List.all_eq_true]
          intro d hd
          unfold subL at hd
          exact List.all_eq_true.1 HS3.out d (List.mem_of_mem_drop (List.mem_of_mem_take hd))
        have hsub := ext_sub s p (p + b)
        obtain ⟨D, hD⟩ : ∃ D, subL s p (p + b) = D := ⟨_, rfl⟩
        rw [hD] at hDl hDt hsc hsub
        have hCT := refCount_any D wr (by omega)
        have hVL := refValue_any D wr (by omega)
        have hv4 := valF_4g (D := D) (by omega)
        have hcz := cnt_zero (D := D) hDt
        have hcl := cnt_le D
        have hTD : tellM D = if (cntS D 0 true 0).1 = D.length then numW (valF 0 D) else if (cntS D 0 true 0).2 = true then quadL (valF 0 D) ++ [47] ++ Lib.decDigits (cntS D 0 true 0).1 else [37] ++ D := rfl
        have htl := tell_64 (D := D) (by omega)
        obtain ⟨v, hv⟩ : ∃ v, valF 0 D = v := ⟨_, rfl⟩
        obtain ⟨⟨cn, cf⟩, hcn⟩ : ∃ q : Nat × Bool, cntS D 0 true 0 = q := ⟨_, rfl⟩
        simp only [hv, hcn] at hCT hVL hv4 hcz hcl hTD
        obtain ⟨Y, hY⟩ : ∃ Y, tellM D = Y := ⟨_, rfl⟩
        rw [hY] at hTD htl
        have hST : swT x D = if D.any dg01 = true then [x ++ [32, 61, 32] ++ Y] else [] := by rw [← hY]; rfl
        rw [hST] at hsc
        have m0 : (0 : Int) ≤ (p : Int) := by omega
        have m1 : (p : Int) ≤ (p : Int) + (b : Int) := by omega
        have m2 : (p : Int) + (b : Int) ≤ (s.length : Int) := by rw [hsn]; omega
        have e9 : IntKind.i64.wrap ((p : Int) + (b : Int)) = (p : Int) + (b : Int) := by rw [IntKind.wrap_i64]; omega
        have e8 : wrap64 ((p : Int) + (b : Int)) = (p : Int) + (b : Int) := by rw [w64 (by omega) (by omega)]
        have t9 : ((p : Int) + (b : Int)).toNat = p + b := toNat_pb p b
        obtain ⟨z0, z1⟩ := XF.out wr hB
        have HCT : Hid (Calls Tryz.prog 46 #[.string ⟨D.toArray⟩] wr fun e w' => e = .returned (.tuple #[.int .i64 (cn : Int), .bool cf]) ∧ w' = wr) := hCT
        have HVL : Hid (Calls Tryz.prog 47 #[.string ⟨D.toArray⟩] wr fun e w' => e = .returned (.int .i64 (v : Int)) ∧ w' = wr) := hVL
        have hx24 := hbits.1
        have hD32 : D.length ≤ 32 := by omega
        by_cases hc0 : cn = 0
        · have hany := hcz.1 hc0
          rw [show D.any dg01 = false from hany, if_neg (by decide), List.append_nil] at hsc
          have HSC : Hid (Lib.join (swL L s (k + 1)) [32, 38, 32] = A) := by unfold Hid; rw [hsc]; exact hA.out
          have y1 : ((cn : Int) == 0) = true := by rw [hc0]; rfl
          clear hf hst hsc hD hCT hVL hcz hTD hY hST hv hcn hA hin hemp hp hDt hc0 hany
          go_wp2_with fail
          refine HCT.out.mono ?_
          rintro e W5 ⟨rfl, rfl⟩
          go_wp2_with fail
          refine HVL.out.mono ?_
          rintro e W6 ⟨rfl, rfl⟩
          go_wp2_with fail
          go_roundw
          case rel => exact ⟨k + 1, p + b, A, rfl, by go_num, by go_num, by omega, HST, HSC, hB⟩
          case measure => simp [intOf]; omega
        · have hany : D.any dg01 = true := by
            cases h : D.any dg01 with
            | true => rfl
            | false => exact absurd (hcz.2 h) hc0
          rw [hany, if_pos rfl] at hsc
          have y1 : ((cn : Int) == 0) = false := by rw [beq_eq_false_iff_ne]; omega
          obtain ⟨Z, hZ⟩ : ∃ Z, x ++ [32, 61, 32] ++ Y = Z := ⟨_, rfl⟩
          rw [hZ] at hsc
          have hZl : Z.length ≤ 91 := by rw [← hZ]; simp only [List.length_append, List.length_cons, List.length_nil]; omega
          obtain ⟨A2, hA2⟩ : ∃ A2, (if A = [] then Z else A ++ [32, 38, 32] ++ Z) = A2 := ⟨_, rfl⟩
          have HSC : Hid (Lib.join (swL L s (k + 1)) [32, 38, 32] = A2) := by
            unfold Hid
            rw [hsc, ← hA2]
            by_cases h : A = []
            · rw [if_pos h, hemp.1 h, List.nil_append, Lib.join_one]
            · rw [if_neg h, join_snoc _ _ _ (fun h2 => h (hemp.2 h2)), hA.out]
          have HA2 : Hid ((if A = [] then Z else A ++ [32, 38, 32] ++ Z) = A2) := hA2
          have HZ : Hid (x ++ [32, 61, 32] ++ Y = Z) := hZ
          have HTD : Hid (Y = if cn = D.length then numW v else if cf = true then quadL v ++ [47] ++ Lib.decDigits cn else [37] ++ D) := hTD
          have HNM : Hid (∀ W : World, Calls Tryz.prog 48 #[.int .i64 (v : Int)] W fun e w' => e = .returned (.string ⟨(numW v).toArray⟩) ∧ Below W.heap.size W w') := fun W => refNumber4_any v W hv4
          have HQD : Hid (∀ W : World, Calls Tryz.prog 49 #[.int .i64 (v : Int)] W fun e w' => e = .returned (.string ⟨(quadL v).toArray⟩) ∧ Below W.heap.size W w') := fun W => refQuad_any v W hv4
          have HDC : Hid (∀ W : World, Calls Tryz.prog 50 #[.int .i64 (cn : Int)] W fun e w' => e = .returned (.string ⟨(Lib.decDigits cn).toArray⟩) ∧ Below W.heap.size W w') := fun W => refDecimal_any cn W (lt_4g hcl hD32)
          have hq47 := quad_47 v hv4
          have hc10 := dec_10 cn (lt_4g hcl hD32)
          have hn47 : (numW v).length ≤ 47 := by unfold numW; split; (have := dec_10 v hv4; omega); exact hq47
          have hA0 : A = [] ∨ ¬ A = [] := Classical.em _
          clear hf hst hsc hD hCT hVL hcz hTD hY hST hv hcn hA hin hemp hp hDt hc0 hany hZ hA2
          by_cases hfull : cn = D.length
          · have hY1 := HTD.out
            rw [if_pos hfull] at hY1
            have y2 : ((cn : Int) == (D.length : Int)) = true := by rw [hfull]; simp
            subst hY1
            have HZ1 : Hid (ByteArray.mk x.toArray ++ ByteArray.mk #[32, 61, 32] ++ ByteArray.mk (numW v).toArray = ⟨Z.toArray⟩) := by unfold Hid; rw [← HZ.out]; exact ByteArray.ext (by simp)
            clear hfull HTD
            go_wp2_with fail
            refine HCT.out.mono ?_
            rintro e W5 ⟨rfl, rfl⟩
            go_wp2_with fail
            refine HVL.out.mono ?_
            rintro e W6 ⟨rfl, rfl⟩
            go_wp2_with fail
            refine (HNM.out _).mono ?_
            rintro e W7 ⟨rfl, hb7⟩
            have hB7 := bel0 hB hb7
            rcases hA0 with hA0 | hA0
            · have hA2 := HA2.out
              rw [if_pos hA0] at hA2
              subst hA0
              subst hA2
              have HF : Hid (ByteArray.mk #[] ++ ByteArray.mk Z.toArray = ⟨Z.toArray⟩) := ByteArray.ext (by simp)
              clear HA2
              go_wp2_with fail
              go_roundw
              case rel => exact ⟨k + 1, p + b, Z, by first | rfl | (rw [HZ1.out]; done) | (rw [HZ1.out, HF.out]), by go_num, by go_num, by omega, HST, HSC, hB7⟩
              case measure => simp [intOf]; omega
            · have hA2 := HA2.out
              rw [if_neg hA0] at hA2
              have hne1 : (A == []) = false := by rw [beq_eq_false_iff_ne]; exact hA0
              have hne2 : (A != []) = true := by rw [bne_iff_ne]; exact hA0
              have HF : Hid (ByteArray.mk A.toArray ++ ByteArray.mk #[32, 38, 32] ++ ByteArray.mk Z.toArray = ⟨A2.toArray⟩) := by unfold Hid; rw [← hA2]; exact ByteArray.ext (by simp)
              clear hA2 HA2
              go_wp2_with fail
              go_roundw
              case rel => exact ⟨k + 1, p + b, A2, by first | rfl | (rw [HZ1.out, HF.out]), by go_num, by go_num, by omega, HST, HSC, hB7⟩
              case measure => simp [intOf]; omega
          · rw [if_neg hfull] at HTD
            have y2 : ((cn : Int) == (D.length : Int)) = false := by rw [beq_eq_false_iff_ne]; omega
            cases cf with
            | true =>
              have hY1 := HTD.out
              rw [if_pos rfl] at hY1
              have HZ1 : Hid (ByteArray.mk x.toArray ++ ByteArray.mk #[32, 61, 32] ++ ByteArray.mk (quadL v).toArray ++ ByteArray.mk #[47] ++ ByteArray.mk (Lib.decDigits cn).toArray = ⟨Z.toArray⟩) := by unfold Hid; rw [← HZ.out, hY1]; exact ByteArray.ext (by simp)
              clear hfull HTD hY1
              go_wp2_with fail
              refine HCT.out.mono ?_
              rintro e W5 ⟨rfl, rfl⟩
              go_wp2_with fail
              refine HVL.out.mono ?_
              rintro e W6 ⟨rfl, rfl⟩
              go_wp2_with fail
              refine (HQD.out _).mono ?_
              rintro e W7 ⟨rfl, hb7⟩
              have hB7' := bel0 hB hb7
              go_wp2_with fail
              refine (HDC.out _).mono ?_
              rintro e W8 ⟨rfl, hb8⟩
              have hB7 := bel0 hB7' hb8
              rcases hA0 with hA0 | hA0
              · have hA2 := HA2.out
                rw [if_pos hA0] at hA2
                subst hA0
                subst hA2
                have HF : Hid (ByteArray.mk #[] ++ ByteArray.mk Z.toArray = ⟨Z.toArray⟩) := ByteArray.ext (by simp)
                clear HA2
                go_wp2_with fail
                go_roundw
                case rel => exact ⟨k + 1, p + b, Z, by first | rfl | (rw [HZ1.out]; done) | (rw [HZ1.out, HF.out]), by go_num, by go_num, by omega, HST, HSC, hB7⟩
                case measure => simp [intOf]; omega
              · have hA2 := HA2.out
                rw [if_neg hA0] at hA2
                have hne1 : (A == []) = false := by rw [beq_eq_false_iff_ne]; exact hA0
                have hne2 : (A != []) = true := by rw [bne_iff_ne]; exact hA0
                have HF : Hid (ByteArray.mk A.toArray ++ ByteArray.mk #[32, 38, 32] ++ ByteArray.mk Z.toArray = ⟨A2.toArray⟩) := by unfold Hid; rw [← hA2]; exact ByteArray.ext (by simp)
                clear hA2 HA2
                go_wp2_with fail
                go_roundw
                case rel => exact ⟨k + 1, p + b, A2, by first | rfl | (rw [HZ1.out, HF.out]), by go_num, by go_num, by omega, HST, HSC, hB7⟩
                case measure => simp [intOf]; omega
            | false =>
              have hY1 := HTD.out
              rw [if_neg (by decide)] at hY1
              have HZ1 : Hid (ByteArray.mk x.toArray ++ ByteArray.mk #[32, 61, 32] ++ ByteArray.mk #[37] ++ ByteArray.mk D.toArray = ⟨Z.toArray⟩) := by unfold Hid; rw [← HZ.out, hY1]; exact ByteArray.ext (by simp)
              have hB7 := hB
              clear hfull HTD hY1
              go_wp2_with fail
              refine HCT.out.mono ?_
              rintro e W5 ⟨rfl, rfl⟩
              go_wp2_with fail
              refine HVL.out.mono ?_
              rintro e W6 ⟨rfl, rfl⟩
              rcases hA0 with hA0 | hA0
              · have hA2 := HA2.out
                rw [if_pos hA0] at hA2
                subst hA0
                subst hA2
                have HF : Hid (ByteArray.mk #[] ++ ByteArray.mk Z.toArray = ⟨Z.toArray⟩) := ByteArray.ext (by simp)
                clear HA2
                go_wp2_with fail
                go_roundw
                case rel => exact ⟨k + 1, p + b, Z, by first | rfl | (rw [HZ1.out]; done) | (rw [HZ1.out, HF.out]), by go_num, by go_num, by omega, HST, HSC, hB7⟩
                case measure => simp [intOf]; omega
              · have hA2 := HA2.out
                rw [if_neg hA0] at hA2
                have hne1 : (A == []) = false := by rw [beq_eq_false_iff_ne]; exact hA0
                have hne2 : (A != []) = true := by rw [bne_iff_ne]; exact hA0
                have HF : Hid (ByteArray.mk A.toArray ++ ByteArray.mk #[32, 38, 32] ++ ByteArray.mk Z.toArray = ⟨A2.toArray⟩) := by unfold Hid; rw [← hA2]; exact ByteArray.ext (by simp)
                clear hA2 HA2
                go_wp2_with fail
                go_roundw
                case rel => exact ⟨k + 1, p + b, A2, by first | rfl | (rw [HZ1.out, HF.out]), by go_num, by go_num, by omega, HST, HSC, hB7⟩
                case measure => simp [intOf]; omega
      · have j1 : ¬ (k : Int) < (L.length : Int) := by omega
        obtain rfl : k = L.length := by omega
        by_cases hA0 : A = []
        · have hR2 : R = ([97, 110, 121], 0) := by rw [hres.out, hemp.1 hA0]; rfl
          subst hA0
          have HR2 : Hid (R = ([97, 110, 121], 0)) := hR2
          clear hR2 hA hin hres hemp
          go_wp2_with fail
          refine bodyPost_ret (results_tmp2 rfl _ _ _) rfl ?_
          exact ⟨by rw [HR2.out]; rfl, hB⟩
        · have HR2 : Hid (R = (A, 0)) := by unfold Hid; rw [hres.out, swJ, if_neg (fun h => hA0 (hemp.2 h)), hA.out]
          have hne1 : (A == []) = false := by rw [beq_eq_false_iff_ne]; exact hA0
          clear hA hin hres hemp
          go_wp2_with fail
          refine bodyPost_ret (results_tmp2 rfl _ _ _) rfl ?_
          exact ⟨by rw [HR2.out]; rfl, hB⟩
set_option maxRecDepth 100000 in
set_option maxHeartbeats 8000000 in
theorem fieldShows_walk (L : List IFld) (n : Nat) (ad : Option Addr) (cap : Nat) (h : ByteArray) (w : World) (hLn : L.length = n) (hcap : n ≤ cap) (hlb : n * 24 ≤ 140737488355328) (hstr : ∀ f ∈ L, f.1.length ≤ 281474976710656) (hcell : IRF w ad L) (hlim : h.size ≤ 281474976710656) (hv1 : SH w) (hdb : DB w) (hv4 : SG w) (hv5 : VW w) :
    Calls Tryz.prog 4 #[.slice ad n cap, .string h] w fun e w' => e = .returned (.bool true) ∧ Below w.heap.size w w' := by
  obtain ⟨s, rfl⟩ : ∃ s : List UInt8, h = ⟨s.toArray⟩ := ⟨h.data.toList, by simp⟩
  have hsl : s.length ≤ 281474976710656 := by simpa [ByteArray.size] using hlim
  obtain ⟨r, hr⟩ : ∃ r, swM L s = r := ⟨_, rfl⟩
  have HR : Hid (∀ W : World, Below w.heap.size w W → IRF W ad L) := fun W hW => hcell.later hW
  have HRC : Hid (Calls Tryz.prog 15 #[.slice ad n cap, .string ⟨s.toArray⟩] w fun e w' => e = .returned (.tuple #[.string ⟨r.1.toArray⟩, .int .i64 r.2]) ∧ Below w.heap.size w w') := by
    unfold Hid
    rw [← hLn, ← hr]
    exact refShow_any L ad cap s w (by omega) hstr hcell
  have HCP : Hid (∀ W : World, Below w.heap.size w W → Calls Tryz.prog 9 #[.slice ad n cap] W fun e w' => ∃ v, e = .returned v ∧ w'.ownsRow W.heap.size 51 2 v n (fels L) ∧ Below W.heap.size W w') := fun W hW => by
    rw [← hLn]
    exact copyFields_any L ad cap W (by omega) (hcell.later hW)
  have HCK : Hid (∀ W : World, Below w.heap.size w W → Calls Tryz.prog 16 #[.slice ad n cap, .string ⟨s.toArray⟩] W fun e w' => e = .returned (.tuple #[.string ⟨r.1.toArray⟩, .int .i64 r.2]) ∧ Below W.heap.size W w') := fun W hW => by
    rw [← hLn, ← hr]
    exact show_any L ad cap s W (by omega) (by omega) hstr hsl (hcell.later hW) (hv1.below hW) (hv4.below hW) (hv5.below hW)
  have HUN : Hid (∀ (W : World) (o2 : Option Addr) (c2 : Nat), IRF W ad L → IRF W o2 L → Calls Tryz.prog 13 #[.slice ad n cap, .slice o2 n c2] W fun e w' => e = .returned (.bool false) ∧ Below W.heap.size W w') := fun W o2 c2 i1 i2 => by
    rw [← hLn]
    exact unlike_any L ad o2 cap c2 W (by omega) i1 i2
  have HKN : Hid (∀ W : World, Below w.heap.size w W → Calls Tryz.prog 14 #[] W fun e w' => e = .returned (.bool true) ∧ Below W.heap.size W w') := fun W hW => known_any W (hdb.below hW)
  have HLN : Hid (L.length = n) := hLn
  obtain ⟨S, a0⟩ := r
  simp only at HRC HCK
  have y1 : (a0 == a0) = true := beq_self_eq_true a0
  have y2 : (S == S) = true := beq_self_eq_true S
  clear hr hLn hcell hstr hv1 hv4 hv5 hdb
  go_enter Tryz.func4, Tryz.ntmps4
  go_wp2_with fail
  refine HRC.out.mono ?_
  rintro e W1 ⟨rfl, hb1⟩
  go_wp2_with fail
  refine (HCP.out _ hb1).mono ?_
  rintro e W2 ⟨v, rfl, hown, hb2⟩
  have hB2 := bel0 hb1 hb2
  obtain ⟨pv, cv, rfl⟩ := shapeP hown
  have HO : Hid (∀ W : World, Below W2.heap.size W2 W → IRF W pv L) := fun W hW => (IRF_own hown HLN.out).later hW
  clear hown
  go_wp2_with fail
  refine (HCK.out _ hB2).mono ?_
  rintro e W3 ⟨rfl, hb3⟩
  have hB3 := bel0 hB2 hb3
  go_wp2_with fail
  refine (num_any a0 _).mono ?_
  rintro e W5 ⟨rfl, rfl⟩
  go_wp2_with fail
  refine (HUN.out _ pv cv (HR.out _ hB3) (HO.out _ hb3)).mono ?_
  rintro e W7 ⟨rfl, hb7⟩
  have hB7 := bel0 hB3 hb7
  go_wp2_with fail
  refine (HKN.out _ hB7).mono ?_
  rintro e W8 ⟨rfl, hb8⟩
  go_wp2_with fail
  go_ret
  exact ⟨rfl, bel0 hB7 hb8⟩
end Go.Proofs.YtepokgainceidaaGreatDoor

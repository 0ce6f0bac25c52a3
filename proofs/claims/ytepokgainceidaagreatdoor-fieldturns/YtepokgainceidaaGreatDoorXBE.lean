import Derived.Test.YtepokgainceidaaGreatDoorXBC
import Derived.Test.YtepokgainceidaaGreatDoorXBD
namespace Go.Proofs.YtepokgainceidaaGreatDoor
open Go.RowKit Go.Shelf
set_option maxRecDepth 100000 in
set_option maxHeartbeats 2000000 in
theorem refWidth_any (L : List IFld) (o : Option Addr) (c : Nat) (w : World) (hL : L.length ≤ 4096) (hf : ∀ f ∈ L, 0 ≤ f.2 ∧ f.2 ≤ 32) (hr : IRF w o L) :
    Calls Tryz.prog 35 #[.slice o L.length c] w fun e w' => e = .returned (.int .i64 (sumB L)) ∧ Below w.heap.size w w' := by
  have HR : Hid (IRF w o L) := hr
  have HF : Hid (∀ f ∈ L, 0 ≤ f.2 ∧ f.2 ≤ 32) := hf
  clear hr hf
  go_enter Tryz.func35, Tryz.ntmps35
  go_wp2_with fail
  go_loopw [3, 4] (fun vs vk wr => ∃ k : Nat, vk = .int .i64 k ∧ k ≤ L.length ∧ vs = .int .i64 (sumB (L.take k)) ∧ Below w.heap.size w wr) (fun _ vk _ => L.length - (intOf vk).toNat)
  case atStart => exact ⟨0, rfl, Nat.zero_le _, rfl, Below.refl _ _⟩
  case round =>
    obtain ⟨k, rfl, hk, rfl, hB⟩ := hrel
    by_cases hlt : k < L.length
    · have j1 : (k : Int) < (L.length : Int) := by omega
      have j0 : (0 : Int) ≤ (k : Int) := by omega
      obtain ⟨f, hf⟩ : ∃ f, L[k]? = some f := ⟨_, List.getElem?_eq_getElem hlt⟩
      obtain ⟨g, o0, rfl, p0, p1⟩ := HR.out wr hB k f hf
      have hs := sumB_take hf
      have hbd := sumB_bound (L.take k) (fun g hg => HF.out g (List.mem_of_mem_take hg))
      have hfb := HF.out f (List.mem_of_getElem? hf)
      have hlen : (L.take k).length = k := by rw [List.length_take]; omega
      rw [hlen] at hbd
      obtain ⟨y, n⟩ := f
      simp only at p0 p1 hs hfb
      obtain ⟨s, hs0⟩ : ∃ s, sumB (L.take k) = s := ⟨_, rfl⟩
      rw [hs0] at hs hbd
      have HS : Hid (sumB (L.take (k + 1)) = s + n) := hs
      rw [hs0]
      clear hf hs hlen hs0
      have e1 : IntKind.i64.wrap (s + n) = s + n := by rw [IntKind.wrap_i64]; omega
      go_wp2_with fail
      go_roundw
      case rel => exact ⟨k + 1, by go_num, by omega, by rw [HS.out], hB⟩
      case measure => simp [intOf]; omega
    · have j1 : ¬ (k : Int) < (L.length : Int) := by omega
      rw [List.take_of_length_le (by omega)]
      go_wp2_with fail
      go_ret
      exact ⟨rfl, hB⟩
def plM (L : List IFld) (x : List UInt8) : Int × Int := if idxF L x < 0 then (-1, -1) else (sumB (L.take (idxF L x).toNat), idxF L x)
set_option maxRecDepth 100000 in
set_option maxHeartbeats 4000000 in
theorem refPlace_any (L : List IFld) (o : Option Addr) (c : Nat) (x : List UInt8) (w : World) (hL : L.length ≤ 4096) (hf : ∀ f ∈ L, 0 ≤ f.2 ∧ f.2 ≤ 32) (hr : IRF w o L) :
    Calls Tryz.prog 34 #[.slice o L.length c, .string ⟨x.toArray⟩] w fun e w' => e = .returned (.tuple #[.int .i64 (plM L x).1, .int .i64 (plM L x).2]) ∧ Below w.heap.size w w' := by
  have HR : Hid (IRF w o L) := hr
  have HF : Hid (∀ f ∈ L, 0 ≤ f.2 ∧ f.2 ≤ 32) := hf
  obtain ⟨R, hR⟩ : ∃ R, plM L x = R := ⟨_, rfl⟩
  rw [hR]
  have HI0 : Hid (idxG 0 (L.drop 0) x = idxF L x) := rfl
  have HRR : Hid (plM L x = R) := hR
  clear hr hf hR
  go_enter Tryz.func34, Tryz.ntmps34
  go_wp2_with fail
  go_loopw [6, 7] (fun vs vk wr => ∃ k : Nat, vk = .int .i64 k ∧ k ≤ L.length ∧ vs = .int .i64 (sumB (L.take k)) ∧ Hid (idxG k (L.drop k) x = idxF L x) ∧ Below w.heap.size w wr) (fun _ vk _ => L.length - (intOf vk).toNat)
  case atStart => exact ⟨0, rfl, Nat.zero_le _, rfl, HI0, Below.refl _ _⟩
  case round =>
    clear HI0
    obtain ⟨k, rfl, hk, rfl, hidx, hB⟩ := hrel
    by_cases hlt : k < L.length
    · have j1 : (k : Int) < (L.length : Int) := by omega
      have j0 : (0 : Int) ≤ (k : Int) := by omega
      obtain ⟨f, hf⟩ : ∃ f, L[k]? = some f := ⟨_, List.getElem?_eq_getElem hlt⟩
      obtain ⟨g, o0, rfl, p0, p1⟩ := HR.out wr hB k f hf
      have hs := sumB_take hf
      have hbd := sumB_bound (L.take k) (fun g hg => HF.out g (List.mem_of_mem_take hg))
      have hfb := HF.out f (List.mem_of_getElem? hf)
      have hlen : (L.take k).length = k := by rw [List.length_take]; omega
      rw [hlen] at hbd
      have hx2 := hidx.out
      rw [idxG_step hf] at hx2
      obtain ⟨y, n⟩ := f
      simp only at p0 p1 hs hfb hx2
      by_cases hy : y = x
      · rw [if_pos hy] at hx2
        have HRES : Hid (R = (sumB (L.take k), (k : Int))) := by
          unfold Hid
          rw [← HRR.out]
          unfold plM
          rw [← hx2, if_neg (by omega), Int.toNat_natCast]
        have y0 : (y == x) = true := beq_iff_eq.2 hy
        obtain ⟨s, hs0⟩ : ∃ s, sumB (L.take k) = s := ⟨_, rfl⟩
        rw [hs0] at HRES
        rw [hs0]
        clear hf hs hlen hs0 hx2 hidx hy hbd
        go_wp2_with fail
        refine bodyPost_ret (results_tmp2 rfl _ _ _) rfl ?_
        exact ⟨by rw [HRES.out]; rfl, hB⟩
      · rw [if_neg hy] at hx2
        have y0 : (y == x) = false := beq_eq_false_iff_ne.2 hy
        have HX : Hid (idxG (k + 1) (L.drop (k + 1)) x = idxF L x) := hx2
        obtain ⟨s, hs0⟩ : ∃ s, sumB (L.take k) = s := ⟨_, rfl⟩
        rw [hs0] at hs hbd
        have HS : Hid (sumB (L.take (k + 1)) = s + n) := hs
        rw [hs0]
        clear hf hs hlen hs0 hx2 hidx hy
        have e1 : IntKind.i64.wrap (s + n) = s + n := by rw [IntKind.wrap_i64]; omega
        go_wp2_with fail
        go_roundw
        case rel => exact ⟨k + 1, by go_num, by omega, by rw [HS.out], HX, hB⟩
        case measure => simp [intOf]; omega
    · have j1 : ¬ (k : Int) < (L.length : Int) := by omega
      have HRES : Hid (R = (-1, -1)) := by
        unfold Hid
        rw [← HRR.out]
        unfold plM
        rw [← hidx.out, List.drop_eq_nil_of_le (by omega)]
        exact if_pos (show (-1 : Int) < 0 by decide)
      clear hidx
      go_wp2_with fail
      refine bodyPost_ret (results_tmp2 rfl _ _ _) rfl ?_
      exact ⟨by rw [HRES.out]; rfl, hB⟩
theorem putL_eq {acc D : List UInt8} {p : Nat} (h : p + D.length ≤ acc.length) : (acc.take p ++ D) ++ acc.drop (p + D.length) = putL acc p D := by
  have e : acc = acc.take p ++ ((acc.drop p).take D.length ++ acc.drop (p + D.length)) := by
    rw [← List.drop_drop, List.take_append_drop, List.take_append_drop]
  have hl : (acc.take p).length = p := by rw [List.length_take]; omega
  have := putL_mid D (acc.take p) ((acc.drop p).take D.length) (acc.drop (p + D.length)) (by rw [List.length_take, List.length_drop]; omega)
  rw [← e, hl] at this
  rw [this, List.append_assoc]
set_option maxRecDepth 100000 in
set_option maxHeartbeats 8000000 in
theorem refWord_any (L : List IFld) (o : Option Addr) (c : Nat) (S : List IFld) (o2 : Option Addr) (c2 : Nat) (w : World) (hL : L.length ≤ 281474976710656) (hx : ∀ f ∈ L, f.1.length ≤ 281474976710656) (hr : IRF w o L) (hrs : IRF w o2 S) :
    Calls Tryz.prog 60 #[.slice o L.length c, .slice o2 S.length c2] w fun e w' => e = .returned (.tuple #[.string ⟨(wdM L S).1.toArray⟩, .int .i64 (wdM L S).2]) ∧ Below w.heap.size w w' := by
  obtain ⟨R, hR⟩ : ∃ R, wdM L S = R := ⟨_, rfl⟩
  rw [hR]
  by_cases hbig : 12 < S.length
  · have i1 : (12 : Int) < (S.length : Int) := by omega
    have hres : Hid (R = ([], 2)) := by unfold Hid; rw [← hR]; unfold wdM; rw [if_pos hbig]
    clear hx hr hrs hR
    go_enter Tryz.func60, Tryz.ntmps60
    go_wp2_with fail
    refine bodyPost_ret (results_tmp2 rfl _ _ _) rfl ?_
    exact ⟨by rw [hres.out]; rfl, Below.refl _ _⟩
  have i1 : ¬ (12 : Int) < (S.length : Int) := by omega
  have HC := refCheck_any L o c w hL hx hr
  by_cases h0 : ¬ (chkM L).1 = 0
  · have hres : Hid (R = ([], (chkM L).1)) := by unfold Hid; rw [← hR]; unfold wdM; rw [if_neg hbig, if_pos h0]
    obtain ⟨ce, hce⟩ : ∃ x, (chkM L).1 = x := ⟨_, rfl⟩
    rw [hce] at HC h0 hres
    have y1 : (ce != 0) = true := by simpa using h0
    clear hx hr hrs hR hce
    go_enter Tryz.func60, Tryz.ntmps60
    go_wp2_with fail
    refine HC.mono ?_
    rintro e W1 ⟨rfl, hb1⟩
    go_wp2_with fail
    refine bodyPost_ret (results_tmp2 rfl _ _ _) rfl ?_
    exact ⟨by rw [hres.out]; rfl, hb1⟩
  replace h0 := Classical.not_not.1 h0
  rw [h0] at HC
  obtain ⟨k1, k2, k3, k4⟩ := chk_ok h0
  have hb0 : ∀ f ∈ L, 0 ≤ f.2 ∧ f.2 ≤ 32 := fun f hf => by have := k3 f hf; omega
  obtain ⟨n, hn⟩ : ∃ n : Nat, sumB L = (n : Int) := ⟨(sumB L).toNat, by have := (sumB_bound L hb0).1; omega⟩
  have hn256 : n ≤ 256 := by omega
  have HRF : Hid (wdF L (S.take 0) (S.drop 0) (List.replicate n 120) = R) := by unfold Hid; rw [← hR]; unfold wdM; rw [if_neg hbig, if_neg (fun h => h h0), hn]; rfl
  obtain ⟨f0, hf0⟩ : ∃ f, L[0]? = some f := ⟨_, List.getElem?_eq_getElem k1⟩
  obtain ⟨g, o0, rfl, -⟩ := hr w (Below.refl _ _) 0 f0 hf0
  have HR : Hid (IRF w (some ⟨g, o0, none⟩) L) := hr
  have HRS : Hid (IRF w o2 S) := hrs
  have HK3 : Hid (∀ f ∈ L, 1 ≤ f.2 ∧ f.2 ≤ 32) := k3
  have HB0 : Hid (∀ f ∈ L, 0 ≤ f.2 ∧ f.2 ≤ 32) := hb0
  have HN : Hid (sumB L = (n : Int)) := hn
  have HWD : Hid (∀ W : World, Below w.heap.size w W → Calls Tryz.prog 35 #[.slice (some ⟨g, o0, none⟩) L.length c] W fun e w' => e = .returned (.int .i64 (n : Int)) ∧ Below W.heap.size W w') := fun W hW => by
    have := refWidth_any L (some ⟨g, o0, none⟩) c W (by omega) hb0 (hr.later hW)
    rw [hn] at this
    exact this
  have HXS : Hid (∀ W : World, Calls Tryz.prog 37 #[.int .i64 (n : Int)] W fun e w' => e = .returned (.string ⟨(List.replicate n 120).toArray⟩) ∧ Below W.heap.size W w') := fun W => xs_any n (by omega) W
  obtain ⟨T0, hT0⟩ : ∃ T0 : List UInt8, List.replicate n 120 = T0 := ⟨_, rfl⟩
  have hT0l : Hid (T0.length = n) := by unfold Hid; rw [← hT0]; simp
  rw [hT0] at HRF
  simp only [hT0] at HXS
  clear hx hr hrs hR h0 k3 k4 hb0 hn hf0 hT0
  go_enter Tryz.func60, Tryz.ntmps60
  go_wp2_with fail
  refine HC.mono ?_
  rintro e W1 ⟨rfl, hb1⟩
  go_wp2_with fail
  refine (HWD.out _ hb1).mono ?_
  rintro e W2 ⟨rfl, hb2⟩
  go_wp2_with fail
  refine (HXS.out _).mono ?_
  rintro e W3 ⟨rfl, hb3⟩
  have hB3 := bel0 (bel0 hb1 hb2) hb3
  clear HC HWD HXS hb1 hb2 hb3
  go_wp2_with fail
  go_loopw [8, 9] (fun vs vk wr => ∃ (k : Nat) (acc : List UInt8), vk = .int .i64 k ∧ k ≤ S.length ∧ vs = .string ⟨acc.toArray⟩ ∧ Hid (acc.length = n) ∧ Hid (wdF L (S.take k) (S.drop k) acc = R) ∧ Below w.heap.size w wr) (fun _ vk _ => S.length - (intOf vk).toNat)
  case atStart => exact ⟨0, T0, rfl, Nat.zero_le _, rfl, hT0l, HRF, hB3⟩
  case round =>
    clear HRF hB3
    obtain ⟨k, acc, rfl, hk, rfl, hal, hrun, hB⟩ := hrel
    by_cases hlt : k < S.length
    · have j1 : (k : Int) < (S.length : Int) := by omega
      have j0 : (0 : Int) ≤ (k : Int) := by omega
      obtain ⟨s, hs⟩ : ∃ s, S[k]? = some s := ⟨_, List.getElem?_eq_getElem hlt⟩
      obtain ⟨g2, q0, rfl, p0, p1⟩ := HRS.out wr hB k s hs
      have hstep := hrun.out
      rw [wdF_step hs] at hstep
      have HPL : Hid (∀ W : World, Below w.heap.size w W → Calls Tryz.prog 34 #[.slice (some ⟨g, o0, none⟩) L.length c, .string ⟨s.1.toArray⟩] W fun e w' => e = .returned (.tuple #[.int .i64 (plM L s.1).1, .int .i64 (plM L s.1).2]) ∧ Below W.heap.size W w') := fun W hW => refPlace_any L (some ⟨g, o0, none⟩) c s.1 W (by omega) HB0.out (HR.out.later hW)
      have HIX : Hid (0 ≤ idxF (S.take k) s.1 ↔ ∃ i h, i < k ∧ S[i]? = some h ∧ h.1 = s.1) := by
        unfold Hid
        rw [idxF_ge]
        constructor
        · rintro ⟨h, hm, he⟩
          obtain ⟨i, hi⟩ := List.getElem?_of_mem hm
          rw [List.getElem?_take] at hi
          split at hi
          · rename_i hik; exact ⟨i, h, hik, hi, he⟩
          · cases hi
        · rintro ⟨i, h, hik, hi, he⟩
          refine ⟨h, List.mem_of_getElem? (i := i) ?_, he⟩
          rw [List.getElem?_take, if_pos hik]
          exact hi
      have XS : Hid (∀ W : World, Below w.heap.size w W → W.cell? ⟨g2, q0 + k * 2, none⟩ = some (.string ⟨s.1.toArray⟩) ∧ W.cell? ⟨g2, q0 + k * 2 + 1, none⟩ = some (.int .i64 s.2)) := fun W hW => by
        obtain ⟨g3, q3, h1, h2⟩ := HRS.out W hW k s hs
        injection h1 with h1
        injection h1 with h1 h4
        subst h1 h4
        exact h2
      have hix := idxG_ge L 0 s.1
      obtain ⟨x, sv⟩ := s
      simp only at p0 p1 hstep HPL hix XS HIX
      rcases hix with hix | ⟨i, f, hix, hfi, hfx⟩
      · have hix2 : idxF L x = -1 := hix
        have hres : Hid (R = ([], 41)) := by unfold Hid; rw [← hstep, hix2, if_pos (by decide)]
        have hpl : plM L x = (-1, -1) := by unfold plM; rw [hix2, if_pos (by decide)]
        rw [hpl] at HPL
        clear hstep hix hix2 hrun hs hpl
        go_wp2_with fail
        refine (HPL.out _ hB).mono ?_
        rintro e W3 ⟨rfl, hb3⟩
        go_wp2_with fail
        refine bodyPost_ret (results_tmp2 rfl _ _ _) rfl ?_
        exact ⟨by rw [hres.out]; rfl, bel0 hB hb3⟩
      have hix2 : idxF L x = (i : Int) := by
        unfold idxF
        rw [hix, Nat.zero_add]
      have hgd : L.getD i ([], 0) = f := by simp [List.getD, hfi]
      rw [hix2, if_neg (by omega), Int.toNat_natCast, hgd] at hstep
      have hil : i < L.length := (List.getElem?_eq_some_iff.1 hfi).1
      have l1 : (i : Int) < (L.length : Int) := by omega
      have l0 : (0 : Int) ≤ (i : Int) := by omega
      have l2 : ¬ (i : Int) < 0 := by omega
      have hbits := HK3.out f (List.mem_of_getElem? hfi)
      have hst := sumB_take hfi
      have hpb := (sumB_bound (L.take i) (fun f hf => HB0.out f (List.mem_of_mem_take hf))).1
      obtain ⟨p, hp⟩ : ∃ p : Nat, sumB (L.take i) = (p : Int) := ⟨(sumB (L.take i)).toNat, by omega⟩
      have hpl : plM L x = ((p : Int), (i : Int)) := by unfold plM; rw [hix2, if_neg (by omega), Int.toNat_natCast, hp]
      rw [hpl] at HPL
      have hle := sumB_take_le HB0.out (i + 1)
      rw [hst, HN.out, hp] at hle
      rw [hp, Int.toNat_natCast] at hstep
      have XF : Hid (∀ W : World, Below w.heap.size w W → W.cell? ⟨g, o0 + i * 2 + 1, none⟩ = some (.int .i64 f.2)) := fun W hW => by
        obtain ⟨g3, q3, h1, -, h2⟩ := HR.out W hW i f hfi
        injection h1 with h1
        injection h1 with h1 h4
        subst h1 h4
        exact h2
      obtain ⟨fx, bi⟩ := f
      obtain ⟨b, rfl⟩ : ∃ b : Nat, bi = (b : Int) := ⟨bi.toNat, by simp only at hbits; omega⟩
      simp only [Int.toNat_natCast] at hstep hbits hle XF
      have hb1 : 1 ≤ b := by omega
      have hb32 : b ≤ 32 := by omega
      have HP2 : Hid (2 ^ b ≤ 2 ^ 32) := Nat.pow_le_pow_right (by decide) hb32
      have HSTEP : Hid ((if 0 ≤ idxF (S.take k) x then ([], 45) else if 0 ≤ sv ∧ sv ≤ ((2 ^ b - 1 : Nat) : Int) then wdF L (S.take (k + 1)) (S.drop (k + 1)) (putL acc p (digL b sv.toNat 0)) else ([], 42)) = R) := hstep
      clear hstep hix hix2 hrun hs hgd hst hpb hfi hfx hp hpl
      go_wp2_with fail
      refine (HPL.out _ hB).mono ?_
      rintro e W3 ⟨rfl, hb3⟩
      have hB3 := bel0 hB hb3
      clear HPL p0 p1 hb3 hB
      go_wp2_with fail
      go_loopw [12] (fun vj wi => ∃ j : Nat, vj = .int .i64 j ∧ j ≤ k ∧ Hid (∀ i h, i < j → S[i]? = some h → h.1 ≠ x) ∧ Below w.heap.size w wi) (fun vj _ => k - (intOf vj).toNat)
      case atStart => exact ⟨0, rfl, Nat.zero_le _, fun i h hi => by omega, hB3⟩
      case round =>
        clear hB3
        obtain ⟨j, rfl, hj, hno, hB⟩ := hrel
        by_cases hjk : j < k
        · have q1 : (j : Int) < (k : Int) := by omega
          have q00 : (0 : Int) ≤ (j : Int) := by omega
          have q2 : (j : Int) < (S.length : Int) := by omega
          obtain ⟨h, hh⟩ : ∃ h, S[j]? = some h := ⟨_, List.getElem?_eq_getElem (by omega)⟩
          have XH : Hid (∀ W : World, Below w.heap.size w W → W.cell? ⟨g2, q0 + j * 2, none⟩ = some (.string ⟨h.1.toArray⟩)) := fun W hW => by
            obtain ⟨g3, q3, e1, e2, -⟩ := HRS.out W hW j h hh
            injection e1 with e1
            injection e1 with e1 e3
            subst e1 e3
            exact e2
          have HEQ : Hid (h.1 = x → R = ([], 45)) := fun e => by rw [← HSTEP.out, if_pos (HIX.out.2 ⟨j, h, hjk, hh, e⟩)]
          have HNX : Hid (h.1 ≠ x → ∀ i h, i < j + 1 → S[i]? = some h → h.1 ≠ x) := fun hne i h' hi hh' => by
            rcases Nat.lt_or_ge i j with h1 | h1
            · exact hno.out i h' h1 hh'
            · obtain rfl : i = j := by omega
              rw [hh] at hh'
              rw [← Option.some.inj hh']
              exact hne
          obtain ⟨y, bb⟩ := h
          simp only at XH HEQ HNX
          clear hh hno
          obtain ⟨e0, he0⟩ : ∃ e, (y == x) = e := ⟨_, rfl⟩
          go_wp2_with fail
          refine quiet_lit3 (C := fun W => Below w.heap.size w W) (by kernel_rfl) (by kernel_rfl) (show Below _ _ _ from hB.drew) ?_
          go_big_quiet_want
          go_big_quiet_op
          go_big_quiet_on
          go_big_quiet_want
          go_big_quiet_op
          go_big_quiet_on
          go_big_quiet_want
          refine ⟨.pointer (some ⟨g2, q0 + j * 2, none⟩), fun W hW => ?_, ?_⟩
          · go_simp
          go_big_quiet_on
          simp only [Act.put, List.setIfInBounds_toArray, List.set_cons_zero, List.set_cons_succ]
          go_big_quiet_want
          refine ⟨.pointer (some ⟨g2, q0 + j * 2, none⟩), fun W hW => ?_, ?_⟩
          · go_simp
          go_big_quiet_on
          simp only [Act.put, List.setIfInBounds_toArray, List.set_cons_zero, List.set_cons_succ]
          go_big_quiet_want
          refine ⟨.string ⟨y.toArray⟩, fun W hW => ?_, ?_⟩
          · have z0 := XH.out W hW
            go_simp
          go_big_quiet_on
          simp only [Act.put, List.setIfInBounds_toArray, List.set_cons_zero, List.set_cons_succ]
          go_big_quiet_want
          go_big_quiet_op
          go_big_quiet_on
          go_big_quiet_want
          go_big_quiet_op
          go_big_quiet_on
          go_big_quiet_want
          refine ⟨.pointer (some ⟨g2, q0 + k * 2, none⟩), fun W hW => ?_, ?_⟩
          · go_simp
          go_big_quiet_on
          simp only [Act.put, List.setIfInBounds_toArray, List.set_cons_zero, List.set_cons_succ]
          go_big_quiet_want
          refine ⟨.pointer (some ⟨g2, q0 + k * 2, none⟩), fun W hW => ?_, ?_⟩
          · go_simp
          go_big_quiet_on
          simp only [Act.put, List.setIfInBounds_toArray, List.set_cons_zero, List.set_cons_succ]
          go_big_quiet_want
          refine ⟨.string ⟨x.toArray⟩, fun W hW => ?_, ?_⟩
          · obtain ⟨z0, z1⟩ := XS.out W hW
            go_simp
          go_big_quiet_on
          simp only [Act.put, List.setIfInBounds_toArray, List.set_cons_zero, List.set_cons_succ]
          go_big_quiet_want
          refine ⟨.bool e0, fun W hW => ?_, ?_⟩
          · go_simp
          go_big_quiet_on
          simp only [Act.put, List.setIfInBounds_toArray, List.set_cons_zero, List.set_cons_succ]
          refine wpQuiet_nil ?_
          intro W hW
          cases e0 with
          | true =>
            have HRES : Hid (R = ([], 45)) := HEQ.out (beq_iff_eq.1 he0)
            clear HEQ HNX he0
            go_wp2_with fail
            refine bodyPost_ret (results_tmp2 rfl _ _ _) rfl ?_
            exact ⟨by rw [HRES.out]; rfl, hW⟩
          | false =>
            have HN2 : Hid (∀ i h, i < j + 1 → S[i]? = some h → h.1 ≠ x) := HNX.out (beq_eq_false_iff_ne.1 he0)
            clear HEQ HNX he0
            go_wp2_with fail
            go_roundw
            case rel => exact ⟨j + 1, by go_num, by omega, HN2, hW⟩
            case measure => simp [intOf]; omega
        · have q1 : ¬ (j : Int) < (k : Int) := by omega
          obtain rfl : j = k := by omega
          have hnx : ¬ 0 ≤ idxF (S.take j) x := by
            rw [HIX.out]
            rintro ⟨i, h, hi, hh, he⟩
            exact hno.out i h hi hh he
          have HTP : Hid (∀ W : World, Calls Tryz.prog 69 #[.int .i64 (b : Int)] W fun e w' => e = .returned (.int .i64 ((2 ^ b - 1 : Nat) : Int)) ∧ w' = W) := fun W => top_any b hb32 W
          have HST2 : Hid ((if 0 ≤ sv ∧ sv ≤ ((2 ^ b - 1 : Nat) : Int) then wdF L (S.take (j + 1)) (S.drop (j + 1)) (putL acc p (digL b sv.toNat 0)) else ([], 42)) = R) := by unfold Hid; rw [← HSTEP.out, if_neg hnx]
          obtain ⟨tp, htp⟩ : ∃ t : Nat, 2 ^ b - 1 = t := ⟨_, rfl⟩
          have htp2 : tp < 4294967296 := by have := HP2.out; omega
          rw [htp] at HST2
          simp only [htp] at HTP
          have z9 := XF.out _ hB
          clear HSTEP hnx hno htp
          by_cases hv0 : sv < 0
          · have hres : Hid (R = ([], 42)) := by unfold Hid; rw [← HST2.out, if_neg (by omega)]
            clear HST2
            go_wp2_with fail
            refine quiet_lit3 (C := fun W => Below w.heap.size w W) (by kernel_rfl) (by kernel_rfl) (show Below _ _ _ from hB.drew) ?_
            go_big_quiet_want
            go_big_quiet_op
            go_big_quiet_on
            go_big_quiet_want
            go_big_quiet_op
            go_big_quiet_on
            go_big_quiet_want
            refine ⟨.pointer (some ⟨g2, q0 + j * 2, none⟩), fun W hW => ?_, ?_⟩
            · go_simp
            go_big_quiet_on
            simp only [Act.put, List.setIfInBounds_toArray, List.set_cons_zero, List.set_cons_succ]
            go_big_quiet_want
            refine ⟨.pointer (some ⟨g2, q0 + j * 2 + 1, none⟩), fun W hW => ?_, ?_⟩
            · go_simp
            go_big_quiet_on
            simp only [Act.put, List.setIfInBounds_toArray, List.set_cons_zero, List.set_cons_succ]
            go_big_quiet_want
            refine ⟨.int .i64 sv, fun W hW => ?_, ?_⟩
            · obtain ⟨z0, z1⟩ := XS.out W hW
              go_simp
            go_big_quiet_on
            simp only [Act.put, List.setIfInBounds_toArray, List.set_cons_zero, List.set_cons_succ]
            go_big_quiet_want
            refine ⟨.bool true, fun W hW => ?_, ?_⟩
            · go_simp
            go_big_quiet_on
            simp only [Act.put, List.setIfInBounds_toArray, List.set_cons_zero, List.set_cons_succ]
            go_big_quiet_want
            go_big_quiet_op
            go_big_quiet_on
            go_big_quiet_skip
            go_big_quiet_skip
            go_big_quiet_skip
            go_big_quiet_skip
            go_big_quiet_skip
            go_big_quiet_skip
            go_big_quiet_skip
            go_big_quiet_skip
            go_big_quiet_want
            refine ⟨.bool true, fun W hW => ?_, ?_⟩
            · go_simp
            go_big_quiet_on
            simp only [Act.put, List.setIfInBounds_toArray, List.set_cons_zero, List.set_cons_succ]
            refine wpQuiet_nil ?_
            intro W hW
            go_wp2_with fail
            refine bodyPost_ret (results_tmp2 rfl _ _ _) rfl ?_
            exact ⟨by rw [hres.out]; rfl, hW⟩
          by_cases hvt : (tp : Int) < sv
          · have hres : Hid (R = ([], 42)) := by unfold Hid; rw [← HST2.out, if_neg (by omega)]
            clear HST2
            go_wp2_with fail
            refine quiet_lit3 (C := fun W => Below w.heap.size w W) (by kernel_rfl) (by kernel_rfl) (show Below _ _ _ from hB.drew) ?_
            go_big_quiet_want
            go_big_quiet_op
            go_big_quiet_on
            go_big_quiet_want
            go_big_quiet_op
            go_big_quiet_on
            go_big_quiet_want
            refine ⟨.pointer (some ⟨g2, q0 + j * 2, none⟩), fun W hW => ?_, ?_⟩
            · go_simp
            go_big_quiet_on
            simp only [Act.put, List.setIfInBounds_toArray, List.set_cons_zero, List.set_cons_succ]
            go_big_quiet_want
            refine ⟨.pointer (some ⟨g2, q0 + j * 2 + 1, none⟩), fun W hW => ?_, ?_⟩
            · go_simp
            go_big_quiet_on
            simp only [Act.put, List.setIfInBounds_toArray, List.set_cons_zero, List.set_cons_succ]
            go_big_quiet_want
            refine ⟨.int .i64 sv, fun W hW => ?_, ?_⟩
            · obtain ⟨z0, z1⟩ := XS.out W hW
              go_simp
            go_big_quiet_on
            simp only [Act.put, List.setIfInBounds_toArray, List.set_cons_zero, List.set_cons_succ]
            go_big_quiet_want
            refine ⟨.bool false, fun W hW => ?_, ?_⟩
            · go_simp
              try omega
            go_big_quiet_on
            simp only [Act.put, List.setIfInBounds_toArray, List.set_cons_zero, List.set_cons_succ]
            go_big_quiet_want
            go_big_quiet_op
            go_big_quiet_on
            go_big_quiet_want
            go_big_quiet_op
            go_big_quiet_on
            go_big_quiet_want
            go_big_quiet_op
            go_big_quiet_on
            go_big_quiet_want
            refine ⟨.pointer (some ⟨g2, q0 + j * 2, none⟩), fun W hW => ?_, ?_⟩
            · go_simp
            go_big_quiet_on
            simp only [Act.put, List.setIfInBounds_toArray, List.set_cons_zero, List.set_cons_succ]
            go_big_quiet_want
            refine ⟨.pointer (some ⟨g2, q0 + j * 2 + 1, none⟩), fun W hW => ?_, ?_⟩
            · go_simp
            go_big_quiet_on
            simp only [Act.put, List.setIfInBounds_toArray, List.set_cons_zero, List.set_cons_succ]
            go_big_quiet_want
            refine ⟨.int .i64 sv, fun W hW => ?_, ?_⟩
            · obtain ⟨z0, z1⟩ := XS.out W hW
              go_simp
            go_big_quiet_on
            simp only [Act.put, List.setIfInBounds_toArray, List.set_cons_zero, List.set_cons_succ]
            go_big_quiet_want
            go_big_quiet_op
            go_big_quiet_on
            go_big_quiet_want
            refine ⟨.int .i64 (tp : Int), fun W hW => ?_, ?_⟩
            · go_simp
              refine (HTP.out W).mono ?_
              rintro e w7 ⟨rfl, rfl⟩
              exact ⟨rfl, by simpa using hW⟩
            go_big_quiet_on
            simp only [Act.put, List.setIfInBounds_toArray, List.set_cons_zero, List.set_cons_succ]
            go_big_quiet_want
            refine ⟨.bool true, fun W hW => ?_, ?_⟩
            · go_simp
              try omega
            go_big_quiet_on
            simp only [Act.put, List.setIfInBounds_toArray, List.set_cons_zero, List.set_cons_succ]
            go_big_quiet_want
            refine ⟨.bool true, fun W hW => ?_, ?_⟩
            · go_simp
            go_big_quiet_on
            simp only [Act.put, List.setIfInBounds_toArray, List.set_cons_zero, List.set_cons_succ]
            refine wpQuiet_nil ?_
            intro W hW
            go_wp2_with fail
            refine bodyPost_ret (results_tmp2 rfl _ _ _) rfl ?_
            exact ⟨by rw [hres.out]; rfl, hW⟩
          have hgo : Hid (wdF L (S.take (j + 1)) (S.drop (j + 1)) (putL acc p (digL b sv.toNat 0)) = R) := by unfold Hid; rw [← HST2.out, if_pos (by omega)]
          obtain ⟨vn, rfl⟩ : ∃ vn : Nat, sv = (vn : Int) := ⟨sv.toNat, by omega⟩
          rw [Int.toNat_natCast] at hgo
          have HDG : Hid (∀ W : World, Calls Tryz.prog 96 #[.int .i64 (vn : Int), .int .i64 (b : Int)] W fun e w' => e = .returned (.string ⟨(digL b vn 0).toArray⟩) ∧ Below W.heap.size W w') := fun W => by
            have := rdigits_any vn b hb32 (by omega) W
            rw [digL0] at this
            exact this
          have hDl := digL_len b vn 0 (Nat.zero_le _)
          obtain ⟨D, hD⟩ : ∃ D, digL b vn 0 = D := ⟨_, rfl⟩
          rw [hD] at hgo hDl
          simp only [hD] at HDG
          have HDL : Hid (D.length = b) := hDl
          have HAC : Hid ((acc.take p ++ D) ++ acc.drop (p + b) = putL acc p D) := by
            have := putL_eq (acc := acc) (D := D) (p := p) (by rw [hDl, hal.out]; omega)
            rw [hDl] at this
            exact this
          have m1 : (p : Int) ≤ (acc.length : Int) := by rw [hal.out]; omega
          have m0 : (0 : Int) ≤ (p : Int) := by omega
          have m2 : (p : Int) + (b : Int) ≤ (acc.length : Int) := by rw [hal.out]; omega
          have m3 : (0 : Int) ≤ (p : Int) + (b : Int) := by omega
          have e9 : IntKind.i64.wrap ((p : Int) + (b : Int)) = (p : Int) + (b : Int) := by rw [IntKind.wrap_i64]; omega
          have t9 : ((p : Int) + (b : Int)).toNat = p + b := by omega
          have HAL : Hid ((putL acc p D).length = n) := by unfold Hid; rw [putL_len]; exact hal.out
          clear HST2 hD hDl
          go_wp2_with fail
          refine quiet_lit3 (C := fun W => Below w.heap.size w W) (by kernel_rfl) (by kernel_rfl) (show Below _ _ _ from hB.drew) ?_
          go_big_quiet_want
          go_big_quiet_op
          go_big_quiet_on
          go_big_quiet_want
          go_big_quiet_op
          go_big_quiet_on
          go_big_quiet_want
          refine ⟨.pointer (some ⟨g2, q0 + j * 2, none⟩), fun W hW => ?_, ?_⟩
          · go_simp
          go_big_quiet_on
          simp only [Act.put, List.setIfInBounds_toArray, List.set_cons_zero, List.set_cons_succ]
          go_big_quiet_want
          refine ⟨.pointer (some ⟨g2, q0 + j * 2 + 1, none⟩), fun W hW => ?_, ?_⟩
          · go_simp
          go_big_quiet_on
          simp only [Act.put, List.setIfInBounds_toArray, List.set_cons_zero, List.set_cons_succ]
          go_big_quiet_want
          refine ⟨.int .i64 (vn : Int), fun W hW => ?_, ?_⟩
          · obtain ⟨z0, z1⟩ := XS.out W hW
            go_simp
          go_big_quiet_on
          simp only [Act.put, List.setIfInBounds_toArray, List.set_cons_zero, List.set_cons_succ]
          go_big_quiet_want
          refine ⟨.bool false, fun W hW => ?_, ?_⟩
          · go_simp
            try omega
          go_big_quiet_on
          simp only [Act.put, List.setIfInBounds_toArray, List.set_cons_zero, List.set_cons_succ]
          go_big_quiet_want
          go_big_quiet_op
          go_big_quiet_on
          go_big_quiet_want
          go_big_quiet_op
          go_big_quiet_on
          go_big_quiet_want
          go_big_quiet_op
          go_big_quiet_on
          go_big_quiet_want
          refine ⟨.pointer (some ⟨g2, q0 + j * 2, none⟩), fun W hW => ?_, ?_⟩
          · go_simp
          go_big_quiet_on
          simp only [Act.put, List.setIfInBounds_toArray, List.set_cons_zero, List.set_cons_succ]
          go_big_quiet_want
          refine ⟨.pointer (some ⟨g2, q0 + j * 2 + 1, none⟩), fun W hW => ?_, ?_⟩
          · go_simp
          go_big_quiet_on
          simp only [Act.put, List.setIfInBounds_toArray, List.set_cons_zero, List.set_cons_succ]
          go_big_quiet_want
          refine ⟨.int .i64 (vn : Int), fun W hW => ?_, ?_⟩
          · obtain ⟨z0, z1⟩ := XS.out W hW
            go_simp
          go_big_quiet_on
          simp only [Act.put, List.setIfInBounds_toArray, List.set_cons_zero, List.set_cons_succ]
          go_big_quiet_want
          go_big_quiet_op
          go_big_quiet_on
          go_big_quiet_want
          refine ⟨.int .i64 (tp : Int), fun W hW => ?_, ?_⟩
          · go_simp
            refine (HTP.out W).mono ?_
            rintro e w7 ⟨rfl, rfl⟩
            exact ⟨rfl, by simpa using hW⟩
          go_big_quiet_on
          simp only [Act.put, List.setIfInBounds_toArray, List.set_cons_zero, List.set_cons_succ]
          go_big_quiet_want
          refine ⟨.bool false, fun W hW => ?_, ?_⟩
          · go_simp
            try omega
          go_big_quiet_on
          simp only [Act.put, List.setIfInBounds_toArray, List.set_cons_zero, List.set_cons_succ]
          go_big_quiet_want
          refine ⟨.bool false, fun W hW => ?_, ?_⟩
          · go_simp
          go_big_quiet_on
          simp only [Act.put, List.setIfInBounds_toArray, List.set_cons_zero, List.set_cons_succ]
          refine wpQuiet_nil ?_
          intro W8 h8
          clear hB
          go_wp2_with fail
          refine quiet_lit3 (C := fun Wz => Below w.heap.size w Wz) (by kernel_rfl) (by kernel_rfl) (show Below _ _ _ from Below.drew h8) ?_
          go_big_quiet_want
          go_big_quiet_op
          go_big_quiet_on
          go_big_quiet_want
          go_big_quiet_op
          go_big_quiet_on
          go_big_quiet_want
          refine ⟨.string ⟨(acc.take p).toArray⟩, fun W hW => ?_, ?_⟩
          · go_simp
            try exact ext_take _ _
          go_big_quiet_on
          simp only [Act.put, List.setIfInBounds_toArray, List.set_cons_zero, List.set_cons_succ]
          go_big_quiet_want
          go_big_quiet_op
          go_big_quiet_on
          go_big_quiet_want
          go_big_quiet_op
          go_big_quiet_on
          go_big_quiet_want
          refine ⟨.pointer (some ⟨g2, q0 + j * 2, none⟩), fun W hW => ?_, ?_⟩
          · go_simp
          go_big_quiet_on
          simp only [Act.put, List.setIfInBounds_toArray, List.set_cons_zero, List.set_cons_succ]
          go_big_quiet_want
          refine ⟨.pointer (some ⟨g2, q0 + j * 2 + 1, none⟩), fun W hW => ?_, ?_⟩
          · go_simp
          go_big_quiet_on
          simp only [Act.put, List.setIfInBounds_toArray, List.set_cons_zero, List.set_cons_succ]
          go_big_quiet_want
          refine ⟨.int .i64 (vn : Int), fun W hW => ?_, ?_⟩
          · obtain ⟨z0, z1⟩ := XS.out W hW
            go_simp
          go_big_quiet_on
          simp only [Act.put, List.setIfInBounds_toArray, List.set_cons_zero, List.set_cons_succ]
          go_big_quiet_want
          go_big_quiet_op
          go_big_quiet_on
          go_big_quiet_want
          refine ⟨.string ⟨D.toArray⟩, fun W hW => ?_, ?_⟩
          · go_simp
            refine (HDG.out W).mono ?_
            rintro e w7 ⟨rfl, hb⟩
            exact ⟨rfl, bel0 hW hb⟩
          go_big_quiet_on
          simp only [Act.put, List.setIfInBounds_toArray, List.set_cons_zero, List.set_cons_succ]
          go_big_quiet_want
          refine ⟨.string ⟨(acc.take p ++ D).toArray⟩, fun W hW => ?_, ?_⟩
          · go_simp
            rw [if_neg (by simp only [HDL.out, hal.out]; omega)]
            exact ⟨rfl, by rw [cat_bytes]; first | done | rw [List.append_assoc]⟩
          go_big_quiet_on
          simp only [Act.put, List.setIfInBounds_toArray, List.set_cons_zero, List.set_cons_succ]
          go_big_quiet_want
          go_big_quiet_op
          go_big_quiet_on
          go_big_quiet_want
          go_big_quiet_op
          go_big_quiet_on
          go_big_quiet_want
          go_big_quiet_op
          go_big_quiet_on
          go_big_quiet_want
          refine ⟨.int .i64 ((p : Int) + (b : Int)), fun W hW => ?_, ?_⟩
          · go_simp
          go_big_quiet_on
          simp only [Act.put, List.setIfInBounds_toArray, List.set_cons_zero, List.set_cons_succ]
          go_big_quiet_want
          refine ⟨.string ⟨(acc.drop (p + b)).toArray⟩, fun W hW => ?_, ?_⟩
          · go_simp
            try exact ext_drop _ _
          go_big_quiet_on
          simp only [Act.put, List.setIfInBounds_toArray, List.set_cons_zero, List.set_cons_succ]
          go_big_quiet_want
          refine ⟨.string ⟨((acc.take p ++ D) ++ acc.drop (p + b)).toArray⟩, fun W hW => ?_, ?_⟩
          · go_simp
            rw [if_neg (by simp only [HDL.out, hal.out]; omega)]
            exact ⟨rfl, by rw [cat_bytes]; first | done | rw [List.append_assoc]⟩
          go_big_quiet_on
          simp only [Act.put, List.setIfInBounds_toArray, List.set_cons_zero, List.set_cons_succ]
          go_big_quiet_want
          go_big_quiet_op
          go_big_quiet_on
          refine wpQuiet_nil ?_
          intro W9 h9
          go_wp2_with fail
          go_roundw
          case rel => exact ⟨j + 1, putL acc p D, by go_num, by omega, by rw [← HAC.out], HAL, hgo, h9⟩
          case measure => simp [intOf]; omega
    · have j1 : ¬ (k : Int) < (S.length : Int) := by omega
      have hres : Hid (R = (acc, 0)) := by
        unfold Hid
        rw [← hrun.out, List.drop_eq_nil_of_le (by omega)]
        rfl
      clear hrun
      go_wp2_with fail
      refine bodyPost_ret (results_tmp2 rfl _ _ _) rfl ?_
      exact ⟨by rw [hres.out]; rfl, hB⟩
end Go.Proofs.YtepokgainceidaaGreatDoor

import Derived.Test.YtdkhdkfjadalpaaDoorL6
import Derived.Deep.RegionHeldLaw
namespace Go.Proofs.YtdkhdkfjadalpaaDoor
open Go.RowKit Go.Shelf
set_option maxRecDepth 100000 in
set_option maxHeartbeats 4000000 in
/-- from Cover on: over the very numbers -/
theorem fewest_up (n l h v : Nat) (bits lo hi vv : Int) (w : World) (h1 : 1 ≤ n) (h2 : n ≤ 32) (hl : l ≤ h) (hh : h < 2 ^ n) (hv : v < 2 ^ n) (hdb : DB w)
    (hb : 1 + bits % 32 = (n : Int)) (M : Nat) (hM : 2 ^ n = M) (x1 : lo % (M : Int) = (l : Int)) (x2 : hi % (M : Int) = (h : Int)) (hvv : vv % (M : Int) = (v : Int)) :
    Calls Tryd.prog 3 #[.int .i64 bits, .int .i64 lo, .int .i64 hi, .int .i64 vv] w fun e w' => e = .returned (.bool true) ∧ Below w.heap.size w w' := by
  have hM32 : M ≤ 4294967296 := by
    have := Nat.pow_le_pow_right (show 0 < 2 by decide) h2
    rw [hM] at this
    omega
  have hM1 : 1 ≤ M := by rw [← hM]; exact Nat.pow_pos (by decide)
  have N1 := fun W => near_any lo M hM1 (by omega) W
  have N2 := fun W => near_any hi M hM1 (by omega) W
  have N3 := fun W => near_any vv M hM1 (by omega) W
  have E7 : Hid (wrap64 (2 ^ n) = (M : Int)) := by unfold Hid; rw [pow_cast, hM]; exact w64 (by omega) (by omega)
  have hb0 : bits % 32 = ((n - 1 : Nat) : Int) := by omega
  have N0 : ∀ W, Calls Tryd.prog 4 #[.int .i64 bits, .int .i64 32] W fun e w' => e = .returned (.int .i64 ((n - 1 : Nat) : Int)) ∧ w' = W := fun W => by
    have := near_any bits 32 (by decide) (by decide) W
    rw [show bits % ((32 : Nat) : Int) = ((n - 1 : Nat) : Int) from hb0] at this
    exact this
  have e0 : IntKind.i64.wrap (1 + ((n - 1 : Nat) : Int)) = (n : Int) := by rw [IntKind.wrap_i64]; omega
  simp only [hvv] at N3
  obtain ⟨cE, cL⟩ := cov_ok n l h h1 h2 hl hh
  have HC := fun W hW => cover_any (n : Int) (l : Int) (h : Int) W hW
  unfold cvR at HC
  simp only [cE, cL] at HC
  have HN := fun W => num_any 0 (by decide) W
  have hh32 : h < 4294967296 := by
    have x : h < M := by rw [← hM]; exact hh
    omega
  simp only [x1] at N1
  simp only [x2] at N2
  have i1 : ¬ (h : Int) < (l : Int) := by omega
  have HD : Hid (DB w) := hdb
  clear hb hb0 hvv x1 x2 cE cL hdb hM
  go_enter Tryd.func3, Tryd.ntmps3
  go_wp2_with fail
  refine (N0 _).mono ?_
  rintro e w1 ⟨rfl, rfl⟩
  go_wp2_with fail
  rw [E7.out]
  refine (N1 _).mono ?_
  rintro e w2 ⟨rfl, rfl⟩
  go_wp2_with fail
  rw [E7.out]
  refine (N2 _).mono ?_
  rintro e w3 ⟨rfl, rfl⟩
  go_wp2_with fail
  rw [E7.out]
  refine (N3 _).mono ?_
  rintro e w4 ⟨rfl, rfl⟩
  go_wp2_with fail
  refine (HC _ HD.out).mono ?_
  rintro e w5 ⟨vl, rfl, ho5, hb5⟩
  have hK1 : 0 < (cov n l h).length := by rw [cov_le hl]; simp
  obtain ⟨g, cc, rfl⟩ := own_form ho5 hK1
  have hKl : (cov n l h).length ≤ 4294967296 := by
    unfold cov
    rw [List.length_map]
    have := gr_len h _ l (Nat.le_refl _)
    omega
  have hGl : (gr l h).length = (cov n l h).length := by unfold cov; rw [List.length_map]
  have HO : Hid (w5.ownsRow w4.heap.size 9 1 (.slice (some ⟨g, 0, none⟩) (cov n l h).length cc) (cov n l h).length (stx (cov n l h))) := ho5
  obtain ⟨K, hK⟩ : ∃ K, (cov n l h).length = K := ⟨_, rfl⟩
  have HKe : Hid ((gr l h).length = K) := hGl.trans hK
  rw [hK] at hK1 hKl
  have kz : ((K : Int) == 0) = false := by rw [beq_eq_false_iff_ne]; omega
  simp only [hK]
  have HCEL : Hid (∀ (W : World) (i : Nat) (p : Nat × Nat), Below w5.heap.size w5 W → (gr l h)[i]? = some p → W.cell? ⟨g, i, none⟩ = some (.string ⟨(digL n p.1 p.2).toArray⟩)) := fun W i p hW hp => by
    have := (owns_below HO.out hW).cells rfl i _ (stx_get' (cov_get hp))
    rw [add0] at this
    exact this
  have HCNT : Hid (cnt (gr l h) v = if l ≤ v ∧ v ≤ h then 1 else 0) := cnt_gr h v (by omega) _ l (Nat.le_refl _)
  have HH : Hid (h < 2 ^ n) := hh
  have HV : Hid (v < 2 ^ n) := hv
  clear ho5 hK hGl hh hv HO N0 N1 N2 N3 HC E7
  go_wp2_with fail
  refine (HN _).mono ?_
  rintro e w6 ⟨rfl, rfl⟩
  go_wp2_with fail
  go_loopw [12, 13] (fun vc vi wr => ∃ i : Nat, vc = .int .i64 (cnt ((gr l h).take i) v : Int) ∧ vi = .int .i64 i ∧ i ≤ K ∧ Below w6.heap.size w6 wr) (fun _ vi _ => K - (intOf vi).toNat)
  case atStart => exact ⟨0, rfl, rfl, Nat.zero_le _, Below.refl _ _⟩
  case round =>
    obtain ⟨i, rfl, rfl, hi, hB⟩ := hrel
    by_cases hlt : i < K
    · have q0 : (0 : Int) ≤ (i : Int) := by omega
      have q1 : (i : Int) < (K : Int) := by omega
      obtain ⟨p, hp⟩ : ∃ p, (gr l h)[i]? = some p := ⟨_, List.getElem?_eq_getElem (by rw [HKe.out]; exact hlt)⟩
      have hpf := pf_of h2 HH.out hp
      have hx := HCEL.out wr i p hB hp
      have HPR := fun W => prefix_any n p.1 p.2 h2 hpf.f_le W
      have HCS : Hid (cnt ((gr l h).take (i + 1)) v = cnt ((gr l h).take i) v + (if p.1 ≤ v ∧ v < p.1 + 2 ^ p.2 then 1 else 0)) := by
        unfold Hid cnt
        rw [List.take_add_one, hp, List.filter_append, List.length_append]
        by_cases hc : p.1 ≤ v ∧ v < p.1 + 2 ^ p.2
        · simp [hc]
        · simp [hc]
      have hhas := has_iff (b := n) hpf.f_le hpf.dvd hpf.lt HV.out
      have HBO : Hid (∀ W, Below w6.heap.size w6 W → Calls Tryd.prog 9 #[.int .i64 (v : Int), .int .i64 (n : Int)] W fun e w' => e = .returned (.string ⟨((List.range n).map (bitB n v)).toArray⟩) ∧ Below w6.heap.size w6 w' ∧ w'.cell? ⟨g, i, none⟩ = some (.string ⟨(digL n p.1 p.2).toArray⟩)) := fun W hW => by
        have hv33 : v < 8589934592 := by
          have := Nat.pow_le_pow_right (show 0 < 2 by decide) h2
          have := HV.out
          omega
        exact (bitsOf_any v n h2 hv33 W).mono (fun e w' h => ⟨h.1, bel0 hW h.2, HCEL.out w' i p (bel0 hW h.2) hp⟩)
      have HHA : Hid (∀ W, Below w6.heap.size w6 W → Calls Tryd.prog 8 #[.string ⟨(digL n p.1 p.2).toArray⟩, .string ⟨((List.range n).map (bitB n v)).toArray⟩] W fun e w' => e = .returned (.bool (decide (p.1 ≤ v ∧ v < p.1 + 2 ^ p.2))) ∧ Below w6.heap.size w6 w' ∧ w'.cell? ⟨g, i, none⟩ = some (.string ⟨(digL n p.1 p.2).toArray⟩)) := fun W hW => by
        have := has_any n p.1 p.2 v h2 hpf.f_le W
        rw [show decide (∀ j, j < n - p.2 → bitB n p.1 j = bitB n v j) = decide (p.1 ≤ v ∧ v < p.1 + 2 ^ p.2) from decide_eq_decide.2 hhas] at this
        exact this.mono (fun e w' h => ⟨h.1, bel0 hW h.2, HCEL.out w' i p (bel0 hW h.2) hp⟩)
      clear hhas
      have hdig := ldigits_any n p.1 p.2 h2 hpf.f_le
      have hlst := least_any n p.1 p.2 h2 hpf.f_le hpf.dvd
      obtain ⟨D, hD⟩ : ∃ D, decide (p.1 ≤ v ∧ v < p.1 + 2 ^ p.2) = D := ⟨_, rfl⟩
      rw [hD] at HHA
      have HCS2 : Hid (cnt ((gr l h).take (i + 1)) v = cnt ((gr l h).take i) v + (if D = true then 1 else 0)) := by
        unfold Hid
        rw [HCS.out, ← hD]
        simp only [decide_eq_true_eq]
      have hcl : cnt ((gr l h).take i) v ≤ 4294967296 := by
        have x1 := List.length_filter_le (fun p : Nat × Nat => decide (p.1 ≤ v ∧ v < p.1 + 2 ^ p.2)) ((gr l h).take i)
        have x2 := List.length_take_le i (gr l h)
        unfold cnt
        omega
      obtain ⟨c, hc⟩ : ∃ c, cnt ((gr l h).take i) v = c := ⟨_, rfl⟩
      rw [hc] at HCS2 hcl ⊢
      by_cases hi0 : i = 0
      · subst hi0
        obtain ⟨T, hT⟩ : ∃ T, digL n p.1 p.2 = T := ⟨_, rfl⟩
        obtain ⟨V, hV⟩ : ∃ V : List UInt8, (List.range n).map (bitB n v) = V := ⟨_, rfl⟩
        rw [hT] at hx HBO HHA
        rw [hV] at HBO HHA
        simp only [hT] at HPR
        clear hdig hlst hD hc HCS hpf hT hV
        cases D with
        | true =>
          go_wp2_with fail
          refine (HPR _).mono ?_
          rintro e w7 ⟨rfl, rfl⟩
          go_wp2_with fail
          go_region_held_law (fun W => W.cell? ⟨g, 0, none⟩ = some (.string ⟨T.toArray⟩)) (first | exact hx | exact hk8 | exact hk9) ((first | (go_at_call 9; refine (HBO.out _ (by first | exact hB | exact hB.drew | exact bel_drewN _ hB)).mono ?_; rintro e w8 ⟨rfl, hb8, hk8⟩) | (go_at_call 8; refine (HHA.out _ (by first | exact hb8 | exact hb8.drew | exact bel_drewN _ hb8)).mono ?_; rintro e w9 ⟨rfl, hb9, hk9⟩)))
          go_wp2_with fail
          go_roundw
          case rel => exact ⟨0 + 1, by rw [HCS2.out]; go_num, by go_num, by omega, hb9⟩
          case measure => simp [intOf]; omega
        | false =>
          go_wp2_with fail
          refine (HPR _).mono ?_
          rintro e w7 ⟨rfl, rfl⟩
          go_wp2_with fail
          go_region_held_law (fun W => W.cell? ⟨g, 0, none⟩ = some (.string ⟨T.toArray⟩)) (first | exact hx | exact hk8 | exact hk9) ((first | (go_at_call 9; refine (HBO.out _ (by first | exact hB | exact hB.drew | exact bel_drewN _ hB)).mono ?_; rintro e w8 ⟨rfl, hb8, hk8⟩) | (go_at_call 8; refine (HHA.out _ (by first | exact hb8 | exact hb8.drew | exact bel_drewN _ hb8)).mono ?_; rintro e w9 ⟨rfl, hb9, hk9⟩)))
          go_wp2_with fail
          go_roundw
          case rel => exact ⟨0 + 1, by rw [HCS2.out]; go_num, by go_num, by omega, hb9⟩
          case measure => simp [intOf]; omega
      · obtain ⟨k, rfl⟩ : ∃ k, i = k + 1 := ⟨i - 1, by omega⟩
        have r0 : (0 : Int) ≤ (k : Int) := by omega
        have r1 : (k : Int) < (K : Int) := by omega
        have iz : (((k + 1 : Nat) : Int) == 0) = false := by rw [beq_eq_false_iff_ne]; omega
        have HEK : Hid (_ ∧ _ ∧ _ ∧ _ ∧ _) := ekA k (Nat.le_trans (Nat.le_of_lt (Nat.lt_of_succ_lt hlt)) hKl)
        have r2 : (k : Int) + 1 < (K : Int) := by omega
        obtain ⟨q, hq⟩ : ∃ q, (gr l h)[k]? = some q := ⟨_, List.getElem?_eq_getElem (by rw [HKe.out]; omega)⟩
        have hqf := pf_of h2 HH.out hq
        have hy := HCEL.out wr k q hB hq
        have hnb := nb_of h2 HH.out hq hp
        have HXY : Hid (∀ W, Below w6.heap.size w6 W → W.cell? ⟨g, k + 1, none⟩ = some (.string ⟨(digL n p.1 p.2).toArray⟩) ∧ W.cell? ⟨g, k, none⟩ = some (.string ⟨(digL n q.1 q.2).toArray⟩)) := fun W hW => ⟨HCEL.out W _ p hW hp, HCEL.out W _ q hW hq⟩
        have HDP : Hid (∀ W, Below w6.heap.size w6 W → Calls Tryd.prog 10 #[.string ⟨(digL n p.1 p.2).toArray⟩] W fun e w' => e = .returned (.int .i64 ((n - p.2 : Nat) : Int)) ∧ Below w6.heap.size w6 w' ∧ w'.cell? ⟨g, k + 1, none⟩ = some (.string ⟨(digL n p.1 p.2).toArray⟩) ∧ w'.cell? ⟨g, k, none⟩ = some (.string ⟨(digL n q.1 q.2).toArray⟩)) := fun W hW => (hdig W).mono (fun e w' h => ⟨h.1, bel0 hW h.2, HXY.out w' (bel0 hW h.2)⟩)
        have HDQ : Hid (∀ W, Below w6.heap.size w6 W → Calls Tryd.prog 10 #[.string ⟨(digL n q.1 q.2).toArray⟩] W fun e w' => e = .returned (.int .i64 ((n - q.2 : Nat) : Int)) ∧ Below w6.heap.size w6 w' ∧ w'.cell? ⟨g, k + 1, none⟩ = some (.string ⟨(digL n p.1 p.2).toArray⟩) ∧ w'.cell? ⟨g, k, none⟩ = some (.string ⟨(digL n q.1 q.2).toArray⟩)) := fun W hW => (ldigits_any n q.1 q.2 h2 hqf.f_le W).mono (fun e w' h => ⟨h.1, bel0 hW h.2, HXY.out w' (bel0 hW h.2)⟩)
        have HLP : Hid (∀ W, Below w6.heap.size w6 W → Calls Tryd.prog 11 #[.string ⟨(digL n p.1 p.2).toArray⟩] W fun e w' => e = .returned (.string ⟨((List.range n).map (bitB n p.1)).toArray⟩) ∧ Below w6.heap.size w6 w' ∧ w'.cell? ⟨g, k + 1, none⟩ = some (.string ⟨(digL n p.1 p.2).toArray⟩) ∧ w'.cell? ⟨g, k, none⟩ = some (.string ⟨(digL n q.1 q.2).toArray⟩)) := fun W hW => (hlst W).mono (fun e w' h => ⟨h.1, bel0 hW h.2, HXY.out w' (bel0 hW h.2)⟩)
        have HLQ : Hid (∀ W, Below w6.heap.size w6 W → Calls Tryd.prog 11 #[.string ⟨(digL n q.1 q.2).toArray⟩] W fun e w' => e = .returned (.string ⟨((List.range n).map (bitB n q.1)).toArray⟩) ∧ Below w6.heap.size w6 w' ∧ w'.cell? ⟨g, k + 1, none⟩ = some (.string ⟨(digL n p.1 p.2).toArray⟩) ∧ w'.cell? ⟨g, k, none⟩ = some (.string ⟨(digL n q.1 q.2).toArray⟩)) := fun W hW => (least_any n q.1 q.2 h2 hqf.f_le hqf.dvd W).mono (fun e w' h => ⟨h.1, bel0 hW h.2, HXY.out w' (bel0 hW h.2)⟩)
        have hless := hnb.less
        have HLT : Hid (p.2 = q.2 → p.2 < n) := hnb.lt
        have hne := hnb.ne
        have hlT := hnb.lp
        have hlU := hnb.lq
        have hf1 := hpf.f_le
        have hf2 := hqf.f_le
        obtain ⟨T, hT⟩ : ∃ T, digL n p.1 p.2 = T := ⟨_, rfl⟩
        obtain ⟨U, hU⟩ : ∃ U, digL n q.1 q.2 = U := ⟨_, rfl⟩
        obtain ⟨V, hV⟩ : ∃ V : List UInt8, (List.range n).map (bitB n v) = V := ⟨_, rfl⟩
        obtain ⟨A, hA⟩ : ∃ A : List UInt8, (List.range n).map (bitB n p.1) = A := ⟨_, rfl⟩
        obtain ⟨Z, hZ⟩ : ∃ Z : List UInt8, (List.range n).map (bitB n q.1) = Z := ⟨_, rfl⟩
        rw [hT] at hx HBO HHA HXY HDP HDQ HLP HLQ hne hlT
        rw [hU] at hy HXY HDP HDQ HLP HLQ hne hlU
        rw [hV] at HBO HHA
        rw [hA] at HLP hless
        rw [hZ] at HLQ hless
        simp only [hT] at HPR
        obtain ⟨x, f⟩ := p
        obtain ⟨y, f'⟩ := q
        simp only at hne hf1 hf2 HDP HDQ HLT
        clear hdig hlst hD hc HCS hpf hqf hT hU hV hA hZ hnb hp hq
        have hless2 : Hid (Op.bytesLess Z A = true) := hless
        clear hless
        obtain ⟨c2, hc2⟩ : ∃ c2, c + (if D = true then 1 else 0) = c2 := ⟨_, rfl⟩
        have HC2 : Hid (c + (if D = true then 1 else 0) = c2) := hc2
        clear hc2
        go_wp2_with fail
        refine (HPR _).mono ?_
        rintro e w7 ⟨rfl, rfl⟩
        go_wp2_with fail
        refine quiet_lit3 (C := fun W => Below w6.heap.size w6 W) (by kernel_rfl) (by kernel_rfl) (show Below _ _ _ from hB.drew) ?_
        go_big_quiet_want
        go_big_quiet_op
        go_big_quiet_on
        go_big_quiet_want
        go_big_quiet_op
        go_big_quiet_on
        go_big_quiet_want
        refine ⟨.pointer (some ⟨g, k + 1, none⟩), fun W hW => ?_, ?_⟩
        · have r3 : (0 : Int) ≤ (k : Int) + 1 := by omega
          go_simp
        go_big_quiet_on
        simp only [Act.put, List.setIfInBounds_toArray, List.set_cons_zero, List.set_cons_succ]
        go_big_quiet_want
        refine ⟨.string ⟨T.toArray⟩, fun W hW => ?_, ?_⟩
        · have hx := (HXY.out W hW).1
          go_simp
        go_big_quiet_on
        simp only [Act.put, List.setIfInBounds_toArray, List.set_cons_zero, List.set_cons_succ]
        go_big_quiet_want
        go_big_quiet_op
        go_big_quiet_on
        go_big_quiet_want
        go_big_quiet_op
        go_big_quiet_on
        go_big_quiet_want
        refine ⟨.string ⟨V.toArray⟩, fun W hW => ?_, ?_⟩
        · go_simp
          refine (HBO.out W hW).mono ?_
          rintro e w7 ⟨rfl, hb, _⟩
          exact ⟨rfl, hb⟩
        go_big_quiet_on
        simp only [Act.put, List.setIfInBounds_toArray, List.set_cons_zero, List.set_cons_succ]
        go_big_quiet_want
        refine ⟨.bool D, fun W hW => ?_, ?_⟩
        · go_simp
          refine (HHA.out W hW).mono ?_
          rintro e w7 ⟨rfl, hb, _⟩
          exact ⟨rfl, hb⟩
        go_big_quiet_on
        simp only [Act.put, List.setIfInBounds_toArray, List.set_cons_zero, List.set_cons_succ]
        refine wpQuiet_nil ?_
        intro W hW
        clear hB HPR HBO HHA
        go_upto_if 70 with fail
        go_cut [12] (fun s wc => s = .int .i64 (c2 : Int) ∧ Below w6.heap.size w6 wc)
        case first =>
          cases D with
          | true =>
            obtain rfl : c + 1 = c2 := HC2.out
            go_wp2_with fail
            go_meet
            exact ⟨by go_num, hW⟩
          | false =>
            obtain rfl : c = c2 := HC2.out
            go_wp2_with fail
            go_meet
            exact ⟨by go_num, hW⟩
        case rest =>
          clear hW
          obtain ⟨rfl, hW⟩ := hcut
          obtain ⟨hx9, hy9⟩ := HXY.out _ hW
          go_wp2_with fail
          refine (HDP.out _ hW).mono ?_
          rintro e w10 ⟨rfl, hb10, hx10, hy10⟩
          clear hx9 hy9 hW hx10 hy10 HDP
          go_wp2_with fail
          refine quiet_lit3 (C := fun W => Below w6.heap.size w6 W) (by kernel_rfl) (by kernel_rfl) (show Below _ _ _ from hb10.drew) ?_
          go_big_quiet_want
          go_big_quiet_op
          go_big_quiet_on
          go_big_quiet_want
          go_big_quiet_op
          go_big_quiet_on
          go_big_quiet_want
          refine ⟨.int .i64 (k : Int), fun W hW => ?_, ?_⟩
          · obtain ⟨ek, ek2, ek3, ek4, ek5⟩ := HEK.out
            go_simp
          go_big_quiet_on
          simp only [Act.put, List.setIfInBounds_toArray, List.set_cons_zero, List.set_cons_succ]
          go_big_quiet_want
          refine ⟨.pointer (some ⟨g, k, none⟩), fun W hW => ?_, ?_⟩
          · go_simp
          go_big_quiet_on
          simp only [Act.put, List.setIfInBounds_toArray, List.set_cons_zero, List.set_cons_succ]
          go_big_quiet_want
          refine ⟨.string ⟨U.toArray⟩, fun W hW => ?_, ?_⟩
          · have hy := (HXY.out W hW).2
            go_simp
          go_big_quiet_on
          simp only [Act.put, List.setIfInBounds_toArray, List.set_cons_zero, List.set_cons_succ]
          go_big_quiet_want
          refine ⟨.string ⟨Z.toArray⟩, fun W hW => ?_, ?_⟩
          · go_simp
            refine (HLQ.out W hW).mono ?_
            rintro e w7 ⟨rfl, hb, _⟩
            exact ⟨rfl, hb⟩
          go_big_quiet_on
          simp only [Act.put, List.setIfInBounds_toArray, List.set_cons_zero, List.set_cons_succ]
          go_big_quiet_want
          go_big_quiet_op
          go_big_quiet_on
          go_big_quiet_want
          go_big_quiet_op
          go_big_quiet_on
          go_big_quiet_want
          refine ⟨.pointer (some ⟨g, k + 1, none⟩), fun W hW => ?_, ?_⟩
          · have r3 : (0 : Int) ≤ (k : Int) + 1 := by omega
            go_simp
          go_big_quiet_on
          simp only [Act.put, List.setIfInBounds_toArray, List.set_cons_zero, List.set_cons_succ]
          go_big_quiet_want
          refine ⟨.string ⟨T.toArray⟩, fun W hW => ?_, ?_⟩
          · have hx := (HXY.out W hW).1
            go_simp
          go_big_quiet_on
          simp only [Act.put, List.setIfInBounds_toArray, List.set_cons_zero, List.set_cons_succ]
          go_big_quiet_want
          refine ⟨.string ⟨A.toArray⟩, fun W hW => ?_, ?_⟩
          · go_simp
            refine (HLP.out W hW).mono ?_
            rintro e w7 ⟨rfl, hb, _⟩
            exact ⟨rfl, hb⟩
          go_big_quiet_on
          simp only [Act.put, List.setIfInBounds_toArray, List.set_cons_zero, List.set_cons_succ]
          go_big_quiet_want
          refine ⟨.bool false, fun W hW => ?_, ?_⟩
          · go_simp
            exact hless2.out
          go_big_quiet_on
          simp only [Act.put, List.setIfInBounds_toArray, List.set_cons_zero, List.set_cons_succ]
          refine wpQuiet_nil ?_
          intro W2 hW2
          clear hb10 HLP HLQ
          go_wp2_with fail
          by_cases hef : f = f'
          · subst hef
            have hlt2 : f < n := HLT.out rfl
            have ekB : Hid (IntKind.i64.wrap (((n - f : Nat) : Int) - 1) = ((n - f - 1 : Nat) : Int)) := ekC (n - f) (by omega) (by omega)
            have hne2 : Hid (T.take (n - f - 1) ≠ U.take (n - f - 1)) := hne rfl
            clear hne HLT
            refine quiet_lit3 (C := fun W => Below w6.heap.size w6 W) (by kernel_rfl) (by kernel_rfl) (show Below _ _ _ from hW2.drew) ?_
            go_big_quiet_want
            go_big_quiet_op
            go_big_quiet_on
            go_big_quiet_want
            go_big_quiet_op
            go_big_quiet_on
            go_big_quiet_want
            go_big_quiet_op
            go_big_quiet_on
            go_big_quiet_want
            refine ⟨.int .i64 (k : Int), fun W hW => ?_, ?_⟩
            · obtain ⟨ek, ek2, ek3, ek4, ek5⟩ := HEK.out
              go_simp
            go_big_quiet_on
            simp only [Act.put, List.setIfInBounds_toArray, List.set_cons_zero, List.set_cons_succ]
            go_big_quiet_want
            refine ⟨.pointer (some ⟨g, k, none⟩), fun W hW => ?_, ?_⟩
            · go_simp
            go_big_quiet_on
            simp only [Act.put, List.setIfInBounds_toArray, List.set_cons_zero, List.set_cons_succ]
            go_big_quiet_want
            refine ⟨.string ⟨U.toArray⟩, fun W hW => ?_, ?_⟩
            · have hy := (HXY.out W hW).2
              go_simp
            go_big_quiet_on
            simp only [Act.put, List.setIfInBounds_toArray, List.set_cons_zero, List.set_cons_succ]
            go_big_quiet_want
            refine ⟨(.int .i64 ((n - f : Nat) : Int)), fun W hW => ?_, ?_⟩
            · go_simp
              refine (HDQ.out W hW).mono ?_
              rintro e w7 ⟨rfl, hb, _⟩
              exact ⟨rfl, hb⟩
            go_big_quiet_on
            simp only [Act.put, List.setIfInBounds_toArray, List.set_cons_zero, List.set_cons_succ]
            go_big_quiet_want
            refine ⟨.bool true, fun W hW => ?_, ?_⟩
            · go_simp
            go_big_quiet_on
            simp only [Act.put, List.setIfInBounds_toArray, List.set_cons_zero, List.set_cons_succ]
            go_big_quiet_want
            go_big_quiet_op
            go_big_quiet_on
            go_big_quiet_want
            go_big_quiet_op
            go_big_quiet_on
            go_big_quiet_want
            refine ⟨.bool true, fun W hW => ?_, ?_⟩
            · have z1 : 0 < n - f := by omega
              go_simp
            go_big_quiet_on
            simp only [Act.put, List.setIfInBounds_toArray, List.set_cons_zero, List.set_cons_succ]
            go_big_quiet_want
            refine ⟨.bool true, fun W hW => ?_, ?_⟩
            · go_simp
            go_big_quiet_on
            simp only [Act.put, List.setIfInBounds_toArray, List.set_cons_zero, List.set_cons_succ]
            go_big_quiet_want
            go_big_quiet_op
            go_big_quiet_on
            go_big_quiet_want
            go_big_quiet_op
            go_big_quiet_on
            go_big_quiet_want
            go_big_quiet_op
            go_big_quiet_on
            go_big_quiet_want
            refine ⟨.pointer (some ⟨g, k + 1, none⟩), fun W hW => ?_, ?_⟩
            · have r3 : (0 : Int) ≤ (k : Int) + 1 := by omega
              go_simp
            go_big_quiet_on
            simp only [Act.put, List.setIfInBounds_toArray, List.set_cons_zero, List.set_cons_succ]
            go_big_quiet_want
            refine ⟨.string ⟨T.toArray⟩, fun W hW => ?_, ?_⟩
            · have hx := (HXY.out W hW).1
              go_simp
            go_big_quiet_on
            simp only [Act.put, List.setIfInBounds_toArray, List.set_cons_zero, List.set_cons_succ]
            go_big_quiet_want
            go_big_quiet_op
            go_big_quiet_on
            go_big_quiet_want
            refine ⟨.int .i64 ((n - f - 1 : Nat) : Int), fun W hW => ?_, ?_⟩
            · go_simp
              exact ekB.out
            go_big_quiet_on
            simp only [Act.put, List.setIfInBounds_toArray, List.set_cons_zero, List.set_cons_succ]
            go_big_quiet_want
            refine ⟨.string ⟨(T.take (n - f - 1)).toArray⟩, fun W hW => ?_, ?_⟩
            · have z1 : n ≤ n + 1 + f := by omega
              go_simp
              exact ext_take T _
            go_big_quiet_on
            simp only [Act.put, List.setIfInBounds_toArray, List.set_cons_zero, List.set_cons_succ]
            go_big_quiet_want
            go_big_quiet_op
            go_big_quiet_on
            go_big_quiet_want
            go_big_quiet_op
            go_big_quiet_on
            go_big_quiet_want
            refine ⟨.int .i64 (k : Int), fun W hW => ?_, ?_⟩
            · obtain ⟨ek, ek2, ek3, ek4, ek5⟩ := HEK.out
              go_simp
            go_big_quiet_on
            simp only [Act.put, List.setIfInBounds_toArray, List.set_cons_zero, List.set_cons_succ]
            go_big_quiet_want
            refine ⟨.pointer (some ⟨g, k, none⟩), fun W hW => ?_, ?_⟩
            · go_simp
            go_big_quiet_on
            simp only [Act.put, List.setIfInBounds_toArray, List.set_cons_zero, List.set_cons_succ]
            go_big_quiet_want
            refine ⟨.string ⟨U.toArray⟩, fun W hW => ?_, ?_⟩
            · have hy := (HXY.out W hW).2
              go_simp
            go_big_quiet_on
            simp only [Act.put, List.setIfInBounds_toArray, List.set_cons_zero, List.set_cons_succ]
            go_big_quiet_want
            go_big_quiet_op
            go_big_quiet_on
            go_big_quiet_want
            refine ⟨.int .i64 ((n - f - 1 : Nat) : Int), fun W hW => ?_, ?_⟩
            · go_simp
              exact ekB.out
            go_big_quiet_on
            simp only [Act.put, List.setIfInBounds_toArray, List.set_cons_zero, List.set_cons_succ]
            go_big_quiet_want
            refine ⟨.string ⟨(U.take (n - f - 1)).toArray⟩, fun W hW => ?_, ?_⟩
            · have z1 : n ≤ n + 1 + f := by omega
              go_simp
              exact ext_take U _
            go_big_quiet_on
            simp only [Act.put, List.setIfInBounds_toArray, List.set_cons_zero, List.set_cons_succ]
            go_big_quiet_want
            refine ⟨.bool false, fun W hW => ?_, ?_⟩
            · go_simp
              exact hne2.out
            go_big_quiet_on
            simp only [Act.put, List.setIfInBounds_toArray, List.set_cons_zero, List.set_cons_succ]
            go_big_quiet_want
            refine ⟨.bool false, fun W hW => ?_, ?_⟩
            · go_simp
            go_big_quiet_on
            simp only [Act.put, List.setIfInBounds_toArray, List.set_cons_zero, List.set_cons_succ]
            refine wpQuiet_nil ?_
            intro W3 hW3
            go_wp2_with fail
            go_roundw
            case rel => exact ⟨k + 1 + 1, by rw [HCS2.out, HC2.out], by go_num, by omega, hW3⟩
            case measure => simp [intOf]; omega
          · have e_ne : (((n - f : Nat) : Int) == ((n - f' : Nat) : Int)) = false := by rw [beq_eq_false_iff_ne]; omega
            clear hne HLT
            refine quiet_lit3 (C := fun W => Below w6.heap.size w6 W) (by kernel_rfl) (by kernel_rfl) (show Below _ _ _ from hW2.drew) ?_
            go_big_quiet_want
            go_big_quiet_op
            go_big_quiet_on
            go_big_quiet_want
            go_big_quiet_op
            go_big_quiet_on
            go_big_quiet_want
            go_big_quiet_op
            go_big_quiet_on
            go_big_quiet_want
            refine ⟨.int .i64 (k : Int), fun W hW => ?_, ?_⟩
            · obtain ⟨ek, ek2, ek3, ek4, ek5⟩ := HEK.out
              go_simp
            go_big_quiet_on
            simp only [Act.put, List.setIfInBounds_toArray, List.set_cons_zero, List.set_cons_succ]
            go_big_quiet_want
            refine ⟨.pointer (some ⟨g, k, none⟩), fun W hW => ?_, ?_⟩
            · go_simp
            go_big_quiet_on
            simp only [Act.put, List.setIfInBounds_toArray, List.set_cons_zero, List.set_cons_succ]
            go_big_quiet_want
            refine ⟨.string ⟨U.toArray⟩, fun W hW => ?_, ?_⟩
            · have hy := (HXY.out W hW).2
              go_simp
            go_big_quiet_on
            simp only [Act.put, List.setIfInBounds_toArray, List.set_cons_zero, List.set_cons_succ]
            go_big_quiet_want
            refine ⟨(.int .i64 ((n - f' : Nat) : Int)), fun W hW => ?_, ?_⟩
            · go_simp
              refine (HDQ.out W hW).mono ?_
              rintro e w7 ⟨rfl, hb, _⟩
              exact ⟨rfl, hb⟩
            go_big_quiet_on
            simp only [Act.put, List.setIfInBounds_toArray, List.set_cons_zero, List.set_cons_succ]
            go_big_quiet_want
            refine ⟨.bool false, fun W hW => ?_, ?_⟩
            · go_simp
            go_big_quiet_on
            simp only [Act.put, List.setIfInBounds_toArray, List.set_cons_zero, List.set_cons_succ]
            go_big_quiet_want
            go_big_quiet_op
            go_big_quiet_on
            go_big_quiet_skip
            go_big_quiet_skip
            go_big_quiet_want
            refine ⟨.bool false, fun W hW => ?_, ?_⟩
            · go_simp
            go_big_quiet_on
            simp only [Act.put, List.setIfInBounds_toArray, List.set_cons_zero, List.set_cons_succ]
            go_big_quiet_want
            go_big_quiet_op
            go_big_quiet_on
            go_big_quiet_skip
            go_big_quiet_skip
            go_big_quiet_skip
            go_big_quiet_skip
            go_big_quiet_skip
            go_big_quiet_skip
            go_big_quiet_skip
            go_big_quiet_skip
            go_big_quiet_skip
            go_big_quiet_skip
            go_big_quiet_skip
            go_big_quiet_skip
            go_big_quiet_skip
            go_big_quiet_skip
            go_big_quiet_skip
            go_big_quiet_skip
            go_big_quiet_want
            refine ⟨.bool false, fun W hW => ?_, ?_⟩
            · go_simp
            go_big_quiet_on
            simp only [Act.put, List.setIfInBounds_toArray, List.set_cons_zero, List.set_cons_succ]
            refine wpQuiet_nil ?_
            intro W3 hW3
            go_wp2_with fail
            go_roundw
            case rel => exact ⟨k + 1 + 1, by rw [HCS2.out, HC2.out], by go_num, by omega, hW3⟩
            case measure => simp [intOf]; omega
    · have q1 : ¬ (i : Int) < (K : Int) := by omega
      obtain rfl : i = K := by omega
      have hck : cnt ((gr l h).take i) v = if l ≤ v ∧ v ≤ h then 1 else 0 := by rw [List.take_of_length_le (by rw [HKe.out]; exact Nat.le_refl _)]; exact HCNT.out
      rw [hck]
      by_cases y1 : l ≤ v
      · have z1 : (l : Int) ≤ (v : Int) := by omega
        by_cases y2 : v ≤ h
        · have z2 : (v : Int) ≤ (h : Int) := by omega
          rw [if_pos ⟨y1, y2⟩]
          clear hck
          go_wp2_with fail
          go_ret
          exact ⟨rfl, bel0 hb5 hB⟩
        · have z2 : ¬ (v : Int) ≤ (h : Int) := by omega
          rw [if_neg (fun x => y2 x.2)]
          clear hck
          go_wp2_with fail
          go_ret
          exact ⟨rfl, bel0 hb5 hB⟩
      · have z1 : ¬ (l : Int) ≤ (v : Int) := by omega
        rw [if_neg (fun x => y1 x.1)]
        clear hck
        go_wp2_with fail
        go_ret
        exact ⟨rfl, bel0 hb5 hB⟩
end Go.Proofs.YtdkhdkfjadalpaaDoor

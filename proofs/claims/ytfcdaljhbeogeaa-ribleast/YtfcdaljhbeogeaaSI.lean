import Derived.Test.YtfcdaljhbeogeaaSH
namespace Go.Proofs.Ytfcdaljhbeogeaa
open Go.RowKit
theorem ah_eq {b v : Nat} {r s : IRt} (hr : rmay b r = true) (hs : rmay b s = true) (h1 : rhas b r v = true) (h2 : rhas b s v = true) : rahead r s = (decide (s.2.2.1 < r.2.2.1) || (decide (r.2.2.1 = s.2.2.1) && decide (r.1 < s.1))) := by
  unfold rahead
  by_cases e : r.2.2.1 = s.2.2.1
  · have hp := has_one hr hs e h1 h2
    unfold rpre at hp
    injection hp with _ hp
    rw [if_neg (fun h => h e), if_neg (fun h => h hp), decide_eq_true e, decide_eq_false (show ¬ s.2.2.1 < r.2.2.1 by omega)]
    simp
  · rw [if_pos e, decide_eq_false e]
    simp
set_option maxRecDepth 100000 in
set_option maxHeartbeats 2000000 in
theorem out_any (b v n : Nat) (L : List IRt) (o : Option Addr) (c : Nat) (w : World) (hb : b ≤ 32) (hL : L.length = n) (hn : n ≤ 256) (hr : IRR w o L) (hm : ∀ r ∈ L, rmay b r = true) :
    Calls Try.prog 29 #[.int .i64 (b : Int), .slice o n c, .int .i64 (v : Int)] w fun e w' => e = .returned (.int .i64 (outL b v L)) ∧ Below w.heap.size w w' := by
  have HH : Hid (∀ (W : World) (r : IRt), r ∈ L → Calls Try.prog 42 #[.int .i64 (b : Int), rv r, .int .i64 (v : Int)] W fun e w' => e = .returned (.bool (rhas b r v)) ∧ Below W.heap.size W w') := fun W r h => lhas_any b r v W hb (hm r h)
  have HI : Hid (IRR w o L) := hr
  have HN : Hid (L.length = n) := hL
  have HM : Hid (∀ r ∈ L, rmay b r = true) := hm
  have HK : Hid (∀ i, i ≤ n → LongK b v L i (rfirst b v L i)) := fun i hi => longK_ok b v L hm i (by omega)
  have HO : Hid (outL b v L = if rfirst b v L n = 0 then -1 else (L.getD (rfirst b v L n - 1) (0, 0, 0, 0)).2.2.2) := by unfold Hid outL; rw [hL]
  have HST : Hid (∀ i r, L[i]? = some r → rfirst b v L (i + 1) = if rhas b r v = true ∧ (rfirst b v L i = 0 ∨ rahead r (L.getD (rfirst b v L i - 1) (0, 0, 0, 0)) = true) then i + 1 else rfirst b v L i) := fun i r h => by
    rw [rfirst, show L.getD i (0, 0, 0, 0) = r by simp [List.getD, h]]
  clear hr hL hm hb
  go_enter Try.func29, Try.ntmps29
  go_wp2_with fail
  go_loopw [7, 8] (fun vb vi wr => ∃ i : Nat, vi = .int .i64 (i : Int) ∧ i ≤ n ∧ vb = .int .i64 ((rfirst b v L i : Int) - 1) ∧ Below w.heap.size w wr) (fun _ vi _ => n - (intOf vi).toNat)
  case atStart => exact ⟨0, rfl, Nat.zero_le _, rfl, Below.refl _ _⟩
  case round =>
    obtain ⟨i, rfl, hin, rfl, hB⟩ := hrel
    by_cases hlt : i < n
    · have j1 : (i : Int) < (n : Int) := by omega
      have j0 : (0 : Int) ≤ (i : Int) := by omega
      obtain ⟨r, hri⟩ : ∃ r, L[i]? = some r := ⟨_, List.getElem?_eq_getElem (by rw [HN.out]; omega)⟩
      have hmr := HM.out r (List.mem_of_getElem? hri)
      have hst := HST.out i r hri
      obtain ⟨g, o0, rfl, p0, p1, p2, p3⟩ := HI.out _ hB i r hri
      have HX : Hid (∀ W, Below w.heap.size w W → W.cell? ⟨g, o0 + i * 4, none⟩ = some (.int .i64 r.1) ∧ W.cell? ⟨g, o0 + i * 4 + 1, none⟩ = some (.int .i64 r.2.1) ∧ W.cell? ⟨g, o0 + i * 4 + 2, none⟩ = some (.int .i64 r.2.2.1) ∧ W.cell? ⟨g, o0 + i * 4 + 3, none⟩ = some (.int .i64 r.2.2.2)) := fun W hW => irr_cells HI.out hri hW
      have hq := HH.out wr r (List.mem_of_getElem? hri)
      have hki := HK.out i hin
      obtain ⟨K, hK⟩ : ∃ K, rfirst b v L i = K := ⟨_, rfl⟩
      rw [hK] at hst hki
      have HAE : Hid (∀ k s, K = k + 1 → L[k]? = some s → rhas b r v = true → rahead r s = (decide (s.2.2.1 < r.2.2.1) || (decide (r.2.2.1 = s.2.2.1) && decide (r.1 < s.1)))) := fun k s e hs h1 => by
        obtain ⟨_, s', hs', h2, _⟩ := hki.2 k e
        rw [hs] at hs'
        cases hs'
        exact ah_eq hmr (HM.out s (List.mem_of_getElem? hs)) h1 h2
      cases hb : rhas b r v with
      | false =>
        rw [hb] at hq
        rw [hb, if_neg (by simp)] at hst
        obtain ⟨r0, r1, r2, r3⟩ := r
        have HQ : Hid (Calls Try.prog 42 #[.int .i64 (b : Int), .agg #[.int .i64 r0, .int .i64 r1, .int .i64 r2, .int .i64 r3], .int .i64 (v : Int)] wr fun e w' => e = .returned (.bool false) ∧ Below wr.heap.size wr w') := hq
        have HS : Hid (rfirst b v L (i + 1) = K) := hst
        simp only at p0 p1 p2 p3
        clear hri hq hst hki HAE HX hb hmr
        simp only [hK]
        clear hK
        go_wp2_with fail
        refine HQ.out.mono ?_
        rintro e W5 ⟨rfl, hb5⟩
        have hB5 := bel0 hB hb5
        clear HQ p0 p1 p2 p3
        go_wp2_with fail
        go_roundw
        case rel => exact ⟨i + 1, by go_num, by omega, by rw [HS.out], hB5⟩
        case measure => simp [intOf]; omega
      | true =>
        rw [hb] at hq
        rw [hb] at hst
        simp only [hK]
        clear hK
        cases K with
        | zero =>
          rw [if_pos ⟨rfl, .inl rfl⟩] at hst
          obtain ⟨r0, r1, r2, r3⟩ := r
          have HQ : Hid (Calls Try.prog 42 #[.int .i64 (b : Int), .agg #[.int .i64 r0, .int .i64 r1, .int .i64 r2, .int .i64 r3], .int .i64 (v : Int)] wr fun e w' => e = .returned (.bool true) ∧ Below wr.heap.size wr w') := hq
          have HS : Hid (rfirst b v L (i + 1) = i + 1) := hst
          simp only at p0 p1 p2 p3
          rw [show (((0 : Nat) : Int) - 1) = -1 by omega]
          clear hri hq hst hki HAE HX hb hmr
          go_wp2_with fail
          refine HQ.out.mono ?_
          rintro e W5 ⟨rfl, hb5⟩
          have hB5 := bel0 hB hb5
          clear HQ p0 p1 p2 p3
          go_upto_region 6 with fail
          go_quiet (fail)
          go_wp2_with fail
          go_roundw
          case rel => exact ⟨i + 1, by go_num, by omega, by rw [HS.out]; congr 1; omega, bel_drewN _ hB5⟩
          case measure => simp [intOf]; omega
        | succ k =>
          obtain ⟨hki1, s, hs, _, _⟩ := hki.2 k rfl
          rw [show k + 1 - 1 = k by omega, show L.getD k (0, 0, 0, 0) = s by simp [List.getD, hs], HAE.out k s rfl hs hb] at hst
          have HY : Hid (∀ W, Below w.heap.size w W → W.cell? ⟨g, o0 + k * 4, none⟩ = some (.int .i64 s.1) ∧ W.cell? ⟨g, o0 + k * 4 + 1, none⟩ = some (.int .i64 s.2.1) ∧ W.cell? ⟨g, o0 + k * 4 + 2, none⟩ = some (.int .i64 s.2.2.1) ∧ W.cell? ⟨g, o0 + k * 4 + 3, none⟩ = some (.int .i64 s.2.2.2)) := fun W hW => irr_cells HI.out hs hW
          have k0 : (0 : Int) ≤ (k : Int) := by omega
          have k2 : (k : Int) < (n : Int) := by omega
          have k4 : ¬ ((k : Int) < 0) := by omega
          rw [show (((k + 1 : Nat) : Int) - 1) = (k : Int) by omega]
          obtain ⟨r0, r1, r2, r3⟩ := r
          obtain ⟨s0, s1, s2, s3⟩ := s
          simp only at hst HX HY p0 p1 p2 p3
          have HQ : Hid (Calls Try.prog 42 #[.int .i64 (b : Int), .agg #[.int .i64 r0, .int .i64 r1, .int .i64 r2, .int .i64 r3], .int .i64 (v : Int)] wr fun e w' => e = .returned (.bool true) ∧ Below wr.heap.size wr w') := hq
          have HS0 : Hid (rfirst b v L (i + 1) = if (decide (s2 < r2) || (decide (r2 = s2) && decide (r0 < s0))) = true then i + 1 else k + 1) := by
            unfold Hid
            rw [hst]
            congr 1
            simp
          clear hri hq hst hki HAE hb hmr hs hki1
          go_wp2_with fail
          refine HQ.out.mono ?_
          rintro e W5 ⟨rfl, hb5⟩
          have hB5 := bel0 hB hb5
          clear HQ p0 p1 p2 p3
          by_cases q1 : s2 < r2
          · have HS : Hid (rfirst b v L (i + 1) = i + 1) := by
              unfold Hid
              rw [HS0.out, if_pos (by rw [decide_eq_true q1]; rfl)]
            clear HS0
            go_upto_region 6 with fail
            refine quiet_lit3 (C := fun W => Below W5.heap.size W5 W) (by kernel_rfl) (by kernel_rfl) (show Below _ _ _ from (Below.refl _ _).drew) ?_
            go_big_quiet_want
            go_big_quiet_op
            go_big_quiet_on
            go_big_quiet_want
            refine ⟨.bool false, fun W hW => ?_, ?_⟩
            · go_simp
            go_big_quiet_on
            simp only [Act.put, List.setIfInBounds_toArray, List.set_cons_zero, List.set_cons_succ]
            go_big_quiet_want
            go_big_quiet_op
            go_big_quiet_on
            go_big_quiet_want
            go_big_quiet_op
            go_big_quiet_on
            go_big_quiet_want
            go_big_quiet_op
            go_big_quiet_on
            go_big_quiet_want
            refine ⟨.pointer (some ⟨g, o0 + i * 4, none⟩), fun W hW => ?_, ?_⟩
            · go_simp
            go_big_quiet_on
            simp only [Act.put, List.setIfInBounds_toArray, List.set_cons_zero, List.set_cons_succ]
            go_big_quiet_want
            refine ⟨.pointer (some ⟨g, o0 + i * 4 + 2, none⟩), fun W hW => ?_, ?_⟩
            · go_simp
            go_big_quiet_on
            simp only [Act.put, List.setIfInBounds_toArray, List.set_cons_zero, List.set_cons_succ]
            go_big_quiet_want
            refine ⟨.int .i64 r2, fun W hW => ?_, ?_⟩
            · obtain ⟨x0, x1, x2, x3⟩ := HX.out W (bel0 hB5 hW)
              go_simp
            go_big_quiet_on
            simp only [Act.put, List.setIfInBounds_toArray, List.set_cons_zero, List.set_cons_succ]
            go_big_quiet_want
            go_big_quiet_op
            go_big_quiet_on
            go_big_quiet_want
            go_big_quiet_op
            go_big_quiet_on
            go_big_quiet_want
            refine ⟨.pointer (some ⟨g, o0 + k * 4, none⟩), fun W hW => ?_, ?_⟩
            · go_simp
            go_big_quiet_on
            simp only [Act.put, List.setIfInBounds_toArray, List.set_cons_zero, List.set_cons_succ]
            go_big_quiet_want
            refine ⟨.pointer (some ⟨g, o0 + k * 4 + 2, none⟩), fun W hW => ?_, ?_⟩
            · go_simp
            go_big_quiet_on
            simp only [Act.put, List.setIfInBounds_toArray, List.set_cons_zero, List.set_cons_succ]
            go_big_quiet_want
            refine ⟨.int .i64 s2, fun W hW => ?_, ?_⟩
            · obtain ⟨y0, y1, y2, y3⟩ := HY.out W (bel0 hB5 hW)
              go_simp
            go_big_quiet_on
            simp only [Act.put, List.setIfInBounds_toArray, List.set_cons_zero, List.set_cons_succ]
            go_big_quiet_want
            refine ⟨.bool true, fun W hW => ?_, ?_⟩
            · go_simp
            go_big_quiet_on
            simp only [Act.put, List.setIfInBounds_toArray, List.set_cons_zero, List.set_cons_succ]
            go_big_quiet_want
            refine ⟨.bool true, fun W hW => ?_, ?_⟩
            · go_simp
            go_big_quiet_on
            simp only [Act.put, List.setIfInBounds_toArray, List.set_cons_zero, List.set_cons_succ]
            go_big_quiet_want
            go_big_quiet_op
            go_big_quiet_on
            go_big_quiet_skip
            go_big_quiet_skip
            go_big_quiet_skip
            go_big_quiet_skip
            go_big_quiet_skip
            go_big_quiet_skip
            go_big_quiet_skip
            go_big_quiet_skip
            go_big_quiet_skip
            go_big_quiet_skip
            go_big_quiet_skip
            go_big_quiet_skip
            go_big_quiet_skip
            go_big_quiet_skip
            go_big_quiet_skip
            go_big_quiet_skip
            go_big_quiet_skip
            go_big_quiet_skip
            go_big_quiet_skip
            go_big_quiet_skip
            go_big_quiet_skip
            go_big_quiet_skip
            go_big_quiet_skip
            go_big_quiet_skip
            go_big_quiet_want
            refine ⟨.bool true, fun W hW => ?_, ?_⟩
            · go_simp
            go_big_quiet_on
            simp only [Act.put, List.setIfInBounds_toArray, List.set_cons_zero, List.set_cons_succ]
            refine wpQuiet_nil ?_
            intro W hW
            go_wp2_with fail
            go_roundw
            case rel => exact ⟨i + 1, by go_num, by omega, by rw [HS.out]; congr 1; omega, bel0 hB5 hW⟩
            case measure => simp [intOf]; omega
          · by_cases q2 : r2 = s2
            · subst q2
              by_cases q3 : r0 < s0
              · have HS : Hid (rfirst b v L (i + 1) = i + 1) := by
                  unfold Hid
                  rw [HS0.out, if_pos (by rw [decide_eq_false q1, decide_eq_true q3]; simp)]
                clear HS0
                go_upto_region 6 with fail
                refine quiet_lit3 (C := fun W => Below W5.heap.size W5 W) (by kernel_rfl) (by kernel_rfl) (show Below _ _ _ from (Below.refl _ _).drew) ?_
                go_big_quiet_want
                go_big_quiet_op
                go_big_quiet_on
                go_big_quiet_want
                refine ⟨.bool false, fun W hW => ?_, ?_⟩
                · go_simp
                go_big_quiet_on
                simp only [Act.put, List.setIfInBounds_toArray, List.set_cons_zero, List.set_cons_succ]
                go_big_quiet_want
                go_big_quiet_op
                go_big_quiet_on
                go_big_quiet_want
                go_big_quiet_op
                go_big_quiet_on
                go_big_quiet_want
                go_big_quiet_op
                go_big_quiet_on
                go_big_quiet_want
                refine ⟨.pointer (some ⟨g, o0 + i * 4, none⟩), fun W hW => ?_, ?_⟩
                · go_simp
                go_big_quiet_on
                simp only [Act.put, List.setIfInBounds_toArray, List.set_cons_zero, List.set_cons_succ]
                go_big_quiet_want
                refine ⟨.pointer (some ⟨g, o0 + i * 4 + 2, none⟩), fun W hW => ?_, ?_⟩
                · go_simp
                go_big_quiet_on
                simp only [Act.put, List.setIfInBounds_toArray, List.set_cons_zero, List.set_cons_succ]
                go_big_quiet_want
                refine ⟨.int .i64 r2, fun W hW => ?_, ?_⟩
                · obtain ⟨x0, x1, x2, x3⟩ := HX.out W (bel0 hB5 hW)
                  go_simp
                go_big_quiet_on
                simp only [Act.put, List.setIfInBounds_toArray, List.set_cons_zero, List.set_cons_succ]
                go_big_quiet_want
                go_big_quiet_op
                go_big_quiet_on
                go_big_quiet_want
                go_big_quiet_op
                go_big_quiet_on
                go_big_quiet_want
                refine ⟨.pointer (some ⟨g, o0 + k * 4, none⟩), fun W hW => ?_, ?_⟩
                · go_simp
                go_big_quiet_on
                simp only [Act.put, List.setIfInBounds_toArray, List.set_cons_zero, List.set_cons_succ]
                go_big_quiet_want
                refine ⟨.pointer (some ⟨g, o0 + k * 4 + 2, none⟩), fun W hW => ?_, ?_⟩
                · go_simp
                go_big_quiet_on
                simp only [Act.put, List.setIfInBounds_toArray, List.set_cons_zero, List.set_cons_succ]
                go_big_quiet_want
                refine ⟨.int .i64 r2, fun W hW => ?_, ?_⟩
                · obtain ⟨y0, y1, y2, y3⟩ := HY.out W (bel0 hB5 hW)
                  go_simp
                go_big_quiet_on
                simp only [Act.put, List.setIfInBounds_toArray, List.set_cons_zero, List.set_cons_succ]
                go_big_quiet_want
                refine ⟨.bool false, fun W hW => ?_, ?_⟩
                · go_simp
                go_big_quiet_on
                simp only [Act.put, List.setIfInBounds_toArray, List.set_cons_zero, List.set_cons_succ]
                go_big_quiet_want
                refine ⟨.bool false, fun W hW => ?_, ?_⟩
                · go_simp
                go_big_quiet_on
                simp only [Act.put, List.setIfInBounds_toArray, List.set_cons_zero, List.set_cons_succ]
                go_big_quiet_want
                go_big_quiet_op
                go_big_quiet_on
                go_big_quiet_want
                go_big_quiet_op
                go_big_quiet_on
                go_big_quiet_want
                go_big_quiet_op
                go_big_quiet_on
                go_big_quiet_want
                refine ⟨.pointer (some ⟨g, o0 + i * 4, none⟩), fun W hW => ?_, ?_⟩
                · go_simp
                go_big_quiet_on
                simp only [Act.put, List.setIfInBounds_toArray, List.set_cons_zero, List.set_cons_succ]
                go_big_quiet_want
                refine ⟨.pointer (some ⟨g, o0 + i * 4 + 2, none⟩), fun W hW => ?_, ?_⟩
                · go_simp
                go_big_quiet_on
                simp only [Act.put, List.setIfInBounds_toArray, List.set_cons_zero, List.set_cons_succ]
                go_big_quiet_want
                refine ⟨.int .i64 r2, fun W hW => ?_, ?_⟩
                · obtain ⟨x0, x1, x2, x3⟩ := HX.out W (bel0 hB5 hW)
                  go_simp
                go_big_quiet_on
                simp only [Act.put, List.setIfInBounds_toArray, List.set_cons_zero, List.set_cons_succ]
                go_big_quiet_want
                go_big_quiet_op
                go_big_quiet_on
                go_big_quiet_want
                go_big_quiet_op
                go_big_quiet_on
                go_big_quiet_want
                refine ⟨.pointer (some ⟨g, o0 + k * 4, none⟩), fun W hW => ?_, ?_⟩
                · go_simp
                go_big_quiet_on
                simp only [Act.put, List.setIfInBounds_toArray, List.set_cons_zero, List.set_cons_succ]
                go_big_quiet_want
                refine ⟨.pointer (some ⟨g, o0 + k * 4 + 2, none⟩), fun W hW => ?_, ?_⟩
                · go_simp
                go_big_quiet_on
                simp only [Act.put, List.setIfInBounds_toArray, List.set_cons_zero, List.set_cons_succ]
                go_big_quiet_want
                refine ⟨.int .i64 r2, fun W hW => ?_, ?_⟩
                · obtain ⟨y0, y1, y2, y3⟩ := HY.out W (bel0 hB5 hW)
                  go_simp
                go_big_quiet_on
                simp only [Act.put, List.setIfInBounds_toArray, List.set_cons_zero, List.set_cons_succ]
                go_big_quiet_want
                refine ⟨.bool true, fun W hW => ?_, ?_⟩
                · go_simp
                go_big_quiet_on
                simp only [Act.put, List.setIfInBounds_toArray, List.set_cons_zero, List.set_cons_succ]
                go_big_quiet_want
                go_big_quiet_op
                go_big_quiet_on
                go_big_quiet_want
                go_big_quiet_op
                go_big_quiet_on
                go_big_quiet_want
                go_big_quiet_op
                go_big_quiet_on
                go_big_quiet_want
                refine ⟨.pointer (some ⟨g, o0 + i * 4, none⟩), fun W hW => ?_, ?_⟩
                · go_simp
                go_big_quiet_on
                simp only [Act.put, List.setIfInBounds_toArray, List.set_cons_zero, List.set_cons_succ]
                go_big_quiet_want
                refine ⟨.pointer (some ⟨g, o0 + i * 4, none⟩), fun W hW => ?_, ?_⟩
                · go_simp
                go_big_quiet_on
                simp only [Act.put, List.setIfInBounds_toArray, List.set_cons_zero, List.set_cons_succ]
                go_big_quiet_want
                refine ⟨.int .i64 r0, fun W hW => ?_, ?_⟩
                · obtain ⟨x0, x1, x2, x3⟩ := HX.out W (bel0 hB5 hW)
                  go_simp
                go_big_quiet_on
                simp only [Act.put, List.setIfInBounds_toArray, List.set_cons_zero, List.set_cons_succ]
                go_big_quiet_want
                go_big_quiet_op
                go_big_quiet_on
                go_big_quiet_want
                go_big_quiet_op
                go_big_quiet_on
                go_big_quiet_want
                refine ⟨.pointer (some ⟨g, o0 + k * 4, none⟩), fun W hW => ?_, ?_⟩
                · go_simp
                go_big_quiet_on
                simp only [Act.put, List.setIfInBounds_toArray, List.set_cons_zero, List.set_cons_succ]
                go_big_quiet_want
                refine ⟨.pointer (some ⟨g, o0 + k * 4, none⟩), fun W hW => ?_, ?_⟩
                · go_simp
                go_big_quiet_on
                simp only [Act.put, List.setIfInBounds_toArray, List.set_cons_zero, List.set_cons_succ]
                go_big_quiet_want
                refine ⟨.int .i64 s0, fun W hW => ?_, ?_⟩
                · obtain ⟨y0, y1, y2, y3⟩ := HY.out W (bel0 hB5 hW)
                  go_simp
                go_big_quiet_on
                simp only [Act.put, List.setIfInBounds_toArray, List.set_cons_zero, List.set_cons_succ]
                go_big_quiet_want
                refine ⟨.bool true, fun W hW => ?_, ?_⟩
                · go_simp
                go_big_quiet_on
                simp only [Act.put, List.setIfInBounds_toArray, List.set_cons_zero, List.set_cons_succ]
                go_big_quiet_want
                refine ⟨.bool true, fun W hW => ?_, ?_⟩
                · go_simp
                go_big_quiet_on
                simp only [Act.put, List.setIfInBounds_toArray, List.set_cons_zero, List.set_cons_succ]
                go_big_quiet_want
                refine ⟨.bool true, fun W hW => ?_, ?_⟩
                · go_simp
                go_big_quiet_on
                simp only [Act.put, List.setIfInBounds_toArray, List.set_cons_zero, List.set_cons_succ]
                refine wpQuiet_nil ?_
                intro W hW
                go_wp2_with fail
                go_roundw
                case rel => exact ⟨i + 1, by go_num, by omega, by rw [HS.out]; congr 1; omega, bel0 hB5 hW⟩
                case measure => simp [intOf]; omega
              · have HS : Hid (rfirst b v L (i + 1) = k + 1) := by
                  unfold Hid
                  rw [HS0.out, if_neg (by rw [decide_eq_false q1, decide_eq_false q3]; simp)]
                clear HS0
                go_upto_region 6 with fail
                refine quiet_lit3 (C := fun W => Below W5.heap.size W5 W) (by kernel_rfl) (by kernel_rfl) (show Below _ _ _ from (Below.refl _ _).drew) ?_
                go_big_quiet_want
                go_big_quiet_op
                go_big_quiet_on
                go_big_quiet_want
                refine ⟨.bool false, fun W hW => ?_, ?_⟩
                · go_simp
                go_big_quiet_on
                simp only [Act.put, List.setIfInBounds_toArray, List.set_cons_zero, List.set_cons_succ]
                go_big_quiet_want
                go_big_quiet_op
                go_big_quiet_on
                go_big_quiet_want
                go_big_quiet_op
                go_big_quiet_on
                go_big_quiet_want
                go_big_quiet_op
                go_big_quiet_on
                go_big_quiet_want
                refine ⟨.pointer (some ⟨g, o0 + i * 4, none⟩), fun W hW => ?_, ?_⟩
                · go_simp
                go_big_quiet_on
                simp only [Act.put, List.setIfInBounds_toArray, List.set_cons_zero, List.set_cons_succ]
                go_big_quiet_want
                refine ⟨.pointer (some ⟨g, o0 + i * 4 + 2, none⟩), fun W hW => ?_, ?_⟩
                · go_simp
                go_big_quiet_on
                simp only [Act.put, List.setIfInBounds_toArray, List.set_cons_zero, List.set_cons_succ]
                go_big_quiet_want
                refine ⟨.int .i64 r2, fun W hW => ?_, ?_⟩
                · obtain ⟨x0, x1, x2, x3⟩ := HX.out W (bel0 hB5 hW)
                  go_simp
                go_big_quiet_on
                simp only [Act.put, List.setIfInBounds_toArray, List.set_cons_zero, List.set_cons_succ]
                go_big_quiet_want
                go_big_quiet_op
                go_big_quiet_on
                go_big_quiet_want
                go_big_quiet_op
                go_big_quiet_on
                go_big_quiet_want
                refine ⟨.pointer (some ⟨g, o0 + k * 4, none⟩), fun W hW => ?_, ?_⟩
                · go_simp
                go_big_quiet_on
                simp only [Act.put, List.setIfInBounds_toArray, List.set_cons_zero, List.set_cons_succ]
                go_big_quiet_want
                refine ⟨.pointer (some ⟨g, o0 + k * 4 + 2, none⟩), fun W hW => ?_, ?_⟩
                · go_simp
                go_big_quiet_on
                simp only [Act.put, List.setIfInBounds_toArray, List.set_cons_zero, List.set_cons_succ]
                go_big_quiet_want
                refine ⟨.int .i64 r2, fun W hW => ?_, ?_⟩
                · obtain ⟨y0, y1, y2, y3⟩ := HY.out W (bel0 hB5 hW)
                  go_simp
                go_big_quiet_on
                simp only [Act.put, List.setIfInBounds_toArray, List.set_cons_zero, List.set_cons_succ]
                go_big_quiet_want
                refine ⟨.bool false, fun W hW => ?_, ?_⟩
                · go_simp
                go_big_quiet_on
                simp only [Act.put, List.setIfInBounds_toArray, List.set_cons_zero, List.set_cons_succ]
                go_big_quiet_want
                refine ⟨.bool false, fun W hW => ?_, ?_⟩
                · go_simp
                go_big_quiet_on
                simp only [Act.put, List.setIfInBounds_toArray, List.set_cons_zero, List.set_cons_succ]
                go_big_quiet_want
                go_big_quiet_op
                go_big_quiet_on
                go_big_quiet_want
                go_big_quiet_op
                go_big_quiet_on
                go_big_quiet_want
                go_big_quiet_op
                go_big_quiet_on
                go_big_quiet_want
                refine ⟨.pointer (some ⟨g, o0 + i * 4, none⟩), fun W hW => ?_, ?_⟩
                · go_simp
                go_big_quiet_on
                simp only [Act.put, List.setIfInBounds_toArray, List.set_cons_zero, List.set_cons_succ]
                go_big_quiet_want
                refine ⟨.pointer (some ⟨g, o0 + i * 4 + 2, none⟩), fun W hW => ?_, ?_⟩
                · go_simp
                go_big_quiet_on
                simp only [Act.put, List.setIfInBounds_toArray, List.set_cons_zero, List.set_cons_succ]
                go_big_quiet_want
                refine ⟨.int .i64 r2, fun W hW => ?_, ?_⟩
                · obtain ⟨x0, x1, x2, x3⟩ := HX.out W (bel0 hB5 hW)
                  go_simp
                go_big_quiet_on
                simp only [Act.put, List.setIfInBounds_toArray, List.set_cons_zero, List.set_cons_succ]
                go_big_quiet_want
                go_big_quiet_op
                go_big_quiet_on
                go_big_quiet_want
                go_big_quiet_op
                go_big_quiet_on
                go_big_quiet_want
                refine ⟨.pointer (some ⟨g, o0 + k * 4, none⟩), fun W hW => ?_, ?_⟩
                · go_simp
                go_big_quiet_on
                simp only [Act.put, List.setIfInBounds_toArray, List.set_cons_zero, List.set_cons_succ]
                go_big_quiet_want
                refine ⟨.pointer (some ⟨g, o0 + k * 4 + 2, none⟩), fun W hW => ?_, ?_⟩
                · go_simp
                go_big_quiet_on
                simp only [Act.put, List.setIfInBounds_toArray, List.set_cons_zero, List.set_cons_succ]
                go_big_quiet_want
                refine ⟨.int .i64 r2, fun W hW => ?_, ?_⟩
                · obtain ⟨y0, y1, y2, y3⟩ := HY.out W (bel0 hB5 hW)
                  go_simp
                go_big_quiet_on
                simp only [Act.put, List.setIfInBounds_toArray, List.set_cons_zero, List.set_cons_succ]
                go_big_quiet_want
                refine ⟨.bool true, fun W hW => ?_, ?_⟩
                · go_simp
                go_big_quiet_on
                simp only [Act.put, List.setIfInBounds_toArray, List.set_cons_zero, List.set_cons_succ]
                go_big_quiet_want
                go_big_quiet_op
                go_big_quiet_on
                go_big_quiet_want
                go_big_quiet_op
                go_big_quiet_on
                go_big_quiet_want
                go_big_quiet_op
                go_big_quiet_on
                go_big_quiet_want
                refine ⟨.pointer (some ⟨g, o0 + i * 4, none⟩), fun W hW => ?_, ?_⟩
                · go_simp
                go_big_quiet_on
                simp only [Act.put, List.setIfInBounds_toArray, List.set_cons_zero, List.set_cons_succ]
                go_big_quiet_want
                refine ⟨.pointer (some ⟨g, o0 + i * 4, none⟩), fun W hW => ?_, ?_⟩
                · go_simp
                go_big_quiet_on
                simp only [Act.put, List.setIfInBounds_toArray, List.set_cons_zero, List.set_cons_succ]
                go_big_quiet_want
                refine ⟨.int .i64 r0, fun W hW => ?_, ?_⟩
                · obtain ⟨x0, x1, x2, x3⟩ := HX.out W (bel0 hB5 hW)
                  go_simp
                go_big_quiet_on
                simp only [Act.put, List.setIfInBounds_toArray, List.set_cons_zero, List.set_cons_succ]
                go_big_quiet_want
                go_big_quiet_op
                go_big_quiet_on
                go_big_quiet_want
                go_big_quiet_op
                go_big_quiet_on
                go_big_quiet_want
                refine ⟨.pointer (some ⟨g, o0 + k * 4, none⟩), fun W hW => ?_, ?_⟩
                · go_simp
                go_big_quiet_on
                simp only [Act.put, List.setIfInBounds_toArray, List.set_cons_zero, List.set_cons_succ]
                go_big_quiet_want
                refine ⟨.pointer (some ⟨g, o0 + k * 4, none⟩), fun W hW => ?_, ?_⟩
                · go_simp
                go_big_quiet_on
                simp only [Act.put, List.setIfInBounds_toArray, List.set_cons_zero, List.set_cons_succ]
                go_big_quiet_want
                refine ⟨.int .i64 s0, fun W hW => ?_, ?_⟩
                · obtain ⟨y0, y1, y2, y3⟩ := HY.out W (bel0 hB5 hW)
                  go_simp
                go_big_quiet_on
                simp only [Act.put, List.setIfInBounds_toArray, List.set_cons_zero, List.set_cons_succ]
                go_big_quiet_want
                refine ⟨.bool false, fun W hW => ?_, ?_⟩
                · go_simp
                go_big_quiet_on
                simp only [Act.put, List.setIfInBounds_toArray, List.set_cons_zero, List.set_cons_succ]
                go_big_quiet_want
                refine ⟨.bool false, fun W hW => ?_, ?_⟩
                · go_simp
                go_big_quiet_on
                simp only [Act.put, List.setIfInBounds_toArray, List.set_cons_zero, List.set_cons_succ]
                go_big_quiet_want
                refine ⟨.bool false, fun W hW => ?_, ?_⟩
                · go_simp
                go_big_quiet_on
                simp only [Act.put, List.setIfInBounds_toArray, List.set_cons_zero, List.set_cons_succ]
                refine wpQuiet_nil ?_
                intro W hW
                go_wp2_with fail
                go_roundw
                case rel => exact ⟨i + 1, by go_num, by omega, by rw [HS.out]; congr 1; omega, bel0 hB5 hW⟩
                case measure => simp [intOf]; omega
            · have HS : Hid (rfirst b v L (i + 1) = k + 1) := by
                unfold Hid
                rw [HS0.out, if_neg (by rw [decide_eq_false q1, decide_eq_false q2]; simp)]
              have q4 : (r2 == s2) = false := beq_false_of_ne q2
              clear HS0
              go_upto_region 6 with fail
              refine quiet_lit3 (C := fun W => Below W5.heap.size W5 W) (by kernel_rfl) (by kernel_rfl) (show Below _ _ _ from (Below.refl _ _).drew) ?_
              go_big_quiet_want
              go_big_quiet_op
              go_big_quiet_on
              go_big_quiet_want
              refine ⟨.bool false, fun W hW => ?_, ?_⟩
              · go_simp
              go_big_quiet_on
              simp only [Act.put, List.setIfInBounds_toArray, List.set_cons_zero, List.set_cons_succ]
              go_big_quiet_want
              go_big_quiet_op
              go_big_quiet_on
              go_big_quiet_want
              go_big_quiet_op
              go_big_quiet_on
              go_big_quiet_want
              go_big_quiet_op
              go_big_quiet_on
              go_big_quiet_want
              refine ⟨.pointer (some ⟨g, o0 + i * 4, none⟩), fun W hW => ?_, ?_⟩
              · go_simp
              go_big_quiet_on
              simp only [Act.put, List.setIfInBounds_toArray, List.set_cons_zero, List.set_cons_succ]
              go_big_quiet_want
              refine ⟨.pointer (some ⟨g, o0 + i * 4 + 2, none⟩), fun W hW => ?_, ?_⟩
              · go_simp
              go_big_quiet_on
              simp only [Act.put, List.setIfInBounds_toArray, List.set_cons_zero, List.set_cons_succ]
              go_big_quiet_want
              refine ⟨.int .i64 r2, fun W hW => ?_, ?_⟩
              · obtain ⟨x0, x1, x2, x3⟩ := HX.out W (bel0 hB5 hW)
                go_simp
              go_big_quiet_on
              simp only [Act.put, List.setIfInBounds_toArray, List.set_cons_zero, List.set_cons_succ]
              go_big_quiet_want
              go_big_quiet_op
              go_big_quiet_on
              go_big_quiet_want
              go_big_quiet_op
              go_big_quiet_on
              go_big_quiet_want
              refine ⟨.pointer (some ⟨g, o0 + k * 4, none⟩), fun W hW => ?_, ?_⟩
              · go_simp
              go_big_quiet_on
              simp only [Act.put, List.setIfInBounds_toArray, List.set_cons_zero, List.set_cons_succ]
              go_big_quiet_want
              refine ⟨.pointer (some ⟨g, o0 + k * 4 + 2, none⟩), fun W hW => ?_, ?_⟩
              · go_simp
              go_big_quiet_on
              simp only [Act.put, List.setIfInBounds_toArray, List.set_cons_zero, List.set_cons_succ]
              go_big_quiet_want
              refine ⟨.int .i64 s2, fun W hW => ?_, ?_⟩
              · obtain ⟨y0, y1, y2, y3⟩ := HY.out W (bel0 hB5 hW)
                go_simp
              go_big_quiet_on
              simp only [Act.put, List.setIfInBounds_toArray, List.set_cons_zero, List.set_cons_succ]
              go_big_quiet_want
              refine ⟨.bool false, fun W hW => ?_, ?_⟩
              · go_simp
              go_big_quiet_on
              simp only [Act.put, List.setIfInBounds_toArray, List.set_cons_zero, List.set_cons_succ]
              go_big_quiet_want
              refine ⟨.bool false, fun W hW => ?_, ?_⟩
              · go_simp
              go_big_quiet_on
              simp only [Act.put, List.setIfInBounds_toArray, List.set_cons_zero, List.set_cons_succ]
              go_big_quiet_want
              go_big_quiet_op
              go_big_quiet_on
              go_big_quiet_want
              go_big_quiet_op
              go_big_quiet_on
              go_big_quiet_want
              go_big_quiet_op
              go_big_quiet_on
              go_big_quiet_want
              refine ⟨.pointer (some ⟨g, o0 + i * 4, none⟩), fun W hW => ?_, ?_⟩
              · go_simp
              go_big_quiet_on
              simp only [Act.put, List.setIfInBounds_toArray, List.set_cons_zero, List.set_cons_succ]
              go_big_quiet_want
              refine ⟨.pointer (some ⟨g, o0 + i * 4 + 2, none⟩), fun W hW => ?_, ?_⟩
              · go_simp
              go_big_quiet_on
              simp only [Act.put, List.setIfInBounds_toArray, List.set_cons_zero, List.set_cons_succ]
              go_big_quiet_want
              refine ⟨.int .i64 r2, fun W hW => ?_, ?_⟩
              · obtain ⟨x0, x1, x2, x3⟩ := HX.out W (bel0 hB5 hW)
                go_simp
              go_big_quiet_on
              simp only [Act.put, List.setIfInBounds_toArray, List.set_cons_zero, List.set_cons_succ]
              go_big_quiet_want
              go_big_quiet_op
              go_big_quiet_on
              go_big_quiet_want
              go_big_quiet_op
              go_big_quiet_on
              go_big_quiet_want
              refine ⟨.pointer (some ⟨g, o0 + k * 4, none⟩), fun W hW => ?_, ?_⟩
              · go_simp
              go_big_quiet_on
              simp only [Act.put, List.setIfInBounds_toArray, List.set_cons_zero, List.set_cons_succ]
              go_big_quiet_want
              refine ⟨.pointer (some ⟨g, o0 + k * 4 + 2, none⟩), fun W hW => ?_, ?_⟩
              · go_simp
              go_big_quiet_on
              simp only [Act.put, List.setIfInBounds_toArray, List.set_cons_zero, List.set_cons_succ]
              go_big_quiet_want
              refine ⟨.int .i64 s2, fun W hW => ?_, ?_⟩
              · obtain ⟨y0, y1, y2, y3⟩ := HY.out W (bel0 hB5 hW)
                go_simp
              go_big_quiet_on
              simp only [Act.put, List.setIfInBounds_toArray, List.set_cons_zero, List.set_cons_succ]
              go_big_quiet_want
              refine ⟨.bool false, fun W hW => ?_, ?_⟩
              · go_simp
              go_big_quiet_on
              simp only [Act.put, List.setIfInBounds_toArray, List.set_cons_zero, List.set_cons_succ]
              go_big_quiet_want
              go_big_quiet_op
              go_big_quiet_on
              go_big_quiet_skip
              go_big_quiet_skip
              go_big_quiet_skip
              go_big_quiet_skip
              go_big_quiet_skip
              go_big_quiet_skip
              go_big_quiet_skip
              go_big_quiet_skip
              go_big_quiet_skip
              go_big_quiet_skip
              go_big_quiet_skip
              go_big_quiet_want
              refine ⟨.bool false, fun W hW => ?_, ?_⟩
              · go_simp
              go_big_quiet_on
              simp only [Act.put, List.setIfInBounds_toArray, List.set_cons_zero, List.set_cons_succ]
              go_big_quiet_want
              refine ⟨.bool false, fun W hW => ?_, ?_⟩
              · go_simp
              go_big_quiet_on
              simp only [Act.put, List.setIfInBounds_toArray, List.set_cons_zero, List.set_cons_succ]
              refine wpQuiet_nil ?_
              intro W hW
              go_wp2_with fail
              go_roundw
              case rel => exact ⟨i + 1, by go_num, by omega, by rw [HS.out]; congr 1; omega, bel0 hB5 hW⟩
              case measure => simp [intOf]; omega
    · have j1 : ¬ (i : Int) < (n : Int) := by omega
      obtain rfl : i = n := by omega
      have hki := HK.out i (Nat.le_refl _)
      have ho := HO.out
      obtain ⟨K, hK⟩ : ∃ K, rfirst b v L i = K := ⟨_, rfl⟩
      rw [hK] at hki ho
      simp only [hK]
      clear hK
      cases K with
      | zero =>
        rw [if_pos rfl] at ho
        have HO2 : Hid (outL b v L = -1) := ho
        rw [show (((0 : Nat) : Int) - 1) = -1 by omega]
        clear ho hki
        go_wp2_with fail
        go_ret
        exact ⟨by rw [HO2.out]; rfl, hB⟩
      | succ k =>
        obtain ⟨hki1, s, hs, _, _⟩ := hki.2 k rfl
        rw [if_neg (by omega), show k + 1 - 1 = k by omega, show L.getD k (0, 0, 0, 0) = s by simp [List.getD, hs]] at ho
        have HO2 : Hid (outL b v L = s.2.2.2) := ho
        have k0 : (0 : Int) ≤ (k : Int) := by omega
        have k2 : (k : Int) < (i : Int) := by omega
        have k4 : ¬ ((k : Int) < 0) := by omega
        rw [show (((k + 1 : Nat) : Int) - 1) = (k : Int) by omega]
        obtain ⟨g, o0, rfl, p0, p1, p2, p3⟩ := HI.out _ hB k s hs
        clear ho hki hs
        go_wp2_with fail
        go_ret
        exact ⟨by rw [HO2.out]; rfl, hB⟩
end Go.Proofs.Ytfcdaljhbeogeaa

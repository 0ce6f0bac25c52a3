import Derived.Test.YtkmnonkabekclaaDoorLM
namespace Go.Proofs.YtkmnonkabekclaaDoor
open Go.RowKit
theorem hd_bad {d : List UInt8} (hm : mkB d) (h : ¬ hdB d) : rdK d < 1 ∨ (1 ≤ rdK d ∧ 4 < rdK d) ∨ (1 ≤ rdK d ∧ rdK d ≤ 4 ∧ rdS d < 1) ∨ (1 ≤ rdK d ∧ rdK d ≤ 4 ∧ 1 ≤ rdS d ∧ 2147483647 < rdS d) ∨ (1 ≤ rdK d ∧ rdK d ≤ 4 ∧ 1 ≤ rdS d ∧ rdS d ≤ 2147483647 ∧ 16384 < rdN d) := by
  have h2 : ¬ (may (rdS d) (rdK d) ∧ rdN d ≤ 16384) := fun h3 => h ⟨hm, h3.1, h3.2⟩
  unfold may at h2
  omega
set_option maxRecDepth 100000 in
set_option maxHeartbeats 16000000 in
theorem dread_any (D : List UInt8) (p : Option Addr) (n c : Nat) (a : Int) (w : World) (hn : D.length = n) (hL : n ≤ 281474976710656) (hc : n ≤ c) (hr : BR w p D) :
    Calls Tryd.prog 14 #[.slice p n c, .int .i64 a] w (RDQ D a w) := by
  have HBA : Hid (∀ x : Obj, Below w.heap.size w (w.alloc x)) := fun x => (Below.refl _ _).alloc (Nat.le_refl _) x
  by_cases ha : a < 0 ∨ (n : Int) < a
  · have hE : rcE D a = 1 := by unfold rcE; rw [hn, if_pos ha]
    clear hr hn
    rcases ha with ha | ha
    · go_enter Tryd.func14, Tryd.ntmps14
      go_wp2_with fail
      refine bodyPost_ret (res_drd _ _ w.heap.size 0 0 [] _ _ ⟨rfl, rfl, rfl⟩ (RBX_new (alloc_getZ _ _))) rfl ?_
      exact rdq_no hE (by decide) rfl (HBA.out _)
    · have ha0 : ¬ a < 0 := by omega
      go_enter Tryd.func14, Tryd.ntmps14
      go_wp2_with fail
      refine bodyPost_ret (res_drd _ _ w.heap.size 0 0 [] _ _ ⟨rfl, rfl, rfl⟩ (RBX_new (alloc_getZ _ _))) rfl ?_
      exact rdq_no hE (by decide) rfl (HBA.out _)
  · obtain ⟨A, rfl⟩ : ∃ A : Nat, a = A := ⟨a.toNat, by omega⟩
    have hE : rcE D A = rdE (D.drop A) := by unfold rcE; rw [hn, if_neg ha, Int.toNat_natCast]
    have ha0 : ¬ (A : Int) < 0 := by omega
    have ha1 : ¬ (n : Int) < (A : Int) := by omega
    have ha2 : A ≤ n := by omega
    have ha3 : (A : Int) ≤ (n : Int) := by omega
    have ha4 : (0 : Int) ≤ (A : Int) := by omega
    have ha5 : (A : Int) ≤ (c : Int) := by omega
    have hdl : (D.drop A).length = n - A := by rw [List.length_drop, hn]
    by_cases h16 : n - A < 16
    · have hE1 : rcE D A = 191 := by rw [hE]; unfold rdE; rw [hdl, if_pos h16]
      have h16' : ((n - A : Nat) : Int) < 16 := by omega
      clear hr hn hdl ha
      go_enter Tryd.func14, Tryd.ntmps14
      go_wp2_with fail
      all_goals
        refine bodyPost_ret (res_drd _ _ w.heap.size 0 0 [] _ _ ⟨rfl, rfl, rfl⟩ (RBX_new (alloc_getZ _ _))) rfl ?_
        exact rdq_no hE1 (by decide) rfl (HBA.out _)
    · have g1 : ¬ ((n - A : Nat) : Int) < 16 := by omega
      have g2 : A < c := by omega
      have g3 : (12 : Int) ≤ ((c - A : Nat) : Int) := by omega
      have i0 : (0 : Int) < ((n - A : Nat) : Int) := by omega
      have i1 : (1 : Int) < ((n - A : Nat) : Int) := by omega
      have i2 : (2 : Int) < ((n - A : Nat) : Int) := by omega
      have i3 : (3 : Int) < ((n - A : Nat) : Int) := by omega
      obtain ⟨g, o, rfl⟩ := hr.some (by omega)
      obtain ⟨W1, hW1⟩ : ∃ W1, w.alloc (.cells #[.int .i64 0, .int .i64 0, .string ⟨#[]⟩] 35 (0, 0)) = W1 := ⟨_, rfl⟩
      have b1 : Below w.heap.size w W1 := by rw [← hW1]; exact HBA.out _
      have HX1 : Hid (W1.heap[w.heap.size]? = some (.cells #[.int .i64 0, .int .i64 0, .string ⟨#[]⟩] 35 (0, 0))) := by rw [← hW1]; exact alloc_getZ _ _
      have HR1 : Hid (BR W1 (some ⟨g, o + A, none⟩) (D.drop A)) := (br_drop hr A).below b1
      obtain ⟨d, hd⟩ : ∃ d, D.drop A = d := ⟨_, rfl⟩
      rw [hd] at HR1 hE hdl
      have HD : Hid (D.drop A = d) := hd
      have HLD : Hid (d.length = n - A) := hdl
      have HEE : Hid (rcE D A = rdE d) := hE
      have c2 : W1.cell? ⟨g, o + A + 2, none⟩ = some (.int .u8 (rdK d : Int)) := HR1.out.get (k := 2) (by omega)
      have N4 : Hid (Calls Tryd.prog 31 #[.slice (some ⟨g, o + A, none⟩) (n - A) (c - A), .int .i64 4] W1 fun e w' => e = .returned (.int .i64 (rdS d)) ∧ ∃ m, w' = W1.drewN m) := dnum_any d (some ⟨g, o + A, none⟩) (n - A) (c - A) 4 W1 hdl (by omega) (by omega) HR1.out
      have k8 : rdK d < 256 := (d.getD 2 0).toNat_lt
      obtain ⟨K, hK⟩ : ∃ K, rdK d = K := ⟨_, rfl⟩
      have HK : Hid (rdK d = K) := hK
      rw [hK] at c2 k8
      clear hK hd hdl hE hr hn
      go_enter Tryd.func14, Tryd.ntmps14
      go_wp2_with fail
      refine N4.out.mono ?_
      rintro e W2 ⟨rfl, m1, hm1⟩
      have HR2 : Hid (BR W2 (some ⟨g, o + A, none⟩) d) := by rw [hm1]; exact HR1.out.drewN m1
      have HX2 : Hid (W2.heap[w.heap.size]? = some (.cells #[.int .i64 0, .int .i64 0, .string ⟨#[]⟩] 35 (0, 0))) := by rw [hm1]; exact HX1.out
      have B2 : Below w.heap.size w W2 := by rw [hm1]; exact bel_drewZ m1 b1
      have N8 : Hid (Calls Tryd.prog 31 #[.slice (some ⟨g, o + A, none⟩) (n - A) (c - A), .int .i64 8] W2 fun e w' => e = .returned (.int .i64 (rdN d)) ∧ ∃ m, w' = W2.drewN m) := dnum_any d (some ⟨g, o + A, none⟩) (n - A) (c - A) 8 W2 HLD.out (by omega) (by omega) HR2.out
      obtain ⟨S, hS⟩ : ∃ S, rdS d = S := ⟨_, rfl⟩
      have HS : Hid (rdS d = S) := hS
      rw [hS]
      clear hS hm1 N4 c2
      go_wp2_with fail
      refine N8.out.mono ?_
      rintro e W3 ⟨rfl, m2, hm2⟩
      have HR3 : Hid (BR W3 (some ⟨g, o + A, none⟩) d) := by rw [hm2]; exact HR2.out.drewN m2
      have HX3 : Hid (W3.heap[w.heap.size]? = some (.cells #[.int .i64 0, .int .i64 0, .string ⟨#[]⟩] 35 (0, 0))) := by rw [hm2]; exact HX2.out
      have B3 : Hid (Below w.heap.size w W3) := by rw [hm2]; exact bel_drewZ m2 B2
      obtain ⟨N, hN⟩ : ∃ N, rdN d = N := ⟨_, rfl⟩
      have HNN : Hid (rdN d = N) := hN
      rw [hN]
      clear hN hm2 N8 HR1 HX1 HR2 HX2 B2 b1
      go_upto_region 9 with fail
      have c0 := HR3.out.get (k := 0) (by rw [HLD.out]; omega)
      have c1 := HR3.out.get (k := 1) (by rw [HLD.out]; omega)
      have c3 := HR3.out.get (k := 3) (by rw [HLD.out]; omega)
      rw [Nat.add_zero] at c0
      have f0 := (cellsZ HX3.out).2 0
      have f1 := (cellsZ HX3.out).2 1
      have f2 := (cellsZ HX3.out).2 2
      obtain ⟨q0, q1, q2⟩ := RBX_new (t := []) HX3.out
      by_cases hmk : d.getD 0 0 = 82 ∧ d.getD 1 0 = 76 ∧ d.getD 3 0 = 0
      · obtain ⟨m0, m1, m3⟩ := hmk
        have e0 := bneY m0
        have e1 := bneY m1
        have e3 := bneY m3
        rw [show ((82 : UInt8).toNat : Int) = 82 from rfl] at e0
        rw [show ((76 : UInt8).toNat : Int) = 76 from rfl] at e1
        rw [show ((0 : UInt8).toNat : Int) = 0 from rfl] at e3
        have N12 : Hid (∀ m, Calls Tryd.prog 31 #[.slice (some ⟨g, o + A, none⟩) (n - A) (c - A), .int .i64 12] (W3.drewN m) fun e w' => e = .returned (.int .i64 (numL (d.drop 12) : Int)) ∧ ∃ k, w' = W3.drewN k) := fun m => dnum_q d (some ⟨g, o + A, none⟩) (n - A) (c - A) 12 m W3 HLD.out (by omega) (by omega) HR3.out
        have S12 : Hid (∀ m, Calls Tryd.prog 19 #[.slice (some ⟨g, o + A, none⟩) 12 (c - A)] (W3.drewN m) fun e w' => e = .returned (.int .i64 (sumN (d.take 12) : Int)) ∧ ∃ k, w' = W3.drewN k) := fun m => dsum_q (d.take 12) (some ⟨g, o + A, none⟩) 12 (c - A) m W3 (by rw [List.length_take, HLD.out]; omega) (by decide) (HR3.out.take 12)
        by_cases hs : sumN (d.take 12) = numL (d.drop 12)
        · have es : ((numL (d.drop 12) : Int) != (sumN (d.take 12) : Int)) = false := by rw [hs]; simp
          have HMK : Hid (mkB d) := ⟨m0, m1, m3, hs⟩
          clear m0 m1 m3 hs
          generalize sumN (d.take 12) = S1 at *
          generalize numL (d.drop 12) = S2 at *
          generalize ((d.getD 0 0).toNat : Int) = X0 at *
          generalize ((d.getD 1 0).toNat : Int) = X1 at *
          generalize ((d.getD 3 0).toNat : Int) = X3 at *
          go_quiet (first | exact N12.out _ | exact S12.out _)
          obtain ⟨W4, hW4⟩ : ∃ W4, W3.drewN nq = W4 := ⟨_, rfl⟩
          have HX4 : Hid (W4.heap[w.heap.size]? = some (.cells #[.int .i64 0, .int .i64 0, .string ⟨#[]⟩] 35 (0, 0))) := by rw [← hW4]; exact HX3.out
          have B4 : Hid (Below w.heap.size w W4) := by rw [← hW4]; exact bel_drewZ nq B3.out
          have HR4 : Hid (BR W4 (some ⟨g, o + A, none⟩) d) := by rw [← hW4]; exact HR3.out.drewN nq
          rw [hW4]
          clear hW4 f0 f1 f2 q0 q1 q2
          have f0 := (cellsZ HX4.out).2 0
          have f1 := (cellsZ HX4.out).2 1
          have f2 := (cellsZ HX4.out).2 2
          obtain ⟨q0, q1, q2⟩ := RBX_new (t := []) HX4.out
          clear c0 c1 c3 e0 e1 e3 N12 S12 es HR3 HX3 B3
          by_cases hh : hdB d
          · have hN16 : N ≤ 16384 := by rw [← HNN.out]; exact hh.2.2
            obtain ⟨u1, u2, u3, u4⟩ : 1 ≤ K ∧ K ≤ 4 ∧ 1 ≤ S ∧ S ≤ 2147483647 := by rw [← HK.out, ← HS.out]; exact hh.2.1
            have z1 : ¬ (K : Int) < 1 := by omega
            have z2 : ¬ 4 < (K : Int) := by omega
            have z3 : ¬ (S : Int) < 1 := by omega
            have z4 : ¬ 2147483647 < (S : Int) := by omega
            have z5 : ¬ 16384 < (N : Int) := by omega
            have HH : Hid (hdB d) := hh
            clear hh
            by_cases h20 : n - A < N + 20
            · have hE1 : rcE D A = 191 := by rw [HEE.out, rdE, HLD.out, if_neg h16, if_neg (fun h => h HH.out), if_pos (by rw [HNN.out]; exact h20)]
              have y4 : ((n - A : Nat) : Int) < (N : Int) + 20 := by omega
              go_wp2_with fail
              refine bodyPost_ret (res_drd _ _ w.heap.size 0 0 [] _ _ ⟨rfl, rfl, rfl⟩ (RBX_new (put3w _ _ _ HX4.out))) rfl ?_
              exact rdq_no hE1 (by decide) rfl (bel3 B4.out (Nat.le_refl _) _ _ _)
            · have y4 : ¬ ((n - A : Nat) : Int) < (N : Int) + 20 := by omega
              have y5 : (16 : Int) + (N : Int) ≤ ((c - A : Nat) : Int) := by omega
              have y6 : (0 : Int) ≤ 16 + (N : Int) := by omega
              have NQ : Hid (∀ m, Calls Tryd.prog 31 #[.slice (some ⟨g, o + A, none⟩) (n - A) (c - A), .int .i64 (16 + (N : Int))] (W4.drewN m) fun e w' => e = .returned (.int .i64 (numL (d.drop (16 + N)) : Int)) ∧ ∃ k, w' = W4.drewN k) := fun m => by
                have := dnum_q d (some ⟨g, o + A, none⟩) (n - A) (c - A) (16 + N) m W4 HLD.out (by omega) (by omega) HR4.out
                rw [show (((16 + N : Nat)) : Int) = 16 + (N : Int) by omega] at this
                exact this
              have SQ : Hid (∀ m, Calls Tryd.prog 19 #[.slice (some ⟨g, o + A, none⟩) (16 + N) (c - A)] (W4.drewN m) fun e w' => e = .returned (.int .i64 (sumN (d.take (16 + N)) : Int)) ∧ ∃ k, w' = W4.drewN k) := fun m => dsum_q (d.take (16 + N)) (some ⟨g, o + A, none⟩) (16 + N) (c - A) m W4 (by rw [List.length_take, HLD.out]; omega) (by omega) (HR4.out.take _)
              have yw : IntKind.i64.wrap (16 + (N : Int)) = 16 + (N : Int) := by rw [IntKind.wrap_i64]; omega
              by_cases hs : sumN (d.take (16 + N)) = numL (d.drop (16 + N))
              · have es : ((numL (d.drop (16 + N)) : Int) != (sumN (d.take (16 + N)) : Int)) = false := by rw [hs]; simp
                have hE0 : rcE D A = 0 := by rw [HEE.out, rdE, HLD.out, if_neg h16, if_neg (fun h => h HH.out), if_neg (by rw [HNN.out]; exact h20), if_neg (by rw [HNN.out]; exact fun h => h hs)]
                clear hs
                generalize sumN (d.take (16 + N)) = S1 at *
                generalize numL (d.drop (16 + N)) = S2 at *
                go_wp2_with fail
                go_quiet (first | exact NQ.out _ | exact SQ.out _)
                obtain ⟨W5, hW5⟩ : ∃ W5, W4.drewN nq = W5 := ⟨_, rfl⟩
                have HX5 : Hid (W5.heap[w.heap.size]? = some (.cells #[.int .i64 0, .int .i64 0, .string ⟨#[]⟩] 35 (0, 0))) := by rw [← hW5]; exact HX4.out
                have B5 : Hid (Below w.heap.size w W5) := by rw [← hW5]; exact bel_drewZ nq B4.out
                have HR5 : Hid (BR W5 (some ⟨g, o + A, none⟩) d) := by rw [← hW5]; exact HR4.out.drewN nq
                rw [hW5]
                clear hW5 f0 f1 f2 q0 q1 q2 NQ SQ
                have f0 := (cellsZ HX5.out).2 0
                have f1 := (cellsZ HX5.out).2 1
                have f2 := (cellsZ HX5.out).2 2
                obtain ⟨q0, q1, q2⟩ := RBX_new (t := []) HX5.out
                have hTl : (rdT d).length = N := by rw [rdT_len (by rw [← HEE.out]; exact hE0), HNN.out]
                have HTB : Hid (BR W5 (some ⟨g, o + A + 16, none⟩) (rdT d)) := by
                  unfold rdT
                  rw [HNN.out]
                  exact (br_drop HR5.out 16).take N
                have kv2 : ∀ C : Nat, (convert 31 9 (.slice (some ⟨g, o + A + 16, none⟩) N C)).run Tryd.prog W5 = .ok (.string ⟨(rdT d).toArray⟩) W5 := fun C => conv_bytes hTl HTB.out
                have w1 : (16 : Int) ≤ 16 + (N : Int) := by omega
                have w2 : (16 : Nat) < c - A := by omega
                clear hTl yw
                go_wp2_with fail
                refine bodyPost_ret (res_drd _ _ w.heap.size S K (rdT d) _ _ ⟨rfl, rfl, rfl⟩ (RBX_new (put3w _ _ _ HX5.out))) rfl ?_
                refine ⟨?_, bel3 B5.out (Nat.le_refl _) _ _ _⟩
                have hR : rcR D A = ⟨S, K, rdT d⟩ := by rw [rcR, if_pos hE0, Int.toNat_natCast, HD.out, rdR, HS.out, HK.out]
                have hNx : rcN D A = (A : Int) + (N : Int) + 20 := by rw [rcN, if_pos hE0, Int.toNat_natCast, HD.out, HNN.out]
                rw [hR, hNx, hE0]
                rfl
              · have es : ((numL (d.drop (16 + N)) : Int) != (sumN (d.take (16 + N)) : Int)) = true := by simp only [bne_iff_ne, ne_eq]; omega
                have hE1 : rcE D A = 192 := by rw [HEE.out, rdE, HLD.out, if_neg h16, if_neg (fun h => h HH.out), if_neg (by rw [HNN.out]; exact h20), if_pos (by rw [HNN.out]; exact hs)]
                clear hs
                generalize sumN (d.take (16 + N)) = S1 at *
                generalize numL (d.drop (16 + N)) = S2 at *
                go_wp2_with fail
                go_quiet (first | exact NQ.out _ | exact SQ.out _)
                obtain ⟨W5, hW5⟩ : ∃ W5, W4.drewN nq = W5 := ⟨_, rfl⟩
                have HX5 : Hid (W5.heap[w.heap.size]? = some (.cells #[.int .i64 0, .int .i64 0, .string ⟨#[]⟩] 35 (0, 0))) := by rw [← hW5]; exact HX4.out
                have B5 : Hid (Below w.heap.size w W5) := by rw [← hW5]; exact bel_drewZ nq B4.out
                have HR5 : Hid (BR W5 (some ⟨g, o + A, none⟩) d) := by rw [← hW5]; exact HR4.out.drewN nq
                rw [hW5]
                clear hW5 f0 f1 f2 q0 q1 q2 NQ SQ
                have f0 := (cellsZ HX5.out).2 0
                have f1 := (cellsZ HX5.out).2 1
                have f2 := (cellsZ HX5.out).2 2
                obtain ⟨q0, q1, q2⟩ := RBX_new (t := []) HX5.out
                go_wp2_with fail
                refine bodyPost_ret (res_drd _ _ w.heap.size 0 0 [] _ _ ⟨rfl, rfl, rfl⟩ (RBX_new (put3w _ _ _ HX5.out))) rfl ?_
                exact rdq_no hE1 (by decide) rfl (bel3 B5.out (Nat.le_refl _) _ _ _)
          · have hE1 : rcE D A = 192 := by rw [HEE.out, rdE, HLD.out, if_neg h16, if_pos hh]
            have hb := hd_bad HMK.out hh
            rw [HK.out, HS.out, HNN.out] at hb
            clear hh
            rcases hb with hb | ⟨hb, hb2⟩ | ⟨hb, hb2, hb3⟩ | ⟨hb, hb2, hb3, hb4⟩ | ⟨hb, hb2, hb3, hb4, hb5⟩
            · have z1 : (K : Int) < 1 := by omega
              go_wp2_with fail
              refine bodyPost_ret (res_drd _ _ w.heap.size 0 0 [] _ _ ⟨rfl, rfl, rfl⟩ (RBX_new (put3w _ _ _ HX4.out))) rfl ?_
              exact rdq_no hE1 (by decide) rfl (bel3 B4.out (Nat.le_refl _) _ _ _)
            · have z1 : ¬ (K : Int) < 1 := by omega
              have z2 : 4 < (K : Int) := by omega
              go_wp2_with fail
              refine bodyPost_ret (res_drd _ _ w.heap.size 0 0 [] _ _ ⟨rfl, rfl, rfl⟩ (RBX_new (put3w _ _ _ HX4.out))) rfl ?_
              exact rdq_no hE1 (by decide) rfl (bel3 B4.out (Nat.le_refl _) _ _ _)
            · have z1 : ¬ (K : Int) < 1 := by omega
              have z2 : ¬ 4 < (K : Int) := by omega
              have z3 : (S : Int) < 1 := by omega
              go_wp2_with fail
              refine bodyPost_ret (res_drd _ _ w.heap.size 0 0 [] _ _ ⟨rfl, rfl, rfl⟩ (RBX_new (put3w _ _ _ HX4.out))) rfl ?_
              exact rdq_no hE1 (by decide) rfl (bel3 B4.out (Nat.le_refl _) _ _ _)
            · have z1 : ¬ (K : Int) < 1 := by omega
              have z2 : ¬ 4 < (K : Int) := by omega
              have z3 : ¬ (S : Int) < 1 := by omega
              have z4 : 2147483647 < (S : Int) := by omega
              go_wp2_with fail
              refine bodyPost_ret (res_drd _ _ w.heap.size 0 0 [] _ _ ⟨rfl, rfl, rfl⟩ (RBX_new (put3w _ _ _ HX4.out))) rfl ?_
              exact rdq_no hE1 (by decide) rfl (bel3 B4.out (Nat.le_refl _) _ _ _)
            · have z1 : ¬ (K : Int) < 1 := by omega
              have z2 : ¬ 4 < (K : Int) := by omega
              have z3 : ¬ (S : Int) < 1 := by omega
              have z4 : ¬ 2147483647 < (S : Int) := by omega
              have z5 : 16384 < (N : Int) := by omega
              go_wp2_with fail
              refine bodyPost_ret (res_drd _ _ w.heap.size 0 0 [] _ _ ⟨rfl, rfl, rfl⟩ (RBX_new (put3w _ _ _ HX4.out))) rfl ?_
              exact rdq_no hE1 (by decide) rfl (bel3 B4.out (Nat.le_refl _) _ _ _)
        · have es : ((numL (d.drop 12) : Int) != (sumN (d.take 12) : Int)) = true := by simp only [bne_iff_ne, ne_eq]; omega
          have hE1 : rcE D A = 192 := by rw [HEE.out, rdE, HLD.out, if_neg h16, if_pos (fun h => hs h.1.2.2.2)]
          clear m0 m1 m3 hs
          generalize sumN (d.take 12) = S1 at *
          generalize numL (d.drop 12) = S2 at *
          generalize ((d.getD 0 0).toNat : Int) = X0 at *
          generalize ((d.getD 1 0).toNat : Int) = X1 at *
          generalize ((d.getD 3 0).toNat : Int) = X3 at *
          go_quiet (first | exact N12.out _ | exact S12.out _)
          obtain ⟨W4, hW4⟩ : ∃ W4, W3.drewN nq = W4 := ⟨_, rfl⟩
          have HX4 : Hid (W4.heap[w.heap.size]? = some (.cells #[.int .i64 0, .int .i64 0, .string ⟨#[]⟩] 35 (0, 0))) := by rw [← hW4]; exact HX3.out
          have B4 : Hid (Below w.heap.size w W4) := by rw [← hW4]; exact bel_drewZ nq B3.out
          have HR4 : Hid (BR W4 (some ⟨g, o + A, none⟩) d) := by rw [← hW4]; exact HR3.out.drewN nq
          rw [hW4]
          clear hW4 f0 f1 f2 q0 q1 q2
          have f0 := (cellsZ HX4.out).2 0
          have f1 := (cellsZ HX4.out).2 1
          have f2 := (cellsZ HX4.out).2 2
          obtain ⟨q0, q1, q2⟩ := RBX_new (t := []) HX4.out
          go_wp2_with fail
          refine bodyPost_ret (res_drd _ _ w.heap.size 0 0 [] _ _ ⟨rfl, rfl, rfl⟩ (RBX_new (put3w _ _ _ HX4.out))) rfl ?_
          exact rdq_no hE1 (by decide) rfl (bel3 B4.out (Nat.le_refl _) _ _ _)
      · have hE1 : rcE D A = 192 := by rw [HEE.out, rdE, HLD.out, if_neg h16, if_pos (fun h => hmk ⟨h.1.1, h.1.2.1, h.1.2.2.1⟩)]
        by_cases m0 : d.getD 0 0 = 82
        · by_cases m1 : d.getD 1 0 = 76
          · have m3 : ¬ d.getD 3 0 = 0 := fun m3 => hmk ⟨m0, m1, m3⟩
            have e0 := bneY m0
            have e1 := bneY m1
            have e3 := bneN m3
            clear m0 m1 m3 hmk
            rw [show ((82 : UInt8).toNat : Int) = 82 from rfl] at e0
            rw [show ((76 : UInt8).toNat : Int) = 76 from rfl] at e1
            rw [show ((0 : UInt8).toNat : Int) = 0 from rfl] at e3
            generalize ((d.getD 0 0).toNat : Int) = X0 at *
            generalize ((d.getD 1 0).toNat : Int) = X1 at *
            generalize ((d.getD 3 0).toNat : Int) = X3 at *
            go_quiet (fail)
            obtain ⟨W4, hW4⟩ : ∃ W4, W3.drewN nq = W4 := ⟨_, rfl⟩
            have HX4 : Hid (W4.heap[w.heap.size]? = some (.cells #[.int .i64 0, .int .i64 0, .string ⟨#[]⟩] 35 (0, 0))) := by rw [← hW4]; exact HX3.out
            have B4 : Hid (Below w.heap.size w W4) := by rw [← hW4]; exact bel_drewZ nq B3.out
            have HR4 : Hid (BR W4 (some ⟨g, o + A, none⟩) d) := by rw [← hW4]; exact HR3.out.drewN nq
            rw [hW4]
            clear hW4 f0 f1 f2 q0 q1 q2
            have f0 := (cellsZ HX4.out).2 0
            have f1 := (cellsZ HX4.out).2 1
            have f2 := (cellsZ HX4.out).2 2
            obtain ⟨q0, q1, q2⟩ := RBX_new (t := []) HX4.out
            go_wp2_with fail
            refine bodyPost_ret (res_drd _ _ w.heap.size 0 0 [] _ _ ⟨rfl, rfl, rfl⟩ (RBX_new (put3w _ _ _ HX4.out))) rfl ?_
            exact rdq_no hE1 (by decide) rfl (bel3 B4.out (Nat.le_refl _) _ _ _)
          · have e0 := bneY m0
            have e1 := bneN m1
            clear m0 m1 hmk c3
            rw [show ((82 : UInt8).toNat : Int) = 82 from rfl] at e0
            rw [show ((76 : UInt8).toNat : Int) = 76 from rfl] at e1
            generalize ((d.getD 0 0).toNat : Int) = X0 at *
            generalize ((d.getD 1 0).toNat : Int) = X1 at *
            go_quiet (fail)
            obtain ⟨W4, hW4⟩ : ∃ W4, W3.drewN nq = W4 := ⟨_, rfl⟩
            have HX4 : Hid (W4.heap[w.heap.size]? = some (.cells #[.int .i64 0, .int .i64 0, .string ⟨#[]⟩] 35 (0, 0))) := by rw [← hW4]; exact HX3.out
            have B4 : Hid (Below w.heap.size w W4) := by rw [← hW4]; exact bel_drewZ nq B3.out
            have HR4 : Hid (BR W4 (some ⟨g, o + A, none⟩) d) := by rw [← hW4]; exact HR3.out.drewN nq
            rw [hW4]
            clear hW4 f0 f1 f2 q0 q1 q2
            have f0 := (cellsZ HX4.out).2 0
            have f1 := (cellsZ HX4.out).2 1
            have f2 := (cellsZ HX4.out).2 2
            obtain ⟨q0, q1, q2⟩ := RBX_new (t := []) HX4.out
            go_wp2_with fail
            refine bodyPost_ret (res_drd _ _ w.heap.size 0 0 [] _ _ ⟨rfl, rfl, rfl⟩ (RBX_new (put3w _ _ _ HX4.out))) rfl ?_
            exact rdq_no hE1 (by decide) rfl (bel3 B4.out (Nat.le_refl _) _ _ _)
        · have e0 := bneN m0
          clear m0 hmk c1 c3
          rw [show ((82 : UInt8).toNat : Int) = 82 from rfl] at e0
          generalize ((d.getD 0 0).toNat : Int) = X0 at *
          go_quiet (fail)
          obtain ⟨W4, hW4⟩ : ∃ W4, W3.drewN nq = W4 := ⟨_, rfl⟩
          have HX4 : Hid (W4.heap[w.heap.size]? = some (.cells #[.int .i64 0, .int .i64 0, .string ⟨#[]⟩] 35 (0, 0))) := by rw [← hW4]; exact HX3.out
          have B4 : Hid (Below w.heap.size w W4) := by rw [← hW4]; exact bel_drewZ nq B3.out
          have HR4 : Hid (BR W4 (some ⟨g, o + A, none⟩) d) := by rw [← hW4]; exact HR3.out.drewN nq
          rw [hW4]
          clear hW4 f0 f1 f2 q0 q1 q2
          have f0 := (cellsZ HX4.out).2 0
          have f1 := (cellsZ HX4.out).2 1
          have f2 := (cellsZ HX4.out).2 2
          obtain ⟨q0, q1, q2⟩ := RBX_new (t := []) HX4.out
          go_wp2_with fail
          refine bodyPost_ret (res_drd _ _ w.heap.size 0 0 [] _ _ ⟨rfl, rfl, rfl⟩ (RBX_new (put3w _ _ _ HX4.out))) rfl ?_
          exact rdq_no hE1 (by decide) rfl (bel3 B4.out (Nat.le_refl _) _ _ _)
end Go.Proofs.YtkmnonkabekclaaDoor

import Derived.Test.YtjbfkknpkldhjabIC
import Derived.Test.YtjbfkknpkldhjabLK
import Derived.LoopNIn
namespace Go.Proofs.Ytjbfkknpkldhjab
open Go.RowKit Go.Shelf
attribute [local go_sem] Oper.semAt_some
set_option maxRecDepth 100000 in
set_option maxHeartbeats 16000000 in
theorem ledgerWalks_walk (D : List UInt8) (p : Option Addr) (n c : Nat) (x1 : Int) (w : World) (hn : D.length = n) (hc : n ≤ c) (hr : BR w p D) (_ : (Lit.int .i64 x1).wf = true) :
    Calls Try.prog 4 #[.slice p n c, .int .i64 x1] w fun e w' => e = .returned (.bool true) ∧ Below w.heap.size w w' := by
  have HR : Hid (BR w p D) := hr
  have HN : Hid (D.length = n) := hn
  clear hr hn
  obtain ⟨S, hS⟩ : ∃ S, w.heap.size = S := ⟨_, rfl⟩
  obtain ⟨w0, hw0⟩ : ∃ w0, (w.alloc (.cells #[.int .i64 x1] 3)).alloc (.cells #[.bool false] 4) = w0 := ⟨_, rfl⟩
  have HW0 : Hid (w0.heap[S]? = some (.cells #[.int .i64 x1] 3 (0, 0)) ∧ w0.heap[S + 1]? = some (.cells #[.bool false] 4 (0, 0)) ∧ Below w.heap.size w w0) := by
    have k0 := alloc_getZ w (.cells #[.int .i64 x1] 3)
    have k1 := alloc_getZ (w.alloc (.cells #[.int .i64 x1] 3)) (.cells #[.bool false] 4)
    simp only [World.size_alloc, hS] at k0 k1
    rw [← hw0]
    exact ⟨keepZ (belAZ (Below.refl _ _) _) k0, k1, belAZ (belAZ (Below.refl _ _) _) _⟩
  refine (callsIn_wide (n := 8)).1 ?_
  refine callsIn_of_wp_marks Try.func4 rfl trivial ?_ rfl
  simp only [Try.ntmps4, List.size_toArray, List.length_cons, List.length_nil, Nat.reduceAdd, Nat.reduceSub, Array.replicate_succ, Array.replicate_zero, List.push_toArray, List.append_toArray, List.nil_append, List.cons_append]
  by_cases h1 : 200000 < n
  · have h1' : (200000 : Int) < (n : Int) := by omega
    obtain ⟨cr1, cr2⟩ := cellsZ HW0.out.2.1
    have HRT : Hid ((w0.setCell ⟨S + 1, 0, none⟩ (.bool true)).heap[S + 1]? = some (.cells #[.bool true] 4 (0, 0)) ∧ Below w.heap.size w (w0.setCell ⟨S + 1, 0, none⟩ (.bool true))) := ⟨by rw [set_getZ _ HW0.out.2.1]; rfl, HW0.out.2.2.setCell (p := ⟨S + 1, 0, none⟩) (by show w.heap.size ≤ S + 1; omega) _⟩
    gi_wp2_with fail
    exact ⟨_, res_boolZ _ _ (S + 1) true rfl rfl HRT.out.1, rfl, HRT.out.2⟩
  have h1' : ¬ (200000 : Int) < (n : Int) := by omega
  gi_wp2_with fail
  refine ⟨trivial, (callsIn_wide.2 (fixed_any _)).mono ?_⟩
  rintro e w1 ⟨rfl, b1⟩
  have HW1 : Hid (w1.heap[S]? = some (.cells #[.int .i64 x1] 3 (0, 0)) ∧ w1.heap[S + 1]? = some (.cells #[.bool false] 4 (0, 0)) ∧ Below w.heap.size w w1) := ⟨keepZ b1 HW0.out.1, keepZ b1 HW0.out.2.1, bel0Z HW0.out.2.2 b1⟩
  clear b1 HW0 hw0
  have HWH := dwhole_any D p n c w1 HN.out (by omega) hc (HR.out.below HW1.out.2.2)
  obtain ⟨L, hL⟩ : ∃ L, whL 1 D = L := ⟨_, rfl⟩
  obtain ⟨NL, hNL⟩ : ∃ NL, L.length = NL := ⟨_, rfl⟩
  have hlb : NL ≤ 200000 := by
    have h5 := plc_len (D := D) (k := (whL 1 D).length) (Nat.le_refl _)
    have h6 := plc_le (D := D) (k := (whL 1 D).length) (Nat.le_refl _)
    rw [HN.out] at h6
    rw [hL, hNL] at h5 h6
    omega
  have HWQ : Hid (Calls Try.prog 11 #[.slice p n c] w1 fun e w' => ∃ (pw : Option Addr) (cw : Nat) (E1 E2 : Int), e = .returned (.tuple #[.slice pw NL cw, .int .i64 E1, .int .i64 E2]) ∧ RR w' pw L ∧ Below w1.heap.size w1 w') := by
    refine HWH.mono ?_
    rintro e w' ⟨v, h1, h2, h3⟩
    obtain ⟨p, c, rfl⟩ := h2.shape
    rw [hL, hNL] at h1
    rw [hL] at h2
    exact ⟨p, c, _, _, h1, h2.rr, h3⟩
  have HL : Hid (whL 1 D = L ∧ L.length = NL) := ⟨hL, hNL⟩
  clear hL hNL HWH
  gi_wp2_with fail
  refine ⟨trivial, (callsIn_wide.2 HWQ.out).mono ?_⟩
  rintro e w2 ⟨pw, cw, E1, E2, rfl, hrr, b2⟩
  gi_wp2_with fail
  refine ⟨trivial, (callsIn_wide.2 (walk_any p n c _)).mono ?_⟩
  rintro e w3 ⟨rfl, hw3⟩
  obtain ⟨B, hB⟩ : ∃ B, w2.heap.size = B := ⟨_, rfl⟩
  have hsn := seq_nilZ
  gi_wp2_with fail
  clear hsn
  obtain ⟨wc, hwc⟩ : ∃ wc, ((w2.alloc (.cells #[.slice pw NL cw] 33 (0, 0))).alloc (.cells #[.slice p n c] 22 (0, 0))).alloc (.cells #[.int .i64 0] 3 (0, 0)) = wc := ⟨_, rfl⟩
  have HF0 : Hid (BW D L NL x1 S (S + 1) B (B + 1) pw cw p n c wc ∧ Below w.heap.size w wc ∧ wc.heap[B + 1 + 1]? = some (.cells #[.int .i64 0] 3 (0, 0)) ∧ wc.heap.size = B + 1 + 1 + 1) := by
    have k0 := alloc_getZ w2 (.cells #[.slice pw NL cw] 33 (0, 0))
    have k1 := alloc_getZ (w2.alloc (.cells #[.slice pw NL cw] 33 (0, 0))) (.cells #[.slice p n c] 22 (0, 0))
    have k2 := alloc_getZ ((w2.alloc (.cells #[.slice pw NL cw] 33 (0, 0))).alloc (.cells #[.slice p n c] 22 (0, 0))) (.cells #[.int .i64 0] 3 (0, 0))
    simp only [World.size_alloc, hB] at k0 k1 k2
    have bb : Below w2.heap.size w2 wc := by rw [← hwc]; exact belAZ (belAZ (belAZ (Below.refl _ _) _) _) _
    have b3 := bel0Z b2 bb
    have b4 := bel0Z HW1.out.2.2 b3
    refine ⟨⟨keepZ b3 HW1.out.1, keepZ b3 HW1.out.2.1, ?_, ?_, hrr.below bb, HR.out.below b4⟩, b4, by rw [← hwc]; exact k2, by rw [← hwc]; simp [hB]⟩
    · rw [← hwc]; exact keepZ (belAZ (Below.refl _ _) _) k1
    · rw [← hwc]; exact keepZ (belAZ (belAZ (Below.refl _ _) _) _) k0
  clear hrr b2 HWQ HW1 HR
  rw [hwc]
  clear hwc hB hw3
  have HSB : Hid (S + 1 < B + 1 + 1 + 1 ∧ w.heap.size = S) := ⟨by have h9 := lt_getZ HF0.out.1.r; rw [HF0.out.2.2.2] at h9; exact h9, hS⟩
  obtain ⟨hb1, -⟩ := HSB.out
  clear hS
  refine wpIn_loop_rounds 3 ?_
  rw [roundsIn_succ]
  generalize hK1 : Code.roundsIn _ _ _ _ _ 2 = K1
  have HK1 : Hid (_ = K1) := hK1
  clear hK1
  obtain ⟨bk, hbk⟩ : ∃ s, wc.heap.size = s := ⟨_, rfl⟩
  have HBE : Hid (∀ W, Below wc.heap.size wc W → BW D L NL x1 S (S + 1) B (B + 1) pw cw p n c W) := fun W h => HF0.out.1.below h
  have HSZ : Hid (S + 1 < bk ∧ B + 1 < bk ∧ (B + 1 + 1) < bk) := ⟨by have := lt_getZ HF0.out.1.r; omega, by have := lt_getZ HF0.out.1.d; omega, by have := lt_getZ HF0.out.2.2.1; omega⟩
  obtain ⟨z1, z2, z3⟩ := HSZ.out
  have hcn := (cellsZ HF0.out.2.2.1).1 0
  gi_wp2_with fail
  clear hcn
  refine range_by1 (id := 2) rfl (by omega) (gf := 22) (lb := #[.pointer (some ⟨B + 1, 0, none⟩)]) rfl trivial (enters_of Try.func22 (by kernel_rfl) rfl) (fun _ _ h => wpIn_exit h) ?_
  intro fn hfn
  simp only [World.size_alloc, hbk]
  generalize hR : recOf fn _ _ _ _ _ = R
  have rs : R.state = .ready := by rw [← hR]; rfl
  have rp : R.pending = none := by rw [← hR]; rfl
  have rf : R.fn = fn := by rw [← hR]; rfl
  have rq : R.params = #[36, 37] := by rw [← hR]; rfl
  obtain ⟨X, hX⟩ : ∃ X, (((wc.alloc (.cells #[.int .i64 0] 3 (0, 0))).alloc (.cells #[.int .i64 0] 3 (0, 0))).alloc (.deferred (some []))).alloc (.loop R) = X := ⟨_, rfl⟩
  have q0 : CW wc bk (bk + 1) (bk + 1 + 1 + 1) R (bk + 1 + 1) (.deferred (some [])) D 0 X := by
    have k0 := alloc_getZ wc (.cells #[.int .i64 0] 3 (0, 0))
    have k1 := alloc_getZ (wc.alloc (.cells #[.int .i64 0] 3 (0, 0))) (.cells #[.int .i64 0] 3 (0, 0))
    have k2 := alloc_getZ ((wc.alloc (.cells #[.int .i64 0] 3 (0, 0))).alloc (.cells #[.int .i64 0] 3 (0, 0))) (.deferred (some []))
    have k3 := alloc_getZ (((wc.alloc (.cells #[.int .i64 0] 3 (0, 0))).alloc (.cells #[.int .i64 0] 3 (0, 0))).alloc (.deferred (some []))) (.loop R)
    simp only [World.size_alloc, hbk] at k0 k1 k2 k3
    rw [← hX]
    exact ⟨keepZ (belAZ (belAZ (belAZ (Below.refl _ _) _) _) _) k0, keepZ (belAZ (belAZ (Below.refl _ _) _) _) k1, k3, keepZ (belAZ (Below.refl _ _) _) k2, belAZ (belAZ (belAZ (belAZ (Below.refl _ _) _) _) _) _⟩
  rw [hX]
  clear hX
  have HY : ∀ k r W, (whL 1 D)[k]? = some r → (CW wc bk (bk + 1) (bk + 1 + 1 + 1) R (bk + 1 + 1) (.deferred (some [])) D k W ∧ (k = 0 ∨ ((k : Nat) : Int) < x1)) → YieldAt Fence.wide (7 - 1) Try.prog (bk + 1 + 1 + 1) #[.int .i64 (plc D k : Int), rcV r] W fun e W' => (e = .returned (.bool true) ∧ (CW wc bk (bk + 1) (bk + 1 + 1 + 1) R (bk + 1 + 1) (.deferred (some [])) D (k + 1) W' ∧ ((k + 1) = 0 ∨ (((k + 1) : Nat) : Int) < x1))) ∨ (e = .returned (.bool false) ∧ (∃ (ra : Loop) (kf : Nat), ra.state = .done ∧ ra.pending = some (.exit 2) ∧ CW wc bk (bk + 1) (bk + 1 + 1 + 1) ra (bk + 1 + 1) (.deferred (some [])) D kf W' ∧ ((kf : Int) = x1 ∨ (kf = 1 ∧ x1 ≤ 0)) ∧ kf ≤ NL)) := by
    rintro k r W hkr ⟨q, hprd⟩
    have hpl := plc_step hkr
    have hk : k < NL := by rw [← HL.out.2, ← HL.out.1]; exact (List.getElem?_eq_some_iff.1 hkr).1
    have hple : plc D (k + 1) ≤ n := by rw [← HN.out]; exact plc_le (by rw [HL.out.1, HL.out.2]; omega)
    rw [HL.out.1] at hkr
    obtain ⟨rs1, rk1, rt1⟩ := r
    simp only [rcV]
    simp only at hpl
    obtain ⟨g, o2, hpw, hc0, hc1, hc2⟩ := HF0.out.1.mc k _ hkr
    simp only at hc0 hc1 hc2
    have HPR : Hid ((k = 0 ∨ ((k : Nat) : Int) < x1)) := hprd
    obtain ⟨a, ha⟩ : ∃ a, plc D k = a := ⟨_, rfl⟩
    obtain ⟨a1, ha1⟩ : ∃ a1, plc D (k + 1) = a1 := ⟨_, rfl⟩
    obtain ⟨tl, htl⟩ : ∃ tl, rt1.length = tl := ⟨_, rfl⟩
    obtain ⟨am, ham⟩ : ∃ am, a + tl = am := ⟨_, rfl⟩
    have HA : Hid (plc D k = a) := ha
    have HA1 : Hid (plc D (k + 1) = a1) := ha1
    rw [ha, ha1, htl] at hpl
    rw [ha1] at hple
    rw [ha]
    have u1 : (a : Int) + (tl : Int) = (am : Int) := by omega
    have u2 : (am : Int) + 20 = (a1 : Int) := by omega
    have u3 : IntKind.i64.wrap (am : Int) = (am : Int) := by rw [IntKind.wrap_i64]; omega
    have u4 : IntKind.i64.wrap (a1 : Int) = (a1 : Int) := by rw [IntKind.wrap_i64]; omega
    obtain ⟨W1, hW1⟩ : ∃ W1, W.alloc (.cells #[.int .i64 (rs1 : Int), .int .i64 (rk1 : Int), .string ⟨rt1.toArray⟩] 24 (0, 0)) = W1 := ⟨_, rfl⟩
    have hB1 : Below W.heap.size W W1 := by rw [← hW1]; exact belAZ (Below.refl _ _) _
    have hg1 : W1.heap[W.heap.size]? = some (.cells #[.int .i64 (rs1 : Int), .int .i64 (rk1 : Int), .string ⟨rt1.toArray⟩] 24 (0, 0)) := by rw [← hW1]; exact alloc_getZ _ _
    have q1 := q.below hB1
    have qb := q1.loop { R with state := .busy } (by omega) (by omega) (by omega) (by omega)
    clear hprd ha ha1 hpl hple ham
    refine (round_byA (F := Fence.wide) (m := 6) (In := fun W' => (CW wc bk (bk + 1) (bk + 1 + 1 + 1) R (bk + 1 + 1) (.deferred (some [])) D (k + 1) W' ∧ ((k + 1) = 0 ∨ (((k + 1) : Nat) : Int) < x1))) (Out := fun _ W' => (∃ (ra : Loop) (kf : Nat), ra.state = .done ∧ ra.pending = some (.exit 2) ∧ CW wc bk (bk + 1) (bk + 1 + 1 + 1) ra (bk + 1 + 1) (.deferred (some [])) D kf W' ∧ ((kf : Int) = x1 ∨ (kf = 1 ∧ x1 ≤ 0)) ∧ kf ≤ NL)) (by rw [rf]; exact hfn) q.lp rs rp (by rw [rq]; rfl) ?aQ0 W1 q1.lp ?hasQ0 ?hbQ0).mono ?_
    case hasQ0 =>
      intro K hK
      rw [congrArg Loop.assign hR.symm, rq, congrArg Loop.tmps hR.symm]
      simp only [recOf]
      gi_wp2
      exact hK
    case hbQ0 =>
      have hlW : bk + 1 + 1 + 1 < W.heap.size := lt_getZ q.lp
      have hgb : (W1.putObj (bk + 1 + 1 + 1) (.loop { R with state := .busy })).heap[W.heap.size]? = some (.cells #[.int .i64 (rs1 : Int), .int .i64 (rk1 : Int), .string ⟨rt1.toArray⟩] 24 (0, 0)) := put_otherZ hg1 (by omega)
      obtain ⟨V, hV⟩ : ∃ V, W1.putObj (bk + 1 + 1 + 1) (.loop { R with state := .busy }) = V := ⟨_, rfl⟩
      rw [hV] at qb hgb ⊢
      rw [congrArg Loop.body hR.symm]
      simp only [recOf]
      obtain ⟨rb, hrb⟩ : ∃ s, W.heap.size = s := ⟨_, rfl⟩
      rw [hrb] at hgb
      have HV : Hid (CW wc bk (bk + 1) (bk + 1 + 1 + 1) { R with state := .busy } (bk + 1 + 1) (.deferred (some [])) D k V) := qb
      have HG : Hid (V.heap[rb]? = some (.cells #[.int .i64 (rs1 : Int), .int .i64 (rk1 : Int), .string ⟨rt1.toArray⟩] 24 (0, 0))) := hgb
      have HRC : Hid (∀ U, Below wc.heap.size wc U → U.cell? ⟨B, 0, none⟩ = some (.slice (some ⟨g, o2, none⟩) NL cw) ∧ U.cell? ⟨g, o2 + k * 3, none⟩ = some (.int .i64 (rs1 : Int)) ∧ U.cell? ⟨g, o2 + k * 3 + 1, none⟩ = some (.int .i64 (rk1 : Int)) ∧ U.cell? ⟨g, o2 + k * 3 + 2, none⟩ = some (.string ⟨rt1.toArray⟩)) := fun U hU =>
        ⟨by rw [← hpw]; exact (cellsZ (keepZ hU HF0.out.1.m)).1 0, (hU.cell (World.block_lt_of_cell? wc _ hc0)).trans hc0, (hU.cell (World.block_lt_of_cell? wc _ hc1)).trans hc1, (hU.cell (World.block_lt_of_cell? wc _ hc2)).trans hc2⟩
      clear hV hW1 hB1 hg1 q1 qb hgb hlW q hkr hc0 hc1 hc2 hpw
      rw [hrb]
      have HK : Hid (∀ U, Below V.heap.size V U → U.cell? ⟨bk, 0, none⟩ = some (.int .i64 (k : Int)) ∧ U.cell? ⟨B, 0, none⟩ = some (.slice (some ⟨g, o2, none⟩) NL cw) ∧ (∀ j, U.cell? ⟨rb, j, none⟩ = (#[.int .i64 (rs1 : Int), .int .i64 (rk1 : Int), .string ⟨rt1.toArray⟩] : Array Value)[j]?) ∧ U.cell? ⟨g, o2 + k * 3, none⟩ = some (.int .i64 (rs1 : Int)) ∧ U.cell? ⟨g, o2 + k * 3 + 1, none⟩ = some (.int .i64 (rk1 : Int)) ∧ U.cell? ⟨g, o2 + k * 3 + 2, none⟩ = some (.string ⟨rt1.toArray⟩) ∧ U.cell? ⟨bk + 1, 0, none⟩ = some (.int .i64 (a : Int))) := fun U hU => by
        obtain ⟨y1, y2, y3, y4⟩ := HRC.out U (bel0Z HV.out.be hU)
        exact ⟨(cellsZ (keepZ hU HV.out.bx)).1 0, y1, (cellsZ (keepZ hU HG.out)).1, y2, y3, y4, by rw [← HA.out]; exact (cellsZ (keepZ hU HV.out.px)).1 0⟩
      have i0 : (0 : Int) ≤ (k : Int) := by omega
      have i1 : (k : Int) < (NL : Int) := by omega
      have i2 : ¬ (k : Int) ≥ (NL : Int) := by omega
      gi_wp2_with fail
      refine quiet_in3 (C := fun U => Below V.heap.size V U) (by kernel_rfl) (by kernel_rfl) (by kernel_rfl) (show Below _ _ _ from (Below.refl _ _).drew) ?_
      go_big_quiet_want
      refine ⟨.int .i64 (k : Int), fun W hW => ?_, ?_⟩
      · obtain ⟨s1, s2, s3, s4, s5, s6, s7⟩ := HK.out W hW
        go_simp
      go_big_quiet_on
      simp only [Act.put, List.setIfInBounds_toArray, List.set_cons_zero, List.set_cons_succ]
      go_big_quiet_want
      refine ⟨.slice (some ⟨g, o2, none⟩) NL cw, fun W hW => ?_, ?_⟩
      · obtain ⟨s1, s2, s3, s4, s5, s6, s7⟩ := HK.out W hW
        go_simp
      go_big_quiet_on
      simp only [Act.put, List.setIfInBounds_toArray, List.set_cons_zero, List.set_cons_succ]
      go_big_quiet_want
      refine ⟨.int .i64 (NL : Int), fun W hW => ?_, ?_⟩
      · go_simp
      go_big_quiet_on
      simp only [Act.put, List.setIfInBounds_toArray, List.set_cons_zero, List.set_cons_succ]
      go_big_quiet_want
      refine ⟨.bool false, fun W hW => ?_, ?_⟩
      · go_simp
      go_big_quiet_on
      simp only [Act.put, List.setIfInBounds_toArray, List.set_cons_zero, List.set_cons_succ]
      go_big_quiet_want
      go_big_quiet_op
      go_big_quiet_on
      go_big_quiet_want
      refine ⟨.int .i64 (a : Int), fun W hW => ?_, ?_⟩
      · go_simp
      go_big_quiet_on
      simp only [Act.put, List.setIfInBounds_toArray, List.set_cons_zero, List.set_cons_succ]
      go_big_quiet_want
      refine ⟨.int .i64 (a : Int), fun W hW => ?_, ?_⟩
      · obtain ⟨s1, s2, s3, s4, s5, s6, s7⟩ := HK.out W hW
        go_simp
      go_big_quiet_on
      simp only [Act.put, List.setIfInBounds_toArray, List.set_cons_zero, List.set_cons_succ]
      go_big_quiet_want
      refine ⟨.bool false, fun W hW => ?_, ?_⟩
      · go_simp
      go_big_quiet_on
      simp only [Act.put, List.setIfInBounds_toArray, List.set_cons_zero, List.set_cons_succ]
      go_big_quiet_want
      refine ⟨.bool false, fun W hW => ?_, ?_⟩
      · go_simp
      go_big_quiet_on
      simp only [Act.put, List.setIfInBounds_toArray, List.set_cons_zero, List.set_cons_succ]
      go_big_quiet_want
      go_big_quiet_op
      go_big_quiet_on
      go_big_quiet_want
      refine ⟨.agg #[.int .i64 (rs1 : Int), .int .i64 (rk1 : Int), .string ⟨rt1.toArray⟩], fun W hW => ?_, ?_⟩
      · obtain ⟨s1, s2, s3, s4, s5, s6, s7⟩ := HK.out W hW
        go_simp
      go_big_quiet_on
      simp only [Act.put, List.setIfInBounds_toArray, List.set_cons_zero, List.set_cons_succ]
      go_big_quiet_want
      refine ⟨.slice (some ⟨g, o2, none⟩) NL cw, fun W hW => ?_, ?_⟩
      · obtain ⟨s1, s2, s3, s4, s5, s6, s7⟩ := HK.out W hW
        go_simp
      go_big_quiet_on
      simp only [Act.put, List.setIfInBounds_toArray, List.set_cons_zero, List.set_cons_succ]
      go_big_quiet_want
      refine ⟨.int .i64 (k : Int), fun W hW => ?_, ?_⟩
      · obtain ⟨s1, s2, s3, s4, s5, s6, s7⟩ := HK.out W hW
        go_simp
      go_big_quiet_on
      simp only [Act.put, List.setIfInBounds_toArray, List.set_cons_zero, List.set_cons_succ]
      go_big_quiet_want
      refine ⟨.pointer (some ⟨g, o2 + k * 3, none⟩), fun W hW => ?_, ?_⟩
      · go_simp
      go_big_quiet_on
      simp only [Act.put, List.setIfInBounds_toArray, List.set_cons_zero, List.set_cons_succ]
      go_big_quiet_want
      refine ⟨.agg #[.int .i64 (rs1 : Int), .int .i64 (rk1 : Int), .string ⟨rt1.toArray⟩], fun W hW => ?_, ?_⟩
      · obtain ⟨s1, s2, s3, s4, s5, s6, s7⟩ := HK.out W hW
        go_simp
      go_big_quiet_on
      simp only [Act.put, List.setIfInBounds_toArray, List.set_cons_zero, List.set_cons_succ]
      go_big_quiet_want
      refine ⟨.bool false, fun W hW => ?_, ?_⟩
      · go_simp
      go_big_quiet_on
      simp only [Act.put, List.setIfInBounds_toArray, List.set_cons_zero, List.set_cons_succ]
      go_big_quiet_want
      refine ⟨.bool false, fun W hW => ?_, ?_⟩
      · go_simp
      go_big_quiet_on
      simp only [Act.put, List.setIfInBounds_toArray, List.set_cons_zero, List.set_cons_succ]
      refine wpQuiet_nil ?_
      intro W5 hW5
      have HM5 : Hid (CW wc bk (bk + 1) (bk + 1 + 1 + 1) { R with state := .busy } (bk + 1 + 1) (.deferred (some [])) D k W5) := HV.out.below hW5
      have HG5 : Hid (W5.heap[rb]? = some (.cells #[.int .i64 (rs1 : Int), .int .i64 (rk1 : Int), .string ⟨rt1.toArray⟩] 24 (0, 0))) := keepZ hW5 HG.out
      clear hW5 HK HV HG i2
      have HK : Hid (∀ U, Below W5.heap.size W5 U → U.cell? ⟨bk, 0, none⟩ = some (.int .i64 (k : Int)) ∧ U.cell? ⟨B, 0, none⟩ = some (.slice (some ⟨g, o2, none⟩) NL cw) ∧ (∀ j, U.cell? ⟨rb, j, none⟩ = (#[.int .i64 (rs1 : Int), .int .i64 (rk1 : Int), .string ⟨rt1.toArray⟩] : Array Value)[j]?) ∧ U.cell? ⟨g, o2 + k * 3, none⟩ = some (.int .i64 (rs1 : Int)) ∧ U.cell? ⟨g, o2 + k * 3 + 1, none⟩ = some (.int .i64 (rk1 : Int)) ∧ U.cell? ⟨g, o2 + k * 3 + 2, none⟩ = some (.string ⟨rt1.toArray⟩) ∧ U.cell? ⟨bk + 1, 0, none⟩ = some (.int .i64 (a : Int))) := fun U hU => by
        obtain ⟨y1, y2, y3, y4⟩ := HRC.out U (bel0Z HM5.out.be hU)
        exact ⟨(cellsZ (keepZ hU HM5.out.bx)).1 0, y1, (cellsZ (keepZ hU HG5.out)).1, y2, y3, y4, by rw [← HA.out]; exact (cellsZ (keepZ hU HM5.out.px)).1 0⟩
      gi_wp2_with fail
      refine quiet_lastIn (C := fun U => Below W5.heap.size W5 U) (by kernel_rfl) (by kernel_rfl) (by kernel_rfl) (by kernel_rfl) (by kernel_rfl) (show Below _ _ _ from (Below.refl _ _).drew) ?_
      simp only [List.dropLast_cons_cons, List.dropLast_singleton]
      go_big_quiet_want
      refine ⟨.int .i64 (a : Int), fun W hW => ?_, ?_⟩
      · obtain ⟨s1, s2, s3, s4, s5, s6, s7⟩ := HK.out W hW
        go_simp
      go_big_quiet_on
      simp only [Act.put, List.setIfInBounds_toArray, List.set_cons_zero, List.set_cons_succ]
      go_big_quiet_want
      refine ⟨.slice (some ⟨g, o2, none⟩) NL cw, fun W hW => ?_, ?_⟩
      · obtain ⟨s1, s2, s3, s4, s5, s6, s7⟩ := HK.out W hW
        go_simp
      go_big_quiet_on
      simp only [Act.put, List.setIfInBounds_toArray, List.set_cons_zero, List.set_cons_succ]
      go_big_quiet_want
      refine ⟨.int .i64 (k : Int), fun W hW => ?_, ?_⟩
      · obtain ⟨s1, s2, s3, s4, s5, s6, s7⟩ := HK.out W hW
        go_simp
      go_big_quiet_on
      simp only [Act.put, List.setIfInBounds_toArray, List.set_cons_zero, List.set_cons_succ]
      go_big_quiet_want
      refine ⟨.pointer (some ⟨g, o2 + k * 3, none⟩), fun W hW => ?_, ?_⟩
      · go_simp
      go_big_quiet_on
      simp only [Act.put, List.setIfInBounds_toArray, List.set_cons_zero, List.set_cons_succ]
      go_big_quiet_want
      refine ⟨.pointer (some ⟨g, o2 + k * 3 + 2, none⟩), fun W hW => ?_, ?_⟩
      · go_simp
      go_big_quiet_on
      simp only [Act.put, List.setIfInBounds_toArray, List.set_cons_zero, List.set_cons_succ]
      go_big_quiet_want
      refine ⟨.string ⟨rt1.toArray⟩, fun W hW => ?_, ?_⟩
      · obtain ⟨s1, s2, s3, s4, s5, s6, s7⟩ := HK.out W hW
        go_simp
      go_big_quiet_on
      simp only [Act.put, List.setIfInBounds_toArray, List.set_cons_zero, List.set_cons_succ]
      go_big_quiet_want
      refine ⟨.int .i64 (tl : Int), fun W hW => ?_, ?_⟩
      · go_simp
      go_big_quiet_on
      simp only [Act.put, List.setIfInBounds_toArray, List.set_cons_zero, List.set_cons_succ]
      go_big_quiet_want
      refine ⟨.int .i64 (am : Int), fun W hW => ?_, ?_⟩
      · go_simp
      go_big_quiet_on
      simp only [Act.put, List.setIfInBounds_toArray, List.set_cons_zero, List.set_cons_succ]
      go_big_quiet_want
      refine ⟨.int .i64 (a1 : Int), fun W hW => ?_, ?_⟩
      · go_simp
      go_big_quiet_on
      simp only [Act.put, List.setIfInBounds_toArray, List.set_cons_zero, List.set_cons_succ]
      refine wpQuiet_nil ?_
      intro W6 hW6
      refine wpOpIn_go rfl rfl ?_
      have HM6 : Hid (CW wc bk (bk + 1) (bk + 1 + 1 + 1) { R with state := .busy } (bk + 1 + 1) (.deferred (some [])) D k W6) := HM5.out.below hW6
      clear hW6 HK HM5 HG5 HRC
      obtain ⟨c6, f6⟩ := cellsZ HM6.out.px
      go_simp
      clear c6 f6
      obtain ⟨k1, hk1⟩ : ∃ k1 : Nat, k + 1 = k1 := ⟨_, rfl⟩
      have Hk1 : Hid (k + 1 = k1) := hk1
      have i3 : (k : Int) + 1 = (k1 : Int) := by omega
      have i4 : IntKind.i64.wrap (k1 : Int) = (k1 : Int) := by rw [IntKind.wrap_i64]; omega
      have i5 : k1 ≤ NL := by omega
      clear hk1
      have h7 : (W6.setCell ⟨bk + 1, 0, none⟩ (.int .i64 (a1 : Int))).heap[bk]? = some (.cells #[.int .i64 (k : Int)] 3 (0, 0)) := (Below.heap_setCell _ _ _ _ (by show bk ≠ bk + 1; omega)).trans HM6.out.bx
      obtain ⟨W7, hW7⟩ : ∃ W7, W6.setCell ⟨bk + 1, 0, none⟩ (.int .i64 (a1 : Int)) = W7 := ⟨_, rfl⟩
      rw [hW7] at h7 ⊢
      obtain ⟨c7, f7⟩ := cellsZ h7
      obtain ⟨W8, hW8⟩ : ∃ W8, W7.setCell ⟨bk, 0, none⟩ (.int .i64 (k1 : Int)) = W8 := ⟨_, rfl⟩
      have HM8 : Hid (CW wc bk (bk + 1) (bk + 1 + 1 + 1) { R with state := .busy } (bk + 1 + 1) (.deferred (some [])) D k1 W8) := by
        have h9 := HM6.out.set (by omega) (by omega) (by omega) (by omega) (by omega) (by omega) (by omega) k1
        rw [show plc D k1 = a1 by rw [← Hk1.out]; exact HA1.out, hW7, hW8] at h9
        exact h9
      clear hW7 h7
      have c8 := (cellsZ HM8.out.bx).1 0
      have u8 := (cellsZ (HBE.out _ HM8.out.be).u).1 0
      have n8 := (cellsZ (keepZ HM8.out.be HF0.out.2.2.1)).1 0
      obtain ⟨tb, h9'⟩ : ∃ tb, decide ((k1 : Int) ≥ x1) = tb := ⟨_, rfl⟩
      have H9 : Hid (tb = decide ((k1 : Int) ≥ x1)) := h9'.symm
      by_cases h9 : (k1 : Int) ≥ x1
      · clear h9'
        gi_wp2_with fail
        refine ⟨HM8.out.lp, _, k1, rfl, rfl, HM8.out.loop _ (by omega) (by omega) (by omega) (by omega), ?_, i5⟩
        rcases HPR.out with h | h
        · have := Hk1.out; omega
        · have := Hk1.out; omega
      · clear h9'
        gi_wp2_with fail
        refine ⟨HM8.out.lp, ?_⟩
        rw [Hk1.out]
        exact HM8.out.loop R (by omega) (by omega) (by omega) (by omega)
    rintro e W' (⟨he, h1⟩ | ⟨he, c, h⟩)
    · exact .inl ⟨he, h1⟩
    · exact .inr ⟨he, h⟩
  refine (walk1_in 7 (by omega) (bk + 1 + 1 + 1) (B + 1) D p n c HN.out (by omega) hc (fun k W => CW wc bk (bk + 1) (bk + 1 + 1 + 1) R (bk + 1 + 1) (.deferred (some [])) D k W ∧ (k = 0 ∨ ((k : Nat) : Int) < x1)) (fun W' => ∃ (ra : Loop) (kf : Nat), ra.state = .done ∧ ra.pending = some (.exit 2) ∧ CW wc bk (bk + 1) (bk + 1 + 1 + 1) ra (bk + 1 + 1) (.deferred (some [])) D kf W' ∧ ((kf : Int) = x1 ∨ (kf = 1 ∧ x1 ≤ 0)) ∧ kf ≤ NL) X (fun k W W' h hb => ⟨h.1.below hb, h.2⟩) (fun k W h => ⟨(cellsZ (HBE.out W h.1.be).d).1 0, (HBE.out W h.1.be).dc⟩) HY ⟨q0, .inl rfl⟩).mono ?_
  rintro e Wa ⟨hv, hq⟩
  refine ⟨hv, ?_⟩
  have COM : ∃ (ra : Loop) (kf : Nat), ra.state ≠ .busy ∧ (ra.pending = none ∨ ra.pending = some (.exit 2)) ∧ Hid (CW wc bk (bk + 1) (bk + 1 + 1 + 1) ra (bk + 1 + 1) (.deferred (some [])) D kf Wa) ∧ Hid (kf = NL ∨ (kf : Int) = x1 ∨ (kf = 1 ∧ x1 ≤ 0)) ∧ kf ≤ NL := by
    rcases hq with hq | ⟨ra, kf, h2, h3, h4, h5, h6⟩
    · rw [HL.out.1, HL.out.2] at hq
      exact ⟨R, NL, (fun e => by rw [rs] at e; cases e), .inl rp, hq.1, .inl rfl, Nat.le_refl _⟩
    · exact ⟨ra, kf, (fun e => by rw [h2] at e; cases e), .inr h3, h4, .inr h5, h6⟩
  obtain ⟨ra, kf, hr2, hr3, HC, HCK, hkl⟩ := COM
  refine ⟨ra, HC.out.lp, hr2, hr3, ?_⟩
  have vm := HC.out.loop { ra with state := .exhausted } (by omega) (by omega) (by omega) (by omega)
  obtain ⟨Va, hVa⟩ : ∃ Va, Wa.putObj (bk + 1 + 1 + 1) (.loop { ra with state := .exhausted }) = Va := ⟨_, rfl⟩
  rw [hVa] at vm ⊢
  have HVA : Hid (Va.heap[bk]? = some (.cells #[.int .i64 (kf : Int)] 3 (0, 0)) ∧ Va.heap[bk + 1 + 1]? = some (.deferred (some [])) ∧ Below wc.heap.size wc Va) := ⟨vm.bx, vm.d1, vm.be⟩
  clear hVa vm hr2 hr3 HC HY q0 hq hR rs rp rf rq hv
  gi_upto_region 23 with fail
  gi_cut [97] from 99 (fun v97 wz => v97 = .bool false ∧ Hid (wz.heap[bk + 1 + 1]? = some (.deferred (some [])) ∧ Below wc.heap.size wc wz))
  case first =>
    obtain ⟨d4, d5⟩ := cellsZ HVA.out.1
    have d2 := (cellsZ (HBE.out Va HVA.out.2.2).u).1 0
    have d3 := (cellsZ (HBE.out Va HVA.out.2.2).m).1 0
    have d6 := (cellsZ (keepZ HVA.out.2.2 HF0.out.2.2.1)).1 0
    by_cases hkn : (kf : Int) = (NL : Int)
    · have e1 : ((kf : Int) != (NL : Int)) = false := by simp [hkn]
      clear hkn
      gi_wp2_with fail
      gi_meet
      exact ⟨rfl, HVA.out.2⟩
    · have e1 : ((kf : Int) != (NL : Int)) = true := by simp [hkn]
      by_cases hkx : (kf : Int) = x1
      · have e2 : ((kf : Int) != x1) = false := by simp [hkx]
        clear hkn hkx
        gi_wp2_with fail
        gi_meet
        exact ⟨rfl, HVA.out.2⟩
      · have e2 : ((kf : Int) != x1) = true := by simp [hkx]
        have e3 : kf = 1 ∧ x1 ≤ 0 := by rcases HCK.out with h | h | h <;> omega
        obtain ⟨e4, e5⟩ := e3
        have e6 : ((kf : Int) != 1) = false := by simp [e4]
        have e7 : ¬ x1 > 0 := by omega
        clear hkn hkx e4 e5
        gi_wp2_with fail
        gi_meet
        exact ⟨rfl, HVA.out.2⟩
  case rest =>
    obtain ⟨rfl, HVZ⟩ := hcut
    rename World => Vz
    clear HVA HCK
    have d7 := (cellsZ (keepZ HVZ.out.2 HF0.out.2.2.1)).1 0
    gi_wp2_with fail
    obtain ⟨bn, hbn⟩ : ∃ s, Vz.heap.size = s := ⟨_, rfl⟩
    have HF1 : Hid (BW D L NL x1 S (S + 1) B (B + 1) pw cw p n c (Vz.alloc (.cells #[.int .i64 1] 3 (0, 0))) ∧ Below w.heap.size w (Vz.alloc (.cells #[.int .i64 1] 3 (0, 0))) ∧ (Vz.alloc (.cells #[.int .i64 1] 3 (0, 0))).heap[bn]? = some (.cells #[.int .i64 1] 3 (0, 0)) ∧ (Vz.alloc (.cells #[.int .i64 1] 3 (0, 0))).heap[bk + 1 + 1]? = some (.deferred (some [])) ∧ S + 1 < bk + 1 + 1 ∧ bk + 1 + 1 < bn) := by
      have b := belAZ (Below.refl Vz.heap.size Vz) (.cells #[.int .i64 1] 3 (0, 0))
      have e := alloc_getZ Vz (.cells #[.int .i64 1] 3 (0, 0))
      rw [hbn] at e
      exact ⟨(HBE.out Vz HVZ.out.2).below b, bel0Z (bel0Z HF0.out.2.1 HVZ.out.2) b, e, keepZ b HVZ.out.1, by omega, by rw [← hbn]; exact lt_getZ HVZ.out.1⟩
    rw [← HK1.out, roundsIn_succ]
    obtain ⟨wd, hwd⟩ : ∃ wd, Vz.alloc (.cells #[.int .i64 1] 3 (0, 0)) = wd := ⟨_, rfl⟩
    rw [hwd] at HF1
    rw [hwd, hbn]
    clear hwd hbn HVZ HBE HSZ z1 z2 z3 d7 hbk HF0 hkl hb1
    generalize hK2 : Code.roundsIn _ _ _ _ _ 1 = K2
    have HK2 : Hid (_ = K2) := hK2
    clear hK2 HK1
    obtain ⟨bq, hbq⟩ : ∃ s, wd.heap.size = s := ⟨_, rfl⟩
    have HBE : Hid (∀ W, Below wd.heap.size wd W → BW D L NL x1 S (S + 1) B (B + 1) pw cw p n c W) := fun W h => HF1.out.1.below h
    have HSZ : Hid (S + 1 < bq ∧ B + 1 < bq ∧ bn < bq) := ⟨by have := lt_getZ HF1.out.1.r; omega, by have := lt_getZ HF1.out.1.d; omega, by have := lt_getZ HF1.out.2.2.1; omega⟩
    obtain ⟨z1, z2, z3⟩ := HSZ.out
    have hcn := (cellsZ HF1.out.2.2.1).1 0
    gi_wp2_with fail
    clear hcn
    refine range_by1 (id := 2) rfl (by omega) (gf := 22) (lb := #[.pointer (some ⟨B + 1, 0, none⟩)]) rfl trivial (enters_of Try.func22 (by kernel_rfl) rfl) (fun _ _ h => wpIn_exit h) ?_
    intro fn hfn
    simp only [World.size_alloc, hbq]
    generalize hR : recOf fn _ _ _ _ _ = R
    have rs : R.state = .ready := by rw [← hR]; rfl
    have rp : R.pending = none := by rw [← hR]; rfl
    have rf : R.fn = fn := by rw [← hR]; rfl
    have rq : R.params = #[36, 37] := by rw [← hR]; rfl
    obtain ⟨X, hX⟩ : ∃ X, (((wd.alloc (.cells #[.int .i64 0] 3 (0, 0))).alloc (.cells #[.int .i64 0] 3 (0, 0))).alloc (.deferred (some []))).alloc (.loop R) = X := ⟨_, rfl⟩
    have q0 : CW wd bq (bq + 1) (bq + 1 + 1 + 1) R (bq + 1 + 1) (.deferred (some [])) D 0 X := by
      have k0 := alloc_getZ wd (.cells #[.int .i64 0] 3 (0, 0))
      have k1 := alloc_getZ (wd.alloc (.cells #[.int .i64 0] 3 (0, 0))) (.cells #[.int .i64 0] 3 (0, 0))
      have k2 := alloc_getZ ((wd.alloc (.cells #[.int .i64 0] 3 (0, 0))).alloc (.cells #[.int .i64 0] 3 (0, 0))) (.deferred (some []))
      have k3 := alloc_getZ (((wd.alloc (.cells #[.int .i64 0] 3 (0, 0))).alloc (.cells #[.int .i64 0] 3 (0, 0))).alloc (.deferred (some []))) (.loop R)
      simp only [World.size_alloc, hbq] at k0 k1 k2 k3
      rw [← hX]
      exact ⟨keepZ (belAZ (belAZ (belAZ (Below.refl _ _) _) _) _) k0, keepZ (belAZ (belAZ (Below.refl _ _) _) _) k1, k3, keepZ (belAZ (Below.refl _ _) _) k2, belAZ (belAZ (belAZ (belAZ (Below.refl _ _) _) _) _) _⟩
    rw [hX]
    clear hX
    have HY : ∀ k r W, (whL 1 D)[k]? = some r → (CW wd bq (bq + 1) (bq + 1 + 1 + 1) R (bq + 1 + 1) (.deferred (some [])) D k W ∧ True) → YieldAt Fence.wide (7 - 1) Try.prog (bq + 1 + 1 + 1) #[.int .i64 (plc D k : Int), rcV r] W fun e W' => (e = .returned (.bool true) ∧ (CW wd bq (bq + 1) (bq + 1 + 1 + 1) R (bq + 1 + 1) (.deferred (some [])) D (k + 1) W' ∧ True)) ∨ (e = .returned (.bool false) ∧ False) := by
      rintro k r W hkr ⟨q, hprd⟩
      have hpl := plc_step hkr
      have hk : k < NL := by rw [← HL.out.2, ← HL.out.1]; exact (List.getElem?_eq_some_iff.1 hkr).1
      have hple : plc D (k + 1) ≤ n := by rw [← HN.out]; exact plc_le (by rw [HL.out.1, HL.out.2]; omega)
      rw [HL.out.1] at hkr
      obtain ⟨rs1, rk1, rt1⟩ := r
      simp only [rcV]
      simp only at hpl
      obtain ⟨g, o2, hpw, hc0, hc1, hc2⟩ := HF1.out.1.mc k _ hkr
      simp only at hc0 hc1 hc2
      have HPR : Hid (True) := hprd
      obtain ⟨a, ha⟩ : ∃ a, plc D k = a := ⟨_, rfl⟩
      obtain ⟨a1, ha1⟩ : ∃ a1, plc D (k + 1) = a1 := ⟨_, rfl⟩
      obtain ⟨tl, htl⟩ : ∃ tl, rt1.length = tl := ⟨_, rfl⟩
      obtain ⟨am, ham⟩ : ∃ am, a + tl = am := ⟨_, rfl⟩
      have HA : Hid (plc D k = a) := ha
      have HA1 : Hid (plc D (k + 1) = a1) := ha1
      rw [ha, ha1, htl] at hpl
      rw [ha1] at hple
      rw [ha]
      have u1 : (a : Int) + (tl : Int) = (am : Int) := by omega
      have u2 : (am : Int) + 20 = (a1 : Int) := by omega
      have u3 : IntKind.i64.wrap (am : Int) = (am : Int) := by rw [IntKind.wrap_i64]; omega
      have u4 : IntKind.i64.wrap (a1 : Int) = (a1 : Int) := by rw [IntKind.wrap_i64]; omega
      obtain ⟨W1, hW1⟩ : ∃ W1, W.alloc (.cells #[.int .i64 (rs1 : Int), .int .i64 (rk1 : Int), .string ⟨rt1.toArray⟩] 24 (0, 0)) = W1 := ⟨_, rfl⟩
      have hB1 : Below W.heap.size W W1 := by rw [← hW1]; exact belAZ (Below.refl _ _) _
      have hg1 : W1.heap[W.heap.size]? = some (.cells #[.int .i64 (rs1 : Int), .int .i64 (rk1 : Int), .string ⟨rt1.toArray⟩] 24 (0, 0)) := by rw [← hW1]; exact alloc_getZ _ _
      have q1 := q.below hB1
      have qb := q1.loop { R with state := .busy } (by omega) (by omega) (by omega) (by omega)
      clear hprd ha ha1 hpl hple ham
      refine (round_byA (F := Fence.wide) (m := 6) (In := fun W' => (CW wd bq (bq + 1) (bq + 1 + 1 + 1) R (bq + 1 + 1) (.deferred (some [])) D (k + 1) W' ∧ True)) (Out := fun _ W' => False) (by rw [rf]; exact hfn) q.lp rs rp (by rw [rq]; rfl) ?aQ1 W1 q1.lp ?hasQ1 ?hbQ1).mono ?_
      case hasQ1 =>
        intro K hK
        rw [congrArg Loop.assign hR.symm, rq, congrArg Loop.tmps hR.symm]
        simp only [recOf]
        gi_wp2
        exact hK
      case hbQ1 =>
        have hlW : bq + 1 + 1 + 1 < W.heap.size := lt_getZ q.lp
        have hgb : (W1.putObj (bq + 1 + 1 + 1) (.loop { R with state := .busy })).heap[W.heap.size]? = some (.cells #[.int .i64 (rs1 : Int), .int .i64 (rk1 : Int), .string ⟨rt1.toArray⟩] 24 (0, 0)) := put_otherZ hg1 (by omega)
        obtain ⟨V, hV⟩ : ∃ V, W1.putObj (bq + 1 + 1 + 1) (.loop { R with state := .busy }) = V := ⟨_, rfl⟩
        rw [hV] at qb hgb ⊢
        rw [congrArg Loop.body hR.symm]
        simp only [recOf]
        obtain ⟨rb, hrb⟩ : ∃ s, W.heap.size = s := ⟨_, rfl⟩
        rw [hrb] at hgb
        have HV : Hid (CW wd bq (bq + 1) (bq + 1 + 1 + 1) { R with state := .busy } (bq + 1 + 1) (.deferred (some [])) D k V) := qb
        have HG : Hid (V.heap[rb]? = some (.cells #[.int .i64 (rs1 : Int), .int .i64 (rk1 : Int), .string ⟨rt1.toArray⟩] 24 (0, 0))) := hgb
        have HRC : Hid (∀ U, Below wd.heap.size wd U → U.cell? ⟨B, 0, none⟩ = some (.slice (some ⟨g, o2, none⟩) NL cw) ∧ U.cell? ⟨g, o2 + k * 3, none⟩ = some (.int .i64 (rs1 : Int)) ∧ U.cell? ⟨g, o2 + k * 3 + 1, none⟩ = some (.int .i64 (rk1 : Int)) ∧ U.cell? ⟨g, o2 + k * 3 + 2, none⟩ = some (.string ⟨rt1.toArray⟩)) := fun U hU =>
          ⟨by rw [← hpw]; exact (cellsZ (keepZ hU HF1.out.1.m)).1 0, (hU.cell (World.block_lt_of_cell? wd _ hc0)).trans hc0, (hU.cell (World.block_lt_of_cell? wd _ hc1)).trans hc1, (hU.cell (World.block_lt_of_cell? wd _ hc2)).trans hc2⟩
        clear hV hW1 hB1 hg1 q1 qb hgb hlW q hkr hc0 hc1 hc2 hpw
        rw [hrb]
        have HK : Hid (∀ U, Below V.heap.size V U → U.cell? ⟨bq, 0, none⟩ = some (.int .i64 (k : Int)) ∧ U.cell? ⟨B, 0, none⟩ = some (.slice (some ⟨g, o2, none⟩) NL cw) ∧ (∀ j, U.cell? ⟨rb, j, none⟩ = (#[.int .i64 (rs1 : Int), .int .i64 (rk1 : Int), .string ⟨rt1.toArray⟩] : Array Value)[j]?) ∧ U.cell? ⟨g, o2 + k * 3, none⟩ = some (.int .i64 (rs1 : Int)) ∧ U.cell? ⟨g, o2 + k * 3 + 1, none⟩ = some (.int .i64 (rk1 : Int)) ∧ U.cell? ⟨g, o2 + k * 3 + 2, none⟩ = some (.string ⟨rt1.toArray⟩) ∧ U.cell? ⟨bq + 1, 0, none⟩ = some (.int .i64 (a : Int))) := fun U hU => by
          obtain ⟨y1, y2, y3, y4⟩ := HRC.out U (bel0Z HV.out.be hU)
          exact ⟨(cellsZ (keepZ hU HV.out.bx)).1 0, y1, (cellsZ (keepZ hU HG.out)).1, y2, y3, y4, by rw [← HA.out]; exact (cellsZ (keepZ hU HV.out.px)).1 0⟩
        have i0 : (0 : Int) ≤ (k : Int) := by omega
        have i1 : (k : Int) < (NL : Int) := by omega
        have i2 : ¬ (k : Int) ≥ (NL : Int) := by omega
        gi_wp2_with fail
        refine quiet_in3 (C := fun U => Below V.heap.size V U) (by kernel_rfl) (by kernel_rfl) (by kernel_rfl) (show Below _ _ _ from (Below.refl _ _).drew) ?_
        go_big_quiet_want
        refine ⟨.int .i64 (k : Int), fun W hW => ?_, ?_⟩
        · obtain ⟨s1, s2, s3, s4, s5, s6, s7⟩ := HK.out W hW
          go_simp
        go_big_quiet_on
        simp only [Act.put, List.setIfInBounds_toArray, List.set_cons_zero, List.set_cons_succ]
        go_big_quiet_want
        refine ⟨.slice (some ⟨g, o2, none⟩) NL cw, fun W hW => ?_, ?_⟩
        · obtain ⟨s1, s2, s3, s4, s5, s6, s7⟩ := HK.out W hW
          go_simp
        go_big_quiet_on
        simp only [Act.put, List.setIfInBounds_toArray, List.set_cons_zero, List.set_cons_succ]
        go_big_quiet_want
        refine ⟨.int .i64 (NL : Int), fun W hW => ?_, ?_⟩
        · go_simp
        go_big_quiet_on
        simp only [Act.put, List.setIfInBounds_toArray, List.set_cons_zero, List.set_cons_succ]
        go_big_quiet_want
        refine ⟨.bool false, fun W hW => ?_, ?_⟩
        · go_simp
        go_big_quiet_on
        simp only [Act.put, List.setIfInBounds_toArray, List.set_cons_zero, List.set_cons_succ]
        go_big_quiet_want
        go_big_quiet_op
        go_big_quiet_on
        go_big_quiet_want
        refine ⟨.int .i64 (a : Int), fun W hW => ?_, ?_⟩
        · go_simp
        go_big_quiet_on
        simp only [Act.put, List.setIfInBounds_toArray, List.set_cons_zero, List.set_cons_succ]
        go_big_quiet_want
        refine ⟨.int .i64 (a : Int), fun W hW => ?_, ?_⟩
        · obtain ⟨s1, s2, s3, s4, s5, s6, s7⟩ := HK.out W hW
          go_simp
        go_big_quiet_on
        simp only [Act.put, List.setIfInBounds_toArray, List.set_cons_zero, List.set_cons_succ]
        go_big_quiet_want
        refine ⟨.bool false, fun W hW => ?_, ?_⟩
        · go_simp
        go_big_quiet_on
        simp only [Act.put, List.setIfInBounds_toArray, List.set_cons_zero, List.set_cons_succ]
        go_big_quiet_want
        refine ⟨.bool false, fun W hW => ?_, ?_⟩
        · go_simp
        go_big_quiet_on
        simp only [Act.put, List.setIfInBounds_toArray, List.set_cons_zero, List.set_cons_succ]
        go_big_quiet_want
        go_big_quiet_op
        go_big_quiet_on
        go_big_quiet_want
        refine ⟨.agg #[.int .i64 (rs1 : Int), .int .i64 (rk1 : Int), .string ⟨rt1.toArray⟩], fun W hW => ?_, ?_⟩
        · obtain ⟨s1, s2, s3, s4, s5, s6, s7⟩ := HK.out W hW
          go_simp
        go_big_quiet_on
        simp only [Act.put, List.setIfInBounds_toArray, List.set_cons_zero, List.set_cons_succ]
        go_big_quiet_want
        refine ⟨.slice (some ⟨g, o2, none⟩) NL cw, fun W hW => ?_, ?_⟩
        · obtain ⟨s1, s2, s3, s4, s5, s6, s7⟩ := HK.out W hW
          go_simp
        go_big_quiet_on
        simp only [Act.put, List.setIfInBounds_toArray, List.set_cons_zero, List.set_cons_succ]
        go_big_quiet_want
        refine ⟨.int .i64 (k : Int), fun W hW => ?_, ?_⟩
        · obtain ⟨s1, s2, s3, s4, s5, s6, s7⟩ := HK.out W hW
          go_simp
        go_big_quiet_on
        simp only [Act.put, List.setIfInBounds_toArray, List.set_cons_zero, List.set_cons_succ]
        go_big_quiet_want
        refine ⟨.pointer (some ⟨g, o2 + k * 3, none⟩), fun W hW => ?_, ?_⟩
        · go_simp
        go_big_quiet_on
        simp only [Act.put, List.setIfInBounds_toArray, List.set_cons_zero, List.set_cons_succ]
        go_big_quiet_want
        refine ⟨.agg #[.int .i64 (rs1 : Int), .int .i64 (rk1 : Int), .string ⟨rt1.toArray⟩], fun W hW => ?_, ?_⟩
        · obtain ⟨s1, s2, s3, s4, s5, s6, s7⟩ := HK.out W hW
          go_simp
        go_big_quiet_on
        simp only [Act.put, List.setIfInBounds_toArray, List.set_cons_zero, List.set_cons_succ]
        go_big_quiet_want
        refine ⟨.bool false, fun W hW => ?_, ?_⟩
        · go_simp
        go_big_quiet_on
        simp only [Act.put, List.setIfInBounds_toArray, List.set_cons_zero, List.set_cons_succ]
        go_big_quiet_want
        refine ⟨.bool false, fun W hW => ?_, ?_⟩
        · go_simp
        go_big_quiet_on
        simp only [Act.put, List.setIfInBounds_toArray, List.set_cons_zero, List.set_cons_succ]
        refine wpQuiet_nil ?_
        intro W5 hW5
        have HM5 : Hid (CW wd bq (bq + 1) (bq + 1 + 1 + 1) { R with state := .busy } (bq + 1 + 1) (.deferred (some [])) D k W5) := HV.out.below hW5
        have HG5 : Hid (W5.heap[rb]? = some (.cells #[.int .i64 (rs1 : Int), .int .i64 (rk1 : Int), .string ⟨rt1.toArray⟩] 24 (0, 0))) := keepZ hW5 HG.out
        clear hW5 HK HV HG i2
        have HK : Hid (∀ U, Below W5.heap.size W5 U → U.cell? ⟨bq, 0, none⟩ = some (.int .i64 (k : Int)) ∧ U.cell? ⟨B, 0, none⟩ = some (.slice (some ⟨g, o2, none⟩) NL cw) ∧ (∀ j, U.cell? ⟨rb, j, none⟩ = (#[.int .i64 (rs1 : Int), .int .i64 (rk1 : Int), .string ⟨rt1.toArray⟩] : Array Value)[j]?) ∧ U.cell? ⟨g, o2 + k * 3, none⟩ = some (.int .i64 (rs1 : Int)) ∧ U.cell? ⟨g, o2 + k * 3 + 1, none⟩ = some (.int .i64 (rk1 : Int)) ∧ U.cell? ⟨g, o2 + k * 3 + 2, none⟩ = some (.string ⟨rt1.toArray⟩) ∧ U.cell? ⟨bq + 1, 0, none⟩ = some (.int .i64 (a : Int))) := fun U hU => by
          obtain ⟨y1, y2, y3, y4⟩ := HRC.out U (bel0Z HM5.out.be hU)
          exact ⟨(cellsZ (keepZ hU HM5.out.bx)).1 0, y1, (cellsZ (keepZ hU HG5.out)).1, y2, y3, y4, by rw [← HA.out]; exact (cellsZ (keepZ hU HM5.out.px)).1 0⟩
        gi_wp2_with fail
        refine quiet_lastIn (C := fun U => Below W5.heap.size W5 U) (by kernel_rfl) (by kernel_rfl) (by kernel_rfl) (by kernel_rfl) (by kernel_rfl) (show Below _ _ _ from (Below.refl _ _).drew) ?_
        simp only [List.dropLast_cons_cons, List.dropLast_singleton]
        go_big_quiet_want
        refine ⟨.int .i64 (a : Int), fun W hW => ?_, ?_⟩
        · obtain ⟨s1, s2, s3, s4, s5, s6, s7⟩ := HK.out W hW
          go_simp
        go_big_quiet_on
        simp only [Act.put, List.setIfInBounds_toArray, List.set_cons_zero, List.set_cons_succ]
        go_big_quiet_want
        refine ⟨.slice (some ⟨g, o2, none⟩) NL cw, fun W hW => ?_, ?_⟩
        · obtain ⟨s1, s2, s3, s4, s5, s6, s7⟩ := HK.out W hW
          go_simp
        go_big_quiet_on
        simp only [Act.put, List.setIfInBounds_toArray, List.set_cons_zero, List.set_cons_succ]
        go_big_quiet_want
        refine ⟨.int .i64 (k : Int), fun W hW => ?_, ?_⟩
        · obtain ⟨s1, s2, s3, s4, s5, s6, s7⟩ := HK.out W hW
          go_simp
        go_big_quiet_on
        simp only [Act.put, List.setIfInBounds_toArray, List.set_cons_zero, List.set_cons_succ]
        go_big_quiet_want
        refine ⟨.pointer (some ⟨g, o2 + k * 3, none⟩), fun W hW => ?_, ?_⟩
        · go_simp
        go_big_quiet_on
        simp only [Act.put, List.setIfInBounds_toArray, List.set_cons_zero, List.set_cons_succ]
        go_big_quiet_want
        refine ⟨.pointer (some ⟨g, o2 + k * 3 + 2, none⟩), fun W hW => ?_, ?_⟩
        · go_simp
        go_big_quiet_on
        simp only [Act.put, List.setIfInBounds_toArray, List.set_cons_zero, List.set_cons_succ]
        go_big_quiet_want
        refine ⟨.string ⟨rt1.toArray⟩, fun W hW => ?_, ?_⟩
        · obtain ⟨s1, s2, s3, s4, s5, s6, s7⟩ := HK.out W hW
          go_simp
        go_big_quiet_on
        simp only [Act.put, List.setIfInBounds_toArray, List.set_cons_zero, List.set_cons_succ]
        go_big_quiet_want
        refine ⟨.int .i64 (tl : Int), fun W hW => ?_, ?_⟩
        · go_simp
        go_big_quiet_on
        simp only [Act.put, List.setIfInBounds_toArray, List.set_cons_zero, List.set_cons_succ]
        go_big_quiet_want
        refine ⟨.int .i64 (am : Int), fun W hW => ?_, ?_⟩
        · go_simp
        go_big_quiet_on
        simp only [Act.put, List.setIfInBounds_toArray, List.set_cons_zero, List.set_cons_succ]
        go_big_quiet_want
        refine ⟨.int .i64 (a1 : Int), fun W hW => ?_, ?_⟩
        · go_simp
        go_big_quiet_on
        simp only [Act.put, List.setIfInBounds_toArray, List.set_cons_zero, List.set_cons_succ]
        refine wpQuiet_nil ?_
        intro W6 hW6
        refine wpOpIn_go rfl rfl ?_
        have HM6 : Hid (CW wd bq (bq + 1) (bq + 1 + 1 + 1) { R with state := .busy } (bq + 1 + 1) (.deferred (some [])) D k W6) := HM5.out.below hW6
        clear hW6 HK HM5 HG5 HRC
        obtain ⟨c6, f6⟩ := cellsZ HM6.out.px
        go_simp
        clear c6 f6
        obtain ⟨k1, hk1⟩ : ∃ k1 : Nat, k + 1 = k1 := ⟨_, rfl⟩
        have Hk1 : Hid (k + 1 = k1) := hk1
        have i3 : (k : Int) + 1 = (k1 : Int) := by omega
        have i4 : IntKind.i64.wrap (k1 : Int) = (k1 : Int) := by rw [IntKind.wrap_i64]; omega
        have i5 : k1 ≤ NL := by omega
        clear hk1
        have h7 : (W6.setCell ⟨bq + 1, 0, none⟩ (.int .i64 (a1 : Int))).heap[bq]? = some (.cells #[.int .i64 (k : Int)] 3 (0, 0)) := (Below.heap_setCell _ _ _ _ (by show bq ≠ bq + 1; omega)).trans HM6.out.bx
        obtain ⟨W7, hW7⟩ : ∃ W7, W6.setCell ⟨bq + 1, 0, none⟩ (.int .i64 (a1 : Int)) = W7 := ⟨_, rfl⟩
        rw [hW7] at h7 ⊢
        obtain ⟨c7, f7⟩ := cellsZ h7
        obtain ⟨W8, hW8⟩ : ∃ W8, W7.setCell ⟨bq, 0, none⟩ (.int .i64 (k1 : Int)) = W8 := ⟨_, rfl⟩
        have HM8 : Hid (CW wd bq (bq + 1) (bq + 1 + 1 + 1) { R with state := .busy } (bq + 1 + 1) (.deferred (some [])) D k1 W8) := by
          have h9 := HM6.out.set (by omega) (by omega) (by omega) (by omega) (by omega) (by omega) (by omega) k1
          rw [show plc D k1 = a1 by rw [← Hk1.out]; exact HA1.out, hW7, hW8] at h9
          exact h9
        clear hW7 h7
        have c8 := (cellsZ HM8.out.bx).1 0
        have u8 := (cellsZ (HBE.out _ HM8.out.be).u).1 0
        have n8 := (cellsZ (keepZ HM8.out.be HF1.out.2.2.1)).1 0
        gi_wp2_with fail
        refine ⟨HM8.out.lp, ?_⟩
        rw [Hk1.out]
        first | exact HM8.out.loop R (by omega) (by omega) (by omega) (by omega) | exact ⟨HM8.out.loop R (by omega) (by omega) (by omega) (by omega), trivial⟩
      rintro e W' (⟨he, h1⟩ | ⟨he, c, h⟩)
      · exact .inl ⟨he, h1⟩
      · exact .inr ⟨he, h⟩
    refine (walk1_in 7 (by omega) (bq + 1 + 1 + 1) (B + 1) D p n c HN.out (by omega) hc (fun k W => CW wd bq (bq + 1) (bq + 1 + 1 + 1) R (bq + 1 + 1) (.deferred (some [])) D k W ∧ True) (fun W' => False) X (fun k W W' h hb => ⟨h.1.below hb, h.2⟩) (fun k W h => ⟨(cellsZ (HBE.out W h.1.be).d).1 0, (HBE.out W h.1.be).dc⟩) HY ⟨q0, trivial⟩).mono ?_
    rintro e Wa ⟨hv, hq⟩
    refine ⟨hv, ?_⟩
    have COM : ∃ (ra : Loop) (kf : Nat), ra.state ≠ .busy ∧ (ra.pending = none ∨ ra.pending = some (.exit 2)) ∧ Hid (CW wd bq (bq + 1) (bq + 1 + 1 + 1) ra (bq + 1 + 1) (.deferred (some [])) D kf Wa) ∧ Hid (kf = NL) ∧ kf ≤ NL := by
      rcases hq with hq | hq
      · rw [HL.out.1, HL.out.2] at hq
        exact ⟨R, NL, (fun e => by rw [rs] at e; cases e), .inl rp, hq.1, rfl, Nat.le_refl _⟩
      · exact hq.elim
    obtain ⟨ra, kf, hr2, hr3, HC, HCK, hkl⟩ := COM
    refine ⟨ra, HC.out.lp, hr2, hr3, ?_⟩
    have vm := HC.out.loop { ra with state := .exhausted } (by omega) (by omega) (by omega) (by omega)
    obtain ⟨Va, hVa⟩ : ∃ Va, Wa.putObj (bq + 1 + 1 + 1) (.loop { ra with state := .exhausted }) = Va := ⟨_, rfl⟩
    rw [hVa] at vm ⊢
    have HVA : Hid (Va.heap[bq]? = some (.cells #[.int .i64 (kf : Int)] 3 (0, 0)) ∧ Va.heap[bq + 1 + 1]? = some (.deferred (some [])) ∧ Below wd.heap.size wd Va) := ⟨vm.bx, vm.d1, vm.be⟩
    clear hVa vm hr2 hr3 HC HY q0 hq hR rs rp rf rq hv
    gi_upto_region 23 with fail
    gi_cut [97] from 99 (fun v97 wz => v97 = .bool false ∧ Hid (wz.heap[bq + 1 + 1]? = some (.deferred (some [])) ∧ Below wd.heap.size wd wz))
    case first =>
      obtain ⟨d4, d5⟩ := cellsZ HVA.out.1
      have d2 := (cellsZ (HBE.out Va HVA.out.2.2).u).1 0
      have d3 := (cellsZ (HBE.out Va HVA.out.2.2).m).1 0
      have d6 := (cellsZ (keepZ HVA.out.2.2 HF1.out.2.2.1)).1 0
      have hkn := HCK.out
      have e1 : ((kf : Int) != (NL : Int)) = false := by simp [hkn]
      clear hkn
      gi_wp2_with fail
      gi_meet
      exact ⟨rfl, HVA.out.2⟩
    case rest =>
      obtain ⟨rfl, HVZ⟩ := hcut
      rename World => Vz
      clear HVA HCK
      have d7 := (cellsZ (keepZ HVZ.out.2 HF1.out.2.2.1)).1 0
      gi_wp2_with fail
      obtain ⟨bm, hbm⟩ : ∃ s, Vz.heap.size = s := ⟨_, rfl⟩
      have b9 := belAZ (Below.refl Vz.heap.size Vz) (.cells #[.int .i64 2] 3 (0, 0))
      have e9 := alloc_getZ Vz (.cells #[.int .i64 2] 3 (0, 0))
      rw [hbm] at e9
      have kR := keepZ b9 (HBE.out Vz HVZ.out.2).r
      have HD : Hid ((Vz.alloc (.cells #[.int .i64 2] 3 (0, 0))).heap[bq + 1 + 1]? = some (.deferred (some [])) ∧ (Vz.alloc (.cells #[.int .i64 2] 3 (0, 0))).heap[bk + 1 + 1]? = some (.deferred (some [])) ∧ (Vz.alloc (.cells #[.int .i64 2] 3 (0, 0))).heap[S + 1]? = some (.cells #[.bool false] 4 (0, 0)) ∧ Below w.heap.size w (Vz.alloc (.cells #[.int .i64 2] 3 (0, 0)))) := ⟨keepZ b9 HVZ.out.1, keepZ b9 (keepZ HVZ.out.2 HF1.out.2.2.2.1), kR, bel0Z (bel0Z HF1.out.2.1 HVZ.out.2) b9⟩
      have HZ9 : Hid (S + 1 < bk + 1 + 1 ∧ bk + 1 + 1 < bn ∧ bn < bq ∧ w.heap.size = S) := ⟨HF1.out.2.2.2.2.1, HF1.out.2.2.2.2.2, z3, HSB.out.2⟩
      rw [← HK2.out, roundsIn_succ]
      obtain ⟨we, hwe⟩ : ∃ we, Vz.alloc (.cells #[.int .i64 2] 3 (0, 0)) = we := ⟨_, rfl⟩
      rw [hwe] at HD e9 kR
      rw [hwe, hbm]
      have c9 := (cellsZ e9).1 0
      obtain ⟨r9, f9⟩ := cellsZ kR
      clear hwe hbm b9 e9 kR HVZ HBE HSZ z1 z2 z3 d7 hbq HF1 hkl HK2
      gi_wp2_with fail
      obtain ⟨s1, s2, s3, s4⟩ := HZ9.out
      obtain ⟨v1, v2, v3, v4⟩ := HD.out
      have kD2 : (we.setCell ⟨S + 1, 0, none⟩ (.bool true)).heap[bq + 1 + 1]? = some (.deferred (some [])) := (Below.heap_setCell _ _ _ _ (by show bq + 1 + 1 ≠ S + 1; omega)).trans v1
      have kD1 : ((we.setCell ⟨S + 1, 0, none⟩ (.bool true)).putObj (bq + 1 + 1) (.deferred none)).heap[bk + 1 + 1]? = some (.deferred (some [])) := put_otherZ ((Below.heap_setCell _ _ _ _ (by show bk + 1 + 1 ≠ S + 1; omega)).trans v2) (by omega)
      have kR' : (((we.setCell ⟨S + 1, 0, none⟩ (.bool true)).putObj (bq + 1 + 1) (.deferred none)).putObj (bk + 1 + 1) (.deferred none)).heap[S + 1]? = some (.cells #[.bool true] 4 (0, 0)) := put_otherZ (put_otherZ (by rw [set_getZ _ v3]; rfl) (by omega)) (by omega)
      refine ⟨by simp, .inl ⟨_, _, rfl, run_takeDeferred kD2, ?_⟩⟩
      refine ⟨by simp, .inl ⟨_, _, rfl, run_takeDeferred kD1, ?_⟩⟩
      refine ⟨_, res_boolZ _ _ (S + 1) true rfl rfl kR', rfl, ?_⟩
      have b1 := v4.setCell (p := ⟨S + 1, 0, none⟩) (by show w.heap.size ≤ S + 1; omega) (.bool true)
      have b2 := b1.grown (grownBy_putObj' _ (bq + 1 + 1) (.deferred none)) b1.size (fun x e => by cases e; omega)
      exact b2.grown (grownBy_putObj' _ (bk + 1 + 1) (.deferred none)) b2.size (fun x e => by cases e; omega)
end Go.Proofs.Ytjbfkknpkldhjab

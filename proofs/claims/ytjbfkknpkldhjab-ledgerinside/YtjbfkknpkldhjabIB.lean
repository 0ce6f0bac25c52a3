import Derived.Test.YtjbfkknpkldhjabIA
import Derived.Test.YtjbfkknpkldhjabLK
namespace Go.Proofs.Ytjbfkknpkldhjab
open Go.RowKit Go.Shelf
attribute [local go_sem] Oper.semAt_some
set_option maxRecDepth 100000 in
set_option maxHeartbeats 16000000 in
theorem ledgerInside_walk (D : List UInt8) (p : Option Addr) (n c : Nat) (x1 x2 : Int) (w : World) (hn : D.length = n) (hc : n ≤ c) (hr : BR w p D) (_ : (Lit.int .i64 x1).wf = true) (_ : (Lit.int .i64 x2).wf = true) :
    Calls Try.prog 5 #[.slice p n c, .int .i64 x1, .int .i64 x2] w fun e w' => e = .returned (.bool true) ∧ Below w.heap.size w w' := by
  have HR : Hid (BR w p D) := hr
  have HN : Hid (D.length = n) := hn
  clear hr hn
  obtain ⟨S, hS⟩ : ∃ S, w.heap.size = S := ⟨_, rfl⟩
  obtain ⟨w0, hw0⟩ : ∃ w0, ((w.alloc (.cells #[.int .i64 x1] 3)).alloc (.cells #[.int .i64 x2] 3)).alloc (.cells #[.bool false] 4) = w0 := ⟨_, rfl⟩
  have HW0 : Hid (w0.heap[S]? = some (.cells #[.int .i64 x1] 3 (0, 0)) ∧ w0.heap[S + 1]? = some (.cells #[.int .i64 x2] 3 (0, 0)) ∧ w0.heap[S + 1 + 1]? = some (.cells #[.bool false] 4 (0, 0)) ∧ Below w.heap.size w w0) := by
    have k0 := alloc_getZ w (.cells #[.int .i64 x1] 3)
    have k1 := alloc_getZ (w.alloc (.cells #[.int .i64 x1] 3)) (.cells #[.int .i64 x2] 3)
    have k2 := alloc_getZ ((w.alloc (.cells #[.int .i64 x1] 3)).alloc (.cells #[.int .i64 x2] 3)) (.cells #[.bool false] 4)
    simp only [World.size_alloc, hS] at k0 k1 k2
    rw [← hw0]
    exact ⟨keepZ (belAZ (belAZ (Below.refl _ _) _) _) k0, keepZ (belAZ (Below.refl _ _) _) k1, k2, belAZ (belAZ (belAZ (Below.refl _ _) _) _) _⟩
  refine (callsIn_wide (n := 8)).1 ?_
  refine callsIn_of_wp_marks Try.func5 rfl trivial ?_ rfl
  simp only [Try.ntmps5, List.size_toArray, List.length_cons, List.length_nil, Nat.reduceAdd, Nat.reduceSub, Array.replicate_succ, Array.replicate_zero, List.push_toArray, List.append_toArray, List.nil_append, List.cons_append]
  gi_wp2_with fail
  refine ⟨trivial, (callsIn_wide.2 (fixed_any _)).mono ?_⟩
  rintro e w1 ⟨rfl, b1⟩
  have HW1 : Hid (w1.heap[S]? = some (.cells #[.int .i64 x1] 3 (0, 0)) ∧ w1.heap[S + 1]? = some (.cells #[.int .i64 x2] 3 (0, 0)) ∧ w1.heap[S + 1 + 1]? = some (.cells #[.bool false] 4 (0, 0)) ∧ Below w.heap.size w w1) := ⟨keepZ b1 HW0.out.1, keepZ b1 HW0.out.2.1, keepZ b1 HW0.out.2.2.1, bel0Z HW0.out.2.2.2 b1⟩
  clear b1 HW0 hw0
  by_cases h1 : 3000 < n
  · have h1' : (3000 : Int) < (n : Int) := by omega
    obtain ⟨cr1, cr2⟩ := cellsZ HW1.out.2.2.1
    have HRT : Hid ((w1.setCell ⟨S + 1 + 1, 0, none⟩ (.bool true)).heap[S + 1 + 1]? = some (.cells #[.bool true] 4 (0, 0)) ∧ Below w.heap.size w (w1.setCell ⟨S + 1 + 1, 0, none⟩ (.bool true))) := ⟨by rw [set_getZ _ HW1.out.2.2.1]; rfl, HW1.out.2.2.2.setCell (p := ⟨S + 1 + 1, 0, none⟩) (by show w.heap.size ≤ S + 1 + 1; omega) _⟩
    gi_wp2_with fail
    exact ⟨_, res_boolZ _ _ (S + 1 + 1) true rfl rfl HRT.out.1, rfl, HRT.out.2⟩
  have h1' : ¬ (3000 : Int) < (n : Int) := by omega
  have HWH := dwhole_any D p n c w1 HN.out (by omega) hc (HR.out.below HW1.out.2.2.2)
  obtain ⟨L, hL⟩ : ∃ L, whL 1 D = L := ⟨_, rfl⟩
  obtain ⟨NL, hNL⟩ : ∃ NL, L.length = NL := ⟨_, rfl⟩
  have hlb : NL ≤ 3000 := by
    have h5 := plc_len (D := D) (k := (whL 1 D).length) (Nat.le_refl _)
    have h6 := plc_le (D := D) (k := (whL 1 D).length) (Nat.le_refl _)
    rw [HN.out] at h6
    rw [hL, hNL] at h5 h6
    omega
  have HWQ : Hid (Calls Try.prog 11 #[.slice p n c] w1 fun e w' => ∃ (pw : Option Addr) (cw : Nat) (E1 E2 : Int), e = .returned (.tuple #[.slice pw NL cw, .int .i64 E1, .int .i64 E2]) ∧ RR w' pw L ∧ Below w1.heap.size w1 w') := by
    refine HWH.mono ?_
    rintro e w' ⟨v, h1, h2, h3⟩
    obtain ⟨p, c, rfl⟩ := h2.shape
    rw [hL, hNL] at h1
    rw [hL] at h2
    exact ⟨p, c, _, _, h1, h2.rr, h3⟩
  have HL : Hid (whL 1 D = L ∧ L.length = NL) := ⟨hL, hNL⟩
  clear hL hNL HWH
  gi_wp2_with fail
  refine ⟨trivial, (callsIn_wide.2 HWQ.out).mono ?_⟩
  rintro e w2 ⟨pw, cw, E1, E2, rfl, hrr, b2⟩
  gi_wp2_with fail
  refine ⟨trivial, (callsIn_wide.2 (walk_any p n c _)).mono ?_⟩
  rintro e w3 ⟨rfl, hw3⟩
  obtain ⟨B, hB⟩ : ∃ B, w2.heap.size = B := ⟨_, rfl⟩
  obtain ⟨wc, hwc⟩ : ∃ wc, ((w2.alloc (.cells #[.slice pw NL cw] 33 (0, 0))).alloc (.cells #[.slice p n c] 22 (0, 0))).alloc (.cells #[.func (.func 22) #[] #[.pointer (some ⟨B + 1, 0, none⟩)]] 37 (0, 0)) = wc := ⟨_, rfl⟩
  have HF : Hid (BI D L NL x1 x2 S (S + 1) (S + 1 + 1) B (B + 1 + 1) (B + 1) pw cw p n c wc ∧ Below w.heap.size w wc ∧ wc.heap.size = B + 1 + 1 + 1) := by
    have k0 := alloc_getZ w2 (.cells #[.slice pw NL cw] 33 (0, 0))
    have k1 := alloc_getZ (w2.alloc (.cells #[.slice pw NL cw] 33 (0, 0))) (.cells #[.slice p n c] 22 (0, 0))
    have k2 := alloc_getZ ((w2.alloc (.cells #[.slice pw NL cw] 33 (0, 0))).alloc (.cells #[.slice p n c] 22 (0, 0))) (.cells #[.func (.func 22) #[] #[.pointer (some ⟨B + 1, 0, none⟩)]] 37 (0, 0))
    simp only [World.size_alloc, hB] at k0 k1 k2
    have bb : Below w2.heap.size w2 wc := by rw [← hwc]; exact belAZ (belAZ (belAZ (Below.refl _ _) _) _) _
    have b3 := bel0Z b2 bb
    have b4 := bel0Z HW1.out.2.2.2 b3
    refine ⟨⟨keepZ b3 HW1.out.1, keepZ b3 HW1.out.2.1, keepZ b3 HW1.out.2.2.1, ?_, ?_, ?_, hrr.below bb, HR.out.below b4⟩, b4, by rw [← hwc]; simp [hB]⟩
    · rw [← hwc]; exact k2
    · rw [← hwc]; exact keepZ (belAZ (Below.refl _ _) _) k1
    · rw [← hwc]; exact keepZ (belAZ (belAZ (Below.refl _ _) _) _) k0
  clear hrr b2 HWQ HW1 HR
  have hsn := seq_nilZ
  have hcf := (cellsZ HF.out.1.f).1 0
  have hcf2 := (cellsZ (keepZ (belAZ (Below.refl _ _) (.cells #[.int .i64 0] 3 (0, 0))) HF.out.1.f)).1 0
  gi_wp2_with fail
  clear hcf hcf2 hsn hwc hB hw3
  obtain ⟨bk, hbk⟩ : ∃ s, wc.heap.size = s := ⟨_, rfl⟩
  have HSB : Hid (S + 1 + 1 < bk ∧ B + 1 + 1 < bk ∧ w.heap.size = S) := ⟨by have := lt_getZ HF.out.1.r; omega, by have := HF.out.2.2; omega, hS⟩
  obtain ⟨hb1, hb2, -⟩ := HSB.out
  have HBE : Hid (∀ W, Below wc.heap.size wc W → BI D L NL x1 x2 S (S + 1) (S + 1 + 1) B (B + 1 + 1) (B + 1) pw cw p n c W) := fun W h => HF.out.1.below h
  clear hS
  refine range_by1 (id := 0) rfl (by omega) (gf := 22) (lb := #[.pointer (some ⟨B + 1, 0, none⟩)]) rfl trivial (enters_of Try.func22 (by kernel_rfl) rfl) (fun _ _ h => wpIn_exit h) ?_
  intro fn hfn
  simp only [World.size_alloc, hbk]
  generalize hR : recOf fn _ _ _ _ _ = R
  have rs : R.state = .ready := by rw [← hR]; rfl
  have rp : R.pending = none := by rw [← hR]; rfl
  have rf : R.fn = fn := by rw [← hR]; rfl
  have rq : R.params = #[40, 41] := by rw [← hR]; rfl
  obtain ⟨X, hX⟩ : ∃ X, ((wc.alloc (.cells #[.int .i64 0] 3 (0, 0))).alloc (.deferred (some []))).alloc (.loop R) = X := ⟨_, rfl⟩
  have q0 : CS wc bk (bk + 1 + 1) R (bk + 1) (bk + 1) (.deferred (some [])) (.deferred (some [])) 0 X := by
    have k0 := alloc_getZ wc (.cells #[.int .i64 0] 3 (0, 0))
    have k1 := alloc_getZ (wc.alloc (.cells #[.int .i64 0] 3 (0, 0))) (.deferred (some []))
    have k2 := alloc_getZ ((wc.alloc (.cells #[.int .i64 0] 3 (0, 0))).alloc (.deferred (some []))) (.loop R)
    simp only [World.size_alloc, hbk] at k0 k1 k2
    rw [← hX]
    exact ⟨keepZ (belAZ (belAZ (Below.refl _ _) _) _) k0, k2, keepZ (belAZ (Below.refl _ _) _) k1, keepZ (belAZ (Below.refl _ _) _) k1, belAZ (belAZ (belAZ (Below.refl _ _) _) _) _⟩
  rw [hX]
  clear hX
  have HY : ∀ k r W, (whL 1 D)[k]? = some r → CS wc bk (bk + 1 + 1) R (bk + 1) (bk + 1) (.deferred (some [])) (.deferred (some [])) k W → YieldAt Fence.wide (6 + 1 - 1) Try.prog (bk + 1 + 1) #[.int .i64 (plc D k : Int), rcV r] W fun e W' => (e = .returned (.bool true) ∧ CS wc bk (bk + 1 + 1) R (bk + 1) (bk + 1) (.deferred (some [])) (.deferred (some [])) (k + 1) W') ∨ (e = .returned (.bool false) ∧ JL wc bk (bk + 1 + 1) 0 (bk + 1) (bk + 1) (.deferred (some [])) (.deferred (some [])) NL x2 W') := by
    intro k r W hkr q
    rw [HL.out.1] at hkr
    have hk : k < NL := by rw [← HL.out.2]; exact (List.getElem?_eq_some_iff.1 hkr).1
    obtain ⟨rs1, rk1, rt1⟩ := r
    simp only [rcV]
    obtain ⟨g, o2, hpw, hc0, hc1, hc2⟩ := HF.out.1.mc k _ hkr
    simp only at hc0 hc1 hc2
    obtain ⟨W1, hW1⟩ : ∃ W1, W.alloc (.cells #[.int .i64 (rs1 : Int), .int .i64 (rk1 : Int), .string ⟨rt1.toArray⟩] 24 (0, 0)) = W1 := ⟨_, rfl⟩
    have hB1 : Below W.heap.size W W1 := by rw [← hW1]; exact belAZ (Below.refl _ _) _
    have hg1 : W1.heap[W.heap.size]? = some (.cells #[.int .i64 (rs1 : Int), .int .i64 (rk1 : Int), .string ⟨rt1.toArray⟩] 24 (0, 0)) := by rw [← hW1]; exact alloc_getZ _ _
    have q1 := q.below hB1
    have qb := q1.loop { R with state := .busy } (by omega) (by omega) (by omega) (by omega)
    refine (round_byA (F := Fence.wide) (m := 6) (In := fun W' => CS wc bk (bk + 1 + 1) R (bk + 1) (bk + 1) (.deferred (some [])) (.deferred (some [])) (k + 1) W') (Out := fun _ W' => JL wc bk (bk + 1 + 1) 0 (bk + 1) (bk + 1) (.deferred (some [])) (.deferred (some [])) NL x2 W') (by rw [rf]; exact hfn) q.lp rs rp (by rw [rq]; rfl) ?aHY W1 q1.lp ?hasHY ?hbHY).mono ?_
    case hasHY =>
      intro K hK
      rw [congrArg Loop.assign hR.symm, rq, congrArg Loop.tmps hR.symm]
      simp only [recOf]
      gi_wp2
      exact hK
    case hbHY =>
      have hlW : (bk + 1 + 1) < W.heap.size := lt_getZ q.lp
      have hgb : (W1.putObj (bk + 1 + 1) (.loop { R with state := .busy })).heap[W.heap.size]? = some (.cells #[.int .i64 (rs1 : Int), .int .i64 (rk1 : Int), .string ⟨rt1.toArray⟩] 24 (0, 0)) := put_otherZ hg1 (by omega)
      obtain ⟨V, hV⟩ : ∃ V, W1.putObj (bk + 1 + 1) (.loop { R with state := .busy }) = V := ⟨_, rfl⟩
      rw [hV] at qb hgb ⊢
      rw [congrArg Loop.body hR.symm]
      simp only [recOf]
      obtain ⟨rb, hrb⟩ : ∃ s, W.heap.size = s := ⟨_, rfl⟩
      rw [hrb] at hgb
      have HV : Hid (CS wc bk (bk + 1 + 1) { R with state := .busy } (bk + 1) (bk + 1) (.deferred (some [])) (.deferred (some [])) k V) := qb
      have HG : Hid (V.heap[rb]? = some (.cells #[.int .i64 (rs1 : Int), .int .i64 (rk1 : Int), .string ⟨rt1.toArray⟩] 24 (0, 0))) := hgb
      have HRC : Hid (∀ U, Below wc.heap.size wc U → U.cell? ⟨B, 0, none⟩ = some (.slice (some ⟨g, o2, none⟩) NL cw) ∧ U.cell? ⟨g, o2 + k * 3, none⟩ = some (.int .i64 (rs1 : Int)) ∧ U.cell? ⟨g, o2 + k * 3 + 1, none⟩ = some (.int .i64 (rk1 : Int)) ∧ U.cell? ⟨g, o2 + k * 3 + 2, none⟩ = some (.string ⟨rt1.toArray⟩)) := fun U hU =>
        ⟨by rw [← hpw]; exact (cellsZ (keepZ hU HF.out.1.m)).1 0, (hU.cell (World.block_lt_of_cell? wc _ hc0)).trans hc0, (hU.cell (World.block_lt_of_cell? wc _ hc1)).trans hc1, (hU.cell (World.block_lt_of_cell? wc _ hc2)).trans hc2⟩
      clear hV hW1 hB1 hg1 q1 qb hgb hlW q hkr hc0 hc1 hc2 hpw
      rw [hrb]
      obtain ⟨bj, hbj⟩ : ∃ s, V.heap.size = s := ⟨_, rfl⟩
      have hbj2 : bk + 1 + 1 < bj := by rw [← hbj]; exact lt_getZ HV.out.lp
      have hrbj : rb < bj := by rw [← hbj]; exact lt_getZ HG.out
      have hcf3 := (cellsZ (keepZ (belAZ (Below.refl _ _) (.cells #[.int .i64 0] 3 (0, 0))) (HBE.out V HV.out.be).f)).1 0
      gi_wp2_with fail
      clear hcf3
      refine range_in1 (F := Fence.wide.inRound (bk + 1 + 1)) (n := 6) (id := 2) (l0 := bk + 1 + 1) rfl (keepZ (belAZ (Below.refl _ _) _) HV.out.lp) (by omega) (gf := 22) (lb := #[.pointer (some ⟨B + 1, 0, none⟩)]) rfl trivial (enters_of Try.func22 (by kernel_rfl) rfl) (fun _ _ h => wpIn_exit h) ?_
      intro fn2 hfn2
      simp only [World.size_alloc, hbj]
      generalize hR2 : recOf fn2 _ _ _ _ _ = R2
      have rs2 : R2.state = .ready := by rw [← hR2]; rfl
      have rp2 : R2.pending = none := by rw [← hR2]; rfl
      have rf2 : R2.fn = fn2 := by rw [← hR2]; rfl
      have rq2 : R2.params = #[43, 44] := by rw [← hR2]; rfl
      obtain ⟨X2, hX2⟩ : ∃ X2, (V.alloc (.cells #[.int .i64 0] 3 (0, 0))).alloc (.loop R2) = X2 := ⟨_, rfl⟩
      have p0 : CS V bj (bj + 1) R2 (bk + 1) (bk + 1) (.deferred (some [])) (.deferred (some [])) 0 X2 := by
        have k0 := alloc_getZ V (.cells #[.int .i64 0] 3 (0, 0))
        have k1 := alloc_getZ (V.alloc (.cells #[.int .i64 0] 3 (0, 0))) (.loop R2)
        simp only [World.size_alloc, hbj] at k0 k1
        have b := belAZ (belAZ (Below.refl V.heap.size V) (.cells #[.int .i64 0] 3 (0, 0))) (.loop R2)
        rw [← hX2]
        exact ⟨keepZ (belAZ (Below.refl _ _) _) k0, k1, keepZ b HV.out.d1, keepZ b HV.out.d1, b⟩
      rw [hX2]
      clear hX2
      have HY2 : ∀ j r W, (whL 1 D)[j]? = some r → CS V bj (bj + 1) R2 (bk + 1) (bk + 1) (.deferred (some [])) (.deferred (some [])) j W → YieldAt Fence.wide (4 + 1 - 1) Try.prog (bj + 1) #[.int .i64 (plc D j : Int), rcV r] W fun e W' => (e = .returned (.bool true) ∧ CS V bj (bj + 1) R2 (bk + 1) (bk + 1) (.deferred (some [])) (.deferred (some [])) (j + 1) W') ∨ (e = .returned (.bool false) ∧ JL V bj (bj + 1) 2 (bk + 1) (bk + 1) (.deferred (some [])) (.deferred (some [])) NL x1 W') := by
        intro j r W hkr q
        rw [HL.out.1] at hkr
        have hk2 : j < NL := by rw [← HL.out.2]; exact (List.getElem?_eq_some_iff.1 hkr).1
        obtain ⟨rs1, rk1, rt1⟩ := r
        simp only [rcV]
        obtain ⟨g, o2, hpw, hc0, hc1, hc2⟩ := HF.out.1.mc j _ hkr
        simp only at hc0 hc1 hc2
        obtain ⟨W1, hW1⟩ : ∃ W1, W.alloc (.cells #[.int .i64 (rs1 : Int), .int .i64 (rk1 : Int), .string ⟨rt1.toArray⟩] 24 (0, 0)) = W1 := ⟨_, rfl⟩
        have hB1 : Below W.heap.size W W1 := by rw [← hW1]; exact belAZ (Below.refl _ _) _
        have hg1 : W1.heap[W.heap.size]? = some (.cells #[.int .i64 (rs1 : Int), .int .i64 (rk1 : Int), .string ⟨rt1.toArray⟩] 24 (0, 0)) := by rw [← hW1]; exact alloc_getZ _ _
        have q1 := q.below hB1
        have qb := q1.loop { R2 with state := .busy } (by omega) (by omega) (by omega) (by omega)
        refine (round_byA (F := Fence.wide) (m := 4) (In := fun W' => CS V bj (bj + 1) R2 (bk + 1) (bk + 1) (.deferred (some [])) (.deferred (some [])) (j + 1) W') (Out := fun _ W' => JL V bj (bj + 1) 2 (bk + 1) (bk + 1) (.deferred (some [])) (.deferred (some [])) NL x1 W') (by rw [rf2]; exact hfn2) q.lp rs2 rp2 (by rw [rq2]; rfl) ?aHY2 W1 q1.lp ?hasHY2 ?hbHY2).mono ?_
        case hasHY2 =>
          intro K hK
          rw [congrArg Loop.assign hR2.symm, rq2, congrArg Loop.tmps hR2.symm]
          simp only [recOf]
          gi_wp2
          exact hK
        case hbHY2 =>
          have hlW : (bj + 1) < W.heap.size := lt_getZ q.lp
          have hgb : (W1.putObj (bj + 1) (.loop { R2 with state := .busy })).heap[W.heap.size]? = some (.cells #[.int .i64 (rs1 : Int), .int .i64 (rk1 : Int), .string ⟨rt1.toArray⟩] 24 (0, 0)) := put_otherZ hg1 (by omega)
          obtain ⟨V2, hV⟩ : ∃ V, W1.putObj (bj + 1) (.loop { R2 with state := .busy }) = V := ⟨_, rfl⟩
          rw [hV] at qb hgb ⊢
          rw [congrArg Loop.body hR2.symm]
          simp only [recOf]
          obtain ⟨rb2, hrb2⟩ : ∃ s, W.heap.size = s := ⟨_, rfl⟩
          rw [hrb2] at hgb
          have HV2 : Hid (CS V bj (bj + 1) { R2 with state := .busy } (bk + 1) (bk + 1) (.deferred (some [])) (.deferred (some [])) j V2) := qb
          have HG2 : Hid (V2.heap[rb2]? = some (.cells #[.int .i64 (rs1 : Int), .int .i64 (rk1 : Int), .string ⟨rt1.toArray⟩] 24 (0, 0))) := hgb
          have HRC2 : Hid (∀ U, Below wc.heap.size wc U → U.cell? ⟨B, 0, none⟩ = some (.slice (some ⟨g, o2, none⟩) NL cw) ∧ U.cell? ⟨g, o2 + j * 3, none⟩ = some (.int .i64 (rs1 : Int)) ∧ U.cell? ⟨g, o2 + j * 3 + 1, none⟩ = some (.int .i64 (rk1 : Int)) ∧ U.cell? ⟨g, o2 + j * 3 + 2, none⟩ = some (.string ⟨rt1.toArray⟩)) := fun U hU =>
            ⟨by rw [← hpw]; exact (cellsZ (keepZ hU HF.out.1.m)).1 0, (hU.cell (World.block_lt_of_cell? wc _ hc0)).trans hc0, (hU.cell (World.block_lt_of_cell? wc _ hc1)).trans hc1, (hU.cell (World.block_lt_of_cell? wc _ hc2)).trans hc2⟩
          clear hV hW1 hB1 hg1 q1 qb hgb hlW q hkr hc0 hc1 hc2 hpw
          rw [hrb2]
          have HK : Hid (∀ U, Below V2.heap.size V2 U → U.cell? ⟨bj, 0, none⟩ = some (.int .i64 (j : Int)) ∧ U.cell? ⟨B, 0, none⟩ = some (.slice (some ⟨g, o2, none⟩) NL cw) ∧ (∀ j, U.cell? ⟨rb2, j, none⟩ = (#[.int .i64 (rs1 : Int), .int .i64 (rk1 : Int), .string ⟨rt1.toArray⟩] : Array Value)[j]?) ∧ U.cell? ⟨g, o2 + j * 3, none⟩ = some (.int .i64 (rs1 : Int)) ∧ U.cell? ⟨g, o2 + j * 3 + 1, none⟩ = some (.int .i64 (rk1 : Int)) ∧ U.cell? ⟨g, o2 + j * 3 + 2, none⟩ = some (.string ⟨rt1.toArray⟩)) := fun U hU => by
            obtain ⟨y1, y2, y3, y4⟩ := HRC2.out U (bel0Z (bel0Z HV.out.be HV2.out.be) hU)
            exact ⟨(cellsZ (keepZ hU HV2.out.bx)).1 0, y1, (cellsZ (keepZ hU HG2.out)).1, y2, y3, y4⟩
          have i0 : (0 : Int) ≤ (j : Int) := by omega
          have i1 : (j : Int) < (NL : Int) := by omega
          have i2 : ¬ (j : Int) ≥ (NL : Int) := by omega
          gi_wp2_with fail
          refine quiet_in3 (C := fun U => Below V2.heap.size V2 U) (by kernel_rfl) (by kernel_rfl) (by kernel_rfl) (show Below _ _ _ from (Below.refl _ _).drew) ?_
          go_big_quiet_want
          refine ⟨.int .i64 (j : Int), fun W hW => ?_, ?_⟩
          · obtain ⟨s1, s2, s3, s4, s5, s6⟩ := HK.out W hW
            go_simp
          go_big_quiet_on
          simp only [Act.put, List.setIfInBounds_toArray, List.set_cons_zero, List.set_cons_succ]
          go_big_quiet_want
          refine ⟨.slice (some ⟨g, o2, none⟩) NL cw, fun W hW => ?_, ?_⟩
          · obtain ⟨s1, s2, s3, s4, s5, s6⟩ := HK.out W hW
            go_simp
          go_big_quiet_on
          simp only [Act.put, List.setIfInBounds_toArray, List.set_cons_zero, List.set_cons_succ]
          go_big_quiet_want
          refine ⟨.int .i64 (NL : Int), fun W hW => ?_, ?_⟩
          · go_simp
          go_big_quiet_on
          simp only [Act.put, List.setIfInBounds_toArray, List.set_cons_zero, List.set_cons_succ]
          go_big_quiet_want
          refine ⟨.bool false, fun W hW => ?_, ?_⟩
          · go_simp
          go_big_quiet_on
          simp only [Act.put, List.setIfInBounds_toArray, List.set_cons_zero, List.set_cons_succ]
          go_big_quiet_want
          go_big_quiet_op
          go_big_quiet_on
          go_big_quiet_want
          refine ⟨.agg #[.int .i64 (rs1 : Int), .int .i64 (rk1 : Int), .string ⟨rt1.toArray⟩], fun W hW => ?_, ?_⟩
          · obtain ⟨s1, s2, s3, s4, s5, s6⟩ := HK.out W hW
            go_simp
          go_big_quiet_on
          simp only [Act.put, List.setIfInBounds_toArray, List.set_cons_zero, List.set_cons_succ]
          go_big_quiet_want
          refine ⟨.slice (some ⟨g, o2, none⟩) NL cw, fun W hW => ?_, ?_⟩
          · obtain ⟨s1, s2, s3, s4, s5, s6⟩ := HK.out W hW
            go_simp
          go_big_quiet_on
          simp only [Act.put, List.setIfInBounds_toArray, List.set_cons_zero, List.set_cons_succ]
          go_big_quiet_want
          refine ⟨.int .i64 (j : Int), fun W hW => ?_, ?_⟩
          · obtain ⟨s1, s2, s3, s4, s5, s6⟩ := HK.out W hW
            go_simp
          go_big_quiet_on
          simp only [Act.put, List.setIfInBounds_toArray, List.set_cons_zero, List.set_cons_succ]
          go_big_quiet_want
          refine ⟨.pointer (some ⟨g, o2 + j * 3, none⟩), fun W hW => ?_, ?_⟩
          · go_simp
          go_big_quiet_on
          simp only [Act.put, List.setIfInBounds_toArray, List.set_cons_zero, List.set_cons_succ]
          go_big_quiet_want
          refine ⟨.agg #[.int .i64 (rs1 : Int), .int .i64 (rk1 : Int), .string ⟨rt1.toArray⟩], fun W hW => ?_, ?_⟩
          · obtain ⟨s1, s2, s3, s4, s5, s6⟩ := HK.out W hW
            go_simp
          go_big_quiet_on
          simp only [Act.put, List.setIfInBounds_toArray, List.set_cons_zero, List.set_cons_succ]
          go_big_quiet_want
          refine ⟨.bool false, fun W hW => ?_, ?_⟩
          · go_simp
          go_big_quiet_on
          simp only [Act.put, List.setIfInBounds_toArray, List.set_cons_zero, List.set_cons_succ]
          go_big_quiet_want
          refine ⟨.bool false, fun W hW => ?_, ?_⟩
          · go_simp
          go_big_quiet_on
          simp only [Act.put, List.setIfInBounds_toArray, List.set_cons_zero, List.set_cons_succ]
          refine wpQuiet_nil ?_
          intro W5 hW5
          have HM5 : Hid (CS V bj (bj + 1) { R2 with state := .busy } (bk + 1) (bk + 1) (.deferred (some [])) (.deferred (some [])) j W5) := HV2.out.below hW5
          clear hW5 HK HV2 HG2 HRC2 i2
          obtain ⟨k1, hk1⟩ : ∃ k1 : Nat, j + 1 = k1 := ⟨_, rfl⟩
          have Hk1 : Hid (j + 1 = k1) := hk1
          have i3 : (j : Int) + 1 = (k1 : Int) := by omega
          have i4 : IntKind.i64.wrap (k1 : Int) = (k1 : Int) := by rw [IntKind.wrap_i64]; omega
          have i5 : k1 ≤ NL := by omega
          clear hk1
          obtain ⟨c7, f7⟩ := cellsZ HM5.out.bx
          obtain ⟨W8, hW8⟩ : ∃ W8, W5.setCell ⟨bj, 0, none⟩ (.int .i64 (k1 : Int)) = W8 := ⟨_, rfl⟩
          have HM8 : Hid (CS V bj (bj + 1) { R2 with state := .busy } (bk + 1) (bk + 1) (.deferred (some [])) (.deferred (some [])) k1 W8) := by rw [← hW8]; exact HM5.out.set (by omega) (by omega) (by omega) (by omega) k1
          have c8 := (cellsZ HM8.out.bx).1 0
          have u8 := (cellsZ (HBE.out _ (bel0Z HV.out.be (HM8.out.be))).u).1 0
          obtain ⟨tb, h9'⟩ : ∃ tb, ((k1 : Int) == x1) = tb := ⟨_, rfl⟩
          have H9 : Hid (tb = true → (k1 : Int) = x1) := fun h => by rw [h] at h9'; simpa using h9'
          cases tb
          · gi_wp2_with fail
            refine ⟨HM8.out.lp, ?_⟩
            rw [Hk1.out]
            exact HM8.out.loop R2 (by omega) (by omega) (by omega) (by omega)
          · gi_wp2_with fail
            exact ⟨HM8.out.lp, _, k1, rfl, rfl, HM8.out.loop _ (by omega) (by omega) (by omega) (by omega), H9.out (by simp), i5⟩
        rintro e W' (⟨he, h1⟩ | ⟨he, c, h⟩)
        · exact .inl ⟨he, h1⟩
        · exact .inr ⟨he, h⟩
      refine (CallsIn.inRound _ (walk1_in 5 (by omega) (bj + 1) (B + 1) D p n c HN.out (by omega) hc (fun k => CS V bj (bj + 1) R2 (bk + 1) (bk + 1) (.deferred (some [])) (.deferred (some [])) k) (JL V bj (bj + 1) 2 (bk + 1) (bk + 1) (.deferred (some [])) (.deferred (some [])) NL x1) X2 (fun k W W' h hb => h.below hb) (fun k W h => ⟨(cellsZ (HBE.out W (bel0Z HV.out.be h.be)).d).1 0, (HBE.out W (bel0Z HV.out.be h.be)).dc⟩) HY2 p0)).mono ?_
      rintro e Wi ⟨hv, hq⟩
      refine ⟨hv, ?_⟩
      have COM : ∃ (r : Loop) (kf : Nat), r.state ≠ .busy ∧ (r.pending = none ∨ r.pending = some (.exit 2)) ∧ Hid (CS V bj (bj + 1) r (bk + 1) (bk + 1) (.deferred (some [])) (.deferred (some [])) kf Wi) ∧ Hid (kf = NL ∨ (kf : Int) = x1) ∧ kf ≤ NL := by
        rcases hq with hq | ⟨r, kf, h2, h3, h4, h5, h6⟩
        · rw [HL.out.1, HL.out.2] at hq
          exact ⟨R2, NL, (fun e => by rw [rs2] at e; cases e), .inl rp2, hq, .inl rfl, Nat.le_refl _⟩
        · exact ⟨r, kf, (fun e => by rw [h2] at e; cases e), .inr h3, h4, .inr h5, h6⟩
      obtain ⟨r2, jf, hr2, hr3, HC, HCJ, hjl⟩ := COM
      refine ⟨r2, HC.out.lp, hr2, hr3, ?_⟩
      have vm := HC.out.loop { r2 with state := .exhausted } (by omega) (by omega) (by omega) (by omega)
      obtain ⟨Vi, hVi⟩ : ∃ Vi, Wi.putObj (bj + 1) (.loop { r2 with state := .exhausted }) = Vi := ⟨_, rfl⟩
      rw [hVi] at vm ⊢
      have HVI : Hid (CS wc bk (bk + 1 + 1) { R with state := .busy } (bk + 1) (bk + 1) (.deferred (some [])) (.deferred (some [])) k Vi) := HV.out.below vm.be
      have HGI : Hid (Vi.heap[rb]? = some (.cells #[.int .i64 (rs1 : Int), .int .i64 (rk1 : Int), .string ⟨rt1.toArray⟩] 24 (0, 0))) := keepZ vm.be HG.out
      have HBJ : Hid (Vi.heap[bj]? = some (.cells #[.int .i64 (jf : Int)] 3 (0, 0))) := vm.bx
      clear hVi vm hr2 hr3 HC HY2 p0 hq hR2 rs2 rp2 rf2 rq2 hv
      have HK : Hid (∀ U, Below Vi.heap.size Vi U → U.cell? ⟨bk, 0, none⟩ = some (.int .i64 (k : Int)) ∧ U.cell? ⟨B, 0, none⟩ = some (.slice (some ⟨g, o2, none⟩) NL cw) ∧ (∀ j, U.cell? ⟨rb, j, none⟩ = (#[.int .i64 (rs1 : Int), .int .i64 (rk1 : Int), .string ⟨rt1.toArray⟩] : Array Value)[j]?) ∧ U.cell? ⟨g, o2 + k * 3, none⟩ = some (.int .i64 (rs1 : Int)) ∧ U.cell? ⟨g, o2 + k * 3 + 1, none⟩ = some (.int .i64 (rk1 : Int)) ∧ U.cell? ⟨g, o2 + k * 3 + 2, none⟩ = some (.string ⟨rt1.toArray⟩)) := fun U hU => by
        obtain ⟨y1, y2, y3, y4⟩ := HRC.out U (bel0Z HVI.out.be hU)
        exact ⟨(cellsZ (keepZ hU HVI.out.bx)).1 0, y1, (cellsZ (keepZ hU HGI.out)).1, y2, y3, y4⟩
      have HK2 : Hid (∀ U, Below Vi.heap.size Vi U → U.cell? ⟨bj, 0, none⟩ = some (.int .i64 (jf : Int)) ∧ U.cell? ⟨S, 0, none⟩ = some (.int .i64 x1)) := fun U hU => ⟨(cellsZ (keepZ hU HBJ.out)).1 0, (cellsZ (HBE.out U (bel0Z HVI.out.be hU)).u).1 0⟩
      have i0 : (0 : Int) ≤ (k : Int) := by omega
      have i1 : (k : Int) < (NL : Int) := by omega
      have i2 : ¬ (k : Int) ≥ (NL : Int) := by omega
      have HX5 : ∀ W5, Below Vi.heap.size Vi W5 → Hid (CS wc bk (bk + 1 + 1) { R with state := .busy } (bk + 1) (bk + 1) (.deferred (some [])) (.deferred (some [])) k W5) := fun W5 hW5 => HVI.out.below hW5
      by_cases hjn : (jf : Int) = (NL : Int)
      · have e78 : ((jf : Int) != (NL : Int)) = false := by simp [hjn]
        gi_wp2_with fail
        refine quiet_in3 (C := fun U => Below Vi.heap.size Vi U) (by kernel_rfl) (by kernel_rfl) (by kernel_rfl) (show Below _ _ _ from (Below.refl _ _).drew) ?_
        go_big_quiet_want
        refine ⟨.int .i64 (k : Int), fun W hW => ?_, ?_⟩
        · obtain ⟨s1, s2, s3, s4, s5, s6⟩ := HK.out W hW
          go_simp
        go_big_quiet_on
        simp only [Act.put, List.setIfInBounds_toArray, List.set_cons_zero, List.set_cons_succ]
        go_big_quiet_want
        refine ⟨.slice (some ⟨g, o2, none⟩) NL cw, fun W hW => ?_, ?_⟩
        · obtain ⟨s1, s2, s3, s4, s5, s6⟩ := HK.out W hW
          go_simp
        go_big_quiet_on
        simp only [Act.put, List.setIfInBounds_toArray, List.set_cons_zero, List.set_cons_succ]
        go_big_quiet_want
        refine ⟨.int .i64 (NL : Int), fun W hW => ?_, ?_⟩
        · go_simp
        go_big_quiet_on
        simp only [Act.put, List.setIfInBounds_toArray, List.set_cons_zero, List.set_cons_succ]
        go_big_quiet_want
        refine ⟨.bool false, fun W hW => ?_, ?_⟩
        · go_simp
        go_big_quiet_on
        simp only [Act.put, List.setIfInBounds_toArray, List.set_cons_zero, List.set_cons_succ]
        go_big_quiet_want
        go_big_quiet_op
        go_big_quiet_on
        go_big_quiet_want
        refine ⟨.agg #[.int .i64 (rs1 : Int), .int .i64 (rk1 : Int), .string ⟨rt1.toArray⟩], fun W hW => ?_, ?_⟩
        · obtain ⟨s1, s2, s3, s4, s5, s6⟩ := HK.out W hW
          go_simp
        go_big_quiet_on
        simp only [Act.put, List.setIfInBounds_toArray, List.set_cons_zero, List.set_cons_succ]
        go_big_quiet_want
        refine ⟨.slice (some ⟨g, o2, none⟩) NL cw, fun W hW => ?_, ?_⟩
        · obtain ⟨s1, s2, s3, s4, s5, s6⟩ := HK.out W hW
          go_simp
        go_big_quiet_on
        simp only [Act.put, List.setIfInBounds_toArray, List.set_cons_zero, List.set_cons_succ]
        go_big_quiet_want
        refine ⟨.int .i64 (k : Int), fun W hW => ?_, ?_⟩
        · obtain ⟨s1, s2, s3, s4, s5, s6⟩ := HK.out W hW
          go_simp
        go_big_quiet_on
        simp only [Act.put, List.setIfInBounds_toArray, List.set_cons_zero, List.set_cons_succ]
        go_big_quiet_want
        refine ⟨.pointer (some ⟨g, o2 + k * 3, none⟩), fun W hW => ?_, ?_⟩
        · go_simp
        go_big_quiet_on
        simp only [Act.put, List.setIfInBounds_toArray, List.set_cons_zero, List.set_cons_succ]
        go_big_quiet_want
        refine ⟨.agg #[.int .i64 (rs1 : Int), .int .i64 (rk1 : Int), .string ⟨rt1.toArray⟩], fun W hW => ?_, ?_⟩
        · obtain ⟨s1, s2, s3, s4, s5, s6⟩ := HK.out W hW
          go_simp
        go_big_quiet_on
        simp only [Act.put, List.setIfInBounds_toArray, List.set_cons_zero, List.set_cons_succ]
        go_big_quiet_want
        refine ⟨.bool false, fun W hW => ?_, ?_⟩
        · go_simp
        go_big_quiet_on
        simp only [Act.put, List.setIfInBounds_toArray, List.set_cons_zero, List.set_cons_succ]
        go_big_quiet_want
        refine ⟨.bool false, fun W hW => ?_, ?_⟩
        · go_simp
        go_big_quiet_on
        simp only [Act.put, List.setIfInBounds_toArray, List.set_cons_zero, List.set_cons_succ]
        go_big_quiet_want
        go_big_quiet_op
        go_big_quiet_on
        go_big_quiet_want
        refine ⟨.int .i64 (jf : Int), fun W hW => ?_, ?_⟩
        · obtain ⟨s7, s8⟩ := HK2.out W hW
          obtain ⟨s1, s2, s3, s4, s5, s6⟩ := HK.out W hW
          go_simp
        go_big_quiet_on
        simp only [Act.put, List.setIfInBounds_toArray, List.set_cons_zero, List.set_cons_succ]
        go_big_quiet_want
        refine ⟨.slice (some ⟨g, o2, none⟩) NL cw, fun W hW => ?_, ?_⟩
        · obtain ⟨s7, s8⟩ := HK2.out W hW
          obtain ⟨s1, s2, s3, s4, s5, s6⟩ := HK.out W hW
          go_simp
        go_big_quiet_on
        simp only [Act.put, List.setIfInBounds_toArray, List.set_cons_zero, List.set_cons_succ]
        go_big_quiet_want
        refine ⟨.int .i64 (NL : Int), fun W hW => ?_, ?_⟩
        · go_simp
        go_big_quiet_on
        simp only [Act.put, List.setIfInBounds_toArray, List.set_cons_zero, List.set_cons_succ]
        go_big_quiet_want
        refine ⟨.bool false, fun W hW => ?_, ?_⟩
        · go_simp
        go_big_quiet_on
        simp only [Act.put, List.setIfInBounds_toArray, List.set_cons_zero, List.set_cons_succ]
        go_big_quiet_want
        go_big_quiet_op
        go_big_quiet_on
        go_big_quiet_skip
        go_big_quiet_skip
        go_big_quiet_skip
        go_big_quiet_want
        refine ⟨.bool false, fun W hW => ?_, ?_⟩
        · go_simp
        go_big_quiet_on
        simp only [Act.put, List.setIfInBounds_toArray, List.set_cons_zero, List.set_cons_succ]
        go_big_quiet_want
        refine ⟨.bool false, fun W hW => ?_, ?_⟩
        · go_simp
        go_big_quiet_on
        simp only [Act.put, List.setIfInBounds_toArray, List.set_cons_zero, List.set_cons_succ]
        refine wpQuiet_nil ?_
        intro W5 hW5
        have HM5 := HX5 W5 hW5
        clear hW5 HK HK2 HVI HGI HBJ HX5 HRC HG i2 hjn e78
        obtain ⟨k1, hk1⟩ : ∃ k1 : Nat, k + 1 = k1 := ⟨_, rfl⟩
        have Hk1 : Hid (k + 1 = k1) := hk1
        have i3 : (k : Int) + 1 = (k1 : Int) := by omega
        have i4 : IntKind.i64.wrap (k1 : Int) = (k1 : Int) := by rw [IntKind.wrap_i64]; omega
        have i5 : k1 ≤ NL := by omega
        clear hk1
        obtain ⟨c7, f7⟩ := cellsZ HM5.out.bx
        obtain ⟨W8, hW8⟩ : ∃ W8, W5.setCell ⟨bk, 0, none⟩ (.int .i64 (k1 : Int)) = W8 := ⟨_, rfl⟩
        have HM8 : Hid (CS wc bk (bk + 1 + 1) { R with state := .busy } (bk + 1) (bk + 1) (.deferred (some [])) (.deferred (some [])) k1 W8) := by rw [← hW8]; exact HM5.out.set (by omega) (by omega) (by omega) (by omega) k1
        have c8 := (cellsZ HM8.out.bx).1 0
        have u8 := (cellsZ (HBE.out _ (HM8.out.be)).a).1 0
        obtain ⟨tb, h9'⟩ : ∃ tb, ((k1 : Int) == x2) = tb := ⟨_, rfl⟩
        have H9 : Hid (tb = true → (k1 : Int) = x2) := fun h => by rw [h] at h9'; simpa using h9'
        cases tb
        · gi_wp2_with fail
          refine ⟨HM8.out.lp, ?_⟩
          rw [Hk1.out]
          exact HM8.out.loop R (by omega) (by omega) (by omega) (by omega)
        · gi_wp2_with fail
          exact ⟨HM8.out.lp, _, k1, rfl, rfl, HM8.out.loop _ (by omega) (by omega) (by omega) (by omega), H9.out (by simp), i5⟩
      · have e78 : ((jf : Int) != (NL : Int)) = true := by simp [hjn]
        have hjx : (jf : Int) = x1 := by rcases HCJ.out with h | h <;> omega
        have e82 : ((jf : Int) != x1) = false := by simp [hjx]
        clear hjx
        gi_wp2_with fail
        refine quiet_in3 (C := fun U => Below Vi.heap.size Vi U) (by kernel_rfl) (by kernel_rfl) (by kernel_rfl) (show Below _ _ _ from (Below.refl _ _).drew) ?_
        go_big_quiet_want
        refine ⟨.int .i64 (k : Int), fun W hW => ?_, ?_⟩
        · obtain ⟨s1, s2, s3, s4, s5, s6⟩ := HK.out W hW
          go_simp
        go_big_quiet_on
        simp only [Act.put, List.setIfInBounds_toArray, List.set_cons_zero, List.set_cons_succ]
        go_big_quiet_want
        refine ⟨.slice (some ⟨g, o2, none⟩) NL cw, fun W hW => ?_, ?_⟩
        · obtain ⟨s1, s2, s3, s4, s5, s6⟩ := HK.out W hW
          go_simp
        go_big_quiet_on
        simp only [Act.put, List.setIfInBounds_toArray, List.set_cons_zero, List.set_cons_succ]
        go_big_quiet_want
        refine ⟨.int .i64 (NL : Int), fun W hW => ?_, ?_⟩
        · go_simp
        go_big_quiet_on
        simp only [Act.put, List.setIfInBounds_toArray, List.set_cons_zero, List.set_cons_succ]
        go_big_quiet_want
        refine ⟨.bool false, fun W hW => ?_, ?_⟩
        · go_simp
        go_big_quiet_on
        simp only [Act.put, List.setIfInBounds_toArray, List.set_cons_zero, List.set_cons_succ]
        go_big_quiet_want
        go_big_quiet_op
        go_big_quiet_on
        go_big_quiet_want
        refine ⟨.agg #[.int .i64 (rs1 : Int), .int .i64 (rk1 : Int), .string ⟨rt1.toArray⟩], fun W hW => ?_, ?_⟩
        · obtain ⟨s1, s2, s3, s4, s5, s6⟩ := HK.out W hW
          go_simp
        go_big_quiet_on
        simp only [Act.put, List.setIfInBounds_toArray, List.set_cons_zero, List.set_cons_succ]
        go_big_quiet_want
        refine ⟨.slice (some ⟨g, o2, none⟩) NL cw, fun W hW => ?_, ?_⟩
        · obtain ⟨s1, s2, s3, s4, s5, s6⟩ := HK.out W hW
          go_simp
        go_big_quiet_on
        simp only [Act.put, List.setIfInBounds_toArray, List.set_cons_zero, List.set_cons_succ]
        go_big_quiet_want
        refine ⟨.int .i64 (k : Int), fun W hW => ?_, ?_⟩
        · obtain ⟨s1, s2, s3, s4, s5, s6⟩ := HK.out W hW
          go_simp
        go_big_quiet_on
        simp only [Act.put, List.setIfInBounds_toArray, List.set_cons_zero, List.set_cons_succ]
        go_big_quiet_want
        refine ⟨.pointer (some ⟨g, o2 + k * 3, none⟩), fun W hW => ?_, ?_⟩
        · go_simp
        go_big_quiet_on
        simp only [Act.put, List.setIfInBounds_toArray, List.set_cons_zero, List.set_cons_succ]
        go_big_quiet_want
        refine ⟨.agg #[.int .i64 (rs1 : Int), .int .i64 (rk1 : Int), .string ⟨rt1.toArray⟩], fun W hW => ?_, ?_⟩
        · obtain ⟨s1, s2, s3, s4, s5, s6⟩ := HK.out W hW
          go_simp
        go_big_quiet_on
        simp only [Act.put, List.setIfInBounds_toArray, List.set_cons_zero, List.set_cons_succ]
        go_big_quiet_want
        refine ⟨.bool false, fun W hW => ?_, ?_⟩
        · go_simp
        go_big_quiet_on
        simp only [Act.put, List.setIfInBounds_toArray, List.set_cons_zero, List.set_cons_succ]
        go_big_quiet_want
        refine ⟨.bool false, fun W hW => ?_, ?_⟩
        · go_simp
        go_big_quiet_on
        simp only [Act.put, List.setIfInBounds_toArray, List.set_cons_zero, List.set_cons_succ]
        go_big_quiet_want
        go_big_quiet_op
        go_big_quiet_on
        go_big_quiet_want
        refine ⟨.int .i64 (jf : Int), fun W hW => ?_, ?_⟩
        · obtain ⟨s7, s8⟩ := HK2.out W hW
          obtain ⟨s1, s2, s3, s4, s5, s6⟩ := HK.out W hW
          go_simp
        go_big_quiet_on
        simp only [Act.put, List.setIfInBounds_toArray, List.set_cons_zero, List.set_cons_succ]
        go_big_quiet_want
        refine ⟨.slice (some ⟨g, o2, none⟩) NL cw, fun W hW => ?_, ?_⟩
        · obtain ⟨s7, s8⟩ := HK2.out W hW
          obtain ⟨s1, s2, s3, s4, s5, s6⟩ := HK.out W hW
          go_simp
        go_big_quiet_on
        simp only [Act.put, List.setIfInBounds_toArray, List.set_cons_zero, List.set_cons_succ]
        go_big_quiet_want
        refine ⟨.int .i64 (NL : Int), fun W hW => ?_, ?_⟩
        · go_simp
        go_big_quiet_on
        simp only [Act.put, List.setIfInBounds_toArray, List.set_cons_zero, List.set_cons_succ]
        go_big_quiet_want
        refine ⟨.bool true, fun W hW => ?_, ?_⟩
        · go_simp
        go_big_quiet_on
        simp only [Act.put, List.setIfInBounds_toArray, List.set_cons_zero, List.set_cons_succ]
        go_big_quiet_want
        go_big_quiet_op
        go_big_quiet_on
        go_big_quiet_want
        refine ⟨.int .i64 (jf : Int), fun W hW => ?_, ?_⟩
        · obtain ⟨s7, s8⟩ := HK2.out W hW
          obtain ⟨s1, s2, s3, s4, s5, s6⟩ := HK.out W hW
          go_simp
        go_big_quiet_on
        simp only [Act.put, List.setIfInBounds_toArray, List.set_cons_zero, List.set_cons_succ]
        go_big_quiet_want
        refine ⟨.int .i64 x1, fun W hW => ?_, ?_⟩
        · obtain ⟨s7, s8⟩ := HK2.out W hW
          obtain ⟨s1, s2, s3, s4, s5, s6⟩ := HK.out W hW
          go_simp
        go_big_quiet_on
        simp only [Act.put, List.setIfInBounds_toArray, List.set_cons_zero, List.set_cons_succ]
        go_big_quiet_want
        refine ⟨.bool false, fun W hW => ?_, ?_⟩
        · go_simp
        go_big_quiet_on
        simp only [Act.put, List.setIfInBounds_toArray, List.set_cons_zero, List.set_cons_succ]
        go_big_quiet_want
        refine ⟨.bool false, fun W hW => ?_, ?_⟩
        · go_simp
        go_big_quiet_on
        simp only [Act.put, List.setIfInBounds_toArray, List.set_cons_zero, List.set_cons_succ]
        go_big_quiet_want
        refine ⟨.bool false, fun W hW => ?_, ?_⟩
        · go_simp
        go_big_quiet_on
        simp only [Act.put, List.setIfInBounds_toArray, List.set_cons_zero, List.set_cons_succ]
        refine wpQuiet_nil ?_
        intro W5 hW5
        have HM5 := HX5 W5 hW5
        clear hW5 HK HK2 HVI HGI HBJ HX5 HRC HG i2 hjn e78 e82
        obtain ⟨k1, hk1⟩ : ∃ k1 : Nat, k + 1 = k1 := ⟨_, rfl⟩
        have Hk1 : Hid (k + 1 = k1) := hk1
        have i3 : (k : Int) + 1 = (k1 : Int) := by omega
        have i4 : IntKind.i64.wrap (k1 : Int) = (k1 : Int) := by rw [IntKind.wrap_i64]; omega
        have i5 : k1 ≤ NL := by omega
        clear hk1
        obtain ⟨c7, f7⟩ := cellsZ HM5.out.bx
        obtain ⟨W8, hW8⟩ : ∃ W8, W5.setCell ⟨bk, 0, none⟩ (.int .i64 (k1 : Int)) = W8 := ⟨_, rfl⟩
        have HM8 : Hid (CS wc bk (bk + 1 + 1) { R with state := .busy } (bk + 1) (bk + 1) (.deferred (some [])) (.deferred (some [])) k1 W8) := by rw [← hW8]; exact HM5.out.set (by omega) (by omega) (by omega) (by omega) k1
        have c8 := (cellsZ HM8.out.bx).1 0
        have u8 := (cellsZ (HBE.out _ (HM8.out.be)).a).1 0
        obtain ⟨tb, h9'⟩ : ∃ tb, ((k1 : Int) == x2) = tb := ⟨_, rfl⟩
        have H9 : Hid (tb = true → (k1 : Int) = x2) := fun h => by rw [h] at h9'; simpa using h9'
        cases tb
        · gi_wp2_with fail
          refine ⟨HM8.out.lp, ?_⟩
          rw [Hk1.out]
          exact HM8.out.loop R (by omega) (by omega) (by omega) (by omega)
        · gi_wp2_with fail
          exact ⟨HM8.out.lp, _, k1, rfl, rfl, HM8.out.loop _ (by omega) (by omega) (by omega) (by omega), H9.out (by simp), i5⟩
    rintro e W' (⟨he, h1⟩ | ⟨he, c, h⟩)
    · exact .inl ⟨he, h1⟩
    · exact .inr ⟨he, h⟩
  refine (walk1_in 7 (by omega) (bk + 1 + 1) (B + 1) D p n c HN.out (by omega) hc (fun k => CS wc bk (bk + 1 + 1) R (bk + 1) (bk + 1) (.deferred (some [])) (.deferred (some [])) k) (JL wc bk (bk + 1 + 1) 0 (bk + 1) (bk + 1) (.deferred (some [])) (.deferred (some [])) NL x2) X (fun k W W' h hb => h.below hb) (fun k W h => ⟨(cellsZ (HBE.out W h.be).d).1 0, (HBE.out W h.be).dc⟩) HY q0).mono ?_
  rintro e Wa ⟨hv, hq⟩
  refine ⟨hv, ?_⟩
  have COM : ∃ (r : Loop) (kf : Nat), r.state ≠ .busy ∧ (r.pending = none ∨ r.pending = some (.exit 0)) ∧ Hid (CS wc bk (bk + 1 + 1) r (bk + 1) (bk + 1) (.deferred (some [])) (.deferred (some [])) kf Wa) ∧ Hid (kf = NL ∨ (kf : Int) = x2) ∧ kf ≤ NL := by
    rcases hq with hq | ⟨r, kf, h2, h3, h4, h5, h6⟩
    · rw [HL.out.1, HL.out.2] at hq
      exact ⟨R, NL, (fun e => by rw [rs] at e; cases e), .inl rp, hq, .inl rfl, Nat.le_refl _⟩
    · exact ⟨r, kf, (fun e => by rw [h2] at e; cases e), .inr h3, h4, .inr h5, h6⟩
  obtain ⟨ra, kf, hr2, hr3, HC, HCK, hkl⟩ := COM
  refine ⟨ra, HC.out.lp, hr2, hr3, ?_⟩
  have vm := HC.out.loop { ra with state := .exhausted } (by omega) (by omega) (by omega) (by omega)
  obtain ⟨Va, hVa⟩ : ∃ Va, Wa.putObj (bk + 1 + 1) (.loop { ra with state := .exhausted }) = Va := ⟨_, rfl⟩
  rw [hVa] at vm ⊢
  have HVA : Hid (Va.heap[bk]? = some (.cells #[.int .i64 (kf : Int)] 3 (0, 0)) ∧ Va.heap[bk + 1]? = some (.deferred (some [])) ∧ Below wc.heap.size wc Va) := ⟨vm.bx, vm.d1, vm.be⟩
  clear hVa vm hr2 hr3 HC HY q0 hq hR rs rp rf rq hv
  gi_upto_region 22 with fail
  gi_cut [98] from 120 (fun v98 wz => v98 = .bool false ∧ Hid (wz.heap[bk]? = some (.cells #[.int .i64 (kf : Int)] 3 (0, 0)) ∧ wz.heap[bk + 1]? = some (.deferred (some [])) ∧ Below wc.heap.size wc wz))
  case first =>
    obtain ⟨d4, d5⟩ := cellsZ HVA.out.1
    have d2 := (cellsZ (HBE.out Va HVA.out.2.2).a).1 0
    have d3 := (cellsZ (HBE.out Va HVA.out.2.2).m).1 0
    by_cases hkn : (kf : Int) = (NL : Int)
    · have e1 : ((kf : Int) != (NL : Int)) = false := by simp [hkn]
      clear hkn
      gi_wp2_with fail
      gi_meet
      exact ⟨rfl, HVA⟩
    · have e1 : ((kf : Int) != (NL : Int)) = true := by simp [hkn]
      have hkx : (kf : Int) = x2 := by rcases HCK.out with h | h <;> omega
      have e2 : ((kf : Int) != x2) = false := by simp [hkx]
      clear hkn hkx
      gi_wp2_with fail
      gi_meet
      exact ⟨rfl, HVA⟩
  case rest =>
    obtain ⟨rfl, HVZ⟩ := hcut
    rename World => Vz
    clear HVA
    obtain ⟨d4, d5⟩ := cellsZ HVZ.out.1
    obtain ⟨Vb, hVb⟩ : ∃ Vb, Vz.setCell ⟨bk, 0, none⟩ (.int .i64 0) = Vb := ⟨_, rfl⟩
    have HVB : Hid (Vb.heap[bk]? = some (.cells #[.int .i64 ((0 : Nat) : Int)] 3 (0, 0)) ∧ Vb.heap[bk + 1]? = some (.deferred (some [])) ∧ Below wc.heap.size wc Vb) := by
      rw [← hVb]
      exact ⟨by rw [set_getZ _ HVZ.out.1]; rfl, (Below.heap_setCell _ _ _ _ (by show bk + 1 ≠ bk; omega)).trans HVZ.out.2.1, HVZ.out.2.2.setCell (p := ⟨bk, 0, none⟩) (by show wc.heap.size ≤ bk; omega) _⟩
    have cqb := (cellsZ (HBE.out Vb HVB.out.2.2).f).1 0
    gi_wp2_with fail
    clear cqb d4 d5 hVb HVZ
    obtain ⟨z, hz⟩ : ∃ s, Vb.heap.size = s := ⟨_, rfl⟩
    refine range_by1 (id := 4) rfl (by omega) (gf := 22) (lb := #[.pointer (some ⟨B + 1, 0, none⟩)]) rfl trivial (enters_of Try.func22 (by kernel_rfl) rfl) (fun _ _ h => wpIn_exit h) ?_
    intro fn3 hfn3
    simp only [hz]
    generalize hR3 : recOf fn3 _ _ _ _ _ = R3
    have rs3 : R3.state = .ready := by rw [← hR3]; rfl
    have rp3 : R3.pending = none := by rw [← hR3]; rfl
    have rf3 : R3.fn = fn3 := by rw [← hR3]; rfl
    have rq3 : R3.params = #[100, 101] := by rw [← hR3]; rfl
    have hzb : bk + 1 < z := by rw [← hz]; exact lt_getZ HVB.out.2.1
    obtain ⟨X3, hX3⟩ : ∃ X3, (Vb.alloc (.deferred (some []))).alloc (.loop R3) = X3 := ⟨_, rfl⟩
    have q0 : CS wc bk (z + 1) R3 (bk + 1) z (.deferred (some [])) (.deferred (some [])) 0 X3 := by
      have k0 := alloc_getZ Vb (.deferred (some []))
      have k1 := alloc_getZ (Vb.alloc (.deferred (some []))) (.loop R3)
      simp only [World.size_alloc, hz] at k0 k1
      have b := belAZ (belAZ (Below.refl Vb.heap.size Vb) (.deferred (some []))) (.loop R3)
      rw [← hX3]
      exact ⟨keepZ b HVB.out.1, k1, keepZ b HVB.out.2.1, keepZ (belAZ (Below.refl _ _) _) k0, bel0Z HVB.out.2.2 b⟩
    rw [hX3]
    clear hX3 HVB
    have HY3 : ∀ k r W, (whL 1 D)[k]? = some r → CS wc bk (z + 1) R3 (bk + 1) z (.deferred (some [])) (.deferred (some [])) k W → YieldAt Fence.wide (6 + 1 - 1) Try.prog (z + 1) #[.int .i64 (plc D k : Int), rcV r] W fun e W' => (e = .returned (.bool true) ∧ CS wc bk (z + 1) R3 (bk + 1) z (.deferred (some [])) (.deferred (some [])) (k + 1) W') ∨ (e = .returned (.bool false) ∧ False) := by
      intro k r W hkr q
      rw [HL.out.1] at hkr
      have hk3 : k < NL := by rw [← HL.out.2]; exact (List.getElem?_eq_some_iff.1 hkr).1
      obtain ⟨rs1, rk1, rt1⟩ := r
      simp only [rcV]
      obtain ⟨g, o2, hpw, hc0, hc1, hc2⟩ := HF.out.1.mc k _ hkr
      simp only at hc0 hc1 hc2
      obtain ⟨W1, hW1⟩ : ∃ W1, W.alloc (.cells #[.int .i64 (rs1 : Int), .int .i64 (rk1 : Int), .string ⟨rt1.toArray⟩] 24 (0, 0)) = W1 := ⟨_, rfl⟩
      have hB1 : Below W.heap.size W W1 := by rw [← hW1]; exact belAZ (Below.refl _ _) _
      have hg1 : W1.heap[W.heap.size]? = some (.cells #[.int .i64 (rs1 : Int), .int .i64 (rk1 : Int), .string ⟨rt1.toArray⟩] 24 (0, 0)) := by rw [← hW1]; exact alloc_getZ _ _
      have q1 := q.below hB1
      have qb := q1.loop { R3 with state := .busy } (by omega) (by omega) (by omega) (by omega)
      refine (round_byA (F := Fence.wide) (m := 6) (In := fun W' => CS wc bk (z + 1) R3 (bk + 1) z (.deferred (some [])) (.deferred (some [])) (k + 1) W') (Out := fun _ W' => False) (by rw [rf3]; exact hfn3) q.lp rs3 rp3 (by rw [rq3]; rfl) ?aHY3 W1 q1.lp ?hasHY3 ?hbHY3).mono ?_
      case hasHY3 =>
        intro K hK
        rw [congrArg Loop.assign hR3.symm, rq3, congrArg Loop.tmps hR3.symm]
        simp only [recOf]
        gi_wp2
        exact hK
      case hbHY3 =>
        have hlW : (z + 1) < W.heap.size := lt_getZ q.lp
        have hgb : (W1.putObj (z + 1) (.loop { R3 with state := .busy })).heap[W.heap.size]? = some (.cells #[.int .i64 (rs1 : Int), .int .i64 (rk1 : Int), .string ⟨rt1.toArray⟩] 24 (0, 0)) := put_otherZ hg1 (by omega)
        obtain ⟨V3, hV⟩ : ∃ V, W1.putObj (z + 1) (.loop { R3 with state := .busy }) = V := ⟨_, rfl⟩
        rw [hV] at qb hgb ⊢
        rw [congrArg Loop.body hR3.symm]
        simp only [recOf]
        obtain ⟨rb3, hrb3⟩ : ∃ s, W.heap.size = s := ⟨_, rfl⟩
        rw [hrb3] at hgb
        have HV3 : Hid (CS wc bk (z + 1) { R3 with state := .busy } (bk + 1) z (.deferred (some [])) (.deferred (some [])) k V3) := qb
        have HG3 : Hid (V3.heap[rb3]? = some (.cells #[.int .i64 (rs1 : Int), .int .i64 (rk1 : Int), .string ⟨rt1.toArray⟩] 24 (0, 0))) := hgb
        have HRC3 : Hid (∀ U, Below wc.heap.size wc U → U.cell? ⟨B, 0, none⟩ = some (.slice (some ⟨g, o2, none⟩) NL cw) ∧ U.cell? ⟨g, o2 + k * 3, none⟩ = some (.int .i64 (rs1 : Int)) ∧ U.cell? ⟨g, o2 + k * 3 + 1, none⟩ = some (.int .i64 (rk1 : Int)) ∧ U.cell? ⟨g, o2 + k * 3 + 2, none⟩ = some (.string ⟨rt1.toArray⟩)) := fun U hU =>
          ⟨by rw [← hpw]; exact (cellsZ (keepZ hU HF.out.1.m)).1 0, (hU.cell (World.block_lt_of_cell? wc _ hc0)).trans hc0, (hU.cell (World.block_lt_of_cell? wc _ hc1)).trans hc1, (hU.cell (World.block_lt_of_cell? wc _ hc2)).trans hc2⟩
        clear hV hW1 hB1 hg1 q1 qb hgb hlW q hkr hc0 hc1 hc2 hpw
        rw [hrb3]
        have HK : Hid (∀ U, Below V3.heap.size V3 U → U.cell? ⟨bk, 0, none⟩ = some (.int .i64 (k : Int)) ∧ U.cell? ⟨B, 0, none⟩ = some (.slice (some ⟨g, o2, none⟩) NL cw) ∧ (∀ j, U.cell? ⟨rb3, j, none⟩ = (#[.int .i64 (rs1 : Int), .int .i64 (rk1 : Int), .string ⟨rt1.toArray⟩] : Array Value)[j]?) ∧ U.cell? ⟨g, o2 + k * 3, none⟩ = some (.int .i64 (rs1 : Int)) ∧ U.cell? ⟨g, o2 + k * 3 + 1, none⟩ = some (.int .i64 (rk1 : Int)) ∧ U.cell? ⟨g, o2 + k * 3 + 2, none⟩ = some (.string ⟨rt1.toArray⟩)) := fun U hU => by
          obtain ⟨y1, y2, y3, y4⟩ := HRC3.out U (bel0Z HV3.out.be hU)
          exact ⟨(cellsZ (keepZ hU HV3.out.bx)).1 0, y1, (cellsZ (keepZ hU HG3.out)).1, y2, y3, y4⟩
        have i0 : (0 : Int) ≤ (k : Int) := by omega
        have i1 : (k : Int) < (NL : Int) := by omega
        have i2 : ¬ (k : Int) ≥ (NL : Int) := by omega
        gi_wp2_with fail
        refine quiet_in3 (C := fun U => Below V3.heap.size V3 U) (by kernel_rfl) (by kernel_rfl) (by kernel_rfl) (show Below _ _ _ from (Below.refl _ _).drew) ?_
        go_big_quiet_want
        refine ⟨.int .i64 (k : Int), fun W hW => ?_, ?_⟩
        · obtain ⟨s1, s2, s3, s4, s5, s6⟩ := HK.out W hW
          go_simp
        go_big_quiet_on
        simp only [Act.put, List.setIfInBounds_toArray, List.set_cons_zero, List.set_cons_succ]
        go_big_quiet_want
        refine ⟨.slice (some ⟨g, o2, none⟩) NL cw, fun W hW => ?_, ?_⟩
        · obtain ⟨s1, s2, s3, s4, s5, s6⟩ := HK.out W hW
          go_simp
        go_big_quiet_on
        simp only [Act.put, List.setIfInBounds_toArray, List.set_cons_zero, List.set_cons_succ]
        go_big_quiet_want
        refine ⟨.int .i64 (NL : Int), fun W hW => ?_, ?_⟩
        · go_simp
        go_big_quiet_on
        simp only [Act.put, List.setIfInBounds_toArray, List.set_cons_zero, List.set_cons_succ]
        go_big_quiet_want
        refine ⟨.bool false, fun W hW => ?_, ?_⟩
        · go_simp
        go_big_quiet_on
        simp only [Act.put, List.setIfInBounds_toArray, List.set_cons_zero, List.set_cons_succ]
        go_big_quiet_want
        go_big_quiet_op
        go_big_quiet_on
        go_big_quiet_want
        refine ⟨.agg #[.int .i64 (rs1 : Int), .int .i64 (rk1 : Int), .string ⟨rt1.toArray⟩], fun W hW => ?_, ?_⟩
        · obtain ⟨s1, s2, s3, s4, s5, s6⟩ := HK.out W hW
          go_simp
        go_big_quiet_on
        simp only [Act.put, List.setIfInBounds_toArray, List.set_cons_zero, List.set_cons_succ]
        go_big_quiet_want
        refine ⟨.slice (some ⟨g, o2, none⟩) NL cw, fun W hW => ?_, ?_⟩
        · obtain ⟨s1, s2, s3, s4, s5, s6⟩ := HK.out W hW
          go_simp
        go_big_quiet_on
        simp only [Act.put, List.setIfInBounds_toArray, List.set_cons_zero, List.set_cons_succ]
        go_big_quiet_want
        refine ⟨.int .i64 (k : Int), fun W hW => ?_, ?_⟩
        · obtain ⟨s1, s2, s3, s4, s5, s6⟩ := HK.out W hW
          go_simp
        go_big_quiet_on
        simp only [Act.put, List.setIfInBounds_toArray, List.set_cons_zero, List.set_cons_succ]
        go_big_quiet_want
        refine ⟨.pointer (some ⟨g, o2 + k * 3, none⟩), fun W hW => ?_, ?_⟩
        · go_simp
        go_big_quiet_on
        simp only [Act.put, List.setIfInBounds_toArray, List.set_cons_zero, List.set_cons_succ]
        go_big_quiet_want
        refine ⟨.agg #[.int .i64 (rs1 : Int), .int .i64 (rk1 : Int), .string ⟨rt1.toArray⟩], fun W hW => ?_, ?_⟩
        · obtain ⟨s1, s2, s3, s4, s5, s6⟩ := HK.out W hW
          go_simp
        go_big_quiet_on
        simp only [Act.put, List.setIfInBounds_toArray, List.set_cons_zero, List.set_cons_succ]
        go_big_quiet_want
        refine ⟨.bool false, fun W hW => ?_, ?_⟩
        · go_simp
        go_big_quiet_on
        simp only [Act.put, List.setIfInBounds_toArray, List.set_cons_zero, List.set_cons_succ]
        go_big_quiet_want
        refine ⟨.bool false, fun W hW => ?_, ?_⟩
        · go_simp
        go_big_quiet_on
        simp only [Act.put, List.setIfInBounds_toArray, List.set_cons_zero, List.set_cons_succ]
        refine wpQuiet_nil ?_
        intro W5 hW5
        have HM5 : Hid (CS wc bk (z + 1) { R3 with state := .busy } (bk + 1) z (.deferred (some [])) (.deferred (some [])) k W5) := HV3.out.below hW5
        clear hW5 HK HV3 HG3 HRC3 i2
        obtain ⟨k1, hk1⟩ : ∃ k1 : Nat, k + 1 = k1 := ⟨_, rfl⟩
        have Hk1 : Hid (k + 1 = k1) := hk1
        have i3 : (k : Int) + 1 = (k1 : Int) := by omega
        have i4 : IntKind.i64.wrap (k1 : Int) = (k1 : Int) := by rw [IntKind.wrap_i64]; omega
        have i5 : k1 ≤ NL := by omega
        clear hk1
        obtain ⟨c7, f7⟩ := cellsZ HM5.out.bx
        obtain ⟨W8, hW8⟩ : ∃ W8, W5.setCell ⟨bk, 0, none⟩ (.int .i64 (k1 : Int)) = W8 := ⟨_, rfl⟩
        have HM8 : Hid (CS wc bk (z + 1) { R3 with state := .busy } (bk + 1) z (.deferred (some [])) (.deferred (some [])) k1 W8) := by rw [← hW8]; exact HM5.out.set (by omega) (by omega) (by omega) (by omega) k1
        gi_wp2_with fail
        refine ⟨HM8.out.lp, ?_⟩
        rw [Hk1.out]
        exact HM8.out.loop R3 (by omega) (by omega) (by omega) (by omega)
      rintro e W' (⟨he, h1⟩ | ⟨he, c, h⟩)
      · exact .inl ⟨he, h1⟩
      · exact .inr ⟨he, h⟩
    refine (walk1_in 7 (by omega) (z + 1) (B + 1) D p n c HN.out (by omega) hc (fun k => CS wc bk (z + 1) R3 (bk + 1) z (.deferred (some [])) (.deferred (some [])) k) (fun _ => False) X3 (fun k W W' h hb => h.below hb) (fun k W h => ⟨(cellsZ (HBE.out W h.be).d).1 0, (HBE.out W h.be).dc⟩) HY3 q0).mono ?_
    rintro e Wc ⟨hv, hq | hq⟩
    · rw [HL.out.1, HL.out.2] at hq
      refine ⟨hv, R3, hq.lp, (fun e => by rw [rs3] at e; cases e), .inl rp3, ?_⟩
      have vm := hq.loop { R3 with state := .exhausted } (by omega) (by omega) (by omega) (by omega)
      obtain ⟨Vc, hVc⟩ : ∃ Vc, Wc.putObj (z + 1) (.loop { R3 with state := .exhausted }) = Vc := ⟨_, rfl⟩
      rw [hVc] at vm ⊢
      have HVC : Hid (Vc.heap[bk + 1]? = some (.deferred (some [])) ∧ Vc.heap[z]? = some (.deferred (some [])) ∧ Below wc.heap.size wc Vc) := ⟨vm.d1, vm.d2, vm.be⟩
      have d1 := (cellsZ vm.bx).1 0
      have d3 := (cellsZ (HBE.out Vc vm.be).m).1 0
      obtain ⟨d6, d7⟩ := cellsZ (HBE.out Vc vm.be).r
      have enn : ((NL : Int) == (NL : Int)) = true := by simp
      clear hVc vm hq q0 HY3 hR3 rs3 rp3 rf3 rq3 hv
      gi_wp2_with fail
      obtain ⟨s1, s2, s3⟩ := HSB.out
      have kR := (HBE.out Vc HVC.out.2.2).r
      have kD2 : (Vc.setCell ⟨S + 1 + 1, 0, none⟩ (.bool true)).heap[z]? = some (.deferred (some [])) := (Below.heap_setCell _ _ _ _ (by show z ≠ S + 1 + 1; omega)).trans HVC.out.2.1
      have kD1 : ((Vc.setCell ⟨S + 1 + 1, 0, none⟩ (.bool true)).putObj z (.deferred none)).heap[bk + 1]? = some (.deferred (some [])) := put_otherZ ((Below.heap_setCell _ _ _ _ (by show bk + 1 ≠ S + 1 + 1; omega)).trans HVC.out.1) (by omega)
      have kR' : (((Vc.setCell ⟨S + 1 + 1, 0, none⟩ (.bool true)).putObj z (.deferred none)).putObj (bk + 1) (.deferred none)).heap[S + 1 + 1]? = some (.cells #[.bool true] 4 (0, 0)) := put_otherZ (put_otherZ (by rw [set_getZ _ kR]; rfl) (by omega)) (by omega)
      refine ⟨by simp, .inl ⟨_, _, rfl, run_takeDeferred kD2, ?_⟩⟩
      refine ⟨by simp, .inl ⟨_, _, rfl, run_takeDeferred kD1, ?_⟩⟩
      refine ⟨_, res_boolZ _ _ (S + 1 + 1) true rfl rfl kR', rfl, ?_⟩
      have b0 : Below w.heap.size w Vc := bel0Z HF.out.2.1 HVC.out.2.2
      have b1 := b0.setCell (p := ⟨S + 1 + 1, 0, none⟩) (by show w.heap.size ≤ S + 1 + 1; omega) (.bool true)
      have b2 := b1.grown (grownBy_putObj' _ z (.deferred none)) b1.size (fun x e => by cases e; omega)
      exact b2.grown (grownBy_putObj' _ (bk + 1) (.deferred none)) b2.size (fun x e => by cases e; omega)
    · exact hq.elim
end Go.Proofs.Ytjbfkknpkldhjab

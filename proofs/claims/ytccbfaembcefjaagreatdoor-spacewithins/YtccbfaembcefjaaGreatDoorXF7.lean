import Derived.Test.YtccbfaembcefjaaGreatDoorXF6
import Derived.Test.YtccbfaembcefjaaGreatDoorXE3
namespace Go.Proofs.YtccbfaembcefjaaGreatDoor
open Go.RowKit Go.Shelf
theorem tkA_ft : ∀ (C X R : List (List UInt8 × List (List UInt8))), gdC X → gdC C → (∀ t ∈ X, FTm t) → tkA X C = some R → ∀ t ∈ R, FTm t
  | [], X, R, _, _, h, e => by
    injection e with e
    subst e
    exact h
  | u :: r, X, R, gX, gC, h, e => by
    unfold tkA at e
    split at e
    · rename_i h0
      have gu := gC u List.mem_cons_self
      refine tkA_ft r (tkT X u.1 u.2) R (tk_ok gX gu.1 gu.2).1 (fun x hx => gC x (List.mem_cons_of_mem _ hx)) (fun t ht => ?_) e
      unfold tkT at ht
      rw [if_pos h0] at ht
      exact (FTm_form (gdC_wt gX gu.1 gu.2) t ht).1
    · cases e
theorem mz_ft (b b2 : Int) {A C : List (List UInt8 × List (List UInt8))} (gA : gdC A) (gC : gdC C) (h : ∀ t ∈ A, FTm t) : ∀ t ∈ mzT b b2 A C, FTm t := fun t ht => by
  unfold mzT at ht
  split at ht
  · cases hx : tkA A C with
    | none => rw [hx] at ht; cases ht
    | some R => rw [hx] at ht; exact tkA_ft C A R gA gC h hx t ht
  · cases ht
def wnE (b b2 lim : Int) (A C : List (List UInt8 × List (List UInt8))) : Int := if (!(b == 0) && (b == b2)) = false then 11 else if lim < 0 ∨ 2048 < lim then 1 else if mzE b b2 A C = 0 then xpE (mzB b b2 A C) lim (mzT b b2 A C) else mzE b b2 A C
def wnB (b b2 lim : Int) (A C : List (List UInt8 × List (List UInt8))) : Bool := if (!(b == 0) && (b == b2)) = false then false else if lim < 0 ∨ 2048 < lim then false else if mzE b b2 A C = 0 then ((xpE (mzB b b2 A C) lim (mzT b b2 A C) == 0) && (((xpL (mzB b b2 A C) lim (mzT b b2 A C)).length : Int) == 0)) else false
theorem wn_fit (b b2 lim : Int) (A C : List (List UInt8 × List (List UInt8))) (h : (!(b == 0) && (b == b2)) = false) : wnB b b2 lim A C = false ∧ wnE b b2 lim A C = 11 := by
  unfold wnB wnE; rw [if_pos h, if_pos h]; exact ⟨rfl, rfl⟩
theorem wn_lim (b b2 lim : Int) (A C : List (List UInt8 × List (List UInt8))) (h : (!(b == 0) && (b == b2)) = true) (hl : lim < 0 ∨ 2048 < lim) : wnB b b2 lim A C = false ∧ wnE b b2 lim A C = 1 := by
  have hnf : ¬ ((!(b == 0) && (b == b2)) = false) := by rw [h]; simp
  unfold wnB wnE; rw [if_neg hnf, if_neg hnf, if_pos hl, if_pos hl]; exact ⟨rfl, rfl⟩
theorem wn_min (b b2 lim : Int) (A C : List (List UInt8 × List (List UInt8))) (h : (!(b == 0) && (b == b2)) = true) (hl : ¬ (lim < 0 ∨ 2048 < lim)) (hm : ¬ mzE b b2 A C = 0) : wnB b b2 lim A C = false ∧ wnE b b2 lim A C = mzE b b2 A C := by
  have hnf : ¬ ((!(b == 0) && (b == b2)) = false) := by rw [h]; simp
  unfold wnB wnE; rw [if_neg hnf, if_neg hnf, if_neg hl, if_neg hl, if_neg hm, if_neg hm]; exact ⟨rfl, rfl⟩
theorem wn_xp (b b2 lim : Int) (A C : List (List UInt8 × List (List UInt8))) (h : (!(b == 0) && (b == b2)) = true) (hl : ¬ (lim < 0 ∨ 2048 < lim)) (hm : mzE b b2 A C = 0) : wnB b b2 lim A C = ((xpE (mzB b b2 A C) lim (mzT b b2 A C) == 0) && (((xpL (mzB b b2 A C) lim (mzT b b2 A C)).length : Int) == 0)) ∧ wnE b b2 lim A C = xpE (mzB b b2 A C) lim (mzT b b2 A C) := by
  have hnf : ¬ ((!(b == 0) && (b == b2)) = false) := by rw [h]; simp
  unfold wnB wnE; rw [if_neg hnf, if_neg hnf, if_neg hl, if_neg hl, if_pos hm, if_pos hm]; exact ⟨rfl, rfl⟩
set_option maxRecDepth 100000 in
set_option maxHeartbeats 4000000 in
theorem sWithin_any (b b2 lim : Int) (A C : List (List UInt8 × List (List UInt8))) (V1 V2 : Value) (w : World) (h1 : SPL w 0 V1 A) (h2 : SPL w 0 V2 C) (hs1 : szC A ≤ 128) (hs2 : szC C ≤ 128) (hg1 : gdC A) (hg2 : gdC C) (hft : ∀ t ∈ A, FTm t) (hoA : ordT A = A) (hsd : ∀ y ∈ A, Sd y) :
    Calls Tryz.prog 19 #[.agg #[.int .i64 b, V1, .bool false], .agg #[.int .i64 b2, V2, .bool false], .int .i64 lim] w fun e w' => e = .returned (.tuple #[.bool (wnB b b2 lim A C), .int .i64 (wnE b b2 lim A C)]) ∧ Below w.heap.size w w' := by
  obtain ⟨p1, k1, rfl⟩ := h1.shape
  obtain ⟨p2, k2, rfl⟩ := h2.shape
  obtain ⟨n1, hn1⟩ : ∃ n, A.length = n := ⟨_, rfl⟩
  obtain ⟨n2, hn2⟩ : ∃ n, C.length = n := ⟨_, rfl⟩
  rw [hn1] at h1 ⊢
  rw [hn2] at h2 ⊢
  obtain ⟨w2, hw2⟩ : ∃ w2, (w.alloc (.cells #[.int .i64 b, .slice p1 n1 k1, .bool false] 24 (0, 0))).alloc (.cells #[.int .i64 b2, .slice p2 n2 k2, .bool false] 24 (0, 0)) = w2 := ⟨_, rfl⟩
  have e1 : w2.heap[w.heap.size]? = some (.cells #[.int .i64 b, .slice p1 n1 k1, .bool false] 24 (0, 0)) := by rw [← hw2]; exact alw_0 _ _ _
  have e2 : w2.heap[w.heap.size + 1]? = some (.cells #[.int .i64 b2, .slice p2 n2 k2, .bool false] 24 (0, 0)) := by rw [← hw2]; exact alw_1 _ _ _
  have hB : Below w.heap.size w w2 := by rw [← hw2]; exact belA (belA (Below.refl _ _) _) _
  have ok3 := mz_ok b b2 A C hg1 hg2 hs1
  have gt3 : gdS (mzT b b2 A C) := gdS_ft (mz_ft b b2 hg1 hg2 hft)
  have hwf := wn_fit b b2 lim A C
  have hwl := wn_lim b b2 lim A C
  have hwm := wn_min b b2 lim A C
  have hwx := wn_xp b b2 lim A C
  have HM0 : ∀ W, Below w2.heap.size w2 W → Calls Tryz.prog 45 #[.agg #[.int .i64 b, .slice p1 n1 k1, .bool false], .agg #[.int .i64 b2, .slice p2 n2 k2, .bool false]] W fun e w' => ∃ V, e = .returned (.tuple #[.agg #[.int .i64 (mzB b b2 A C), V, .bool false], .int .i64 (mzE b b2 A C)]) ∧ SPL w' 0 V (mzT b b2 A C) ∧ Below W.heap.size W w' := fun W hW => by
    have h1 := h1.below (bel0 hB hW)
    have h2 := h2.below (bel0 hB hW)
    exact sMinus_any b b2 A C 0 0 _ _ W h1 h2 hs1 hs2 hg1 hg2 hoA hsd
  have HF : Hid (∀ W, Below w2.heap.size w2 W → (∀ j, W.cell? ⟨w.heap.size, j, none⟩ = (#[.int .i64 b, .slice p1 n1 k1, .bool false] : Array Value)[j]?) ∧ (∀ j, W.cell? ⟨w.heap.size + 1, j, none⟩ = (#[.int .i64 b2, .slice p2 n2 k2, .bool false] : Array Value)[j]?) ∧ Below w.heap.size w W) := fun W hW => ⟨(cells_block (keepblk3 hW e1)).1, (cells_block (keepblk3 hW e2)).1, bel0 hB hW⟩
  have HFT := fits_any2 b b2 p1 n1 k1 w2
  obtain ⟨B3, hB3⟩ : ∃ B, mzB b b2 A C = B := ⟨_, rfl⟩
  obtain ⟨E3, hE3⟩ : ∃ B, mzE b b2 A C = B := ⟨_, rfl⟩
  obtain ⟨X3, hX3⟩ : ∃ B, mzT b b2 A C = B := ⟨_, rfl⟩
  rw [hB3, hE3, hX3] at HM0
  rw [hX3] at ok3 gt3
  rw [hE3] at hwm hwx
  rw [hB3, hX3] at hwx
  obtain ⟨n3, hn3⟩ : ∃ n, X3.length = n := ⟨_, rfl⟩
  have HX0 : ∀ (W : World) (V : Value), SPL W 0 V X3 → Calls Tryz.prog 8 #[.agg #[.int .i64 B3, V, .bool false], .int .i64 lim] W fun e w' => ∃ v, e = .returned (.tuple #[v, .int .i64 (xpE B3 lim X3)]) ∧ w'.ownsRow W.heap.size 50 9 v (xpL B3 lim X3).length (ces (xpL B3 lim X3)) ∧ Below W.heap.size W w' := fun W V h => sExpand_any B3 lim X3 0 V W h ok3.2 gt3
  obtain ⟨E4, hE4⟩ : ∃ B, xpE B3 lim X3 = B := ⟨_, rfl⟩
  obtain ⟨L4, hL4⟩ : ∃ B, xpL B3 lim X3 = B := ⟨_, rfl⟩
  rw [hE4, hL4] at HX0 hwx
  obtain ⟨n4, hn4⟩ : ∃ n, L4.length = n := ⟨_, rfl⟩
  rw [hn4] at HX0 hwx
  obtain ⟨qB, hqB⟩ : ∃ q, wnB b b2 lim A C = q := ⟨_, rfl⟩
  obtain ⟨qE, hqE⟩ : ∃ q, wnE b b2 lim A C = q := ⟨_, rfl⟩
  rw [hqB, hqE] at hwf hwl hwm hwx ⊢
  have HM : Hid (∀ W, Below w2.heap.size w2 W → Calls Tryz.prog 45 #[.agg #[.int .i64 b, .slice p1 n1 k1, .bool false], .agg #[.int .i64 b2, .slice p2 n2 k2, .bool false]] W fun e w' => ∃ V, e = .returned (.tuple #[.agg #[.int .i64 B3, V, .bool false], .int .i64 E3]) ∧ SPL w' 0 V X3 ∧ Below W.heap.size W w') := HM0
  have HX : Hid (∀ (W : World) (V : Value), SPL W 0 V X3 → Calls Tryz.prog 8 #[.agg #[.int .i64 B3, V, .bool false], .int .i64 lim] W fun e w' => ∃ v, e = .returned (.tuple #[v, .int .i64 E4]) ∧ w'.ownsRow W.heap.size 50 9 v n4 (ces L4) ∧ Below W.heap.size W w') := HX0
  have HWF : Hid ((!(b == 0) && (b == b2)) = false → qB = false ∧ qE = 11) := hwf
  have HWL : Hid ((!(b == 0) && (b == b2)) = true → (lim < 0 ∨ 2048 < lim) → qB = false ∧ qE = 1) := hwl
  have HWM : Hid ((!(b == 0) && (b == b2)) = true → ¬ (lim < 0 ∨ 2048 < lim) → ¬ E3 = 0 → qB = false ∧ qE = E3) := hwm
  have HWX : Hid ((!(b == 0) && (b == b2)) = true → ¬ (lim < 0 ∨ 2048 < lim) → E3 = 0 → qB = ((E4 == 0) && ((n4 : Int) == 0)) ∧ qE = E4) := hwx
  obtain ⟨hc1, hc2, -⟩ := HF.out w2 (Below.refl _ _)
  clear h1 h2 hs1 hs2 hg1 hg2 hft hoA hsd hn1 hn2 e1 e2 hB ok3 gt3 hwf hwl hwm hwx HM0 hB3 hE3 hX3 HX0 hE4 hL4 hn4 hqB hqE
  cases hf : (!(b == 0) && (b == b2)) with
  | false =>
    rw [hf] at HFT
    rw [(HWF.out hf).1, (HWF.out hf).2]
    clear HWF HWL HWM HWX hf
    go_enter Tryz.func19, Tryz.ntmps19
    go_wp2_with fail
    refine HFT.mono ?_
    rintro e w3 ⟨rfl, hb3⟩
    have HZ : Hid (Below w.heap.size w w3) := (HF.out w3 hb3).2.2
    clear HFT hc1 hc2 hw2 hb3
    go_wp2_with fail
    go_ret2
    exact ⟨rfl, HZ.out⟩
  | true =>
    rw [hf] at HFT
    have hb0 : ¬ b = 0 := by
      rintro rfl
      simp at hf
    by_cases hl : lim < 0 ∨ 2048 < lim
    · rw [(HWL.out hf hl).1, (HWL.out hf hl).2]
      clear HWF HWL HWM HWX hf
      go_enter Tryz.func19, Tryz.ntmps19
      go_wp2_with fail
      refine HFT.mono ?_
      rintro e w3 ⟨rfl, hb3⟩
      obtain ⟨hc3, hc4, -⟩ := HF.out w3 hb3
      have HB3 : Hid (Below w2.heap.size w2 w3) := hb3
      clear HFT hc1 hc2 hw2 hb3
      go_wp2_with fail
      refine (refusal_any b lim p1 n1 k1 w3).mono ?_
      rw [show rfE b lim = 1 by unfold rfE; rw [if_neg hb0, if_pos hl]]
      rintro e w4 ⟨rfl, hb4⟩
      obtain ⟨hc5, hc6, -⟩ := HF.out w4 (bel0 HB3.out hb4)
      have HB4 : Hid (Below w2.heap.size w2 w4) := bel0 HB3.out hb4
      clear hc3 hc4 hb4
      have HZ : Hid (Below w.heap.size w w4) := (HF.out w4 HB4.out).2.2
      go_wp2_with fail
      go_ret2
      exact ⟨rfl, HZ.out⟩
    · by_cases hE : E3 = 0
      · rw [(HWX.out hf hl hE).1, (HWX.out hf hl hE).2]
        subst hE
        clear HWF HWL HWM HWX hf
        go_enter Tryz.func19, Tryz.ntmps19
        go_wp2_with fail
        refine HFT.mono ?_
        rintro e w3 ⟨rfl, hb3⟩
        obtain ⟨hc3, hc4, -⟩ := HF.out w3 hb3
        have HB3 : Hid (Below w2.heap.size w2 w3) := hb3
        clear HFT hc1 hc2 hw2 hb3
        go_wp2_with fail
        refine (refusal_any b lim p1 n1 k1 w3).mono ?_
        rw [show rfE b lim = 0 by unfold rfE; rw [if_neg hb0, if_neg hl]]
        rintro e w4 ⟨rfl, hb4⟩
        obtain ⟨hc5, hc6, -⟩ := HF.out w4 (bel0 HB3.out hb4)
        have HB4 : Hid (Below w2.heap.size w2 w4) := bel0 HB3.out hb4
        clear hc3 hc4 hb4
        go_wp2_with fail
        refine (HM.out w4 HB4.out).mono ?_
        rintro e w5 ⟨V5, rfl, sv, hb5⟩
        obtain ⟨p3, k3, rfl⟩ := sv.shape
        rw [hn3] at sv ⊢
        have HB5 : Hid (Below w2.heap.size w2 w5) := bel0 HB4.out hb5
        have HSV : Hid (SPL (w5.alloc (.cells #[.int .i64 B3, .slice p3 n3 k3, .bool false] 24 (0, 0))) 0 (.slice p3 n3 k3) X3 ∧ Below w2.heap.size w2 (w5.alloc (.cells #[.int .i64 B3, .slice p3 n3 k3, .bool false] 24 (0, 0)))) := ⟨sv.below (belA (Below.refl _ _) _), belA HB5.out _⟩
        clear sv hb5
        go_wp2_with fail
        refine (HX.out _ _ HSV.out.1).mono ?_
        rintro e w6 ⟨v6, rfl, o6, hb6⟩
        obtain ⟨p6, k6, rfl⟩ := shapeQ1 o6
        have HZ : Hid (Below w.heap.size w w6) := (HF.out w6 (bel0 HSV.out.2 hb6)).2.2
        clear o6 hb6
        obtain ⟨qq, hq4⟩ : ∃ q, (E4 == 0) = q := ⟨_, rfl⟩
        have HQ4 : Hid ((E4 == 0) = qq) := hq4
        cases qq with
        | true =>
          go_wp2_with fail
          go_ret2
          exact ⟨by rw [HQ4.out]; rfl, HZ.out⟩
        | false =>
          go_wp2_with fail
          go_ret2
          exact ⟨by rw [HQ4.out]; rfl, HZ.out⟩
      · rw [(HWM.out hf hl hE).1, (HWM.out hf hl hE).2]
        have hEn : (E3 != 0) = true := by rw [bne_iff_ne]; exact hE
        clear HWF HWL HWM HWX hf hE
        go_enter Tryz.func19, Tryz.ntmps19
        go_wp2_with fail
        refine HFT.mono ?_
        rintro e w3 ⟨rfl, hb3⟩
        obtain ⟨hc3, hc4, -⟩ := HF.out w3 hb3
        have HB3 : Hid (Below w2.heap.size w2 w3) := hb3
        clear HFT hc1 hc2 hw2 hb3
        go_wp2_with fail
        refine (refusal_any b lim p1 n1 k1 w3).mono ?_
        rw [show rfE b lim = 0 by unfold rfE; rw [if_neg hb0, if_neg hl]]
        rintro e w4 ⟨rfl, hb4⟩
        obtain ⟨hc5, hc6, -⟩ := HF.out w4 (bel0 HB3.out hb4)
        have HB4 : Hid (Below w2.heap.size w2 w4) := bel0 HB3.out hb4
        clear hc3 hc4 hb4
        go_wp2_with fail
        refine (HM.out w4 HB4.out).mono ?_
        rintro e w5 ⟨V5, rfl, sv, hb5⟩
        obtain ⟨p3, k3, rfl⟩ := sv.shape
        rw [hn3] at sv ⊢
        have HB5 : Hid (Below w2.heap.size w2 w5) := bel0 HB4.out hb5
        have HZ : Hid (Below w.heap.size w (w5.alloc (.cells #[.int .i64 B3, .slice p3 n3 k3, .bool false] 24 (0, 0)))) := (HF.out _ (belA HB5.out _)).2.2
        clear sv hb5
        go_wp2_with fail
        go_ret2
        exact ⟨rfl, HZ.out⟩
set_option maxRecDepth 100000 in
set_option maxHeartbeats 4000000 in
theorem dWithin_any (b b2 lim : Int) (A C : List (List UInt8 × List (List UInt8))) (V1 V2 : Value) (w : World) (h1 : RSR w V1 A) (h2 : RSR w V2 C) (hs1 : szC A ≤ 128) (hs2 : szC C ≤ 128) (hg1 : gdC A) (hg2 : gdC C) (hft : ∀ t ∈ A, FTm t) (hge : 0 ≤ b) :
    Calls Tryz.prog 20 #[.agg #[.int .i64 b, V1], .agg #[.int .i64 b2, V2], .int .i64 lim] w fun e w' => e = .returned (.tuple #[.bool (wnB b b2 lim A C), .int .i64 (wnE b b2 lim A C)]) ∧ Below w.heap.size w w' := by
  obtain ⟨p1, k1, rfl⟩ := h1.shape
  obtain ⟨p2, k2, rfl⟩ := h2.shape
  obtain ⟨n1, hn1⟩ : ∃ n, A.length = n := ⟨_, rfl⟩
  obtain ⟨n2, hn2⟩ : ∃ n, C.length = n := ⟨_, rfl⟩
  rw [hn1] at h1 ⊢
  rw [hn2] at h2 ⊢
  obtain ⟨w2, hw2⟩ : ∃ w2, (w.alloc (.cells #[.int .i64 b, .slice p1 n1 k1] 27 (0, 0))).alloc (.cells #[.int .i64 b2, .slice p2 n2 k2] 27 (0, 0)) = w2 := ⟨_, rfl⟩
  have e1 : w2.heap[w.heap.size]? = some (.cells #[.int .i64 b, .slice p1 n1 k1] 27 (0, 0)) := by rw [← hw2]; exact alw_0 _ _ _
  have e2 : w2.heap[w.heap.size + 1]? = some (.cells #[.int .i64 b2, .slice p2 n2 k2] 27 (0, 0)) := by rw [← hw2]; exact alw_1 _ _ _
  have hB : Below w.heap.size w w2 := by rw [← hw2]; exact belA (belA (Below.refl _ _) _) _
  have ok3 := mz_ok b b2 A C hg1 hg2 hs1
  have gt3 : gdS (mzT b b2 A C) := gdS_ft (mz_ft b b2 hg1 hg2 hft)
  have hwf := wn_fit b b2 lim A C
  have hwl := wn_lim b b2 lim A C
  have hwm := wn_min b b2 lim A C
  have hwx := wn_xp b b2 lim A C
  have HM0 : ∀ W, Below w2.heap.size w2 W → Calls Tryz.prog 47 #[.agg #[.int .i64 b, .slice p1 n1 k1], .agg #[.int .i64 b2, .slice p2 n2 k2]] W fun e w' => ∃ V, e = .returned (.tuple #[.agg #[.int .i64 (mzB b b2 A C), V], .int .i64 (mzE b b2 A C)]) ∧ RSR w' V (mzT b b2 A C) ∧ Below W.heap.size W w' := fun W hW => by
    have h1 := h1.later (bel0 hB hW)
    have h2 := h2.later (bel0 hB hW)
    exact dMinus_any b b2 A C _ _ W h1 h2 hs1 hs2 hg1 hg2 hge
  have HF : Hid (∀ W, Below w2.heap.size w2 W → (∀ j, W.cell? ⟨w.heap.size, j, none⟩ = (#[.int .i64 b, .slice p1 n1 k1] : Array Value)[j]?) ∧ (∀ j, W.cell? ⟨w.heap.size + 1, j, none⟩ = (#[.int .i64 b2, .slice p2 n2 k2] : Array Value)[j]?) ∧ Below w.heap.size w W) := fun W hW => ⟨(cells_block (keepblk3 hW e1)).1, (cells_block (keepblk3 hW e2)).1, bel0 hB hW⟩
  have HFT := dfit_any b b2 p1 p2 n1 n2 k1 k2 w2 hge
  obtain ⟨B3, hB3⟩ : ∃ B, mzB b b2 A C = B := ⟨_, rfl⟩
  obtain ⟨E3, hE3⟩ : ∃ B, mzE b b2 A C = B := ⟨_, rfl⟩
  obtain ⟨X3, hX3⟩ : ∃ B, mzT b b2 A C = B := ⟨_, rfl⟩
  rw [hB3, hE3, hX3] at HM0
  rw [hX3] at ok3 gt3
  rw [hE3] at hwm hwx
  rw [hB3, hX3] at hwx
  obtain ⟨n3, hn3⟩ : ∃ n, X3.length = n := ⟨_, rfl⟩
  have HX0 : ∀ (W : World) (V : Value), RSR W V X3 → Calls Tryz.prog 9 #[.agg #[.int .i64 B3, V], .int .i64 lim] W fun e w' => ∃ v, e = .returned (.tuple #[v, .int .i64 (xpE B3 lim X3)]) ∧ w'.ownsRow W.heap.size 9 1 v (xpL B3 lim X3).length (stx (xpL B3 lim X3)) ∧ Below W.heap.size W w' := fun W V h => by
    refine (dExpand_any B3 lim V X3 W h gt3 ok3.2).mono ?_
    rintro e w' ⟨v, E, L, rfl, ⟨rfl, rfl⟩, h1, h2⟩
    exact ⟨v, rfl, h1, h2⟩
  obtain ⟨E4, hE4⟩ : ∃ B, xpE B3 lim X3 = B := ⟨_, rfl⟩
  obtain ⟨L4, hL4⟩ : ∃ B, xpL B3 lim X3 = B := ⟨_, rfl⟩
  rw [hE4, hL4] at HX0 hwx
  obtain ⟨n4, hn4⟩ : ∃ n, L4.length = n := ⟨_, rfl⟩
  rw [hn4] at HX0 hwx
  obtain ⟨qB, hqB⟩ : ∃ q, wnB b b2 lim A C = q := ⟨_, rfl⟩
  obtain ⟨qE, hqE⟩ : ∃ q, wnE b b2 lim A C = q := ⟨_, rfl⟩
  rw [hqB, hqE] at hwf hwl hwm hwx ⊢
  have HM : Hid (∀ W, Below w2.heap.size w2 W → Calls Tryz.prog 47 #[.agg #[.int .i64 b, .slice p1 n1 k1], .agg #[.int .i64 b2, .slice p2 n2 k2]] W fun e w' => ∃ V, e = .returned (.tuple #[.agg #[.int .i64 B3, V], .int .i64 E3]) ∧ RSR w' V X3 ∧ Below W.heap.size W w') := HM0
  have HX : Hid (∀ (W : World) (V : Value), RSR W V X3 → Calls Tryz.prog 9 #[.agg #[.int .i64 B3, V], .int .i64 lim] W fun e w' => ∃ v, e = .returned (.tuple #[v, .int .i64 E4]) ∧ w'.ownsRow W.heap.size 9 1 v n4 (stx L4) ∧ Below W.heap.size W w') := HX0
  have HWF : Hid ((!(b == 0) && (b == b2)) = false → qB = false ∧ qE = 11) := hwf
  have HWL : Hid ((!(b == 0) && (b == b2)) = true → (lim < 0 ∨ 2048 < lim) → qB = false ∧ qE = 1) := hwl
  have HWM : Hid ((!(b == 0) && (b == b2)) = true → ¬ (lim < 0 ∨ 2048 < lim) → ¬ E3 = 0 → qB = false ∧ qE = E3) := hwm
  have HWX : Hid ((!(b == 0) && (b == b2)) = true → ¬ (lim < 0 ∨ 2048 < lim) → E3 = 0 → qB = ((E4 == 0) && ((n4 : Int) == 0)) ∧ qE = E4) := hwx
  obtain ⟨hc1, hc2, -⟩ := HF.out w2 (Below.refl _ _)
  clear h1 h2 hs1 hs2 hg1 hg2 hft hge hn1 hn2 e1 e2 hB ok3 gt3 hwf hwl hwm hwx HM0 hB3 hE3 hX3 HX0 hE4 hL4 hn4 hqB hqE
  cases hf : (!(b == 0) && (b == b2)) with
  | false =>
    rw [hf] at HFT
    rw [(HWF.out hf).1, (HWF.out hf).2]
    clear HWF HWL HWM HWX hf
    go_enter Tryz.func20, Tryz.ntmps20
    go_wp2_with fail
    refine HFT.mono ?_
    rintro e w3 ⟨rfl, hb3⟩
    have HZ : Hid (Below w.heap.size w w3) := (HF.out w3 hb3).2.2
    clear HFT hc1 hc2 hw2 hb3
    go_wp2_with fail
    go_ret2
    exact ⟨rfl, HZ.out⟩
  | true =>
    rw [hf] at HFT
    by_cases hl : lim < 0 ∨ 2048 < lim
    · rw [(HWL.out hf hl).1, (HWL.out hf hl).2]
      clear HWF HWL HWM HWX hf
      rcases hl with hl | hl
      · go_enter Tryz.func20, Tryz.ntmps20
        go_wp2_with fail
        refine HFT.mono ?_
        rintro e w3 ⟨rfl, hb3⟩
        obtain ⟨hc3, hc4, -⟩ := HF.out w3 hb3
        have HB3 : Hid (Below w2.heap.size w2 w3) := hb3
        clear HFT hc1 hc2 hw2 hb3
        have HZ : Hid (Below w.heap.size w w3) := (HF.out w3 HB3.out).2.2
        go_wp2_with fail
        go_ret2
        exact ⟨rfl, HZ.out⟩
      · have hl1 : ¬ lim < 0 := by omega
        have hl2 : lim > 2048 := hl
        go_enter Tryz.func20, Tryz.ntmps20
        go_wp2_with fail
        refine HFT.mono ?_
        rintro e w3 ⟨rfl, hb3⟩
        obtain ⟨hc3, hc4, -⟩ := HF.out w3 hb3
        have HB3 : Hid (Below w2.heap.size w2 w3) := hb3
        clear HFT hc1 hc2 hw2 hb3
        have HZ : Hid (Below w.heap.size w w3) := (HF.out w3 HB3.out).2.2
        go_wp2_with fail
        go_ret2
        exact ⟨rfl, HZ.out⟩
    · have hl1 : ¬ lim < 0 := by omega
      have hl2 : ¬ lim > 2048 := by omega
      by_cases hE : E3 = 0
      · rw [(HWX.out hf hl hE).1, (HWX.out hf hl hE).2]
        subst hE
        clear HWF HWL HWM HWX hf
        go_enter Tryz.func20, Tryz.ntmps20
        go_wp2_with fail
        refine HFT.mono ?_
        rintro e w3 ⟨rfl, hb3⟩
        obtain ⟨hc3, hc4, -⟩ := HF.out w3 hb3
        have HB3 : Hid (Below w2.heap.size w2 w3) := hb3
        clear HFT hc1 hc2 hw2 hb3
        go_wp2_with fail
        refine (HM.out w3 HB3.out).mono ?_
        rintro e w5 ⟨V5, rfl, sv, hb5⟩
        obtain ⟨p3, k3, rfl⟩ := sv.shape
        rw [hn3] at sv ⊢
        have HB5 : Hid (Below w2.heap.size w2 w5) := bel0 HB3.out hb5
        have HSV : Hid (RSR (w5.alloc (.cells #[.int .i64 B3, .slice p3 n3 k3] 27 (0, 0))) (.slice p3 n3 k3) X3 ∧ Below w2.heap.size w2 (w5.alloc (.cells #[.int .i64 B3, .slice p3 n3 k3] 27 (0, 0)))) := ⟨sv.later (belA (Below.refl _ _) _), belA HB5.out _⟩
        clear sv hb5
        go_wp2_with fail
        refine (HX.out _ _ HSV.out.1).mono ?_
        rintro e w6 ⟨v6, rfl, o6, hb6⟩
        obtain ⟨p6, k6, rfl⟩ := shapeQ1 o6
        have HZ : Hid (Below w.heap.size w w6) := (HF.out w6 (bel0 HSV.out.2 hb6)).2.2
        clear o6 hb6
        obtain ⟨qq, hq4⟩ : ∃ q, (E4 == 0) = q := ⟨_, rfl⟩
        have HQ4 : Hid ((E4 == 0) = qq) := hq4
        cases qq with
        | true =>
          go_wp2_with fail
          go_ret2
          exact ⟨by rw [HQ4.out]; rfl, HZ.out⟩
        | false =>
          go_wp2_with fail
          go_ret2
          exact ⟨by rw [HQ4.out]; rfl, HZ.out⟩
      · rw [(HWM.out hf hl hE).1, (HWM.out hf hl hE).2]
        have hEn : (E3 != 0) = true := by rw [bne_iff_ne]; exact hE
        clear HWF HWL HWM HWX hf hE
        go_enter Tryz.func20, Tryz.ntmps20
        go_wp2_with fail
        refine HFT.mono ?_
        rintro e w3 ⟨rfl, hb3⟩
        obtain ⟨hc3, hc4, -⟩ := HF.out w3 hb3
        have HB3 : Hid (Below w2.heap.size w2 w3) := hb3
        clear HFT hc1 hc2 hw2 hb3
        go_wp2_with fail
        refine (HM.out w3 HB3.out).mono ?_
        rintro e w5 ⟨V5, rfl, sv, hb5⟩
        obtain ⟨p3, k3, rfl⟩ := sv.shape
        rw [hn3] at sv ⊢
        have HB5 : Hid (Below w2.heap.size w2 w5) := bel0 HB3.out hb5
        have HZ : Hid (Below w.heap.size w (w5.alloc (.cells #[.int .i64 B3, .slice p3 n3 k3] 27 (0, 0)))) := (HF.out _ (belA HB5.out _)).2.2
        clear sv hb5
        go_wp2_with fail
        go_ret2
        exact ⟨rfl, HZ.out⟩
end Go.Proofs.YtccbfaembcefjaaGreatDoor

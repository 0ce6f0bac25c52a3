import Derived.Test.YtcejejiomhhpgaaGreatDoorXBN
namespace Go.Proofs.YtcejejiomhhpgaaGreatDoor
open Go.RowKit Go.Shelf
/-- the cube of all headers of a width -/
def alT (b : Int) : List UInt8 := if 1 ≤ b ∧ b ≤ 256 then List.replicate b.toNat 120 else []
/-- the one term of all headers -/
def alB (b : Int) : List (List UInt8 × List (List UInt8)) → Bool
  | [(c, [])] => c == alT b
  | _ => false
theorem alT_good (b : Int) : good (alT b) = true := by
  unfold alT
  split
  · exact rep_good _ (by omega)
  · rfl
set_option maxRecDepth 100000 in
set_option maxHeartbeats 4000000 in
theorem isAll_any (b : Int) (V : Value) (A : List (List UInt8 × List (List UInt8))) (B : Nat) (w : World) (h : SPL w B V A) (hg : gdC A) (hs : szC A ≤ 128) : Calls Tryz.prog 36 #[.agg #[.int .i64 b, V, .bool false]] w fun e w' => e = .returned (.bool (alB b A)) ∧ Below w.heap.size w w' := by
  obtain ⟨Z, rfl, h2, -⟩ := h
  obtain ⟨p, cp, rfl⟩ := shapeQ1 h2
  have hl := szC_len (Z.map ZT.cont)
  rw [List.length_map] at hl
  by_cases hn : Z.length = 1
  · obtain ⟨z, rfl⟩ : ∃ z, Z = [z] := List.length_eq_one_iff.1 hn
    obtain ⟨zc, zq, zk, zL⟩ := z
    have gz := hg (zc, zL) (by simp [ZT.cont])
    have hsz : zL.length ≤ 128 := by
      have := szC_mem (Ts := [(zc, zL)]) (zc, zL) (by simp)
      have e : szC ([⟨zc, zq, zk, zL⟩].map ZT.cont) = szC [(zc, zL)] := rfl
      rw [e] at hs
      exact Nat.le_trans this hs
    have hIR := IRZ_own h2 rfl
    obtain ⟨g, o0, rfl, -⟩ := hIR w (Below.refl _ _) 0 _ rfl
    obtain ⟨w2, hw2⟩ : ∃ w2, w.alloc (.cells #[.int .i64 b, .slice (some ⟨g, o0, none⟩) 1 cp, .bool false] 26 (0, 0)) = w2 := ⟨_, rfl⟩
    have h0 : w2.heap[w.heap.size]? = some (.cells #[.int .i64 b, .slice (some ⟨g, o0, none⟩) 1 cp, .bool false] 26 (0, 0)) := by rw [← hw2]; exact alloc_get _ _
    have hB : Below w.heap.size w w2 := by rw [← hw2]; exact belA (Below.refl _ _) _
    obtain ⟨m, hm⟩ : ∃ m, zL.length = m := ⟨_, rfl⟩
    have HX : Hid (∀ W, Below w2.heap.size w2 W → W.cell? ⟨w.heap.size, 0, none⟩ = some (.int .i64 b) ∧ W.cell? ⟨w.heap.size, 1, none⟩ = some (.slice (some ⟨g, o0, none⟩) 1 cp) ∧ W.cell? ⟨g, o0, none⟩ = some (.int .i64 (zc.length : Int)) ∧ W.cell? ⟨g, o0 + 1, none⟩ = some (.int .u64 (FW zc 0 : Int)) ∧ W.cell? ⟨g, o0 + 2, none⟩ = some (.int .u64 (FW zc 1 : Int)) ∧ W.cell? ⟨g, o0 + 3, none⟩ = some (.int .u64 (FW zc 2 : Int)) ∧ W.cell? ⟨g, o0 + 4, none⟩ = some (.int .u64 (FW zc 3 : Int)) ∧ W.cell? ⟨g, o0 + 5, none⟩ = some (.int .u64 (OW zc 0 : Int)) ∧ W.cell? ⟨g, o0 + 6, none⟩ = some (.int .u64 (OW zc 1 : Int)) ∧ W.cell? ⟨g, o0 + 7, none⟩ = some (.int .u64 (OW zc 2 : Int)) ∧ W.cell? ⟨g, o0 + 8, none⟩ = some (.int .u64 (OW zc 3 : Int)) ∧ W.cell? ⟨g, o0 + 9, none⟩ = some (.slice zq m zk)) := fun W hW => by
      have hc := (cells_block (keepblk3 hW h0)).1
      obtain ⟨g', o', e, q0, q1, q2, q3, q4, q5, q6, q7, q8, q9⟩ := hIR W (bel0 hB hW) 0 _ rfl
      injection e with e
      injection e with e1 e2
      subst e1 e2
      simp only [Nat.zero_mul, Nat.add_zero] at q0 q1 q2 q3 q4 q5 q6 q7 q8 q9
      rw [hm] at q9
      exact ⟨hc 0, hc 1, q0, q1, q2, q3, q4, q5, q6, q7, q8, q9⟩
    have HB : Hid (Below w.heap.size w w2) := hB
    by_cases hm0 : m = 0
    · have hz : zL = [] := List.length_eq_zero_iff.1 (hm.trans hm0)
      subst hz
      subst hm0
      obtain ⟨D, hD⟩ : ∃ D, alT b = D := ⟨_, rfl⟩
      obtain ⟨q, hq⟩ : ∃ q, (zc == D) = q := ⟨_, rfl⟩
      have HR : Hid (alB b ([⟨zc, zq, zk, []⟩].map ZT.cont) = q) := by
        have e : alB b ([⟨zc, zq, zk, []⟩].map ZT.cont) = (zc == alT b) := rfl
        unfold Hid
        rw [e, hD, hq]
      have hE := eql_cube zc D gz.1 (by rw [← hD]; exact alT_good b)
      rw [hq] at hE
      have HAL : Hid (∀ W, Calls Tryz.prog 57 #[.int .i64 b] W fun e w' => e = .returned (.agg #[.int .i64 (D.length : Int), .int .u64 (FW D 0 : Int), .int .u64 (FW D 1 : Int), .int .u64 (FW D 2 : Int), .int .u64 (FW D 3 : Int), .int .u64 (OW D 0 : Int), .int .u64 (OW D 1 : Int), .int .u64 (OW D 2 : Int), .int .u64 (OW D 3 : Int)]) ∧ Below W.heap.size W w') := fun W => by
        have h := all_any b W
        have e : (if 1 ≤ b ∧ b ≤ 256 then List.replicate b.toNat 120 else []) = D := hD
        rw [e] at h
        exact h
      clear h0 hB hIR h2 hg hs hl hn hm gz hsz hD hq
      go_enter Tryz.func36, Tryz.ntmps36
      go_upto_region 1 with fail
      clear hw2
      refine quiet_lit3 (C := fun W => Below w2.heap.size w2 W) (by kernel_rfl) (by kernel_rfl) (show Below _ _ _ from (Below.refl _ _).drew) ?_
      go_big_quiet_want
      refine ⟨.pointer (some ⟨w.heap.size, 1, none⟩), fun W hW => ?_, ?_⟩
      · go_simp
      go_big_quiet_on
      simp only [Act.put, List.setIfInBounds_toArray, List.set_cons_zero, List.set_cons_succ]
      go_big_quiet_want
      refine ⟨.slice (some ⟨g, o0, none⟩) 1 cp, fun W hW => ?_, ?_⟩
      · obtain ⟨x0, x1, y0, y1, y2, y3, y4, y5, y6, y7, y8, y9⟩ := HX.out W hW
        go_simp
      go_big_quiet_on
      simp only [Act.put, List.setIfInBounds_toArray, List.set_cons_zero, List.set_cons_succ]
      go_big_quiet_want
      refine ⟨.int .i64 1, fun W hW => ?_, ?_⟩
      · go_simp
      go_big_quiet_on
      simp only [Act.put, List.setIfInBounds_toArray, List.set_cons_zero, List.set_cons_succ]
      go_big_quiet_want
      refine ⟨.bool true, fun W hW => ?_, ?_⟩
      · go_simp
      go_big_quiet_on
      simp only [Act.put, List.setIfInBounds_toArray, List.set_cons_zero, List.set_cons_succ]
      go_big_quiet_want
      go_big_quiet_op
      go_big_quiet_on
      go_big_quiet_want
      refine ⟨.pointer (some ⟨w.heap.size, 1, none⟩), fun W hW => ?_, ?_⟩
      · go_simp
      go_big_quiet_on
      simp only [Act.put, List.setIfInBounds_toArray, List.set_cons_zero, List.set_cons_succ]
      go_big_quiet_want
      refine ⟨.slice (some ⟨g, o0, none⟩) 1 cp, fun W hW => ?_, ?_⟩
      · obtain ⟨x0, x1, y0, y1, y2, y3, y4, y5, y6, y7, y8, y9⟩ := HX.out W hW
        go_simp
      go_big_quiet_on
      simp only [Act.put, List.setIfInBounds_toArray, List.set_cons_zero, List.set_cons_succ]
      go_big_quiet_want
      refine ⟨.pointer (some ⟨g, o0, none⟩), fun W hW => ?_, ?_⟩
      · go_simp
      go_big_quiet_on
      simp only [Act.put, List.setIfInBounds_toArray, List.set_cons_zero, List.set_cons_succ]
      go_big_quiet_want
      refine ⟨.pointer (some ⟨g, o0 + 9, none⟩), fun W hW => ?_, ?_⟩
      · go_simp
      go_big_quiet_on
      simp only [Act.put, List.setIfInBounds_toArray, List.set_cons_zero, List.set_cons_succ]
      go_big_quiet_want
      refine ⟨.slice zq 0 zk, fun W hW => ?_, ?_⟩
      · obtain ⟨x0, x1, y0, y1, y2, y3, y4, y5, y6, y7, y8, y9⟩ := HX.out W hW
        go_simp
      go_big_quiet_on
      simp only [Act.put, List.setIfInBounds_toArray, List.set_cons_zero, List.set_cons_succ]
      go_big_quiet_want
      refine ⟨.int .i64 0, fun W hW => ?_, ?_⟩
      · go_simp
      go_big_quiet_on
      simp only [Act.put, List.setIfInBounds_toArray, List.set_cons_zero, List.set_cons_succ]
      go_big_quiet_want
      refine ⟨.bool true, fun W hW => ?_, ?_⟩
      · go_simp
      go_big_quiet_on
      simp only [Act.put, List.setIfInBounds_toArray, List.set_cons_zero, List.set_cons_succ]
      go_big_quiet_want
      refine ⟨.bool true, fun W hW => ?_, ?_⟩
      · go_simp
      go_big_quiet_on
      simp only [Act.put, List.setIfInBounds_toArray, List.set_cons_zero, List.set_cons_succ]
      go_big_quiet_want
      go_big_quiet_op
      go_big_quiet_on
      go_big_quiet_want
      refine ⟨.pointer (some ⟨w.heap.size, 1, none⟩), fun W hW => ?_, ?_⟩
      · go_simp
      go_big_quiet_on
      simp only [Act.put, List.setIfInBounds_toArray, List.set_cons_zero, List.set_cons_succ]
      go_big_quiet_want
      refine ⟨.slice (some ⟨g, o0, none⟩) 1 cp, fun W hW => ?_, ?_⟩
      · obtain ⟨x0, x1, y0, y1, y2, y3, y4, y5, y6, y7, y8, y9⟩ := HX.out W hW
        go_simp
      go_big_quiet_on
      simp only [Act.put, List.setIfInBounds_toArray, List.set_cons_zero, List.set_cons_succ]
      go_big_quiet_want
      refine ⟨.pointer (some ⟨g, o0, none⟩), fun W hW => ?_, ?_⟩
      · go_simp
      go_big_quiet_on
      simp only [Act.put, List.setIfInBounds_toArray, List.set_cons_zero, List.set_cons_succ]
      go_big_quiet_want
      refine ⟨.pointer (some ⟨g, o0, none⟩), fun W hW => ?_, ?_⟩
      · go_simp
      go_big_quiet_on
      simp only [Act.put, List.setIfInBounds_toArray, List.set_cons_zero, List.set_cons_succ]
      go_big_quiet_want
      refine ⟨.agg #[.int .i64 (zc.length : Int), .int .u64 (FW zc 0 : Int), .int .u64 (FW zc 1 : Int), .int .u64 (FW zc 2 : Int), .int .u64 (FW zc 3 : Int), .int .u64 (OW zc 0 : Int), .int .u64 (OW zc 1 : Int), .int .u64 (OW zc 2 : Int), .int .u64 (OW zc 3 : Int)], fun W hW => ?_, ?_⟩
      · obtain ⟨x0, x1, y0, y1, y2, y3, y4, y5, y6, y7, y8, y9⟩ := HX.out W hW
        go_simp
      go_big_quiet_on
      simp only [Act.put, List.setIfInBounds_toArray, List.set_cons_zero, List.set_cons_succ]
      go_big_quiet_want
      refine ⟨.pointer (some ⟨w.heap.size, 0, none⟩), fun W hW => ?_, ?_⟩
      · go_simp
      go_big_quiet_on
      simp only [Act.put, List.setIfInBounds_toArray, List.set_cons_zero, List.set_cons_succ]
      go_big_quiet_want
      refine ⟨.int .i64 b, fun W hW => ?_, ?_⟩
      · obtain ⟨x0, x1, y0, y1, y2, y3, y4, y5, y6, y7, y8, y9⟩ := HX.out W hW
        go_simp
      go_big_quiet_on
      simp only [Act.put, List.setIfInBounds_toArray, List.set_cons_zero, List.set_cons_succ]
      go_big_quiet_want
      refine ⟨.agg #[.int .i64 (D.length : Int), .int .u64 (FW D 0 : Int), .int .u64 (FW D 1 : Int), .int .u64 (FW D 2 : Int), .int .u64 (FW D 3 : Int), .int .u64 (OW D 0 : Int), .int .u64 (OW D 1 : Int), .int .u64 (OW D 2 : Int), .int .u64 (OW D 3 : Int)], fun W hW => ?_, ?_⟩
      · go_simp
        refine (HAL.out W).mono ?_
        rintro e w7 ⟨rfl, hb⟩
        exact ⟨rfl, bel0 hW hb⟩
      go_big_quiet_on
      simp only [Act.put, List.setIfInBounds_toArray, List.set_cons_zero, List.set_cons_succ]
      go_big_quiet_want
      refine ⟨.bool q, fun W hW => ?_, ?_⟩
      · go_simp
      go_big_quiet_on
      simp only [Act.put, List.setIfInBounds_toArray, List.set_cons_zero, List.set_cons_succ]
      go_big_quiet_want
      refine ⟨.bool q, fun W hW => ?_, ?_⟩
      · go_simp
      go_big_quiet_on
      simp only [Act.put, List.setIfInBounds_toArray, List.set_cons_zero, List.set_cons_succ]
      go_big_quiet_want
      go_big_quiet_op
      go_big_quiet_on
      refine wpQuiet_nil ?_
      intro W hW
      go_wp2_with fail
      go_ret
      exact ⟨by rw [HR.out]; rfl, bel0 HB.out hW⟩
    · have jm : ((m : Int) == 0) = false := by simp; omega
      have HR : Hid (alB b ([⟨zc, zq, zk, zL⟩].map ZT.cont) = false) := by
        cases zL with
        | nil => exact absurd hm.symm hm0
        | cons x r => rfl
      clear h0 hB hIR h2 hg hs hl hn hm gz hsz hm0
      go_enter Tryz.func36, Tryz.ntmps36
      go_upto_region 1 with fail
      clear hw2
      refine quiet_lit3 (C := fun W => Below w2.heap.size w2 W) (by kernel_rfl) (by kernel_rfl) (show Below _ _ _ from (Below.refl _ _).drew) ?_
      go_big_quiet_want
      refine ⟨.pointer (some ⟨w.heap.size, 1, none⟩), fun W hW => ?_, ?_⟩
      · go_simp
      go_big_quiet_on
      simp only [Act.put, List.setIfInBounds_toArray, List.set_cons_zero, List.set_cons_succ]
      go_big_quiet_want
      refine ⟨.slice (some ⟨g, o0, none⟩) 1 cp, fun W hW => ?_, ?_⟩
      · obtain ⟨x0, x1, y0, y1, y2, y3, y4, y5, y6, y7, y8, y9⟩ := HX.out W hW
        go_simp
      go_big_quiet_on
      simp only [Act.put, List.setIfInBounds_toArray, List.set_cons_zero, List.set_cons_succ]
      go_big_quiet_want
      refine ⟨.int .i64 1, fun W hW => ?_, ?_⟩
      · go_simp
      go_big_quiet_on
      simp only [Act.put, List.setIfInBounds_toArray, List.set_cons_zero, List.set_cons_succ]
      go_big_quiet_want
      refine ⟨.bool true, fun W hW => ?_, ?_⟩
      · go_simp
      go_big_quiet_on
      simp only [Act.put, List.setIfInBounds_toArray, List.set_cons_zero, List.set_cons_succ]
      go_big_quiet_want
      go_big_quiet_op
      go_big_quiet_on
      go_big_quiet_want
      refine ⟨.pointer (some ⟨w.heap.size, 1, none⟩), fun W hW => ?_, ?_⟩
      · go_simp
      go_big_quiet_on
      simp only [Act.put, List.setIfInBounds_toArray, List.set_cons_zero, List.set_cons_succ]
      go_big_quiet_want
      refine ⟨.slice (some ⟨g, o0, none⟩) 1 cp, fun W hW => ?_, ?_⟩
      · obtain ⟨x0, x1, y0, y1, y2, y3, y4, y5, y6, y7, y8, y9⟩ := HX.out W hW
        go_simp
      go_big_quiet_on
      simp only [Act.put, List.setIfInBounds_toArray, List.set_cons_zero, List.set_cons_succ]
      go_big_quiet_want
      refine ⟨.pointer (some ⟨g, o0, none⟩), fun W hW => ?_, ?_⟩
      · go_simp
      go_big_quiet_on
      simp only [Act.put, List.setIfInBounds_toArray, List.set_cons_zero, List.set_cons_succ]
      go_big_quiet_want
      refine ⟨.pointer (some ⟨g, o0 + 9, none⟩), fun W hW => ?_, ?_⟩
      · go_simp
      go_big_quiet_on
      simp only [Act.put, List.setIfInBounds_toArray, List.set_cons_zero, List.set_cons_succ]
      go_big_quiet_want
      refine ⟨.slice zq m zk, fun W hW => ?_, ?_⟩
      · obtain ⟨x0, x1, y0, y1, y2, y3, y4, y5, y6, y7, y8, y9⟩ := HX.out W hW
        go_simp
      go_big_quiet_on
      simp only [Act.put, List.setIfInBounds_toArray, List.set_cons_zero, List.set_cons_succ]
      go_big_quiet_want
      refine ⟨.int .i64 (m : Int), fun W hW => ?_, ?_⟩
      · go_simp
      go_big_quiet_on
      simp only [Act.put, List.setIfInBounds_toArray, List.set_cons_zero, List.set_cons_succ]
      go_big_quiet_want
      refine ⟨.bool false, fun W hW => ?_, ?_⟩
      · go_simp
      go_big_quiet_on
      simp only [Act.put, List.setIfInBounds_toArray, List.set_cons_zero, List.set_cons_succ]
      go_big_quiet_want
      refine ⟨.bool false, fun W hW => ?_, ?_⟩
      · go_simp
      go_big_quiet_on
      simp only [Act.put, List.setIfInBounds_toArray, List.set_cons_zero, List.set_cons_succ]
      go_big_quiet_want
      go_big_quiet_op
      go_big_quiet_on
      go_big_quiet_skip
      go_big_quiet_skip
      go_big_quiet_skip
      go_big_quiet_skip
      go_big_quiet_skip
      go_big_quiet_skip
      go_big_quiet_skip
      go_big_quiet_skip
      go_big_quiet_skip
      go_big_quiet_want
      refine ⟨.bool false, fun W hW => ?_, ?_⟩
      · go_simp
      go_big_quiet_on
      simp only [Act.put, List.setIfInBounds_toArray, List.set_cons_zero, List.set_cons_succ]
      go_big_quiet_want
      go_big_quiet_op
      go_big_quiet_on
      refine wpQuiet_nil ?_
      intro W hW
      go_wp2_with fail
      go_ret
      exact ⟨by rw [HR.out]; rfl, bel0 HB.out hW⟩
  · obtain ⟨n, hnn⟩ : ∃ n, Z.length = n := ⟨_, rfl⟩
    rw [hnn] at hn ⊢
    obtain ⟨w2, hw2⟩ : ∃ w2, w.alloc (.cells #[.int .i64 b, .slice p n cp, .bool false] 26 (0, 0)) = w2 := ⟨_, rfl⟩
    have h0 : w2.heap[w.heap.size]? = some (.cells #[.int .i64 b, .slice p n cp, .bool false] 26 (0, 0)) := by rw [← hw2]; exact alloc_get _ _
    have hB : Below w.heap.size w w2 := by rw [← hw2]; exact belA (Below.refl _ _) _
    have HX : Hid (∀ W, Below w2.heap.size w2 W → W.cell? ⟨w.heap.size, 0, none⟩ = some (.int .i64 b) ∧ W.cell? ⟨w.heap.size, 1, none⟩ = some (.slice p n cp)) := fun W hW => ⟨(cells_block (keepblk3 hW h0)).1 0, (cells_block (keepblk3 hW h0)).1 1⟩
    have HB : Hid (Below w.heap.size w w2) := hB
    have jn : ((n : Int) == 1) = false := by simp; omega
    have HR : Hid (alB b (Z.map ZT.cont) = false) := by
      unfold Hid
      match Z, hnn with
      | [], _ => rfl
      | [z], h => exact absurd h.symm hn
      | x :: y :: l, _ =>
        show alB b ((x.c, x.L) :: (y.c, y.L) :: l.map ZT.cont) = false
        cases x.L <;> rfl
    clear h0 hB h2 hg hs hl hn hnn
    go_enter Tryz.func36, Tryz.ntmps36
    go_upto_region 1 with fail
    clear hw2
    refine quiet_lit3 (C := fun W => Below w2.heap.size w2 W) (by kernel_rfl) (by kernel_rfl) (show Below _ _ _ from (Below.refl _ _).drew) ?_
    go_big_quiet_want
    refine ⟨.pointer (some ⟨w.heap.size, 1, none⟩), fun W hW => ?_, ?_⟩
    · go_simp
    go_big_quiet_on
    simp only [Act.put, List.setIfInBounds_toArray, List.set_cons_zero, List.set_cons_succ]
    go_big_quiet_want
    refine ⟨.slice p n cp, fun W hW => ?_, ?_⟩
    · obtain ⟨x0, x1⟩ := HX.out W hW
      go_simp
    go_big_quiet_on
    simp only [Act.put, List.setIfInBounds_toArray, List.set_cons_zero, List.set_cons_succ]
    go_big_quiet_want
    refine ⟨.int .i64 (n : Int), fun W hW => ?_, ?_⟩
    · go_simp
    go_big_quiet_on
    simp only [Act.put, List.setIfInBounds_toArray, List.set_cons_zero, List.set_cons_succ]
    go_big_quiet_want
    refine ⟨.bool false, fun W hW => ?_, ?_⟩
    · go_simp
    go_big_quiet_on
    simp only [Act.put, List.setIfInBounds_toArray, List.set_cons_zero, List.set_cons_succ]
    go_big_quiet_want
    go_big_quiet_op
    go_big_quiet_on
    go_big_quiet_skip
    go_big_quiet_skip
    go_big_quiet_skip
    go_big_quiet_skip
    go_big_quiet_skip
    go_big_quiet_skip
    go_big_quiet_skip
    go_big_quiet_want
    refine ⟨.bool false, fun W hW => ?_, ?_⟩
    · go_simp
    go_big_quiet_on
    simp only [Act.put, List.setIfInBounds_toArray, List.set_cons_zero, List.set_cons_succ]
    go_big_quiet_want
    go_big_quiet_op
    go_big_quiet_on
    go_big_quiet_skip
    go_big_quiet_skip
    go_big_quiet_skip
    go_big_quiet_skip
    go_big_quiet_skip
    go_big_quiet_skip
    go_big_quiet_skip
    go_big_quiet_skip
    go_big_quiet_skip
    go_big_quiet_want
    refine ⟨.bool false, fun W hW => ?_, ?_⟩
    · go_simp
    go_big_quiet_on
    simp only [Act.put, List.setIfInBounds_toArray, List.set_cons_zero, List.set_cons_succ]
    go_big_quiet_want
    go_big_quiet_op
    go_big_quiet_on
    refine wpQuiet_nil ?_
    intro W hW
    go_wp2_with fail
    go_ret
    exact ⟨by rw [HR.out]; rfl, bel0 HB.out hW⟩
end Go.Proofs.YtcejejiomhhpgaaGreatDoor

import Derived.Test.YtepokgainceidaaGreatDoorYBJ
import Derived.Test.YtepokgainceidaaGreatDoorYAV
namespace Go.Proofs.YtepokgainceidaaGreatDoor
open Go.RowKit Go.Shelf
def teM (L : List IFld) (t : TS) : Int := if idxF L t.f < 0 then 41 else fltM (L.getD (idxF L t.f).toNat ([], 0)).2.toNat t
set_option maxRecDepth 100000 in
set_option maxHeartbeats 4000000 in
theorem refTest_any (L : List IFld) (o : Option Addr) (c : Nat) (t : TS) (w : World) (hL : L.length ≤ 12) (hf : ∀ f ∈ L, 1 ≤ f.2 ∧ f.2 ≤ 32) (hpl : t.pat.length ≤ 281474976710656) (hr : IRF w o L) :
    Calls Tryz.prog 33 #[.slice o L.length c, t.v] w fun e w' => e = .returned (.int .i64 (teM L t)) ∧ Below w.heap.size w w' := by
  have hb0 : ∀ f ∈ L, 0 ≤ f.2 ∧ f.2 ≤ 32 := fun f hff => by have := hf f hff; omega
  have HPL0 := fun (W : World) (hW : Below w.heap.size w W) => refPlace_any L o c t.f W (by omega) hb0 (hr.later hW)
  have HFO0 := fun W => refForm_any t W
  obtain ⟨R, hR⟩ : ∃ R, teM L t = R := ⟨_, rfl⟩
  rw [hR]
  have hRR := hR
  unfold teM at hRR
  obtain ⟨f, op, form, lo, hi, len, pat⟩ := t
  simp only at HPL0 hRR hpl
  show Calls Tryz.prog 33 #[.slice o L.length c, .agg #[.string ⟨f.toArray⟩, .int .i64 op, .int .i64 form, .int .i64 lo, .int .i64 hi, .int .i64 len, .string ⟨pat.toArray⟩]] w _
  obtain ⟨O, hO⟩ : ∃ O : Obj, Obj.cells #[.string ⟨f.toArray⟩, .int .i64 op, .int .i64 form, .int .i64 lo, .int .i64 hi, .int .i64 len, .string ⟨pat.toArray⟩] 24 = O := ⟨_, rfl⟩
  have hB1 : Below w.heap.size w (w.alloc O) := (Below.refl _ _).alloc (Nat.le_refl _) _
  have hbx : (w.alloc O).heap[w.heap.size]? = some (.cells #[.string ⟨f.toArray⟩, .int .i64 op, .int .i64 form, .int .i64 lo, .int .i64 hi, .int .i64 len, .string ⟨pat.toArray⟩] 24) := by rw [hO]; exact alloc_get _ _
  have HX : Hid (∀ W : World, Below (w.alloc O).heap.size (w.alloc O) W → W.cell? ⟨w.heap.size, 0, none⟩ = some (.string ⟨f.toArray⟩) ∧ W.cell? ⟨w.heap.size, 1, none⟩ = some (.int .i64 op) ∧ W.cell? ⟨w.heap.size, 2, none⟩ = some (.int .i64 form) ∧ W.cell? ⟨w.heap.size, 3, none⟩ = some (.int .i64 lo) ∧ W.cell? ⟨w.heap.size, 4, none⟩ = some (.int .i64 hi) ∧ W.cell? ⟨w.heap.size, 5, none⟩ = some (.int .i64 len) ∧ W.cell? ⟨w.heap.size, 6, none⟩ = some (.string ⟨pat.toArray⟩)) := fun W hW => ⟨cell_of_row _ _ 0 _ _ _ (keepblk hW hbx), cell_of_row _ _ 1 _ _ _ (keepblk hW hbx), cell_of_row _ _ 2 _ _ _ (keepblk hW hbx), cell_of_row _ _ 3 _ _ _ (keepblk hW hbx), cell_of_row _ _ 4 _ _ _ (keepblk hW hbx), cell_of_row _ _ 5 _ _ _ (keepblk hW hbx), cell_of_row _ _ 6 _ _ _ (keepblk hW hbx)⟩
  obtain ⟨t0, t1, t2, t3, t4, t5, t6⟩ := HX.out _ (Below.refl _ _)
  clear hbx hR
  unfold plM at HPL0
  obtain ⟨ix, hix⟩ : ∃ x, idxF L f = x := ⟨_, rfl⟩
  rw [hix] at hRR
  simp only [hix] at HPL0
  by_cases hneg : ix < 0
  · rw [if_pos hneg] at hRR
    subst hRR
    simp only [if_pos hneg] at HPL0
    have HPL : Hid (∀ (W : World), Below w.heap.size w W → Calls Tryz.prog 34 #[.slice o L.length c, .string ⟨f.toArray⟩] W fun e w' => e = .returned (.tuple #[.int .i64 (-1), .int .i64 (-1)]) ∧ Below W.heap.size W w') := fun W hW => (HPL0 W hW)
    clear HPL0 HFO0 hr hf hb0 hix
    go_enter Tryz.func33, Tryz.ntmps33
    go_wp2_with fail
    try simp only [hO]
    refine (HPL.out _ hB1).mono ?_
    rintro e W1 ⟨rfl, hb1⟩
    go_wp2_with fail
    go_ret
    exact ⟨rfl, bel0 hB1 hb1⟩
  rw [if_neg hneg] at hRR
  simp only [if_neg hneg] at HPL0
  obtain ⟨k, rfl⟩ : ∃ k : Nat, ix = k := ⟨ix.toNat, by omega⟩
  obtain ⟨fk, hfk, -⟩ := idx_at hix
  have hgd : L.getD k ([], 0) = fk := by simp [List.getD, hfk]
  rw [Int.toNat_natCast, hgd] at hRR
  have hkb := hf fk (List.mem_of_getElem? hfk)
  obtain ⟨x, bi⟩ := fk
  obtain ⟨b, rfl⟩ : ∃ b : Nat, bi = (b : Int) := ⟨bi.toNat, by simp only at hkb; omega⟩
  simp only [Int.toNat_natCast] at hRR hkb
  obtain ⟨p, hp⟩ : ∃ p : Nat, sumB (L.take k) = (p : Int) := ⟨(sumB (L.take k)).toNat, by have := (sumB_bound (L.take k) (fun f hf => hb0 f (List.mem_of_mem_take hf))).1; omega⟩
  simp only [Int.toNat_natCast, hp] at HPL0
  have HPL : Hid (∀ (W : World), Below w.heap.size w W → Calls Tryz.prog 34 #[.slice o L.length c, .string ⟨f.toArray⟩] W fun e w' => e = .returned (.tuple #[.int .i64 (p : Int), .int .i64 (k : Int)]) ∧ Below W.heap.size W w') := fun W hW => (HPL0 W hW)
  have hkl : k < L.length := (List.getElem?_eq_some_iff.1 hfk).1
  obtain ⟨g, o0, rfl, -⟩ := hr w (Below.refl _ _) k _ hfk
  have XF : Hid (∀ W : World, Below w.heap.size w W → W.cell? ⟨g, o0 + k * 2 + 1, none⟩ = some (.int .i64 (b : Int))) := fun W hW => by
    obtain ⟨g3, q3, h1, -, h2⟩ := hr W hW k _ hfk
    injection h1 with h1
    injection h1 with h1 h4
    subst h1 h4
    exact h2
  have j0 : (0 : Int) ≤ (k : Int) := by omega
  have j1 : (k : Int) < (L.length : Int) := by omega
  have jn : ¬ (k : Int) < 0 := by omega
  have hb32 : b ≤ 32 := by omega
  have hb1' : 1 ≤ b := by omega
  have hp2 : 2 ^ b ≤ 2 ^ 32 := Nat.pow_le_pow_right (by decide) hb32
  have hp0 : 0 < 2 ^ b := Nat.pow_pos (by decide)
  have HG0 := fun W => top_any b hb32 W
  obtain ⟨G, hG⟩ : ∃ G : Nat, 2 ^ b - 1 = G := ⟨_, rfl⟩
  have hG32 : (G : Int) < 4294967296 := by omega
  unfold fltM at hRR
  simp only [hG] at hRR HG0
  have HG : Hid (∀ W : World, Calls Tryz.prog 69 #[.int .i64 (b : Int)] W fun e w' => e = .returned (.int .i64 (G : Int)) ∧ w' = W) := HG0
  obtain ⟨tb, htb⟩ : ∃ q, tstB ⟨f, op, form, lo, hi, len, pat⟩ = q := ⟨_, rfl⟩
  rw [htb] at hRR
  simp only [htb] at HFO0
  have HFO : Hid (∀ W : World, Calls Tryz.prog 68 #[.agg #[.string ⟨f.toArray⟩, .int .i64 op, .int .i64 form, .int .i64 lo, .int .i64 hi, .int .i64 len, .string ⟨pat.toArray⟩]] W fun e w' => e = .returned (.bool tb) ∧ Below W.heap.size W w') := HFO0
  have hcb : cuB b pat = (decide (pat.length = b) && pat.all Tn.tri) := rfl
  have HBB : Hid (1 ≤ b ∧ b ≤ 32 ∧ (G : Int) < 4294967296) := ⟨hb1', hb32, hG32⟩
  clear HPL0 HFO0 hr hf hb0 hix hfk hgd hp HG0 hG hp2 hp0 htb hneg hb1' hb32 hG32 hkb hpl hL hkl
  cases tb with
  | false =>
    rw [if_pos rfl] at hRR
    subst hRR
    go_enter Tryz.func33, Tryz.ntmps33
    go_wp2_with fail
    try simp only [hO]
    refine (HPL.out _ (by first | exact hB1 | exact Below.refl _ _)).mono ?_
    rintro e W1 ⟨rfl, hb1⟩
    obtain ⟨x0, x1, x2, x3, x4, x5, x6⟩ := HX.out W1 hb1
    go_wp2_with fail
    refine (HFO.out _).mono ?_
    rintro e W2 ⟨rfl, hb2'⟩
    have hb2 := bel0 hb1 hb2'
    clear x0 x1 x2 x3 x4 x5 x6
    go_wp2_with fail
    go_ret
    exact ⟨rfl, bel0 hB1 hb2⟩
  | true =>
    rw [if_neg (by decide)] at hRR
    by_cases a1 : lo < 0
    · rw [if_pos (fun h => by omega)] at hRR
      subst hRR
      go_enter Tryz.func33, Tryz.ntmps33
      go_wp2_with fail
      try simp only [hO]
      refine (HPL.out _ (by first | exact hB1 | exact Below.refl _ _)).mono ?_
      rintro e W1 ⟨rfl, hb1⟩
      obtain ⟨x0, x1, x2, x3, x4, x5, x6⟩ := HX.out W1 hb1
      go_wp2_with fail
      refine (HFO.out _).mono ?_
      rintro e W2 ⟨rfl, hb2'⟩
      have hb2 := bel0 hb1 hb2'
      clear x0 x1 x2 x3 x4 x5 x6
      have z9 := XF.out W2 (bel0 hB1 hb2)
      go_wp2_with fail
      refine quiet_lit3 (C := fun W => Below (w.alloc O).heap.size (w.alloc O) W) (by kernel_rfl) (by kernel_rfl) (show Below _ _ _ from hb2.drew) ?_
      go_big_quiet_want
      refine ⟨.pointer (some ⟨w.heap.size, 3, none⟩), fun W hW => ?_, ?_⟩
      · go_simp
      go_big_quiet_on
      simp only [Act.put, List.setIfInBounds_toArray, List.set_cons_zero, List.set_cons_succ]
      go_big_quiet_want
      refine ⟨.int .i64 lo, fun W hW => ?_, ?_⟩
      · obtain ⟨x0, x1, x2, x3, x4, x5, x6⟩ := HX.out W hW
        go_simp
      go_big_quiet_on
      simp only [Act.put, List.setIfInBounds_toArray, List.set_cons_zero, List.set_cons_succ]
      go_big_quiet_want
      refine ⟨.bool true, fun W hW => ?_, ?_⟩
      · go_simp
      go_big_quiet_on
      simp only [Act.put, List.setIfInBounds_toArray, List.set_cons_zero, List.set_cons_succ]
      go_big_quiet_want
      go_big_quiet_op
      go_big_quiet_on
      go_big_quiet_skip
      go_big_quiet_skip
      go_big_quiet_skip
      go_big_quiet_skip
      go_big_quiet_skip
      go_big_quiet_want
      refine ⟨.bool true, fun W hW => ?_, ?_⟩
      · go_simp
      go_big_quiet_on
      simp only [Act.put, List.setIfInBounds_toArray, List.set_cons_zero, List.set_cons_succ]
      go_big_quiet_want
      go_big_quiet_op
      go_big_quiet_on
      go_big_quiet_skip
      go_big_quiet_skip
      go_big_quiet_skip
      go_big_quiet_want
      refine ⟨.bool true, fun W hW => ?_, ?_⟩
      · go_simp
      go_big_quiet_on
      simp only [Act.put, List.setIfInBounds_toArray, List.set_cons_zero, List.set_cons_succ]
      go_big_quiet_want
      go_big_quiet_op
      go_big_quiet_on
      go_big_quiet_skip
      go_big_quiet_skip
      go_big_quiet_skip
      go_big_quiet_skip
      go_big_quiet_skip
      go_big_quiet_want
      refine ⟨.bool true, fun W hW => ?_, ?_⟩
      · go_simp
      go_big_quiet_on
      simp only [Act.put, List.setIfInBounds_toArray, List.set_cons_zero, List.set_cons_succ]
      go_big_quiet_want
      go_big_quiet_op
      go_big_quiet_on
      go_big_quiet_skip
      go_big_quiet_skip
      go_big_quiet_skip
      go_big_quiet_want
      refine ⟨.bool true, fun W hW => ?_, ?_⟩
      · go_simp
      go_big_quiet_on
      simp only [Act.put, List.setIfInBounds_toArray, List.set_cons_zero, List.set_cons_succ]
      go_big_quiet_want
      go_big_quiet_op
      go_big_quiet_on
      go_big_quiet_skip
      go_big_quiet_skip
      go_big_quiet_skip
      go_big_quiet_skip
      go_big_quiet_want
      refine ⟨.bool true, fun W hW => ?_, ?_⟩
      · go_simp
      go_big_quiet_on
      simp only [Act.put, List.setIfInBounds_toArray, List.set_cons_zero, List.set_cons_succ]
      refine wpQuiet_nil ?_
      intro W hW
      go_wp2_with fail
      go_ret
      exact ⟨rfl, bel0 hB1 hW⟩
    have c1 : ¬ lo < 0 := a1
    by_cases a2 : (G : Int) < lo
    · rw [if_pos (fun h => by omega)] at hRR
      subst hRR
      go_enter Tryz.func33, Tryz.ntmps33
      go_wp2_with fail
      try simp only [hO]
      refine (HPL.out _ (by first | exact hB1 | exact Below.refl _ _)).mono ?_
      rintro e W1 ⟨rfl, hb1⟩
      obtain ⟨x0, x1, x2, x3, x4, x5, x6⟩ := HX.out W1 hb1
      go_wp2_with fail
      refine (HFO.out _).mono ?_
      rintro e W2 ⟨rfl, hb2'⟩
      have hb2 := bel0 hb1 hb2'
      clear x0 x1 x2 x3 x4 x5 x6
      have z9 := XF.out W2 (bel0 hB1 hb2)
      go_wp2_with fail
      refine quiet_lit3 (C := fun W => Below (w.alloc O).heap.size (w.alloc O) W) (by kernel_rfl) (by kernel_rfl) (show Below _ _ _ from hb2.drew) ?_
      go_big_quiet_want
      refine ⟨.pointer (some ⟨w.heap.size, 3, none⟩), fun W hW => ?_, ?_⟩
      · go_simp
      go_big_quiet_on
      simp only [Act.put, List.setIfInBounds_toArray, List.set_cons_zero, List.set_cons_succ]
      go_big_quiet_want
      refine ⟨.int .i64 lo, fun W hW => ?_, ?_⟩
      · obtain ⟨x0, x1, x2, x3, x4, x5, x6⟩ := HX.out W hW
        go_simp
      go_big_quiet_on
      simp only [Act.put, List.setIfInBounds_toArray, List.set_cons_zero, List.set_cons_succ]
      go_big_quiet_want
      refine ⟨.bool false, fun W hW => ?_, ?_⟩
      · go_simp
      go_big_quiet_on
      simp only [Act.put, List.setIfInBounds_toArray, List.set_cons_zero, List.set_cons_succ]
      go_big_quiet_want
      go_big_quiet_op
      go_big_quiet_on
      go_big_quiet_want
      refine ⟨.pointer (some ⟨w.heap.size, 3, none⟩), fun W hW => ?_, ?_⟩
      · go_simp
      go_big_quiet_on
      simp only [Act.put, List.setIfInBounds_toArray, List.set_cons_zero, List.set_cons_succ]
      go_big_quiet_want
      refine ⟨.int .i64 lo, fun W hW => ?_, ?_⟩
      · obtain ⟨x0, x1, x2, x3, x4, x5, x6⟩ := HX.out W hW
        go_simp
      go_big_quiet_on
      simp only [Act.put, List.setIfInBounds_toArray, List.set_cons_zero, List.set_cons_succ]
      go_big_quiet_want
      go_big_quiet_op
      go_big_quiet_on
      go_big_quiet_want
      refine ⟨.int .i64 (G : Int), fun W hW => ?_, ?_⟩
      · go_simp
        refine (HG.out W).mono ?_
        rintro e w7 ⟨rfl, hq⟩
        subst hq
        exact ⟨rfl, by simpa using (show Below (w.alloc O).heap.size (w.alloc O) _ from hW)⟩
      go_big_quiet_on
      simp only [Act.put, List.setIfInBounds_toArray, List.set_cons_zero, List.set_cons_succ]
      go_big_quiet_want
      refine ⟨.bool true, fun W hW => ?_, ?_⟩
      · go_simp
      go_big_quiet_on
      simp only [Act.put, List.setIfInBounds_toArray, List.set_cons_zero, List.set_cons_succ]
      go_big_quiet_want
      refine ⟨.bool true, fun W hW => ?_, ?_⟩
      · go_simp
      go_big_quiet_on
      simp only [Act.put, List.setIfInBounds_toArray, List.set_cons_zero, List.set_cons_succ]
      go_big_quiet_want
      go_big_quiet_op
      go_big_quiet_on
      go_big_quiet_skip
      go_big_quiet_skip
      go_big_quiet_skip
      go_big_quiet_want
      refine ⟨.bool true, fun W hW => ?_, ?_⟩
      · go_simp
      go_big_quiet_on
      simp only [Act.put, List.setIfInBounds_toArray, List.set_cons_zero, List.set_cons_succ]
      go_big_quiet_want
      go_big_quiet_op
      go_big_quiet_on
      go_big_quiet_skip
      go_big_quiet_skip
      go_big_quiet_skip
      go_big_quiet_skip
      go_big_quiet_skip
      go_big_quiet_want
      refine ⟨.bool true, fun W hW => ?_, ?_⟩
      · go_simp
      go_big_quiet_on
      simp only [Act.put, List.setIfInBounds_toArray, List.set_cons_zero, List.set_cons_succ]
      go_big_quiet_want
      go_big_quiet_op
      go_big_quiet_on
      go_big_quiet_skip
      go_big_quiet_skip
      go_big_quiet_skip
      go_big_quiet_want
      refine ⟨.bool true, fun W hW => ?_, ?_⟩
      · go_simp
      go_big_quiet_on
      simp only [Act.put, List.setIfInBounds_toArray, List.set_cons_zero, List.set_cons_succ]
      go_big_quiet_want
      go_big_quiet_op
      go_big_quiet_on
      go_big_quiet_skip
      go_big_quiet_skip
      go_big_quiet_skip
      go_big_quiet_skip
      go_big_quiet_want
      refine ⟨.bool true, fun W hW => ?_, ?_⟩
      · go_simp
      go_big_quiet_on
      simp only [Act.put, List.setIfInBounds_toArray, List.set_cons_zero, List.set_cons_succ]
      refine wpQuiet_nil ?_
      intro W hW
      go_wp2_with fail
      go_ret
      exact ⟨rfl, bel0 hB1 hW⟩
    by_cases a3 : hi < 0
    · rw [if_pos (fun h => by omega)] at hRR
      subst hRR
      go_enter Tryz.func33, Tryz.ntmps33
      go_wp2_with fail
      try simp only [hO]
      refine (HPL.out _ (by first | exact hB1 | exact Below.refl _ _)).mono ?_
      rintro e W1 ⟨rfl, hb1⟩
      obtain ⟨x0, x1, x2, x3, x4, x5, x6⟩ := HX.out W1 hb1
      go_wp2_with fail
      refine (HFO.out _).mono ?_
      rintro e W2 ⟨rfl, hb2'⟩
      have hb2 := bel0 hb1 hb2'
      clear x0 x1 x2 x3 x4 x5 x6
      have z9 := XF.out W2 (bel0 hB1 hb2)
      go_wp2_with fail
      refine quiet_lit3 (C := fun W => Below (w.alloc O).heap.size (w.alloc O) W) (by kernel_rfl) (by kernel_rfl) (show Below _ _ _ from hb2.drew) ?_
      go_big_quiet_want
      refine ⟨.pointer (some ⟨w.heap.size, 3, none⟩), fun W hW => ?_, ?_⟩
      · go_simp
      go_big_quiet_on
      simp only [Act.put, List.setIfInBounds_toArray, List.set_cons_zero, List.set_cons_succ]
      go_big_quiet_want
      refine ⟨.int .i64 lo, fun W hW => ?_, ?_⟩
      · obtain ⟨x0, x1, x2, x3, x4, x5, x6⟩ := HX.out W hW
        go_simp
      go_big_quiet_on
      simp only [Act.put, List.setIfInBounds_toArray, List.set_cons_zero, List.set_cons_succ]
      go_big_quiet_want
      refine ⟨.bool false, fun W hW => ?_, ?_⟩
      · go_simp
      go_big_quiet_on
      simp only [Act.put, List.setIfInBounds_toArray, List.set_cons_zero, List.set_cons_succ]
      go_big_quiet_want
      go_big_quiet_op
      go_big_quiet_on
      go_big_quiet_want
      refine ⟨.pointer (some ⟨w.heap.size, 3, none⟩), fun W hW => ?_, ?_⟩
      · go_simp
      go_big_quiet_on
      simp only [Act.put, List.setIfInBounds_toArray, List.set_cons_zero, List.set_cons_succ]
      go_big_quiet_want
      refine ⟨.int .i64 lo, fun W hW => ?_, ?_⟩
      · obtain ⟨x0, x1, x2, x3, x4, x5, x6⟩ := HX.out W hW
        go_simp
      go_big_quiet_on
      simp only [Act.put, List.setIfInBounds_toArray, List.set_cons_zero, List.set_cons_succ]
      go_big_quiet_want
      go_big_quiet_op
      go_big_quiet_on
      go_big_quiet_want
      refine ⟨.int .i64 (G : Int), fun W hW => ?_, ?_⟩
      · go_simp
        refine (HG.out W).mono ?_
        rintro e w7 ⟨rfl, hq⟩
        subst hq
        exact ⟨rfl, by simpa using (show Below (w.alloc O).heap.size (w.alloc O) _ from hW)⟩
      go_big_quiet_on
      simp only [Act.put, List.setIfInBounds_toArray, List.set_cons_zero, List.set_cons_succ]
      go_big_quiet_want
      refine ⟨.bool false, fun W hW => ?_, ?_⟩
      · go_simp
      go_big_quiet_on
      simp only [Act.put, List.setIfInBounds_toArray, List.set_cons_zero, List.set_cons_succ]
      go_big_quiet_want
      refine ⟨.bool false, fun W hW => ?_, ?_⟩
      · go_simp
      go_big_quiet_on
      simp only [Act.put, List.setIfInBounds_toArray, List.set_cons_zero, List.set_cons_succ]
      go_big_quiet_want
      go_big_quiet_op
      go_big_quiet_on
      go_big_quiet_want
      refine ⟨.pointer (some ⟨w.heap.size, 4, none⟩), fun W hW => ?_, ?_⟩
      · go_simp
      go_big_quiet_on
      simp only [Act.put, List.setIfInBounds_toArray, List.set_cons_zero, List.set_cons_succ]
      go_big_quiet_want
      refine ⟨.int .i64 hi, fun W hW => ?_, ?_⟩
      · obtain ⟨x0, x1, x2, x3, x4, x5, x6⟩ := HX.out W hW
        go_simp
      go_big_quiet_on
      simp only [Act.put, List.setIfInBounds_toArray, List.set_cons_zero, List.set_cons_succ]
      go_big_quiet_want
      refine ⟨.bool true, fun W hW => ?_, ?_⟩
      · go_simp
      go_big_quiet_on
      simp only [Act.put, List.setIfInBounds_toArray, List.set_cons_zero, List.set_cons_succ]
      go_big_quiet_want
      refine ⟨.bool true, fun W hW => ?_, ?_⟩
      · go_simp
      go_big_quiet_on
      simp only [Act.put, List.setIfInBounds_toArray, List.set_cons_zero, List.set_cons_succ]
      go_big_quiet_want
      go_big_quiet_op
      go_big_quiet_on
      go_big_quiet_skip
      go_big_quiet_skip
      go_big_quiet_skip
      go_big_quiet_skip
      go_big_quiet_skip
      go_big_quiet_want
      refine ⟨.bool true, fun W hW => ?_, ?_⟩
      · go_simp
      go_big_quiet_on
      simp only [Act.put, List.setIfInBounds_toArray, List.set_cons_zero, List.set_cons_succ]
      go_big_quiet_want
      go_big_quiet_op
      go_big_quiet_on
      go_big_quiet_skip
      go_big_quiet_skip
      go_big_quiet_skip
      go_big_quiet_want
      refine ⟨.bool true, fun W hW => ?_, ?_⟩
      · go_simp
      go_big_quiet_on
      simp only [Act.put, List.setIfInBounds_toArray, List.set_cons_zero, List.set_cons_succ]
      go_big_quiet_want
      go_big_quiet_op
      go_big_quiet_on
      go_big_quiet_skip
      go_big_quiet_skip
      go_big_quiet_skip
      go_big_quiet_skip
      go_big_quiet_want
      refine ⟨.bool true, fun W hW => ?_, ?_⟩
      · go_simp
      go_big_quiet_on
      simp only [Act.put, List.setIfInBounds_toArray, List.set_cons_zero, List.set_cons_succ]
      refine wpQuiet_nil ?_
      intro W hW
      go_wp2_with fail
      go_ret
      exact ⟨rfl, bel0 hB1 hW⟩
    by_cases a4 : (G : Int) < hi
    · rw [if_pos (fun h => by omega)] at hRR
      subst hRR
      go_enter Tryz.func33, Tryz.ntmps33
      go_wp2_with fail
      try simp only [hO]
      refine (HPL.out _ (by first | exact hB1 | exact Below.refl _ _)).mono ?_
      rintro e W1 ⟨rfl, hb1⟩
      obtain ⟨x0, x1, x2, x3, x4, x5, x6⟩ := HX.out W1 hb1
      go_wp2_with fail
      refine (HFO.out _).mono ?_
      rintro e W2 ⟨rfl, hb2'⟩
      have hb2 := bel0 hb1 hb2'
      clear x0 x1 x2 x3 x4 x5 x6
      have z9 := XF.out W2 (bel0 hB1 hb2)
      go_wp2_with fail
      refine quiet_lit3 (C := fun W => Below (w.alloc O).heap.size (w.alloc O) W) (by kernel_rfl) (by kernel_rfl) (show Below _ _ _ from hb2.drew) ?_
      go_big_quiet_want
      refine ⟨.pointer (some ⟨w.heap.size, 3, none⟩), fun W hW => ?_, ?_⟩
      · go_simp
      go_big_quiet_on
      simp only [Act.put, List.setIfInBounds_toArray, List.set_cons_zero, List.set_cons_succ]
      go_big_quiet_want
      refine ⟨.int .i64 lo, fun W hW => ?_, ?_⟩
      · obtain ⟨x0, x1, x2, x3, x4, x5, x6⟩ := HX.out W hW
        go_simp
      go_big_quiet_on
      simp only [Act.put, List.setIfInBounds_toArray, List.set_cons_zero, List.set_cons_succ]
      go_big_quiet_want
      refine ⟨.bool false, fun W hW => ?_, ?_⟩
      · go_simp
      go_big_quiet_on
      simp only [Act.put, List.setIfInBounds_toArray, List.set_cons_zero, List.set_cons_succ]
      go_big_quiet_want
      go_big_quiet_op
      go_big_quiet_on
      go_big_quiet_want
      refine ⟨.pointer (some ⟨w.heap.size, 3, none⟩), fun W hW => ?_, ?_⟩
      · go_simp
      go_big_quiet_on
      simp only [Act.put, List.setIfInBounds_toArray, List.set_cons_zero, List.set_cons_succ]
      go_big_quiet_want
      refine ⟨.int .i64 lo, fun W hW => ?_, ?_⟩
      · obtain ⟨x0, x1, x2, x3, x4, x5, x6⟩ := HX.out W hW
        go_simp
      go_big_quiet_on
      simp only [Act.put, List.setIfInBounds_toArray, List.set_cons_zero, List.set_cons_succ]
      go_big_quiet_want
      go_big_quiet_op
      go_big_quiet_on
      go_big_quiet_want
      refine ⟨.int .i64 (G : Int), fun W hW => ?_, ?_⟩
      · go_simp
        refine (HG.out W).mono ?_
        rintro e w7 ⟨rfl, hq⟩
        subst hq
        exact ⟨rfl, by simpa using (show Below (w.alloc O).heap.size (w.alloc O) _ from hW)⟩
      go_big_quiet_on
      simp only [Act.put, List.setIfInBounds_toArray, List.set_cons_zero, List.set_cons_succ]
      go_big_quiet_want
      refine ⟨.bool false, fun W hW => ?_, ?_⟩
      · go_simp
      go_big_quiet_on
      simp only [Act.put, List.setIfInBounds_toArray, List.set_cons_zero, List.set_cons_succ]
      go_big_quiet_want
      refine ⟨.bool false, fun W hW => ?_, ?_⟩
      · go_simp
      go_big_quiet_on
      simp only [Act.put, List.setIfInBounds_toArray, List.set_cons_zero, List.set_cons_succ]
      go_big_quiet_want
      go_big_quiet_op
      go_big_quiet_on
      go_big_quiet_want
      refine ⟨.pointer (some ⟨w.heap.size, 4, none⟩), fun W hW => ?_, ?_⟩
      · go_simp
      go_big_quiet_on
      simp only [Act.put, List.setIfInBounds_toArray, List.set_cons_zero, List.set_cons_succ]
      go_big_quiet_want
      refine ⟨.int .i64 hi, fun W hW => ?_, ?_⟩
      · obtain ⟨x0, x1, x2, x3, x4, x5, x6⟩ := HX.out W hW
        go_simp
      go_big_quiet_on
      simp only [Act.put, List.setIfInBounds_toArray, List.set_cons_zero, List.set_cons_succ]
      go_big_quiet_want
      refine ⟨.bool false, fun W hW => ?_, ?_⟩
      · go_simp
      go_big_quiet_on
      simp only [Act.put, List.setIfInBounds_toArray, List.set_cons_zero, List.set_cons_succ]
      go_big_quiet_want
      refine ⟨.bool false, fun W hW => ?_, ?_⟩
      · go_simp
      go_big_quiet_on
      simp only [Act.put, List.setIfInBounds_toArray, List.set_cons_zero, List.set_cons_succ]
      go_big_quiet_want
      go_big_quiet_op
      go_big_quiet_on
      go_big_quiet_want
      refine ⟨.pointer (some ⟨w.heap.size, 4, none⟩), fun W hW => ?_, ?_⟩
      · go_simp
      go_big_quiet_on
      simp only [Act.put, List.setIfInBounds_toArray, List.set_cons_zero, List.set_cons_succ]
      go_big_quiet_want
      refine ⟨.int .i64 hi, fun W hW => ?_, ?_⟩
      · obtain ⟨x0, x1, x2, x3, x4, x5, x6⟩ := HX.out W hW
        go_simp
      go_big_quiet_on
      simp only [Act.put, List.setIfInBounds_toArray, List.set_cons_zero, List.set_cons_succ]
      go_big_quiet_want
      go_big_quiet_op
      go_big_quiet_on
      go_big_quiet_want
      refine ⟨.int .i64 (G : Int), fun W hW => ?_, ?_⟩
      · go_simp
        refine (HG.out W).mono ?_
        rintro e w7 ⟨rfl, hq⟩
        subst hq
        exact ⟨rfl, by simpa using (show Below (w.alloc O).heap.size (w.alloc O) _ from hW)⟩
      go_big_quiet_on
      simp only [Act.put, List.setIfInBounds_toArray, List.set_cons_zero, List.set_cons_succ]
      go_big_quiet_want
      refine ⟨.bool true, fun W hW => ?_, ?_⟩
      · go_simp
      go_big_quiet_on
      simp only [Act.put, List.setIfInBounds_toArray, List.set_cons_zero, List.set_cons_succ]
      go_big_quiet_want
      refine ⟨.bool true, fun W hW => ?_, ?_⟩
      · go_simp
      go_big_quiet_on
      simp only [Act.put, List.setIfInBounds_toArray, List.set_cons_zero, List.set_cons_succ]
      go_big_quiet_want
      go_big_quiet_op
      go_big_quiet_on
      go_big_quiet_skip
      go_big_quiet_skip
      go_big_quiet_skip
      go_big_quiet_want
      refine ⟨.bool true, fun W hW => ?_, ?_⟩
      · go_simp
      go_big_quiet_on
      simp only [Act.put, List.setIfInBounds_toArray, List.set_cons_zero, List.set_cons_succ]
      go_big_quiet_want
      go_big_quiet_op
      go_big_quiet_on
      go_big_quiet_skip
      go_big_quiet_skip
      go_big_quiet_skip
      go_big_quiet_skip
      go_big_quiet_want
      refine ⟨.bool true, fun W hW => ?_, ?_⟩
      · go_simp
      go_big_quiet_on
      simp only [Act.put, List.setIfInBounds_toArray, List.set_cons_zero, List.set_cons_succ]
      refine wpQuiet_nil ?_
      intro W hW
      go_wp2_with fail
      go_ret
      exact ⟨rfl, bel0 hB1 hW⟩
    by_cases a5 : len < 0
    · rw [if_pos (fun h => by omega)] at hRR
      subst hRR
      go_enter Tryz.func33, Tryz.ntmps33
      go_wp2_with fail
      try simp only [hO]
      refine (HPL.out _ (by first | exact hB1 | exact Below.refl _ _)).mono ?_
      rintro e W1 ⟨rfl, hb1⟩
      obtain ⟨x0, x1, x2, x3, x4, x5, x6⟩ := HX.out W1 hb1
      go_wp2_with fail
      refine (HFO.out _).mono ?_
      rintro e W2 ⟨rfl, hb2'⟩
      have hb2 := bel0 hb1 hb2'
      clear x0 x1 x2 x3 x4 x5 x6
      have z9 := XF.out W2 (bel0 hB1 hb2)
      go_wp2_with fail
      refine quiet_lit3 (C := fun W => Below (w.alloc O).heap.size (w.alloc O) W) (by kernel_rfl) (by kernel_rfl) (show Below _ _ _ from hb2.drew) ?_
      go_big_quiet_want
      refine ⟨.pointer (some ⟨w.heap.size, 3, none⟩), fun W hW => ?_, ?_⟩
      · go_simp
      go_big_quiet_on
      simp only [Act.put, List.setIfInBounds_toArray, List.set_cons_zero, List.set_cons_succ]
      go_big_quiet_want
      refine ⟨.int .i64 lo, fun W hW => ?_, ?_⟩
      · obtain ⟨x0, x1, x2, x3, x4, x5, x6⟩ := HX.out W hW
        go_simp
      go_big_quiet_on
      simp only [Act.put, List.setIfInBounds_toArray, List.set_cons_zero, List.set_cons_succ]
      go_big_quiet_want
      refine ⟨.bool false, fun W hW => ?_, ?_⟩
      · go_simp
      go_big_quiet_on
      simp only [Act.put, List.setIfInBounds_toArray, List.set_cons_zero, List.set_cons_succ]
      go_big_quiet_want
      go_big_quiet_op
      go_big_quiet_on
      go_big_quiet_want
      refine ⟨.pointer (some ⟨w.heap.size, 3, none⟩), fun W hW => ?_, ?_⟩
      · go_simp
      go_big_quiet_on
      simp only [Act.put, List.setIfInBounds_toArray, List.set_cons_zero, List.set_cons_succ]
      go_big_quiet_want
      refine ⟨.int .i64 lo, fun W hW => ?_, ?_⟩
      · obtain ⟨x0, x1, x2, x3, x4, x5, x6⟩ := HX.out W hW
        go_simp
      go_big_quiet_on
      simp only [Act.put, List.setIfInBounds_toArray, List.set_cons_zero, List.set_cons_succ]
      go_big_quiet_want
      go_big_quiet_op
      go_big_quiet_on
      go_big_quiet_want
      refine ⟨.int .i64 (G : Int), fun W hW => ?_, ?_⟩
      · go_simp
        refine (HG.out W).mono ?_
        rintro e w7 ⟨rfl, hq⟩
        subst hq
        exact ⟨rfl, by simpa using (show Below (w.alloc O).heap.size (w.alloc O) _ from hW)⟩
      go_big_quiet_on
      simp only [Act.put, List.setIfInBounds_toArray, List.set_cons_zero, List.set_cons_succ]
      go_big_quiet_want
      refine ⟨.bool false, fun W hW => ?_, ?_⟩
      · go_simp
      go_big_quiet_on
      simp only [Act.put, List.setIfInBounds_toArray, List.set_cons_zero, List.set_cons_succ]
      go_big_quiet_want
      refine ⟨.bool false, fun W hW => ?_, ?_⟩
      · go_simp
      go_big_quiet_on
      simp only [Act.put, List.setIfInBounds_toArray, List.set_cons_zero, List.set_cons_succ]
      go_big_quiet_want
      go_big_quiet_op
      go_big_quiet_on
      go_big_quiet_want
      refine ⟨.pointer (some ⟨w.heap.size, 4, none⟩), fun W hW => ?_, ?_⟩
      · go_simp
      go_big_quiet_on
      simp only [Act.put, List.setIfInBounds_toArray, List.set_cons_zero, List.set_cons_succ]
      go_big_quiet_want
      refine ⟨.int .i64 hi, fun W hW => ?_, ?_⟩
      · obtain ⟨x0, x1, x2, x3, x4, x5, x6⟩ := HX.out W hW
        go_simp
      go_big_quiet_on
      simp only [Act.put, List.setIfInBounds_toArray, List.set_cons_zero, List.set_cons_succ]
      go_big_quiet_want
      refine ⟨.bool false, fun W hW => ?_, ?_⟩
      · go_simp
      go_big_quiet_on
      simp only [Act.put, List.setIfInBounds_toArray, List.set_cons_zero, List.set_cons_succ]
      go_big_quiet_want
      refine ⟨.bool false, fun W hW => ?_, ?_⟩
      · go_simp
      go_big_quiet_on
      simp only [Act.put, List.setIfInBounds_toArray, List.set_cons_zero, List.set_cons_succ]
      go_big_quiet_want
      go_big_quiet_op
      go_big_quiet_on
      go_big_quiet_want
      refine ⟨.pointer (some ⟨w.heap.size, 4, none⟩), fun W hW => ?_, ?_⟩
      · go_simp
      go_big_quiet_on
      simp only [Act.put, List.setIfInBounds_toArray, List.set_cons_zero, List.set_cons_succ]
      go_big_quiet_want
      refine ⟨.int .i64 hi, fun W hW => ?_, ?_⟩
      · obtain ⟨x0, x1, x2, x3, x4, x5, x6⟩ := HX.out W hW
        go_simp
      go_big_quiet_on
      simp only [Act.put, List.setIfInBounds_toArray, List.set_cons_zero, List.set_cons_succ]
      go_big_quiet_want
      go_big_quiet_op
      go_big_quiet_on
      go_big_quiet_want
      refine ⟨.int .i64 (G : Int), fun W hW => ?_, ?_⟩
      · go_simp
        refine (HG.out W).mono ?_
        rintro e w7 ⟨rfl, hq⟩
        subst hq
        exact ⟨rfl, by simpa using (show Below (w.alloc O).heap.size (w.alloc O) _ from hW)⟩
      go_big_quiet_on
      simp only [Act.put, List.setIfInBounds_toArray, List.set_cons_zero, List.set_cons_succ]
      go_big_quiet_want
      refine ⟨.bool false, fun W hW => ?_, ?_⟩
      · go_simp
      go_big_quiet_on
      simp only [Act.put, List.setIfInBounds_toArray, List.set_cons_zero, List.set_cons_succ]
      go_big_quiet_want
      refine ⟨.bool false, fun W hW => ?_, ?_⟩
      · go_simp
      go_big_quiet_on
      simp only [Act.put, List.setIfInBounds_toArray, List.set_cons_zero, List.set_cons_succ]
      go_big_quiet_want
      go_big_quiet_op
      go_big_quiet_on
      go_big_quiet_want
      refine ⟨.pointer (some ⟨w.heap.size, 5, none⟩), fun W hW => ?_, ?_⟩
      · go_simp
      go_big_quiet_on
      simp only [Act.put, List.setIfInBounds_toArray, List.set_cons_zero, List.set_cons_succ]
      go_big_quiet_want
      refine ⟨.int .i64 len, fun W hW => ?_, ?_⟩
      · obtain ⟨x0, x1, x2, x3, x4, x5, x6⟩ := HX.out W hW
        go_simp
      go_big_quiet_on
      simp only [Act.put, List.setIfInBounds_toArray, List.set_cons_zero, List.set_cons_succ]
      go_big_quiet_want
      refine ⟨.bool true, fun W hW => ?_, ?_⟩
      · go_simp
      go_big_quiet_on
      simp only [Act.put, List.setIfInBounds_toArray, List.set_cons_zero, List.set_cons_succ]
      go_big_quiet_want
      refine ⟨.bool true, fun W hW => ?_, ?_⟩
      · go_simp
      go_big_quiet_on
      simp only [Act.put, List.setIfInBounds_toArray, List.set_cons_zero, List.set_cons_succ]
      go_big_quiet_want
      go_big_quiet_op
      go_big_quiet_on
      go_big_quiet_skip
      go_big_quiet_skip
      go_big_quiet_skip
      go_big_quiet_skip
      go_big_quiet_want
      refine ⟨.bool true, fun W hW => ?_, ?_⟩
      · go_simp
      go_big_quiet_on
      simp only [Act.put, List.setIfInBounds_toArray, List.set_cons_zero, List.set_cons_succ]
      refine wpQuiet_nil ?_
      intro W hW
      go_wp2_with fail
      go_ret
      exact ⟨rfl, bel0 hB1 hW⟩
    by_cases a6 : (b : Int) < len
    · rw [if_pos (fun h => by omega)] at hRR
      subst hRR
      go_enter Tryz.func33, Tryz.ntmps33
      go_wp2_with fail
      try simp only [hO]
      refine (HPL.out _ (by first | exact hB1 | exact Below.refl _ _)).mono ?_
      rintro e W1 ⟨rfl, hb1⟩
      obtain ⟨x0, x1, x2, x3, x4, x5, x6⟩ := HX.out W1 hb1
      go_wp2_with fail
      refine (HFO.out _).mono ?_
      rintro e W2 ⟨rfl, hb2'⟩
      have hb2 := bel0 hb1 hb2'
      clear x0 x1 x2 x3 x4 x5 x6
      have z9 := XF.out W2 (bel0 hB1 hb2)
      go_wp2_with fail
      refine quiet_lit3 (C := fun W => Below (w.alloc O).heap.size (w.alloc O) W) (by kernel_rfl) (by kernel_rfl) (show Below _ _ _ from hb2.drew) ?_
      go_big_quiet_want
      refine ⟨.pointer (some ⟨w.heap.size, 3, none⟩), fun W hW => ?_, ?_⟩
      · go_simp
      go_big_quiet_on
      simp only [Act.put, List.setIfInBounds_toArray, List.set_cons_zero, List.set_cons_succ]
      go_big_quiet_want
      refine ⟨.int .i64 lo, fun W hW => ?_, ?_⟩
      · obtain ⟨x0, x1, x2, x3, x4, x5, x6⟩ := HX.out W hW
        go_simp
      go_big_quiet_on
      simp only [Act.put, List.setIfInBounds_toArray, List.set_cons_zero, List.set_cons_succ]
      go_big_quiet_want
      refine ⟨.bool false, fun W hW => ?_, ?_⟩
      · go_simp
      go_big_quiet_on
      simp only [Act.put, List.setIfInBounds_toArray, List.set_cons_zero, List.set_cons_succ]
      go_big_quiet_want
      go_big_quiet_op
      go_big_quiet_on
      go_big_quiet_want
      refine ⟨.pointer (some ⟨w.heap.size, 3, none⟩), fun W hW => ?_, ?_⟩
      · go_simp
      go_big_quiet_on
      simp only [Act.put, List.setIfInBounds_toArray, List.set_cons_zero, List.set_cons_succ]
      go_big_quiet_want
      refine ⟨.int .i64 lo, fun W hW => ?_, ?_⟩
      · obtain ⟨x0, x1, x2, x3, x4, x5, x6⟩ := HX.out W hW
        go_simp
      go_big_quiet_on
      simp only [Act.put, List.setIfInBounds_toArray, List.set_cons_zero, List.set_cons_succ]
      go_big_quiet_want
      go_big_quiet_op
      go_big_quiet_on
      go_big_quiet_want
      refine ⟨.int .i64 (G : Int), fun W hW => ?_, ?_⟩
      · go_simp
        refine (HG.out W).mono ?_
        rintro e w7 ⟨rfl, hq⟩
        subst hq
        exact ⟨rfl, by simpa using (show Below (w.alloc O).heap.size (w.alloc O) _ from hW)⟩
      go_big_quiet_on
      simp only [Act.put, List.setIfInBounds_toArray, List.set_cons_zero, List.set_cons_succ]
      go_big_quiet_want
      refine ⟨.bool false, fun W hW => ?_, ?_⟩
      · go_simp
      go_big_quiet_on
      simp only [Act.put, List.setIfInBounds_toArray, List.set_cons_zero, List.set_cons_succ]
      go_big_quiet_want
      refine ⟨.bool false, fun W hW => ?_, ?_⟩
      · go_simp
      go_big_quiet_on
      simp only [Act.put, List.setIfInBounds_toArray, List.set_cons_zero, List.set_cons_succ]
      go_big_quiet_want
      go_big_quiet_op
      go_big_quiet_on
      go_big_quiet_want
      refine ⟨.pointer (some ⟨w.heap.size, 4, none⟩), fun W hW => ?_, ?_⟩
      · go_simp
      go_big_quiet_on
      simp only [Act.put, List.setIfInBounds_toArray, List.set_cons_zero, List.set_cons_succ]
      go_big_quiet_want
      refine ⟨.int .i64 hi, fun W hW => ?_, ?_⟩
      · obtain ⟨x0, x1, x2, x3, x4, x5, x6⟩ := HX.out W hW
        go_simp
      go_big_quiet_on
      simp only [Act.put, List.setIfInBounds_toArray, List.set_cons_zero, List.set_cons_succ]
      go_big_quiet_want
      refine ⟨.bool false, fun W hW => ?_, ?_⟩
      · go_simp
      go_big_quiet_on
      simp only [Act.put, List.setIfInBounds_toArray, List.set_cons_zero, List.set_cons_succ]
      go_big_quiet_want
      refine ⟨.bool false, fun W hW => ?_, ?_⟩
      · go_simp
      go_big_quiet_on
      simp only [Act.put, List.setIfInBounds_toArray, List.set_cons_zero, List.set_cons_succ]
      go_big_quiet_want
      go_big_quiet_op
      go_big_quiet_on
      go_big_quiet_want
      refine ⟨.pointer (some ⟨w.heap.size, 4, none⟩), fun W hW => ?_, ?_⟩
      · go_simp
      go_big_quiet_on
      simp only [Act.put, List.setIfInBounds_toArray, List.set_cons_zero, List.set_cons_succ]
      go_big_quiet_want
      refine ⟨.int .i64 hi, fun W hW => ?_, ?_⟩
      · obtain ⟨x0, x1, x2, x3, x4, x5, x6⟩ := HX.out W hW
        go_simp
      go_big_quiet_on
      simp only [Act.put, List.setIfInBounds_toArray, List.set_cons_zero, List.set_cons_succ]
      go_big_quiet_want
      go_big_quiet_op
      go_big_quiet_on
      go_big_quiet_want
      refine ⟨.int .i64 (G : Int), fun W hW => ?_, ?_⟩
      · go_simp
        refine (HG.out W).mono ?_
        rintro e w7 ⟨rfl, hq⟩
        subst hq
        exact ⟨rfl, by simpa using (show Below (w.alloc O).heap.size (w.alloc O) _ from hW)⟩
      go_big_quiet_on
      simp only [Act.put, List.setIfInBounds_toArray, List.set_cons_zero, List.set_cons_succ]
      go_big_quiet_want
      refine ⟨.bool false, fun W hW => ?_, ?_⟩
      · go_simp
      go_big_quiet_on
      simp only [Act.put, List.setIfInBounds_toArray, List.set_cons_zero, List.set_cons_succ]
      go_big_quiet_want
      refine ⟨.bool false, fun W hW => ?_, ?_⟩
      · go_simp
      go_big_quiet_on
      simp only [Act.put, List.setIfInBounds_toArray, List.set_cons_zero, List.set_cons_succ]
      go_big_quiet_want
      go_big_quiet_op
      go_big_quiet_on
      go_big_quiet_want
      refine ⟨.pointer (some ⟨w.heap.size, 5, none⟩), fun W hW => ?_, ?_⟩
      · go_simp
      go_big_quiet_on
      simp only [Act.put, List.setIfInBounds_toArray, List.set_cons_zero, List.set_cons_succ]
      go_big_quiet_want
      refine ⟨.int .i64 len, fun W hW => ?_, ?_⟩
      · obtain ⟨x0, x1, x2, x3, x4, x5, x6⟩ := HX.out W hW
        go_simp
      go_big_quiet_on
      simp only [Act.put, List.setIfInBounds_toArray, List.set_cons_zero, List.set_cons_succ]
      go_big_quiet_want
      refine ⟨.bool false, fun W hW => ?_, ?_⟩
      · go_simp
      go_big_quiet_on
      simp only [Act.put, List.setIfInBounds_toArray, List.set_cons_zero, List.set_cons_succ]
      go_big_quiet_want
      refine ⟨.bool false, fun W hW => ?_, ?_⟩
      · go_simp
      go_big_quiet_on
      simp only [Act.put, List.setIfInBounds_toArray, List.set_cons_zero, List.set_cons_succ]
      go_big_quiet_want
      go_big_quiet_op
      go_big_quiet_on
      go_big_quiet_want
      refine ⟨.pointer (some ⟨w.heap.size, 5, none⟩), fun W hW => ?_, ?_⟩
      · go_simp
      go_big_quiet_on
      simp only [Act.put, List.setIfInBounds_toArray, List.set_cons_zero, List.set_cons_succ]
      go_big_quiet_want
      refine ⟨.int .i64 len, fun W hW => ?_, ?_⟩
      · obtain ⟨x0, x1, x2, x3, x4, x5, x6⟩ := HX.out W hW
        go_simp
      go_big_quiet_on
      simp only [Act.put, List.setIfInBounds_toArray, List.set_cons_zero, List.set_cons_succ]
      go_big_quiet_want
      go_big_quiet_op
      go_big_quiet_on
      go_big_quiet_want
      refine ⟨.bool true, fun W hW => ?_, ?_⟩
      · go_simp
      go_big_quiet_on
      simp only [Act.put, List.setIfInBounds_toArray, List.set_cons_zero, List.set_cons_succ]
      go_big_quiet_want
      refine ⟨.bool true, fun W hW => ?_, ?_⟩
      · go_simp
      go_big_quiet_on
      simp only [Act.put, List.setIfInBounds_toArray, List.set_cons_zero, List.set_cons_succ]
      refine wpQuiet_nil ?_
      intro W hW
      go_wp2_with fail
      go_ret
      exact ⟨rfl, bel0 hB1 hW⟩
    obtain ⟨lo, rfl⟩ : ∃ z : Nat, lo = z := ⟨lo.toNat, by omega⟩
    obtain ⟨len, rfl⟩ : ∃ z : Nat, len = z := ⟨len.toNat, by omega⟩
    rw [if_neg (fun h => h ⟨by omega, by omega, by omega, by omega, by omega, by omega⟩), Int.toNat_natCast, Int.toNat_natCast] at hRR
    have hlb : len ≤ b := by omega
    have hlG : lo ≤ G := by omega
    have s1 : IntKind.i64.wrap ((b : Int) - (len : Int)) = ((b - len : Nat) : Int) := by have := HBB.out; rw [IntKind.wrap_i64]; omega
    by_cases f2 : form = 2
    · subst f2
      have HT0 := fun W => top_any (b - len) (by have := HBB.out; omega) W
      have hand := and_mod lo (b - len) (by have := HBB.out; omega) (by have := HBB.out; omega)
      obtain ⟨G2, hG2⟩ : ∃ G : Nat, 2 ^ (b - len) - 1 = G := ⟨_, rfl⟩
      obtain ⟨m, hm⟩ : ∃ m : Nat, lo % 2 ^ (b - len) = m := ⟨_, rfl⟩
      rw [hG2, hm] at hand
      rw [hm] at hRR
      simp only [hG2] at HT0
      have HT2 : Hid (∀ W : World, Calls Tryz.prog 69 #[.int .i64 ((b - len : Nat) : Int)] W fun e w' => e = .returned (.int .i64 (G2 : Int)) ∧ w' = W) := HT0
      clear HT0 hG2 hm
      by_cases m0 : m = 0
      · rw [if_neg (fun h => h.2 m0), if_neg (fun h => by cases h.1), if_neg (fun h => by cases h.1)] at hRR
        subst hRR
        have n0 : ((m : Int) != 0) = false := by rw [m0]; rfl
        clear m0
        go_enter Tryz.func33, Tryz.ntmps33
        go_wp2_with fail
        try simp only [hO]
        refine (HPL.out _ (by first | exact hB1 | exact Below.refl _ _)).mono ?_
        rintro e W1 ⟨rfl, hb1⟩
        obtain ⟨x0, x1, x2, x3, x4, x5, x6⟩ := HX.out W1 hb1
        go_wp2_with fail
        refine (HFO.out _).mono ?_
        rintro e W2 ⟨rfl, hb2'⟩
        have hb2 := bel0 hb1 hb2'
        clear x0 x1 x2 x3 x4 x5 x6
        have z9 := XF.out W2 (bel0 hB1 hb2)
        go_wp2_with fail
        refine quiet_lit3 (C := fun W => Below (w.alloc O).heap.size (w.alloc O) W) (by kernel_rfl) (by kernel_rfl) (show Below _ _ _ from hb2.drew) ?_
        go_big_quiet_want
        refine ⟨.pointer (some ⟨w.heap.size, 3, none⟩), fun W hW => ?_, ?_⟩
        · go_simp
        go_big_quiet_on
        simp only [Act.put, List.setIfInBounds_toArray, List.set_cons_zero, List.set_cons_succ]
        go_big_quiet_want
        refine ⟨.int .i64 (lo : Int), fun W hW => ?_, ?_⟩
        · obtain ⟨x0, x1, x2, x3, x4, x5, x6⟩ := HX.out W hW
          go_simp
        go_big_quiet_on
        simp only [Act.put, List.setIfInBounds_toArray, List.set_cons_zero, List.set_cons_succ]
        go_big_quiet_want
        refine ⟨.bool false, fun W hW => ?_, ?_⟩
        · go_simp
        go_big_quiet_on
        simp only [Act.put, List.setIfInBounds_toArray, List.set_cons_zero, List.set_cons_succ]
        go_big_quiet_want
        go_big_quiet_op
        go_big_quiet_on
        go_big_quiet_want
        refine ⟨.pointer (some ⟨w.heap.size, 3, none⟩), fun W hW => ?_, ?_⟩
        · go_simp
        go_big_quiet_on
        simp only [Act.put, List.setIfInBounds_toArray, List.set_cons_zero, List.set_cons_succ]
        go_big_quiet_want
        refine ⟨.int .i64 (lo : Int), fun W hW => ?_, ?_⟩
        · obtain ⟨x0, x1, x2, x3, x4, x5, x6⟩ := HX.out W hW
          go_simp
        go_big_quiet_on
        simp only [Act.put, List.setIfInBounds_toArray, List.set_cons_zero, List.set_cons_succ]
        go_big_quiet_want
        go_big_quiet_op
        go_big_quiet_on
        go_big_quiet_want
        refine ⟨.int .i64 (G : Int), fun W hW => ?_, ?_⟩
        · go_simp
          refine (HG.out W).mono ?_
          rintro e w7 ⟨rfl, hq⟩
          subst hq
          exact ⟨rfl, by simpa using (show Below (w.alloc O).heap.size (w.alloc O) _ from hW)⟩
        go_big_quiet_on
        simp only [Act.put, List.setIfInBounds_toArray, List.set_cons_zero, List.set_cons_succ]
        go_big_quiet_want
        refine ⟨.bool false, fun W hW => ?_, ?_⟩
        · go_simp
        go_big_quiet_on
        simp only [Act.put, List.setIfInBounds_toArray, List.set_cons_zero, List.set_cons_succ]
        go_big_quiet_want
        refine ⟨.bool false, fun W hW => ?_, ?_⟩
        · go_simp
        go_big_quiet_on
        simp only [Act.put, List.setIfInBounds_toArray, List.set_cons_zero, List.set_cons_succ]
        go_big_quiet_want
        go_big_quiet_op
        go_big_quiet_on
        go_big_quiet_want
        refine ⟨.pointer (some ⟨w.heap.size, 4, none⟩), fun W hW => ?_, ?_⟩
        · go_simp
        go_big_quiet_on
        simp only [Act.put, List.setIfInBounds_toArray, List.set_cons_zero, List.set_cons_succ]
        go_big_quiet_want
        refine ⟨.int .i64 hi, fun W hW => ?_, ?_⟩
        · obtain ⟨x0, x1, x2, x3, x4, x5, x6⟩ := HX.out W hW
          go_simp
        go_big_quiet_on
        simp only [Act.put, List.setIfInBounds_toArray, List.set_cons_zero, List.set_cons_succ]
        go_big_quiet_want
        refine ⟨.bool false, fun W hW => ?_, ?_⟩
        · go_simp
        go_big_quiet_on
        simp only [Act.put, List.setIfInBounds_toArray, List.set_cons_zero, List.set_cons_succ]
        go_big_quiet_want
        refine ⟨.bool false, fun W hW => ?_, ?_⟩
        · go_simp
        go_big_quiet_on
        simp only [Act.put, List.setIfInBounds_toArray, List.set_cons_zero, List.set_cons_succ]
        go_big_quiet_want
        go_big_quiet_op
        go_big_quiet_on
        go_big_quiet_want
        refine ⟨.pointer (some ⟨w.heap.size, 4, none⟩), fun W hW => ?_, ?_⟩
        · go_simp
        go_big_quiet_on
        simp only [Act.put, List.setIfInBounds_toArray, List.set_cons_zero, List.set_cons_succ]
        go_big_quiet_want
        refine ⟨.int .i64 hi, fun W hW => ?_, ?_⟩
        · obtain ⟨x0, x1, x2, x3, x4, x5, x6⟩ := HX.out W hW
          go_simp
        go_big_quiet_on
        simp only [Act.put, List.setIfInBounds_toArray, List.set_cons_zero, List.set_cons_succ]
        go_big_quiet_want
        go_big_quiet_op
        go_big_quiet_on
        go_big_quiet_want
        refine ⟨.int .i64 (G : Int), fun W hW => ?_, ?_⟩
        · go_simp
          refine (HG.out W).mono ?_
          rintro e w7 ⟨rfl, hq⟩
          subst hq
          exact ⟨rfl, by simpa using (show Below (w.alloc O).heap.size (w.alloc O) _ from hW)⟩
        go_big_quiet_on
        simp only [Act.put, List.setIfInBounds_toArray, List.set_cons_zero, List.set_cons_succ]
        go_big_quiet_want
        refine ⟨.bool false, fun W hW => ?_, ?_⟩
        · go_simp
        go_big_quiet_on
        simp only [Act.put, List.setIfInBounds_toArray, List.set_cons_zero, List.set_cons_succ]
        go_big_quiet_want
        refine ⟨.bool false, fun W hW => ?_, ?_⟩
        · go_simp
        go_big_quiet_on
        simp only [Act.put, List.setIfInBounds_toArray, List.set_cons_zero, List.set_cons_succ]
        go_big_quiet_want
        go_big_quiet_op
        go_big_quiet_on
        go_big_quiet_want
        refine ⟨.pointer (some ⟨w.heap.size, 5, none⟩), fun W hW => ?_, ?_⟩
        · go_simp
        go_big_quiet_on
        simp only [Act.put, List.setIfInBounds_toArray, List.set_cons_zero, List.set_cons_succ]
        go_big_quiet_want
        refine ⟨.int .i64 (len : Int), fun W hW => ?_, ?_⟩
        · obtain ⟨x0, x1, x2, x3, x4, x5, x6⟩ := HX.out W hW
          go_simp
        go_big_quiet_on
        simp only [Act.put, List.setIfInBounds_toArray, List.set_cons_zero, List.set_cons_succ]
        go_big_quiet_want
        refine ⟨.bool false, fun W hW => ?_, ?_⟩
        · go_simp
        go_big_quiet_on
        simp only [Act.put, List.setIfInBounds_toArray, List.set_cons_zero, List.set_cons_succ]
        go_big_quiet_want
        refine ⟨.bool false, fun W hW => ?_, ?_⟩
        · go_simp
        go_big_quiet_on
        simp only [Act.put, List.setIfInBounds_toArray, List.set_cons_zero, List.set_cons_succ]
        go_big_quiet_want
        go_big_quiet_op
        go_big_quiet_on
        go_big_quiet_want
        refine ⟨.pointer (some ⟨w.heap.size, 5, none⟩), fun W hW => ?_, ?_⟩
        · go_simp
        go_big_quiet_on
        simp only [Act.put, List.setIfInBounds_toArray, List.set_cons_zero, List.set_cons_succ]
        go_big_quiet_want
        refine ⟨.int .i64 (len : Int), fun W hW => ?_, ?_⟩
        · obtain ⟨x0, x1, x2, x3, x4, x5, x6⟩ := HX.out W hW
          go_simp
        go_big_quiet_on
        simp only [Act.put, List.setIfInBounds_toArray, List.set_cons_zero, List.set_cons_succ]
        go_big_quiet_want
        go_big_quiet_op
        go_big_quiet_on
        go_big_quiet_want
        refine ⟨.bool false, fun W hW => ?_, ?_⟩
        · go_simp
        go_big_quiet_on
        simp only [Act.put, List.setIfInBounds_toArray, List.set_cons_zero, List.set_cons_succ]
        go_big_quiet_want
        refine ⟨.bool false, fun W hW => ?_, ?_⟩
        · go_simp
        go_big_quiet_on
        simp only [Act.put, List.setIfInBounds_toArray, List.set_cons_zero, List.set_cons_succ]
        refine wpQuiet_nil ?_
        intro W hW
        have hb3 := hW
        go_wp2_with fail
        refine quiet_lit3 (C := fun W => Below (w.alloc O).heap.size (w.alloc O) W) (by kernel_rfl) (by kernel_rfl) (show Below _ _ _ from hb3.drew) ?_
        go_big_quiet_want
        refine ⟨.pointer (some ⟨w.heap.size, 2, none⟩), fun W hW => ?_, ?_⟩
        · go_simp
        go_big_quiet_on
        simp only [Act.put, List.setIfInBounds_toArray, List.set_cons_zero, List.set_cons_succ]
        go_big_quiet_want
        refine ⟨.int .i64 2, fun W hW => ?_, ?_⟩
        · obtain ⟨x0, x1, x2, x3, x4, x5, x6⟩ := HX.out W hW
          go_simp
        go_big_quiet_on
        simp only [Act.put, List.setIfInBounds_toArray, List.set_cons_zero, List.set_cons_succ]
        go_big_quiet_want
        refine ⟨.bool true, fun W hW => ?_, ?_⟩
        · go_simp
        go_big_quiet_on
        simp only [Act.put, List.setIfInBounds_toArray, List.set_cons_zero, List.set_cons_succ]
        go_big_quiet_want
        go_big_quiet_op
        go_big_quiet_on
        go_big_quiet_want
        refine ⟨.pointer (some ⟨w.heap.size, 3, none⟩), fun W hW => ?_, ?_⟩
        · go_simp
        go_big_quiet_on
        simp only [Act.put, List.setIfInBounds_toArray, List.set_cons_zero, List.set_cons_succ]
        go_big_quiet_want
        refine ⟨.int .i64 (lo : Int), fun W hW => ?_, ?_⟩
        · obtain ⟨x0, x1, x2, x3, x4, x5, x6⟩ := HX.out W hW
          go_simp
        go_big_quiet_on
        simp only [Act.put, List.setIfInBounds_toArray, List.set_cons_zero, List.set_cons_succ]
        go_big_quiet_want
        go_big_quiet_op
        go_big_quiet_on
        go_big_quiet_want
        refine ⟨.pointer (some ⟨w.heap.size, 5, none⟩), fun W hW => ?_, ?_⟩
        · go_simp
        go_big_quiet_on
        simp only [Act.put, List.setIfInBounds_toArray, List.set_cons_zero, List.set_cons_succ]
        go_big_quiet_want
        refine ⟨.int .i64 (len : Int), fun W hW => ?_, ?_⟩
        · obtain ⟨x0, x1, x2, x3, x4, x5, x6⟩ := HX.out W hW
          go_simp
        go_big_quiet_on
        simp only [Act.put, List.setIfInBounds_toArray, List.set_cons_zero, List.set_cons_succ]
        go_big_quiet_want
        refine ⟨.int .i64 ((b - len : Nat) : Int), fun W hW => ?_, ?_⟩
        · go_simp
        go_big_quiet_on
        simp only [Act.put, List.setIfInBounds_toArray, List.set_cons_zero, List.set_cons_succ]
        go_big_quiet_want
        refine ⟨.int .i64 (G2 : Int), fun W hW => ?_, ?_⟩
        · go_simp
          refine (HT2.out W).mono ?_
          rintro e w7 ⟨rfl, hq⟩
          subst hq
          exact ⟨rfl, by simpa using (show Below (w.alloc O).heap.size (w.alloc O) _ from hW)⟩
        go_big_quiet_on
        simp only [Act.put, List.setIfInBounds_toArray, List.set_cons_zero, List.set_cons_succ]
        go_big_quiet_want
        refine ⟨.int .i64 (m : Int), fun W hW => ?_, ?_⟩
        · go_simp
        go_big_quiet_on
        simp only [Act.put, List.setIfInBounds_toArray, List.set_cons_zero, List.set_cons_succ]
        go_big_quiet_want
        refine ⟨.bool false, fun W hW => ?_, ?_⟩
        · go_simp
        go_big_quiet_on
        simp only [Act.put, List.setIfInBounds_toArray, List.set_cons_zero, List.set_cons_succ]
        go_big_quiet_want
        refine ⟨.bool false, fun W hW => ?_, ?_⟩
        · go_simp
        go_big_quiet_on
        simp only [Act.put, List.setIfInBounds_toArray, List.set_cons_zero, List.set_cons_succ]
        refine wpQuiet_nil ?_
        intro W4 hb4
        obtain ⟨x0, x1, x2, x3, x4, x5, x6⟩ := HX.out W4 hb4
        go_wp2_with fail
        go_ret
        exact ⟨rfl, bel0 hB1 hb4⟩
      · rw [if_pos ⟨rfl, m0⟩] at hRR
        subst hRR
        have n0 : ((m : Int) != 0) = true := by rw [bne_iff_ne]; omega
        clear m0
        go_enter Tryz.func33, Tryz.ntmps33
        go_wp2_with fail
        try simp only [hO]
        refine (HPL.out _ (by first | exact hB1 | exact Below.refl _ _)).mono ?_
        rintro e W1 ⟨rfl, hb1⟩
        obtain ⟨x0, x1, x2, x3, x4, x5, x6⟩ := HX.out W1 hb1
        go_wp2_with fail
        refine (HFO.out _).mono ?_
        rintro e W2 ⟨rfl, hb2'⟩
        have hb2 := bel0 hb1 hb2'
        clear x0 x1 x2 x3 x4 x5 x6
        have z9 := XF.out W2 (bel0 hB1 hb2)
        go_wp2_with fail
        refine quiet_lit3 (C := fun W => Below (w.alloc O).heap.size (w.alloc O) W) (by kernel_rfl) (by kernel_rfl) (show Below _ _ _ from hb2.drew) ?_
        go_big_quiet_want
        refine ⟨.pointer (some ⟨w.heap.size, 3, none⟩), fun W hW => ?_, ?_⟩
        · go_simp
        go_big_quiet_on
        simp only [Act.put, List.setIfInBounds_toArray, List.set_cons_zero, List.set_cons_succ]
        go_big_quiet_want
        refine ⟨.int .i64 (lo : Int), fun W hW => ?_, ?_⟩
        · obtain ⟨x0, x1, x2, x3, x4, x5, x6⟩ := HX.out W hW
          go_simp
        go_big_quiet_on
        simp only [Act.put, List.setIfInBounds_toArray, List.set_cons_zero, List.set_cons_succ]
        go_big_quiet_want
        refine ⟨.bool false, fun W hW => ?_, ?_⟩
        · go_simp
        go_big_quiet_on
        simp only [Act.put, List.setIfInBounds_toArray, List.set_cons_zero, List.set_cons_succ]
        go_big_quiet_want
        go_big_quiet_op
        go_big_quiet_on
        go_big_quiet_want
        refine ⟨.pointer (some ⟨w.heap.size, 3, none⟩), fun W hW => ?_, ?_⟩
        · go_simp
        go_big_quiet_on
        simp only [Act.put, List.setIfInBounds_toArray, List.set_cons_zero, List.set_cons_succ]
        go_big_quiet_want
        refine ⟨.int .i64 (lo : Int), fun W hW => ?_, ?_⟩
        · obtain ⟨x0, x1, x2, x3, x4, x5, x6⟩ := HX.out W hW
          go_simp
        go_big_quiet_on
        simp only [Act.put, List.setIfInBounds_toArray, List.set_cons_zero, List.set_cons_succ]
        go_big_quiet_want
        go_big_quiet_op
        go_big_quiet_on
        go_big_quiet_want
        refine ⟨.int .i64 (G : Int), fun W hW => ?_, ?_⟩
        · go_simp
          refine (HG.out W).mono ?_
          rintro e w7 ⟨rfl, hq⟩
          subst hq
          exact ⟨rfl, by simpa using (show Below (w.alloc O).heap.size (w.alloc O) _ from hW)⟩
        go_big_quiet_on
        simp only [Act.put, List.setIfInBounds_toArray, List.set_cons_zero, List.set_cons_succ]
        go_big_quiet_want
        refine ⟨.bool false, fun W hW => ?_, ?_⟩
        · go_simp
        go_big_quiet_on
        simp only [Act.put, List.setIfInBounds_toArray, List.set_cons_zero, List.set_cons_succ]
        go_big_quiet_want
        refine ⟨.bool false, fun W hW => ?_, ?_⟩
        · go_simp
        go_big_quiet_on
        simp only [Act.put, List.setIfInBounds_toArray, List.set_cons_zero, List.set_cons_succ]
        go_big_quiet_want
        go_big_quiet_op
        go_big_quiet_on
        go_big_quiet_want
        refine ⟨.pointer (some ⟨w.heap.size, 4, none⟩), fun W hW => ?_, ?_⟩
        · go_simp
        go_big_quiet_on
        simp only [Act.put, List.setIfInBounds_toArray, List.set_cons_zero, List.set_cons_succ]
        go_big_quiet_want
        refine ⟨.int .i64 hi, fun W hW => ?_, ?_⟩
        · obtain ⟨x0, x1, x2, x3, x4, x5, x6⟩ := HX.out W hW
          go_simp
        go_big_quiet_on
        simp only [Act.put, List.setIfInBounds_toArray, List.set_cons_zero, List.set_cons_succ]
        go_big_quiet_want
        refine ⟨.bool false, fun W hW => ?_, ?_⟩
        · go_simp
        go_big_quiet_on
        simp only [Act.put, List.setIfInBounds_toArray, List.set_cons_zero, List.set_cons_succ]
        go_big_quiet_want
        refine ⟨.bool false, fun W hW => ?_, ?_⟩
        · go_simp
        go_big_quiet_on
        simp only [Act.put, List.setIfInBounds_toArray, List.set_cons_zero, List.set_cons_succ]
        go_big_quiet_want
        go_big_quiet_op
        go_big_quiet_on
        go_big_quiet_want
        refine ⟨.pointer (some ⟨w.heap.size, 4, none⟩), fun W hW => ?_, ?_⟩
        · go_simp
        go_big_quiet_on
        simp only [Act.put, List.setIfInBounds_toArray, List.set_cons_zero, List.set_cons_succ]
        go_big_quiet_want
        refine ⟨.int .i64 hi, fun W hW => ?_, ?_⟩
        · obtain ⟨x0, x1, x2, x3, x4, x5, x6⟩ := HX.out W hW
          go_simp
        go_big_quiet_on
        simp only [Act.put, List.setIfInBounds_toArray, List.set_cons_zero, List.set_cons_succ]
        go_big_quiet_want
        go_big_quiet_op
        go_big_quiet_on
        go_big_quiet_want
        refine ⟨.int .i64 (G : Int), fun W hW => ?_, ?_⟩
        · go_simp
          refine (HG.out W).mono ?_
          rintro e w7 ⟨rfl, hq⟩
          subst hq
          exact ⟨rfl, by simpa using (show Below (w.alloc O).heap.size (w.alloc O) _ from hW)⟩
        go_big_quiet_on
        simp only [Act.put, List.setIfInBounds_toArray, List.set_cons_zero, List.set_cons_succ]
        go_big_quiet_want
        refine ⟨.bool false, fun W hW => ?_, ?_⟩
        · go_simp
        go_big_quiet_on
        simp only [Act.put, List.setIfInBounds_toArray, List.set_cons_zero, List.set_cons_succ]
        go_big_quiet_want
        refine ⟨.bool false, fun W hW => ?_, ?_⟩
        · go_simp
        go_big_quiet_on
        simp only [Act.put, List.setIfInBounds_toArray, List.set_cons_zero, List.set_cons_succ]
        go_big_quiet_want
        go_big_quiet_op
        go_big_quiet_on
        go_big_quiet_want
        refine ⟨.pointer (some ⟨w.heap.size, 5, none⟩), fun W hW => ?_, ?_⟩
        · go_simp
        go_big_quiet_on
        simp only [Act.put, List.setIfInBounds_toArray, List.set_cons_zero, List.set_cons_succ]
        go_big_quiet_want
        refine ⟨.int .i64 (len : Int), fun W hW => ?_, ?_⟩
        · obtain ⟨x0, x1, x2, x3, x4, x5, x6⟩ := HX.out W hW
          go_simp
        go_big_quiet_on
        simp only [Act.put, List.setIfInBounds_toArray, List.set_cons_zero, List.set_cons_succ]
        go_big_quiet_want
        refine ⟨.bool false, fun W hW => ?_, ?_⟩
        · go_simp
        go_big_quiet_on
        simp only [Act.put, List.setIfInBounds_toArray, List.set_cons_zero, List.set_cons_succ]
        go_big_quiet_want
        refine ⟨.bool false, fun W hW => ?_, ?_⟩
        · go_simp
        go_big_quiet_on
        simp only [Act.put, List.setIfInBounds_toArray, List.set_cons_zero, List.set_cons_succ]
        go_big_quiet_want
        go_big_quiet_op
        go_big_quiet_on
        go_big_quiet_want
        refine ⟨.pointer (some ⟨w.heap.size, 5, none⟩), fun W hW => ?_, ?_⟩
        · go_simp
        go_big_quiet_on
        simp only [Act.put, List.setIfInBounds_toArray, List.set_cons_zero, List.set_cons_succ]
        go_big_quiet_want
        refine ⟨.int .i64 (len : Int), fun W hW => ?_, ?_⟩
        · obtain ⟨x0, x1, x2, x3, x4, x5, x6⟩ := HX.out W hW
          go_simp
        go_big_quiet_on
        simp only [Act.put, List.setIfInBounds_toArray, List.set_cons_zero, List.set_cons_succ]
        go_big_quiet_want
        go_big_quiet_op
        go_big_quiet_on
        go_big_quiet_want
        refine ⟨.bool false, fun W hW => ?_, ?_⟩
        · go_simp
        go_big_quiet_on
        simp only [Act.put, List.setIfInBounds_toArray, List.set_cons_zero, List.set_cons_succ]
        go_big_quiet_want
        refine ⟨.bool false, fun W hW => ?_, ?_⟩
        · go_simp
        go_big_quiet_on
        simp only [Act.put, List.setIfInBounds_toArray, List.set_cons_zero, List.set_cons_succ]
        refine wpQuiet_nil ?_
        intro W hW
        have hb3 := hW
        go_wp2_with fail
        refine quiet_lit3 (C := fun W => Below (w.alloc O).heap.size (w.alloc O) W) (by kernel_rfl) (by kernel_rfl) (show Below _ _ _ from hb3.drew) ?_
        go_big_quiet_want
        refine ⟨.pointer (some ⟨w.heap.size, 2, none⟩), fun W hW => ?_, ?_⟩
        · go_simp
        go_big_quiet_on
        simp only [Act.put, List.setIfInBounds_toArray, List.set_cons_zero, List.set_cons_succ]
        go_big_quiet_want
        refine ⟨.int .i64 2, fun W hW => ?_, ?_⟩
        · obtain ⟨x0, x1, x2, x3, x4, x5, x6⟩ := HX.out W hW
          go_simp
        go_big_quiet_on
        simp only [Act.put, List.setIfInBounds_toArray, List.set_cons_zero, List.set_cons_succ]
        go_big_quiet_want
        refine ⟨.bool true, fun W hW => ?_, ?_⟩
        · go_simp
        go_big_quiet_on
        simp only [Act.put, List.setIfInBounds_toArray, List.set_cons_zero, List.set_cons_succ]
        go_big_quiet_want
        go_big_quiet_op
        go_big_quiet_on
        go_big_quiet_want
        refine ⟨.pointer (some ⟨w.heap.size, 3, none⟩), fun W hW => ?_, ?_⟩
        · go_simp
        go_big_quiet_on
        simp only [Act.put, List.setIfInBounds_toArray, List.set_cons_zero, List.set_cons_succ]
        go_big_quiet_want
        refine ⟨.int .i64 (lo : Int), fun W hW => ?_, ?_⟩
        · obtain ⟨x0, x1, x2, x3, x4, x5, x6⟩ := HX.out W hW
          go_simp
        go_big_quiet_on
        simp only [Act.put, List.setIfInBounds_toArray, List.set_cons_zero, List.set_cons_succ]
        go_big_quiet_want
        go_big_quiet_op
        go_big_quiet_on
        go_big_quiet_want
        refine ⟨.pointer (some ⟨w.heap.size, 5, none⟩), fun W hW => ?_, ?_⟩
        · go_simp
        go_big_quiet_on
        simp only [Act.put, List.setIfInBounds_toArray, List.set_cons_zero, List.set_cons_succ]
        go_big_quiet_want
        refine ⟨.int .i64 (len : Int), fun W hW => ?_, ?_⟩
        · obtain ⟨x0, x1, x2, x3, x4, x5, x6⟩ := HX.out W hW
          go_simp
        go_big_quiet_on
        simp only [Act.put, List.setIfInBounds_toArray, List.set_cons_zero, List.set_cons_succ]
        go_big_quiet_want
        refine ⟨.int .i64 ((b - len : Nat) : Int), fun W hW => ?_, ?_⟩
        · go_simp
        go_big_quiet_on
        simp only [Act.put, List.setIfInBounds_toArray, List.set_cons_zero, List.set_cons_succ]
        go_big_quiet_want
        refine ⟨.int .i64 (G2 : Int), fun W hW => ?_, ?_⟩
        · go_simp
          refine (HT2.out W).mono ?_
          rintro e w7 ⟨rfl, hq⟩
          subst hq
          exact ⟨rfl, by simpa using (show Below (w.alloc O).heap.size (w.alloc O) _ from hW)⟩
        go_big_quiet_on
        simp only [Act.put, List.setIfInBounds_toArray, List.set_cons_zero, List.set_cons_succ]
        go_big_quiet_want
        refine ⟨.int .i64 (m : Int), fun W hW => ?_, ?_⟩
        · go_simp
        go_big_quiet_on
        simp only [Act.put, List.setIfInBounds_toArray, List.set_cons_zero, List.set_cons_succ]
        go_big_quiet_want
        refine ⟨.bool true, fun W hW => ?_, ?_⟩
        · go_simp
        go_big_quiet_on
        simp only [Act.put, List.setIfInBounds_toArray, List.set_cons_zero, List.set_cons_succ]
        go_big_quiet_want
        refine ⟨.bool true, fun W hW => ?_, ?_⟩
        · go_simp
        go_big_quiet_on
        simp only [Act.put, List.setIfInBounds_toArray, List.set_cons_zero, List.set_cons_succ]
        refine wpQuiet_nil ?_
        intro W4 hb4
        obtain ⟨x0, x1, x2, x3, x4, x5, x6⟩ := HX.out W4 hb4
        go_wp2_with fail
        go_ret
        exact ⟨rfl, bel0 hB1 hb4⟩
    rw [if_neg (fun h => f2 h.1)] at hRR
    have g2 : (form == 2) = false := by rw [beq_eq_false_iff_ne]; exact f2
    by_cases f3 : form = 3
    · subst f3
      by_cases l3 : hi < (lo : Int)
      · rw [if_pos ⟨rfl, l3⟩] at hRR
        subst hRR
        go_enter Tryz.func33, Tryz.ntmps33
        go_wp2_with fail
        try simp only [hO]
        refine (HPL.out _ (by first | exact hB1 | exact Below.refl _ _)).mono ?_
        rintro e W1 ⟨rfl, hb1⟩
        obtain ⟨x0, x1, x2, x3, x4, x5, x6⟩ := HX.out W1 hb1
        go_wp2_with fail
        refine (HFO.out _).mono ?_
        rintro e W2 ⟨rfl, hb2'⟩
        have hb2 := bel0 hb1 hb2'
        clear x0 x1 x2 x3 x4 x5 x6
        have z9 := XF.out W2 (bel0 hB1 hb2)
        go_wp2_with fail
        refine quiet_lit3 (C := fun W => Below (w.alloc O).heap.size (w.alloc O) W) (by kernel_rfl) (by kernel_rfl) (show Below _ _ _ from hb2.drew) ?_
        go_big_quiet_want
        refine ⟨.pointer (some ⟨w.heap.size, 3, none⟩), fun W hW => ?_, ?_⟩
        · go_simp
        go_big_quiet_on
        simp only [Act.put, List.setIfInBounds_toArray, List.set_cons_zero, List.set_cons_succ]
        go_big_quiet_want
        refine ⟨.int .i64 (lo : Int), fun W hW => ?_, ?_⟩
        · obtain ⟨x0, x1, x2, x3, x4, x5, x6⟩ := HX.out W hW
          go_simp
        go_big_quiet_on
        simp only [Act.put, List.setIfInBounds_toArray, List.set_cons_zero, List.set_cons_succ]
        go_big_quiet_want
        refine ⟨.bool false, fun W hW => ?_, ?_⟩
        · go_simp
        go_big_quiet_on
        simp only [Act.put, List.setIfInBounds_toArray, List.set_cons_zero, List.set_cons_succ]
        go_big_quiet_want
        go_big_quiet_op
        go_big_quiet_on
        go_big_quiet_want
        refine ⟨.pointer (some ⟨w.heap.size, 3, none⟩), fun W hW => ?_, ?_⟩
        · go_simp
        go_big_quiet_on
        simp only [Act.put, List.setIfInBounds_toArray, List.set_cons_zero, List.set_cons_succ]
        go_big_quiet_want
        refine ⟨.int .i64 (lo : Int), fun W hW => ?_, ?_⟩
        · obtain ⟨x0, x1, x2, x3, x4, x5, x6⟩ := HX.out W hW
          go_simp
        go_big_quiet_on
        simp only [Act.put, List.setIfInBounds_toArray, List.set_cons_zero, List.set_cons_succ]
        go_big_quiet_want
        go_big_quiet_op
        go_big_quiet_on
        go_big_quiet_want
        refine ⟨.int .i64 (G : Int), fun W hW => ?_, ?_⟩
        · go_simp
          refine (HG.out W).mono ?_
          rintro e w7 ⟨rfl, hq⟩
          subst hq
          exact ⟨rfl, by simpa using (show Below (w.alloc O).heap.size (w.alloc O) _ from hW)⟩
        go_big_quiet_on
        simp only [Act.put, List.setIfInBounds_toArray, List.set_cons_zero, List.set_cons_succ]
        go_big_quiet_want
        refine ⟨.bool false, fun W hW => ?_, ?_⟩
        · go_simp
        go_big_quiet_on
        simp only [Act.put, List.setIfInBounds_toArray, List.set_cons_zero, List.set_cons_succ]
        go_big_quiet_want
        refine ⟨.bool false, fun W hW => ?_, ?_⟩
        · go_simp
        go_big_quiet_on
        simp only [Act.put, List.setIfInBounds_toArray, List.set_cons_zero, List.set_cons_succ]
        go_big_quiet_want
        go_big_quiet_op
        go_big_quiet_on
        go_big_quiet_want
        refine ⟨.pointer (some ⟨w.heap.size, 4, none⟩), fun W hW => ?_, ?_⟩
        · go_simp
        go_big_quiet_on
        simp only [Act.put, List.setIfInBounds_toArray, List.set_cons_zero, List.set_cons_succ]
        go_big_quiet_want
        refine ⟨.int .i64 hi, fun W hW => ?_, ?_⟩
        · obtain ⟨x0, x1, x2, x3, x4, x5, x6⟩ := HX.out W hW
          go_simp
        go_big_quiet_on
        simp only [Act.put, List.setIfInBounds_toArray, List.set_cons_zero, List.set_cons_succ]
        go_big_quiet_want
        refine ⟨.bool false, fun W hW => ?_, ?_⟩
        · go_simp
        go_big_quiet_on
        simp only [Act.put, List.setIfInBounds_toArray, List.set_cons_zero, List.set_cons_succ]
        go_big_quiet_want
        refine ⟨.bool false, fun W hW => ?_, ?_⟩
        · go_simp
        go_big_quiet_on
        simp only [Act.put, List.setIfInBounds_toArray, List.set_cons_zero, List.set_cons_succ]
        go_big_quiet_want
        go_big_quiet_op
        go_big_quiet_on
        go_big_quiet_want
        refine ⟨.pointer (some ⟨w.heap.size, 4, none⟩), fun W hW => ?_, ?_⟩
        · go_simp
        go_big_quiet_on
        simp only [Act.put, List.setIfInBounds_toArray, List.set_cons_zero, List.set_cons_succ]
        go_big_quiet_want
        refine ⟨.int .i64 hi, fun W hW => ?_, ?_⟩
        · obtain ⟨x0, x1, x2, x3, x4, x5, x6⟩ := HX.out W hW
          go_simp
        go_big_quiet_on
        simp only [Act.put, List.setIfInBounds_toArray, List.set_cons_zero, List.set_cons_succ]
        go_big_quiet_want
        go_big_quiet_op
        go_big_quiet_on
        go_big_quiet_want
        refine ⟨.int .i64 (G : Int), fun W hW => ?_, ?_⟩
        · go_simp
          refine (HG.out W).mono ?_
          rintro e w7 ⟨rfl, hq⟩
          subst hq
          exact ⟨rfl, by simpa using (show Below (w.alloc O).heap.size (w.alloc O) _ from hW)⟩
        go_big_quiet_on
        simp only [Act.put, List.setIfInBounds_toArray, List.set_cons_zero, List.set_cons_succ]
        go_big_quiet_want
        refine ⟨.bool false, fun W hW => ?_, ?_⟩
        · go_simp
        go_big_quiet_on
        simp only [Act.put, List.setIfInBounds_toArray, List.set_cons_zero, List.set_cons_succ]
        go_big_quiet_want
        refine ⟨.bool false, fun W hW => ?_, ?_⟩
        · go_simp
        go_big_quiet_on
        simp only [Act.put, List.setIfInBounds_toArray, List.set_cons_zero, List.set_cons_succ]
        go_big_quiet_want
        go_big_quiet_op
        go_big_quiet_on
        go_big_quiet_want
        refine ⟨.pointer (some ⟨w.heap.size, 5, none⟩), fun W hW => ?_, ?_⟩
        · go_simp
        go_big_quiet_on
        simp only [Act.put, List.setIfInBounds_toArray, List.set_cons_zero, List.set_cons_succ]
        go_big_quiet_want
        refine ⟨.int .i64 (len : Int), fun W hW => ?_, ?_⟩
        · obtain ⟨x0, x1, x2, x3, x4, x5, x6⟩ := HX.out W hW
          go_simp
        go_big_quiet_on
        simp only [Act.put, List.setIfInBounds_toArray, List.set_cons_zero, List.set_cons_succ]
        go_big_quiet_want
        refine ⟨.bool false, fun W hW => ?_, ?_⟩
        · go_simp
        go_big_quiet_on
        simp only [Act.put, List.setIfInBounds_toArray, List.set_cons_zero, List.set_cons_succ]
        go_big_quiet_want
        refine ⟨.bool false, fun W hW => ?_, ?_⟩
        · go_simp
        go_big_quiet_on
        simp only [Act.put, List.setIfInBounds_toArray, List.set_cons_zero, List.set_cons_succ]
        go_big_quiet_want
        go_big_quiet_op
        go_big_quiet_on
        go_big_quiet_want
        refine ⟨.pointer (some ⟨w.heap.size, 5, none⟩), fun W hW => ?_, ?_⟩
        · go_simp
        go_big_quiet_on
        simp only [Act.put, List.setIfInBounds_toArray, List.set_cons_zero, List.set_cons_succ]
        go_big_quiet_want
        refine ⟨.int .i64 (len : Int), fun W hW => ?_, ?_⟩
        · obtain ⟨x0, x1, x2, x3, x4, x5, x6⟩ := HX.out W hW
          go_simp
        go_big_quiet_on
        simp only [Act.put, List.setIfInBounds_toArray, List.set_cons_zero, List.set_cons_succ]
        go_big_quiet_want
        go_big_quiet_op
        go_big_quiet_on
        go_big_quiet_want
        refine ⟨.bool false, fun W hW => ?_, ?_⟩
        · go_simp
        go_big_quiet_on
        simp only [Act.put, List.setIfInBounds_toArray, List.set_cons_zero, List.set_cons_succ]
        go_big_quiet_want
        refine ⟨.bool false, fun W hW => ?_, ?_⟩
        · go_simp
        go_big_quiet_on
        simp only [Act.put, List.setIfInBounds_toArray, List.set_cons_zero, List.set_cons_succ]
        refine wpQuiet_nil ?_
        intro W hW
        have hb3 := hW
        go_wp2_with fail
        refine quiet_lit3 (C := fun W => Below (w.alloc O).heap.size (w.alloc O) W) (by kernel_rfl) (by kernel_rfl) (show Below _ _ _ from hb3.drew) ?_
        go_big_quiet_want
        refine ⟨.pointer (some ⟨w.heap.size, 2, none⟩), fun W hW => ?_, ?_⟩
        · go_simp
        go_big_quiet_on
        simp only [Act.put, List.setIfInBounds_toArray, List.set_cons_zero, List.set_cons_succ]
        go_big_quiet_want
        refine ⟨.int .i64 3, fun W hW => ?_, ?_⟩
        · obtain ⟨x0, x1, x2, x3, x4, x5, x6⟩ := HX.out W hW
          go_simp
        go_big_quiet_on
        simp only [Act.put, List.setIfInBounds_toArray, List.set_cons_zero, List.set_cons_succ]
        go_big_quiet_want
        refine ⟨.bool false, fun W hW => ?_, ?_⟩
        · go_simp
        go_big_quiet_on
        simp only [Act.put, List.setIfInBounds_toArray, List.set_cons_zero, List.set_cons_succ]
        go_big_quiet_want
        go_big_quiet_op
        go_big_quiet_on
        go_big_quiet_skip
        go_big_quiet_skip
        go_big_quiet_skip
        go_big_quiet_skip
        go_big_quiet_skip
        go_big_quiet_skip
        go_big_quiet_skip
        go_big_quiet_skip
        go_big_quiet_skip
        go_big_quiet_want
        refine ⟨.bool false, fun W hW => ?_, ?_⟩
        · go_simp
        go_big_quiet_on
        simp only [Act.put, List.setIfInBounds_toArray, List.set_cons_zero, List.set_cons_succ]
        refine wpQuiet_nil ?_
        intro W4 hb4
        obtain ⟨x0, x1, x2, x3, x4, x5, x6⟩ := HX.out W4 hb4
        go_wp2_with fail
        go_ret
        exact ⟨rfl, bel0 hB1 hb4⟩
      · rw [if_neg (fun h => l3 h.2), if_neg (fun h => by cases h.1)] at hRR
        subst hRR
        go_enter Tryz.func33, Tryz.ntmps33
        go_wp2_with fail
        try simp only [hO]
        refine (HPL.out _ (by first | exact hB1 | exact Below.refl _ _)).mono ?_
        rintro e W1 ⟨rfl, hb1⟩
        obtain ⟨x0, x1, x2, x3, x4, x5, x6⟩ := HX.out W1 hb1
        go_wp2_with fail
        refine (HFO.out _).mono ?_
        rintro e W2 ⟨rfl, hb2'⟩
        have hb2 := bel0 hb1 hb2'
        clear x0 x1 x2 x3 x4 x5 x6
        have z9 := XF.out W2 (bel0 hB1 hb2)
        go_wp2_with fail
        refine quiet_lit3 (C := fun W => Below (w.alloc O).heap.size (w.alloc O) W) (by kernel_rfl) (by kernel_rfl) (show Below _ _ _ from hb2.drew) ?_
        go_big_quiet_want
        refine ⟨.pointer (some ⟨w.heap.size, 3, none⟩), fun W hW => ?_, ?_⟩
        · go_simp
        go_big_quiet_on
        simp only [Act.put, List.setIfInBounds_toArray, List.set_cons_zero, List.set_cons_succ]
        go_big_quiet_want
        refine ⟨.int .i64 (lo : Int), fun W hW => ?_, ?_⟩
        · obtain ⟨x0, x1, x2, x3, x4, x5, x6⟩ := HX.out W hW
          go_simp
        go_big_quiet_on
        simp only [Act.put, List.setIfInBounds_toArray, List.set_cons_zero, List.set_cons_succ]
        go_big_quiet_want
        refine ⟨.bool false, fun W hW => ?_, ?_⟩
        · go_simp
        go_big_quiet_on
        simp only [Act.put, List.setIfInBounds_toArray, List.set_cons_zero, List.set_cons_succ]
        go_big_quiet_want
        go_big_quiet_op
        go_big_quiet_on
        go_big_quiet_want
        refine ⟨.pointer (some ⟨w.heap.size, 3, none⟩), fun W hW => ?_, ?_⟩
        · go_simp
        go_big_quiet_on
        simp only [Act.put, List.setIfInBounds_toArray, List.set_cons_zero, List.set_cons_succ]
        go_big_quiet_want
        refine ⟨.int .i64 (lo : Int), fun W hW => ?_, ?_⟩
        · obtain ⟨x0, x1, x2, x3, x4, x5, x6⟩ := HX.out W hW
          go_simp
        go_big_quiet_on
        simp only [Act.put, List.setIfInBounds_toArray, List.set_cons_zero, List.set_cons_succ]
        go_big_quiet_want
        go_big_quiet_op
        go_big_quiet_on
        go_big_quiet_want
        refine ⟨.int .i64 (G : Int), fun W hW => ?_, ?_⟩
        · go_simp
          refine (HG.out W).mono ?_
          rintro e w7 ⟨rfl, hq⟩
          subst hq
          exact ⟨rfl, by simpa using (show Below (w.alloc O).heap.size (w.alloc O) _ from hW)⟩
        go_big_quiet_on
        simp only [Act.put, List.setIfInBounds_toArray, List.set_cons_zero, List.set_cons_succ]
        go_big_quiet_want
        refine ⟨.bool false, fun W hW => ?_, ?_⟩
        · go_simp
        go_big_quiet_on
        simp only [Act.put, List.setIfInBounds_toArray, List.set_cons_zero, List.set_cons_succ]
        go_big_quiet_want
        refine ⟨.bool false, fun W hW => ?_, ?_⟩
        · go_simp
        go_big_quiet_on
        simp only [Act.put, List.setIfInBounds_toArray, List.set_cons_zero, List.set_cons_succ]
        go_big_quiet_want
        go_big_quiet_op
        go_big_quiet_on
        go_big_quiet_want
        refine ⟨.pointer (some ⟨w.heap.size, 4, none⟩), fun W hW => ?_, ?_⟩
        · go_simp
        go_big_quiet_on
        simp only [Act.put, List.setIfInBounds_toArray, List.set_cons_zero, List.set_cons_succ]
        go_big_quiet_want
        refine ⟨.int .i64 hi, fun W hW => ?_, ?_⟩
        · obtain ⟨x0, x1, x2, x3, x4, x5, x6⟩ := HX.out W hW
          go_simp
        go_big_quiet_on
        simp only [Act.put, List.setIfInBounds_toArray, List.set_cons_zero, List.set_cons_succ]
        go_big_quiet_want
        refine ⟨.bool false, fun W hW => ?_, ?_⟩
        · go_simp
        go_big_quiet_on
        simp only [Act.put, List.setIfInBounds_toArray, List.set_cons_zero, List.set_cons_succ]
        go_big_quiet_want
        refine ⟨.bool false, fun W hW => ?_, ?_⟩
        · go_simp
        go_big_quiet_on
        simp only [Act.put, List.setIfInBounds_toArray, List.set_cons_zero, List.set_cons_succ]
        go_big_quiet_want
        go_big_quiet_op
        go_big_quiet_on
        go_big_quiet_want
        refine ⟨.pointer (some ⟨w.heap.size, 4, none⟩), fun W hW => ?_, ?_⟩
        · go_simp
        go_big_quiet_on
        simp only [Act.put, List.setIfInBounds_toArray, List.set_cons_zero, List.set_cons_succ]
        go_big_quiet_want
        refine ⟨.int .i64 hi, fun W hW => ?_, ?_⟩
        · obtain ⟨x0, x1, x2, x3, x4, x5, x6⟩ := HX.out W hW
          go_simp
        go_big_quiet_on
        simp only [Act.put, List.setIfInBounds_toArray, List.set_cons_zero, List.set_cons_succ]
        go_big_quiet_want
        go_big_quiet_op
        go_big_quiet_on
        go_big_quiet_want
        refine ⟨.int .i64 (G : Int), fun W hW => ?_, ?_⟩
        · go_simp
          refine (HG.out W).mono ?_
          rintro e w7 ⟨rfl, hq⟩
          subst hq
          exact ⟨rfl, by simpa using (show Below (w.alloc O).heap.size (w.alloc O) _ from hW)⟩
        go_big_quiet_on
        simp only [Act.put, List.setIfInBounds_toArray, List.set_cons_zero, List.set_cons_succ]
        go_big_quiet_want
        refine ⟨.bool false, fun W hW => ?_, ?_⟩
        · go_simp
        go_big_quiet_on
        simp only [Act.put, List.setIfInBounds_toArray, List.set_cons_zero, List.set_cons_succ]
        go_big_quiet_want
        refine ⟨.bool false, fun W hW => ?_, ?_⟩
        · go_simp
        go_big_quiet_on
        simp only [Act.put, List.setIfInBounds_toArray, List.set_cons_zero, List.set_cons_succ]
        go_big_quiet_want
        go_big_quiet_op
        go_big_quiet_on
        go_big_quiet_want
        refine ⟨.pointer (some ⟨w.heap.size, 5, none⟩), fun W hW => ?_, ?_⟩
        · go_simp
        go_big_quiet_on
        simp only [Act.put, List.setIfInBounds_toArray, List.set_cons_zero, List.set_cons_succ]
        go_big_quiet_want
        refine ⟨.int .i64 (len : Int), fun W hW => ?_, ?_⟩
        · obtain ⟨x0, x1, x2, x3, x4, x5, x6⟩ := HX.out W hW
          go_simp
        go_big_quiet_on
        simp only [Act.put, List.setIfInBounds_toArray, List.set_cons_zero, List.set_cons_succ]
        go_big_quiet_want
        refine ⟨.bool false, fun W hW => ?_, ?_⟩
        · go_simp
        go_big_quiet_on
        simp only [Act.put, List.setIfInBounds_toArray, List.set_cons_zero, List.set_cons_succ]
        go_big_quiet_want
        refine ⟨.bool false, fun W hW => ?_, ?_⟩
        · go_simp
        go_big_quiet_on
        simp only [Act.put, List.setIfInBounds_toArray, List.set_cons_zero, List.set_cons_succ]
        go_big_quiet_want
        go_big_quiet_op
        go_big_quiet_on
        go_big_quiet_want
        refine ⟨.pointer (some ⟨w.heap.size, 5, none⟩), fun W hW => ?_, ?_⟩
        · go_simp
        go_big_quiet_on
        simp only [Act.put, List.setIfInBounds_toArray, List.set_cons_zero, List.set_cons_succ]
        go_big_quiet_want
        refine ⟨.int .i64 (len : Int), fun W hW => ?_, ?_⟩
        · obtain ⟨x0, x1, x2, x3, x4, x5, x6⟩ := HX.out W hW
          go_simp
        go_big_quiet_on
        simp only [Act.put, List.setIfInBounds_toArray, List.set_cons_zero, List.set_cons_succ]
        go_big_quiet_want
        go_big_quiet_op
        go_big_quiet_on
        go_big_quiet_want
        refine ⟨.bool false, fun W hW => ?_, ?_⟩
        · go_simp
        go_big_quiet_on
        simp only [Act.put, List.setIfInBounds_toArray, List.set_cons_zero, List.set_cons_succ]
        go_big_quiet_want
        refine ⟨.bool false, fun W hW => ?_, ?_⟩
        · go_simp
        go_big_quiet_on
        simp only [Act.put, List.setIfInBounds_toArray, List.set_cons_zero, List.set_cons_succ]
        refine wpQuiet_nil ?_
        intro W hW
        have hb3 := hW
        go_wp2_with fail
        refine quiet_lit3 (C := fun W => Below (w.alloc O).heap.size (w.alloc O) W) (by kernel_rfl) (by kernel_rfl) (show Below _ _ _ from hb3.drew) ?_
        go_big_quiet_want
        refine ⟨.pointer (some ⟨w.heap.size, 2, none⟩), fun W hW => ?_, ?_⟩
        · go_simp
        go_big_quiet_on
        simp only [Act.put, List.setIfInBounds_toArray, List.set_cons_zero, List.set_cons_succ]
        go_big_quiet_want
        refine ⟨.int .i64 3, fun W hW => ?_, ?_⟩
        · obtain ⟨x0, x1, x2, x3, x4, x5, x6⟩ := HX.out W hW
          go_simp
        go_big_quiet_on
        simp only [Act.put, List.setIfInBounds_toArray, List.set_cons_zero, List.set_cons_succ]
        go_big_quiet_want
        refine ⟨.bool false, fun W hW => ?_, ?_⟩
        · go_simp
        go_big_quiet_on
        simp only [Act.put, List.setIfInBounds_toArray, List.set_cons_zero, List.set_cons_succ]
        go_big_quiet_want
        go_big_quiet_op
        go_big_quiet_on
        go_big_quiet_skip
        go_big_quiet_skip
        go_big_quiet_skip
        go_big_quiet_skip
        go_big_quiet_skip
        go_big_quiet_skip
        go_big_quiet_skip
        go_big_quiet_skip
        go_big_quiet_skip
        go_big_quiet_want
        refine ⟨.bool false, fun W hW => ?_, ?_⟩
        · go_simp
        go_big_quiet_on
        simp only [Act.put, List.setIfInBounds_toArray, List.set_cons_zero, List.set_cons_succ]
        refine wpQuiet_nil ?_
        intro W4 hb4
        obtain ⟨x0, x1, x2, x3, x4, x5, x6⟩ := HX.out W4 hb4
        go_wp2_with fail
        go_ret
        exact ⟨rfl, bel0 hB1 hb4⟩
    rw [if_neg (fun h => f3 h.1)] at hRR
    have g3 : (form == 3) = false := by rw [beq_eq_false_iff_ne]; exact f3
    by_cases f4 : form = 4
    · subst f4
      by_cases pl : pat.length = b
      · have n1 : ((pat.length : Int) != (b : Int)) = false := by rw [pl]; simp
        rw [hcb, decide_eq_true pl, Bool.true_and] at hRR
        have HRR : Hid ((if (4 : Int) = 4 ∧ pat.all Tn.tri = false then (44 : Int) else 0) = R) := hRR
        have HPB : Hid (pat.length = b) := pl
        clear hRR pl hcb
        go_enter Tryz.func33, Tryz.ntmps33
        go_wp2_with fail
        try simp only [hO]
        refine (HPL.out _ (by first | exact hB1 | exact Below.refl _ _)).mono ?_
        rintro e W1 ⟨rfl, hb1⟩
        obtain ⟨x0, x1, x2, x3, x4, x5, x6⟩ := HX.out W1 hb1
        go_wp2_with fail
        refine (HFO.out _).mono ?_
        rintro e W2 ⟨rfl, hb2'⟩
        have hb2 := bel0 hb1 hb2'
        clear x0 x1 x2 x3 x4 x5 x6
        have z9 := XF.out W2 (bel0 hB1 hb2)
        go_wp2_with fail
        refine quiet_lit3 (C := fun W => Below (w.alloc O).heap.size (w.alloc O) W) (by kernel_rfl) (by kernel_rfl) (show Below _ _ _ from hb2.drew) ?_
        go_big_quiet_want
        refine ⟨.pointer (some ⟨w.heap.size, 3, none⟩), fun W hW => ?_, ?_⟩
        · go_simp
        go_big_quiet_on
        simp only [Act.put, List.setIfInBounds_toArray, List.set_cons_zero, List.set_cons_succ]
        go_big_quiet_want
        refine ⟨.int .i64 (lo : Int), fun W hW => ?_, ?_⟩
        · obtain ⟨x0, x1, x2, x3, x4, x5, x6⟩ := HX.out W hW
          go_simp
        go_big_quiet_on
        simp only [Act.put, List.setIfInBounds_toArray, List.set_cons_zero, List.set_cons_succ]
        go_big_quiet_want
        refine ⟨.bool false, fun W hW => ?_, ?_⟩
        · go_simp
        go_big_quiet_on
        simp only [Act.put, List.setIfInBounds_toArray, List.set_cons_zero, List.set_cons_succ]
        go_big_quiet_want
        go_big_quiet_op
        go_big_quiet_on
        go_big_quiet_want
        refine ⟨.pointer (some ⟨w.heap.size, 3, none⟩), fun W hW => ?_, ?_⟩
        · go_simp
        go_big_quiet_on
        simp only [Act.put, List.setIfInBounds_toArray, List.set_cons_zero, List.set_cons_succ]
        go_big_quiet_want
        refine ⟨.int .i64 (lo : Int), fun W hW => ?_, ?_⟩
        · obtain ⟨x0, x1, x2, x3, x4, x5, x6⟩ := HX.out W hW
          go_simp
        go_big_quiet_on
        simp only [Act.put, List.setIfInBounds_toArray, List.set_cons_zero, List.set_cons_succ]
        go_big_quiet_want
        go_big_quiet_op
        go_big_quiet_on
        go_big_quiet_want
        refine ⟨.int .i64 (G : Int), fun W hW => ?_, ?_⟩
        · go_simp
          refine (HG.out W).mono ?_
          rintro e w7 ⟨rfl, hq⟩
          subst hq
          exact ⟨rfl, by simpa using (show Below (w.alloc O).heap.size (w.alloc O) _ from hW)⟩
        go_big_quiet_on
        simp only [Act.put, List.setIfInBounds_toArray, List.set_cons_zero, List.set_cons_succ]
        go_big_quiet_want
        refine ⟨.bool false, fun W hW => ?_, ?_⟩
        · go_simp
        go_big_quiet_on
        simp only [Act.put, List.setIfInBounds_toArray, List.set_cons_zero, List.set_cons_succ]
        go_big_quiet_want
        refine ⟨.bool false, fun W hW => ?_, ?_⟩
        · go_simp
        go_big_quiet_on
        simp only [Act.put, List.setIfInBounds_toArray, List.set_cons_zero, List.set_cons_succ]
        go_big_quiet_want
        go_big_quiet_op
        go_big_quiet_on
        go_big_quiet_want
        refine ⟨.pointer (some ⟨w.heap.size, 4, none⟩), fun W hW => ?_, ?_⟩
        · go_simp
        go_big_quiet_on
        simp only [Act.put, List.setIfInBounds_toArray, List.set_cons_zero, List.set_cons_succ]
        go_big_quiet_want
        refine ⟨.int .i64 hi, fun W hW => ?_, ?_⟩
        · obtain ⟨x0, x1, x2, x3, x4, x5, x6⟩ := HX.out W hW
          go_simp
        go_big_quiet_on
        simp only [Act.put, List.setIfInBounds_toArray, List.set_cons_zero, List.set_cons_succ]
        go_big_quiet_want
        refine ⟨.bool false, fun W hW => ?_, ?_⟩
        · go_simp
        go_big_quiet_on
        simp only [Act.put, List.setIfInBounds_toArray, List.set_cons_zero, List.set_cons_succ]
        go_big_quiet_want
        refine ⟨.bool false, fun W hW => ?_, ?_⟩
        · go_simp
        go_big_quiet_on
        simp only [Act.put, List.setIfInBounds_toArray, List.set_cons_zero, List.set_cons_succ]
        go_big_quiet_want
        go_big_quiet_op
        go_big_quiet_on
        go_big_quiet_want
        refine ⟨.pointer (some ⟨w.heap.size, 4, none⟩), fun W hW => ?_, ?_⟩
        · go_simp
        go_big_quiet_on
        simp only [Act.put, List.setIfInBounds_toArray, List.set_cons_zero, List.set_cons_succ]
        go_big_quiet_want
        refine ⟨.int .i64 hi, fun W hW => ?_, ?_⟩
        · obtain ⟨x0, x1, x2, x3, x4, x5, x6⟩ := HX.out W hW
          go_simp
        go_big_quiet_on
        simp only [Act.put, List.setIfInBounds_toArray, List.set_cons_zero, List.set_cons_succ]
        go_big_quiet_want
        go_big_quiet_op
        go_big_quiet_on
        go_big_quiet_want
        refine ⟨.int .i64 (G : Int), fun W hW => ?_, ?_⟩
        · go_simp
          refine (HG.out W).mono ?_
          rintro e w7 ⟨rfl, hq⟩
          subst hq
          exact ⟨rfl, by simpa using (show Below (w.alloc O).heap.size (w.alloc O) _ from hW)⟩
        go_big_quiet_on
        simp only [Act.put, List.setIfInBounds_toArray, List.set_cons_zero, List.set_cons_succ]
        go_big_quiet_want
        refine ⟨.bool false, fun W hW => ?_, ?_⟩
        · go_simp
        go_big_quiet_on
        simp only [Act.put, List.setIfInBounds_toArray, List.set_cons_zero, List.set_cons_succ]
        go_big_quiet_want
        refine ⟨.bool false, fun W hW => ?_, ?_⟩
        · go_simp
        go_big_quiet_on
        simp only [Act.put, List.setIfInBounds_toArray, List.set_cons_zero, List.set_cons_succ]
        go_big_quiet_want
        go_big_quiet_op
        go_big_quiet_on
        go_big_quiet_want
        refine ⟨.pointer (some ⟨w.heap.size, 5, none⟩), fun W hW => ?_, ?_⟩
        · go_simp
        go_big_quiet_on
        simp only [Act.put, List.setIfInBounds_toArray, List.set_cons_zero, List.set_cons_succ]
        go_big_quiet_want
        refine ⟨.int .i64 (len : Int), fun W hW => ?_, ?_⟩
        · obtain ⟨x0, x1, x2, x3, x4, x5, x6⟩ := HX.out W hW
          go_simp
        go_big_quiet_on
        simp only [Act.put, List.setIfInBounds_toArray, List.set_cons_zero, List.set_cons_succ]
        go_big_quiet_want
        refine ⟨.bool false, fun W hW => ?_, ?_⟩
        · go_simp
        go_big_quiet_on
        simp only [Act.put, List.setIfInBounds_toArray, List.set_cons_zero, List.set_cons_succ]
        go_big_quiet_want
        refine ⟨.bool false, fun W hW => ?_, ?_⟩
        · go_simp
        go_big_quiet_on
        simp only [Act.put, List.setIfInBounds_toArray, List.set_cons_zero, List.set_cons_succ]
        go_big_quiet_want
        go_big_quiet_op
        go_big_quiet_on
        go_big_quiet_want
        refine ⟨.pointer (some ⟨w.heap.size, 5, none⟩), fun W hW => ?_, ?_⟩
        · go_simp
        go_big_quiet_on
        simp only [Act.put, List.setIfInBounds_toArray, List.set_cons_zero, List.set_cons_succ]
        go_big_quiet_want
        refine ⟨.int .i64 (len : Int), fun W hW => ?_, ?_⟩
        · obtain ⟨x0, x1, x2, x3, x4, x5, x6⟩ := HX.out W hW
          go_simp
        go_big_quiet_on
        simp only [Act.put, List.setIfInBounds_toArray, List.set_cons_zero, List.set_cons_succ]
        go_big_quiet_want
        go_big_quiet_op
        go_big_quiet_on
        go_big_quiet_want
        refine ⟨.bool false, fun W hW => ?_, ?_⟩
        · go_simp
        go_big_quiet_on
        simp only [Act.put, List.setIfInBounds_toArray, List.set_cons_zero, List.set_cons_succ]
        go_big_quiet_want
        refine ⟨.bool false, fun W hW => ?_, ?_⟩
        · go_simp
        go_big_quiet_on
        simp only [Act.put, List.setIfInBounds_toArray, List.set_cons_zero, List.set_cons_succ]
        refine wpQuiet_nil ?_
        intro W hW
        have hb3 := hW
        go_wp2_with fail
        refine quiet_lit3 (C := fun W => Below (w.alloc O).heap.size (w.alloc O) W) (by kernel_rfl) (by kernel_rfl) (show Below _ _ _ from hb3.drew) ?_
        go_big_quiet_want
        refine ⟨.pointer (some ⟨w.heap.size, 2, none⟩), fun W hW => ?_, ?_⟩
        · go_simp
        go_big_quiet_on
        simp only [Act.put, List.setIfInBounds_toArray, List.set_cons_zero, List.set_cons_succ]
        go_big_quiet_want
        refine ⟨.int .i64 4, fun W hW => ?_, ?_⟩
        · obtain ⟨x0, x1, x2, x3, x4, x5, x6⟩ := HX.out W hW
          go_simp
        go_big_quiet_on
        simp only [Act.put, List.setIfInBounds_toArray, List.set_cons_zero, List.set_cons_succ]
        go_big_quiet_want
        refine ⟨.bool false, fun W hW => ?_, ?_⟩
        · go_simp
        go_big_quiet_on
        simp only [Act.put, List.setIfInBounds_toArray, List.set_cons_zero, List.set_cons_succ]
        go_big_quiet_want
        go_big_quiet_op
        go_big_quiet_on
        go_big_quiet_skip
        go_big_quiet_skip
        go_big_quiet_skip
        go_big_quiet_skip
        go_big_quiet_skip
        go_big_quiet_skip
        go_big_quiet_skip
        go_big_quiet_skip
        go_big_quiet_skip
        go_big_quiet_want
        refine ⟨.bool false, fun W hW => ?_, ?_⟩
        · go_simp
        go_big_quiet_on
        simp only [Act.put, List.setIfInBounds_toArray, List.set_cons_zero, List.set_cons_succ]
        refine wpQuiet_nil ?_
        intro W4 hb4
        obtain ⟨x0, x1, x2, x3, x4, x5, x6⟩ := HX.out W4 hb4
        go_wp2_with fail
        go_loopw [9] (fun vi wr => ∃ i : Nat, vi = .int .i64 i ∧ i ≤ b ∧ Hid (∀ (j : Nat) (d : UInt8), j < i → pat[j]? = some d → Tn.tri d = true) ∧ wr = W4) (fun vi _ => b - (intOf vi).toNat)
        case atStart => exact ⟨0, rfl, Nat.zero_le _, fun j d hj => by omega, rfl⟩
        case round =>
          obtain ⟨i, rfl, hi', hno, rfl⟩ := hrel
          have hi32 : i < 100 := by have := HBB.out; omega
          by_cases hlt : i < b
          · have i0 : (0 : Int) ≤ (i : Int) := by omega
            have i1 : (i : Int) < (b : Int) := by omega
            have i2 : (i : Int) < (pat.length : Int) := by rw [HPB.out]; omega
            obtain ⟨d, hd, hld⟩ := byte_get pat i (by rw [HPB.out]; exact hlt)
            have HNX : Hid (Tn.tri d = true → ∀ (j : Nat) (e : UInt8), j < i + 1 → pat[j]? = some e → Tn.tri e = true) := fun h j e hj he => by
              rcases Nat.lt_or_ge j i with h3 | h3
              · exact hno.out j e h3 he
              · obtain rfl : j = i := by omega
                rw [hld] at he
                rw [← Option.some.inj he]
                exact h
            have HBD : Hid (Tn.tri d = false → pat.all Tn.tri = false) := fun h => by
              rw [List.all_eq_false]
              exact ⟨d, List.mem_of_getElem? hld, by rw [h]; decide⟩
            clear hld hno
            by_cases d48 : d = 48
            · have HN : Hid (∀ (j : Nat) (e : UInt8), j < i + 1 → pat[j]? = some e → Tn.tri e = true) := HNX.out (by rw [d48]; rfl)
              have y1 : ((d.toNat : Int) != 48) = false := by rw [d48]; rfl
              clear HNX HBD d48
              go_wp2_with fail
              go_roundw
              case rel => exact ⟨i + 1, by go_num, by omega, HN, by first | rfl | trivial⟩
              case measure => simp [intOf]; omega
            have y1 : ((d.toNat : Int) != 48) = true := by rw [bne_iff_ne]; intro e; exact d48 (UInt8.toNat_inj.1 (by show d.toNat = 48; omega))
            by_cases d49 : d = 49
            · have HN : Hid (∀ (j : Nat) (e : UInt8), j < i + 1 → pat[j]? = some e → Tn.tri e = true) := HNX.out (by rw [d49]; rfl)
              have y2 : ((d.toNat : Int) != 49) = false := by rw [d49]; rfl
              clear HNX HBD d48 d49
              go_wp2_with fail
              go_roundw
              case rel => exact ⟨i + 1, by go_num, by omega, HN, by first | rfl | trivial⟩
              case measure => simp [intOf]; omega
            have y2 : ((d.toNat : Int) != 49) = true := by rw [bne_iff_ne]; intro e; exact d49 (UInt8.toNat_inj.1 (by show d.toNat = 49; omega))
            by_cases dx : d = 120
            · have HN : Hid (∀ (j : Nat) (e : UInt8), j < i + 1 → pat[j]? = some e → Tn.tri e = true) := HNX.out (by rw [dx]; rfl)
              have y3 : ((d.toNat : Int) != 120) = false := by rw [dx]; rfl
              clear HNX HBD d48 d49 dx
              go_wp2_with fail
              go_roundw
              case rel => exact ⟨i + 1, by go_num, by omega, HN, by first | rfl | trivial⟩
              case measure => simp [intOf]; omega
            · have y3 : ((d.toNat : Int) != 120) = true := by rw [bne_iff_ne]; intro e; exact dx (UInt8.toNat_inj.1 (by show d.toNat = 120; omega))
              have hR4 : R = 44 := by
                rw [← HRR.out, if_pos ⟨by first | rfl | trivial, HBD.out (by unfold Tn.tri; rw [beq_eq_false_iff_ne.2 d48, beq_eq_false_iff_ne.2 d49, beq_eq_false_iff_ne.2 dx]; rfl)⟩]
              subst hR4
              clear HNX HBD HRR d48 d49 dx
              go_wp2_with fail
              go_ret
              exact ⟨rfl, bel0 hB1 hb4⟩
          · have i1 : ¬ (i : Int) < (b : Int) := by omega
            have hall : pat.all Tn.tri = true := by
              rw [List.all_eq_true]
              intro d hd
              obtain ⟨j, hj⟩ := List.getElem?_of_mem hd
              exact hno.out j d (by have := (List.getElem?_eq_some_iff.1 hj).1; have := HPB.out; omega) hj
            have hR0 : R = 0 := by rw [← HRR.out, if_neg (fun h => by rw [hall] at h; cases h.2)]
            subst hR0
            clear HRR hno hall
            go_wp2_with fail
            go_ret
            exact ⟨rfl, bel0 hB1 hb4⟩
      · have n1 : ((pat.length : Int) != (b : Int)) = true := by rw [bne_iff_ne]; omega
        rw [hcb, decide_eq_false pl, Bool.false_and, if_pos ⟨rfl, rfl⟩] at hRR
        subst hRR
        clear hcb pl
        go_enter Tryz.func33, Tryz.ntmps33
        go_wp2_with fail
        try simp only [hO]
        refine (HPL.out _ (by first | exact hB1 | exact Below.refl _ _)).mono ?_
        rintro e W1 ⟨rfl, hb1⟩
        obtain ⟨x0, x1, x2, x3, x4, x5, x6⟩ := HX.out W1 hb1
        go_wp2_with fail
        refine (HFO.out _).mono ?_
        rintro e W2 ⟨rfl, hb2'⟩
        have hb2 := bel0 hb1 hb2'
        clear x0 x1 x2 x3 x4 x5 x6
        have z9 := XF.out W2 (bel0 hB1 hb2)
        go_wp2_with fail
        refine quiet_lit3 (C := fun W => Below (w.alloc O).heap.size (w.alloc O) W) (by kernel_rfl) (by kernel_rfl) (show Below _ _ _ from hb2.drew) ?_
        go_big_quiet_want
        refine ⟨.pointer (some ⟨w.heap.size, 3, none⟩), fun W hW => ?_, ?_⟩
        · go_simp
        go_big_quiet_on
        simp only [Act.put, List.setIfInBounds_toArray, List.set_cons_zero, List.set_cons_succ]
        go_big_quiet_want
        refine ⟨.int .i64 (lo : Int), fun W hW => ?_, ?_⟩
        · obtain ⟨x0, x1, x2, x3, x4, x5, x6⟩ := HX.out W hW
          go_simp
        go_big_quiet_on
        simp only [Act.put, List.setIfInBounds_toArray, List.set_cons_zero, List.set_cons_succ]
        go_big_quiet_want
        refine ⟨.bool false, fun W hW => ?_, ?_⟩
        · go_simp
        go_big_quiet_on
        simp only [Act.put, List.setIfInBounds_toArray, List.set_cons_zero, List.set_cons_succ]
        go_big_quiet_want
        go_big_quiet_op
        go_big_quiet_on
        go_big_quiet_want
        refine ⟨.pointer (some ⟨w.heap.size, 3, none⟩), fun W hW => ?_, ?_⟩
        · go_simp
        go_big_quiet_on
        simp only [Act.put, List.setIfInBounds_toArray, List.set_cons_zero, List.set_cons_succ]
        go_big_quiet_want
        refine ⟨.int .i64 (lo : Int), fun W hW => ?_, ?_⟩
        · obtain ⟨x0, x1, x2, x3, x4, x5, x6⟩ := HX.out W hW
          go_simp
        go_big_quiet_on
        simp only [Act.put, List.setIfInBounds_toArray, List.set_cons_zero, List.set_cons_succ]
        go_big_quiet_want
        go_big_quiet_op
        go_big_quiet_on
        go_big_quiet_want
        refine ⟨.int .i64 (G : Int), fun W hW => ?_, ?_⟩
        · go_simp
          refine (HG.out W).mono ?_
          rintro e w7 ⟨rfl, hq⟩
          subst hq
          exact ⟨rfl, by simpa using (show Below (w.alloc O).heap.size (w.alloc O) _ from hW)⟩
        go_big_quiet_on
        simp only [Act.put, List.setIfInBounds_toArray, List.set_cons_zero, List.set_cons_succ]
        go_big_quiet_want
        refine ⟨.bool false, fun W hW => ?_, ?_⟩
        · go_simp
        go_big_quiet_on
        simp only [Act.put, List.setIfInBounds_toArray, List.set_cons_zero, List.set_cons_succ]
        go_big_quiet_want
        refine ⟨.bool false, fun W hW => ?_, ?_⟩
        · go_simp
        go_big_quiet_on
        simp only [Act.put, List.setIfInBounds_toArray, List.set_cons_zero, List.set_cons_succ]
        go_big_quiet_want
        go_big_quiet_op
        go_big_quiet_on
        go_big_quiet_want
        refine ⟨.pointer (some ⟨w.heap.size, 4, none⟩), fun W hW => ?_, ?_⟩
        · go_simp
        go_big_quiet_on
        simp only [Act.put, List.setIfInBounds_toArray, List.set_cons_zero, List.set_cons_succ]
        go_big_quiet_want
        refine ⟨.int .i64 hi, fun W hW => ?_, ?_⟩
        · obtain ⟨x0, x1, x2, x3, x4, x5, x6⟩ := HX.out W hW
          go_simp
        go_big_quiet_on
        simp only [Act.put, List.setIfInBounds_toArray, List.set_cons_zero, List.set_cons_succ]
        go_big_quiet_want
        refine ⟨.bool false, fun W hW => ?_, ?_⟩
        · go_simp
        go_big_quiet_on
        simp only [Act.put, List.setIfInBounds_toArray, List.set_cons_zero, List.set_cons_succ]
        go_big_quiet_want
        refine ⟨.bool false, fun W hW => ?_, ?_⟩
        · go_simp
        go_big_quiet_on
        simp only [Act.put, List.setIfInBounds_toArray, List.set_cons_zero, List.set_cons_succ]
        go_big_quiet_want
        go_big_quiet_op
        go_big_quiet_on
        go_big_quiet_want
        refine ⟨.pointer (some ⟨w.heap.size, 4, none⟩), fun W hW => ?_, ?_⟩
        · go_simp
        go_big_quiet_on
        simp only [Act.put, List.setIfInBounds_toArray, List.set_cons_zero, List.set_cons_succ]
        go_big_quiet_want
        refine ⟨.int .i64 hi, fun W hW => ?_, ?_⟩
        · obtain ⟨x0, x1, x2, x3, x4, x5, x6⟩ := HX.out W hW
          go_simp
        go_big_quiet_on
        simp only [Act.put, List.setIfInBounds_toArray, List.set_cons_zero, List.set_cons_succ]
        go_big_quiet_want
        go_big_quiet_op
        go_big_quiet_on
        go_big_quiet_want
        refine ⟨.int .i64 (G : Int), fun W hW => ?_, ?_⟩
        · go_simp
          refine (HG.out W).mono ?_
          rintro e w7 ⟨rfl, hq⟩
          subst hq
          exact ⟨rfl, by simpa using (show Below (w.alloc O).heap.size (w.alloc O) _ from hW)⟩
        go_big_quiet_on
        simp only [Act.put, List.setIfInBounds_toArray, List.set_cons_zero, List.set_cons_succ]
        go_big_quiet_want
        refine ⟨.bool false, fun W hW => ?_, ?_⟩
        · go_simp
        go_big_quiet_on
        simp only [Act.put, List.setIfInBounds_toArray, List.set_cons_zero, List.set_cons_succ]
        go_big_quiet_want
        refine ⟨.bool false, fun W hW => ?_, ?_⟩
        · go_simp
        go_big_quiet_on
        simp only [Act.put, List.setIfInBounds_toArray, List.set_cons_zero, List.set_cons_succ]
        go_big_quiet_want
        go_big_quiet_op
        go_big_quiet_on
        go_big_quiet_want
        refine ⟨.pointer (some ⟨w.heap.size, 5, none⟩), fun W hW => ?_, ?_⟩
        · go_simp
        go_big_quiet_on
        simp only [Act.put, List.setIfInBounds_toArray, List.set_cons_zero, List.set_cons_succ]
        go_big_quiet_want
        refine ⟨.int .i64 (len : Int), fun W hW => ?_, ?_⟩
        · obtain ⟨x0, x1, x2, x3, x4, x5, x6⟩ := HX.out W hW
          go_simp
        go_big_quiet_on
        simp only [Act.put, List.setIfInBounds_toArray, List.set_cons_zero, List.set_cons_succ]
        go_big_quiet_want
        refine ⟨.bool false, fun W hW => ?_, ?_⟩
        · go_simp
        go_big_quiet_on
        simp only [Act.put, List.setIfInBounds_toArray, List.set_cons_zero, List.set_cons_succ]
        go_big_quiet_want
        refine ⟨.bool false, fun W hW => ?_, ?_⟩
        · go_simp
        go_big_quiet_on
        simp only [Act.put, List.setIfInBounds_toArray, List.set_cons_zero, List.set_cons_succ]
        go_big_quiet_want
        go_big_quiet_op
        go_big_quiet_on
        go_big_quiet_want
        refine ⟨.pointer (some ⟨w.heap.size, 5, none⟩), fun W hW => ?_, ?_⟩
        · go_simp
        go_big_quiet_on
        simp only [Act.put, List.setIfInBounds_toArray, List.set_cons_zero, List.set_cons_succ]
        go_big_quiet_want
        refine ⟨.int .i64 (len : Int), fun W hW => ?_, ?_⟩
        · obtain ⟨x0, x1, x2, x3, x4, x5, x6⟩ := HX.out W hW
          go_simp
        go_big_quiet_on
        simp only [Act.put, List.setIfInBounds_toArray, List.set_cons_zero, List.set_cons_succ]
        go_big_quiet_want
        go_big_quiet_op
        go_big_quiet_on
        go_big_quiet_want
        refine ⟨.bool false, fun W hW => ?_, ?_⟩
        · go_simp
        go_big_quiet_on
        simp only [Act.put, List.setIfInBounds_toArray, List.set_cons_zero, List.set_cons_succ]
        go_big_quiet_want
        refine ⟨.bool false, fun W hW => ?_, ?_⟩
        · go_simp
        go_big_quiet_on
        simp only [Act.put, List.setIfInBounds_toArray, List.set_cons_zero, List.set_cons_succ]
        refine wpQuiet_nil ?_
        intro W hW
        have hb3 := hW
        go_wp2_with fail
        refine quiet_lit3 (C := fun W => Below (w.alloc O).heap.size (w.alloc O) W) (by kernel_rfl) (by kernel_rfl) (show Below _ _ _ from hb3.drew) ?_
        go_big_quiet_want
        refine ⟨.pointer (some ⟨w.heap.size, 2, none⟩), fun W hW => ?_, ?_⟩
        · go_simp
        go_big_quiet_on
        simp only [Act.put, List.setIfInBounds_toArray, List.set_cons_zero, List.set_cons_succ]
        go_big_quiet_want
        refine ⟨.int .i64 4, fun W hW => ?_, ?_⟩
        · obtain ⟨x0, x1, x2, x3, x4, x5, x6⟩ := HX.out W hW
          go_simp
        go_big_quiet_on
        simp only [Act.put, List.setIfInBounds_toArray, List.set_cons_zero, List.set_cons_succ]
        go_big_quiet_want
        refine ⟨.bool false, fun W hW => ?_, ?_⟩
        · go_simp
        go_big_quiet_on
        simp only [Act.put, List.setIfInBounds_toArray, List.set_cons_zero, List.set_cons_succ]
        go_big_quiet_want
        go_big_quiet_op
        go_big_quiet_on
        go_big_quiet_skip
        go_big_quiet_skip
        go_big_quiet_skip
        go_big_quiet_skip
        go_big_quiet_skip
        go_big_quiet_skip
        go_big_quiet_skip
        go_big_quiet_skip
        go_big_quiet_skip
        go_big_quiet_want
        refine ⟨.bool false, fun W hW => ?_, ?_⟩
        · go_simp
        go_big_quiet_on
        simp only [Act.put, List.setIfInBounds_toArray, List.set_cons_zero, List.set_cons_succ]
        refine wpQuiet_nil ?_
        intro W4 hb4
        obtain ⟨x0, x1, x2, x3, x4, x5, x6⟩ := HX.out W4 hb4
        go_wp2_with fail
        go_ret
        exact ⟨rfl, bel0 hB1 hb4⟩
    rw [if_neg (fun h => f4 h.1)] at hRR
    have g4 : (form == 4) = false := by rw [beq_eq_false_iff_ne]; exact f4
    subst hRR
    go_enter Tryz.func33, Tryz.ntmps33
    go_wp2_with fail
    try simp only [hO]
    refine (HPL.out _ (by first | exact hB1 | exact Below.refl _ _)).mono ?_
    rintro e W1 ⟨rfl, hb1⟩
    obtain ⟨x0, x1, x2, x3, x4, x5, x6⟩ := HX.out W1 hb1
    go_wp2_with fail
    refine (HFO.out _).mono ?_
    rintro e W2 ⟨rfl, hb2'⟩
    have hb2 := bel0 hb1 hb2'
    clear x0 x1 x2 x3 x4 x5 x6
    have z9 := XF.out W2 (bel0 hB1 hb2)
    go_wp2_with fail
    refine quiet_lit3 (C := fun W => Below (w.alloc O).heap.size (w.alloc O) W) (by kernel_rfl) (by kernel_rfl) (show Below _ _ _ from hb2.drew) ?_
    go_big_quiet_want
    refine ⟨.pointer (some ⟨w.heap.size, 3, none⟩), fun W hW => ?_, ?_⟩
    · go_simp
    go_big_quiet_on
    simp only [Act.put, List.setIfInBounds_toArray, List.set_cons_zero, List.set_cons_succ]
    go_big_quiet_want
    refine ⟨.int .i64 (lo : Int), fun W hW => ?_, ?_⟩
    · obtain ⟨x0, x1, x2, x3, x4, x5, x6⟩ := HX.out W hW
      go_simp
    go_big_quiet_on
    simp only [Act.put, List.setIfInBounds_toArray, List.set_cons_zero, List.set_cons_succ]
    go_big_quiet_want
    refine ⟨.bool false, fun W hW => ?_, ?_⟩
    · go_simp
    go_big_quiet_on
    simp only [Act.put, List.setIfInBounds_toArray, List.set_cons_zero, List.set_cons_succ]
    go_big_quiet_want
    go_big_quiet_op
    go_big_quiet_on
    go_big_quiet_want
    refine ⟨.pointer (some ⟨w.heap.size, 3, none⟩), fun W hW => ?_, ?_⟩
    · go_simp
    go_big_quiet_on
    simp only [Act.put, List.setIfInBounds_toArray, List.set_cons_zero, List.set_cons_succ]
    go_big_quiet_want
    refine ⟨.int .i64 (lo : Int), fun W hW => ?_, ?_⟩
    · obtain ⟨x0, x1, x2, x3, x4, x5, x6⟩ := HX.out W hW
      go_simp
    go_big_quiet_on
    simp only [Act.put, List.setIfInBounds_toArray, List.set_cons_zero, List.set_cons_succ]
    go_big_quiet_want
    go_big_quiet_op
    go_big_quiet_on
    go_big_quiet_want
    refine ⟨.int .i64 (G : Int), fun W hW => ?_, ?_⟩
    · go_simp
      refine (HG.out W).mono ?_
      rintro e w7 ⟨rfl, hq⟩
      subst hq
      exact ⟨rfl, by simpa using (show Below (w.alloc O).heap.size (w.alloc O) _ from hW)⟩
    go_big_quiet_on
    simp only [Act.put, List.setIfInBounds_toArray, List.set_cons_zero, List.set_cons_succ]
    go_big_quiet_want
    refine ⟨.bool false, fun W hW => ?_, ?_⟩
    · go_simp
    go_big_quiet_on
    simp only [Act.put, List.setIfInBounds_toArray, List.set_cons_zero, List.set_cons_succ]
    go_big_quiet_want
    refine ⟨.bool false, fun W hW => ?_, ?_⟩
    · go_simp
    go_big_quiet_on
    simp only [Act.put, List.setIfInBounds_toArray, List.set_cons_zero, List.set_cons_succ]
    go_big_quiet_want
    go_big_quiet_op
    go_big_quiet_on
    go_big_quiet_want
    refine ⟨.pointer (some ⟨w.heap.size, 4, none⟩), fun W hW => ?_, ?_⟩
    · go_simp
    go_big_quiet_on
    simp only [Act.put, List.setIfInBounds_toArray, List.set_cons_zero, List.set_cons_succ]
    go_big_quiet_want
    refine ⟨.int .i64 hi, fun W hW => ?_, ?_⟩
    · obtain ⟨x0, x1, x2, x3, x4, x5, x6⟩ := HX.out W hW
      go_simp
    go_big_quiet_on
    simp only [Act.put, List.setIfInBounds_toArray, List.set_cons_zero, List.set_cons_succ]
    go_big_quiet_want
    refine ⟨.bool false, fun W hW => ?_, ?_⟩
    · go_simp
    go_big_quiet_on
    simp only [Act.put, List.setIfInBounds_toArray, List.set_cons_zero, List.set_cons_succ]
    go_big_quiet_want
    refine ⟨.bool false, fun W hW => ?_, ?_⟩
    · go_simp
    go_big_quiet_on
    simp only [Act.put, List.setIfInBounds_toArray, List.set_cons_zero, List.set_cons_succ]
    go_big_quiet_want
    go_big_quiet_op
    go_big_quiet_on
    go_big_quiet_want
    refine ⟨.pointer (some ⟨w.heap.size, 4, none⟩), fun W hW => ?_, ?_⟩
    · go_simp
    go_big_quiet_on
    simp only [Act.put, List.setIfInBounds_toArray, List.set_cons_zero, List.set_cons_succ]
    go_big_quiet_want
    refine ⟨.int .i64 hi, fun W hW => ?_, ?_⟩
    · obtain ⟨x0, x1, x2, x3, x4, x5, x6⟩ := HX.out W hW
      go_simp
    go_big_quiet_on
    simp only [Act.put, List.setIfInBounds_toArray, List.set_cons_zero, List.set_cons_succ]
    go_big_quiet_want
    go_big_quiet_op
    go_big_quiet_on
    go_big_quiet_want
    refine ⟨.int .i64 (G : Int), fun W hW => ?_, ?_⟩
    · go_simp
      refine (HG.out W).mono ?_
      rintro e w7 ⟨rfl, hq⟩
      subst hq
      exact ⟨rfl, by simpa using (show Below (w.alloc O).heap.size (w.alloc O) _ from hW)⟩
    go_big_quiet_on
    simp only [Act.put, List.setIfInBounds_toArray, List.set_cons_zero, List.set_cons_succ]
    go_big_quiet_want
    refine ⟨.bool false, fun W hW => ?_, ?_⟩
    · go_simp
    go_big_quiet_on
    simp only [Act.put, List.setIfInBounds_toArray, List.set_cons_zero, List.set_cons_succ]
    go_big_quiet_want
    refine ⟨.bool false, fun W hW => ?_, ?_⟩
    · go_simp
    go_big_quiet_on
    simp only [Act.put, List.setIfInBounds_toArray, List.set_cons_zero, List.set_cons_succ]
    go_big_quiet_want
    go_big_quiet_op
    go_big_quiet_on
    go_big_quiet_want
    refine ⟨.pointer (some ⟨w.heap.size, 5, none⟩), fun W hW => ?_, ?_⟩
    · go_simp
    go_big_quiet_on
    simp only [Act.put, List.setIfInBounds_toArray, List.set_cons_zero, List.set_cons_succ]
    go_big_quiet_want
    refine ⟨.int .i64 (len : Int), fun W hW => ?_, ?_⟩
    · obtain ⟨x0, x1, x2, x3, x4, x5, x6⟩ := HX.out W hW
      go_simp
    go_big_quiet_on
    simp only [Act.put, List.setIfInBounds_toArray, List.set_cons_zero, List.set_cons_succ]
    go_big_quiet_want
    refine ⟨.bool false, fun W hW => ?_, ?_⟩
    · go_simp
    go_big_quiet_on
    simp only [Act.put, List.setIfInBounds_toArray, List.set_cons_zero, List.set_cons_succ]
    go_big_quiet_want
    refine ⟨.bool false, fun W hW => ?_, ?_⟩
    · go_simp
    go_big_quiet_on
    simp only [Act.put, List.setIfInBounds_toArray, List.set_cons_zero, List.set_cons_succ]
    go_big_quiet_want
    go_big_quiet_op
    go_big_quiet_on
    go_big_quiet_want
    refine ⟨.pointer (some ⟨w.heap.size, 5, none⟩), fun W hW => ?_, ?_⟩
    · go_simp
    go_big_quiet_on
    simp only [Act.put, List.setIfInBounds_toArray, List.set_cons_zero, List.set_cons_succ]
    go_big_quiet_want
    refine ⟨.int .i64 (len : Int), fun W hW => ?_, ?_⟩
    · obtain ⟨x0, x1, x2, x3, x4, x5, x6⟩ := HX.out W hW
      go_simp
    go_big_quiet_on
    simp only [Act.put, List.setIfInBounds_toArray, List.set_cons_zero, List.set_cons_succ]
    go_big_quiet_want
    go_big_quiet_op
    go_big_quiet_on
    go_big_quiet_want
    refine ⟨.bool false, fun W hW => ?_, ?_⟩
    · go_simp
    go_big_quiet_on
    simp only [Act.put, List.setIfInBounds_toArray, List.set_cons_zero, List.set_cons_succ]
    go_big_quiet_want
    refine ⟨.bool false, fun W hW => ?_, ?_⟩
    · go_simp
    go_big_quiet_on
    simp only [Act.put, List.setIfInBounds_toArray, List.set_cons_zero, List.set_cons_succ]
    refine wpQuiet_nil ?_
    intro W hW
    have hb3 := hW
    go_wp2_with fail
    refine quiet_lit3 (C := fun W => Below (w.alloc O).heap.size (w.alloc O) W) (by kernel_rfl) (by kernel_rfl) (show Below _ _ _ from hb3.drew) ?_
    go_big_quiet_want
    refine ⟨.pointer (some ⟨w.heap.size, 2, none⟩), fun W hW => ?_, ?_⟩
    · go_simp
    go_big_quiet_on
    simp only [Act.put, List.setIfInBounds_toArray, List.set_cons_zero, List.set_cons_succ]
    go_big_quiet_want
    refine ⟨.int .i64 form, fun W hW => ?_, ?_⟩
    · obtain ⟨x0, x1, x2, x3, x4, x5, x6⟩ := HX.out W hW
      go_simp
    go_big_quiet_on
    simp only [Act.put, List.setIfInBounds_toArray, List.set_cons_zero, List.set_cons_succ]
    go_big_quiet_want
    refine ⟨.bool false, fun W hW => ?_, ?_⟩
    · go_simp
    go_big_quiet_on
    simp only [Act.put, List.setIfInBounds_toArray, List.set_cons_zero, List.set_cons_succ]
    go_big_quiet_want
    go_big_quiet_op
    go_big_quiet_on
    go_big_quiet_skip
    go_big_quiet_skip
    go_big_quiet_skip
    go_big_quiet_skip
    go_big_quiet_skip
    go_big_quiet_skip
    go_big_quiet_skip
    go_big_quiet_skip
    go_big_quiet_skip
    go_big_quiet_want
    refine ⟨.bool false, fun W hW => ?_, ?_⟩
    · go_simp
    go_big_quiet_on
    simp only [Act.put, List.setIfInBounds_toArray, List.set_cons_zero, List.set_cons_succ]
    refine wpQuiet_nil ?_
    intro W4 hb4
    obtain ⟨x0, x1, x2, x3, x4, x5, x6⟩ := HX.out W4 hb4
    go_wp2_with fail
    go_ret
    exact ⟨rfl, bel0 hB1 hb4⟩
end Go.Proofs.YtepokgainceidaaGreatDoor

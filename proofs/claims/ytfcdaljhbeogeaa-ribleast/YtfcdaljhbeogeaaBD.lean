import Derived.Test.YtfcdaljhbeogeaaBG
import Derived.Deep.DeepCutAuto
import Derived.Deep.RegionLaw
import Derived.Deep.RegionHeld3
namespace Go.Proofs.Ytfcdaljhbeogeaa
open Go.RowKit
def put4 (W : World) (b : Nat) (v0 v1 v2 v3 : Value) : World := (((W.setCell ⟨b, 0, none⟩ v0).setCell ⟨b, 1, none⟩ v1).setCell ⟨b, 2, none⟩ v2).setCell ⟨b, 3, none⟩ v3
theorem rblk_cells {W : World} {b T : Nat} {cs : Array Value} (h : W.heap[b]? = some (.cells cs T (0, 0))) : (∀ j, W.cell? ⟨b, j, none⟩ = cs[j]?) ∧ ∀ j, W.frozen? ⟨b, j, none⟩ = false := by
  constructor
  · intro j; unfold World.cell?; rw [h]; simp
  · intro j; unfold World.frozen?; rw [h]; simp
theorem ralloc_two (w : World) (O Q : Obj) : ((w.alloc O).alloc Q).heap[w.heap.size + 1]? = some Q := by
  have e : (w.alloc O).heap.size = w.heap.size + 1 := Array.size_push _
  rw [← e]
  exact alloc_get _ _
theorem ralloc_two0 (w : World) (O Q : Obj) : ((w.alloc O).alloc Q).heap[w.heap.size]? = some O := by
  have e : (w.alloc O).heap[w.heap.size]? = some O := alloc_get _ _
  have h := (Below.refl (w.alloc O).heap.size (w.alloc O)).alloc (Nat.le_refl _) Q
  exact keepblk h e
theorem alloc_getD (W : World) (O : Obj) : (W.alloc O).drew.heap[W.heap.size]? = some O := alloc_get W O
theorem rdrew_heap (W : World) (i : Nat) : W.drew.heap[i]? = W.heap[i]? := rfl
theorem rset_get {W : World} {b j T : Nat} {m : Nat × Nat} {cs : Array Value} (v : Value) (h : W.heap[b]? = some (.cells cs T m)) : (W.setCell ⟨b, j, none⟩ v).heap[b]? = some (.cells (cs.setIfInBounds j v) T m) := by
  simp only [World.setCell, Array.getElem?_modify, if_pos, h, Option.map_some]
  simp
theorem put4_get {W : World} {b T : Nat} {m : Nat × Nat} {x0 x1 x2 x3 : Value} (v0 v1 v2 v3 : Value) (h : W.heap[b]? = some (.cells #[x0, x1, x2, x3] T m)) : (put4 W b v0 v1 v2 v3).heap[b]? = some (.cells #[v0, v1, v2, v3] T m) := by
  unfold put4
  have h0 := rset_get (j := 0) v0 h
  have h1 := rset_get (j := 1) v1 h0
  have h2 := rset_get (j := 2) v2 h1
  have h3 := rset_get (j := 3) v3 h2
  rw [h3]
  simp
theorem put4_other {W : World} {b c : Nat} (v0 v1 v2 v3 : Value) (h : c ≠ b) : (put4 W b v0 v1 v2 v3).heap[c]? = W.heap[c]? := by
  have e : ∀ (U : World) (j : Nat) (v : Value), (U.setCell ⟨b, j, none⟩ v).heap[c]? = U.heap[c]? := fun U j v => heap_setCell_other U ⟨b, j, none⟩ c v (by simpa using h)
  unfold put4
  rw [e, e, e, e]
theorem size_set (W : World) (a : Addr) (v : Value) : (W.setCell a v).heap.size = W.heap.size := by
  unfold World.setCell
  split <;> simp
theorem alloc_put (w : World) (O Q : Obj) (v0 v1 v2 v3 : Value) : ((put4 (w.alloc O) w.heap.size v0 v1 v2 v3).alloc Q).heap[w.heap.size + 1]? = some Q := by
  have e : (put4 (w.alloc O) w.heap.size v0 v1 v2 v3).heap.size = w.heap.size + 1 := by
    unfold put4
    rw [size_set, size_set, size_set, size_set]
    exact Array.size_push _
  rw [← e]
  exact alloc_get _ _
theorem put4_below {B : Nat} {a W : World} {b : Nat} (v0 v1 v2 v3 : Value) (h : Below B a W) (hb : B ≤ b) : Below B a (put4 W b v0 v1 v2 v3) :=
  (((h.setCell (p := ⟨b, 0, none⟩) hb v0).setCell (p := ⟨b, 1, none⟩) hb v1).setCell (p := ⟨b, 2, none⟩) hb v2).setCell (p := ⟨b, 3, none⟩) hb v3
set_option maxRecDepth 100000 in
set_option maxHeartbeats 2000000 in
theorem bahead_raw (L : List IRt) (o : Option Addr) (c i j : Nat) (r s : IRt) (w : World) (_hc : L.length ≤ 256) (hi : L[i]? = some r) (hj : L[j]? = some s) (hr : IRR w o L) :
    Calls Try.prog 51 #[.slice o L.length c, .int .i64 (i : Int), .int .i64 (j : Int)] w fun e w' => e = .returned (.bool (decide (or4 (cmp3 s.2.2.1 r.2.2.1) (cmp3 r.2.1 s.2.1) (cmp3 r.1 s.1) (cmp3 (i : Int) (j : Int)) < 0))) ∧ Below w.heap.size w w' := by
  have il := (List.getElem?_eq_some_iff.1 hi).1
  have jl := (List.getElem?_eq_some_iff.1 hj).1
  obtain ⟨g, o0, rfl, -⟩ := hr w (Below.refl _ _) i r hi
  have XR : Hid (∀ W, Below w.heap.size w W → W.cell? ⟨g, o0 + i * 4, none⟩ = some (.int .i64 r.1) ∧ W.cell? ⟨g, o0 + i * 4 + 1, none⟩ = some (.int .i64 r.2.1) ∧ W.cell? ⟨g, o0 + i * 4 + 2, none⟩ = some (.int .i64 r.2.2.1) ∧ W.cell? ⟨g, o0 + i * 4 + 3, none⟩ = some (.int .i64 r.2.2.2)) := fun W hW => by
    obtain ⟨g3, q3, e, h⟩ := hr W hW i r hi
    injection e with e
    injection e with e1 e2
    subst e1 e2
    exact h
  have XS : Hid (∀ W, Below w.heap.size w W → W.cell? ⟨g, o0 + j * 4, none⟩ = some (.int .i64 s.1) ∧ W.cell? ⟨g, o0 + j * 4 + 1, none⟩ = some (.int .i64 s.2.1) ∧ W.cell? ⟨g, o0 + j * 4 + 2, none⟩ = some (.int .i64 s.2.2.1) ∧ W.cell? ⟨g, o0 + j * 4 + 3, none⟩ = some (.int .i64 s.2.2.2)) := fun W hW => by
    obtain ⟨g3, q3, e, h⟩ := hr W hW j s hj
    injection e with e
    injection e with e1 e2
    subst e1 e2
    exact h
  obtain ⟨r0, r1, r2, r3⟩ := r
  obtain ⟨s0, s1, s2, s3⟩ := s
  simp only at XR XS
  have hgl : g < w.heap.size := World.block_lt_of_cell? w ⟨g, o0 + i * 4, none⟩ (XR.out w (Below.refl _ _)).1
  have g1 : ¬ g = w.heap.size := by omega
  have g2 : ¬ g = w.heap.size + 1 := by omega
  have g3 : ¬ w.heap.size = g := by omega
  have g4 : ¬ w.heap.size + 1 = g := by omega
  have i0 : (0 : Int) ≤ (i : Int) := by omega
  have i1 : (i : Int) < (L.length : Int) := by omega
  have j0 : (0 : Int) ≤ (j : Int) := by omega
  have j1 : (j : Int) < (L.length : Int) := by omega
  obtain ⟨O, hO⟩ : ∃ O : Obj, Obj.cells #[.int .i64 0, .int .i64 0, .int .i64 0, .int .i64 0] 59 = O := ⟨_, rfl⟩
  have hB1 : Below w.heap.size w (w.alloc O) := (Below.refl _ _).alloc (Nat.le_refl _) _
  have hB2 : Below w.heap.size w ((w.alloc O).alloc O) := hB1.alloc hB1.size _
  have hbA : ((w.alloc O).alloc O).heap[w.heap.size + 1]? = some (.cells #[.int .i64 0, .int .i64 0, .int .i64 0, .int .i64 0] 59) := by rw [hO]; exact ralloc_two w O O
  have hbZ : ((w.alloc O).alloc O).heap[w.heap.size]? = some (.cells #[.int .i64 0, .int .i64 0, .int .i64 0, .int .i64 0] 59) := by rw [hO]; exact ralloc_two0 w O O
  have hbY : (w.alloc O).heap[w.heap.size]? = some (.cells #[.int .i64 0, .int .i64 0, .int .i64 0, .int .i64 0] 59) := by rw [hO]; exact alloc_get _ _
  obtain ⟨hcA, hfA⟩ := rblk_cells hbA
  obtain ⟨hcZ, hfZ⟩ := rblk_cells hbZ
  obtain ⟨hcY, hfY⟩ := rblk_cells hbY
  obtain ⟨a0, a1, a2, a3⟩ := XR.out w (Below.refl _ _)
  obtain ⟨b0, b1, b2, b3⟩ := XS.out w (Below.refl _ _)
  obtain ⟨a4, a5, a6, a7⟩ := XR.out _ hB1
  obtain ⟨b4, b5, b6, b7⟩ := XS.out _ hB1
  obtain ⟨a8, a9, aa, ab⟩ := XR.out _ hB2
  obtain ⟨b8, b9, ba, bb⟩ := XS.out _ hB2
  have hX1 : ((put4 (w.alloc O) w.heap.size (.int .i64 r0) (.int .i64 r1) (.int .i64 r2) (.int .i64 r3)).alloc O).heap[w.heap.size + 1]? = some (.cells #[.int .i64 0, .int .i64 0, .int .i64 0, .int .i64 0] 59) := by rw [hO]; exact alloc_put w O O _ _ _ _
  have hX2 : ((put4 (w.alloc O) w.heap.size (.int .i64 s0) (.int .i64 s1) (.int .i64 s2) (.int .i64 s3)).alloc O).heap[w.heap.size + 1]? = some (.cells #[.int .i64 0, .int .i64 0, .int .i64 0, .int .i64 0] 59) := by rw [hO]; exact alloc_put w O O _ _ _ _
  have hP1 : Below w.heap.size w (put4 (w.alloc O) w.heap.size (.int .i64 r0) (.int .i64 r1) (.int .i64 r2) (.int .i64 r3)) := put4_below _ _ _ _ hB1 (Nat.le_refl _)
  have hP2 : Below w.heap.size w (put4 (w.alloc O) w.heap.size (.int .i64 s0) (.int .i64 s1) (.int .i64 s2) (.int .i64 s3)) := put4_below _ _ _ _ hB1 (Nat.le_refl _)
  have hP3 := hP1.alloc hP1.size O
  have hP4 := hP2.alloc hP2.size O
  have hPr := put4_get (.int .i64 r0) (.int .i64 r1) (.int .i64 r2) (.int .i64 r3) hbY
  have hPa := keepblk ((Below.refl (put4 (w.alloc O) w.heap.size (.int .i64 r0) (.int .i64 r1) (.int .i64 r2) (.int .i64 r3)).heap.size (put4 (w.alloc O) w.heap.size (.int .i64 r0) (.int .i64 r1) (.int .i64 r2) (.int .i64 r3))).alloc (Nat.le_refl _) O) hPr
  have hA1 : (put4 ((put4 (w.alloc O) w.heap.size (.int .i64 r0) (.int .i64 r1) (.int .i64 r2) (.int .i64 r3)).alloc O) (w.heap.size + 1) (.int .i64 s0) (.int .i64 s1) (.int .i64 s2) (.int .i64 s3)).drew.heap[w.heap.size]? = some (.cells #[.int .i64 r0, .int .i64 r1, .int .i64 r2, .int .i64 r3] 59 (0, 0)) := by
    rw [rdrew_heap, put4_other _ _ _ _ (Nat.ne_of_lt (Nat.lt_succ_self _))]
    exact hPa
  have hA2 : (put4 ((put4 (w.alloc O) w.heap.size (.int .i64 r0) (.int .i64 r1) (.int .i64 r2) (.int .i64 r3)).alloc O) (w.heap.size + 1) (.int .i64 s0) (.int .i64 s1) (.int .i64 s2) (.int .i64 s3)).drew.heap[w.heap.size + 1]? = some (.cells #[.int .i64 s0, .int .i64 s1, .int .i64 s2, .int .i64 s3] 59 (0, 0)) := by
    rw [rdrew_heap]
    exact put4_get _ _ _ _ hX1
  have hA3 : Below w.heap.size w (put4 ((put4 (w.alloc O) w.heap.size (.int .i64 r0) (.int .i64 r1) (.int .i64 r2) (.int .i64 r3)).alloc O) (w.heap.size + 1) (.int .i64 s0) (.int .i64 s1) (.int .i64 s2) (.int .i64 s3)).drew := (put4_below _ _ _ _ hP3 (Nat.le_succ _)).drew
  have hD1 : (put4 (put4 ((w.alloc O).alloc O) (w.heap.size + 1) (.int .i64 r0) (.int .i64 r1) (.int .i64 r2) (.int .i64 r3)) w.heap.size (.int .i64 s0) (.int .i64 s1) (.int .i64 s2) (.int .i64 s3)).drew.heap[w.heap.size + 1]? = some (.cells #[.int .i64 r0, .int .i64 r1, .int .i64 r2, .int .i64 r3] 59 (0, 0)) := by
    rw [rdrew_heap, put4_other _ _ _ _ (Nat.ne_of_gt (Nat.lt_succ_self _))]
    exact put4_get _ _ _ _ hbA
  have hD2 : (put4 (put4 ((w.alloc O).alloc O) (w.heap.size + 1) (.int .i64 r0) (.int .i64 r1) (.int .i64 r2) (.int .i64 r3)) w.heap.size (.int .i64 s0) (.int .i64 s1) (.int .i64 s2) (.int .i64 s3)).drew.heap[w.heap.size]? = some (.cells #[.int .i64 s0, .int .i64 s1, .int .i64 s2, .int .i64 s3] 59 (0, 0)) := by
    rw [rdrew_heap]
    exact put4_get _ _ _ _ ((put4_other _ _ _ _ (Nat.ne_of_lt (Nat.lt_succ_self _))).trans hbZ)
  have hD3 : Below w.heap.size w (put4 (put4 ((w.alloc O).alloc O) (w.heap.size + 1) (.int .i64 r0) (.int .i64 r1) (.int .i64 r2) (.int .i64 r3)) w.heap.size (.int .i64 s0) (.int .i64 s1) (.int .i64 s2) (.int .i64 s3)).drew := (put4_below _ _ _ _ (put4_below _ _ _ _ hB2 (Nat.le_succ _)) (Nat.le_refl _)).drew
  unfold put4 at hA1 hA2 hA3 hD1 hD2 hD3
  have HAA : Hid (_ ∧ _ ∧ _) := ⟨hA1, hA2, hA3⟩
  have HDD : Hid (_ ∧ _ ∧ _) := ⟨hD1, hD2, hD3⟩
  clear hA1 hA2 hA3 hD1 hD2 hD3 hPr hPa
  unfold put4 at hX1 hX2 hP3 hP4
  obtain ⟨hcX1, hfX1⟩ := rblk_cells hX1
  obtain ⟨hcX2, hfX2⟩ := rblk_cells hX2
  obtain ⟨d0, d1, d2, d3⟩ := XR.out _ hP3
  obtain ⟨d4, d5, d6, d7⟩ := XS.out _ hP3
  obtain ⟨d8, d9, da, db⟩ := XR.out _ hP4
  obtain ⟨dc, dd, de, df⟩ := XS.out _ hP4
  clear hbA hbZ hbY hB1 hB2 hi hj hr hX1 hX2 hP1 hP2 hP3 hP4
  go_enter Try.func51, Try.ntmps51
  go_upto_region 1 with fail
  go_cut [7, 8] (fun p q wc => ∃ S1 S2 : Nat, p = .pointer (some ⟨S1, 0, none⟩) ∧ q = .pointer (some ⟨S2, 0, none⟩) ∧ wc.heap[S1]? = some (.cells #[.int .i64 r0, .int .i64 r1, .int .i64 r2, .int .i64 r3] 59 (0, 0)) ∧ wc.heap[S2]? = some (.cells #[.int .i64 s0, .int .i64 s1, .int .i64 s2, .int .i64 s3] 59 (0, 0)) ∧ Below w.heap.size w wc)
  case first =>
    go_region_law (fail)
    all_goals
      go_wp2_with fail
      go_meet
      first | (refine ⟨w.heap.size, w.heap.size + 1, rfl, rfl, ?_⟩; exact HAA.out) | (refine ⟨w.heap.size + 1, w.heap.size, rfl, rfl, ?_⟩; exact HDD.out)
  case rest =>
    clear hcX1 hcX2 hfX1 hfX2 hcA hfA hcZ hfZ hcY hfY a0 a1 a2 a3 a4 a5 a6 a7 a8 a9 aa ab b0 b1 b2 b3 b4 b5 b6 b7 b8 b9 ba bb d0 d1 d2 d3 d4 d5 d6 d7 d8 d9 da db dc dd de df hO HAA HDD
    obtain ⟨S1, S2, rfl, rfl, k1, k2, BB⟩ := hcut
    obtain ⟨hc1, hf1⟩ := rblk_cells k1
    obtain ⟨hc2, hf2⟩ := rblk_cells k2
    have C1 : Hid (∀ W : World, Calls Try.prog 62 #[.int .i64 s2, .int .i64 r2] W fun e w' => e = .returned (.int .i64 (cmp3 s2 r2)) ∧ w' = W) := fun W => bcmp_any s2 r2 W
    have C2 : Hid (∀ W : World, Calls Try.prog 62 #[.int .i64 r1, .int .i64 s1] W fun e w' => e = .returned (.int .i64 (cmp3 r1 s1)) ∧ w' = W) := fun W => bcmp_any r1 s1 W
    have C3 : Hid (∀ W : World, Calls Try.prog 62 #[.int .i64 r0, .int .i64 s0] W fun e w' => e = .returned (.int .i64 (cmp3 r0 s0)) ∧ w' = W) := fun W => bcmp_any r0 s0 W
    have C4 : Hid (∀ W : World, Calls Try.prog 62 #[.int .i64 (i : Int), .int .i64 (j : Int)] W fun e w' => e = .returned (.int .i64 (cmp3 (i : Int) (j : Int))) ∧ w' = W) := fun W => bcmp_any i j W
    obtain ⟨R, hR⟩ : ∃ R, or4 (cmp3 s2 r2) (cmp3 r1 s1) (cmp3 r0 s0) (cmp3 (i : Int) (j : Int)) = R := ⟨_, rfl⟩
    have HOR : Hid (∀ (W : World) (g : Nat) (T : Nat) (m : Nat × Nat), W.heap[g]? = some (.cells #[.int .i64 (cmp3 s2 r2), .int .i64 (cmp3 r1 s1), .int .i64 (cmp3 r0 s0), .int .i64 (cmp3 (i : Int) (j : Int))] T m) → Calls Try.prog 61 #[.slice (some ⟨g, 0, none⟩) 4 4] W fun e w' => e = .returned (.int .i64 R) ∧ w' = W) := fun W g T m h => by
      have := bor_any g _ _ _ _ W (cell_of_row _ _ 0 _ _ _ h) (cell_of_row _ _ 1 _ _ _ h) (cell_of_row _ _ 2 _ _ _ h) (cell_of_row _ _ 3 _ _ _ h)
      rw [hR] at this
      exact this
    have HKP : Hid (∀ O : Obj, (∀ j, (wc.alloc O).cell? ⟨S1, j, none⟩ = (#[.int .i64 r0, .int .i64 r1, .int .i64 r2, .int .i64 r3] : Array Value)[j]?) ∧ (∀ j, (wc.alloc O).cell? ⟨S2, j, none⟩ = (#[.int .i64 s0, .int .i64 s1, .int .i64 s2, .int .i64 s3] : Array Value)[j]?)) := fun O => ⟨(rblk_cells (keepblk ((Below.refl wc.heap.size wc).alloc (Nat.le_refl _) O) k1)).1, (rblk_cells (keepblk ((Below.refl wc.heap.size wc).alloc (Nat.le_refl _) O) k2)).1⟩
    have HRR : Hid (or4 (cmp3 s2 r2) (cmp3 r1 s1) (cmp3 r0 s0) (cmp3 (i : Int) (j : Int)) = R) := hR
    clear hf1 hf2 hR k1 k2
    go_upto_region 2 with fail
    go_region_held3 (fun W => (∀ j, W.cell? ⟨S1, j, none⟩ = (#[.int .i64 r0, .int .i64 r1, .int .i64 r2, .int .i64 r3] : Array Value)[j]?) ∧ (∀ j, W.cell? ⟨S2, j, none⟩ = (#[.int .i64 s0, .int .i64 s1, .int .i64 s2, .int .i64 s3] : Array Value)[j]?)) (first | exact ⟨hc1, hc2⟩ | exact HKP.out _) (first | (have chk := h4d; go_simp; go_at_call 61; refine (HOR.out _ _ _ _ (by first | exact alloc_get _ _ | exact alloc_getD _ _)).mono ?_; rintro e w6 ⟨rfl, rfl⟩) | (have chk := h3d; go_simp; go_at_call 62; refine (C4.out _).mono ?_; rintro e w5 ⟨rfl, rfl⟩; have h4d : True := trivial) | (have chk := h2d; go_simp; go_at_call 62; refine (C3.out _).mono ?_; rintro e w4 ⟨rfl, rfl⟩; have h3d : True := trivial) | (have chk := h1d; go_simp; go_at_call 62; refine (C2.out _).mono ?_; rintro e w3 ⟨rfl, rfl⟩; have h2d : True := trivial) | (go_simp; go_at_call 62; refine (C1.out _).mono ?_; rintro e w2 ⟨rfl, rfl⟩; have h1d : True := trivial))
    all_goals
      go_wp2_with fail
      go_ret
      exact ⟨by simp only; rw [HRR.out]; rfl, bel0 BB (by first | exact ((Below.refl _ _).alloc (Nat.le_refl _) _).drew | exact (Below.refl _ _).drew.alloc (Nat.le_refl _) _ | exact (Below.refl _ _).alloc (Nat.le_refl _) _)⟩
theorem or_ahead (r s : IRt) (i j : Nat) (h : j < i) : decide (or4 (cmp3 s.2.2.1 r.2.2.1) (cmp3 r.2.1 s.2.1) (cmp3 r.1 s.1) (cmp3 (i : Int) (j : Int)) < 0) = rahead r s := by
  have e : cmp3 (i : Int) (j : Int) = 1 := by
    unfold cmp3
    rw [if_neg (by omega), if_pos (by omega)]
  rw [e]
  unfold or4 cmp3 rahead
  rw [Bool.eq_iff_iff, decide_eq_true_eq]
  repeat' split
  all_goals simp_all
  all_goals omega
end Go.Proofs.Ytfcdaljhbeogeaa

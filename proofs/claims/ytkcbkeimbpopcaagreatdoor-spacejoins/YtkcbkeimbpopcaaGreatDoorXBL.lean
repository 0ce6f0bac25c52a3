import Derived.Test.YtkcbkeimbpopcaaGreatDoorXBK
import Derived.BigQuiet
import Derived.Deep.RegionHeld3
namespace Go.Proofs.YtkcbkeimbpopcaaGreatDoor
open Go.RowKit Go.Shelf
theorem quiet_lit3 {P : Program} {id : Nat} {Q : Exit → Act → World → Prop} {a : Act} {w : World} {l : List Oper} {C : World → Prop} (hm : P.follows .mixedOrders = true) (hB : Region.lexB .any l.toArray = true) (hC : C w.drew)
    (h : wpQuiet P l.toArray C (fun a' => ∀ w', C w' → Q .normal a' w') l a) : (Code.region id l.toArray true).wp P Q a w :=
  wp_region_quiet (C := C) hm hB hC (by simpa using h)
theorem num_any (e : Int) (w : World) : Calls Tryz.prog 16 #[.int .i64 e] w fun r w' => r = .returned (.int .i64 e) ∧ Below w.heap.size w w' := by
  go_enter Tryz.func16, Tryz.ntmps16
  go_wp2_with fail
  go_ret
  exact ⟨rfl, Below.refl _ _⟩
theorem RSR.shape {W : World} {V : Value} {Ts : List (List UInt8 × List (List UInt8))} (h : RSR W V Ts) : ∃ p c, V = .slice p Ts.length c := by
  obtain ⟨Z, p, c, rfl, rfl, -, -⟩ := h
  exact ⟨p, c, by rw [List.length_map]⟩
theorem RSR.kept {W X : World} {b : Nat} {V : Value} {Ts : List (List UInt8 × List (List UInt8))} (h : RSR W V Ts) (hg : W.grownBy X (some b)) (hb : ∀ o t, W.cell? ⟨b, o, none⟩ ≠ some (.string t)) : RSR X V Ts := by
  have far : ∀ (X' : World) (g o : Nat) (u : Value), Below X.heap.size X X' → (∃ o' t, W.cell? ⟨g, o', none⟩ = some (.string t)) → W.cell? ⟨g, o, none⟩ = some u → X'.cell? ⟨g, o, none⟩ = some u := fun X' g o u hX hs hc => by
    have hne : some g ≠ some b := fun e => by
      obtain rfl := Option.some.inj e
      obtain ⟨o', t, h⟩ := hs
      exact hb o' t h
    have hlt := World.block_lt_of_cell? W _ hc
    have e1 : X'.heap[g]? = W.heap[g]? := (hX.block g (Nat.lt_of_lt_of_le hlt hg.size)).trans (hg.block g hlt hne)
    rw [World.cell?_of_block (a := ⟨g, o, none⟩) e1]
    exact hc
  obtain ⟨Z, p, cp, h1, h2, h3, h4⟩ := h
  refine ⟨Z, p, cp, h1, h2, fun X' hX k z hz => ?_, fun z hz X' hX k t ht => ?_⟩
  · obtain ⟨g, o0, e, c0, c1⟩ := h3 W (Below.refl _ _) k z hz
    exact ⟨g, o0, e, far X' g _ _ hX ⟨_, _, c0⟩ c0, far X' g _ _ hX ⟨_, _, c0⟩ c1⟩
  · obtain ⟨g, o0, e, c0⟩ := h4 z hz W (Below.refl _ _) k t ht
    exact ⟨g, o0, e, far X' g _ _ hX ⟨_, _, c0⟩ c0⟩
theorem no_str3 {W : World} {b : Nat} {i : Int} {q : Option Addr} {n c : Nat} {f : Bool} {T : TypeId} {fr : Nat × Nat} (hb : W.heap[b]? = some (.cells #[.int .i64 i, .slice q n c, .bool f] T fr)) : ∀ o t, W.cell? ⟨b, o, none⟩ ≠ some (.string t) := fun o t h => by
  unfold World.cell? at h
  rw [hb] at h
  match o, h with
  | 0, h => simp at h
  | 1, h => simp at h
  | 2, h => simp at h
  | k + 3, h => simp at h
theorem no_str2 {W : World} {b : Nat} {i : Int} {q : Option Addr} {n c : Nat} {T : TypeId} {fr : Nat × Nat} (hb : W.heap[b]? = some (.cells #[.int .i64 i, .slice q n c] T fr)) : ∀ o t, W.cell? ⟨b, o, none⟩ ≠ some (.string t) := fun o t h => by
  unfold World.cell? at h
  rw [hb] at h
  match o, h with
  | 0, h => simp at h
  | 1, h => simp at h
  | k + 2, h => simp at h
set_option maxRecDepth 100000 in
set_option maxHeartbeats 4000000 in
theorem like_any (b : Int) (V V2 : Value) (Ts : List (List UInt8 × List (List UInt8))) (B1 : Nat) (w : World) (h : SPL w B1 V Ts) (h2 : RSR w V2 Ts) (ho : szC Ts ≤ 128) (hg : gdC Ts) : Calls Tryz.prog 11 #[.agg #[.int .i64 b, V, .bool false], .agg #[.int .i64 b, V2]] w fun e w' => e = .returned (.bool true) ∧ Below w.heap.size w w' := by
  obtain ⟨p, cp, rfl⟩ := h.shape
  obtain ⟨p2, cp2, rfl⟩ := h2.shape
  obtain ⟨w0, hw0⟩ : ∃ w0, (w.alloc (.cells #[.int .i64 b, .slice p (Ts.length) cp, .bool false] 24 (0, 0))).alloc (.cells #[.int .i64 b, .slice p2 (Ts.length) cp2] 27 (0, 0)) = w0 := ⟨_, rfl⟩
  have ha : w0.heap[w.heap.size]? = some (.cells #[.int .i64 b, .slice p (Ts.length) cp, .bool false] 24 (0, 0)) := by rw [← hw0]; exact alw_0 _ _ _
  have hb : w0.heap[w.heap.size + 1]? = some (.cells #[.int .i64 b, .slice p2 (Ts.length) cp2] 27 (0, 0)) := by rw [← hw0]; exact alw_1 _ _ _
  have hB0 : Below w.heap.size w w0 := by rw [← hw0]; exact belA (belA (Below.refl _ _) _) _
  have HSz : Hid (∀ W, Below w0.heap.size w0 W → Calls Tryz.prog 31 #[.agg #[.int .i64 b, .slice p (Ts.length) cp, .bool false]] W fun e w' => e = .returned (.int .i64 (szC Ts : Int)) ∧ Below W.heap.size W w') := fun W hW => spSize_any b _ Ts B1 W (h.below (bel0 hB0 hW)) ho
  have HSx : Hid (∀ W, Below w0.heap.size w0 W → Calls Tryz.prog 15 #[.agg #[.int .i64 b, .slice p (Ts.length) cp, .bool false]] W fun e w' => e = .returned (.string ⟨(txC Ts).toArray⟩) ∧ Below W.heap.size W w') := fun W hW => spText_any b _ Ts B1 W (h.below (bel0 hB0 hW)) ho hg
  have HDz : Hid (∀ W, Below w0.heap.size w0 W → Calls Tryz.prog 32 #[.agg #[.int .i64 b, .slice p2 (Ts.length) cp2]] W fun e w' => e = .returned (.int .i64 (szC Ts : Int)) ∧ Below W.heap.size W w') := fun W hW => dSizeL_any b _ Ts W (h2.later (bel0 hB0 hW)) (by omega)
  have HDx : Hid (∀ W, Below w0.heap.size w0 W → Calls Tryz.prog 33 #[.agg #[.int .i64 b, .slice p2 (Ts.length) cp2]] W fun e w' => e = .returned (.string ⟨(txC Ts).toArray⟩) ∧ Below W.heap.size W w') := fun W hW => dTextL_any b _ Ts W (h2.later (bel0 hB0 hW)) ho hg
  obtain ⟨n, hn⟩ : ∃ n, Ts.length = n := ⟨_, rfl⟩
  rw [hn] at ha hb HSz HSx HDz HDx hw0 ⊢
  obtain ⟨n2, hn2⟩ : ∃ n2, n = n2 := ⟨_, rfl⟩
  have HBi : Hid (∀ W, Calls Tryz.prog 14 #[.agg #[.int .i64 b, .slice p n cp, .bool false]] W fun e w' => e = .returned (.int .i64 b) ∧ Below W.heap.size W w') := fun W => bits_any b p n cp W
  have HX : Hid (∀ W, Below w0.heap.size w0 W → W.cell? ⟨w.heap.size, 0, none⟩ = some (.int .i64 b) ∧ W.cell? ⟨w.heap.size, 1, none⟩ = some (.slice p n cp) ∧ W.cell? ⟨w.heap.size, 2, none⟩ = some (.bool false) ∧ W.cell? ⟨w.heap.size + 1, 0, none⟩ = some (.int .i64 b) ∧ W.cell? ⟨w.heap.size + 1, 1, none⟩ = some (.slice p2 n cp2)) := fun W hW => by
    obtain ⟨c1, -⟩ := cells_block (keepblk3 hW ha)
    obtain ⟨c2, -⟩ := cells_block (keepblk3 hW hb)
    exact ⟨c1 0, c1 1, c1 2, c2 0, c2 1⟩
  clear ha hb h h2 hn hn2 n2
  go_enter Tryz.func11, Tryz.ntmps11
  go_wp2_with fail
  clear hw0
  refine quiet_lit3 (C := fun W => Below w0.heap.size w0 W) (by kernel_rfl) (by kernel_rfl) (show Below _ _ _ from (Below.refl _ _).drew) ?_
  go_big_quiet_want
  refine ⟨.agg #[.int .i64 b, .slice p n cp, .bool false], fun W hW => ?_, ?_⟩
  · obtain ⟨x0, x1, x2, y0, y1⟩ := HX.out W hW
    go_simp
  go_big_quiet_on
  simp only [Act.put, List.setIfInBounds_toArray, List.set_cons_zero, List.set_cons_succ]
  go_big_quiet_want
  refine ⟨.int .i64 b, fun W hW => ?_, ?_⟩
  · go_simp
    refine (HBi.out W).mono ?_
    rintro e w7 ⟨rfl, hb⟩
    exact ⟨rfl, bel0 hW hb⟩
  go_big_quiet_on
  simp only [Act.put, List.setIfInBounds_toArray, List.set_cons_zero, List.set_cons_succ]
  go_big_quiet_want
  refine ⟨.pointer (some ⟨w.heap.size + 1, 0, none⟩), fun W hW => ?_, ?_⟩
  · go_simp
  go_big_quiet_on
  simp only [Act.put, List.setIfInBounds_toArray, List.set_cons_zero, List.set_cons_succ]
  go_big_quiet_want
  refine ⟨.int .i64 b, fun W hW => ?_, ?_⟩
  · obtain ⟨x0, x1, x2, y0, y1⟩ := HX.out W hW
    go_simp
  go_big_quiet_on
  simp only [Act.put, List.setIfInBounds_toArray, List.set_cons_zero, List.set_cons_succ]
  go_big_quiet_want
  refine ⟨.bool true, fun W hW => ?_, ?_⟩
  · go_simp
  go_big_quiet_on
  simp only [Act.put, List.setIfInBounds_toArray, List.set_cons_zero, List.set_cons_succ]
  go_big_quiet_want
  go_big_quiet_op
  go_big_quiet_on
  go_big_quiet_want
  refine ⟨.agg #[.int .i64 b, .slice p n cp, .bool false], fun W hW => ?_, ?_⟩
  · obtain ⟨x0, x1, x2, y0, y1⟩ := HX.out W hW
    go_simp
  go_big_quiet_on
  simp only [Act.put, List.setIfInBounds_toArray, List.set_cons_zero, List.set_cons_succ]
  go_big_quiet_want
  refine ⟨.int .i64 (szC Ts : Int), fun W hW => ?_, ?_⟩
  · go_simp
    refine (HSz.out W hW).mono ?_
    rintro e w7 ⟨rfl, hb⟩
    exact ⟨rfl, bel0 hW hb⟩
  go_big_quiet_on
  simp only [Act.put, List.setIfInBounds_toArray, List.set_cons_zero, List.set_cons_succ]
  go_big_quiet_want
  refine ⟨.agg #[.int .i64 b, .slice p2 n cp2], fun W hW => ?_, ?_⟩
  · obtain ⟨x0, x1, x2, y0, y1⟩ := HX.out W hW
    go_simp
  go_big_quiet_on
  simp only [Act.put, List.setIfInBounds_toArray, List.set_cons_zero, List.set_cons_succ]
  go_big_quiet_want
  refine ⟨.int .i64 (szC Ts : Int), fun W hW => ?_, ?_⟩
  · go_simp
    refine (HDz.out W hW).mono ?_
    rintro e w7 ⟨rfl, hb⟩
    exact ⟨rfl, bel0 hW hb⟩
  go_big_quiet_on
  simp only [Act.put, List.setIfInBounds_toArray, List.set_cons_zero, List.set_cons_succ]
  go_big_quiet_want
  refine ⟨.bool true, fun W hW => ?_, ?_⟩
  · go_simp
  go_big_quiet_on
  simp only [Act.put, List.setIfInBounds_toArray, List.set_cons_zero, List.set_cons_succ]
  go_big_quiet_want
  refine ⟨.bool true, fun W hW => ?_, ?_⟩
  · go_simp
  go_big_quiet_on
  simp only [Act.put, List.setIfInBounds_toArray, List.set_cons_zero, List.set_cons_succ]
  go_big_quiet_want
  go_big_quiet_op
  go_big_quiet_on
  go_big_quiet_want
  refine ⟨.agg #[.int .i64 b, .slice p n cp, .bool false], fun W hW => ?_, ?_⟩
  · obtain ⟨x0, x1, x2, y0, y1⟩ := HX.out W hW
    go_simp
  go_big_quiet_on
  simp only [Act.put, List.setIfInBounds_toArray, List.set_cons_zero, List.set_cons_succ]
  go_big_quiet_want
  refine ⟨.string ⟨(txC Ts).toArray⟩, fun W hW => ?_, ?_⟩
  · go_simp
    refine (HSx.out W hW).mono ?_
    rintro e w7 ⟨rfl, hb⟩
    exact ⟨rfl, bel0 hW hb⟩
  go_big_quiet_on
  simp only [Act.put, List.setIfInBounds_toArray, List.set_cons_zero, List.set_cons_succ]
  go_big_quiet_want
  refine ⟨.agg #[.int .i64 b, .slice p2 n cp2], fun W hW => ?_, ?_⟩
  · obtain ⟨x0, x1, x2, y0, y1⟩ := HX.out W hW
    go_simp
  go_big_quiet_on
  simp only [Act.put, List.setIfInBounds_toArray, List.set_cons_zero, List.set_cons_succ]
  go_big_quiet_want
  refine ⟨.string ⟨(txC Ts).toArray⟩, fun W hW => ?_, ?_⟩
  · go_simp
    refine (HDx.out W hW).mono ?_
    rintro e w7 ⟨rfl, hb⟩
    exact ⟨rfl, bel0 hW hb⟩
  go_big_quiet_on
  simp only [Act.put, List.setIfInBounds_toArray, List.set_cons_zero, List.set_cons_succ]
  go_big_quiet_want
  refine ⟨.bool true, fun W hW => ?_, ?_⟩
  · go_simp
  go_big_quiet_on
  simp only [Act.put, List.setIfInBounds_toArray, List.set_cons_zero, List.set_cons_succ]
  go_big_quiet_want
  refine ⟨.bool true, fun W hW => ?_, ?_⟩
  · go_simp
  go_big_quiet_on
  simp only [Act.put, List.setIfInBounds_toArray, List.set_cons_zero, List.set_cons_succ]
  go_big_quiet_want
  go_big_quiet_op
  go_big_quiet_on
  refine wpQuiet_nil ?_
  intro W hW
  go_wp2_with fail
  go_ret
  exact ⟨rfl, bel0 hB0 hW⟩
set_option maxRecDepth 100000 in
theorem same_any (b e : Int) (V V2 : Value) (Ts : List (List UInt8 × List (List UInt8))) (B1 : Nat) (w : World) (h : SPL w B1 V Ts) (h2 : RSR w V2 Ts) (ho : szC Ts ≤ 128) (hg : gdC Ts) : Calls Tryz.prog 21 #[.agg #[.int .i64 b, V, .bool false], .int .i64 e, .agg #[.int .i64 b, V2], .int .i64 e] w fun r w' => r = .returned (.bool true) ∧ Below w.heap.size w w' := by
  obtain ⟨p, cp, rfl⟩ := h.shape
  obtain ⟨p2, cp2, rfl⟩ := h2.shape
  obtain ⟨w0, hw0⟩ : ∃ w0, (w.alloc (.cells #[.int .i64 b, .slice p (Ts.length) cp, .bool false] 24 (0, 0))).alloc (.cells #[.int .i64 b, .slice p2 (Ts.length) cp2] 27 (0, 0)) = w0 := ⟨_, rfl⟩
  have ha : w0.heap[w.heap.size]? = some (.cells #[.int .i64 b, .slice p (Ts.length) cp, .bool false] 24 (0, 0)) := by rw [← hw0]; exact alw_0 _ _ _
  have hb : w0.heap[w.heap.size + 1]? = some (.cells #[.int .i64 b, .slice p2 (Ts.length) cp2] 27 (0, 0)) := by rw [← hw0]; exact alw_1 _ _ _
  have hB0 : Below w.heap.size w w0 := by rw [← hw0]; exact belA (belA (Below.refl _ _) _) _
  have HL : Hid (∀ W, Below w0.heap.size w0 W → Calls Tryz.prog 11 #[.agg #[.int .i64 b, .slice p (Ts.length) cp, .bool false], .agg #[.int .i64 b, .slice p2 (Ts.length) cp2]] W fun e w' => e = .returned (.bool true) ∧ Below W.heap.size W w') := fun W hW => like_any b _ _ Ts B1 W (h.below (bel0 hB0 hW)) (h2.later (bel0 hB0 hW)) ho hg
  have HA : Hid (w0.heap[w.heap.size]? = some (.cells #[.int .i64 b, .slice p (Ts.length) cp, .bool false] 24 (0, 0)) ∧ w0.heap[w.heap.size + 1]? = some (.cells #[.int .i64 b, .slice p2 (Ts.length) cp2] 27 (0, 0))) := ⟨ha, hb⟩
  clear ha hb h h2
  go_enter Tryz.func21, Tryz.ntmps21
  go_wp2_with fail
  refine (num_any e _).mono ?_
  rintro r W1 ⟨rfl, hb1⟩
  obtain ⟨c1, -⟩ := cells_block (keepblk3 hb1 HA.out.1)
  obtain ⟨c2, -⟩ := cells_block (keepblk3 hb1 HA.out.2)
  clear hw0
  go_wp2_with fail
  refine (HL.out W1 hb1).mono ?_
  rintro r W2 ⟨rfl, hb2⟩
  go_wp2_with fail
  go_ret
  exact ⟨rfl, bel0 hB0 (bel0 hb1 hb2)⟩
end Go.Proofs.YtkcbkeimbpopcaaGreatDoor

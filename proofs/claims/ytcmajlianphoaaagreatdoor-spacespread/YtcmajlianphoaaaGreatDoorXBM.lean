import Derived.Test.YtcmajlianphoaaaGreatDoorXAY
import Derived.BigQuiet
import Derived.Deep.RegionHeld3
import Derived.Test.YtcmajlianphoaaaGreatDoorXBL
import Derived.Test.YtcmajlianphoaaaGreatDoorXBE
import Derived.Test.YtcmajlianphoaaaGreatDoorXBH
namespace Go.Proofs.YtcmajlianphoaaaGreatDoor
open Go.RowKit Go.Shelf
theorem quiet_lit3 {P : Program} {id : Nat} {Q : Exit → Act → World → Prop} {a : Act} {w : World} {l : List Oper} {C : World → Prop} (hm : P.follows .mixedOrders = true) (hB : Region.lexB .any l.toArray = true) (hC : C w.drew)
    (h : wpQuiet P l.toArray C (fun a' => ∀ w', C w' → Q .normal a' w') l a) : (Code.region id l.toArray true).wp P Q a w :=
  wp_region_quiet (C := C) hm hB hC (by simpa using h)
theorem num_any (e : Int) (w : World) : Calls Tryz.prog 60 #[.int .i64 e] w fun r w' => r = .returned (.int .i64 e) ∧ Below w.heap.size w w' := by
  go_enter Tryz.func60, Tryz.ntmps60
  go_wp2_with fail
  go_ret
  exact ⟨rfl, Below.refl _ _⟩
theorem RSR.shape {W : World} {V : Value} {Ts : List (List UInt8 × List (List UInt8))} (h : RSR W V Ts) : ∃ p c, V = .slice p Ts.length c := by
  obtain ⟨Z, p, c, rfl, rfl, -, -⟩ := h
  exact ⟨p, c, by rw [List.length_map]⟩
theorem RSR.kept {W X : World} {b : Nat} {V : Value} {Ts : List (List UInt8 × List (List UInt8))} (h : RSR W V Ts) (hg : W.grownBy X (some b)) (hb : ∀ o t, W.cell? ⟨b, o, none⟩ ≠ some (.string t)) : RSR X V Ts := by
  have far : ∀ (X' : World) (g o : Nat) (u : Value), Below X.heap.size X X' → (∃ o' t, W.cell? ⟨g, o', none⟩ = some (.string t)) → W.cell? ⟨g, o, none⟩ = some u → X'.cell? ⟨g, o, none⟩ = some u := fun X' g o u hX hs hc => by
    have hne : some g ≠ some b := fun e => by
      obtain rfl := Option.some.inj e
      obtain ⟨o', t, h⟩ := hs
      exact hb o' t h
    have hlt := World.block_lt_of_cell? W _ hc
    have e1 : X'.heap[g]? = W.heap[g]? := (hX.block g (Nat.lt_of_lt_of_le hlt hg.size)).trans (hg.block g hlt hne)
    rw [World.cell?_of_block (a := ⟨g, o, none⟩) e1]
    exact hc
  obtain ⟨Z, p, cp, h1, h2, h3, h4⟩ := h
  refine ⟨Z, p, cp, h1, h2, fun X' hX k z hz => ?_, fun z hz X' hX k t ht => ?_⟩
  · obtain ⟨g, o0, e, c0, c1⟩ := h3 W (Below.refl _ _) k z hz
    exact ⟨g, o0, e, far X' g _ _ hX ⟨_, _, c0⟩ c0, far X' g _ _ hX ⟨_, _, c0⟩ c1⟩
  · obtain ⟨g, o0, e, c0⟩ := h4 z hz W (Below.refl _ _) k t ht
    exact ⟨g, o0, e, far X' g _ _ hX ⟨_, _, c0⟩ c0⟩
theorem no_str3 {W : World} {b : Nat} {i : Int} {q : Option Addr} {n c : Nat} {f : Bool} {T : TypeId} {fr : Nat × Nat} (hb : W.heap[b]? = some (.cells #[.int .i64 i, .slice q n c, .bool f] T fr)) : ∀ o t, W.cell? ⟨b, o, none⟩ ≠ some (.string t) := fun o t h => by
  unfold World.cell? at h
  rw [hb] at h
  match o, h with
  | 0, h => simp at h
  | 1, h => simp at h
  | 2, h => simp at h
  | k + 3, h => simp at h
theorem no_str2 {W : World} {b : Nat} {i : Int} {q : Option Addr} {n c : Nat} {T : TypeId} {fr : Nat × Nat} (hb : W.heap[b]? = some (.cells #[.int .i64 i, .slice q n c] T fr)) : ∀ o t, W.cell? ⟨b, o, none⟩ ≠ some (.string t) := fun o t h => by
  unfold World.cell? at h
  rw [hb] at h
  match o, h with
  | 0, h => simp at h
  | 1, h => simp at h
  | k + 2, h => simp at h
set_option maxRecDepth 100000 in
set_option maxHeartbeats 4000000 in
theorem like_any (b : Int) (V V2 : Value) (Ts : List (List UInt8 × List (List UInt8))) (B1 : Nat) (w : World) (h : SPL w B1 V Ts) (h2 : RSR w V2 Ts) (ho : szC Ts ≤ 128) (hg : gdC Ts) : Calls Tryz.prog 61 #[.agg #[.int .i64 b, V, .bool false], .agg #[.int .i64 b, V2]] w fun e w' => e = .returned (.bool true) ∧ Below w.heap.size w w' := by
  obtain ⟨p, cp, rfl⟩ := h.shape
  obtain ⟨p2, cp2, rfl⟩ := h2.shape
  obtain ⟨w0, hw0⟩ : ∃ w0, (w.alloc (.cells #[.int .i64 b, .slice p (Ts.length) cp, .bool false] 26 (0, 0))).alloc (.cells #[.int .i64 b, .slice p2 (Ts.length) cp2] 47 (0, 0)) = w0 := ⟨_, rfl⟩
  have ha : w0.heap[w.heap.size]? = some (.cells #[.int .i64 b, .slice p (Ts.length) cp, .bool false] 26 (0, 0)) := by rw [← hw0]; exact alw_0 _ _ _
  have hb : w0.heap[w.heap.size + 1]? = some (.cells #[.int .i64 b, .slice p2 (Ts.length) cp2] 47 (0, 0)) := by rw [← hw0]; exact alw_1 _ _ _
  have hB0 : Below w.heap.size w w0 := by rw [← hw0]; exact belA (belA (Below.refl _ _) _) _
  have HSz : Hid (∀ W, Below w0.heap.size w0 W → Calls Tryz.prog 18 #[.agg #[.int .i64 b, .slice p (Ts.length) cp, .bool false]] W fun e w' => e = .returned (.int .i64 (szC Ts : Int)) ∧ Below W.heap.size W w') := fun W hW => spSize_any b _ Ts B1 W (h.below (bel0 hB0 hW)) ho
  have HSx : Hid (∀ W, Below w0.heap.size w0 W → Calls Tryz.prog 17 #[.agg #[.int .i64 b, .slice p (Ts.length) cp, .bool false]] W fun e w' => e = .returned (.string ⟨(txC Ts).toArray⟩) ∧ Below W.heap.size W w') := fun W hW => spText_any b _ Ts B1 W (h.below (bel0 hB0 hW)) ho hg
  have HDz : Hid (∀ W, Below w0.heap.size w0 W → Calls Tryz.prog 84 #[.agg #[.int .i64 b, .slice p2 (Ts.length) cp2]] W fun e w' => e = .returned (.int .i64 (szC Ts : Int)) ∧ Below W.heap.size W w') := fun W hW => dSizeL_any b _ Ts W (h2.later (bel0 hB0 hW)) (by omega)
  have HDx : Hid (∀ W, Below w0.heap.size w0 W → Calls Tryz.prog 85 #[.agg #[.int .i64 b, .slice p2 (Ts.length) cp2]] W fun e w' => e = .returned (.string ⟨(txC Ts).toArray⟩) ∧ Below W.heap.size W w') := fun W hW => dTextL_any b _ Ts W (h2.later (bel0 hB0 hW)) ho hg
  obtain ⟨n, hn⟩ : ∃ n, Ts.length = n := ⟨_, rfl⟩
  rw [hn] at ha hb HSz HSx HDz HDx hw0 ⊢
  obtain ⟨n2, hn2⟩ : ∃ n2, n = n2 := ⟨_, rfl⟩
  have HBi : Hid (∀ W, Calls Tryz.prog 19 #[.agg #[.int .i64 b, .slice p n cp, .bool false]] W fun e w' => e = .returned (.int .i64 b) ∧ Below W.heap.size W w') := fun W => bits_any b p n cp W
  have HX : Hid (∀ W, Below w0.heap.size w0 W → W.cell? ⟨w.heap.size, 0, none⟩ = some (.int .i64 b) ∧ W.cell? ⟨w.heap.size, 1, none⟩ = some (.slice p n cp) ∧ W.cell? ⟨w.heap.size, 2, none⟩ = some (.bool false) ∧ W.cell? ⟨w.heap.size + 1, 0, none⟩ = some (.int .i64 b) ∧ W.cell? ⟨w.heap.size + 1, 1, none⟩ = some (.slice p2 n cp2)) := fun W hW => by
    obtain ⟨c1, -⟩ := cells_block (keepblk3 hW ha)
    obtain ⟨c2, -⟩ := cells_block (keepblk3 hW hb)
    exact ⟨c1 0, c1 1, c1 2, c2 0, c2 1⟩
  clear ha hb h h2 hn hn2 n2
  go_enter Tryz.func61, Tryz.ntmps61
  go_wp2_with fail
  clear hw0
  refine quiet_lit3 (C := fun W => Below w0.heap.size w0 W) (by kernel_rfl) (by kernel_rfl) (show Below _ _ _ from (Below.refl _ _).drew) ?_
  go_big_quiet_want
  refine ⟨.agg #[.int .i64 b, .slice p n cp, .bool false], fun W hW => ?_, ?_⟩
  · obtain ⟨x0, x1, x2, y0, y1⟩ := HX.out W hW
    go_simp
  go_big_quiet_on
  simp only [Act.put, List.setIfInBounds_toArray, List.set_cons_zero, List.set_cons_succ]
  go_big_quiet_want
  refine ⟨.int .i64 b, fun W hW => ?_, ?_⟩
  · go_simp
    refine (HBi.out W).mono ?_
    rintro e w7 ⟨rfl, hb⟩
    exact ⟨rfl, bel0 hW hb⟩
  go_big_quiet_on
  simp only [Act.put, List.setIfInBounds_toArray, List.set_cons_zero, List.set_cons_succ]
  go_big_quiet_want
  refine ⟨.pointer (some ⟨w.heap.size + 1, 0, none⟩), fun W hW => ?_, ?_⟩
  · go_simp
  go_big_quiet_on
  simp only [Act.put, List.setIfInBounds_toArray, List.set_cons_zero, List.set_cons_succ]
  go_big_quiet_want
  refine ⟨.int .i64 b, fun W hW => ?_, ?_⟩
  · obtain ⟨x0, x1, x2, y0, y1⟩ := HX.out W hW
    go_simp
  go_big_quiet_on
  simp only [Act.put, List.setIfInBounds_toArray, List.set_cons_zero, List.set_cons_succ]
  go_big_quiet_want
  refine ⟨.bool true, fun W hW => ?_, ?_⟩
  · go_simp
  go_big_quiet_on
  simp only [Act.put, List.setIfInBounds_toArray, List.set_cons_zero, List.set_cons_succ]
  go_big_quiet_want
  go_big_quiet_op
  go_big_quiet_on
  go_big_quiet_want
  refine ⟨.agg #[.int .i64 b, .slice p n cp, .bool false], fun W hW => ?_, ?_⟩
  · obtain ⟨x0, x1, x2, y0, y1⟩ := HX.out W hW
    go_simp
  go_big_quiet_on
  simp only [Act.put, List.setIfInBounds_toArray, List.set_cons_zero, List.set_cons_succ]
  go_big_quiet_want
  refine ⟨.int .i64 (szC Ts : Int), fun W hW => ?_, ?_⟩
  · go_simp
    refine (HSz.out W hW).mono ?_
    rintro e w7 ⟨rfl, hb⟩
    exact ⟨rfl, bel0 hW hb⟩
  go_big_quiet_on
  simp only [Act.put, List.setIfInBounds_toArray, List.set_cons_zero, List.set_cons_succ]
  go_big_quiet_want
  refine ⟨.agg #[.int .i64 b, .slice p2 n cp2], fun W hW => ?_, ?_⟩
  · obtain ⟨x0, x1, x2, y0, y1⟩ := HX.out W hW
    go_simp
  go_big_quiet_on
  simp only [Act.put, List.setIfInBounds_toArray, List.set_cons_zero, List.set_cons_succ]
  go_big_quiet_want
  refine ⟨.int .i64 (szC Ts : Int), fun W hW => ?_, ?_⟩
  · go_simp
    refine (HDz.out W hW).mono ?_
    rintro e w7 ⟨rfl, hb⟩
    exact ⟨rfl, bel0 hW hb⟩
  go_big_quiet_on
  simp only [Act.put, List.setIfInBounds_toArray, List.set_cons_zero, List.set_cons_succ]
  go_big_quiet_want
  refine ⟨.bool true, fun W hW => ?_, ?_⟩
  · go_simp
  go_big_quiet_on
  simp only [Act.put, List.setIfInBounds_toArray, List.set_cons_zero, List.set_cons_succ]
  go_big_quiet_want
  refine ⟨.bool true, fun W hW => ?_, ?_⟩
  · go_simp
  go_big_quiet_on
  simp only [Act.put, List.setIfInBounds_toArray, List.set_cons_zero, List.set_cons_succ]
  go_big_quiet_want
  go_big_quiet_op
  go_big_quiet_on
  go_big_quiet_want
  refine ⟨.agg #[.int .i64 b, .slice p n cp, .bool false], fun W hW => ?_, ?_⟩
  · obtain ⟨x0, x1, x2, y0, y1⟩ := HX.out W hW
    go_simp
  go_big_quiet_on
  simp only [Act.put, List.setIfInBounds_toArray, List.set_cons_zero, List.set_cons_succ]
  go_big_quiet_want
  refine ⟨.string ⟨(txC Ts).toArray⟩, fun W hW => ?_, ?_⟩
  · go_simp
    refine (HSx.out W hW).mono ?_
    rintro e w7 ⟨rfl, hb⟩
    exact ⟨rfl, bel0 hW hb⟩
  go_big_quiet_on
  simp only [Act.put, List.setIfInBounds_toArray, List.set_cons_zero, List.set_cons_succ]
  go_big_quiet_want
  refine ⟨.agg #[.int .i64 b, .slice p2 n cp2], fun W hW => ?_, ?_⟩
  · obtain ⟨x0, x1, x2, y0, y1⟩ := HX.out W hW
    go_simp
  go_big_quiet_on
  simp only [Act.put, List.setIfInBounds_toArray, List.set_cons_zero, List.set_cons_succ]
  go_big_quiet_want
  refine ⟨.string ⟨(txC Ts).toArray⟩, fun W hW => ?_, ?_⟩
  · go_simp
    refine (HDx.out W hW).mono ?_
    rintro e w7 ⟨rfl, hb⟩
    exact ⟨rfl, bel0 hW hb⟩
  go_big_quiet_on
  simp only [Act.put, List.setIfInBounds_toArray, List.set_cons_zero, List.set_cons_succ]
  go_big_quiet_want
  refine ⟨.bool true, fun W hW => ?_, ?_⟩
  · go_simp
  go_big_quiet_on
  simp only [Act.put, List.setIfInBounds_toArray, List.set_cons_zero, List.set_cons_succ]
  go_big_quiet_want
  refine ⟨.bool true, fun W hW => ?_, ?_⟩
  · go_simp
  go_big_quiet_on
  simp only [Act.put, List.setIfInBounds_toArray, List.set_cons_zero, List.set_cons_succ]
  go_big_quiet_want
  go_big_quiet_op
  go_big_quiet_on
  refine wpQuiet_nil ?_
  intro W hW
  go_wp2_with fail
  go_ret
  exact ⟨rfl, bel0 hB0 hW⟩
set_option maxRecDepth 100000 in
theorem same_any (b e : Int) (V V2 : Value) (Ts : List (List UInt8 × List (List UInt8))) (B1 : Nat) (w : World) (h : SPL w B1 V Ts) (h2 : RSR w V2 Ts) (ho : szC Ts ≤ 128) (hg : gdC Ts) : Calls Tryz.prog 35 #[.agg #[.int .i64 b, V, .bool false], .int .i64 e, .agg #[.int .i64 b, V2], .int .i64 e] w fun r w' => r = .returned (.bool true) ∧ Below w.heap.size w w' := by
  obtain ⟨p, cp, rfl⟩ := h.shape
  obtain ⟨p2, cp2, rfl⟩ := h2.shape
  obtain ⟨w0, hw0⟩ : ∃ w0, (w.alloc (.cells #[.int .i64 b, .slice p (Ts.length) cp, .bool false] 26 (0, 0))).alloc (.cells #[.int .i64 b, .slice p2 (Ts.length) cp2] 47 (0, 0)) = w0 := ⟨_, rfl⟩
  have ha : w0.heap[w.heap.size]? = some (.cells #[.int .i64 b, .slice p (Ts.length) cp, .bool false] 26 (0, 0)) := by rw [← hw0]; exact alw_0 _ _ _
  have hb : w0.heap[w.heap.size + 1]? = some (.cells #[.int .i64 b, .slice p2 (Ts.length) cp2] 47 (0, 0)) := by rw [← hw0]; exact alw_1 _ _ _
  have hB0 : Below w.heap.size w w0 := by rw [← hw0]; exact belA (belA (Below.refl _ _) _) _
  have HL : Hid (∀ W, Below w0.heap.size w0 W → Calls Tryz.prog 61 #[.agg #[.int .i64 b, .slice p (Ts.length) cp, .bool false], .agg #[.int .i64 b, .slice p2 (Ts.length) cp2]] W fun e w' => e = .returned (.bool true) ∧ Below W.heap.size W w') := fun W hW => like_any b _ _ Ts B1 W (h.below (bel0 hB0 hW)) (h2.later (bel0 hB0 hW)) ho hg
  have HA : Hid (w0.heap[w.heap.size]? = some (.cells #[.int .i64 b, .slice p (Ts.length) cp, .bool false] 26 (0, 0)) ∧ w0.heap[w.heap.size + 1]? = some (.cells #[.int .i64 b, .slice p2 (Ts.length) cp2] 47 (0, 0))) := ⟨ha, hb⟩
  clear ha hb h h2
  go_enter Tryz.func35, Tryz.ntmps35
  go_wp2_with fail
  refine (num_any e _).mono ?_
  rintro r W1 ⟨rfl, hb1⟩
  obtain ⟨c1, -⟩ := cells_block (keepblk3 hb1 HA.out.1)
  obtain ⟨c2, -⟩ := cells_block (keepblk3 hb1 HA.out.2)
  clear hw0
  go_wp2_with fail
  refine (HL.out W1 hb1).mono ?_
  rintro r W2 ⟨rfl, hb2⟩
  go_wp2_with fail
  go_ret
  exact ⟨rfl, bel0 hB0 (bel0 hb1 hb2)⟩
end Go.Proofs.YtcmajlianphoaaaGreatDoor
namespace Go.Proofs.YtcmajlianphoaaaGreatDoor
open Go.RowKit Go.Shelf
theorem res_read (tmps : Array Value) (W : World) (b b2 : Nat) (v0 v1 v2 u0 u1 x : Value) {m m2 : Nat × Nat} (hp : tmps.getD 4 undef = .pointer (some ⟨b, 0, none⟩)) (hp2 : tmps.getD 5 undef = .pointer (some ⟨b2, 0, none⟩)) (hx : tmps.getD 6 undef = x) (h : W.heap[b]? = some (.cells #[v0, v1, v2] 26 m)) (h2 : W.heap[b2]? = some (.cells #[u0, u1] 47 m2)) :
    (results Tryz.f14 tmps).run Tryz.prog W = .ok (.tuple #[.agg #[v0, v1, v2], .agg #[u0, u1], x]) W := by
  have hc : ∀ j, W.cell? ⟨b, j, none⟩ = (#[v0, v1, v2] : Array Value)[j]? := by
    intro j; unfold World.cell?; rw [h]; simp
  have hc2 : ∀ j, W.cell? ⟨b2, j, none⟩ = (#[u0, u1] : Array Value)[j]? := by
    intro j; unfold World.cell?; rw [h2]; simp
  have hp' : tmps[4]?.getD undef = .pointer (some ⟨b, 0, none⟩) := by simpa using hp
  have hp2' : tmps[5]?.getD undef = .pointer (some ⟨b2, 0, none⟩) := by simpa using hp2
  have hx' : tmps[6]?.getD undef = x := by simpa using hx
  simp [results, hp', hp2', hx', go_sem, hc, hc2]
def RDS (w w' : World) (b : Int) (l : List UInt8) (e : Ending) : Prop := ∃ V V2, e = .returned (.tuple #[.agg #[.int .i64 (prB b l), V, .bool false], .agg #[.int .i64 (prB b l), V2], .bool true]) ∧ SPL w' w.heap.size V (prT b l) ∧ RSR w' V2 (prT b l) ∧ Below w.heap.size w w'
theorem put5_get {W : World} {a c : Nat} {x0 x1 x2 y0 y1 : Value} {T U : TypeId} {m m2 : Nat × Nat} (v0 v1 v2 u0 u1 : Value) (hne : a ≠ c) (h : W.heap[a]? = some (.cells #[x0, x1, x2] T m)) (h2 : W.heap[c]? = some (.cells #[y0, y1] U m2)) :
    (((((W.setCell ⟨a, 0, none⟩ v0).setCell ⟨a, 1, none⟩ v1).setCell ⟨a, 2, none⟩ v2).setCell ⟨c, 0, none⟩ u0).setCell ⟨c, 1, none⟩ u1).heap[a]? = some (.cells #[v0, v1, v2] T m) ∧ (((((W.setCell ⟨a, 0, none⟩ v0).setCell ⟨a, 1, none⟩ v1).setCell ⟨a, 2, none⟩ v2).setCell ⟨c, 0, none⟩ u0).setCell ⟨c, 1, none⟩ u1).heap[c]? = some (.cells #[u0, u1] U m2) := by
  constructor
  · rw [heap_setCell_other _ _ _ _ (fun e => hne e), heap_setCell_other _ _ _ _ (fun e => hne e)]
    have h0 := set_get (j := 0) v0 h
    have h1 := set_get (j := 1) v1 h0
    have h2 := set_get (j := 2) v2 h1
    rw [h2]
    simp
  · have k : (((W.setCell ⟨a, 0, none⟩ v0).setCell ⟨a, 1, none⟩ v1).setCell ⟨a, 2, none⟩ v2).heap[c]? = some (.cells #[y0, y1] U m2) := by
      rw [heap_setCell_other _ _ _ _ (fun e => hne e.symm), heap_setCell_other _ _ _ _ (fun e => hne e.symm), heap_setCell_other _ _ _ _ (fun e => hne e.symm)]
      exact h2
    have h0 := set_get (j := 0) u0 k
    have h1 := set_get (j := 1) u1 h0
    rw [h1]
    simp
theorem gr3 (X : World) (b : Nat) (u0 u1 u2 : Value) : X.grownBy (((X.setCell ⟨b, 0, none⟩ u0).setCell ⟨b, 1, none⟩ u1).setCell ⟨b, 2, none⟩ u2) (some b) := ⟨rfl, rfl, rfl, by simp, fun j _ hj => by
  rw [heap_setCell_other _ _ _ _ (fun e => hj (by rw [e])), heap_setCell_other _ _ _ _ (fun e => hj (by rw [e])), heap_setCell_other _ _ _ _ (fun e => hj (by rw [e]))]⟩
theorem gr2 (X : World) (b : Nat) (u0 u1 : Value) : X.grownBy ((X.setCell ⟨b, 0, none⟩ u0).setCell ⟨b, 1, none⟩ u1) (some b) := ⟨rfl, rfl, rfl, by simp, fun j _ hj => by
  rw [heap_setCell_other _ _ _ _ (fun e => hj (by rw [e])), heap_setCell_other _ _ _ _ (fun e => hj (by rw [e]))]⟩
theorem far3h {W : World} {a b : Nat} (v0 v1 v2 : Value) (hne : a ≠ b) : (((W.setCell ⟨b, 0, none⟩ v0).setCell ⟨b, 1, none⟩ v1).setCell ⟨b, 2, none⟩ v2).heap[a]? = W.heap[a]? := by
  rw [heap_setCell_other _ _ _ _ (fun e => hne e), heap_setCell_other _ _ _ _ (fun e => hne e), heap_setCell_other _ _ _ _ (fun e => hne e)]
theorem far3c {W : World} {a b : Nat} {cs : Array Value} (v0 v1 v2 : Value) (hne : a ≠ b) (h : ∀ j, W.cell? ⟨a, j, none⟩ = cs[j]?) : ∀ j, (((W.setCell ⟨b, 0, none⟩ v0).setCell ⟨b, 1, none⟩ v1).setCell ⟨b, 2, none⟩ v2).cell? ⟨a, j, none⟩ = cs[j]? := fun j => by
  rw [World.cell?_of_block (a := ⟨a, j, none⟩) (far3h v0 v1 v2 hne)]
  exact h j
theorem far2c {W : World} {a b : Nat} {cs : Array Value} (v0 v1 : Value) (hne : a ≠ b) (h : ∀ j, W.cell? ⟨a, j, none⟩ = cs[j]?) : ∀ j, ((W.setCell ⟨b, 0, none⟩ v0).setCell ⟨b, 1, none⟩ v1).cell? ⟨a, j, none⟩ = cs[j]? := fun j => by
  rw [World.cell?_of_block (a := ⟨a, j, none⟩) (show _ = W.heap[a]? by rw [heap_setCell_other _ _ _ _ (fun e => hne e), heap_setCell_other _ _ _ _ (fun e => hne e)])]
  exact h j
set_option maxRecDepth 100000 in
set_option maxHeartbeats 4000000 in
theorem read_any (b : Int) (l : List UInt8) (w : World) (hl : l.length ≤ maxLen) : Calls Tryz.prog 14 #[.int .i64 b, .string ⟨l.toArray⟩] w fun e w' => RDS w w' b l e := by
  have hok := prT_ok b l
  obtain ⟨B, hB⟩ : ∃ B, prB b l = B := ⟨_, rfl⟩
  obtain ⟨E, hE⟩ : ∃ E, prE b l = E := ⟨_, rfl⟩
  obtain ⟨X, hX⟩ : ∃ X, prT b l = X := ⟨_, rfl⟩
  rw [hX] at hok
  obtain ⟨w1, hw1⟩ : ∃ w1, (w.alloc (.cells #[.int .i64 0, .slice none 0 0, .bool false] 26 (0, 0))).alloc (.cells #[.int .i64 0, .slice none 0 0] 47 (0, 0)) = w1 := ⟨_, rfl⟩
  have a4 : w1.heap[w.heap.size]? = some (.cells #[.int .i64 0, .slice none 0 0, .bool false] 26 (0, 0)) := by rw [← hw1]; exact alw_0 _ _ _
  have a5 : w1.heap[w.heap.size + 1]? = some (.cells #[.int .i64 0, .slice none 0 0] 47 (0, 0)) := by rw [← hw1]; exact alw_1 _ _ _
  have hB1 : Below w.heap.size w w1 := by rw [← hw1]; exact belA (belA (Below.refl _ _) _) _
  have HP : Hid (Calls Tryz.prog 6 #[.int .i64 b, .string ⟨l.toArray⟩] w1 fun e w' => ∃ V, e = .returned (.tuple #[.agg #[.int .i64 B, V, .bool false], .int .i64 E]) ∧ SPL w' w1.heap.size V X ∧ Below w1.heap.size w1 w') := by
    unfold Hid
    rw [← hB, ← hE, ← hX]
    exact sParse_any b l w1 hl
  have HD : Hid (∀ W, Calls Tryz.prog 34 #[.int .i64 b, .string ⟨l.toArray⟩] W fun e w' => ∃ V, e = .returned (.tuple #[.agg #[.int .i64 B, V], .int .i64 E]) ∧ RSR w' V X ∧ Below W.heap.size W w') := fun W => by
    rw [← hB, ← hE, ← hX]
    exact dParse_any b l W hl
  have HSa : Hid (∀ V V2 W, SPL W w1.heap.size V X → RSR W V2 X → Calls Tryz.prog 35 #[.agg #[.int .i64 B, V, .bool false], .int .i64 E, .agg #[.int .i64 B, V2], .int .i64 E] W fun r w' => r = .returned (.bool true) ∧ Below W.heap.size W w') := fun V V2 W h h2 => same_any B E V V2 X w1.heap.size W h h2 hok.2 hok.1
  unfold RDS
  rw [hB, hX]
  have H45 : Hid (w1.heap[w.heap.size]? = some (.cells #[.int .i64 0, .slice none 0 0, .bool false] 26 (0, 0)) ∧ w1.heap[w.heap.size + 1]? = some (.cells #[.int .i64 0, .slice none 0 0] 47 (0, 0)) ∧ Below w.heap.size w w1) := ⟨a4, a5, hB1⟩
  clear hB hE hX hok a4 a5 hB1
  obtain ⟨n, hn⟩ : ∃ n, X.length = n := ⟨_, rfl⟩
  go_enter Tryz.func14, Tryz.ntmps14
  go_wp2_with fail
  refine HP.out.mono ?_
  rintro e w2 ⟨V, rfl, sv, hb2⟩
  obtain ⟨p, c, rfl⟩ := sv.shape
  rw [hn] at sv ⊢
  have HW2 : Hid (SPL w2 w1.heap.size (.slice p n c) X ∧ Below w1.heap.size w1 w2) := ⟨sv, hb2⟩
  clear hw1 sv hb2 HP
  go_wp2_with fail
  refine (HD.out _).mono ?_
  rintro e w4 ⟨V2, rfl, rv, hb4⟩
  obtain ⟨p2, c2, rfl⟩ := rv.shape
  rw [hn] at rv ⊢
  have HW4 : Hid (RSR w4 (.slice p2 n c2) X ∧ Below (w2.alloc (.cells #[.int .i64 B, .slice p n c, .bool false] 26 (0, 0))).heap.size (w2.alloc (.cells #[.int .i64 B, .slice p n c, .bool false] 26 (0, 0))) w4) := ⟨rv, hb4⟩
  clear rv hb4 HD
  go_upto_region 3 with fail
  have HF : Hid (w1.heap.size ≤ w2.heap.size ∧ w2.heap.size < w4.heap.size ∧ w.heap.size + 1 < w1.heap.size ∧ ∀ W, Below (w4.alloc (.cells #[.int .i64 B, .slice p2 n c2] 47 (0, 0))).heap.size (w4.alloc (.cells #[.int .i64 B, .slice p2 n c2] 47 (0, 0))) W → ((∀ j, W.cell? ⟨w2.heap.size, j, none⟩ = (#[.int .i64 B, .slice p n c, .bool false] : Array Value)[j]?) ∧ (∀ j, W.cell? ⟨w4.heap.size, j, none⟩ = (#[.int .i64 B, .slice p2 n c2] : Array Value)[j]?)) ∧ W.heap[w.heap.size]? = some (.cells #[.int .i64 0, .slice none 0 0, .bool false] 26 (0, 0)) ∧ W.heap[w.heap.size + 1]? = some (.cells #[.int .i64 0, .slice none 0 0] 47 (0, 0)) ∧ SPL W w1.heap.size (.slice p n c) X ∧ RSR W (.slice p2 n c2) X ∧ Below w.heap.size w W) := by
    have h1 := HW2.out.2
    have h2 : Below w2.heap.size w2 (w2.alloc (.cells #[.int .i64 B, .slice p n c, .bool false] 26 (0, 0))) := belA (Below.refl _ _) _
    have h3 := HW4.out.2
    have h4 : Below w4.heap.size w4 (w4.alloc (.cells #[.int .i64 B, .slice p2 n c2] 47 (0, 0))) := belA (Below.refl _ _) _
    have k2 : Below w2.heap.size w2 w4 := bel0 h2 h3
    have e1 := h1.size
    have e2 := h3.size
    have e3 : w.heap.size + 1 < w1.heap.size := lt_of_get3 H45.out.2.1
    refine ⟨e1, by simp at e2; omega, e3, fun W hW => ⟨⟨(cells_block (keepblk3 (bel0 (bel0 h3 h4) hW) (alloc_get _ _))).1, (cells_block (keepblk3 hW (alloc_get _ _))).1⟩, ?_⟩⟩
    have k4 : Below w4.heap.size w4 W := bel0 h4 hW
    have k1 : Below w1.heap.size w1 W := bel0 (bel0 h1 k2) k4
    exact ⟨keepblk3 k1 H45.out.1, keepblk3 k1 H45.out.2.1, HW2.out.1.below (bel0 k2 k4), HW4.out.1.later k4, bel0 H45.out.2.2 k1⟩
  obtain ⟨f1, f2, f3, HG⟩ := HF.out
  have HG2 : Hid (∀ W, Below (w4.alloc (.cells #[.int .i64 B, .slice p2 n c2] 47 (0, 0))).heap.size (w4.alloc (.cells #[.int .i64 B, .slice p2 n c2] 47 (0, 0))) W → ((∀ j, W.cell? ⟨w2.heap.size, j, none⟩ = (#[.int .i64 B, .slice p n c, .bool false] : Array Value)[j]?) ∧ (∀ j, W.cell? ⟨w4.heap.size, j, none⟩ = (#[.int .i64 B, .slice p2 n c2] : Array Value)[j]?)) ∧ W.heap[w.heap.size]? = some (.cells #[.int .i64 0, .slice none 0 0, .bool false] 26 (0, 0)) ∧ W.heap[w.heap.size + 1]? = some (.cells #[.int .i64 0, .slice none 0 0] 47 (0, 0)) ∧ SPL W w1.heap.size (.slice p n c) X ∧ RSR W (.slice p2 n c2) X ∧ Below w.heap.size w W) := HG
  have hk0 := (HG _ (Below.refl _ _)).1
  obtain ⟨w5, hw5⟩ : ∃ w5, (w4.alloc (.cells #[.int .i64 B, .slice p2 n c2] 47 (0, 0))) = w5 := ⟨_, rfl⟩
  rw [hw5] at hk0 HG2 ⊢
  have hk0d : (∀ j, w5.drew.cell? ⟨w2.heap.size, j, none⟩ = (#[.int .i64 B, .slice p n c, .bool false] : Array Value)[j]?) ∧ (∀ j, w5.drew.cell? ⟨w4.heap.size, j, none⟩ = (#[.int .i64 B, .slice p2 n c2] : Array Value)[j]?) := hk0
  have HN1 : Hid (w2.heap.size ≠ w.heap.size ∧ w4.heap.size ≠ w.heap.size ∧ w2.heap.size ≠ w.heap.size + 1 ∧ w4.heap.size ≠ w.heap.size + 1) := ⟨by omega, by omega, by omega, by omega⟩
  have HLT : Hid (w.heap.size + 1 < w1.heap.size) := f3
  clear HF HG f1 f2 f3 HW2 HW4 H45 hw5
  go_region_held3 (fun W => (∀ j, W.cell? ⟨w2.heap.size, j, none⟩ = (#[.int .i64 B, .slice p n c, .bool false] : Array Value)[j]?) ∧ (∀ j, W.cell? ⟨w4.heap.size, j, none⟩ = (#[.int .i64 B, .slice p2 n c2] : Array Value)[j]?)) (first | with_reducible exact hk0 | with_reducible exact hk0d | with_reducible exact hk6 | with_reducible exact hk7 | with_reducible exact hk8) (first | (go_at_call 35; refine (HSa.out _ _ _ (HG2.out _ (by first | exact Below.refl _ _ | exact (Below.refl _ _).drew)).2.2.2.1 (HG2.out _ (by first | exact Below.refl _ _ | exact (Below.refl _ _).drew)).2.2.2.2.1).mono ?_; rintro e w6 ⟨rfl, hb6⟩; have hb6' : Below w5.heap.size w5 w6 := (by first | exact hb6 | exact und hb6); obtain ⟨hk6, h4, h5, -⟩ := HG2.out w6 hb6'; have hk7 : (∀ j, (((w6.setCell ⟨w.heap.size, 0, none⟩ (.int .i64 B)).setCell ⟨w.heap.size, 1, none⟩ (.slice p n c)).setCell ⟨w.heap.size, 2, none⟩ (.bool false)).cell? ⟨w2.heap.size, j, none⟩ = (#[.int .i64 B, .slice p n c, .bool false] : Array Value)[j]?) ∧ (∀ j, (((w6.setCell ⟨w.heap.size, 0, none⟩ (.int .i64 B)).setCell ⟨w.heap.size, 1, none⟩ (.slice p n c)).setCell ⟨w.heap.size, 2, none⟩ (.bool false)).cell? ⟨w4.heap.size, j, none⟩ = (#[.int .i64 B, .slice p2 n c2] : Array Value)[j]?) := ⟨far3c _ _ _ HN1.out.1 hk6.1, far3c _ _ _ HN1.out.2.1 hk6.2⟩; have hk8 : (∀ j, (((((w6.setCell ⟨w.heap.size, 0, none⟩ (.int .i64 B)).setCell ⟨w.heap.size, 1, none⟩ (.slice p n c)).setCell ⟨w.heap.size, 2, none⟩ (.bool false)).setCell ⟨w.heap.size + 1, 0, none⟩ (.int .i64 B)).setCell ⟨w.heap.size + 1, 1, none⟩ (.slice p2 n c2)).cell? ⟨w2.heap.size, j, none⟩ = (#[.int .i64 B, .slice p n c, .bool false] : Array Value)[j]?) ∧ (∀ j, (((((w6.setCell ⟨w.heap.size, 0, none⟩ (.int .i64 B)).setCell ⟨w.heap.size, 1, none⟩ (.slice p n c)).setCell ⟨w.heap.size, 2, none⟩ (.bool false)).setCell ⟨w.heap.size + 1, 0, none⟩ (.int .i64 B)).setCell ⟨w.heap.size + 1, 1, none⟩ (.slice p2 n c2)).cell? ⟨w4.heap.size, j, none⟩ = (#[.int .i64 B, .slice p2 n c2] : Array Value)[j]?) := ⟨far2c _ _ HN1.out.2.2.1 hk7.1, far2c _ _ HN1.out.2.2.2 hk7.2⟩; obtain ⟨hc4, hf4⟩ := cells_block h4; have h5' : (((w6.setCell ⟨w.heap.size, 0, none⟩ (.int .i64 B)).setCell ⟨w.heap.size, 1, none⟩ (.slice p n c)).setCell ⟨w.heap.size, 2, none⟩ (.bool false)).heap[w.heap.size + 1]? = some (.cells #[.int .i64 0, .slice none 0 0] 47 (0, 0)) := (far3h _ _ _ (by omega)).trans h5; obtain ⟨hc5, hf5⟩ := cells_block h5'))
  obtain ⟨-, h4', h5q, sv6, rv6, hB6⟩ := HG2.out w6 hb6'
  clear hk0 hk0d hk6 hk7 hk8 hc4 hf4 hc5 hf5
  go_wp2_with fail
  refine bodyPost_ret (res_read _ _ w.heap.size (w.heap.size + 1) _ _ _ _ _ _ rfl rfl rfl (put5_get _ _ _ _ _ (by omega) h4 h5).1 (put5_get _ _ _ _ _ (by omega) h4 h5).2) rfl ?_
  refine ⟨_, _, rfl, ((sv6.kept (gr3 _ _ _ _ _) (by have := HLT.out; omega)).kept (gr2 _ _ _ _) HLT.out).base (by have := HLT.out; omega), (rv6.kept (gr3 _ _ _ _ _) (no_str3 h4)).kept (gr2 _ _ _ _) (no_str2 h5'), ?_⟩
  exact ((((hB6.setCell (Nat.le_refl _) _).setCell (Nat.le_refl _) _).setCell (Nat.le_refl _) _).setCell (Nat.le_succ _) _).setCell (Nat.le_succ _) _
end Go.Proofs.YtcmajlianphoaaaGreatDoor
namespace Go.Proofs.YtcmajlianphoaaaGreatDoor
open Go.RowKit Go.Shelf
set_option maxRecDepth 100000 in
theorem caughtS (b : Nat) (x : Int) (older : List PanicEntry) (w : World) (hc : w.cell? ⟨b, 0, none⟩ = some (.int .i64 x)) (hz : w.frozen? ⟨b, 0, none⟩ = false) :
    CallsD Tryz.prog 48 #[.pointer (some ⟨b, 0, none⟩)] (.panicking ({ v := .iface 99 (.agg #[]), recovered := false } :: older)) w fun e u' w' =>
      e = .returned (.tuple #[]) ∧ u' = .panicking ({ v := .iface 99 (.agg #[]), recovered := true } :: older) ∧ w' = w.setCell ⟨b, 0, none⟩ (.int .i64 3) := by
  refine callsD_of_wpS Tryz.func48 rfl fun c₀ cs hu => ?_
  apply wpS_seq
  apply wpS_region
  simp [wpOpsS, go_sem, recoverD, hu, Tryz.ntmps48, Exit.thenS]
  refine wpS_of_wp ?_
  have hE := eq_overE
  go_wp2_with fail
  simp [bodyPostS, results, Tryz.results48]
theorem idleS (b : Nat) (w : World) :
    CallsD Tryz.prog 48 #[.pointer (some ⟨b, 0, none⟩)] .returning w fun e u' w' => e = .returned (.tuple #[]) ∧ u' = .returning ∧ w' = w := by
  refine callsD_of_wpS Tryz.func48 rfl fun c₀ cs hu => ?_
  apply wpS_seq
  apply wpS_region
  simp [wpOpsS, go_sem, recoverD, hu, Tryz.ntmps48, Exit.thenS]
  refine wpS_of_wp ?_
  go_wp2_with fail
  cases c₀
  simp_all [bodyPostS, results, Tryz.results48]
set_option maxRecDepth 100000 in
set_option maxHeartbeats 4000000 in
theorem giveS (t : List UInt8) (ok : Bool) (c1 c2 : Nat) (w : World) (HO : ∀ W, Below w.heap.size w W → Calls Tryz.prog 29 #[.pointer (some ⟨c1, 0, none⟩), .pointer (some ⟨c2, 0, none⟩)] W fun e w' => Below W.heap.size W w' ∧ ((ok = true ∧ e = .returned (.string ⟨t.toArray⟩)) ∨ (ok = false ∧ e = .panicked [{ v := .iface 99 (.agg #[]), recovered := false }]))) :
    Calls Tryz.prog 28 #[.func (.func 29) #[] #[.pointer (some ⟨c1, 0, none⟩), .pointer (some ⟨c2, 0, none⟩)]] w fun e w' => e = .returned (.tuple #[.string ⟨(if ok = true then t else []).toArray⟩, .int .i64 (if ok = true then 0 else 3)]) ∧ Below w.heap.size w w' := by
  have hmf : ∀ (fn : Fn) (first cap : Array Value) (w : World), (Instr.makeFunc fn first cap).run Tryz.prog w = .ok (.func fn first cap) w := fun _ _ _ _ => rfl
  obtain ⟨w2, hw2⟩ : ∃ w2, w.alloc (.cells #[.int .i64 0] 27 (0, 0)) = w2 := ⟨_, rfl⟩
  have hE : w2.heap[w.heap.size]? = some (.cells #[.int .i64 0] 27 (0, 0)) := by rw [← hw2]; exact alloc_get _ _
  have hB2 : Below w.heap.size w w2 := by rw [← hw2]; exact belA (Below.refl _ _) _
  have HO2 := HO w2 hB2
  have HA : Hid (w2.heap[w.heap.size]? = some (.cells #[.int .i64 0] 27 (0, 0)) ∧ Below w.heap.size w w2) := ⟨hE, hB2⟩
  clear hE hB2 HO
  cases ok with
  | true =>
    have HO3 : Hid (Calls Tryz.prog 29 #[.pointer (some ⟨c1, 0, none⟩), .pointer (some ⟨c2, 0, none⟩)] w2 fun e w' => e = .returned (.string ⟨t.toArray⟩) ∧ Below w2.heap.size w2 w') := by
      refine HO2.mono ?_
      rintro e w' ⟨h1, ⟨-, h2⟩ | ⟨h2, -⟩⟩
      · exact ⟨h2, h1⟩
      · cases h2
    clear HO2
    simp only [if_true]
    go_enter_defers Tryz.func28, Tryz.ntmps28
    go_wp2_with fail
    refine HO3.out.mono ?_
    rintro e W1 ⟨rfl, hb1⟩
    clear HO3 hw2
    obtain ⟨hcE, hfE⟩ := cells_block (keepblk3 hb1 HA.out.1)
    go_wp2_with fail
    obtain ⟨X, hX⟩ : ∃ X, W1.setCell ⟨w.heap.size, 0, none⟩ (.int .i64 0) = X := ⟨_, rfl⟩
    have hXE : X.heap[w.heap.size]? = some (.cells #[.int .i64 0] 27 (0, 0)) := by
      rw [← hX]
      exact set_oneE _ (keepblk3 hb1 HA.out.1)
    have HXX : Hid (Below w.heap.size w X) := by
      unfold Hid
      rw [← hX]
      exact (bel0 HA.out.2 hb1).setCell (Nat.le_refl _) _
    rw [hX]
    clear hcE hfE hX
    refine leaves_cons (f := 48) (args := #[.pointer (some ⟨w.heap.size, 0, none⟩)]) (by simp) (by simp [go_sem]) ?_
    refine (idleS w.heap.size _).mono ?_
    rintro e u' w'' ⟨rfl, rfl, rfl⟩
    have cE := (cells_block hXE).1
    simp [Leaves, settle, results, Tryz.results28, go_sem, cE]
    exact HXX.out
  | false =>
    have HO3 : Hid (Calls Tryz.prog 29 #[.pointer (some ⟨c1, 0, none⟩), .pointer (some ⟨c2, 0, none⟩)] w2 fun e w' => e = .panicked [{ v := .iface 99 (.agg #[]), recovered := false }] ∧ Below w2.heap.size w2 w') := by
      refine HO2.mono ?_
      rintro e w' ⟨h1, ⟨h2, -⟩ | ⟨-, rfl⟩⟩
      · cases h2
      · exact ⟨rfl, h1⟩
    clear HO2
    simp only [Bool.false_eq_true, if_false]
    go_enter_defers Tryz.func28, Tryz.ntmps28
    go_wp2_with fail
    refine HO3.out.mono ?_
    rintro e W1 ⟨rfl, hb1⟩
    clear HO3 hw2
    have hEE := keepblk3 hb1 HA.out.1
    obtain ⟨hcE, hfE⟩ := cells_block hEE
    refine leaves_cons (f := 48) (args := #[.pointer (some ⟨w.heap.size, 0, none⟩)]) (by simp) (by simp [go_sem]) ?_
    refine (caughtS w.heap.size 0 [] W1 (hcE 0) (hfE 0)).mono ?_
    rintro e u' w'' ⟨rfl, rfl, rfl⟩
    have hX0 : (W1.setCell ⟨w.heap.size, 0, none⟩ (.int .i64 3)).heap[w.heap.size]? = some (.cells #[.int .i64 3] 27 (0, 0)) := set_oneE _ hEE
    have cE := (cells_block hX0).1
    have HXX : Hid (Below w.heap.size w (W1.setCell ⟨w.heap.size, 0, none⟩ (.int .i64 3))) := (bel0 HA.out.2 hb1).setCell (Nat.le_refl _) _
    clear hcE hfE
    simp [Leaves, settle, results, Tryz.results28, go_sem, cE]
    exact HXX.out
/-- what Expand's list has of a space of one width -/
theorem exE_wide {nb lim : Nat} : ∀ (Ts : List (List UInt8 × List (List UInt8))) (out R : List (List UInt8)), gdS Ts → (∀ t ∈ Ts, t.1.length = nb) → (∀ x ∈ out, x.length = nb) → exE splT lim out Ts = some R → ∀ x ∈ R, x.length = nb
  | [], out, R, _, _, g, e => by
    injection e with e
    subst e
    exact g
  | t :: r, out, R, gt, hw, g, e => by
    unfold exE at e
    split at e
    · obtain ⟨t1, t3⟩ := gt t List.mem_cons_self
      refine exE_wide r _ R (fun x hx => gt x (List.mem_cons_of_mem _ hx)) (fun x hx => hw x (List.mem_cons_of_mem _ hx)) (fun x hx => ?_) e
      rcases List.mem_append.1 hx with hx | hx
      · exact g x hx
      · exact ((gdW_exT t.2 [t.1] (fun y hy => by rw [List.mem_singleton] at hy; subst hy; exact ⟨t1, rfl⟩) t3 x hx).2).trans (hw t List.mem_cons_self)
    · cases e
theorem xpL_wide {nb : Nat} {b lim : Int} {Ts : List (List UInt8 × List (List UInt8))} (h : gdS Ts) (hw : ∀ t ∈ Ts, t.1.length = nb) : ∀ x ∈ xpL b lim Ts, x.length = nb := by
  unfold xpL
  split
  · exact fun x hx => by cases hx
  · split
    · exact fun x hx => by cases hx
    · cases hx : exE splT lim.toNat [] Ts with
      | none => exact fun x hx => by cases hx
      | some R => exact exE_wide Ts [] R h hw (fun x hx => by cases hx) hx
theorem xpL_none {b lim : Int} {Ts : List (List UInt8 × List (List UInt8))} (h : ¬ xpE b lim Ts = 0) : xpL b lim Ts = [] := by
  unfold xpE at h
  unfold xpL
  split
  · rfl
  · rename_i h1
    rw [if_neg h1] at h
    split
    · rfl
    · rename_i h2
      rw [if_neg h2] at h
      split at h
      · rename_i h3
        rw [h3]
        rfl
      · exact absurd rfl h
set_option maxRecDepth 100000 in
set_option maxHeartbeats 4000000 in
theorem sLeast_any (nb : Nat) (b lim : Int) (Ts : List (List UInt8 × List (List UInt8))) (B : Nat) (V : Value) (w : World) (h : SPL w B V Ts) (hs : szC Ts ≤ 128) (hg : gdS Ts) (hw : ∀ t ∈ Ts, t.1.length = nb) (hbn : ¬ b = 0 → b = (nb : Int) ∧ 1 ≤ nb ∧ nb ≤ 256) (hx0 : ∀ x ∈ xpL b lim Ts, x ≠ []) :
    Calls Tryz.prog 8 #[.agg #[.int .i64 b, V, .bool false], .int .i64 lim] w fun e w' => e = .returned (.tuple #[.string ⟨(mnL (xpL b lim Ts)).toArray⟩, .bool (!(((xpL b lim Ts).length : Int) == 0)), .int .i64 (xpE b lim Ts)]) ∧ Below w.heap.size w w' := by
  obtain ⟨Z, rfl, hrow, hzl⟩ := h
  obtain ⟨p, cp, rfl⟩ := shapeQ1 hrow
  have hq1 := szC_len (Z.map ZT.cont)
  rw [List.length_map] at hq1
  obtain ⟨n, hn⟩ : ∃ n, Z.length = n := ⟨_, rfl⟩
  rw [hn] at hrow hq1 ⊢
  have hzg : ∀ z ∈ Z, good z.c = true ∧ gdW z.c.length z.L ∧ z.L.length ≤ 128 := fun z hz => by
    have hm := List.mem_map_of_mem (f := ZT.cont) hz
    have h1 := szC_mem z.cont hm
    have e : z.cont.2 = z.L := rfl
    rw [e] at h1
    obtain ⟨g1, g2⟩ := hg z.cont hm
    exact ⟨g1, g2, by omega⟩
  have hzw : ∀ z ∈ Z, z.c.length = nb := fun z hz => hw z.cont (List.mem_map_of_mem (f := ZT.cont) hz)
  have ht := TRC_spl hrow hn hzl
  obtain ⟨w2, hw2⟩ : ∃ w2, (w.alloc (.cells #[.int .i64 b, .slice p n cp, .bool false] 26 (0, 0))).alloc (.cells #[.int .i64 lim] 3 (0, 0)) = w2 := ⟨_, rfl⟩
  have b1 : w2.heap[w.heap.size]? = some (.cells #[.int .i64 b, .slice p n cp, .bool false] 26 (0, 0)) := by rw [← hw2]; exact alw_0 _ _ _
  have b2 : w2.heap[w.heap.size + 1]? = some (.cells #[.int .i64 lim] 3 (0, 0)) := by rw [← hw2]; exact alw_1 _ _ _
  have hB2 : Below w.heap.size w w2 := by rw [← hw2]; exact belA (belA (Below.refl _ _) _) _
  have hc1 := (cells_block b1).1
  have hc2 : w2.cell? ⟨w.heap.size + 1, 0, none⟩ = some (.int .i64 lim) := (cells_block b2).1 0
  have hmf : ∀ (fn : Fn) (first cap : Array Value) (w : World), (Instr.makeFunc fn first cap).run Tryz.prog w = .ok (.func fn first cap) w := fun _ _ _ _ => rfl
  have HRF := refusal_any b lim p n cp w2
  obtain ⟨E, hE⟩ : ∃ E, rfE b lim = E := ⟨_, rfl⟩
  rw [hE] at HRF
  have HB : Hid (Below w.heap.size w w2) := hB2
  by_cases hE0 : E = 0
  · have hb0 : ¬ b = 0 := fun h => by unfold rfE at hE; rw [if_pos h] at hE; omega
    have hl0 : ¬ (lim < 0 ∨ 2048 < lim) := fun h => by unfold rfE at hE; rw [if_neg hb0, if_pos h] at hE; omega
    obtain ⟨M, rfl⟩ : ∃ M : Nat, lim = M := ⟨lim.toNat, by omega⟩
    have hM : M ≤ 2048 := by omega
    obtain ⟨hbe, hb1, hb2⟩ := hbn hb0
    obtain ⟨R, ok, hxp, HG⟩ : ∃ (R : List (List UInt8)) (ok : Bool), (XPD b (M : Int) (Z.map ZT.cont) (if ok = true then 0 else 3) (if ok = true then R else [])) ∧ ∀ W, Below w2.heap.size w2 W → Calls Tryz.prog 29 #[.pointer (some ⟨w.heap.size, 0, none⟩), .pointer (some ⟨w.heap.size + 1, 0, none⟩)] W fun e w' => Below W.heap.size W w' ∧ ((ok = true ∧ e = .returned (.string ⟨(mnL R).toArray⟩)) ∨ (ok = false ∧ e = .panicked [{ v := .iface 99 (.agg #[]), recovered := false }])) := by
      have H1 : ∀ W, Below w2.heap.size w2 W → _ := fun W hW => least1_any inForm_any nb Z n p cp w.heap.size (w.heap.size + 1) M W hb1 hb2 hn (by omega) hM (by rw [← hbe]; exact keepblk3 hW b1) (keepblk3 hW b2) (ht.ofW (bel0 hB2 hW) (fun k h => h.elim)) hzg hzw
      cases hx : exE splT M [] (Z.map ZT.cont) with
      | none =>
        refine ⟨[], false, xpd_n hb0 hM hx, fun W hW => (H1 W hW).mono ?_⟩
        rintro e w' ⟨h1, ⟨R, h2, -⟩ | ⟨-, h3⟩⟩
        · rw [show exE splT M [] (Z.map ctZ) = none from hx] at h2
          cases h2
        · exact ⟨h1, .inr ⟨rfl, h3⟩⟩
      | some R =>
        refine ⟨R, true, xpd_s hb0 hM hx, fun W hW => (H1 W hW).mono ?_⟩
        rintro e w' ⟨h1, ⟨R', h2, h3⟩ | ⟨h3, -⟩⟩
        · rw [show exE splT M [] (Z.map ctZ) = some R from hx] at h2
          injection h2 with h2
          subst h2
          exact ⟨h1, .inl ⟨rfl, h3⟩⟩
        · rw [show exE splT M [] (Z.map ctZ) = some R from hx] at h3
          cases h3
    rw [← hxp.2] at hx0
    rw [← hxp.1, ← hxp.2]
    have HGV : Hid (∀ W, Below w2.heap.size w2 W → Calls Tryz.prog 28 #[.func (.func 29) #[] #[.pointer (some ⟨w.heap.size, 0, none⟩), .pointer (some ⟨w.heap.size + 1, 0, none⟩)]] W fun e w' => e = .returned (.tuple #[.string ⟨(if ok = true then mnL R else []).toArray⟩, .int .i64 (if ok = true then 0 else 3)]) ∧ Below W.heap.size W w') := fun W hW => giveS (mnL R) ok _ _ W (fun X hX => HG X (bel0 hW hX))
    have hmm : (if ok = true then mnL R else []) = mnL (if ok = true then R else []) := by cases ok <;> rfl
    rw [hmm] at HGV
    obtain ⟨EE, hEE⟩ : ∃ E : Int, (if ok = true then 0 else 3) = E := ⟨_, rfl⟩
    obtain ⟨LL, hLL⟩ : ∃ E, (if ok = true then R else []) = E := ⟨_, rfl⟩
    rw [hEE, hLL] at HGV ⊢
    rw [hLL] at hx0
    obtain ⟨m, hm⟩ : ∃ m, mnL LL = m := ⟨_, rfl⟩
    obtain ⟨nl, hnl⟩ : ∃ m, LL.length = m := ⟨_, rfl⟩
    have hiff : m = [] ↔ nl = 0 := by
      rw [← hm, ← hnl]
      constructor
      · intro h
        cases hq : LL with
        | nil => rfl
        | cons y t =>
          exact absurd h (mnL_ne LL hx0 (by rw [hq]; simp))
      · intro h
        rw [List.eq_nil_of_length_eq_zero h]
        rfl
    rw [hm] at HGV ⊢
    rw [hnl]
    subst hE0
    clear hE hb0 hl0 HG hxp hEE hLL b1 b2 ht hzg hzw hrow hzl hg hs hw hB2 hn hq1 hx0 hmm hbn hbe hb1 hb2 hm hnl
    go_enter Tryz.func8, Tryz.ntmps8
    go_wp2_with fail
    refine HRF.mono ?_
    rintro e w3 ⟨rfl, hb3⟩
    clear HRF hc1 hc2 hw2
    have HB3 : Hid (Below w2.heap.size w2 w3) := hb3
    clear hb3
    go_wp2_with fail
    refine (HGV.out w3 HB3.out).mono ?_
    rintro e w4 ⟨rfl, hb4⟩
    have HZ : Hid (Below w.heap.size w w4) := bel0 HB.out (bel0 HB3.out hb4)
    clear hb4
    by_cases hme : m = []
    · have hn0 := hiff.1 hme
      subst hme
      subst hn0
      clear hiff
      go_wp2_with fail
      go_ret3
      exact ⟨rfl, HZ.out⟩
    · have hn0 : ¬ nl = 0 := fun h => hme (hiff.2 h)
      have hn1 : ((nl : Int) == 0) = false := by
        have : ¬ (nl : Int) = 0 := by omega
        simpa using this
      have hme1 : m.isEmpty = false := by cases m with
        | nil => exact absurd rfl hme
        | cons y t => rfl
      clear hiff
      go_wp2_with fail
      go_ret3
      exact ⟨by rw [hn1]; rfl, HZ.out⟩
  · have hxp : XPD b lim (Z.map ZT.cont) E [] := by
      unfold rfE at hE
      split at hE
      · rename_i h1
        subst h1
        rw [← hE]
        exact xpd_w _ _
      · rename_i h1
        split at hE
        · rename_i h2
          rw [← hE]
          exact xpd_a _ h1 h2
        · omega
    rw [← hxp.1, ← hxp.2]
    have e0 : (E != 0) = true := by rw [bne_iff_ne]; exact hE0
    clear hE hxp b1 b2 ht hzg hzw hrow hzl hg hs hw hB2 hn hq1 hE0 hx0 hbn
    go_enter Tryz.func8, Tryz.ntmps8
    go_wp2_with fail
    refine HRF.mono ?_
    rintro e w3 ⟨rfl, hb3⟩
    have HZ : Hid (Below w.heap.size w w3) := bel0 HB.out hb3
    clear HRF hc1 hc2 hw2 hb3
    go_wp2_with fail
    go_ret3
    exact ⟨rfl, HZ.out⟩
end Go.Proofs.YtcmajlianphoaaaGreatDoor

import Derived.Test.YtkcbkeimbpopcaaGreatDoorXBL
namespace Go.Proofs.YtkcbkeimbpopcaaGreatDoor
open Go.RowKit Go.Shelf
theorem res_read (tmps : Array Value) (W : World) (b b2 : Nat) (v0 v1 v2 u0 u1 x : Value) {m m2 : Nat × Nat} (hp : tmps.getD 4 undef = .pointer (some ⟨b, 0, none⟩)) (hp2 : tmps.getD 5 undef = .pointer (some ⟨b2, 0, none⟩)) (hx : tmps.getD 6 undef = x) (h : W.heap[b]? = some (.cells #[v0, v1, v2] 24 m)) (h2 : W.heap[b2]? = some (.cells #[u0, u1] 27 m2)) :
    (results Tryz.f9 tmps).run Tryz.prog W = .ok (.tuple #[.agg #[v0, v1, v2], .agg #[u0, u1], x]) W := by
  have hc : ∀ j, W.cell? ⟨b, j, none⟩ = (#[v0, v1, v2] : Array Value)[j]? := by
    intro j; unfold World.cell?; rw [h]; simp
  have hc2 : ∀ j, W.cell? ⟨b2, j, none⟩ = (#[u0, u1] : Array Value)[j]? := by
    intro j; unfold World.cell?; rw [h2]; simp
  have hp' : tmps[4]?.getD undef = .pointer (some ⟨b, 0, none⟩) := by simpa using hp
  have hp2' : tmps[5]?.getD undef = .pointer (some ⟨b2, 0, none⟩) := by simpa using hp2
  have hx' : tmps[6]?.getD undef = x := by simpa using hx
  simp [results, hp', hp2', hx', go_sem, hc, hc2]
def RDS (w w' : World) (b : Int) (l : List UInt8) (e : Ending) : Prop := ∃ V V2, e = .returned (.tuple #[.agg #[.int .i64 (prB b l), V, .bool false], .agg #[.int .i64 (prB b l), V2], .bool true]) ∧ SPL w' w.heap.size V (prT b l) ∧ RSR w' V2 (prT b l) ∧ Below w.heap.size w w'
theorem put5_get {W : World} {a c : Nat} {x0 x1 x2 y0 y1 : Value} {T U : TypeId} {m m2 : Nat × Nat} (v0 v1 v2 u0 u1 : Value) (hne : a ≠ c) (h : W.heap[a]? = some (.cells #[x0, x1, x2] T m)) (h2 : W.heap[c]? = some (.cells #[y0, y1] U m2)) :
    (((((W.setCell ⟨a, 0, none⟩ v0).setCell ⟨a, 1, none⟩ v1).setCell ⟨a, 2, none⟩ v2).setCell ⟨c, 0, none⟩ u0).setCell ⟨c, 1, none⟩ u1).heap[a]? = some (.cells #[v0, v1, v2] T m) ∧ (((((W.setCell ⟨a, 0, none⟩ v0).setCell ⟨a, 1, none⟩ v1).setCell ⟨a, 2, none⟩ v2).setCell ⟨c, 0, none⟩ u0).setCell ⟨c, 1, none⟩ u1).heap[c]? = some (.cells #[u0, u1] U m2) := by
  constructor
  · rw [heap_setCell_other _ _ _ _ (fun e => hne e), heap_setCell_other _ _ _ _ (fun e => hne e)]
    have h0 := set_get (j := 0) v0 h
    have h1 := set_get (j := 1) v1 h0
    have h2 := set_get (j := 2) v2 h1
    rw [h2]
    simp
  · have k : (((W.setCell ⟨a, 0, none⟩ v0).setCell ⟨a, 1, none⟩ v1).setCell ⟨a, 2, none⟩ v2).heap[c]? = some (.cells #[y0, y1] U m2) := by
      rw [heap_setCell_other _ _ _ _ (fun e => hne e.symm), heap_setCell_other _ _ _ _ (fun e => hne e.symm), heap_setCell_other _ _ _ _ (fun e => hne e.symm)]
      exact h2
    have h0 := set_get (j := 0) u0 k
    have h1 := set_get (j := 1) u1 h0
    rw [h1]
    simp
theorem gr3 (X : World) (b : Nat) (u0 u1 u2 : Value) : X.grownBy (((X.setCell ⟨b, 0, none⟩ u0).setCell ⟨b, 1, none⟩ u1).setCell ⟨b, 2, none⟩ u2) (some b) := ⟨rfl, rfl, rfl, by simp, fun j _ hj => by
  rw [heap_setCell_other _ _ _ _ (fun e => hj (by rw [e])), heap_setCell_other _ _ _ _ (fun e => hj (by rw [e])), heap_setCell_other _ _ _ _ (fun e => hj (by rw [e]))]⟩
theorem gr2 (X : World) (b : Nat) (u0 u1 : Value) : X.grownBy ((X.setCell ⟨b, 0, none⟩ u0).setCell ⟨b, 1, none⟩ u1) (some b) := ⟨rfl, rfl, rfl, by simp, fun j _ hj => by
  rw [heap_setCell_other _ _ _ _ (fun e => hj (by rw [e])), heap_setCell_other _ _ _ _ (fun e => hj (by rw [e]))]⟩
theorem far3h {W : World} {a b : Nat} (v0 v1 v2 : Value) (hne : a ≠ b) : (((W.setCell ⟨b, 0, none⟩ v0).setCell ⟨b, 1, none⟩ v1).setCell ⟨b, 2, none⟩ v2).heap[a]? = W.heap[a]? := by
  rw [heap_setCell_other _ _ _ _ (fun e => hne e), heap_setCell_other _ _ _ _ (fun e => hne e), heap_setCell_other _ _ _ _ (fun e => hne e)]
theorem far3c {W : World} {a b : Nat} {cs : Array Value} (v0 v1 v2 : Value) (hne : a ≠ b) (h : ∀ j, W.cell? ⟨a, j, none⟩ = cs[j]?) : ∀ j, (((W.setCell ⟨b, 0, none⟩ v0).setCell ⟨b, 1, none⟩ v1).setCell ⟨b, 2, none⟩ v2).cell? ⟨a, j, none⟩ = cs[j]? := fun j => by
  rw [World.cell?_of_block (a := ⟨a, j, none⟩) (far3h v0 v1 v2 hne)]
  exact h j
theorem far2c {W : World} {a b : Nat} {cs : Array Value} (v0 v1 : Value) (hne : a ≠ b) (h : ∀ j, W.cell? ⟨a, j, none⟩ = cs[j]?) : ∀ j, ((W.setCell ⟨b, 0, none⟩ v0).setCell ⟨b, 1, none⟩ v1).cell? ⟨a, j, none⟩ = cs[j]? := fun j => by
  rw [World.cell?_of_block (a := ⟨a, j, none⟩) (show _ = W.heap[a]? by rw [heap_setCell_other _ _ _ _ (fun e => hne e), heap_setCell_other _ _ _ _ (fun e => hne e)])]
  exact h j
set_option maxRecDepth 100000 in
set_option maxHeartbeats 4000000 in
theorem read_any (b : Int) (l : List UInt8) (w : World) (hl : l.length ≤ maxLen) : Calls Tryz.prog 9 #[.int .i64 b, .string ⟨l.toArray⟩] w fun e w' => RDS w w' b l e := by
  have hok := prT_ok b l
  obtain ⟨B, hB⟩ : ∃ B, prB b l = B := ⟨_, rfl⟩
  obtain ⟨E, hE⟩ : ∃ E, prE b l = E := ⟨_, rfl⟩
  obtain ⟨X, hX⟩ : ∃ X, prT b l = X := ⟨_, rfl⟩
  rw [hX] at hok
  obtain ⟨w1, hw1⟩ : ∃ w1, (w.alloc (.cells #[.int .i64 0, .slice none 0 0, .bool false] 24 (0, 0))).alloc (.cells #[.int .i64 0, .slice none 0 0] 27 (0, 0)) = w1 := ⟨_, rfl⟩
  have a4 : w1.heap[w.heap.size]? = some (.cells #[.int .i64 0, .slice none 0 0, .bool false] 24 (0, 0)) := by rw [← hw1]; exact alw_0 _ _ _
  have a5 : w1.heap[w.heap.size + 1]? = some (.cells #[.int .i64 0, .slice none 0 0] 27 (0, 0)) := by rw [← hw1]; exact alw_1 _ _ _
  have hB1 : Below w.heap.size w w1 := by rw [← hw1]; exact belA (belA (Below.refl _ _) _) _
  have HP : Hid (Calls Tryz.prog 13 #[.int .i64 b, .string ⟨l.toArray⟩] w1 fun e w' => ∃ V, e = .returned (.tuple #[.agg #[.int .i64 B, V, .bool false], .int .i64 E]) ∧ SPL w' w1.heap.size V X ∧ Below w1.heap.size w1 w') := by
    unfold Hid
    rw [← hB, ← hE, ← hX]
    exact sParse_any b l w1 hl
  have HD : Hid (∀ W, Calls Tryz.prog 30 #[.int .i64 b, .string ⟨l.toArray⟩] W fun e w' => ∃ V, e = .returned (.tuple #[.agg #[.int .i64 B, V], .int .i64 E]) ∧ RSR w' V X ∧ Below W.heap.size W w') := fun W => by
    rw [← hB, ← hE, ← hX]
    exact dParse_any b l W hl
  have HSa : Hid (∀ V V2 W, SPL W w1.heap.size V X → RSR W V2 X → Calls Tryz.prog 21 #[.agg #[.int .i64 B, V, .bool false], .int .i64 E, .agg #[.int .i64 B, V2], .int .i64 E] W fun r w' => r = .returned (.bool true) ∧ Below W.heap.size W w') := fun V V2 W h h2 => same_any B E V V2 X w1.heap.size W h h2 hok.2 hok.1
  unfold RDS
  rw [hB, hX]
  have H45 : Hid (w1.heap[w.heap.size]? = some (.cells #[.int .i64 0, .slice none 0 0, .bool false] 24 (0, 0)) ∧ w1.heap[w.heap.size + 1]? = some (.cells #[.int .i64 0, .slice none 0 0] 27 (0, 0)) ∧ Below w.heap.size w w1) := ⟨a4, a5, hB1⟩
  clear hB hE hX hok a4 a5 hB1
  obtain ⟨n, hn⟩ : ∃ n, X.length = n := ⟨_, rfl⟩
  go_enter Tryz.func9, Tryz.ntmps9
  go_wp2_with fail
  refine HP.out.mono ?_
  rintro e w2 ⟨V, rfl, sv, hb2⟩
  obtain ⟨p, c, rfl⟩ := sv.shape
  rw [hn] at sv ⊢
  have HW2 : Hid (SPL w2 w1.heap.size (.slice p n c) X ∧ Below w1.heap.size w1 w2) := ⟨sv, hb2⟩
  clear hw1 sv hb2 HP
  go_wp2_with fail
  refine (HD.out _).mono ?_
  rintro e w4 ⟨V2, rfl, rv, hb4⟩
  obtain ⟨p2, c2, rfl⟩ := rv.shape
  rw [hn] at rv ⊢
  have HW4 : Hid (RSR w4 (.slice p2 n c2) X ∧ Below (w2.alloc (.cells #[.int .i64 B, .slice p n c, .bool false] 24 (0, 0))).heap.size (w2.alloc (.cells #[.int .i64 B, .slice p n c, .bool false] 24 (0, 0))) w4) := ⟨rv, hb4⟩
  clear rv hb4 HD
  go_upto_region 3 with fail
  have HF : Hid (w1.heap.size ≤ w2.heap.size ∧ w2.heap.size < w4.heap.size ∧ w.heap.size + 1 < w1.heap.size ∧ ∀ W, Below (w4.alloc (.cells #[.int .i64 B, .slice p2 n c2] 27 (0, 0))).heap.size (w4.alloc (.cells #[.int .i64 B, .slice p2 n c2] 27 (0, 0))) W → ((∀ j, W.cell? ⟨w2.heap.size, j, none⟩ = (#[.int .i64 B, .slice p n c, .bool false] : Array Value)[j]?) ∧ (∀ j, W.cell? ⟨w4.heap.size, j, none⟩ = (#[.int .i64 B, .slice p2 n c2] : Array Value)[j]?)) ∧ W.heap[w.heap.size]? = some (.cells #[.int .i64 0, .slice none 0 0, .bool false] 24 (0, 0)) ∧ W.heap[w.heap.size + 1]? = some (.cells #[.int .i64 0, .slice none 0 0] 27 (0, 0)) ∧ SPL W w1.heap.size (.slice p n c) X ∧ RSR W (.slice p2 n c2) X ∧ Below w.heap.size w W) := by
    have h1 := HW2.out.2
    have h2 : Below w2.heap.size w2 (w2.alloc (.cells #[.int .i64 B, .slice p n c, .bool false] 24 (0, 0))) := belA (Below.refl _ _) _
    have h3 := HW4.out.2
    have h4 : Below w4.heap.size w4 (w4.alloc (.cells #[.int .i64 B, .slice p2 n c2] 27 (0, 0))) := belA (Below.refl _ _) _
    have k2 : Below w2.heap.size w2 w4 := bel0 h2 h3
    have e1 := h1.size
    have e2 := h3.size
    have e3 : w.heap.size + 1 < w1.heap.size := lt_of_get3 H45.out.2.1
    refine ⟨e1, by simp at e2; omega, e3, fun W hW => ⟨⟨(cells_block (keepblk3 (bel0 (bel0 h3 h4) hW) (alloc_get _ _))).1, (cells_block (keepblk3 hW (alloc_get _ _))).1⟩, ?_⟩⟩
    have k4 : Below w4.heap.size w4 W := bel0 h4 hW
    have k1 : Below w1.heap.size w1 W := bel0 (bel0 h1 k2) k4
    exact ⟨keepblk3 k1 H45.out.1, keepblk3 k1 H45.out.2.1, HW2.out.1.below (bel0 k2 k4), HW4.out.1.later k4, bel0 H45.out.2.2 k1⟩
  obtain ⟨f1, f2, f3, HG⟩ := HF.out
  have HG2 : Hid (∀ W, Below (w4.alloc (.cells #[.int .i64 B, .slice p2 n c2] 27 (0, 0))).heap.size (w4.alloc (.cells #[.int .i64 B, .slice p2 n c2] 27 (0, 0))) W → ((∀ j, W.cell? ⟨w2.heap.size, j, none⟩ = (#[.int .i64 B, .slice p n c, .bool false] : Array Value)[j]?) ∧ (∀ j, W.cell? ⟨w4.heap.size, j, none⟩ = (#[.int .i64 B, .slice p2 n c2] : Array Value)[j]?)) ∧ W.heap[w.heap.size]? = some (.cells #[.int .i64 0, .slice none 0 0, .bool false] 24 (0, 0)) ∧ W.heap[w.heap.size + 1]? = some (.cells #[.int .i64 0, .slice none 0 0] 27 (0, 0)) ∧ SPL W w1.heap.size (.slice p n c) X ∧ RSR W (.slice p2 n c2) X ∧ Below w.heap.size w W) := HG
  have hk0 := (HG _ (Below.refl _ _)).1
  obtain ⟨w5, hw5⟩ : ∃ w5, (w4.alloc (.cells #[.int .i64 B, .slice p2 n c2] 27 (0, 0))) = w5 := ⟨_, rfl⟩
  rw [hw5] at hk0 HG2 ⊢
  have hk0d : (∀ j, w5.drew.cell? ⟨w2.heap.size, j, none⟩ = (#[.int .i64 B, .slice p n c, .bool false] : Array Value)[j]?) ∧ (∀ j, w5.drew.cell? ⟨w4.heap.size, j, none⟩ = (#[.int .i64 B, .slice p2 n c2] : Array Value)[j]?) := hk0
  have HN1 : Hid (w2.heap.size ≠ w.heap.size ∧ w4.heap.size ≠ w.heap.size ∧ w2.heap.size ≠ w.heap.size + 1 ∧ w4.heap.size ≠ w.heap.size + 1) := ⟨by omega, by omega, by omega, by omega⟩
  have HLT : Hid (w.heap.size + 1 < w1.heap.size) := f3
  clear HF HG f1 f2 f3 HW2 HW4 H45 hw5
  go_region_held3 (fun W => (∀ j, W.cell? ⟨w2.heap.size, j, none⟩ = (#[.int .i64 B, .slice p n c, .bool false] : Array Value)[j]?) ∧ (∀ j, W.cell? ⟨w4.heap.size, j, none⟩ = (#[.int .i64 B, .slice p2 n c2] : Array Value)[j]?)) (first | with_reducible exact hk0 | with_reducible exact hk0d | with_reducible exact hk6 | with_reducible exact hk7 | with_reducible exact hk8) (first | (go_at_call 21; refine (HSa.out _ _ _ (HG2.out _ (by first | exact Below.refl _ _ | exact (Below.refl _ _).drew)).2.2.2.1 (HG2.out _ (by first | exact Below.refl _ _ | exact (Below.refl _ _).drew)).2.2.2.2.1).mono ?_; rintro e w6 ⟨rfl, hb6⟩; have hb6' : Below w5.heap.size w5 w6 := (by first | exact hb6 | exact und hb6); obtain ⟨hk6, h4, h5, -⟩ := HG2.out w6 hb6'; have hk7 : (∀ j, (((w6.setCell ⟨w.heap.size, 0, none⟩ (.int .i64 B)).setCell ⟨w.heap.size, 1, none⟩ (.slice p n c)).setCell ⟨w.heap.size, 2, none⟩ (.bool false)).cell? ⟨w2.heap.size, j, none⟩ = (#[.int .i64 B, .slice p n c, .bool false] : Array Value)[j]?) ∧ (∀ j, (((w6.setCell ⟨w.heap.size, 0, none⟩ (.int .i64 B)).setCell ⟨w.heap.size, 1, none⟩ (.slice p n c)).setCell ⟨w.heap.size, 2, none⟩ (.bool false)).cell? ⟨w4.heap.size, j, none⟩ = (#[.int .i64 B, .slice p2 n c2] : Array Value)[j]?) := ⟨far3c _ _ _ HN1.out.1 hk6.1, far3c _ _ _ HN1.out.2.1 hk6.2⟩; have hk8 : (∀ j, (((((w6.setCell ⟨w.heap.size, 0, none⟩ (.int .i64 B)).setCell ⟨w.heap.size, 1, none⟩ (.slice p n c)).setCell ⟨w.heap.size, 2, none⟩ (.bool false)).setCell ⟨w.heap.size + 1, 0, none⟩ (.int .i64 B)).setCell ⟨w.heap.size + 1, 1, none⟩ (.slice p2 n c2)).cell? ⟨w2.heap.size, j, none⟩ = (#[.int .i64 B, .slice p n c, .bool false] : Array Value)[j]?) ∧ (∀ j, (((((w6.setCell ⟨w.heap.size, 0, none⟩ (.int .i64 B)).setCell ⟨w.heap.size, 1, none⟩ (.slice p n c)).setCell ⟨w.heap.size, 2, none⟩ (.bool false)).setCell ⟨w.heap.size + 1, 0, none⟩ (.int .i64 B)).setCell ⟨w.heap.size + 1, 1, none⟩ (.slice p2 n c2)).cell? ⟨w4.heap.size, j, none⟩ = (#[.int .i64 B, .slice p2 n c2] : Array Value)[j]?) := ⟨far2c _ _ HN1.out.2.2.1 hk7.1, far2c _ _ HN1.out.2.2.2 hk7.2⟩; obtain ⟨hc4, hf4⟩ := cells_block h4; have h5' : (((w6.setCell ⟨w.heap.size, 0, none⟩ (.int .i64 B)).setCell ⟨w.heap.size, 1, none⟩ (.slice p n c)).setCell ⟨w.heap.size, 2, none⟩ (.bool false)).heap[w.heap.size + 1]? = some (.cells #[.int .i64 0, .slice none 0 0] 27 (0, 0)) := (far3h _ _ _ (by omega)).trans h5; obtain ⟨hc5, hf5⟩ := cells_block h5'))
  obtain ⟨-, h4', h5q, sv6, rv6, hB6⟩ := HG2.out w6 hb6'
  clear hk0 hk0d hk6 hk7 hk8 hc4 hf4 hc5 hf5
  go_wp2_with fail
  refine bodyPost_ret (res_read _ _ w.heap.size (w.heap.size + 1) _ _ _ _ _ _ rfl rfl rfl (put5_get _ _ _ _ _ (by omega) h4 h5).1 (put5_get _ _ _ _ _ (by omega) h4 h5).2) rfl ?_
  refine ⟨_, _, rfl, ((sv6.kept (gr3 _ _ _ _ _) (by have := HLT.out; omega)).kept (gr2 _ _ _ _) HLT.out).base (by have := HLT.out; omega), (rv6.kept (gr3 _ _ _ _ _) (no_str3 h4)).kept (gr2 _ _ _ _) (no_str2 h5'), ?_⟩
  exact ((((hB6.setCell (Nat.le_refl _) _).setCell (Nat.le_refl _) _).setCell (Nat.le_refl _) _).setCell (Nat.le_succ _) _).setCell (Nat.le_succ _) _
end Go.Proofs.YtkcbkeimbpopcaaGreatDoor

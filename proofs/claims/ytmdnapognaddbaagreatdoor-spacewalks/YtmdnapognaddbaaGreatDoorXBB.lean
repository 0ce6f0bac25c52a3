import Derived.Test.YtmdnapognaddbaaGreatDoorXBA
import Derived.Test.YtmdnapognaddbaaGreatDoorXAA
import Derived.Test.YtmdnapognaddbaaGreatDoorXAM
import Derived.Deep.RegionHeld3
import Derived.Deep.AppendLies
namespace Go.Proofs.YtmdnapognaddbaaGreatDoor
open Go.RowKit Go.Shelf
theorem res_read (tmps : Array Value) (W : World) (b b2 : Nat) (v0 v1 v2 u0 u1 x : Value) {m m2 : Nat × Nat} (hp : tmps.getD 4 undef = .pointer (some ⟨b, 0, none⟩)) (hp2 : tmps.getD 5 undef = .pointer (some ⟨b2, 0, none⟩)) (hx : tmps.getD 6 undef = x) (h : W.heap[b]? = some (.cells #[v0, v1, v2] 24 m)) (h2 : W.heap[b2]? = some (.cells #[u0, u1] 27 m2)) :
    (results Tryz.f5 tmps).run Tryz.prog W = .ok (.tuple #[.agg #[v0, v1, v2], .agg #[u0, u1], x]) W := by
  have hc : ∀ j, W.cell? ⟨b, j, none⟩ = (#[v0, v1, v2] : Array Value)[j]? := by
    intro j; unfold World.cell?; rw [h]; simp
  have hc2 : ∀ j, W.cell? ⟨b2, j, none⟩ = (#[u0, u1] : Array Value)[j]? := by
    intro j; unfold World.cell?; rw [h2]; simp
  have hp' : tmps[4]?.getD undef = .pointer (some ⟨b, 0, none⟩) := by simpa using hp
  have hp2' : tmps[5]?.getD undef = .pointer (some ⟨b2, 0, none⟩) := by simpa using hp2
  have hx' : tmps[6]?.getD undef = x := by simpa using hx
  simp [results, hp', hp2', hx', go_sem, hc, hc2]
def RDS (w w' : World) (b : Int) (l : List UInt8) (e : Ending) : Prop := ∃ V V2, e = .returned (.tuple #[.agg #[.int .i64 (prB b l), V, .bool false], .agg #[.int .i64 (prB b l), V2], .bool true]) ∧ SPL w' w.heap.size V (prT b l) ∧ RSR w' V2 (prT b l) ∧ Below w.heap.size w w'
theorem put5_get {W : World} {a c : Nat} {x0 x1 x2 y0 y1 : Value} {T U : TypeId} {m m2 : Nat × Nat} (v0 v1 v2 u0 u1 : Value) (hne : a ≠ c) (h : W.heap[a]? = some (.cells #[x0, x1, x2] T m)) (h2 : W.heap[c]? = some (.cells #[y0, y1] U m2)) :
    (((((W.setCell ⟨a, 0, none⟩ v0).setCell ⟨a, 1, none⟩ v1).setCell ⟨a, 2, none⟩ v2).setCell ⟨c, 0, none⟩ u0).setCell ⟨c, 1, none⟩ u1).heap[a]? = some (.cells #[v0, v1, v2] T m) ∧ (((((W.setCell ⟨a, 0, none⟩ v0).setCell ⟨a, 1, none⟩ v1).setCell ⟨a, 2, none⟩ v2).setCell ⟨c, 0, none⟩ u0).setCell ⟨c, 1, none⟩ u1).heap[c]? = some (.cells #[u0, u1] U m2) := by
  constructor
  · rw [heap_setCell_other _ _ _ _ (fun e => hne e), heap_setCell_other _ _ _ _ (fun e => hne e)]
    have h0 := set_get (j := 0) v0 h
    have h1 := set_get (j := 1) v1 h0
    have h2 := set_get (j := 2) v2 h1
    rw [h2]
    simp
  · have k : (((W.setCell ⟨a, 0, none⟩ v0).setCell ⟨a, 1, none⟩ v1).setCell ⟨a, 2, none⟩ v2).heap[c]? = some (.cells #[y0, y1] U m2) := by
      rw [heap_setCell_other _ _ _ _ (fun e => hne e.symm), heap_setCell_other _ _ _ _ (fun e => hne e.symm), heap_setCell_other _ _ _ _ (fun e => hne e.symm)]
      exact h2
    have h0 := set_get (j := 0) u0 k
    have h1 := set_get (j := 1) u1 h0
    rw [h1]
    simp
theorem gr3 (X : World) (b : Nat) (u0 u1 u2 : Value) : X.grownBy (((X.setCell ⟨b, 0, none⟩ u0).setCell ⟨b, 1, none⟩ u1).setCell ⟨b, 2, none⟩ u2) (some b) := ⟨rfl, rfl, rfl, by simp, fun j _ hj => by
  rw [heap_setCell_other _ _ _ _ (fun e => hj (by rw [e])), heap_setCell_other _ _ _ _ (fun e => hj (by rw [e])), heap_setCell_other _ _ _ _ (fun e => hj (by rw [e]))]⟩
theorem gr2 (X : World) (b : Nat) (u0 u1 : Value) : X.grownBy ((X.setCell ⟨b, 0, none⟩ u0).setCell ⟨b, 1, none⟩ u1) (some b) := ⟨rfl, rfl, rfl, by simp, fun j _ hj => by
  rw [heap_setCell_other _ _ _ _ (fun e => hj (by rw [e])), heap_setCell_other _ _ _ _ (fun e => hj (by rw [e]))]⟩
theorem far3h {W : World} {a b : Nat} (v0 v1 v2 : Value) (hne : a ≠ b) : (((W.setCell ⟨b, 0, none⟩ v0).setCell ⟨b, 1, none⟩ v1).setCell ⟨b, 2, none⟩ v2).heap[a]? = W.heap[a]? := by
  rw [heap_setCell_other _ _ _ _ (fun e => hne e), heap_setCell_other _ _ _ _ (fun e => hne e), heap_setCell_other _ _ _ _ (fun e => hne e)]
theorem far3c {W : World} {a b : Nat} {cs : Array Value} (v0 v1 v2 : Value) (hne : a ≠ b) (h : ∀ j, W.cell? ⟨a, j, none⟩ = cs[j]?) : ∀ j, (((W.setCell ⟨b, 0, none⟩ v0).setCell ⟨b, 1, none⟩ v1).setCell ⟨b, 2, none⟩ v2).cell? ⟨a, j, none⟩ = cs[j]? := fun j => by
  rw [World.cell?_of_block (a := ⟨a, j, none⟩) (far3h v0 v1 v2 hne)]
  exact h j
theorem far2c {W : World} {a b : Nat} {cs : Array Value} (v0 v1 : Value) (hne : a ≠ b) (h : ∀ j, W.cell? ⟨a, j, none⟩ = cs[j]?) : ∀ j, ((W.setCell ⟨b, 0, none⟩ v0).setCell ⟨b, 1, none⟩ v1).cell? ⟨a, j, none⟩ = cs[j]? := fun j => by
  rw [World.cell?_of_block (a := ⟨a, j, none⟩) (show _ = W.heap[a]? by rw [heap_setCell_other _ _ _ _ (fun e => hne e), heap_setCell_other _ _ _ _ (fun e => hne e)])]
  exact h j
set_option maxRecDepth 100000 in
set_option maxHeartbeats 4000000 in
theorem read_any (b : Int) (l : List UInt8) (w : World) (hl : l.length ≤ maxLen) : Calls Tryz.prog 5 #[.int .i64 b, .string ⟨l.toArray⟩] w fun e w' => RDS w w' b l e := by
  have hok := prT_ok b l
  obtain ⟨B, hB⟩ : ∃ B, prB b l = B := ⟨_, rfl⟩
  obtain ⟨E, hE⟩ : ∃ E, prE b l = E := ⟨_, rfl⟩
  obtain ⟨X, hX⟩ : ∃ X, prT b l = X := ⟨_, rfl⟩
  rw [hX] at hok
  obtain ⟨w1, hw1⟩ : ∃ w1, (w.alloc (.cells #[.int .i64 0, .slice none 0 0, .bool false] 24 (0, 0))).alloc (.cells #[.int .i64 0, .slice none 0 0] 27 (0, 0)) = w1 := ⟨_, rfl⟩
  have a4 : w1.heap[w.heap.size]? = some (.cells #[.int .i64 0, .slice none 0 0, .bool false] 24 (0, 0)) := by rw [← hw1]; exact alw_0 _ _ _
  have a5 : w1.heap[w.heap.size + 1]? = some (.cells #[.int .i64 0, .slice none 0 0] 27 (0, 0)) := by rw [← hw1]; exact alw_1 _ _ _
  have hB1 : Below w.heap.size w w1 := by rw [← hw1]; exact belA (belA (Below.refl _ _) _) _
  have HP : Hid (Calls Tryz.prog 10 #[.int .i64 b, .string ⟨l.toArray⟩] w1 fun e w' => ∃ V, e = .returned (.tuple #[.agg #[.int .i64 B, V, .bool false], .int .i64 E]) ∧ SPL w' w1.heap.size V X ∧ Below w1.heap.size w1 w') := by
    unfold Hid
    rw [← hB, ← hE, ← hX]
    exact sParse_any b l w1 hl
  have HD : Hid (∀ W, Calls Tryz.prog 21 #[.int .i64 b, .string ⟨l.toArray⟩] W fun e w' => ∃ V, e = .returned (.tuple #[.agg #[.int .i64 B, V], .int .i64 E]) ∧ RSR w' V X ∧ Below W.heap.size W w') := fun W => by
    rw [← hB, ← hE, ← hX]
    exact dParse_any b l W hl
  have HSa : Hid (∀ V V2 W, SPL W w1.heap.size V X → RSR W V2 X → Calls Tryz.prog 22 #[.agg #[.int .i64 B, V, .bool false], .int .i64 E, .agg #[.int .i64 B, V2], .int .i64 E] W fun r w' => r = .returned (.bool true) ∧ Below W.heap.size W w') := fun V V2 W h h2 => same_any B E V V2 X w1.heap.size W h h2 hok.2 hok.1
  unfold RDS
  rw [hB, hX]
  have H45 : Hid (w1.heap[w.heap.size]? = some (.cells #[.int .i64 0, .slice none 0 0, .bool false] 24 (0, 0)) ∧ w1.heap[w.heap.size + 1]? = some (.cells #[.int .i64 0, .slice none 0 0] 27 (0, 0)) ∧ Below w.heap.size w w1) := ⟨a4, a5, hB1⟩
  clear hB hE hX hok a4 a5 hB1
  obtain ⟨n, hn⟩ : ∃ n, X.length = n := ⟨_, rfl⟩
  go_enter Tryz.func5, Tryz.ntmps5
  go_wp2_with fail
  refine HP.out.mono ?_
  rintro e w2 ⟨V, rfl, sv, hb2⟩
  obtain ⟨p, c, rfl⟩ := sv.shape
  rw [hn] at sv ⊢
  have HW2 : Hid (SPL w2 w1.heap.size (.slice p n c) X ∧ Below w1.heap.size w1 w2) := ⟨sv, hb2⟩
  clear hw1 sv hb2 HP
  go_wp2_with fail
  refine (HD.out _).mono ?_
  rintro e w4 ⟨V2, rfl, rv, hb4⟩
  obtain ⟨p2, c2, rfl⟩ := rv.shape
  rw [hn] at rv ⊢
  have HW4 : Hid (RSR w4 (.slice p2 n c2) X ∧ Below (w2.alloc (.cells #[.int .i64 B, .slice p n c, .bool false] 24 (0, 0))).heap.size (w2.alloc (.cells #[.int .i64 B, .slice p n c, .bool false] 24 (0, 0))) w4) := ⟨rv, hb4⟩
  clear rv hb4 HD
  go_upto_region 3 with fail
  have HF : Hid (w1.heap.size ≤ w2.heap.size ∧ w2.heap.size < w4.heap.size ∧ w.heap.size + 1 < w1.heap.size ∧ ∀ W, Below (w4.alloc (.cells #[.int .i64 B, .slice p2 n c2] 27 (0, 0))).heap.size (w4.alloc (.cells #[.int .i64 B, .slice p2 n c2] 27 (0, 0))) W → ((∀ j, W.cell? ⟨w2.heap.size, j, none⟩ = (#[.int .i64 B, .slice p n c, .bool false] : Array Value)[j]?) ∧ (∀ j, W.cell? ⟨w4.heap.size, j, none⟩ = (#[.int .i64 B, .slice p2 n c2] : Array Value)[j]?)) ∧ W.heap[w.heap.size]? = some (.cells #[.int .i64 0, .slice none 0 0, .bool false] 24 (0, 0)) ∧ W.heap[w.heap.size + 1]? = some (.cells #[.int .i64 0, .slice none 0 0] 27 (0, 0)) ∧ SPL W w1.heap.size (.slice p n c) X ∧ RSR W (.slice p2 n c2) X ∧ Below w.heap.size w W) := by
    have h1 := HW2.out.2
    have h2 : Below w2.heap.size w2 (w2.alloc (.cells #[.int .i64 B, .slice p n c, .bool false] 24 (0, 0))) := belA (Below.refl _ _) _
    have h3 := HW4.out.2
    have h4 : Below w4.heap.size w4 (w4.alloc (.cells #[.int .i64 B, .slice p2 n c2] 27 (0, 0))) := belA (Below.refl _ _) _
    have k2 : Below w2.heap.size w2 w4 := bel0 h2 h3
    have e1 := h1.size
    have e2 := h3.size
    have e3 : w.heap.size + 1 < w1.heap.size := lt_of_get3 H45.out.2.1
    refine ⟨e1, by simp at e2; omega, e3, fun W hW => ⟨⟨(cells_block (keepblk3 (bel0 (bel0 h3 h4) hW) (alloc_get _ _))).1, (cells_block (keepblk3 hW (alloc_get _ _))).1⟩, ?_⟩⟩
    have k4 : Below w4.heap.size w4 W := bel0 h4 hW
    have k1 : Below w1.heap.size w1 W := bel0 (bel0 h1 k2) k4
    exact ⟨keepblk3 k1 H45.out.1, keepblk3 k1 H45.out.2.1, HW2.out.1.below (bel0 k2 k4), HW4.out.1.later k4, bel0 H45.out.2.2 k1⟩
  obtain ⟨f1, f2, f3, HG⟩ := HF.out
  have HG2 : Hid (∀ W, Below (w4.alloc (.cells #[.int .i64 B, .slice p2 n c2] 27 (0, 0))).heap.size (w4.alloc (.cells #[.int .i64 B, .slice p2 n c2] 27 (0, 0))) W → ((∀ j, W.cell? ⟨w2.heap.size, j, none⟩ = (#[.int .i64 B, .slice p n c, .bool false] : Array Value)[j]?) ∧ (∀ j, W.cell? ⟨w4.heap.size, j, none⟩ = (#[.int .i64 B, .slice p2 n c2] : Array Value)[j]?)) ∧ W.heap[w.heap.size]? = some (.cells #[.int .i64 0, .slice none 0 0, .bool false] 24 (0, 0)) ∧ W.heap[w.heap.size + 1]? = some (.cells #[.int .i64 0, .slice none 0 0] 27 (0, 0)) ∧ SPL W w1.heap.size (.slice p n c) X ∧ RSR W (.slice p2 n c2) X ∧ Below w.heap.size w W) := HG
  have hk0 := (HG _ (Below.refl _ _)).1
  obtain ⟨w5, hw5⟩ : ∃ w5, (w4.alloc (.cells #[.int .i64 B, .slice p2 n c2] 27 (0, 0))) = w5 := ⟨_, rfl⟩
  rw [hw5] at hk0 HG2 ⊢
  have hk0d : (∀ j, w5.drew.cell? ⟨w2.heap.size, j, none⟩ = (#[.int .i64 B, .slice p n c, .bool false] : Array Value)[j]?) ∧ (∀ j, w5.drew.cell? ⟨w4.heap.size, j, none⟩ = (#[.int .i64 B, .slice p2 n c2] : Array Value)[j]?) := hk0
  have HN1 : Hid (w2.heap.size ≠ w.heap.size ∧ w4.heap.size ≠ w.heap.size ∧ w2.heap.size ≠ w.heap.size + 1 ∧ w4.heap.size ≠ w.heap.size + 1) := ⟨by omega, by omega, by omega, by omega⟩
  have HLT : Hid (w.heap.size + 1 < w1.heap.size) := f3
  clear HF HG f1 f2 f3 HW2 HW4 H45 hw5
  go_region_held3 (fun W => (∀ j, W.cell? ⟨w2.heap.size, j, none⟩ = (#[.int .i64 B, .slice p n c, .bool false] : Array Value)[j]?) ∧ (∀ j, W.cell? ⟨w4.heap.size, j, none⟩ = (#[.int .i64 B, .slice p2 n c2] : Array Value)[j]?)) (first | with_reducible exact hk0 | with_reducible exact hk0d | with_reducible exact hk6 | with_reducible exact hk7 | with_reducible exact hk8) (first | (go_at_call 22; refine (HSa.out _ _ _ (HG2.out _ (by first | exact Below.refl _ _ | exact (Below.refl _ _).drew)).2.2.2.1 (HG2.out _ (by first | exact Below.refl _ _ | exact (Below.refl _ _).drew)).2.2.2.2.1).mono ?_; rintro e w6 ⟨rfl, hb6⟩; have hb6' : Below w5.heap.size w5 w6 := (by first | exact hb6 | exact und hb6); obtain ⟨hk6, h4, h5, -⟩ := HG2.out w6 hb6'; have hk7 : (∀ j, (((w6.setCell ⟨w.heap.size, 0, none⟩ (.int .i64 B)).setCell ⟨w.heap.size, 1, none⟩ (.slice p n c)).setCell ⟨w.heap.size, 2, none⟩ (.bool false)).cell? ⟨w2.heap.size, j, none⟩ = (#[.int .i64 B, .slice p n c, .bool false] : Array Value)[j]?) ∧ (∀ j, (((w6.setCell ⟨w.heap.size, 0, none⟩ (.int .i64 B)).setCell ⟨w.heap.size, 1, none⟩ (.slice p n c)).setCell ⟨w.heap.size, 2, none⟩ (.bool false)).cell? ⟨w4.heap.size, j, none⟩ = (#[.int .i64 B, .slice p2 n c2] : Array Value)[j]?) := ⟨far3c _ _ _ HN1.out.1 hk6.1, far3c _ _ _ HN1.out.2.1 hk6.2⟩; have hk8 : (∀ j, (((((w6.setCell ⟨w.heap.size, 0, none⟩ (.int .i64 B)).setCell ⟨w.heap.size, 1, none⟩ (.slice p n c)).setCell ⟨w.heap.size, 2, none⟩ (.bool false)).setCell ⟨w.heap.size + 1, 0, none⟩ (.int .i64 B)).setCell ⟨w.heap.size + 1, 1, none⟩ (.slice p2 n c2)).cell? ⟨w2.heap.size, j, none⟩ = (#[.int .i64 B, .slice p n c, .bool false] : Array Value)[j]?) ∧ (∀ j, (((((w6.setCell ⟨w.heap.size, 0, none⟩ (.int .i64 B)).setCell ⟨w.heap.size, 1, none⟩ (.slice p n c)).setCell ⟨w.heap.size, 2, none⟩ (.bool false)).setCell ⟨w.heap.size + 1, 0, none⟩ (.int .i64 B)).setCell ⟨w.heap.size + 1, 1, none⟩ (.slice p2 n c2)).cell? ⟨w4.heap.size, j, none⟩ = (#[.int .i64 B, .slice p2 n c2] : Array Value)[j]?) := ⟨far2c _ _ HN1.out.2.2.1 hk7.1, far2c _ _ HN1.out.2.2.2 hk7.2⟩; obtain ⟨hc4, hf4⟩ := cells_block h4; have h5' : (((w6.setCell ⟨w.heap.size, 0, none⟩ (.int .i64 B)).setCell ⟨w.heap.size, 1, none⟩ (.slice p n c)).setCell ⟨w.heap.size, 2, none⟩ (.bool false)).heap[w.heap.size + 1]? = some (.cells #[.int .i64 0, .slice none 0 0] 27 (0, 0)) := (far3h _ _ _ (by omega)).trans h5; obtain ⟨hc5, hf5⟩ := cells_block h5'))
  obtain ⟨-, h4', h5q, sv6, rv6, hB6⟩ := HG2.out w6 hb6'
  clear hk0 hk0d hk6 hk7 hk8 hc4 hf4 hc5 hf5
  go_wp2_with fail
  refine bodyPost_ret (res_read _ _ w.heap.size (w.heap.size + 1) _ _ _ _ _ _ rfl rfl rfl (put5_get _ _ _ _ _ (by omega) h4 h5).1 (put5_get _ _ _ _ _ (by omega) h4 h5).2) rfl ?_
  refine ⟨_, _, rfl, ((sv6.kept (gr3 _ _ _ _ _) (by have := HLT.out; omega)).kept (gr2 _ _ _ _) HLT.out).base (by have := HLT.out; omega), (rv6.kept (gr3 _ _ _ _ _) (no_str3 h4)).kept (gr2 _ _ _ _) (no_str2 h5'), ?_⟩
  exact ((((hB6.setCell (Nat.le_refl _) _).setCell (Nat.le_refl _) _).setCell (Nat.le_refl _) _).setCell (Nat.le_succ _) _).setCell (Nat.le_succ _) _
end Go.Proofs.YtmdnapognaddbaaGreatDoor
namespace Go.Proofs.YtmdnapognaddbaaGreatDoor

/-- a place at which d has a digit and c has x -/
def qual (a b : List UInt8) (p : Nat) : Bool := fx b p && !fx a p
/-- the open places of word w from bit i on -/
def opn (a b : List UInt8) (w i : Nat) : Nat := wd (fun j => decide (i ≤ j) && qual a b (64 * w + j)) 64

theorem opn_lt (a b : List UInt8) (w i : Nat) : opn a b w i < 18446744073709551616 := wd_lt _ 64
theorem opn_bit (a b : List UInt8) (w i j : Nat) : (opn a b w i).testBit j = (decide (j < 64) && (decide (i ≤ j) && qual a b (64 * w + j))) := wd_bit _ _ _

theorem opn_start (a b : List UInt8) (w : Nat) : bits .andNot .u64 (FW b w : Int) (FW a w : Int) = (opn a b w 0 : Nat) := by
  rw [u64_andNot_nat _ _ (FW_lt _ _) (FW_lt _ _)]
  congr 1
  apply Nat.eq_of_testBit_eq
  intro i
  rw [andnot_bit _ _ (FW_lt _ _), FW_bit, FW_bit, opn_bit]
  unfold qual
  by_cases hi : i < 64 <;> simp [hi]

theorem least_bit (O : Nat) (h : O ≠ 0) (hO : O < 18446744073709551616) : ∃ r m, r < 64 ∧ O = 2 ^ (r + 1) * m + 2 ^ r := by
  have key : ∀ n O, O ≠ 0 → O < 2 ^ n → ∃ r m, r < n ∧ O = 2 ^ (r + 1) * m + 2 ^ r := by
    intro n
    induction n with
    | zero => intro O h1 h2; simp at h2; exact absurd h2 h1
    | succ n ih =>
      intro O h1 h2
      by_cases e : O % 2 = 1
      · exact ⟨0, O / 2, by omega, by simp; omega⟩
      · have hp : 2 ^ (n + 1) = 2 * 2 ^ n := by rw [Nat.pow_succ]; omega
        obtain ⟨r, m, hr, hm⟩ := ih (O / 2) (by omega) (by omega)
        refine ⟨r + 1, m, by omega, ?_⟩
        have e1 : O = 2 * (O / 2) := by omega
        rw [e1, hm, Nat.mul_add, ← Nat.mul_assoc, Nat.pow_succ 2 (r + 1), Nat.pow_succ 2 r]
        congr 1
        · rw [Nat.mul_comm 2 (2 ^ r * 2)]
        · omega
  exact key 64 O h hO

theorem odd_bit (r m j : Nat) : (2 ^ (r + 1) * m + 2 ^ r).testBit j = (if j < r then false else if j = r then true else m.testBit (j - (r + 1))) := by
  have hp : 2 ^ r < 2 ^ (r + 1) := Nat.pow_lt_pow_right (by omega) (by omega)
  rw [Nat.testBit_two_pow_mul_add _ hp]
  by_cases h1 : j < r
  · have : j < r + 1 := by omega
    simp only [this, if_true, h1]
    rw [Nat.testBit_two_pow]
    simp; omega
  · by_cases h2 : j = r
    · subst h2
      simp
    · have : ¬ j < r + 1 := by omega
      simp only [this, if_false, h1, h2]
theorem odd_pred_bit (r m j : Nat) : (2 ^ (r + 1) * m + 2 ^ r - 1).testBit j = (if j < r then true else if j = r then false else m.testBit (j - (r + 1))) := by
  have hp : 2 ^ r < 2 ^ (r + 1) := Nat.pow_lt_pow_right (by omega) (by omega)
  have h0 : 0 < 2 ^ r := Nat.two_pow_pos r
  have e : 2 ^ (r + 1) * m + 2 ^ r - 1 = 2 ^ (r + 1) * m + (2 ^ r - 1) := by omega
  rw [e, Nat.testBit_two_pow_mul_add _ (by omega), Nat.testBit_two_pow_sub_one]
  by_cases h1 : j < r
  · have : j < r + 1 := by omega
    simp [this, h1]
  · by_cases h2 : j = r
    · subst h2; simp
    · have : ¬ j < r + 1 := by omega
      simp [this, h1, h2]

/-- what the round of the inner loop does -/
theorem opn_step (a b : List UInt8) (w i : Nat) (h : opn a b w i ≠ 0) : ∃ r, i ≤ r ∧ r < 64 ∧ qual a b (64 * w + r) = true ∧ (∀ j, i ≤ j → j < r → qual a b (64 * w + j) = false) ∧
    opn a b w i &&& (18446744073709551616 - opn a b w i) = 2 ^ r ∧ opn a b w i &&& (opn a b w i - 1) = opn a b w (r + 1) := by
  obtain ⟨r, m, hr, hm⟩ := least_bit _ h (opn_lt a b w i)
  have hb : ∀ j, (opn a b w i).testBit j = (if j < r then false else if j = r then true else m.testBit (j - (r + 1))) := fun j => by rw [hm]; exact odd_bit r m j
  have hpb : ∀ j, (opn a b w i - 1).testBit j = (if j < r then true else if j = r then false else m.testBit (j - (r + 1))) := fun j => by rw [hm]; exact odd_pred_bit r m j
  have hr1 := hb r
  rw [opn_bit] at hr1
  simp [hr] at hr1
  refine ⟨r, hr1.1, hr, hr1.2, ?_, ?_, ?_⟩
  · intro j h1 h2
    have := hb j
    rw [opn_bit] at this
    have h3 : j < 64 := by omega
    simp [h1, h2, h3] at this
    exact this
  · apply Nat.eq_of_testBit_eq
    intro j
    have e : 18446744073709551616 - opn a b w i = 2 ^ 64 - ((opn a b w i - 1) + 1) := by have := opn_lt a b w i; omega
    rw [Nat.testBit_and, e, Nat.testBit_two_pow_sub_succ (by have := opn_lt a b w i; omega), hpb, hb, Nat.testBit_two_pow]
    by_cases h1 : j < r
    · have : ¬ r = j := by omega
      simp [h1, this]
    · by_cases h2 : j = r
      · subst h2; simp [hr]
      · have : ¬ r = j := by omega
        simp [h1, h2, this]
        exact fun h _ => h
  · apply Nat.eq_of_testBit_eq
    intro j
    rw [Nat.testBit_and, hpb, opn_bit, opn_bit]
    by_cases h1 : j < r
    · have h2 : ¬ r + 1 ≤ j := by omega
      have := hb j
      rw [opn_bit] at this
      simp [h1] at this
      simp only [h1, if_true, h2, decide_false, Bool.false_and, Bool.and_false, Bool.and_true]
      simpa using this
    · by_cases h2 : j = r
      · subst h2; simp
        intro _ hx; omega
      · have h3 : r + 1 ≤ j := by omega
        have h4 : i ≤ j := by omega
        have := hb j
        rw [opn_bit] at this
        simp only [h1, h2, if_false, h4, h3, decide_true, Bool.true_and] at this ⊢
        rw [← this]
        simp

/-- c with d's digits at the open places below p -/
def rsT (a b : List UInt8) (p : Nat) : List UInt8 := meetT (a.take p) (b.take p) ++ a.drop p
theorem rs_get (a b : List UInt8) (hl : a.length = b.length) (p k : Nat) (hk : k < a.length) : (rsT a b p)[k]? = some (if k < p then (if a[k] == 120 then b[k]'(by omega) else a[k]) else a[k]) := by
  unfold rsT
  have hm : (meetT (a.take p) (b.take p)).length = min p a.length := by rw [meetT_len _ _ (by simp; omega)]; simp
  by_cases h : k < p
  · rw [List.getElem?_append_left (by omega), meetT_get _ _ (by simp; omega) k (by simp; omega)]
    simp [h]
  · rw [List.getElem?_append_right (by omega), hm, List.getElem?_drop]
    have : p + (k - min p a.length) = k := by omega
    rw [this, List.getElem?_eq_getElem hk]
    simp [h]
theorem rs_len (a b : List UInt8) (hl : a.length = b.length) (p : Nat) : (rsT a b p).length = a.length := by
  unfold rsT
  rw [List.length_append, meetT_len _ _ (by simp; omega)]
  simp; omega
theorem rs_zero (a b : List UInt8) : rsT a b 0 = a := by simp [rsT, meetT]
theorem qual_bytes (a b : List UInt8) (hl : a.length = b.length) (p : Nat) (hp : p < a.length) : qual a b p = (!(b[p]'(by omega) == 120) && (a[p] == 120)) := by
  have hb : p < b.length := by omega
  simp only [qual, fx, List.getElem?_eq_getElem hp, List.getElem?_eq_getElem hb]
  cases e1 : (b[p] == 120) <;> cases e2 : (a[p] == 120) <;> simp_all
theorem qual_lt (a b : List UInt8) (hl : a.length = b.length) (p : Nat) (h : qual a b p = true) : p < a.length := by
  rcases Nat.lt_or_ge p a.length with h1 | h1
  · exact h1
  · simp only [qual, fx] at h
    rw [List.getElem?_eq_none (show b.length ≤ p by omega)] at h
    simp at h
theorem rs_skip (a b : List UInt8) (hl : a.length = b.length) (p q : Nat) (hpq : p ≤ q) (h : ∀ k, p ≤ k → k < q → qual a b k = false) : rsT a b q = rsT a b p := by
  apply List.ext_getElem?
  intro k
  by_cases hk : k < a.length
  · rw [rs_get a b hl q k hk, rs_get a b hl p k hk]
    by_cases h1 : k < p
    · have : k < q := by omega
      simp [h1, this]
    · by_cases h2 : k < q
      · have := h k (by omega) h2
        rw [qual_bytes a b hl k hk] at this
        simp only [h1, h2, if_true, if_false]
        congr 1
        cases e1 : (a[k] == 120)
        · rfl
        · rw [e1] at this
          have e3 : a[k] = 120 := by simpa using e1
          simp at this
          rw [if_pos rfl, this, e3]
      · simp [h1, h2]
  · rw [List.getElem?_eq_none (by rw [rs_len a b hl]; omega), List.getElem?_eq_none (by rw [rs_len a b hl]; omega)]
theorem rs_at (a b : List UInt8) (hl : a.length = b.length) (p : Nat) (h : qual a b p = true) (hp : p < (rsT a b p).length) : (rsT a b p)[p] = 120 := by
  have hpa : p < a.length := qual_lt a b hl p h
  have := rs_get a b hl p p hpa
  rw [List.getElem?_eq_getElem hp] at this
  rw [qual_bytes a b hl p hpa] at h
  simp at this h
  rw [this]; exact h.2
theorem rs_succ (a b : List UInt8) (hl : a.length = b.length) (p : Nat) (h : qual a b p = true) : (rsT a b p).set p (b[p]'(by have := qual_lt a b hl p h; omega)) = rsT a b (p + 1) := by
  have hpa : p < a.length := qual_lt a b hl p h
  apply List.ext_getElem?
  intro k
  by_cases hk : k < a.length
  · rw [rs_get a b hl (p + 1) k hk]
    by_cases e : k = p
    · subst e
      rw [List.getElem?_set_self (by rw [rs_len a b hl]; exact hk)]
      rw [qual_bytes a b hl k hk] at h
      simp at h
      simp [h.2]
    · rw [List.getElem?_set_ne (by omega), rs_get a b hl p k hk]
      by_cases h1 : k < p
      · have : k < p + 1 := by omega
        simp [h1, this]
      · have : ¬ k < p + 1 := by omega
        simp [h1, this]
  · rw [List.getElem?_eq_none (by simp; rw [rs_len a b hl]; omega), List.getElem?_eq_none (by rw [rs_len a b hl]; omega)]
theorem rs_good (a b : List UInt8) (hl : a.length = b.length) (ga : good a = true) (gb : good b = true) (p : Nat) : good (rsT a b p) = true := by
  simp only [good, Bool.and_eq_true, decide_eq_true_eq, List.all_eq_true]
  refine ⟨by rw [rs_len a b hl]; exact good_len ga, ?_⟩
  intro x hx
  obtain ⟨k, hk, rfl⟩ := List.getElem_of_mem hx
  have hka : k < a.length := by rw [rs_len a b hl] at hk; exact hk
  have := rs_get a b hl p k hka
  rw [List.getElem?_eq_getElem hk] at this
  rw [Option.some.inj this]
  have ta := good_tri ga k hka
  have tb := good_tri gb k (by omega)
  repeat' split
  all_goals assumption

/-- the other digit -/
def oth (d : UInt8) : UInt8 := if d == 48 then 49 else 48
/-- the part of Split at an open place -/
def pcT (a b : List UInt8) (p : Nat) : List UInt8 := (rsT a b p).set p (oth (b.getD p 0))
/-- P1.7: the parts at the open places below p -/
def pcs (a b : List UInt8) : Nat → List (List UInt8)
  | 0 => []
  | p + 1 => pcs a b p ++ (if qual a b p then [pcT a b p] else [])
theorem pcs_skip (a b : List UInt8) (p q : Nat) (hpq : p ≤ q) (h : ∀ k, p ≤ k → k < q → qual a b k = false) : pcs a b q = pcs a b p := by
  induction q with
  | zero => have : p = 0 := by omega
            subst this; rfl
  | succ q ih =>
    by_cases e : p = q + 1
    · subst e; rfl
    · conv => lhs; unfold pcs
      rw [h q (by omega) (by omega), ih (by omega) (fun k h1 h2 => h k h1 (by omega))]
      simp
theorem pcs_succ (a b : List UInt8) (p : Nat) (h : qual a b p = true) : pcs a b (p + 1) = pcs a b p ++ [pcT a b p] := by
  conv => lhs; unfold pcs
  rw [h]; rfl
theorem pcs_len (a b : List UInt8) (p : Nat) : (pcs a b p).length ≤ p := by
  induction p with
  | zero => simp [pcs]
  | succ p ih => unfold pcs; split <;> simp <;> omega

theorem dg_own (b : List UInt8) (w r : Nat) (hr : r < 64) (hp : 64 * w + r < b.length) (gb : good b = true) (hx : b[64 * w + r] ≠ 120) : dg (OW b w) r = b[64 * w + r] := by
  unfold dg
  rw [OW_bit]
  have tb := good_tri gb _ hp
  simp only [hr, decide_true, Bool.true_and, on, List.getElem?_eq_getElem hp]
  generalize b[64 * w + r] = y at *
  simp [tri] at tb
  rcases tb with (rfl | rfl) | rfl
  · decide
  · decide
  · exact absurd rfl hx
theorem dg_oth (b : List UInt8) (w r : Nat) (hr : r < 64) (hp : 64 * w + r < b.length) (gb : good b = true) (hx : b[64 * w + r] ≠ 120) : dg (18446744073709551615 - OW b w) r = oth (b[64 * w + r]) := by
  unfold dg
  have e : 18446744073709551615 - OW b w = 2 ^ 64 - (OW b w + 1) := by omega
  rw [e, Nat.testBit_two_pow_sub_succ (OW_lt b w), OW_bit]
  have tb := good_tri gb _ hp
  simp only [hr, decide_true, Bool.true_and, on, List.getElem?_eq_getElem hp]
  generalize b[64 * w + r] = y at *
  simp [tri] at tb
  rcases tb with (rfl | rfl) | rfl
  · decide
  · decide
  · exact absurd rfl hx
end Go.Proofs.YtmdnapognaddbaaGreatDoor
namespace Go.Proofs.YtmdnapognaddbaaGreatDoor
open Go.RowKit

theorem info_cube : (Tryz.prog.info? 40).map (fun i => (i.zero, i.size, i.bytes)) = some (some (.agg #[.int .i64 0, .int .u64 0, .int .u64 0, .int .u64 0, .int .u64 0, .int .u64 0, .int .u64 0, .int .u64 0, .int .u64 0]), 9, 72) := by kernel_rfl

/-- the nine cells of a cube -/
def cel (t : List UInt8) : List Value := [.int .i64 (t.length : Int), .int .u64 (FW t 0 : Int), .int .u64 (FW t 1 : Int), .int .u64 (FW t 2 : Int), .int .u64 (FW t 3 : Int), .int .u64 (OW t 0 : Int), .int .u64 (OW t 1 : Int), .int .u64 (OW t 2 : Int), .int .u64 (OW t 3 : Int)]
/-- the cells of a list of cubes -/
def cels (l : List (List UInt8)) : List Value := l.flatMap cel
theorem cels_snoc (l : List (List UInt8)) (t : List UInt8) : cels (l ++ [t]) = cels l ++ cel t := by simp [cels]

/-- what Split answers -/
def splT (a b : List UInt8) : List (List UInt8) := if agB a b = true then pcs a b a.length else [a]

theorem opn_zero (a b : List UInt8) (w i : Nat) (h : opn a b w i = 0) : ∀ j, i ≤ j → j < 64 → qual a b (64 * w + j) = false := by
  intro j h1 h2
  have := opn_bit a b w i j
  rw [h, Nat.zero_testBit] at this
  simp [h1, h2] at this
  exact this

set_option maxHeartbeats 400000 in
theorem split_no (a b : List UInt8) (w : World) (ha : good a = true) (hq0 : agB a b = false) :
    Calls Tryz.prog 75 #[cubeV a, cubeV b] w fun e w' => ∃ v, e = .returned v ∧ w'.ownsRow w.heap.size 40 9 v 1 (cels [a]) ∧ Below w.heap.size w w' := by
  have hq : Hid (agB a b = false) := hq0
  clear hq0
  unfold cubeV cv
  go_enter Tryz.func75, Tryz.ntmps75
  go_wp2_with (go_at_call 62; refine (agrees_D a b false _ ha hq.out).mono ?_; rintro e w1 ⟨rfl, hb1⟩; obtain ⟨hc1, hf1⟩ := bcell hb1)
  go_ret
  have hB := bel1 (bel1 hb1)
  refine ⟨_, rfl, ?_, belA hB _⟩
  refine ⟨by simp [cels, cel], .inr ⟨w1.heap.size, 1, _, rfl, hB.size, alloc_get _ _, by omega, by unfold maxLen; omega, by simp, by simp [cels, cel]⟩⟩

theorem cellkeepS {W w' : World} {b : Nat} {cs : Array Value} (hb : Below W.heap.size W w') (hlt : b < W.heap.size) (h : ∀ j, W.cell? ⟨b, j, none⟩ = cs[j]?) : ∀ j, w'.cell? ⟨b, j, none⟩ = cs[j]? :=
  fun j => (hb.cell (p := ⟨b, j, none⟩) hlt).trans (h j)
theorem cell1keep {W w' : World} {b o : Nat} {v : Value} (hb : Below W.heap.size W w') (hlt : b < W.heap.size) (h : W.cell? ⟨b, o, none⟩ = some v) : w'.cell? ⟨b, o, none⟩ = some v := (hb.cell (p := ⟨b, o, none⟩) hlt).trans h
theorem alloc1keep {W : World} {b o : Nat} {v : Value} (hlt : b < W.heap.size) (h : W.cell? ⟨b, o, none⟩ = some v) (O : Obj) : (W.alloc O).cell? ⟨b, o, none⟩ = some v := (World.cell?_alloc_lt W O ⟨b, o, none⟩ hlt).trans h
theorem cell1grow {W w' : World} {row : Option Nat} {b o : Nat} {v : Value} (hg : W.grownBy w' row) (hlt : b < W.heap.size) (hne : some b ≠ row) (h : W.cell? ⟨b, o, none⟩ = some v) : w'.cell? ⟨b, o, none⟩ = some v :=
  (World.cell?_of_block (w := W) (a := ⟨b, o, none⟩) (hg.block b hlt hne)).trans h
theorem allockeepS {W : World} {b : Nat} {cs : Array Value} (hlt : b < W.heap.size) (h : ∀ j, W.cell? ⟨b, j, none⟩ = cs[j]?) (o : Obj) : ∀ j, (W.alloc o).cell? ⟨b, j, none⟩ = cs[j]? :=
  fun j => (World.cell?_alloc_lt W o ⟨b, j, none⟩ hlt).trans (h j)
theorem cellgrowS {W w' : World} {row : Option Nat} {b : Nat} {cs : Array Value} (hg : W.grownBy w' row) (hlt : b < W.heap.size) (hne : some b ≠ row) (h : ∀ j, W.cell? ⟨b, j, none⟩ = cs[j]?) : ∀ j, w'.cell? ⟨b, j, none⟩ = cs[j]? :=
  fun j => (World.cell?_of_block (w := W) (a := ⟨b, j, none⟩) (hg.block b hlt hne)).trans (h j)
theorem ltA {W : World} {b : Nat} (h : b < W.heap.size) (o : Obj) : b < (W.alloc o).heap.size := by simp; omega
theorem growblk {W w' : World} {row : Option Nat} {b : Nat} {o : Obj} (hg : W.grownBy w' row) (h : W.heap[b]? = some o) (hne : some b ≠ row) : w'.heap[b]? = some o := (hg.block b (lt_of_get h) hne).trans h
theorem bel_app2 {w wr w1 : World} {o : Obj} {base : Nat} {e : TypeId} {size : Nat} {v : Value} {n : Nat} {xs : List Value} (hB : Below w.heap.size w wr) (hown : wr.ownsRow base e size v n xs) (hg : (wr.alloc o).grownBy w1 v.ownBlock) (hb : w.heap.size ≤ base) : Below w.heap.size w w1 :=
  (belA hB o).grown hg (belA hB o).size (fun k h => Nat.le_trans hb (hown.lt k h).1)
theorem put9_ne {W : World} {b c : Nat} {o : Obj} (v0 v1 v2 v3 v4 v5 v6 v7 v8 : Value) (hne : c ≠ b) (h : W.heap[c]? = some o) : (put9 W b v0 v1 v2 v3 v4 v5 v6 v7 v8).heap[c]? = some o := by
  unfold put9
  rw [Below.heap_setCell _ _ _ _ (by exact hne), Below.heap_setCell _ _ _ _ (by exact hne), Below.heap_setCell _ _ _ _ (by exact hne), Below.heap_setCell _ _ _ _ (by exact hne), Below.heap_setCell _ _ _ _ (by exact hne), Below.heap_setCell _ _ _ _ (by exact hne), Below.heap_setCell _ _ _ _ (by exact hne), Below.heap_setCell _ _ _ _ (by exact hne), Below.heap_setCell _ _ _ _ (by exact hne)]
  exact h
theorem put9_size (W : World) (b : Nat) (v0 v1 v2 v3 v4 v5 v6 v7 v8 : Value) : (put9 W b v0 v1 v2 v3 v4 v5 v6 v7 v8).heap.size = W.heap.size := by simp [put9, World.setCell]
theorem own_put9 {W : World} {base b : Nat} {e : TypeId} {size : Nat} {v : Value} {n : Nat} {xs : List Value} (v0 v1 v2 v3 v4 v5 v6 v7 v8 : Value) (h : W.ownsRow base e size v n xs) (hb : b < base) : (put9 W b v0 v1 v2 v3 v4 v5 v6 v7 v8).ownsRow base e size v n xs := by
  have s := fun (W : World) (j : Nat) (u : Value) (h : W.ownsRow base e size v n xs) => ownsRow_setCell_below h (a := ⟨b, j, none⟩) hb u
  exact s _ _ _ (s _ _ _ (s _ _ _ (s _ _ _ (s _ _ _ (s _ _ _ (s _ _ _ (s _ _ _ (s _ _ _ h))))))))
theorem cellF {W : World} {x k : Nat} {t : List UInt8} (h : ∀ j, W.cell? ⟨x, j, none⟩ = (#[.int .i64 (t.length : Int), .int .u64 (FW t 0 : Int), .int .u64 (FW t 1 : Int), .int .u64 (FW t 2 : Int), .int .u64 (FW t 3 : Int), .int .u64 (OW t 0 : Int), .int .u64 (OW t 1 : Int), .int .u64 (OW t 2 : Int), .int .u64 (OW t 3 : Int)] : Array Value)[j]?) (hk : k < 4) : W.cell? ⟨x, 1 + k, none⟩ = some (.int .u64 (FW t k : Int)) := by
  rw [h]
  rcases (show k = 0 ∨ k = 1 ∨ k = 2 ∨ k = 3 by omega) with rfl | rfl | rfl | rfl <;> rfl
theorem cellO {W : World} {x k : Nat} {t : List UInt8} (h : ∀ j, W.cell? ⟨x, j, none⟩ = (#[.int .i64 (t.length : Int), .int .u64 (FW t 0 : Int), .int .u64 (FW t 1 : Int), .int .u64 (FW t 2 : Int), .int .u64 (FW t 3 : Int), .int .u64 (OW t 0 : Int), .int .u64 (OW t 1 : Int), .int .u64 (OW t 2 : Int), .int .u64 (OW t 3 : Int)] : Array Value)[j]?) (hk : k < 4) : W.cell? ⟨x, 5 + k, none⟩ = some (.int .u64 (OW t k : Int)) := by
  rw [h]
  rcases (show k = 0 ∨ k = 1 ∨ k = 2 ∨ k = 3 by omega) with rfl | rfl | rfl | rfl <;> rfl
theorem own_baseW {W : World} {B B' : Nat} {e : TypeId} {size : Nat} {v : Value} {n : Nat} {xs : List Value} (h : W.ownsRow B e size v n xs) (hb : B' ≤ B) : W.ownsRow B' e size v n xs := by
  obtain ⟨h1, h2⟩ := h
  refine ⟨h1, ?_⟩
  rcases h2 with h2 | ⟨g, cap, cur, hv, hg, r⟩
  · exact .inl h2
  · exact .inr ⟨g, cap, cur, hv, Nat.le_trans hb hg, r⟩
theorem drew_heap (V : World) : V.drew.heap = V.heap := rfl
theorem drew_own {V : World} {base : Nat} {e : TypeId} {size : Nat} {v : Value} {n : Nat} {xs : List Value} (h : V.ownsRow base e size v n xs) : V.drew.ownsRow base e size v n xs := h
theorem drew_bel {B : Nat} {a V : World} (h : Below B a V) : Below B a V.drew := h.drew
theorem put9_szle {W : World} {b n : Nat} (v0 v1 v2 v3 v4 v5 v6 v7 v8 : Value) (h : n ≤ W.heap.size) : n ≤ (put9 W b v0 v1 v2 v3 v4 v5 v6 v7 v8).heap.size := by
  rw [put9_size]; exact h
theorem put9d_ne {W : World} {b c : Nat} {o : Obj} (v0 v1 v2 v3 v4 v5 v6 v7 v8 : Value) (hne : c ≠ b) (h : W.heap[c]? = some o) : (put9 W b v0 v1 v2 v3 v4 v5 v6 v7 v8).drew.heap[c]? = some o := by rw [drew_heap]; exact put9_ne v0 v1 v2 v3 v4 v5 v6 v7 v8 hne h
theorem put9d_get {W : World} {b T : Nat} {m : Nat × Nat} {x0 x1 x2 x3 x4 x5 x6 x7 x8 : Value} (v0 v1 v2 v3 v4 v5 v6 v7 v8 : Value) (h : W.heap[b]? = some (.cells #[x0, x1, x2, x3, x4, x5, x6, x7, x8] T m)) :
    (put9 W b v0 v1 v2 v3 v4 v5 v6 v7 v8).drew.heap[b]? = some (.cells #[v0, v1, v2, v3, v4, v5, v6, v7, v8] T m) := by rw [drew_heap]; exact put9_get v0 v1 v2 v3 v4 v5 v6 v7 v8 h
theorem own_put9d {W : World} {base b : Nat} {e : TypeId} {size : Nat} {v : Value} {n : Nat} {xs : List Value} (v0 v1 v2 v3 v4 v5 v6 v7 v8 : Value) (h : W.ownsRow base e size v n xs) (hb : b < base) : (put9 W b v0 v1 v2 v3 v4 v5 v6 v7 v8).drew.ownsRow base e size v n xs := drew_own (own_put9 v0 v1 v2 v3 v4 v5 v6 v7 v8 h hb)
theorem put9d_below {B : Nat} {a W : World} {b : Nat} (v0 v1 v2 v3 v4 v5 v6 v7 v8 : Value) (h : Below B a W) (hb : B ≤ b) : Below B a (put9 W b v0 v1 v2 v3 v4 v5 v6 v7 v8).drew := drew_bel (put9_below v0 v1 v2 v3 v4 v5 v6 v7 v8 h hb)
theorem put9d_size {W : World} {b n : Nat} (v0 v1 v2 v3 v4 v5 v6 v7 v8 : Value) (h : n ≤ W.heap.size) : n ≤ (put9 W b v0 v1 v2 v3 v4 v5 v6 v7 v8).drew.heap.size := by
  rw [drew_heap, put9_size]; exact h
theorem undrewS {B : Nat} {a w : World} (h : Below B a.drew w) : Below B a w := ⟨h.os, h.tape, h.output, h.size, h.block⟩
theorem low_bits (O r : Nat) (h0 : O ≠ 0) (hO : O < 18446744073709551616) (h : O &&& (18446744073709551616 - O) = 2 ^ r) : bits .and .u64 (O : Int) (IntKind.u64.wrap (-(O : Int))) = ((2 ^ r : Nat) : Int) := by
  have e : IntKind.u64.wrap (-(O : Int)) = ((18446744073709551616 - O : Nat) : Int) := by rw [IntKind.wrap_u64]; omega
  rw [e, u64_and_nat _ _ hO (by omega), h]
theorem next_bits (O N : Nat) (h0 : O ≠ 0) (hO : O < 18446744073709551616) (h : O &&& (O - 1) = N) : bits .and .u64 (O : Int) (IntKind.u64.wrap ((O : Int) - 1)) = (N : Int) := by
  have e : IntKind.u64.wrap ((O : Int) - 1) = ((O - 1 : Nat) : Int) := by rw [IntKind.wrap_u64]; omega
  rw [e, u64_and_nat _ _ hO (by omega), h]
theorem next_bits2 (O N : Nat) (h0 : O ≠ 0) (hO : O < 18446744073709551616) (h : O &&& (O - 1) = N) : bits .and .u64 (O : Int) ((O : Int) - 1) = (N : Int) := by
  have e : ((O : Int) - 1) = ((O - 1 : Nat) : Int) := by omega
  rw [e, u64_and_nat _ _ hO (by omega), h]
theorem not_xor (x : Nat) (hx : x < 18446744073709551616) : bits .xor .u64 (if IntKind.u64.signed = true then -1 else IntKind.u64.max) (x : Int) = ((18446744073709551615 - x : Nat) : Int) := by
  have e : (if IntKind.u64.signed = true then (-1 : Int) else IntKind.u64.max) = ((18446744073709551615 : Nat) : Int) := by decide
  rw [e, u64_xor_nat _ _ (by decide) hx]
  congr 1
  apply Nat.eq_of_testBit_eq
  intro i
  have e1 : 18446744073709551615 - x = 2 ^ 64 - (x + 1) := by omega
  have e2 : (18446744073709551615 : Nat) = 2 ^ 64 - 1 := by decide
  rw [e1, Nat.testBit_xor, e2, Nat.testBit_two_pow_sub_one, Nat.testBit_two_pow_sub_succ (by exact hx)]
  by_cases hi : i < 64
  · simp [hi]
  · have h64 : 64 ≤ i := Nat.le_of_not_lt hi
    have hx2 : x < 2 ^ 64 := hx
    have : x.testBit i = false := Nat.testBit_lt_two_pow (Nat.lt_of_lt_of_le hx2 (Nat.pow_le_pow_right (by decide) h64))
    simp [hi, this]
theorem fix_own (a b : List UInt8) (k r : Nat) (w : World) (hk : k < 4) (hr : r < 64) (hl : a.length = b.length) (gb : good b = true) (hq : qual a b (64 * k + r) = true) :
    Calls Tryz.prog 90 #[cubeV (rsT a b (64 * k + r)), .int .i64 (k : Int), .int .u64 ((2 ^ r : Nat) : Int), .int .u64 (OW b k : Int)] w fun e w' => e = .returned (cubeV (rsT a b (64 * k + r + 1))) ∧ Below w.heap.size w w' := by
  have hp := qual_lt a b hl _ hq
  have hpr : 64 * k + r < (rsT a b (64 * k + r)).length := by rw [rs_len a b hl]; exact hp
  have hbx : b[64 * k + r]'(by omega) ≠ 120 := by
    rw [qual_bytes a b hl _ hp] at hq
    simp at hq; exact hq.1
  refine (fix_any _ k r (OW b k) w hk hr (OW_lt _ _) hpr (rs_at a b hl _ hq hpr)).mono ?_
  rintro e w' ⟨rfl, hb⟩
  exact ⟨by rw [dg_own b k r hr (by omega) gb hbx, rs_succ a b hl _ hq], hb⟩
theorem fix_oth (a b : List UInt8) (k r : Nat) (w : World) (hk : k < 4) (hr : r < 64) (hl : a.length = b.length) (gb : good b = true) (hq : qual a b (64 * k + r) = true) :
    Calls Tryz.prog 90 #[cubeV (rsT a b (64 * k + r)), .int .i64 (k : Int), .int .u64 ((2 ^ r : Nat) : Int), .int .u64 (bits .xor .u64 (if IntKind.u64.signed = true then -1 else IntKind.u64.max) (OW b k : Int))] w fun e w' => e = .returned (cubeV (pcT a b (64 * k + r))) ∧ Below w.heap.size w w' := by
  have hp := qual_lt a b hl _ hq
  have hpr : 64 * k + r < (rsT a b (64 * k + r)).length := by rw [rs_len a b hl]; exact hp
  have hpb : 64 * k + r < b.length := by omega
  have hbx : b[64 * k + r] ≠ 120 := by
    rw [qual_bytes a b hl _ hp] at hq
    simp at hq; exact hq.1
  rw [not_xor _ (OW_lt _ _)]
  refine (fix_any _ k r (18446744073709551615 - OW b k) w hk hr (by omega) hpr (rs_at a b hl _ hq hpr)).mono ?_
  rintro e w' ⟨rfl, hb⟩
  refine ⟨?_, hb⟩
  unfold pcT
  rw [dg_oth b k r hr hpb gb hbx, show b.getD (64 * k + r) 0 = b[64 * k + r] by simp [List.getD, List.getElem?_eq_getElem hpb]]

theorem alloc2_0 (w : World) (o1 o2 : Obj) : ((w.alloc o1).alloc o2).heap[w.heap.size]? = some o1 := by
  rw [Below.heap_alloc _ _ _ (by simp)]; exact alloc_get _ _
theorem alloc2_1 (w : World) (o1 o2 : Obj) : ((w.alloc o1).alloc o2).heap[w.heap.size + 1]? = some o2 := by
  have := alloc_get (w.alloc o1) o2
  simpa using this
end Go.Proofs.YtmdnapognaddbaaGreatDoor

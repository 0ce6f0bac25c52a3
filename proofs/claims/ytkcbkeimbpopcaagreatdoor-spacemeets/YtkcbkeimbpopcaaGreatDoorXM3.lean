import Derived.Test.YtkcbkeimbpopcaaGreatDoorXM1
import Derived.Test.YtkcbkeimbpopcaaGreatDoorXM2
import Derived.Test.YtkcbkeimbpopcaaGreatDoorXBS
namespace Go.Proofs.YtkcbkeimbpopcaaGreatDoor
open Go.RowKit Go.Shelf
theorem mn_ok (b b2 : Int) (A C : List (List UInt8 × List (List UInt8))) (hg1 : gdC A) (hg2 : gdC C) : gdC (mnT b b2 A C) ∧ szC (mnT b b2 A C) ≤ 128 := by
  unfold mnT
  split
  · rename_i h
    have h2 : szC (topC (stl (cmN A C))) ≤ 128 := by
      unfold mnE at h
      split at h
      · exact absurd h (by decide)
      · split at h
        · exact absurd h (by decide)
        · split at h
          · assumption
          · exact absurd h (by decide)
    exact ⟨gdC_ord (gdC_top (gdC_stl (gdC_cm hg1 hg2))), by rw [szC_ord]; exact h2⟩
  · exact ⟨(fun t h => by cases h), Nat.zero_le _⟩
theorem pr_wfs (b : Int) (l : List UInt8) : WFS (prB b l) (prT b l) := by
  refine ⟨prT_fix b l, fun t ht => ?_⟩
  obtain ⟨-, h1, h2, h3, h4⟩ := prT_ft b l t ht
  have e : prB b l = b := by unfold prB; rw [if_pos h4]
  rw [e]
  exact ⟨h1, h2, h3, ((prT_ok b l).1 t ht).1⟩
set_option maxRecDepth 100000 in
set_option maxHeartbeats 4000000 in
theorem meets_walk (b : Int) (l : List UInt8) (b' : Int) (l' : List UInt8) (w : World) (hl0 : l.length ≤ 281474976710656) (hl1 : l'.length ≤ 281474976710656) : Calls Tryz.prog 6 #[.int .i64 b, .string ⟨l.toArray⟩, .int .i64 b', .string ⟨l'.toArray⟩] w fun e w' => e = .returned (.bool true) ∧ Below w.heap.size w w' := by
  have hla : l.length ≤ maxLen := by unfold maxLen; omega
  have hlb : l'.length ≤ maxLen := by unfold maxLen; omega
  have ok1 := prT_ok b l
  have ok2 := prT_ok b' l'
  have hge := prB_ge b l
  have wf1 := pr_wfs b l
  have wf2 := pr_wfs b' l'
  obtain ⟨B1, hB1⟩ : ∃ B, prB b l = B := ⟨_, rfl⟩
  obtain ⟨X1, hX1⟩ : ∃ X, prT b l = X := ⟨_, rfl⟩
  obtain ⟨B2, hB2⟩ : ∃ B, prB b' l' = B := ⟨_, rfl⟩
  obtain ⟨X2, hX2⟩ : ∃ X, prT b' l' = X := ⟨_, rfl⟩
  have HR1 : Hid (∀ W, Calls Tryz.prog 9 #[.int .i64 b, .string ⟨l.toArray⟩] W fun e w' => ∃ V V2, e = .returned (.tuple #[.agg #[.int .i64 B1, V, .bool false], .agg #[.int .i64 B1, V2], .bool true]) ∧ SPL w' W.heap.size V X1 ∧ RSR w' V2 X1 ∧ Below W.heap.size W w') := fun W => by
    rw [← hB1, ← hX1]
    exact read_any b l W hla
  have HR2 : Hid (∀ W, Calls Tryz.prog 9 #[.int .i64 b', .string ⟨l'.toArray⟩] W fun e w' => ∃ V V2, e = .returned (.tuple #[.agg #[.int .i64 B2, V, .bool false], .agg #[.int .i64 B2, V2], .bool true]) ∧ SPL w' W.heap.size V X2 ∧ RSR w' V2 X2 ∧ Below W.heap.size W w') := fun W => by
    rw [← hB2, ← hX2]
    exact read_any b' l' W hlb
  rw [hX1] at ok1 wf1
  rw [hX2] at ok2 wf2
  rw [hB1] at hge wf1
  rw [hB2] at wf2
  have HJO := mn_ok B1 B2 X1 X2 ok1.1 ok2.1
  have HJ1 : Hid (∀ (W : World) (V V2 : Value), SPL W 0 V X1 → SPL W 0 V2 X2 → Calls Tryz.prog 22 #[.agg #[.int .i64 B1, V, .bool false], .agg #[.int .i64 B2, V2, .bool false]] W fun e w' => ∃ V, e = .returned (.tuple #[.agg #[.int .i64 (mnB B1 B2 X1 X2), V, .bool false], .int .i64 (mnE B1 B2 X1 X2)]) ∧ SPL w' 0 V (mnT B1 B2 X1 X2) ∧ Below W.heap.size W w') := fun W V V2 h1 h2 => sMeet_any B1 B2 X1 X2 0 0 V V2 W h1 h2 ok1.2 ok2.2 ok1.1 ok2.1 wf1 wf2
  have HJ2 : Hid (∀ (W : World) (V V2 : Value), RSR W V X1 → RSR W V2 X2 → Calls Tryz.prog 23 #[.agg #[.int .i64 B1, V], .agg #[.int .i64 B2, V2]] W fun e w' => ∃ V, e = .returned (.tuple #[.agg #[.int .i64 (mnB B1 B2 X1 X2), V], .int .i64 (mnE B1 B2 X1 X2)]) ∧ RSR w' V (mnT B1 B2 X1 X2) ∧ Below W.heap.size W w') := fun W V V2 h1 h2 => dMeet_any B1 B2 X1 X2 V V2 W h1 h2 ok1.2 ok2.2 ok1.1 ok2.1 hge
  obtain ⟨B3, hB3⟩ : ∃ B, mnB B1 B2 X1 X2 = B := ⟨_, rfl⟩
  obtain ⟨E3, hE3⟩ : ∃ B, mnE B1 B2 X1 X2 = B := ⟨_, rfl⟩
  obtain ⟨X3, hX3⟩ : ∃ B, mnT B1 B2 X1 X2 = B := ⟨_, rfl⟩
  rw [hB3, hE3, hX3] at HJ1 HJ2
  rw [hX3] at HJO
  have HJK : Hid (gdC X3 ∧ szC X3 ≤ 128) := HJO
  clear hB1 hX1 hB2 hX2 ok1 ok2 wf1 wf2 hge hB3 hE3 hX3 HJO
  obtain ⟨n1, hn1⟩ : ∃ n, X1.length = n := ⟨_, rfl⟩
  obtain ⟨n2, hn2⟩ : ∃ n, X2.length = n := ⟨_, rfl⟩
  obtain ⟨n3, hn3⟩ : ∃ n, X3.length = n := ⟨_, rfl⟩
  go_enter Tryz.func6, Tryz.ntmps6
  go_wp2_with fail
  refine (HR1.out _).mono ?_
  rintro e w1 ⟨V, V2, rfl, sv1, rv1, hb1⟩
  obtain ⟨p1, c1, rfl⟩ := sv1.shape
  obtain ⟨q1, d1, rfl⟩ := rv1.shape
  rw [hn1] at sv1 rv1 ⊢
  have HW1 : Hid (SPL w1 0 (.slice p1 n1 c1) X1 ∧ RSR w1 (.slice q1 n1 d1) X1 ∧ Below w.heap.size w w1) := ⟨sv1.base (Nat.zero_le _), rv1, hb1⟩
  clear sv1 rv1 hb1 HR1
  go_wp2_with fail
  refine (HR2.out _).mono ?_
  rintro e w2 ⟨V, V2, rfl, sv2, rv2, hb2⟩
  obtain ⟨p2, c2, rfl⟩ := sv2.shape
  obtain ⟨q2, d2, rfl⟩ := rv2.shape
  rw [hn2] at sv2 rv2 ⊢
  have HF : Hid (∀ W, Below ((w2.alloc (.cells #[.int .i64 B2, .slice p2 n2 c2, .bool false] 24 (0, 0))).alloc (.cells #[.int .i64 B2, .slice q2 n2 d2] 27 (0, 0))).heap.size ((w2.alloc (.cells #[.int .i64 B2, .slice p2 n2 c2, .bool false] 24 (0, 0))).alloc (.cells #[.int .i64 B2, .slice q2 n2 d2] 27 (0, 0))) W → ((∀ j, W.cell? ⟨w1.heap.size, j, none⟩ = (#[.int .i64 B1, .slice p1 n1 c1, .bool false] : Array Value)[j]?) ∧ (∀ j, W.cell? ⟨w1.heap.size + 1, j, none⟩ = (#[.int .i64 B1, .slice q1 n1 d1] : Array Value)[j]?) ∧ (∀ j, W.cell? ⟨w2.heap.size, j, none⟩ = (#[.int .i64 B2, .slice p2 n2 c2, .bool false] : Array Value)[j]?) ∧ (∀ j, W.cell? ⟨w2.heap.size + 1, j, none⟩ = (#[.int .i64 B2, .slice q2 n2 d2] : Array Value)[j]?) ∧ SPL W 0 (.slice p1 n1 c1) X1 ∧ RSR W (.slice q1 n1 d1) X1 ∧ SPL W 0 (.slice p2 n2 c2) X2 ∧ RSR W (.slice q2 n2 d2) X2 ∧ Below w.heap.size w W)) := fun W hW => by
    have h2 : Below w2.heap.size w2 W := bel0 (belA (belA (Below.refl _ _) _) _) hW
    have hA : Below ((w1.alloc (.cells #[.int .i64 B1, .slice p1 n1 c1, .bool false] 24 (0, 0))).alloc (.cells #[.int .i64 B1, .slice q1 n1 d1] 27 (0, 0))).heap.size ((w1.alloc (.cells #[.int .i64 B1, .slice p1 n1 c1, .bool false] 24 (0, 0))).alloc (.cells #[.int .i64 B1, .slice q1 n1 d1] 27 (0, 0))) W := bel0 hb2 h2
    have h1 : Below w1.heap.size w1 W := bel0 (belA (belA (Below.refl _ _) _) _) hA
    exact ⟨(cells_block (keepblk3 hA (alw_0 _ _ _))).1, (cells_block (keepblk3 hA (alw_1 _ _ _))).1, (cells_block (keepblk3 hW (alw_0 _ _ _))).1, (cells_block (keepblk3 hW (alw_1 _ _ _))).1, HW1.out.1.below h1, HW1.out.2.1.later h1, (sv2.below h2).base (Nat.zero_le _), rv2.later h2, bel0 HW1.out.2.2 h1⟩
  clear sv2 rv2 hb2 HR2 HW1
  obtain ⟨f1, f2, f3, f4, f5, f6, f7, f8, f9⟩ := HF.out _ (Below.refl _ _)
  have HS1 : Hid (SPL ((w2.alloc (.cells #[.int .i64 B2, .slice p2 n2 c2, .bool false] 24 (0, 0))).alloc (.cells #[.int .i64 B2, .slice q2 n2 d2] 27 (0, 0))) 0 (.slice p1 n1 c1) X1 ∧ SPL ((w2.alloc (.cells #[.int .i64 B2, .slice p2 n2 c2, .bool false] 24 (0, 0))).alloc (.cells #[.int .i64 B2, .slice q2 n2 d2] 27 (0, 0))) 0 (.slice p2 n2 c2) X2) := ⟨f5, f7⟩
  clear f2 f4 f5 f6 f7 f8 f9
  go_wp2_with fail
  refine (HJ1.out _ _ _ HS1.out.1 HS1.out.2).mono ?_
  rintro e w3 ⟨V, rfl, sv3, hb3⟩
  obtain ⟨p3, c3, rfl⟩ := sv3.shape
  rw [hn3] at sv3 ⊢
  have hal : Below w3.heap.size w3 (w3.alloc (.cells #[.int .i64 B3, .slice p3 n3 c3, .bool false] 24 (0, 0))) := belA (Below.refl _ _) _
  have hk4 : (w3.alloc (.cells #[.int .i64 B3, .slice p3 n3 c3, .bool false] 24 (0, 0))).heap[w3.heap.size]? = some (.cells #[.int .i64 B3, .slice p3 n3 c3, .bool false] 24 (0, 0)) := alloc_get _ _
  have hb4 : Below ((w2.alloc (.cells #[.int .i64 B2, .slice p2 n2 c2, .bool false] 24 (0, 0))).alloc (.cells #[.int .i64 B2, .slice q2 n2 d2] 27 (0, 0))).heap.size ((w2.alloc (.cells #[.int .i64 B2, .slice p2 n2 c2, .bool false] 24 (0, 0))).alloc (.cells #[.int .i64 B2, .slice q2 n2 d2] 27 (0, 0))) (w3.alloc (.cells #[.int .i64 B3, .slice p3 n3 c3, .bool false] 24 (0, 0))) := bel0 hb3 hal
  have HW4 : Hid (Below ((w2.alloc (.cells #[.int .i64 B2, .slice p2 n2 c2, .bool false] 24 (0, 0))).alloc (.cells #[.int .i64 B2, .slice q2 n2 d2] 27 (0, 0))).heap.size ((w2.alloc (.cells #[.int .i64 B2, .slice p2 n2 c2, .bool false] 24 (0, 0))).alloc (.cells #[.int .i64 B2, .slice q2 n2 d2] 27 (0, 0))) (w3.alloc (.cells #[.int .i64 B3, .slice p3 n3 c3, .bool false] 24 (0, 0))) ∧ SPL (w3.alloc (.cells #[.int .i64 B3, .slice p3 n3 c3, .bool false] 24 (0, 0))) 0 (.slice p3 n3 c3) X3 ∧ (w3.alloc (.cells #[.int .i64 B3, .slice p3 n3 c3, .bool false] 24 (0, 0))).heap[w3.heap.size]? = some (.cells #[.int .i64 B3, .slice p3 n3 c3, .bool false] 24 (0, 0))) := ⟨hb4, (sv3.below hal).base (Nat.zero_le _), hk4⟩
  obtain ⟨-, f2, -, f4, -, f6, -, f8, -⟩ := HF.out (w3.alloc (.cells #[.int .i64 B3, .slice p3 n3 c3, .bool false] 24 (0, 0))) hb4
  have HS2 : Hid (RSR (w3.alloc (.cells #[.int .i64 B3, .slice p3 n3 c3, .bool false] 24 (0, 0))) (.slice q1 n1 d1) X1 ∧ RSR (w3.alloc (.cells #[.int .i64 B3, .slice p3 n3 c3, .bool false] 24 (0, 0))) (.slice q2 n2 d2) X2) := ⟨f6, f8⟩
  clear f1 f3 f6 f8 sv3 hb3 hal hk4 hb4 HS1 HJ1
  go_wp2_with fail
  refine (HJ2.out _ _ _ HS2.out.1 HS2.out.2).mono ?_
  rintro e w5 ⟨V, rfl, rv3, hb5⟩
  obtain ⟨q3, d3, rfl⟩ := rv3.shape
  rw [hn3] at rv3 ⊢
  have HW5 : Hid (∀ W, Below (w5.alloc (.cells #[.int .i64 B3, .slice q3 n3 d3] 27 (0, 0))).heap.size (w5.alloc (.cells #[.int .i64 B3, .slice q3 n3 d3] 27 (0, 0))) W → (∀ j, W.cell? ⟨w3.heap.size, j, none⟩ = (#[.int .i64 B3, .slice p3 n3 c3, .bool false] : Array Value)[j]?) ∧ (∀ j, W.cell? ⟨w5.heap.size, j, none⟩ = (#[.int .i64 B3, .slice q3 n3 d3] : Array Value)[j]?) ∧ SPL W 0 (.slice p3 n3 c3) X3 ∧ RSR W (.slice q3 n3 d3) X3 ∧ Below w.heap.size w W) := fun W hW => by
    have h5 : Below w5.heap.size w5 W := bel0 (belA (Below.refl _ _) _) hW
    have h4 : Below (w3.alloc (.cells #[.int .i64 B3, .slice p3 n3 c3, .bool false] 24 (0, 0))).heap.size (w3.alloc (.cells #[.int .i64 B3, .slice p3 n3 c3, .bool false] 24 (0, 0))) W := bel0 hb5 h5
    exact ⟨(cells_block (keepblk3 h4 HW4.out.2.2)).1, (cells_block (keepblk3 hW (alloc_get _ _))).1, HW4.out.2.1.below h4, rv3.later h5, (HF.out W (bel0 HW4.out.1 h4)).2.2.2.2.2.2.2.2⟩
  obtain ⟨g1, g2, g3, g4, -⟩ := HW5.out _ (Below.refl _ _)
  have HSS : Hid (Calls Tryz.prog 21 #[.agg #[.int .i64 B3, .slice p3 n3 c3, .bool false], .int .i64 E3, .agg #[.int .i64 B3, .slice q3 n3 d3], .int .i64 E3] (w5.alloc (.cells #[.int .i64 B3, .slice q3 n3 d3] 27 (0, 0))) fun r w' => r = .returned (.bool true) ∧ Below (w5.alloc (.cells #[.int .i64 B3, .slice q3 n3 d3] 27 (0, 0))).heap.size (w5.alloc (.cells #[.int .i64 B3, .slice q3 n3 d3] 27 (0, 0))) w') := same_any B3 E3 _ _ X3 0 _ g3 g4 HJK.out.2 HJK.out.1
  clear g3 g4 rv3 hb5 HJ2 HS2 HW4 HF f2 f4
  go_wp2_with fail
  refine HSS.out.mono ?_
  rintro e w6 ⟨rfl, hb6⟩
  go_wp2_with fail
  go_ret
  exact ⟨rfl, (HW5.out w6 hb6).2.2.2.2⟩
end Go.Proofs.YtkcbkeimbpopcaaGreatDoor

import Derived.Test.YtccbfaembcefjaaGreatDoorXF7
import Derived.Test.YtccbfaembcefjaaGreatDoorXBE
namespace Go.Proofs.YtccbfaembcefjaaGreatDoor
open Go.RowKit Go.Shelf
set_option maxRecDepth 100000 in
set_option maxHeartbeats 4000000 in
theorem withins_walk (b : Int) (l : List UInt8) (b' : Int) (l' : List UInt8) (lim : Int) (w : World) (hl0 : l.length ≤ 281474976710656) (hl1 : l'.length ≤ 281474976710656) : Calls Tryz.prog 6 #[.int .i64 b, .string ⟨l.toArray⟩, .int .i64 b', .string ⟨l'.toArray⟩, .int .i64 lim] w fun e w' => e = .returned (.bool true) ∧ Below w.heap.size w w' := by
  have hla : l.length ≤ maxLen := by unfold maxLen; omega
  have hlb : l'.length ≤ maxLen := by unfold maxLen; omega
  have ok1 := prT_ok b l
  have ok2 := prT_ok b' l'
  have hge := prB_ge b l
  have wf1 := pr_ord b l
  have wf2 := pr_sd b l
  have ft1 : ∀ t ∈ prT b l, FTm t := fun t ht => (prT_ft b l t ht).1
  obtain ⟨B1, hB1⟩ : ∃ B, prB b l = B := ⟨_, rfl⟩
  obtain ⟨X1, hX1⟩ : ∃ X, prT b l = X := ⟨_, rfl⟩
  obtain ⟨B2, hB2⟩ : ∃ B, prB b' l' = B := ⟨_, rfl⟩
  obtain ⟨X2, hX2⟩ : ∃ X, prT b' l' = X := ⟨_, rfl⟩
  have HR1 : Hid (∀ W, Calls Tryz.prog 7 #[.int .i64 b, .string ⟨l.toArray⟩] W fun e w' => ∃ V V2, e = .returned (.tuple #[.agg #[.int .i64 B1, V, .bool false], .agg #[.int .i64 B1, V2], .bool true]) ∧ SPL w' W.heap.size V X1 ∧ RSR w' V2 X1 ∧ Below W.heap.size W w') := fun W => by
    rw [← hB1, ← hX1]
    exact read_any b l W hla
  have HR2 : Hid (∀ W, Calls Tryz.prog 7 #[.int .i64 b', .string ⟨l'.toArray⟩] W fun e w' => ∃ V V2, e = .returned (.tuple #[.agg #[.int .i64 B2, V, .bool false], .agg #[.int .i64 B2, V2], .bool true]) ∧ SPL w' W.heap.size V X2 ∧ RSR w' V2 X2 ∧ Below W.heap.size W w') := fun W => by
    rw [← hB2, ← hX2]
    exact read_any b' l' W hlb
  rw [hX1] at ok1 wf1 wf2 ft1
  rw [hX2] at ok2
  rw [hB1] at hge
  have HJ1 : Hid (∀ (W : World) (V V2 : Value), SPL W 0 V X1 → SPL W 0 V2 X2 → Calls Tryz.prog 19 #[.agg #[.int .i64 B1, V, .bool false], .agg #[.int .i64 B2, V2, .bool false], .int .i64 lim] W fun e w' => e = .returned (.tuple #[.bool (wnB B1 B2 lim X1 X2), .int .i64 (wnE B1 B2 lim X1 X2)]) ∧ Below W.heap.size W w') := fun W V V2 h1 h2 => sWithin_any B1 B2 lim X1 X2 V V2 W h1 h2 ok1.2 ok2.2 ok1.1 ok2.1 ft1 wf1 wf2
  have HJ2 : Hid (∀ (W : World) (V V2 : Value), RSR W V X1 → RSR W V2 X2 → Calls Tryz.prog 20 #[.agg #[.int .i64 B1, V], .agg #[.int .i64 B2, V2], .int .i64 lim] W fun e w' => e = .returned (.tuple #[.bool (wnB B1 B2 lim X1 X2), .int .i64 (wnE B1 B2 lim X1 X2)]) ∧ Below W.heap.size W w') := fun W V V2 h1 h2 => dWithin_any B1 B2 lim X1 X2 V V2 W h1 h2 ok1.2 ok2.2 ok1.1 ok2.1 ft1 hge
  obtain ⟨qB, hqB⟩ : ∃ B, wnB B1 B2 lim X1 X2 = B := ⟨_, rfl⟩
  obtain ⟨qE, hqE⟩ : ∃ B, wnE B1 B2 lim X1 X2 = B := ⟨_, rfl⟩
  rw [hqB, hqE] at HJ1 HJ2
  clear hB1 hX1 hB2 hX2 ok1 ok2 wf1 wf2 ft1 hge hqB hqE hla hlb
  obtain ⟨n1, hn1⟩ : ∃ n, X1.length = n := ⟨_, rfl⟩
  obtain ⟨n2, hn2⟩ : ∃ n, X2.length = n := ⟨_, rfl⟩
  go_enter Tryz.func6, Tryz.ntmps6
  go_wp2_with fail
  refine (HR1.out _).mono ?_
  rintro e w1 ⟨V, V2, rfl, sv1, rv1, hb1⟩
  obtain ⟨p1, c1, rfl⟩ := sv1.shape
  obtain ⟨q1, d1, rfl⟩ := rv1.shape
  rw [hn1] at sv1 rv1 ⊢
  have HW1 : Hid (SPL w1 0 (.slice p1 n1 c1) X1 ∧ RSR w1 (.slice q1 n1 d1) X1 ∧ Below w.heap.size w w1) := ⟨sv1.base (Nat.zero_le _), rv1, hb1⟩
  clear sv1 rv1 hb1 HR1
  go_wp2_with fail
  refine (HR2.out _).mono ?_
  rintro e w2 ⟨V, V2, rfl, sv2, rv2, hb2⟩
  obtain ⟨p2, c2, rfl⟩ := sv2.shape
  obtain ⟨q2, d2, rfl⟩ := rv2.shape
  rw [hn2] at sv2 rv2 ⊢
  have HF : Hid (∀ W, Below ((w2.alloc (.cells #[.int .i64 B2, .slice p2 n2 c2, .bool false] 24 (0, 0))).alloc (.cells #[.int .i64 B2, .slice q2 n2 d2] 27 (0, 0))).heap.size ((w2.alloc (.cells #[.int .i64 B2, .slice p2 n2 c2, .bool false] 24 (0, 0))).alloc (.cells #[.int .i64 B2, .slice q2 n2 d2] 27 (0, 0))) W → ((∀ j, W.cell? ⟨w1.heap.size, j, none⟩ = (#[.int .i64 B1, .slice p1 n1 c1, .bool false] : Array Value)[j]?) ∧ (∀ j, W.cell? ⟨w1.heap.size + 1, j, none⟩ = (#[.int .i64 B1, .slice q1 n1 d1] : Array Value)[j]?) ∧ (∀ j, W.cell? ⟨w2.heap.size, j, none⟩ = (#[.int .i64 B2, .slice p2 n2 c2, .bool false] : Array Value)[j]?) ∧ (∀ j, W.cell? ⟨w2.heap.size + 1, j, none⟩ = (#[.int .i64 B2, .slice q2 n2 d2] : Array Value)[j]?) ∧ SPL W 0 (.slice p1 n1 c1) X1 ∧ RSR W (.slice q1 n1 d1) X1 ∧ SPL W 0 (.slice p2 n2 c2) X2 ∧ RSR W (.slice q2 n2 d2) X2 ∧ Below w.heap.size w W)) := fun W hW => by
    have h2 : Below w2.heap.size w2 W := bel0 (belA (belA (Below.refl _ _) _) _) hW
    have hA : Below ((w1.alloc (.cells #[.int .i64 B1, .slice p1 n1 c1, .bool false] 24 (0, 0))).alloc (.cells #[.int .i64 B1, .slice q1 n1 d1] 27 (0, 0))).heap.size ((w1.alloc (.cells #[.int .i64 B1, .slice p1 n1 c1, .bool false] 24 (0, 0))).alloc (.cells #[.int .i64 B1, .slice q1 n1 d1] 27 (0, 0))) W := bel0 hb2 h2
    have h1 : Below w1.heap.size w1 W := bel0 (belA (belA (Below.refl _ _) _) _) hA
    exact ⟨(cells_block (keepblk3 hA (alw_0 _ _ _))).1, (cells_block (keepblk3 hA (alw_1 _ _ _))).1, (cells_block (keepblk3 hW (alw_0 _ _ _))).1, (cells_block (keepblk3 hW (alw_1 _ _ _))).1, HW1.out.1.below h1, HW1.out.2.1.later h1, (sv2.below h2).base (Nat.zero_le _), rv2.later h2, bel0 HW1.out.2.2 h1⟩
  clear sv2 rv2 hb2 HR2 HW1
  obtain ⟨f1, f2, f3, f4, f5, f6, f7, f8, f9⟩ := HF.out _ (Below.refl _ _)
  have HS1 : Hid (SPL ((w2.alloc (.cells #[.int .i64 B2, .slice p2 n2 c2, .bool false] 24 (0, 0))).alloc (.cells #[.int .i64 B2, .slice q2 n2 d2] 27 (0, 0))) 0 (.slice p1 n1 c1) X1 ∧ SPL ((w2.alloc (.cells #[.int .i64 B2, .slice p2 n2 c2, .bool false] 24 (0, 0))).alloc (.cells #[.int .i64 B2, .slice q2 n2 d2] 27 (0, 0))) 0 (.slice p2 n2 c2) X2) := ⟨f5, f7⟩
  clear f2 f4 f5 f6 f7 f8 f9
  go_wp2_with fail
  refine (HJ1.out _ _ _ HS1.out.1 HS1.out.2).mono ?_
  rintro e w3 ⟨rfl, hb3⟩
  obtain ⟨-, f2, -, f4, -, f6, -, f8, -⟩ := HF.out w3 hb3
  have HS2 : Hid (RSR w3 (.slice q1 n1 d1) X1 ∧ RSR w3 (.slice q2 n2 d2) X2 ∧ Below ((w2.alloc (.cells #[.int .i64 B2, .slice p2 n2 c2, .bool false] 24 (0, 0))).alloc (.cells #[.int .i64 B2, .slice q2 n2 d2] 27 (0, 0))).heap.size ((w2.alloc (.cells #[.int .i64 B2, .slice p2 n2 c2, .bool false] 24 (0, 0))).alloc (.cells #[.int .i64 B2, .slice q2 n2 d2] 27 (0, 0))) w3) := ⟨f6, f8, hb3⟩
  clear f1 f3 f6 f8 hb3 HS1 HJ1
  go_wp2_with fail
  refine (HJ2.out _ _ _ HS2.out.1 HS2.out.2.1).mono ?_
  rintro e w4 ⟨rfl, hb4⟩
  have HB4 : Hid (Below ((w2.alloc (.cells #[.int .i64 B2, .slice p2 n2 c2, .bool false] 24 (0, 0))).alloc (.cells #[.int .i64 B2, .slice q2 n2 d2] 27 (0, 0))).heap.size ((w2.alloc (.cells #[.int .i64 B2, .slice p2 n2 c2, .bool false] 24 (0, 0))).alloc (.cells #[.int .i64 B2, .slice q2 n2 d2] 27 (0, 0))) w4) := bel0 HS2.out.2.2 hb4
  clear f2 f4 hb4 HS2 HJ2
  go_wp2_with fail
  refine (num_any qE _).mono ?_
  rintro e w5 ⟨rfl, hb5⟩
  have HZ : Hid (Below w.heap.size w w5) := (HF.out w5 (bel0 HB4.out hb5)).2.2.2.2.2.2.2.2
  clear hb5
  have hqq : (qB == qB) = true := by simp
  go_wp2_with fail
  go_ret
  exact ⟨rfl, HZ.out⟩
end Go.Proofs.YtccbfaembcefjaaGreatDoor

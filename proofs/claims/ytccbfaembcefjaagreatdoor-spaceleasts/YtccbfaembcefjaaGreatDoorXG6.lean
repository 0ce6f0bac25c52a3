import Derived.Test.YtccbfaembcefjaaGreatDoorXG5
import Derived.Test.YtccbfaembcefjaaGreatDoorXBE
namespace Go.Proofs.YtccbfaembcefjaaGreatDoor
open Go.RowKit Go.Shelf
theorem exE_okL {lim : Nat} : ∀ (Ts : List (List UInt8 × List (List UInt8))) (out R : List (List UInt8)), gdS Ts → (∀ x ∈ out, good x = true) → out.length ≤ lim → exE splT lim out Ts = some R → (∀ x ∈ R, good x = true) ∧ R.length ≤ lim
  | [], out, R, _, g, h, e => by
    injection e with e
    subst e
    exact ⟨g, h⟩
  | t :: r, out, R, gt, g, h, e => by
    unfold exE at e
    split at e
    · rename_i ho
      obtain ⟨t1, t3⟩ := gt t List.mem_cons_self
      refine exE_okL r _ R (fun x hx => gt x (List.mem_cons_of_mem _ hx)) (fun x hx => ?_) ?_ e
      · rcases List.mem_append.1 hx with hx | hx
        · exact g x hx
        · exact (gdW_exT t.2 [t.1] (fun y hy => by rw [List.mem_singleton] at hy; subst hy; exact ⟨t1, rfl⟩) t3 x hx).1
      · rw [List.length_append]
        exact exO_len splT ho
    · cases e
theorem xpL_okL {b lim : Int} {Ts : List (List UInt8 × List (List UInt8))} (h : gdS Ts) : (∀ x ∈ xpL b lim Ts, good x = true) ∧ (xpL b lim Ts).length ≤ 2048 := by
  unfold xpL
  split
  · exact ⟨(fun x hx => by cases hx), Nat.zero_le _⟩
  · split
    · exact ⟨(fun x hx => by cases hx), Nat.zero_le _⟩
    · rename_i h2
      cases hx : exE splT lim.toNat [] Ts with
      | none => exact ⟨(fun x hx => by cases hx), Nat.zero_le _⟩
      | some R =>
        obtain ⟨h3, h4⟩ := exE_okL Ts [] R h (fun x hx => by cases hx) (Nat.zero_le _) hx
        exact ⟨h3, by show R.length ≤ 2048; omega⟩
set_option maxRecDepth 100000 in
set_option maxHeartbeats 4000000 in
theorem leasts_walk (b : Int) (l : List UInt8) (lim : Int) (w : World) (hl0 : l.length ≤ 281474976710656) : Calls Tryz.prog 4 #[.int .i64 b, .string ⟨l.toArray⟩, .int .i64 lim] w fun e w' => e = .returned (.bool true) ∧ Below w.heap.size w w' := by
  have hla : l.length ≤ maxLen := by unfold maxLen; omega
  have ok1 := prT_ok b l
  have gt1 := gdS_pr b l
  obtain ⟨B1, hB1⟩ : ∃ B, prB b l = B := ⟨_, rfl⟩
  obtain ⟨X1, hX1⟩ : ∃ X, prT b l = X := ⟨_, rfl⟩
  have HR1 : Hid (Calls Tryz.prog 7 #[.int .i64 b, .string ⟨l.toArray⟩] w fun e w' => ∃ V V2, e = .returned (.tuple #[.agg #[.int .i64 B1, V, .bool false], .agg #[.int .i64 B1, V2], .bool true]) ∧ SPL w' w.heap.size V X1 ∧ RSR w' V2 X1 ∧ Below w.heap.size w w') := by
    unfold Hid
    rw [← hB1, ← hX1]
    exact read_any b l w hla
  rw [hX1] at ok1 gt1
  have hwd : ∀ t ∈ X1, t.1.length = b.toNat := fun t ht => by
    rw [← hX1] at ht
    have := (prT_ft b l t ht).2.1
    omega
  have hbn : ¬ B1 = 0 → B1 = ((b.toNat : Nat) : Int) ∧ 1 ≤ b.toNat ∧ b.toNat ≤ 256 := fun h => by
    rw [← hB1] at h ⊢
    unfold prB at h ⊢
    split at h
    · rename_i h0
      have h1 := prE_zero h0
      rw [if_pos h0]
      omega
    · exact absurd rfl h
  have hxw := xpL_wide (b := B1) (lim := lim) gt1 hwd
  have hxn : ∀ x ∈ xpL B1 lim X1, x ≠ [] ∧ x.length ≤ 256 := fun x hx => by
    have h1 := hxw x hx
    have hb0 : ¬ B1 = 0 := fun h => by
      unfold xpL at hx
      rw [if_pos h] at hx
      cases hx
    obtain ⟨-, h2, h3⟩ := hbn hb0
    refine ⟨fun e => ?_, by omega⟩
    rw [e] at h1
    simp at h1
    omega
  have hxl := xpL_okL (b := B1) (lim := lim) gt1
  have HJ1 : Hid (∀ (W : World) (V : Value), SPL W 0 V X1 → Calls Tryz.prog 12 #[.agg #[.int .i64 B1, V, .bool false], .int .i64 lim] W fun e w' => e = .returned (.tuple #[.string ⟨(mnL (xpL B1 lim X1)).toArray⟩, .bool (!(((xpL B1 lim X1).length : Int) == 0)), .int .i64 (xpE B1 lim X1)]) ∧ Below W.heap.size W w') := fun W V h => sLeast_any b.toNat B1 lim X1 0 V W h ok1.2 gt1 hwd hbn (fun x hx => (hxn x hx).1)
  have HJ2 : Hid (∀ (W : World) (V : Value), RSR W V X1 → Calls Tryz.prog 13 #[.agg #[.int .i64 B1, V], .int .i64 lim] W fun e w' => e = .returned (.tuple #[.string ⟨(mnL (xpL B1 lim X1)).toArray⟩, .bool (!(((xpL B1 lim X1).length : Int) == 0)), .int .i64 (xpE B1 lim X1)]) ∧ Below W.heap.size W w') := fun W V h => dLeast_any B1 lim V X1 W h gt1 ok1.2 hxn (by omega) xpL_none
  obtain ⟨E, hE⟩ : ∃ E, xpE B1 lim X1 = E := ⟨_, rfl⟩
  obtain ⟨m, hm⟩ : ∃ m, mnL (xpL B1 lim X1) = m := ⟨_, rfl⟩
  obtain ⟨q, hq⟩ : ∃ q, (!(((xpL B1 lim X1).length : Int) == 0)) = q := ⟨_, rfl⟩
  rw [hE, hm, hq] at HJ1 HJ2
  clear hB1 hX1 ok1 gt1 hE hm hq hwd hbn hxw hxn hxl hla
  obtain ⟨n1, hn1⟩ : ∃ n, X1.length = n := ⟨_, rfl⟩
  go_enter Tryz.func4, Tryz.ntmps4
  go_wp2_with fail
  refine HR1.out.mono ?_
  rintro e w1 ⟨V, V2, rfl, sv1, rv1, hb1⟩
  obtain ⟨p1, c1, rfl⟩ := sv1.shape
  obtain ⟨q1, d1, rfl⟩ := rv1.shape
  rw [hn1] at sv1 rv1 ⊢
  obtain ⟨wA, hwA⟩ : ∃ wA, ((w1.alloc (.cells #[.int .i64 B1, .slice p1 n1 c1, .bool false] 24 (0, 0))).alloc (.cells #[.int .i64 B1, .slice q1 n1 d1] 27 (0, 0))) = wA := ⟨_, rfl⟩
  have HF : Hid (∀ W, Below wA.heap.size wA W → ((∀ j, W.cell? ⟨w1.heap.size, j, none⟩ = (#[.int .i64 B1, .slice p1 n1 c1, .bool false] : Array Value)[j]?) ∧ (∀ j, W.cell? ⟨w1.heap.size + 1, j, none⟩ = (#[.int .i64 B1, .slice q1 n1 d1] : Array Value)[j]?) ∧ SPL W 0 (.slice p1 n1 c1) X1 ∧ RSR W (.slice q1 n1 d1) X1 ∧ Below w.heap.size w W)) := fun W hW => by
    rw [← hwA] at hW
    have h1 : Below w1.heap.size w1 W := bel0 (belA (belA (Below.refl _ _) _) _) hW
    exact ⟨(cells_block (keepblk3 hW (alw_0 _ _ _))).1, (cells_block (keepblk3 hW (alw_1 _ _ _))).1, (sv1.below h1).base (Nat.zero_le _), rv1.later h1, bel0 hb1 h1⟩
  obtain ⟨f1, f2, f3, f4, -⟩ := HF.out wA (Below.refl _ _)
  clear sv1 rv1 hb1 HR1
  go_wp2_with fail
  refine (HJ1.out _ _ f3).mono ?_
  rintro e w2 ⟨rfl, hb2⟩
  obtain ⟨g1, g2, g3, g4, -⟩ := HF.out w2 hb2
  have HB2 : Hid (Below wA.heap.size wA w2) := hb2
  clear f1 f2 f3 f4 g1 g3 hwA hb2
  go_wp2_with fail
  refine (HJ2.out _ _ g4).mono ?_
  rintro e w3 ⟨rfl, hb3⟩
  have HB3 : Hid (Below w2.heap.size w2 w3) := hb3
  clear g2 g4 hb3
  go_wp2_with fail
  refine (num_any E _).mono ?_
  rintro e w4 ⟨rfl, hb4⟩
  have HZ : Hid (Below w.heap.size w w4) := (HF.out w4 (bel0 HB2.out (bel0 HB3.out hb4))).2.2.2.2
  clear hb4
  have hqq : (q == q) = true := by simp
  go_wp2_with fail
  go_ret
  exact ⟨rfl, HZ.out⟩
end Go.Proofs.YtccbfaembcefjaaGreatDoor

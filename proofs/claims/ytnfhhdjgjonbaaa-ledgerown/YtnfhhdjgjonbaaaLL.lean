import Derived.Test.YtnfhhdjgjonbaaaLK
namespace Go.Proofs.Ytnfhhdjgjonbaaa
open Go.RowKit
set_option maxRecDepth 100000 in
set_option maxHeartbeats 1000000 in
theorem dfour_any (n : Nat) (w : World) (hn : n < 4294967296) :
    Calls Try.prog 12 #[.int .i64 n] w fun e w' => ∃ p c, e = .returned (.slice p 4 c) ∧ BR w' p (four n) ∧ Below w.heap.size w w' := by
  go_enter Try.func12, Try.ntmps12
  go_wp2_with fail
  go_ret
  exact ⟨_, _, rfl, BR_new (alloc_getZ _ _) (cells_four hn).symm, (Below.refl _ _).alloc (Nat.le_refl _) _⟩
theorem ES.dsum {W1 W : World} {v : Value} {l : List UInt8} (h : ES W1 W v l) (hl : l.length ≤ 281474976710656) :
    Calls Try.prog 13 #[v] W fun e w' => e = .returned (.int .i64 (sumN l)) ∧ w' = W := by
  obtain ⟨p, c, rfl, -⟩ := h.1.shape
  exact dsum_any l p c W hl h.1.br
theorem res_denc (tmps : Array Value) (W : World) (x y : Value) (h : tmps[2]?.getD undef = x ∧ tmps[3]?.getD undef = y) : (results Try.f6 tmps).run Try.prog W = .ok (.tuple #[x, y]) W := by
  simp [results, h.1, h.2, go_sem]
theorem mB_false {s k : Int} (h : mB s k = false) : k < 1 ∨ (¬ k < 1 ∧ 4 < k) ∨ (¬ k < 1 ∧ ¬ 4 < k ∧ s < 1) ∨ (¬ k < 1 ∧ ¬ 4 < k ∧ ¬ s < 1 ∧ 2147483647 < s) := by
  have := of_decide_eq_false h
  omega
set_option maxRecDepth 100000 in
set_option maxHeartbeats 4000000 in
theorem dencode_any (s k : Int) (t : List UInt8) (w : World) :
    Calls Try.prog 6 #[.agg #[.int .i64 s, .int .i64 k, .string ⟨t.toArray⟩]] w fun e w' => ∃ v, e = .returned (.tuple #[v, .int .i64 (enE s k t)]) ∧ OB w' w.heap.size v (enB s k t) ∧ Below w.heap.size w w' := by
  obtain ⟨W1, hW1⟩ : ∃ W1, w.alloc (.cells #[.int .i64 s, .int .i64 k, .string ⟨t.toArray⟩] 29 (0, 0)) = W1 := ⟨_, rfl⟩
  have b1 : Below w.heap.size w W1 := by rw [← hW1]; exact (Below.refl _ _).alloc (Nat.le_refl _) _
  have HX : Hid (RBX W1 w.heap.size s k t) := by rw [← hW1]; exact RBX_new (alloc_getZ _ _)
  have hs1 : w.heap.size < W1.heap.size := by rw [← hW1]; simp
  have HC : Hid (∀ X, Below W1.heap.size W1 X → RBX X w.heap.size s k t) := fun X hX => HX.out.later hX hs1
  obtain ⟨c0, c1, c2⟩ := HX.out
  clear HX
  by_cases h1 : 16384 < t.length
  · have e : enE s k t = 2 := if_pos h1
    have eb : enB s k t = [] := by unfold enB; rw [e]; rfl
    rw [e, eb]
    have h1' : (16384 : Int) < (t.length : Int) := by omega
    go_enter Try.func6, Try.ntmps6
    go_wp2_with fail
    refine bodyPost_ret (res_denc _ _ _ _ ⟨rfl, rfl⟩) rfl ?_
    exact ⟨_, rfl, World.ownsRow_nil _ _ _ _, b1⟩
  · have h1' : ¬ (16384 : Int) < (t.length : Int) := by omega
    cases hm : mB s k with
    | false =>
      have e : enE s k t = 190 := by unfold enE; rw [if_neg h1, hm]; rfl
      have eb : enB s k t = [] := by unfold enB; rw [e]; rfl
      rw [e, eb]
      clear HC e eb
      rcases mB_false hm with hq | ⟨hq, hq2⟩ | ⟨hq, hq2, hq3⟩ | ⟨hq, hq2, hq3, hq4⟩
      all_goals
        clear hm
        go_enter Try.func6, Try.ntmps6
        go_wp2_with fail
        refine bodyPost_ret (res_denc _ _ _ _ ⟨rfl, rfl⟩) rfl ?_
        exact ⟨_, rfl, World.ownsRow_nil _ _ _ _, b1⟩
    | true =>
      have e : enE s k t = 0 := by unfold enE; rw [if_neg h1, hm]; rfl
      have eb : enB s k t = encL s.toNat k.toNat t := by unfold enB; rw [e]; rfl
      rw [e, eb]
      obtain ⟨S, K, rfl, rfl, hmay⟩ := mB_ok hm
      have m1 : ¬ (K : Int) < 1 := by unfold may at hmay; omega
      have m2 : ¬ 4 < (K : Int) := by unfold may at hmay; omega
      have m3 : ¬ (S : Int) < 1 := by unfold may at hmay; omega
      have m4 : ¬ 2147483647 < (S : Int) := by unfold may at hmay; omega
      have k1 : (1 : Int) ≤ (K : Int) := by unfold may at hmay; omega
      have k4 : (K : Int) ≤ 4 := by unfold may at hmay; omega
      have s32 : S < 4294967296 := by unfold may at hmay; omega
      rw [Int.toNat_natCast, Int.toNat_natCast]
      have HT : Hid (t.length ≤ 16384) := Nat.le_of_not_lt h1
      clear hm hmay eb e h1
      have hA : ∀ o : Obj, Below W1.heap.size W1 (W1.alloc o) := fun o => (Below.refl _ _).alloc (Nat.le_refl _) o
      go_enter Try.func6, Try.ntmps6
      go_upto_region 6 with fail
      obtain ⟨W2, hW2⟩ : ∃ W2, W1.alloc (.cells #[.int .u8 82, .int .u8 76, .int .u8 (K : Int), .int .u8 0] 5 (0, 0)) = W2 := ⟨_, rfl⟩
      have E2 : Hid (ES W1 W2 (.slice (some ⟨W1.heap.size, 0, none⟩) 4 4) [82, 76, UInt8.ofNat K, 0]) := by
        rw [← hW2]
        refine ⟨?_, hA _⟩
        have := World.ownsRow_lit (e := 5) (base := W1.heap.size) (size := 1) W1 #[.int .u8 82, .int .u8 76, .int .u8 (K : Int), .int .u8 0] 4 (Nat.le_refl _) (by decide) rfl
        rw [show (#[.int .u8 82, .int .u8 76, .int .u8 (K : Int), .int .u8 0] : Array Value).toList = Lib.byteCells [82, 76, UInt8.ofNat K, 0] from cells_head k1 k4] at this
        exact this
      rw [hW2]
      obtain ⟨p2, q2, hpq⟩ : ∃ p q, (Value.slice (some ⟨W1.heap.size, 0, none⟩) 4 4) = .slice p [82, 76, UInt8.ofNat K, 0].length q := ⟨_, _, rfl⟩
      rw [hpq] at E2 ⊢
      clear hW2 hpq hA c0 c1 c2
      obtain ⟨f0, f1, f2⟩ := HC.out W2 E2.out.2
      go_wp2_with fail
      refine (dfour_any S W2 s32).mono ?_
      rintro e X2 ⟨pf, cf, rfl, hf, bf⟩
      have F2 : Hid (ES W1 X2 (.slice p2 ([82, 76, UInt8.ofNat K, 0]).length q2) ([82, 76, UInt8.ofNat K, 0])) := E2.out.later bf
      have HF2 : Hid (BR X2 pf (four (S))) := hf
      clear hf bf E2
      go_wp2_with (at_builtin; refine app_bytes rfl _ _ rfl W1.heap.size _ ([82, 76, UInt8.ofNat K, 0]) rfl F2.out.1 _ _ _ (four (S)) rfl rfl HF2.out (Nat.le_of_ble_eq_true rfl) F2.out.2.size ?_)
      intro v3 W3 o3 g3 _
      have E3_ : ES W1 W3 v3 (hd8 S K) := F2.out.grown o3 g3
      clear o3 g3 F2 HF2
      obtain ⟨p3, q3, rfl⟩ := E3_.slice
      have E3 : Hid (ES W1 W3 (.slice p3 (hd8 S K).length q3) (hd8 S K)) := E3_
      clear E3_ f0 f1 f2
      obtain ⟨f0, f1, f2⟩ := HC.out W3 E3.out.2
      have t32 : t.length < 4294967296 := by have := HT.out; omega
      go_wp2_with fail
      refine (dfour_any t.length W3 t32).mono ?_
      rintro e X3 ⟨pf, cf, rfl, hf, bf⟩
      have F3 : Hid (ES W1 X3 (.slice p3 (hd8 S K).length q3) (hd8 S K)) := E3.out.later bf
      have HF3 : Hid (BR X3 pf (four (t.length))) := hf
      clear hf bf E3
      go_wp2_with (at_builtin; refine app_bytes rfl _ _ rfl W1.heap.size _ (hd8 S K) rfl F3.out.1 _ _ _ (four (t.length)) rfl rfl HF3.out (Nat.le_of_ble_eq_true rfl) F3.out.2.size ?_)
      intro v4 W4 o4 g4 _
      have E4_ : ES W1 W4 v4 (hd S K t.length) := F3.out.grown o4 g4
      clear o4 g4 F3 HF3
      obtain ⟨p4, q4, rfl⟩ := E4_.slice
      have E4 : Hid (ES W1 W4 (.slice p4 (hd S K t.length).length q4) (hd S K t.length)) := E4_
      clear E4_ f0 f1 f2
      obtain ⟨f0, f1, f2⟩ := HC.out W4 E4.out.2
      go_wp2_with fail
      refine (ES.dsum E4.out (Nat.le_of_ble_eq_true rfl)).mono ?_
      rintro e W5 ⟨rfl, rfl⟩
      have u32 := sumN_lt (hd S K t.length)
      obtain ⟨p5, q5, hp5, hq5⟩ : ∃ p q, p4 = p ∧ q4 = q := ⟨_, _, rfl, rfl⟩
      subst hp5 hq5
      have E5 : Hid (ES W1 W5 (.slice p4 (hd S K t.length).length q4) (hd S K t.length)) := E4.out
      clear E4
      go_wp2_with fail
      refine (dfour_any (sumN (hd S K t.length)) W5 u32).mono ?_
      rintro e X5 ⟨pf, cf, rfl, hf, bf⟩
      have F5 : Hid (ES W1 X5 (.slice p4 (hd S K t.length).length q4) (hd S K t.length)) := E5.out.later bf
      have HF5 : Hid (BR X5 pf (four (sumN (hd S K t.length)))) := hf
      clear hf bf E5
      go_wp2_with (at_builtin; refine app_bytes rfl _ _ rfl W1.heap.size _ (hd S K t.length) rfl F5.out.1 _ _ _ (four (sumN (hd S K t.length))) rfl rfl HF5.out (Nat.le_of_ble_eq_true rfl) F5.out.2.size ?_)
      intro v6 W6 o6 g6 _
      have E6_ : ES W1 W6 v6 (hd16 S K t.length) := F5.out.grown o6 g6
      clear o6 g6 F5 HF5
      obtain ⟨p6, q6, rfl⟩ := E6_.slice
      have E6 : Hid (ES W1 W6 (.slice p6 (hd16 S K t.length).length q6) (hd16 S K t.length)) := E6_
      clear E6_ f0 f1 f2
      obtain ⟨f0, f1, f2⟩ := HC.out W6 E6.out.2
      go_wp2_with (at_builtin; refine app_text rfl _ _ rfl W1.heap.size _ (hd16 S K t.length) rfl E6.out.1 t rfl (by have := HT.out; rw [hd16_len]; omega) E6.out.2.size ?_)
      intro v7 W7 o7 g7
      have E7_ : ES W1 W7 v7 (bod S K t) := E6.out.grown o7 g7
      obtain ⟨p7, q7, rfl⟩ := E7_.slice
      have E7 : Hid (ES W1 W7 (.slice p7 (bod S K t).length q7) (bod S K t)) := E7_
      clear E7_ o7 g7 E6 f0 f1 f2
      have HLB : Hid ((bod S K t).length ≤ 100000000) := (show (bod S K t).length ≤ 100000000 by rw [bod_len]; have := HT.out; omega)
      go_wp2_with fail
      refine (ES.dsum E7.out (by have := HLB.out; omega)).mono ?_
      rintro e W8 ⟨rfl, rfl⟩
      have v32 := sumN_lt (bod S K t)
      clear u32
      go_wp2_with fail
      refine (dfour_any (sumN (bod S K t)) W8 v32).mono ?_
      rintro e X8 ⟨pf, cf, rfl, hf, bf⟩
      have F8 : Hid (ES W1 X8 (.slice p7 (bod S K t).length q7) (bod S K t)) := E7.out.later bf
      have HF8 : Hid (BR X8 pf (four (sumN (bod S K t)))) := hf
      clear hf bf E7
      go_wp2_with (at_builtin; refine app_bytes rfl _ _ rfl W1.heap.size _ (bod S K t) rfl F8.out.1 _ _ _ (four (sumN (bod S K t))) rfl rfl HF8.out (by have := HLB.out; omega) F8.out.2.size ?_)
      intro v9 W9 o9 g9 _
      have E9 : ES W1 W9 v9 (encL S K t) := F8.out.grown o9 g9
      clear o9 g9 F8 HF8
      obtain ⟨p9, q9, rfl⟩ := E9.slice
      have EBH : Hid (ES W1 W9 (.slice p9 (encL S K t).length q9) (encL S K t)) := E9
      clear E9
      go_wp2_with fail
      refine bodyPost_ret (res_denc _ _ _ _ ⟨rfl, rfl⟩) rfl ?_
      refine ⟨_, rfl, ?_, bel0Z b1 EBH.out.2⟩
      first
        | exact EBH.out.1.base b1.size
        | (show OB W9 w.heap.size (.slice p9 ((bod S K t).length + (four (sumN (bod S K t))).length) q9) _
           rw [← List.length_append]
           exact EBH.out.1.base b1.size)
end Go.Proofs.Ytnfhhdjgjonbaaa

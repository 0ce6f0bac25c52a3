import Derived.Test.YtnboehlbcjfndaaGreatDoorYAL
import Derived.Test.YtnboehlbcjfndaaGreatDoorYAM
import Derived.Test.YtnboehlbcjfndaaGreatDoorYAN
import Derived.Test.YtnboehlbcjfndaaGreatDoorYAO
import Derived.Test.YtnboehlbcjfndaaGreatDoorYAP
namespace Go.Proofs.YtnboehlbcjfndaaGreatDoor
open Go.RowKit Go.Shelf
theorem wpOp_go {P : Program} {ops : Array Oper} {Q : Exit → Act → World → Prop} {n : Nat} {K : Act → World → Prop} {a : Act} {w : World} {o : Oper} (ho : ops[n]? = some o) (hg : o.guard = none) (h : o.wp P a w K Q) : wpOp P ops Q n K a w := by
  unfold wpOp
  rw [ho]
  have hw : Region.wanted o (yielded ops a.tmps) = true := by simp [Region.wanted, hg]
  simp only [hw, if_true]
  exact .inl h
theorem kl7 {l : List UInt8} {j : Nat} (h : kl l j = 7) : j < l.length ∧ bt l j = 34 := by
  unfold kl cls at h
  by_cases h1 : chr l j = 34
  · exact (chr_asc l j 34 (by decide)).1 h1
  · repeat' split at h
    all_goals first | omega | contradiction
set_option maxRecDepth 100000 in
set_option maxHeartbeats 4000000 in
theorem token_any {X : MX} (hC : MC X) (hF : FOK X.w0) {W : World} {now0 fst line head : Nat} {v0 : Value} {D : List Tok} (h : MS X W now0 fst line head v0 D) {j0 : Nat} (hA0 : AT X.l now0 j0) (hjl0 : j0 < X.l.length) (hhd : head ≤ now0) (hD : D.length ≤ 65536) :
    Calls Tryz.prog 136 #[.pointer (some ⟨X.b, 0, none⟩)] W fun e w' => tokR X now0 line head j0 D e w' := by
  have HA0 : Hid (AT X.l now0 j0) := hA0
  have hlen := hC.len
  have hc2 := h.c2
  have hc3 := h.c3
  have fz3 := h.fz 3
  have m1 := h.setFst hC now0 (z := (now0 : Int)) rfl
  have hcl := class_any hC m1 hA0
  clear h
  go_enter Tryz.func136, Tryz.ntmps136
  go_wp2_with fail
  refine wp_scope_many2 (TJ X now0 line head j0 D) (fun _ _ wr => mNow X wr) ?pass ?first
  case first =>
    intro pass
    clear pass
    by_cases hk : kl X.l j0 = 3
    · have HT : Hid (∀ W', MS X W' now0 now0 line head v0 D → Hid (TF X now0 line head j0 D 0 now0 j0 v0 W')) := fun W' m' => ⟨by decide, m', hA0, Nat.le_refl _, hjl0, (kl_asc (by omega) (by omega)).2, by unfold tokC; rw [if_pos hk], (fun h => absurd h (by decide)), (fun _ => by omega), (fun h => absurd h (by decide))⟩
      rw [hk] at hcl
      clear hk hA0
      go_wp2_with fail
      refine hcl.mono ?_
      rintro e w1 ⟨rfl, m2⟩
      go_wp2_with fail
      go_step3
      simp only [Exit.inBlock, Exit.then]
      exact ⟨now0, j0, v0, _, rfl, rfl, rfl, HT.out _ m2⟩
    have k3 := hk
    clear hk
    by_cases hk : kl X.l j0 = 4
    · have HT : Hid (∀ W', MS X W' now0 now0 line head v0 D → Hid (TF X now0 line head j0 D 1 now0 j0 v0 W')) := fun W' m' => ⟨by decide, m', hA0, Nat.le_refl _, hjl0, (kl_asc (by omega) (by omega)).2, by unfold tokC; rw [if_neg (by omega), if_pos hk], (fun h => absurd h (by decide)), (fun _ => by omega), (fun h => absurd h (by decide))⟩
      rw [hk] at hcl
      clear hk hA0
      go_wp2_with fail
      refine hcl.mono ?_
      rintro e w1 ⟨rfl, m2⟩
      go_wp2_with fail
      go_step3
      simp only [Exit.inBlock, Exit.then]
      exact ⟨now0, j0, v0, _, rfl, rfl, rfl, HT.out _ m2⟩
    have k4 := hk
    clear hk
    by_cases hk : kl X.l j0 = 6
    · have HT : Hid (∀ W', MS X W' now0 now0 line head v0 D → Hid (TF X now0 line head j0 D 2 now0 j0 v0 W')) := fun W' m' => ⟨by decide, m', hA0, Nat.le_refl _, hjl0, (kl_asc (by omega) (by omega)).2, by unfold tokC; rw [if_neg (by omega), if_neg (by omega), if_pos hk], (fun h => absurd h (by decide)), (fun _ => by omega), (fun h => absurd h (by decide))⟩
      rw [hk] at hcl
      clear hk hA0
      go_wp2_with fail
      refine hcl.mono ?_
      rintro e w1 ⟨rfl, m2⟩
      go_wp2_with fail
      go_step3
      simp only [Exit.inBlock, Exit.then]
      exact ⟨now0, j0, v0, _, rfl, rfl, rfl, HT.out _ m2⟩
    have k6 := hk
    clear hk
    by_cases hk : kl X.l j0 = 7
    · have HT : Hid (∀ W', MS X W' now0 now0 line head v0 D → Hid (TF X now0 line head j0 D 3 now0 j0 v0 W')) := fun W' m' => ⟨by decide, m', hA0, Nat.le_refl _, hjl0, (kl_asc (by omega) (by omega)).2, by unfold tokC; rw [if_neg (by omega), if_neg (by omega), if_neg (by omega), if_pos hk], fun _ => ⟨rfl, rfl, (kl7 hk).2⟩, (fun h => absurd rfl h), (fun _ => hk)⟩
      rw [hk] at hcl
      clear hk hA0
      go_wp2_with fail
      refine hcl.mono ?_
      rintro e w1 ⟨rfl, m2⟩
      go_wp2_with fail
      go_step3
      simp only [Exit.inBlock, Exit.then]
      exact ⟨now0, j0, v0, _, rfl, rfl, rfl, HT.out _ m2⟩
    have k7 := hk
    clear hk
    have HK : Hid (tokC X.l j0 = (7, j0 + sgn (X.l.drop j0))) := by
      unfold Hid tokC
      rw [if_neg k3, if_neg k4, if_neg k6, if_neg k7]
    have HN7 : Hid (kl X.l j0 ≠ 7) := k7
    obtain ⟨hat2, hl2⟩ := at_sgn hA0 (Nat.le_of_lt hjl0)
    have HAT : Hid (AT X.l (now0 + sgn (X.l.drop j0)) (j0 + sgn (X.l.drop j0))) := hat2
    have hlt := hA0.lt
    have hlt2 := hat2.lt
    have hle := hA0.le
    have hle2 := hat2.le
    have HX : Hid (∀ W', MS X W' now0 now0 line head v0 D → W'.cell? ⟨X.b, 0, none⟩ = some (.string ⟨X.l.toArray⟩) ∧ W'.cell? ⟨X.b, 1, none⟩ = some (.slice (some ⟨X.g, 0, none⟩) (chars X.l 0).length X.cap) ∧ W'.cell? ⟨X.b, 2, none⟩ = some (.int .i64 (now0 : Int)) ∧ W'.cell? ⟨X.g, now0 * 2 + 1, none⟩ = some (.int .i64 (j0 : Int))) := fun W' m' => ⟨m'.c0, m'.c1, m'.c2, m'.ca hC hA0 (Nat.le_of_lt hjl0)⟩
    have HSG : Hid (∀ W', MS X W' now0 now0 line head v0 D → Calls Tryz.prog 150 #[.string ⟨(X.l.drop j0).toArray⟩] W' fun e w' => e = .returned (.int .i64 (sgn (X.l.drop j0) : Int)) ∧ w' = W') := fun W' m' => signAt_any _ W' (hC.sg.below m'.bel)
    have hsum : Hid (IntKind.i64.wrap ((now0 : Int) + (sgn (X.l.drop j0) : Int)) = ((now0 + sgn (X.l.drop j0) : Nat) : Int)) := by unfold Hid; rw [IntKind.wrap_i64]; omega
    have e3 : ((kl X.l j0 : Int) == 3) = false := by rw [beq_eq_false_iff_ne]; omega
    have e4 : ((kl X.l j0 : Int) == 4) = false := by rw [beq_eq_false_iff_ne]; omega
    have e6 : ((kl X.l j0 : Int) == 6) = false := by rw [beq_eq_false_iff_ne]; omega
    have e7 : ((kl X.l j0 : Int) == 7) = false := by rw [beq_eq_false_iff_ne]; omega
    have hE := ext_drop X.l j0
    have n0 : (0 : Int) ≤ (now0 : Int) := by omega
    have n1 : (now0 : Int) < ((chars X.l 0).length : Int) := by omega
    have p0 : (0 : Int) ≤ (j0 : Int) := by omega
    have p1 : (j0 : Int) ≤ (X.l.length : Int) := by omega
    obtain ⟨k, hk⟩ : ∃ k, kl X.l j0 = k := ⟨_, rfl⟩
    rw [hk] at hcl e3 e4 e6 e7
    clear hk hA0 hat2 k3 k4 k6 k7
    go_wp2_with fail
    refine hcl.mono ?_
    rintro e w1 ⟨rfl, m2⟩
    go_wp2_with fail
    refine quiet_last (C := fun W => MS X W now0 now0 line head v0 D) (by kernel_rfl) (by kernel_rfl) (by kernel_rfl) (by kernel_rfl) (MS.drew m2) ?_
    simp only [List.dropLast_cons_cons, List.dropLast_singleton]
    go_big_quiet_want
    go_big_quiet_op
    go_big_quiet_on
    go_big_quiet_want
    refine ⟨.pointer (some ⟨X.b, 0, none⟩), fun W hW => ?_, ?_⟩
    · go_simp
    go_big_quiet_on
    simp only [Act.put, List.setIfInBounds_toArray, List.set_cons_zero, List.set_cons_succ]
    go_big_quiet_want
    refine ⟨.pointer (some ⟨X.b, 2, none⟩), fun W hW => ?_, ?_⟩
    · go_simp
    go_big_quiet_on
    simp only [Act.put, List.setIfInBounds_toArray, List.set_cons_zero, List.set_cons_succ]
    go_big_quiet_want
    refine ⟨.int .i64 (now0 : Int), fun W hW => ?_, ?_⟩
    · obtain ⟨x0, x1, x2, x3⟩ := HX.out W hW
      go_simp
    go_big_quiet_on
    simp only [Act.put, List.setIfInBounds_toArray, List.set_cons_zero, List.set_cons_succ]
    go_big_quiet_want
    go_big_quiet_op
    go_big_quiet_on
    go_big_quiet_want
    refine ⟨.pointer (some ⟨X.b, 0, none⟩), fun W hW => ?_, ?_⟩
    · go_simp
    go_big_quiet_on
    simp only [Act.put, List.setIfInBounds_toArray, List.set_cons_zero, List.set_cons_succ]
    go_big_quiet_want
    refine ⟨.pointer (some ⟨X.b, 0, none⟩), fun W hW => ?_, ?_⟩
    · go_simp
    go_big_quiet_on
    simp only [Act.put, List.setIfInBounds_toArray, List.set_cons_zero, List.set_cons_succ]
    go_big_quiet_want
    refine ⟨.string ⟨X.l.toArray⟩, fun W hW => ?_, ?_⟩
    · obtain ⟨x0, x1, x2, x3⟩ := HX.out W hW
      go_simp
    go_big_quiet_on
    simp only [Act.put, List.setIfInBounds_toArray, List.set_cons_zero, List.set_cons_succ]
    go_big_quiet_want
    go_big_quiet_op
    go_big_quiet_on
    go_big_quiet_want
    refine ⟨.pointer (some ⟨X.b, 0, none⟩), fun W hW => ?_, ?_⟩
    · go_simp
    go_big_quiet_on
    simp only [Act.put, List.setIfInBounds_toArray, List.set_cons_zero, List.set_cons_succ]
    go_big_quiet_want
    refine ⟨.pointer (some ⟨X.b, 1, none⟩), fun W hW => ?_, ?_⟩
    · go_simp
    go_big_quiet_on
    simp only [Act.put, List.setIfInBounds_toArray, List.set_cons_zero, List.set_cons_succ]
    go_big_quiet_want
    refine ⟨.slice (some ⟨X.g, 0, none⟩) (chars X.l 0).length X.cap, fun W hW => ?_, ?_⟩
    · obtain ⟨x0, x1, x2, x3⟩ := HX.out W hW
      go_simp
    go_big_quiet_on
    simp only [Act.put, List.setIfInBounds_toArray, List.set_cons_zero, List.set_cons_succ]
    go_big_quiet_want
    go_big_quiet_op
    go_big_quiet_on
    go_big_quiet_want
    refine ⟨.pointer (some ⟨X.b, 0, none⟩), fun W hW => ?_, ?_⟩
    · go_simp
    go_big_quiet_on
    simp only [Act.put, List.setIfInBounds_toArray, List.set_cons_zero, List.set_cons_succ]
    go_big_quiet_want
    refine ⟨.pointer (some ⟨X.b, 2, none⟩), fun W hW => ?_, ?_⟩
    · go_simp
    go_big_quiet_on
    simp only [Act.put, List.setIfInBounds_toArray, List.set_cons_zero, List.set_cons_succ]
    go_big_quiet_want
    refine ⟨.int .i64 (now0 : Int), fun W hW => ?_, ?_⟩
    · obtain ⟨x0, x1, x2, x3⟩ := HX.out W hW
      go_simp
    go_big_quiet_on
    simp only [Act.put, List.setIfInBounds_toArray, List.set_cons_zero, List.set_cons_succ]
    go_big_quiet_want
    refine ⟨.pointer (some ⟨X.g, now0 * 2, none⟩), fun W hW => ?_, ?_⟩
    · go_simp
    go_big_quiet_on
    simp only [Act.put, List.setIfInBounds_toArray, List.set_cons_zero, List.set_cons_succ]
    go_big_quiet_want
    refine ⟨.pointer (some ⟨X.g, now0 * 2 + 1, none⟩), fun W hW => ?_, ?_⟩
    · go_simp
    go_big_quiet_on
    simp only [Act.put, List.setIfInBounds_toArray, List.set_cons_zero, List.set_cons_succ]
    go_big_quiet_want
    refine ⟨.int .i64 (j0 : Int), fun W hW => ?_, ?_⟩
    · obtain ⟨x0, x1, x2, x3⟩ := HX.out W hW
      go_simp
    go_big_quiet_on
    simp only [Act.put, List.setIfInBounds_toArray, List.set_cons_zero, List.set_cons_succ]
    go_big_quiet_want
    refine ⟨.string ⟨(X.l.drop j0).toArray⟩, fun W hW => ?_, ?_⟩
    · go_simp
    go_big_quiet_on
    simp only [Act.put, List.setIfInBounds_toArray, List.set_cons_zero, List.set_cons_succ]
    go_big_quiet_want
    refine ⟨.int .i64 (sgn (X.l.drop j0) : Int), fun W hW => ?_, ?_⟩
    · go_simp
      refine (HSG.out W hW).mono ?_
      rintro e w7 ⟨rfl, rfl⟩
      exact ⟨rfl, hW⟩
    go_big_quiet_on
    simp only [Act.put, List.setIfInBounds_toArray, List.set_cons_zero, List.set_cons_succ]
    go_big_quiet_want
    refine ⟨.int .i64 ((now0 + sgn (X.l.drop j0) : Nat) : Int), fun W hW => ?_, ?_⟩
    · go_simp
      exact hsum.out
    go_big_quiet_on
    simp only [Act.put, List.setIfInBounds_toArray, List.set_cons_zero, List.set_cons_succ]
    go_big_quiet_want
    refine ⟨.pointer (some ⟨X.b, 0, none⟩), fun W hW => ?_, ?_⟩
    · go_simp
    go_big_quiet_on
    simp only [Act.put, List.setIfInBounds_toArray, List.set_cons_zero, List.set_cons_succ]
    go_big_quiet_want
    refine ⟨.pointer (some ⟨X.b, 2, none⟩), fun W hW => ?_, ?_⟩
    · go_simp
    go_big_quiet_on
    simp only [Act.put, List.setIfInBounds_toArray, List.set_cons_zero, List.set_cons_succ]
    refine wpQuiet_nil ?_
    intro W hW
    have y2 := hW.c2
    have z2 := hW.fz 2
    have m3 := hW.setNow hC (now0 + sgn (X.l.drop j0)) (z := ((now0 + sgn (X.l.drop j0) : Nat) : Int)) rfl
    refine wpOp_go rfl rfl ?_
    go_simp
    go_wp2_with fail
    refine (whole_any hC hF m3 HA0.out HAT.out (by omega) (by omega) hhd hD 7 (by decide) (by decide) (by intro h; cases h)).mono ?_
    rintro e w9 ⟨rfl, v9, m9⟩
    go_wp2_with fail
    refine jump_ret (bodyPost_ret (results_tk _ _) rfl ?_)
    exact tokR_of_whole HAT.out HA0.out HK.out (fun x => absurd x HN7.out) ⟨rfl, v9, m9⟩
  case pass =>
    intro lab a wr hJ
    have hlab : lab = 0 ∨ lab = 1 ∨ lab = 2 ∨ lab = 3 ∨ lab = 4 := by
      obtain ⟨_, _, _, _, _, _, _, HF⟩ := hJ
      exact HF.out.1
    rcases hlab with rfl | rfl | rfl | rfl | rfl
    · exact tk0 hC hF hA0 hhd hD (fun tmps W' h => bodyPost_ret (results_tk _ _) rfl h) a wr hJ _ _ rfl
    · exact tk1 hC hF hA0 hhd hD (fun tmps W' h => bodyPost_ret (results_tk _ _) rfl h) a wr hJ _ _ rfl
    · exact tk2 hC hF hA0 hhd hD (fun tmps W' h => bodyPost_ret (results_tk _ _) rfl h) a wr hJ _ _ rfl
    · exact tk3 hC hF hA0 hhd hD (fun tmps W' h => bodyPost_ret (results_tk _ _) rfl h) a wr hJ _ _ rfl
    · exact tk4 hC hF hA0 hhd hD (fun tmps W' h => bodyPost_ret (results_tk _ _) rfl h) a wr hJ _ _ rfl
end Go.Proofs.YtnboehlbcjfndaaGreatDoor

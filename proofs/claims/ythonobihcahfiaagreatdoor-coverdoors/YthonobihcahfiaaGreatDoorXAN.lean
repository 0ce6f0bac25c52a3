import Derived.Test.YthonobihcahfiaaGreatDoorXAM
import Derived.Test.YthonobihcahfiaaGreatDoorXAK
import Derived.OwnWalk
import Derived.Shelf.Strconv.Clone
import Derived.Ground.NamesProg
import Derived.Test.YthonobihcahfiaaGreatDoorProg
import Derived.Test.YthonobihcahfiaaGreatDoorXAC
import Derived.Test.YthonobihcahfiaaGreatDoorXAD
import Derived.Deep.QuietTactic
namespace Go.Proofs.YthonobihcahfiaaGreatDoor
open Go.RowKit Go.Shelf
theorem wpOp_go {P : Program} {ops : Array Oper} {Q : Exit → Act → World → Prop} {n : Nat} {K : Act → World → Prop} {a : Act} {w : World} {o : Oper} (ho : ops[n]? = some o) (hg : o.guard = none) (h : o.wp P a w K Q) : wpOp P ops Q n K a w := by
  unfold wpOp
  rw [ho]
  have hw : Region.wanted o (yielded ops a.tmps) = true := by simp [Region.wanted, hg]
  simp only [hw, if_true]
  exact .inl h
theorem kl7 {l : List UInt8} {j : Nat} (h : kl l j = 7) : j < l.length ∧ bt l j = 34 := by
  unfold kl cls at h
  by_cases h1 : chr l j = 34
  · exact (chr_asc l j 34 (by decide)).1 h1
  · repeat' split at h
    all_goals first | omega | contradiction
set_option maxRecDepth 100000 in
set_option maxHeartbeats 4000000 in
theorem token_any {X : MX} (hC : MC X) (hF : FOK X.w0) {W : World} {now0 fst line head : Nat} {v0 : Value} {D : List Tok} (h : MS X W now0 fst line head v0 D) {j0 : Nat} (hA0 : AT X.l now0 j0) (hjl0 : j0 < X.l.length) (hhd : head ≤ now0) (hD : D.length ≤ 65536) :
    Calls Tryz.prog 68 #[.pointer (some ⟨X.b, 0, none⟩)] W fun e w' => tokR X now0 line head j0 D e w' := by
  have HA0 : Hid (AT X.l now0 j0) := hA0
  have hlen := hC.len
  have hc2 := h.c2
  have hc3 := h.c3
  have fz3 := h.fz 3
  have m1 := h.setFst hC now0 (z := (now0 : Int)) rfl
  have hcl := class_any hC m1 hA0
  clear h
  go_enter Tryz.func68, Tryz.ntmps68
  go_wp2_with fail
  refine wp_scope_many2 (TJ X now0 line head j0 D) (fun _ _ wr => mNow X wr) ?pass ?first
  case first =>
    intro pass
    clear pass
    by_cases hk : kl X.l j0 = 3
    · have HT : Hid (∀ W', MS X W' now0 now0 line head v0 D → Hid (TF X now0 line head j0 D 0 now0 j0 v0 W')) := fun W' m' => ⟨by decide, m', hA0, Nat.le_refl _, hjl0, (kl_asc (by omega) (by omega)).2, by unfold tokC; rw [if_pos hk], (fun h => absurd h (by decide)), (fun _ => by omega), (fun h => absurd h (by decide))⟩
      rw [hk] at hcl
      clear hk hA0
      go_wp2_with fail
      refine hcl.mono ?_
      rintro e w1 ⟨rfl, m2⟩
      go_wp2_with fail
      go_step3
      simp only [Exit.inBlock, Exit.then]
      exact ⟨now0, j0, v0, _, rfl, rfl, rfl, HT.out _ m2⟩
    have k3 := hk
    clear hk
    by_cases hk : kl X.l j0 = 4
    · have HT : Hid (∀ W', MS X W' now0 now0 line head v0 D → Hid (TF X now0 line head j0 D 1 now0 j0 v0 W')) := fun W' m' => ⟨by decide, m', hA0, Nat.le_refl _, hjl0, (kl_asc (by omega) (by omega)).2, by unfold tokC; rw [if_neg (by omega), if_pos hk], (fun h => absurd h (by decide)), (fun _ => by omega), (fun h => absurd h (by decide))⟩
      rw [hk] at hcl
      clear hk hA0
      go_wp2_with fail
      refine hcl.mono ?_
      rintro e w1 ⟨rfl, m2⟩
      go_wp2_with fail
      go_step3
      simp only [Exit.inBlock, Exit.then]
      exact ⟨now0, j0, v0, _, rfl, rfl, rfl, HT.out _ m2⟩
    have k4 := hk
    clear hk
    by_cases hk : kl X.l j0 = 6
    · have HT : Hid (∀ W', MS X W' now0 now0 line head v0 D → Hid (TF X now0 line head j0 D 2 now0 j0 v0 W')) := fun W' m' => ⟨by decide, m', hA0, Nat.le_refl _, hjl0, (kl_asc (by omega) (by omega)).2, by unfold tokC; rw [if_neg (by omega), if_neg (by omega), if_pos hk], (fun h => absurd h (by decide)), (fun _ => by omega), (fun h => absurd h (by decide))⟩
      rw [hk] at hcl
      clear hk hA0
      go_wp2_with fail
      refine hcl.mono ?_
      rintro e w1 ⟨rfl, m2⟩
      go_wp2_with fail
      go_step3
      simp only [Exit.inBlock, Exit.then]
      exact ⟨now0, j0, v0, _, rfl, rfl, rfl, HT.out _ m2⟩
    have k6 := hk
    clear hk
    by_cases hk : kl X.l j0 = 7
    · have HT : Hid (∀ W', MS X W' now0 now0 line head v0 D → Hid (TF X now0 line head j0 D 3 now0 j0 v0 W')) := fun W' m' => ⟨by decide, m', hA0, Nat.le_refl _, hjl0, (kl_asc (by omega) (by omega)).2, by unfold tokC; rw [if_neg (by omega), if_neg (by omega), if_neg (by omega), if_pos hk], fun _ => ⟨rfl, rfl, (kl7 hk).2⟩, (fun h => absurd rfl h), (fun _ => hk)⟩
      rw [hk] at hcl
      clear hk hA0
      go_wp2_with fail
      refine hcl.mono ?_
      rintro e w1 ⟨rfl, m2⟩
      go_wp2_with fail
      go_step3
      simp only [Exit.inBlock, Exit.then]
      exact ⟨now0, j0, v0, _, rfl, rfl, rfl, HT.out _ m2⟩
    have k7 := hk
    clear hk
    have HK : Hid (tokC X.l j0 = (7, j0 + sgn (X.l.drop j0))) := by
      unfold Hid tokC
      rw [if_neg k3, if_neg k4, if_neg k6, if_neg k7]
    have HN7 : Hid (kl X.l j0 ≠ 7) := k7
    obtain ⟨hat2, hl2⟩ := at_sgn hA0 (Nat.le_of_lt hjl0)
    have HAT : Hid (AT X.l (now0 + sgn (X.l.drop j0)) (j0 + sgn (X.l.drop j0))) := hat2
    have hlt := hA0.lt
    have hlt2 := hat2.lt
    have hle := hA0.le
    have hle2 := hat2.le
    have HX : Hid (∀ W', MS X W' now0 now0 line head v0 D → W'.cell? ⟨X.b, 0, none⟩ = some (.string ⟨X.l.toArray⟩) ∧ W'.cell? ⟨X.b, 1, none⟩ = some (.slice (some ⟨X.g, 0, none⟩) (chars X.l 0).length X.cap) ∧ W'.cell? ⟨X.b, 2, none⟩ = some (.int .i64 (now0 : Int)) ∧ W'.cell? ⟨X.g, now0 * 2 + 1, none⟩ = some (.int .i64 (j0 : Int))) := fun W' m' => ⟨m'.c0, m'.c1, m'.c2, m'.ca hC hA0 (Nat.le_of_lt hjl0)⟩
    have HSG : Hid (∀ W', MS X W' now0 now0 line head v0 D → Calls Tryz.prog 76 #[.string ⟨(X.l.drop j0).toArray⟩] W' fun e w' => e = .returned (.int .i64 (sgn (X.l.drop j0) : Int)) ∧ w' = W') := fun W' m' => signAt_any _ W' (hC.sg.below m'.bel)
    have hsum : Hid (IntKind.i64.wrap ((now0 : Int) + (sgn (X.l.drop j0) : Int)) = ((now0 + sgn (X.l.drop j0) : Nat) : Int)) := by unfold Hid; rw [IntKind.wrap_i64]; omega
    have e3 : ((kl X.l j0 : Int) == 3) = false := by rw [beq_eq_false_iff_ne]; omega
    have e4 : ((kl X.l j0 : Int) == 4) = false := by rw [beq_eq_false_iff_ne]; omega
    have e6 : ((kl X.l j0 : Int) == 6) = false := by rw [beq_eq_false_iff_ne]; omega
    have e7 : ((kl X.l j0 : Int) == 7) = false := by rw [beq_eq_false_iff_ne]; omega
    have hE := ext_drop X.l j0
    have n0 : (0 : Int) ≤ (now0 : Int) := by omega
    have n1 : (now0 : Int) < ((chars X.l 0).length : Int) := by omega
    have p0 : (0 : Int) ≤ (j0 : Int) := by omega
    have p1 : (j0 : Int) ≤ (X.l.length : Int) := by omega
    obtain ⟨k, hk⟩ : ∃ k, kl X.l j0 = k := ⟨_, rfl⟩
    rw [hk] at hcl e3 e4 e6 e7
    clear hk hA0 hat2 k3 k4 k6 k7
    go_wp2_with fail
    refine hcl.mono ?_
    rintro e w1 ⟨rfl, m2⟩
    go_wp2_with fail
    refine quiet_last (C := fun W => MS X W now0 now0 line head v0 D) (by kernel_rfl) (by kernel_rfl) (by kernel_rfl) (by kernel_rfl) (MS.drew m2) ?_
    simp only [List.dropLast_cons_cons, List.dropLast_singleton]
    go_big_quiet_want
    go_big_quiet_op
    go_big_quiet_on
    go_big_quiet_want
    refine ⟨.pointer (some ⟨X.b, 0, none⟩), fun W hW => ?_, ?_⟩
    · go_simp
    go_big_quiet_on
    simp only [Act.put, List.setIfInBounds_toArray, List.set_cons_zero, List.set_cons_succ]
    go_big_quiet_want
    refine ⟨.pointer (some ⟨X.b, 2, none⟩), fun W hW => ?_, ?_⟩
    · go_simp
    go_big_quiet_on
    simp only [Act.put, List.setIfInBounds_toArray, List.set_cons_zero, List.set_cons_succ]
    go_big_quiet_want
    refine ⟨.int .i64 (now0 : Int), fun W hW => ?_, ?_⟩
    · obtain ⟨x0, x1, x2, x3⟩ := HX.out W hW
      go_simp
    go_big_quiet_on
    simp only [Act.put, List.setIfInBounds_toArray, List.set_cons_zero, List.set_cons_succ]
    go_big_quiet_want
    go_big_quiet_op
    go_big_quiet_on
    go_big_quiet_want
    refine ⟨.pointer (some ⟨X.b, 0, none⟩), fun W hW => ?_, ?_⟩
    · go_simp
    go_big_quiet_on
    simp only [Act.put, List.setIfInBounds_toArray, List.set_cons_zero, List.set_cons_succ]
    go_big_quiet_want
    refine ⟨.pointer (some ⟨X.b, 0, none⟩), fun W hW => ?_, ?_⟩
    · go_simp
    go_big_quiet_on
    simp only [Act.put, List.setIfInBounds_toArray, List.set_cons_zero, List.set_cons_succ]
    go_big_quiet_want
    refine ⟨.string ⟨X.l.toArray⟩, fun W hW => ?_, ?_⟩
    · obtain ⟨x0, x1, x2, x3⟩ := HX.out W hW
      go_simp
    go_big_quiet_on
    simp only [Act.put, List.setIfInBounds_toArray, List.set_cons_zero, List.set_cons_succ]
    go_big_quiet_want
    go_big_quiet_op
    go_big_quiet_on
    go_big_quiet_want
    refine ⟨.pointer (some ⟨X.b, 0, none⟩), fun W hW => ?_, ?_⟩
    · go_simp
    go_big_quiet_on
    simp only [Act.put, List.setIfInBounds_toArray, List.set_cons_zero, List.set_cons_succ]
    go_big_quiet_want
    refine ⟨.pointer (some ⟨X.b, 1, none⟩), fun W hW => ?_, ?_⟩
    · go_simp
    go_big_quiet_on
    simp only [Act.put, List.setIfInBounds_toArray, List.set_cons_zero, List.set_cons_succ]
    go_big_quiet_want
    refine ⟨.slice (some ⟨X.g, 0, none⟩) (chars X.l 0).length X.cap, fun W hW => ?_, ?_⟩
    · obtain ⟨x0, x1, x2, x3⟩ := HX.out W hW
      go_simp
    go_big_quiet_on
    simp only [Act.put, List.setIfInBounds_toArray, List.set_cons_zero, List.set_cons_succ]
    go_big_quiet_want
    go_big_quiet_op
    go_big_quiet_on
    go_big_quiet_want
    refine ⟨.pointer (some ⟨X.b, 0, none⟩), fun W hW => ?_, ?_⟩
    · go_simp
    go_big_quiet_on
    simp only [Act.put, List.setIfInBounds_toArray, List.set_cons_zero, List.set_cons_succ]
    go_big_quiet_want
    refine ⟨.pointer (some ⟨X.b, 2, none⟩), fun W hW => ?_, ?_⟩
    · go_simp
    go_big_quiet_on
    simp only [Act.put, List.setIfInBounds_toArray, List.set_cons_zero, List.set_cons_succ]
    go_big_quiet_want
    refine ⟨.int .i64 (now0 : Int), fun W hW => ?_, ?_⟩
    · obtain ⟨x0, x1, x2, x3⟩ := HX.out W hW
      go_simp
    go_big_quiet_on
    simp only [Act.put, List.setIfInBounds_toArray, List.set_cons_zero, List.set_cons_succ]
    go_big_quiet_want
    refine ⟨.pointer (some ⟨X.g, now0 * 2, none⟩), fun W hW => ?_, ?_⟩
    · go_simp
    go_big_quiet_on
    simp only [Act.put, List.setIfInBounds_toArray, List.set_cons_zero, List.set_cons_succ]
    go_big_quiet_want
    refine ⟨.pointer (some ⟨X.g, now0 * 2 + 1, none⟩), fun W hW => ?_, ?_⟩
    · go_simp
    go_big_quiet_on
    simp only [Act.put, List.setIfInBounds_toArray, List.set_cons_zero, List.set_cons_succ]
    go_big_quiet_want
    refine ⟨.int .i64 (j0 : Int), fun W hW => ?_, ?_⟩
    · obtain ⟨x0, x1, x2, x3⟩ := HX.out W hW
      go_simp
    go_big_quiet_on
    simp only [Act.put, List.setIfInBounds_toArray, List.set_cons_zero, List.set_cons_succ]
    go_big_quiet_want
    refine ⟨.string ⟨(X.l.drop j0).toArray⟩, fun W hW => ?_, ?_⟩
    · go_simp
    go_big_quiet_on
    simp only [Act.put, List.setIfInBounds_toArray, List.set_cons_zero, List.set_cons_succ]
    go_big_quiet_want
    refine ⟨.int .i64 (sgn (X.l.drop j0) : Int), fun W hW => ?_, ?_⟩
    · go_simp
      refine (HSG.out W hW).mono ?_
      rintro e w7 ⟨rfl, rfl⟩
      exact ⟨rfl, hW⟩
    go_big_quiet_on
    simp only [Act.put, List.setIfInBounds_toArray, List.set_cons_zero, List.set_cons_succ]
    go_big_quiet_want
    refine ⟨.int .i64 ((now0 + sgn (X.l.drop j0) : Nat) : Int), fun W hW => ?_, ?_⟩
    · go_simp
      exact hsum.out
    go_big_quiet_on
    simp only [Act.put, List.setIfInBounds_toArray, List.set_cons_zero, List.set_cons_succ]
    go_big_quiet_want
    refine ⟨.pointer (some ⟨X.b, 0, none⟩), fun W hW => ?_, ?_⟩
    · go_simp
    go_big_quiet_on
    simp only [Act.put, List.setIfInBounds_toArray, List.set_cons_zero, List.set_cons_succ]
    go_big_quiet_want
    refine ⟨.pointer (some ⟨X.b, 2, none⟩), fun W hW => ?_, ?_⟩
    · go_simp
    go_big_quiet_on
    simp only [Act.put, List.setIfInBounds_toArray, List.set_cons_zero, List.set_cons_succ]
    refine wpQuiet_nil ?_
    intro W hW
    have y2 := hW.c2
    have z2 := hW.fz 2
    have m3 := hW.setNow hC (now0 + sgn (X.l.drop j0)) (z := ((now0 + sgn (X.l.drop j0) : Nat) : Int)) rfl
    refine wpOp_go rfl rfl ?_
    go_simp
    go_wp2_with fail
    refine (whole_any hC hF m3 HA0.out HAT.out (by omega) (by omega) hhd hD 7 (by decide) (by decide) (by intro h; cases h)).mono ?_
    rintro e w9 ⟨rfl, v9, m9⟩
    go_wp2_with fail
    refine jump_ret (bodyPost_ret (results_tk _ _) rfl ?_)
    exact tokR_of_whole HAT.out HA0.out HK.out (fun x => absurd x HN7.out) ⟨rfl, v9, m9⟩
  case pass =>
    intro lab a wr hJ
    have hlab : lab = 0 ∨ lab = 1 ∨ lab = 2 ∨ lab = 3 ∨ lab = 4 := by
      obtain ⟨_, _, _, _, _, _, _, HF⟩ := hJ
      exact HF.out.1
    rcases hlab with rfl | rfl | rfl | rfl | rfl
    · exact tk0 hC hF hA0 hhd hD (fun tmps W' h => bodyPost_ret (results_tk _ _) rfl h) a wr hJ _ _ rfl
    · exact tk1 hC hF hA0 hhd hD (fun tmps W' h => bodyPost_ret (results_tk _ _) rfl h) a wr hJ _ _ rfl
    · exact tk2 hC hF hA0 hhd hD (fun tmps W' h => bodyPost_ret (results_tk _ _) rfl h) a wr hJ _ _ rfl
    · exact tk3 hC hF hA0 hhd hD (fun tmps W' h => bodyPost_ret (results_tk _ _) rfl h) a wr hJ _ _ rfl
    · exact tk4 hC hF hA0 hhd hD (fun tmps W' h => bodyPost_ret (results_tk _ _) rfl h) a wr hJ _ _ rfl
end Go.Proofs.YthonobihcahfiaaGreatDoor
namespace Go.Proofs.YthonobihcahfiaaGreatDoor
open Go.RowKit Go.Shelf
set_option maxRecDepth 100000 in
set_option maxHeartbeats 4000000 in
theorem rn0 {X : MX} (hC : MC X) (hF : FOK X.w0) {R : Res} {Q : Exit → Act → World → Prop} (hQ0 : ∀ tmps W', RunR X R (.returned (tmps.getD 2 undef)) W' → Q .ret { tmps := tmps, defers := [] } W')
    (a : Act) (wr : World) (hJ : RJ X R 0 a wr) (R0 c : Code) (hc : Tryz.f55.body = some (.seq R0 (.scope c))) : ∃ X', findLabel c 0 = some (.seq .skip X') ∧ X'.wp Tryz.prog (jumpN (fun l' a' w' => RJ X R l' a' w' ∧ rM X l' w' < rM X 0 wr) Q) a wr := by
  have hQ : Hid (∀ tmps W', RunR X R (.returned (tmps.getD 2 undef)) W' → Q .ret { tmps := tmps, defers := [] } W') := hQ0
  have hlen := hC.len
  clear hQ0
  unfold Tryz.f55 at hc
  injection hc with hc
  injection hc with _ hc
  injection hc with hc
  subst hc
  refine ⟨_, rfl, ?_⟩
  obtain ⟨now, j, fst, line, head, hb, v, D, u, rfl, hu, h0, HF⟩ := hJ
  obtain ⟨u0, u1, u2, u3, u4, u5, u6, u7, u8, u9, u10, u11, u12, u13, u14, u15, u16, u17, u18, u19, u20, u21, u22, u23, u24, u25, u26, u27, u28, u29, u30, u31, u32, u33, u34, u35, u36, u37, u38, u39, u40, u41, u42, u43, u44, u45, u46, u47, u48, u49, u50, u51, u52, u53, u54, u55, u56, u57, u58, u59, u60, u61, u62, u63, u64, u65, u66, rfl⟩ := arr_67 u hu
  have e0 : u0 = .pointer (some ⟨X.b, 0, none⟩) := h0
  subst e0
  clear hu h0
  obtain ⟨-, m, hat, hah, hhn, hjl, hDl, hln, f0, f1, f2⟩ := HF.out
  clear HF
  have hc2 := m.c2
  have fz2 := m.fz 2
  have hle := hat.le
  have hlt := hat.lt
  have hM0 := mNow_of m
  have n0 : (0 : Int) ≤ (now : Int) := by omega
  have n1 : (now : Int) ≤ 16384 := by omega
  obtain ⟨f, hf, hrun⟩ := f0 rfl
  clear f0 f1 f2
  obtain ⟨f, rfl⟩ : ∃ g, f = g + 1 := ⟨f - 1, by omega⟩
  have hcl := class_any hC m hat
  by_cases k2 : kl X.l j = 2
  · obtain ⟨hj1, ha1⟩ := kl_asc (l := X.l) (j := j) (by omega) (by omega)
    have hat1 := hat.asc hj1 ha1
    have HH : Hid (∀ (v' : Value) (W' : World), MS X W' (now + 1) fst line head v' D → Hid (RF X R 0 (now + 1) (j + 1) fst line head hb v' D W') ∧ rM X 0 W' < rM X 0 wr) := fun v' W' m' => ⟨⟨by decide, m', hat1, hah, by omega, by omega, by omega, by omega, (fun _ => ⟨f, by omega, by rw [← hrun, runM_blank k2]⟩), (fun h => absurd h (by decide)), (fun h => absurd h (by decide))⟩, by unfold rM; rw [mNow_of m', hM0]; omega⟩
    rw [k2] at hcl
    have HS : Hid (∀ W', MS X W' now fst line head v D → MS X (W'.setCell ⟨X.b, 2, none⟩ (.int .i64 ((now : Int) + 1))) (now + 1) fst line head v D) := fun W' m' => m'.setNow hC (now + 1) (by omega)
    clear hrun hat hat1 hah hM0 k2 ha1 m
    go_wp2_with fail
    refine hcl.mono ?_
    rintro e w1 ⟨rfl, m1⟩
    have hd2 := m1.c2
    have hz2 := m1.fz 2
    have m2 := HS.out _ m1
    go_wp2_with fail
    go_step3
    try simp only [Exit.inBlock, Exit.then]
    exact ⟨⟨now + 1, j + 1, fst, line, head, hb, v, D, _, rfl, rfl, rfl, (HH.out _ _ m2).1⟩, (HH.out _ _ m2).2⟩
  have e2 : ((kl X.l j : Int) == 2) = false := by rw [beq_eq_false_iff_ne]; omega
  by_cases k8 : kl X.l j = 8
  · obtain ⟨hj1, ha1⟩ := kl_asc (l := X.l) (j := j) (by omega) (by omega)
    have HH : Hid (∀ (v' : Value) (W' : World), MS X W' now fst line head v' D → Hid (RF X R 1 now j fst line head hb v' D W') ∧ rM X 1 W' < rM X 0 wr) := fun v' W' m' => ⟨⟨by decide, m', hat, hah, hhn, hjl, hDl, hln, (fun h => absurd h (by decide)), (fun _ => ⟨hj1, by omega, f, by omega, by rw [← hrun, runM_hash k8, dc_asc ha1]⟩), (fun h => absurd h (by decide))⟩, by unfold rM; rw [mNow_of m', hM0]; simp⟩
    rw [k8] at hcl
    clear hrun hat hah hM0 k8 ha1 m e2 k2
    go_wp2_with fail
    refine hcl.mono ?_
    rintro e w1 ⟨rfl, m2⟩
    go_wp2_with fail
    go_step3
    try simp only [Exit.inBlock, Exit.then]
    exact ⟨⟨now, j, fst, line, head, hb, v, D, _, rfl, rfl, rfl, (HH.out _ _ m2).1⟩, (HH.out _ _ m2).2⟩
  have e8 : ((kl X.l j : Int) == 8) = false := by rw [beq_eq_false_iff_ne]; omega
  by_cases k1 : kl X.l j = 1
  · have HH : Hid (∀ (v' : Value) (W' : World), MS X W' now fst line head v' D → Hid (RF X R 2 now j fst line head hb v' D W') ∧ rM X 2 W' < rM X 0 wr) := fun v' W' m' => ⟨⟨by decide, m', hat, hah, hhn, hjl, hDl, hln, (fun h => absurd h (by decide)), (fun h => absurd h (by decide)), (fun _ => ⟨.inl k1, f, by omega, by rw [← hrun, runM_end (.inl k1)]⟩)⟩, by unfold rM; rw [mNow_of m', hM0]; simp⟩
    rw [k1] at hcl
    clear hrun hat hah hM0 k1 m e2 k2 e8 k8
    go_wp2_with fail
    refine hcl.mono ?_
    rintro e w1 ⟨rfl, m2⟩
    go_wp2_with fail
    go_step3
    try simp only [Exit.inBlock, Exit.then]
    exact ⟨⟨now, j, fst, line, head, hb, v, D, _, rfl, rfl, rfl, (HH.out _ _ m2).1⟩, (HH.out _ _ m2).2⟩
  have e1 : ((kl X.l j : Int) == 1) = false := by rw [beq_eq_false_iff_ne]; omega
  by_cases k0 : kl X.l j = 0
  · have HH : Hid (∀ (v' : Value) (W' : World), MS X W' now fst line head v' D → Hid (RF X R 2 now j fst line head hb v' D W') ∧ rM X 2 W' < rM X 0 wr) := fun v' W' m' => ⟨⟨by decide, m', hat, hah, hhn, hjl, hDl, hln, (fun h => absurd h (by decide)), (fun h => absurd h (by decide)), (fun _ => ⟨.inr k0, f, by omega, by rw [← hrun, runM_end (.inr k0)]⟩)⟩, by unfold rM; rw [mNow_of m', hM0]; simp⟩
    rw [k0] at hcl
    clear hrun hat hah hM0 k0 m e2 k2 e8 k8 e1 k1
    go_wp2_with fail
    refine hcl.mono ?_
    rintro e w1 ⟨rfl, m2⟩
    go_wp2_with fail
    go_step3
    try simp only [Exit.inBlock, Exit.then]
    exact ⟨⟨now, j, fst, line, head, hb, v, D, _, rfl, rfl, rfl, (HH.out _ _ m2).1⟩, (HH.out _ _ m2).2⟩
  have e00 : ((kl X.l j : Int) == 0) = false := by rw [beq_eq_false_iff_ne]; omega
  have hjlt : j < X.l.length := Classical.byContradiction (fun h => k0 (kl0.2 h))
  have HT : Hid (∀ W', MS X W' now fst line head v D → Calls Tryz.prog 68 #[.pointer (some ⟨X.b, 0, none⟩)] W' fun e w' => tokR X now line head j D e w') := fun W' m' => token_any hC hF m' hat hjlt hhn (by omega)
  unfold tokR at HT
  by_cases ht : tokE X.l j = 0
  · obtain ⟨ha1, ha2⟩ := tok_adv hjlt k1 ht
    have HH : Hid (∀ (n' : Nat) (v' : Value) (W' : World), AT X.l n' (tokJ X.l j) → MS X W' n' now line head v' (D ++ [((tokC X.l j).1, subL X.l j (tokC X.l j).2, line, now - head + 1)]) → Hid (RF X R 0 n' (tokJ X.l j) now line head hb v' (D ++ [((tokC X.l j).1, subL X.l j (tokC X.l j).2, line, now - head + 1)]) W') ∧ rM X 0 W' < rM X 0 wr) := fun n' v' W' a' m' => by
      have hmo := at_mono hat a' ha1 ha2
      have hlt' := a'.lt
      refine ⟨⟨by decide, m', a', hah, by omega, ha2, by simp; omega, by omega, (fun _ => ⟨f, by omega, ?_⟩), (fun h => absurd h (by decide)), (fun h => absurd h (by decide))⟩, by unfold rM; rw [mNow_of m', hM0]; simp; omega⟩
      rw [← hrun, runM_tok k2 k8 k1 k0 ht, ← hat.ci, ← hah.ci]
    rw [ht] at HT
    simp only [if_true] at HT
    obtain ⟨T, hT⟩ : ∃ T, D ++ [((tokC X.l j).1, subL X.l j (tokC X.l j).2, line, now - head + 1)] = T := ⟨_, rfl⟩
    rw [hT] at HH HT
    obtain ⟨k, hk⟩ : ∃ k, kl X.l j = k := ⟨_, rfl⟩
    rw [hk] at hcl e2 e8 e1 e00
    clear hrun hat hah hM0 m k2 k8 k1 k0 hT hk ht
    go_wp2_with fail
    refine hcl.mono ?_
    rintro e w1 ⟨rfl, m1⟩
    go_wp2_with fail
    refine (HT.out _ m1).mono ?_
    rintro e w2 ⟨rfl, n', v', a', m2⟩
    go_wp2_with fail
    go_step3
    simp only [Exit.then]
    exact ⟨⟨n', tokJ X.l j, now, line, head, hb, v', T, _, rfl, rfl, rfl, (HH.out n' v' _ a' m2).1⟩, (HH.out n' v' _ a' m2).2⟩
  · obtain ⟨ha1, ha2⟩ := tok_ge hjlt ht
    have hfl : tokE X.l j < 1000 := by
      unfold tokE
      split
      · exact quoE_lt _ _
      · exact faultE_lt _ _
    have HR : Hid (∀ (n' : Nat) (v' : Value) (W' : World), AT X.l n' (tokJ X.l j) → MS X W' n' now line head v' D → RunR X R (.returned (.int .i64 (tokE X.l j : Int))) W') := fun n' v' W' a' m' => by
      have hR : R = ([], tokE X.l j, line, n' - head + 1) := by rw [← hrun, runM_err k2 k8 k1 k0 ht, ← a'.ci, ← hah.ci]
      have hnn : now ≤ n' := by
        rcases Nat.lt_or_ge j (tokJ X.l j) with h | h
        · exact Nat.le_of_lt (at_mono hat a' h ha2)
        · have e : tokJ X.l j = j := by omega
          rw [e] at a'
          rw [hat.ci, a'.ci]
          exact Nat.le_refl _
      have hle' := a'.le
      refine ⟨by rw [hR], n', now, line, head, v', D, m', by omega, by omega, fun h => ?_, fun _ => by rw [hR]⟩
      rw [hR] at h
      exact absurd h ht
    simp only [if_neg ht] at HT
    obtain ⟨E, hE⟩ : ∃ E, tokE X.l j = E := ⟨_, rfl⟩
    rw [hE] at HT HR ht hfl
    have t0 : ((E : Int) == 0) = false := by rw [beq_eq_false_iff_ne]; omega
    have t1 : ((E : Int) != 0) = true := by rw [bne, t0]; rfl
    obtain ⟨k, hk⟩ : ∃ k, kl X.l j = k := ⟨_, rfl⟩
    rw [hk] at hcl e2 e8 e1 e00
    clear hrun hat hah hM0 m k2 k8 k1 k0 hE hk
    go_wp2_with fail
    refine hcl.mono ?_
    rintro e w1 ⟨rfl, m1⟩
    go_wp2_with fail
    refine (HT.out _ m1).mono ?_
    rintro e w2 ⟨rfl, n', v', a', m2⟩
    go_wp2_with fail
    refine jump_ret (hQ.out _ _ ?_)
    exact HR.out n' v' _ a' m2
end Go.Proofs.YthonobihcahfiaaGreatDoor
namespace Go.Proofs.YthonobihcahfiaaGreatDoor
open Go.RowKit Go.Shelf
set_option maxRecDepth 100000 in
set_option maxHeartbeats 4000000 in
theorem rn2 {X : MX} (hC : MC X) {R : Res} {Q : Exit → Act → World → Prop} (hQ0 : ∀ tmps W', RunR X R (.returned (tmps.getD 2 undef)) W' → Q .ret { tmps := tmps, defers := [] } W')
    (a : Act) (wr : World) (hJ : RJ X R 2 a wr) (R0 c : Code) (hc : Tryz.f55.body = some (.seq R0 (.scope c))) : ∃ X', findLabel c 2 = some (.seq .skip X') ∧ X'.wp Tryz.prog (jumpN (fun l' a' w' => RJ X R l' a' w' ∧ rM X l' w' < rM X 2 wr) Q) a wr := by
  have hQ : Hid (∀ tmps W', RunR X R (.returned (tmps.getD 2 undef)) W' → Q .ret { tmps := tmps, defers := [] } W') := hQ0
  have hlen := hC.len
  clear hQ0
  unfold Tryz.f55 at hc
  injection hc with hc
  injection hc with _ hc
  injection hc with hc
  subst hc
  refine ⟨_, rfl, ?_⟩
  obtain ⟨now, j, fst, line, head, hb, v, D, u, rfl, hu, h0, HF⟩ := hJ
  obtain ⟨u0, u1, u2, u3, u4, u5, u6, u7, u8, u9, u10, u11, u12, u13, u14, u15, u16, u17, u18, u19, u20, u21, u22, u23, u24, u25, u26, u27, u28, u29, u30, u31, u32, u33, u34, u35, u36, u37, u38, u39, u40, u41, u42, u43, u44, u45, u46, u47, u48, u49, u50, u51, u52, u53, u54, u55, u56, u57, u58, u59, u60, u61, u62, u63, u64, u65, u66, rfl⟩ := arr_67 u hu
  have e0 : u0 = .pointer (some ⟨X.b, 0, none⟩) := h0
  subst e0
  clear hu h0
  obtain ⟨-, m, hat, hah, hhn, hjl, hDl, hln, f0, f1, f2⟩ := HF.out
  clear HF
  have hc2 := m.c2
  have fz2 := m.fz 2
  have hle := hat.le
  have hlt := hat.lt
  have hM0 := mNow_of m
  have n0 : (0 : Int) ≤ (now : Int) := by omega
  have n1 : (now : Int) ≤ 16384 := by omega
  obtain ⟨hk01, f, hf, hrun⟩ := f2 rfl
  clear f0 f1 f2
  have HE := endTokens_any hC m hhn (by omega) (by omega)
  have hCl : Hid (∀ (v' : Value) (D' : List Tok) (W' : World), MS X W' now fst line head v' D' → Calls Tryz.prog 67 #[.pointer (some ⟨X.b, 0, none⟩)] W' fun e w' => e = .returned (.int .i64 (kl X.l j : Int)) ∧ MS X w' now fst line head v' D') := fun v' D' W' m' => class_any hC m' hat
  have hlen2 : (endT D line (now - head + 1)).length ≤ D.length + 1 := by
    unfold endT
    split
    · split
      · omega
      · simp
    · omega
  obtain ⟨D1, hD1⟩ : ∃ D1, endT D line (now - head + 1) = D1 := ⟨_, rfl⟩
  rw [hD1] at HE hlen2
  by_cases k0 : kl X.l j = 0
  · have HR : Hid (∀ (v' : Value) (W' : World), MS X W' now fst line head v' D1 → RunR X R (.returned (.int .i64 0)) W') := fun v' W' m' => by
      have hR : R = (D1, 0, 0, 0) := by
        rw [← hrun]
        unfold lendM
        rw [if_pos k0, ← hat.ci, ← hah.ci, hD1]
      exact ⟨by rw [hR]; rfl, now, fst, line, head, v', D1, m', hhn, by omega, fun _ => hR, fun h => absurd (by rw [hR]) h⟩
    rw [k0] at hCl
    clear hrun hat hah hM0 k0 m hD1 hk01
    go_wp2_with fail
    refine HE.mono ?_
    rintro e w1 ⟨rfl, v1, m1⟩
    go_wp2_with fail
    refine (hCl.out _ _ _ m1).mono ?_
    rintro e w2 ⟨rfl, m2⟩
    go_wp2_with fail
    refine jump_ret (hQ.out _ _ ?_)
    exact HR.out v1 _ m2
  · have k1 : kl X.l j = 1 := by omega
    obtain ⟨hj1, ha1⟩ := kl_asc (l := X.l) (j := j) (by omega) (by omega)
    have hat1 := hat.asc hj1 ha1
    have HH : Hid (∀ (v' : Value) (W' : World), MS X W' (now + 1) fst (line + 1) (now + 1) v' D1 → Hid (RF X R 0 (now + 1) (j + 1) fst (line + 1) (now + 1) (j + 1) v' D1 W') ∧ rM X 0 W' < rM X 2 wr) := fun v' W' m' => ⟨⟨by decide, m', hat1, hat1, by omega, by omega, by omega, by omega, (fun _ => ⟨f, by omega, by
        rw [← hrun]
        unfold lendM
        rw [if_neg k0, ← hat.ci, ← hah.ci, hD1]⟩), (fun h => absurd h (by decide)), (fun h => absurd h (by decide))⟩, by unfold rM; rw [mNow_of m', hM0]; simp; omega⟩
    have HS : Hid (∀ (v' : Value) (W' : World), MS X W' now fst line head v' D1 → MS X (((W'.setCell ⟨X.b, 2, none⟩ (.int .i64 ((now : Int) + 1))).setCell ⟨X.b, 4, none⟩ (.int .i64 ((line : Int) + 1))).setCell ⟨X.b, 5, none⟩ (.int .i64 ((now : Int) + 1))) (now + 1) fst (line + 1) (now + 1) v' D1) := fun v' W' m' => ((m'.setNow hC (now + 1) (by omega)).setLine hC (line + 1) (by omega)).setHead hC (now + 1) (by omega)
    rw [k1] at hCl
    have l0 : (0 : Int) ≤ (line : Int) := by omega
    have l1 : (line : Int) ≤ 16385 := by omega
    clear hrun hat hah hM0 k0 k1 m hD1 hk01 hat1 ha1
    go_wp2_with fail
    refine HE.mono ?_
    rintro e w1 ⟨rfl, v1, m1⟩
    go_wp2_with fail
    refine (hCl.out _ _ _ m1).mono ?_
    rintro e w2 ⟨rfl, m3⟩
    have d2 := m3.c2
    have d4 := m3.c4
    have d5 := m3.c5
    have z2 := m3.fz 2
    have z4 := m3.fz 4
    have z5 := m3.fz 5
    have m2 := HS.out _ _ m3
    go_wp2_with fail
    go_step3
    try simp only [Exit.inBlock, Exit.then]
    exact ⟨⟨now + 1, j + 1, fst, line + 1, now + 1, j + 1, v1, D1, _, rfl, rfl, rfl, (HH.out _ _ m2).1⟩, (HH.out _ _ m2).2⟩
end Go.Proofs.YthonobihcahfiaaGreatDoor
namespace Go.Proofs.YthonobihcahfiaaGreatDoor
open Go.RowKit Go.Shelf
set_option maxRecDepth 100000 in
set_option maxHeartbeats 4000000 in
theorem rn1 {X : MX} (hC : MC X) {R : Res} {Q : Exit → Act → World → Prop} (hQ0 : ∀ tmps W', RunR X R (.returned (tmps.getD 2 undef)) W' → Q .ret { tmps := tmps, defers := [] } W')
    (a : Act) (wr : World) (hJ : RJ X R 1 a wr) (R0 c : Code) (hc : Tryz.f55.body = some (.seq R0 (.scope c))) : ∃ X', findLabel c 1 = some (.seq .skip X') ∧ X'.wp Tryz.prog (jumpN (fun l' a' w' => RJ X R l' a' w' ∧ rM X l' w' < rM X 1 wr) Q) a wr := by
  have hQ : Hid (∀ tmps W', RunR X R (.returned (tmps.getD 2 undef)) W' → Q .ret { tmps := tmps, defers := [] } W') := hQ0
  have hlen := hC.len
  clear hQ0
  unfold Tryz.f55 at hc
  injection hc with hc
  injection hc with _ hc
  injection hc with hc
  subst hc
  refine ⟨_, rfl, ?_⟩
  obtain ⟨now, j, fst, line, head, hb, v, D, u, rfl, hu, h0, HF⟩ := hJ
  obtain ⟨u0, u1, u2, u3, u4, u5, u6, u7, u8, u9, u10, u11, u12, u13, u14, u15, u16, u17, u18, u19, u20, u21, u22, u23, u24, u25, u26, u27, u28, u29, u30, u31, u32, u33, u34, u35, u36, u37, u38, u39, u40, u41, u42, u43, u44, u45, u46, u47, u48, u49, u50, u51, u52, u53, u54, u55, u56, u57, u58, u59, u60, u61, u62, u63, u64, u65, u66, rfl⟩ := arr_67 u hu
  have e0 : u0 = .pointer (some ⟨X.b, 0, none⟩) := h0
  subst e0
  clear hu h0
  obtain ⟨-, m, hat, hah, hhn, hjl, hDl, hln, f0, f1, f2⟩ := HF.out
  clear HF
  have hc2 := m.c2
  have fz2 := m.fz 2
  have hle := hat.le
  have hlt := hat.lt
  have hM0 := mNow_of m
  have n0 : (0 : Int) ≤ (now : Int) := by omega
  have n1 : (now : Int) ≤ 16384 := by omega
  obtain ⟨hj1, hk1, f, hf, hrun⟩ := f1 rfl
  clear f0 f1 f2
  have hat1 := hat.next hj1
  have hp := dc_pos X.l j
  have hpl := dc_le X.l j hj1
  have m1 := m.setNow hC (now + 1) (z := (now : Int) + 1) (by omega)
  have hcl := class_any hC m1 hat1
  obtain ⟨j1, hj1'⟩ : ∃ j1, j + (dc X.l j).2 = j1 := ⟨_, rfl⟩
  rw [hj1'] at hat1 hcl hrun hpl
  have hjj : j < j1 := by omega
  by_cases k01 : kl X.l j1 = 1 ∨ kl X.l j1 = 0
  · have HH : Hid (∀ (v' : Value) (W' : World), MS X W' (now + 1) fst line head v' D → Hid (RF X R 2 (now + 1) j1 fst line head hb v' D W') ∧ rM X 2 W' ≤ rM X 1 wr) := fun v' W' m' => ⟨⟨by decide, m', hat1, hah, by omega, hpl, by omega, by omega, (fun h => absurd h (by decide)), (fun h => absurd h (by decide)), (fun _ => ⟨k01, f, by omega, by rw [← hrun, cend_end k01]⟩)⟩, by unfold rM; rw [mNow_of m', hM0]; simp; omega⟩
    have HC2 : Hid (kl X.l j1 = 1 ∨ kl X.l j1 = 0) := k01
    obtain ⟨k, hk⟩ : ∃ k, kl X.l j1 = k := ⟨_, rfl⟩
    rw [hk] at hcl k01
    clear hrun hat hah hM0 m hk
    have hnk : ((k : Int) != 1 && (k : Int) != 0) = false := by rcases k01 with rfl | rfl <;> rfl
    rcases k01 with rfl | rfl
    all_goals
      go_wp2_with fail
      refine hcl.mono ?_
      rintro e w1 ⟨rfl, m2⟩
      go_wp2_with fail
      go_step3
      simp only [Exit.then]
      rename_i hK
      refine hK _ _ ?_
      clear hK
      exact use_pass2 (m := fun l' _ w' => rM X l' w') (rn2 hC (Q := Q) hQ.out _ _ ⟨now + 1, j1, fst, line, head, hb, v, D, _, rfl, rfl, rfl, (HH.out _ _ m2).1⟩ _ _ rfl) rfl (HH.out _ _ m2).2
  · have kn1 : kl X.l j1 ≠ 1 := fun h => k01 (.inl h)
    have kn0 : kl X.l j1 ≠ 0 := fun h => k01 (.inr h)
    have hj2 : j1 < X.l.length := Classical.byContradiction (fun h => kn0 (kl0.2 h))
    have HH : Hid (∀ (v' : Value) (W' : World), MS X W' (now + 1) fst line head v' D → Hid (RF X R 1 (now + 1) j1 fst line head hb v' D W') ∧ rM X 1 W' < rM X 1 wr) := fun v' W' m' => ⟨⟨by decide, m', hat1, hah, by omega, hpl, by omega, by omega, (fun h => absurd h (by decide)), (fun _ => ⟨hj2, kn1, f, by omega, by rw [← hrun, cend_on kn1 kn0]⟩), (fun h => absurd h (by decide))⟩, by unfold rM; rw [mNow_of m', hM0]; simp; omega⟩
    obtain ⟨k, hk⟩ : ∃ k, kl X.l j1 = k := ⟨_, rfl⟩
    rw [hk] at hcl kn1 kn0
    have t0 : ((k : Int) == 0) = false := by rw [beq_eq_false_iff_ne]; omega
    have t1 : ((k : Int) == 1) = false := by rw [beq_eq_false_iff_ne]; omega
    have t2 : ((k : Int) != 0) = true := by rw [bne, t0]; rfl
    have t3 : ((k : Int) != 1) = true := by rw [bne, t1]; rfl
    clear hrun hat hah hM0 m hk k01
    go_wp2_with fail
    refine hcl.mono ?_
    rintro e w1 ⟨rfl, m2⟩
    go_wp2_with fail
    go_step3
    try simp only [Exit.then]
    exact ⟨⟨now + 1, j1, fst, line, head, hb, v, D, _, rfl, rfl, rfl, (HH.out _ _ m2).1⟩, (HH.out _ _ m2).2⟩
end Go.Proofs.YthonobihcahfiaaGreatDoor
namespace Go.Proofs.YthonobihcahfiaaGreatDoor
open Go.RowKit Go.Shelf
set_option maxRecDepth 100000 in
set_option maxHeartbeats 4000000 in
theorem run_any {X : MX} (hC : MC X) (hF : FOK X.w0) {W : World} {v0 : Value} (h : MS X W 0 0 1 0 v0 []) :
    Calls Tryz.prog 55 #[.pointer (some ⟨X.b, 0, none⟩)] W fun e w' => RunR X (runM (X.l.length + 1) X.l 0 1 0 []) e w' := by
  obtain ⟨R, hR⟩ : ∃ R, runM (X.l.length + 1) X.l 0 1 0 [] = R := ⟨_, rfl⟩
  have HF0 : Hid (RF X R 0 0 0 0 1 0 0 v0 [] W) := ⟨by decide, h, rfl, rfl, Nat.le_refl _, Nat.zero_le _, Nat.zero_le _, Nat.le_refl _, (fun _ => ⟨_, by omega, hR⟩), (fun h => absurd h (by decide)), (fun h => absurd h (by decide))⟩
  rw [hR]
  clear hR h
  go_enter Tryz.func55, Tryz.ntmps55
  go_wp2_with fail
  refine wp_scope_many2 (RJ X R) (fun lab _ wr => rM X lab wr) ?pass ?first
  case first =>
    intro pass
    go_wp2_with fail
    go_step3
    simp only [Exit.then]
    rename_i hK
    refine hK _ _ ?_
    exact use_pass (pass 0) ⟨0, 0, 0, 1, 0, 0, v0, [], _, rfl, rfl, rfl, HF0⟩ rfl
  case pass =>
    intro lab a wr hJ
    have hlab : lab = 0 ∨ lab = 1 ∨ lab = 2 := by
      obtain ⟨_, _, _, _, _, _, _, _, _, _, _, _, HF⟩ := hJ
      exact HF.out.1
    rcases hlab with rfl | rfl | rfl
    · exact rn0 hC hF (fun tmps W' h => bodyPost_ret (results_rn _ _) rfl h) a wr hJ _ _ rfl
    · exact rn1 hC (fun tmps W' h => bodyPost_ret (results_rn _ _) rfl h) a wr hJ _ _ rfl
    · exact rn2 hC (fun tmps W' h => bodyPost_ret (results_rn _ _) rfl h) a wr hJ _ _ rfl
end Go.Proofs.YthonobihcahfiaaGreatDoor
namespace Go.Proofs
open Go.Shelf
def Tryz.l316_ren : Go.Shelf.Ren := ⟨fun | 316 => 65 | n => n, fun | 9 => 9 | 3 => 3 | 4 => 4 | 37 => 103 | 0 => 0 | 127 => 104 | 5 => 5 | n => n, fun | n => n⟩
theorem Tryz.l316 : Go.Proofs.LaysM.n316 Tryz.prog Tryz.l316_ren := {
  mixed := by kernel_rfl
  f316 := Tryz.func65.trans (congrArg some (by kernel_rfl))
  t0 := Tryz.underlying0
  a0 := Tryz.isAgg0
  z0 := Tryz.sizeOf0
  v0 := Tryz.zeroValue0
  t3 := Tryz.underlying3
  a3 := Tryz.isAgg3
  z3 := Tryz.sizeOf3
  v3 := Tryz.zeroValue3
  t4 := Tryz.underlying4
  a4 := Tryz.isAgg4
  z4 := Tryz.sizeOf4
  v4 := Tryz.zeroValue4
  t9 := Tryz.underlying9
  a9 := Tryz.isAgg9
  z9 := Tryz.sizeOf9
  v9 := Tryz.zeroValue9
  t37 := Tryz.underlying103
  a37 := Tryz.isAgg103
  z37 := Tryz.sizeOf103
  v37 := Tryz.zeroValue103
  t127 := Tryz.underlying104
  a127 := Tryz.isAgg104
  z127 := Tryz.sizeOf104
  v127 := Tryz.zeroValue104
  t5 := Tryz.underlying5
  a5 := Tryz.isAgg5
  z5 := Tryz.sizeOf5
  v5 := Tryz.zeroValue5
  i0 := by kernel_rfl
  i3 := by kernel_rfl
  i4 := by kernel_rfl
  i5 := by kernel_rfl
  i9 := by kernel_rfl
  i37 := by kernel_rfl
  i127 := by kernel_rfl }
end Go.Proofs
namespace Go.Proofs.YthonobihcahfiaaGreatDoor
open Go.RowKit
end Go.Proofs.YthonobihcahfiaaGreatDoor
namespace Go.Proofs.YthonobihcahfiaaGreatDoor
open Go.RowKit Go.Shelf
theorem add0 (g m : Nat) : (⟨g, 0, none⟩ : Addr).add m = ⟨g, m, none⟩ := by unfold Addr.add; split <;> simp_all
theorem ccels_at (C : List (Int × Nat)) : ∀ (k : Nat) (c : Int × Nat), C[k]? = some c → (ccels C)[k * 2]? = some (.int .i32 c.1) ∧ (ccels C)[k * 2 + 1]? = some (.int .i64 (c.2 : Int)) := by
  induction C with
  | nil => intro k c h; simp at h
  | cons y C ih =>
    intro k c h
    cases k with
    | zero =>
      simp at h
      subst h
      exact ⟨rfl, rfl⟩
    | succ k =>
      have := ih k c (by simpa using h)
      rw [show (k + 1) * 2 = k * 2 + 1 + 1 by omega]
      exact this
theorem own_cap {w : World} {B e sz n m g cap : Nat} {xs : List Value} (h : w.ownsRow B e sz (.slice (some ⟨g, 0, none⟩) m cap) n xs) : n ≤ cap := by
  rcases h.2 with ⟨hh, _⟩ | ⟨g', c, cur, h1, _, _, h4, _⟩
  · cases hh
  · injection h1 with _ _ h1
    omega
end Go.Proofs.YthonobihcahfiaaGreatDoor

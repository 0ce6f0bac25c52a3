import Derived.Test.YtnboehlbcjfndaaGreatDoorYAJ
import Derived.Test.YtnboehlbcjfndaaGreatDoorYAR
namespace Go.Proofs.YtnboehlbcjfndaaGreatDoor
open Go.RowKit Go.Shelf
set_option maxRecDepth 100000 in
set_option maxHeartbeats 4000000 in
theorem rn0 {X : MX} (hC : MC X) (hF : FOK X.w0) {R : Res} {Q : Exit → Act → World → Prop} (hQ0 : ∀ tmps W', RunR X R (.returned (tmps.getD 2 undef)) W' → Q .ret { tmps := tmps, defers := [] } W')
    (a : Act) (wr : World) (hJ : RJ X R 0 a wr) (R0 c : Code) (hc : Tryz.f108.body = some (.seq R0 (.scope c))) : ∃ X', findLabel c 0 = some (.seq .skip X') ∧ X'.wp Tryz.prog (jumpN (fun l' a' w' => RJ X R l' a' w' ∧ rM X l' w' < rM X 0 wr) Q) a wr := by
  have hQ : Hid (∀ tmps W', RunR X R (.returned (tmps.getD 2 undef)) W' → Q .ret { tmps := tmps, defers := [] } W') := hQ0
  have hlen := hC.len
  clear hQ0
  unfold Tryz.f108 at hc
  injection hc with hc
  injection hc with _ hc
  injection hc with hc
  subst hc
  refine ⟨_, rfl, ?_⟩
  obtain ⟨now, j, fst, line, head, hb, v, D, u, rfl, hu, h0, HF⟩ := hJ
  obtain ⟨u0, u1, u2, u3, u4, u5, u6, u7, u8, u9, u10, u11, u12, u13, u14, u15, u16, u17, u18, u19, u20, u21, u22, u23, u24, u25, u26, u27, u28, u29, u30, u31, u32, u33, u34, u35, u36, u37, u38, u39, u40, u41, u42, u43, u44, u45, u46, u47, u48, u49, u50, u51, u52, u53, u54, u55, u56, u57, u58, u59, u60, u61, u62, u63, u64, u65, u66, rfl⟩ := arr_67 u hu
  have e0 : u0 = .pointer (some ⟨X.b, 0, none⟩) := h0
  subst e0
  clear hu h0
  obtain ⟨-, m, hat, hah, hhn, hjl, hDl, hln, f0, f1, f2⟩ := HF.out
  clear HF
  have hc2 := m.c2
  have fz2 := m.fz 2
  have hle := hat.le
  have hlt := hat.lt
  have hM0 := mNow_of m
  have n0 : (0 : Int) ≤ (now : Int) := by omega
  have n1 : (now : Int) ≤ 16384 := by omega
  obtain ⟨f, hf, hrun⟩ := f0 rfl
  clear f0 f1 f2
  obtain ⟨f, rfl⟩ : ∃ g, f = g + 1 := ⟨f - 1, by omega⟩
  have hcl := class_any hC m hat
  by_cases k2 : kl X.l j = 2
  · obtain ⟨hj1, ha1⟩ := kl_asc (l := X.l) (j := j) (by omega) (by omega)
    have hat1 := hat.asc hj1 ha1
    have HH : Hid (∀ (v' : Value) (W' : World), MS X W' (now + 1) fst line head v' D → Hid (RF X R 0 (now + 1) (j + 1) fst line head hb v' D W') ∧ rM X 0 W' < rM X 0 wr) := fun v' W' m' => ⟨⟨by decide, m', hat1, hah, by omega, by omega, by omega, by omega, (fun _ => ⟨f, by omega, by rw [← hrun, runM_blank k2]⟩), (fun h => absurd h (by decide)), (fun h => absurd h (by decide))⟩, by unfold rM; rw [mNow_of m', hM0]; omega⟩
    rw [k2] at hcl
    have HS : Hid (∀ W', MS X W' now fst line head v D → MS X (W'.setCell ⟨X.b, 2, none⟩ (.int .i64 ((now : Int) + 1))) (now + 1) fst line head v D) := fun W' m' => m'.setNow hC (now + 1) (by omega)
    clear hrun hat hat1 hah hM0 k2 ha1 m
    go_wp2_with fail
    refine hcl.mono ?_
    rintro e w1 ⟨rfl, m1⟩
    have hd2 := m1.c2
    have hz2 := m1.fz 2
    have m2 := HS.out _ m1
    go_wp2_with fail
    go_step3
    try simp only [Exit.inBlock, Exit.then]
    exact ⟨⟨now + 1, j + 1, fst, line, head, hb, v, D, _, rfl, rfl, rfl, (HH.out _ _ m2).1⟩, (HH.out _ _ m2).2⟩
  have e2 : ((kl X.l j : Int) == 2) = false := by rw [beq_eq_false_iff_ne]; omega
  by_cases k8 : kl X.l j = 8
  · obtain ⟨hj1, ha1⟩ := kl_asc (l := X.l) (j := j) (by omega) (by omega)
    have HH : Hid (∀ (v' : Value) (W' : World), MS X W' now fst line head v' D → Hid (RF X R 1 now j fst line head hb v' D W') ∧ rM X 1 W' < rM X 0 wr) := fun v' W' m' => ⟨⟨by decide, m', hat, hah, hhn, hjl, hDl, hln, (fun h => absurd h (by decide)), (fun _ => ⟨hj1, by omega, f, by omega, by rw [← hrun, runM_hash k8, dc_asc ha1]⟩), (fun h => absurd h (by decide))⟩, by unfold rM; rw [mNow_of m', hM0]; simp⟩
    rw [k8] at hcl
    clear hrun hat hah hM0 k8 ha1 m e2 k2
    go_wp2_with fail
    refine hcl.mono ?_
    rintro e w1 ⟨rfl, m2⟩
    go_wp2_with fail
    go_step3
    try simp only [Exit.inBlock, Exit.then]
    exact ⟨⟨now, j, fst, line, head, hb, v, D, _, rfl, rfl, rfl, (HH.out _ _ m2).1⟩, (HH.out _ _ m2).2⟩
  have e8 : ((kl X.l j : Int) == 8) = false := by rw [beq_eq_false_iff_ne]; omega
  by_cases k1 : kl X.l j = 1
  · have HH : Hid (∀ (v' : Value) (W' : World), MS X W' now fst line head v' D → Hid (RF X R 2 now j fst line head hb v' D W') ∧ rM X 2 W' < rM X 0 wr) := fun v' W' m' => ⟨⟨by decide, m', hat, hah, hhn, hjl, hDl, hln, (fun h => absurd h (by decide)), (fun h => absurd h (by decide)), (fun _ => ⟨.inl k1, f, by omega, by rw [← hrun, runM_end (.inl k1)]⟩)⟩, by unfold rM; rw [mNow_of m', hM0]; simp⟩
    rw [k1] at hcl
    clear hrun hat hah hM0 k1 m e2 k2 e8 k8
    go_wp2_with fail
    refine hcl.mono ?_
    rintro e w1 ⟨rfl, m2⟩
    go_wp2_with fail
    go_step3
    try simp only [Exit.inBlock, Exit.then]
    exact ⟨⟨now, j, fst, line, head, hb, v, D, _, rfl, rfl, rfl, (HH.out _ _ m2).1⟩, (HH.out _ _ m2).2⟩
  have e1 : ((kl X.l j : Int) == 1) = false := by rw [beq_eq_false_iff_ne]; omega
  by_cases k0 : kl X.l j = 0
  · have HH : Hid (∀ (v' : Value) (W' : World), MS X W' now fst line head v' D → Hid (RF X R 2 now j fst line head hb v' D W') ∧ rM X 2 W' < rM X 0 wr) := fun v' W' m' => ⟨⟨by decide, m', hat, hah, hhn, hjl, hDl, hln, (fun h => absurd h (by decide)), (fun h => absurd h (by decide)), (fun _ => ⟨.inr k0, f, by omega, by rw [← hrun, runM_end (.inr k0)]⟩)⟩, by unfold rM; rw [mNow_of m', hM0]; simp⟩
    rw [k0] at hcl
    clear hrun hat hah hM0 k0 m e2 k2 e8 k8 e1 k1
    go_wp2_with fail
    refine hcl.mono ?_
    rintro e w1 ⟨rfl, m2⟩
    go_wp2_with fail
    go_step3
    try simp only [Exit.inBlock, Exit.then]
    exact ⟨⟨now, j, fst, line, head, hb, v, D, _, rfl, rfl, rfl, (HH.out _ _ m2).1⟩, (HH.out _ _ m2).2⟩
  have e00 : ((kl X.l j : Int) == 0) = false := by rw [beq_eq_false_iff_ne]; omega
  have hjlt : j < X.l.length := Classical.byContradiction (fun h => k0 (kl0.2 h))
  have HT : Hid (∀ W', MS X W' now fst line head v D → Calls Tryz.prog 136 #[.pointer (some ⟨X.b, 0, none⟩)] W' fun e w' => tokR X now line head j D e w') := fun W' m' => token_any hC hF m' hat hjlt hhn (by omega)
  unfold tokR at HT
  by_cases ht : tokE X.l j = 0
  · obtain ⟨ha1, ha2⟩ := tok_adv hjlt k1 ht
    have HH : Hid (∀ (n' : Nat) (v' : Value) (W' : World), AT X.l n' (tokJ X.l j) → MS X W' n' now line head v' (D ++ [((tokC X.l j).1, subL X.l j (tokC X.l j).2, line, now - head + 1)]) → Hid (RF X R 0 n' (tokJ X.l j) now line head hb v' (D ++ [((tokC X.l j).1, subL X.l j (tokC X.l j).2, line, now - head + 1)]) W') ∧ rM X 0 W' < rM X 0 wr) := fun n' v' W' a' m' => by
      have hmo := at_mono hat a' ha1 ha2
      have hlt' := a'.lt
      refine ⟨⟨by decide, m', a', hah, by omega, ha2, by simp; omega, by omega, (fun _ => ⟨f, by omega, ?_⟩), (fun h => absurd h (by decide)), (fun h => absurd h (by decide))⟩, by unfold rM; rw [mNow_of m', hM0]; simp; omega⟩
      rw [← hrun, runM_tok k2 k8 k1 k0 ht, ← hat.ci, ← hah.ci]
    rw [ht] at HT
    simp only [if_true] at HT
    obtain ⟨T, hT⟩ : ∃ T, D ++ [((tokC X.l j).1, subL X.l j (tokC X.l j).2, line, now - head + 1)] = T := ⟨_, rfl⟩
    rw [hT] at HH HT
    obtain ⟨k, hk⟩ : ∃ k, kl X.l j = k := ⟨_, rfl⟩
    rw [hk] at hcl e2 e8 e1 e00
    clear hrun hat hah hM0 m k2 k8 k1 k0 hT hk ht
    go_wp2_with fail
    refine hcl.mono ?_
    rintro e w1 ⟨rfl, m1⟩
    go_wp2_with fail
    refine (HT.out _ m1).mono ?_
    rintro e w2 ⟨rfl, n', v', a', m2⟩
    go_wp2_with fail
    go_step3
    simp only [Exit.then]
    exact ⟨⟨n', tokJ X.l j, now, line, head, hb, v', T, _, rfl, rfl, rfl, (HH.out n' v' _ a' m2).1⟩, (HH.out n' v' _ a' m2).2⟩
  · obtain ⟨ha1, ha2⟩ := tok_ge hjlt ht
    have hfl : tokE X.l j < 1000 := by
      unfold tokE
      split
      · exact quoE_lt _ _
      · exact faultE_lt _ _
    have HR : Hid (∀ (n' : Nat) (v' : Value) (W' : World), AT X.l n' (tokJ X.l j) → MS X W' n' now line head v' D → RunR X R (.returned (.int .i64 (tokE X.l j : Int))) W') := fun n' v' W' a' m' => by
      have hR : R = ([], tokE X.l j, line, n' - head + 1) := by rw [← hrun, runM_err k2 k8 k1 k0 ht, ← a'.ci, ← hah.ci]
      have hnn : now ≤ n' := by
        rcases Nat.lt_or_ge j (tokJ X.l j) with h | h
        · exact Nat.le_of_lt (at_mono hat a' h ha2)
        · have e : tokJ X.l j = j := by omega
          rw [e] at a'
          rw [hat.ci, a'.ci]
          exact Nat.le_refl _
      have hle' := a'.le
      refine ⟨by rw [hR], n', now, line, head, v', D, m', by omega, by omega, fun h => ?_, fun _ => by rw [hR]⟩
      rw [hR] at h
      exact absurd h ht
    simp only [if_neg ht] at HT
    obtain ⟨E, hE⟩ : ∃ E, tokE X.l j = E := ⟨_, rfl⟩
    rw [hE] at HT HR ht hfl
    have t0 : ((E : Int) == 0) = false := by rw [beq_eq_false_iff_ne]; omega
    have t1 : ((E : Int) != 0) = true := by rw [bne, t0]; rfl
    obtain ⟨k, hk⟩ : ∃ k, kl X.l j = k := ⟨_, rfl⟩
    rw [hk] at hcl e2 e8 e1 e00
    clear hrun hat hah hM0 m k2 k8 k1 k0 hE hk
    go_wp2_with fail
    refine hcl.mono ?_
    rintro e w1 ⟨rfl, m1⟩
    go_wp2_with fail
    refine (HT.out _ m1).mono ?_
    rintro e w2 ⟨rfl, n', v', a', m2⟩
    go_wp2_with fail
    refine jump_ret (hQ.out _ _ ?_)
    exact HR.out n' v' _ a' m2
end Go.Proofs.YtnboehlbcjfndaaGreatDoor

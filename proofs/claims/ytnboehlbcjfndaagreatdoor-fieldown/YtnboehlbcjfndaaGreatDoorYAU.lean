import Derived.Test.YtnboehlbcjfndaaGreatDoorYAT
import Derived.OwnWalk
namespace Go.Proofs.YtnboehlbcjfndaaGreatDoor
open Go.RowKit Go.Shelf
set_option maxRecDepth 100000 in
set_option maxHeartbeats 4000000 in
theorem rn1 {X : MX} (hC : MC X) {R : Res} {Q : Exit → Act → World → Prop} (hQ0 : ∀ tmps W', RunR X R (.returned (tmps.getD 2 undef)) W' → Q .ret { tmps := tmps, defers := [] } W')
    (a : Act) (wr : World) (hJ : RJ X R 1 a wr) (R0 c : Code) (hc : Tryz.f108.body = some (.seq R0 (.scope c))) : ∃ X', findLabel c 1 = some (.seq .skip X') ∧ X'.wp Tryz.prog (jumpN (fun l' a' w' => RJ X R l' a' w' ∧ rM X l' w' < rM X 1 wr) Q) a wr := by
  have hQ : Hid (∀ tmps W', RunR X R (.returned (tmps.getD 2 undef)) W' → Q .ret { tmps := tmps, defers := [] } W') := hQ0
  have hlen := hC.len
  clear hQ0
  unfold Tryz.f108 at hc
  injection hc with hc
  injection hc with _ hc
  injection hc with hc
  subst hc
  refine ⟨_, rfl, ?_⟩
  obtain ⟨now, j, fst, line, head, hb, v, D, u, rfl, hu, h0, HF⟩ := hJ
  obtain ⟨u0, u1, u2, u3, u4, u5, u6, u7, u8, u9, u10, u11, u12, u13, u14, u15, u16, u17, u18, u19, u20, u21, u22, u23, u24, u25, u26, u27, u28, u29, u30, u31, u32, u33, u34, u35, u36, u37, u38, u39, u40, u41, u42, u43, u44, u45, u46, u47, u48, u49, u50, u51, u52, u53, u54, u55, u56, u57, u58, u59, u60, u61, u62, u63, u64, u65, u66, rfl⟩ := arr_67 u hu
  have e0 : u0 = .pointer (some ⟨X.b, 0, none⟩) := h0
  subst e0
  clear hu h0
  obtain ⟨-, m, hat, hah, hhn, hjl, hDl, hln, f0, f1, f2⟩ := HF.out
  clear HF
  have hc2 := m.c2
  have fz2 := m.fz 2
  have hle := hat.le
  have hlt := hat.lt
  have hM0 := mNow_of m
  have n0 : (0 : Int) ≤ (now : Int) := by omega
  have n1 : (now : Int) ≤ 16384 := by omega
  obtain ⟨hj1, hk1, f, hf, hrun⟩ := f1 rfl
  clear f0 f1 f2
  have hat1 := hat.next hj1
  have hp := dc_pos X.l j
  have hpl := dc_le X.l j hj1
  have m1 := m.setNow hC (now + 1) (z := (now : Int) + 1) (by omega)
  have hcl := class_any hC m1 hat1
  obtain ⟨j1, hj1'⟩ : ∃ j1, j + (dc X.l j).2 = j1 := ⟨_, rfl⟩
  rw [hj1'] at hat1 hcl hrun hpl
  have hjj : j < j1 := by omega
  by_cases k01 : kl X.l j1 = 1 ∨ kl X.l j1 = 0
  · have HH : Hid (∀ (v' : Value) (W' : World), MS X W' (now + 1) fst line head v' D → Hid (RF X R 2 (now + 1) j1 fst line head hb v' D W') ∧ rM X 2 W' ≤ rM X 1 wr) := fun v' W' m' => ⟨⟨by decide, m', hat1, hah, by omega, hpl, by omega, by omega, (fun h => absurd h (by decide)), (fun h => absurd h (by decide)), (fun _ => ⟨k01, f, by omega, by rw [← hrun, cend_end k01]⟩)⟩, by unfold rM; rw [mNow_of m', hM0]; simp; omega⟩
    have HC2 : Hid (kl X.l j1 = 1 ∨ kl X.l j1 = 0) := k01
    obtain ⟨k, hk⟩ : ∃ k, kl X.l j1 = k := ⟨_, rfl⟩
    rw [hk] at hcl k01
    clear hrun hat hah hM0 m hk
    have hnk : ((k : Int) != 1 && (k : Int) != 0) = false := by rcases k01 with rfl | rfl <;> rfl
    rcases k01 with rfl | rfl
    all_goals
      go_wp2_with fail
      refine hcl.mono ?_
      rintro e w1 ⟨rfl, m2⟩
      go_wp2_with fail
      go_step3
      simp only [Exit.then]
      rename_i hK
      refine hK _ _ ?_
      clear hK
      exact use_pass2 (m := fun l' _ w' => rM X l' w') (rn2 hC (Q := Q) hQ.out _ _ ⟨now + 1, j1, fst, line, head, hb, v, D, _, rfl, rfl, rfl, (HH.out _ _ m2).1⟩ _ _ rfl) rfl (HH.out _ _ m2).2
  · have kn1 : kl X.l j1 ≠ 1 := fun h => k01 (.inl h)
    have kn0 : kl X.l j1 ≠ 0 := fun h => k01 (.inr h)
    have hj2 : j1 < X.l.length := Classical.byContradiction (fun h => kn0 (kl0.2 h))
    have HH : Hid (∀ (v' : Value) (W' : World), MS X W' (now + 1) fst line head v' D → Hid (RF X R 1 (now + 1) j1 fst line head hb v' D W') ∧ rM X 1 W' < rM X 1 wr) := fun v' W' m' => ⟨⟨by decide, m', hat1, hah, by omega, hpl, by omega, by omega, (fun h => absurd h (by decide)), (fun _ => ⟨hj2, kn1, f, by omega, by rw [← hrun, cend_on kn1 kn0]⟩), (fun h => absurd h (by decide))⟩, by unfold rM; rw [mNow_of m', hM0]; simp; omega⟩
    obtain ⟨k, hk⟩ : ∃ k, kl X.l j1 = k := ⟨_, rfl⟩
    rw [hk] at hcl kn1 kn0
    have t0 : ((k : Int) == 0) = false := by rw [beq_eq_false_iff_ne]; omega
    have t1 : ((k : Int) == 1) = false := by rw [beq_eq_false_iff_ne]; omega
    have t2 : ((k : Int) != 0) = true := by rw [bne, t0]; rfl
    have t3 : ((k : Int) != 1) = true := by rw [bne, t1]; rfl
    clear hrun hat hah hM0 m hk k01
    go_wp2_with fail
    refine hcl.mono ?_
    rintro e w1 ⟨rfl, m2⟩
    go_wp2_with fail
    go_step3
    try simp only [Exit.then]
    exact ⟨⟨now + 1, j1, fst, line, head, hb, v, D, _, rfl, rfl, rfl, (HH.out _ _ m2).1⟩, (HH.out _ _ m2).2⟩
end Go.Proofs.YtnboehlbcjfndaaGreatDoor

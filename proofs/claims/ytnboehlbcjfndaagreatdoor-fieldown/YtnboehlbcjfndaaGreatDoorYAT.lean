import Derived.Test.YtnboehlbcjfndaaGreatDoorYAJ
import Derived.OwnWalk
namespace Go.Proofs.YtnboehlbcjfndaaGreatDoor
open Go.RowKit Go.Shelf
set_option maxRecDepth 100000 in
set_option maxHeartbeats 4000000 in
theorem rn2 {X : MX} (hC : MC X) {R : Res} {Q : Exit → Act → World → Prop} (hQ0 : ∀ tmps W', RunR X R (.returned (tmps.getD 2 undef)) W' → Q .ret { tmps := tmps, defers := [] } W')
    (a : Act) (wr : World) (hJ : RJ X R 2 a wr) (R0 c : Code) (hc : Tryz.f108.body = some (.seq R0 (.scope c))) : ∃ X', findLabel c 2 = some (.seq .skip X') ∧ X'.wp Tryz.prog (jumpN (fun l' a' w' => RJ X R l' a' w' ∧ rM X l' w' < rM X 2 wr) Q) a wr := by
  have hQ : Hid (∀ tmps W', RunR X R (.returned (tmps.getD 2 undef)) W' → Q .ret { tmps := tmps, defers := [] } W') := hQ0
  have hlen := hC.len
  clear hQ0
  unfold Tryz.f108 at hc
  injection hc with hc
  injection hc with _ hc
  injection hc with hc
  subst hc
  refine ⟨_, rfl, ?_⟩
  obtain ⟨now, j, fst, line, head, hb, v, D, u, rfl, hu, h0, HF⟩ := hJ
  obtain ⟨u0, u1, u2, u3, u4, u5, u6, u7, u8, u9, u10, u11, u12, u13, u14, u15, u16, u17, u18, u19, u20, u21, u22, u23, u24, u25, u26, u27, u28, u29, u30, u31, u32, u33, u34, u35, u36, u37, u38, u39, u40, u41, u42, u43, u44, u45, u46, u47, u48, u49, u50, u51, u52, u53, u54, u55, u56, u57, u58, u59, u60, u61, u62, u63, u64, u65, u66, rfl⟩ := arr_67 u hu
  have e0 : u0 = .pointer (some ⟨X.b, 0, none⟩) := h0
  subst e0
  clear hu h0
  obtain ⟨-, m, hat, hah, hhn, hjl, hDl, hln, f0, f1, f2⟩ := HF.out
  clear HF
  have hc2 := m.c2
  have fz2 := m.fz 2
  have hle := hat.le
  have hlt := hat.lt
  have hM0 := mNow_of m
  have n0 : (0 : Int) ≤ (now : Int) := by omega
  have n1 : (now : Int) ≤ 16384 := by omega
  obtain ⟨hk01, f, hf, hrun⟩ := f2 rfl
  clear f0 f1 f2
  have HE := endTokens_any hC m hhn (by omega) (by omega)
  have hCl : Hid (∀ (v' : Value) (D' : List Tok) (W' : World), MS X W' now fst line head v' D' → Calls Tryz.prog 135 #[.pointer (some ⟨X.b, 0, none⟩)] W' fun e w' => e = .returned (.int .i64 (kl X.l j : Int)) ∧ MS X w' now fst line head v' D') := fun v' D' W' m' => class_any hC m' hat
  have hlen2 : (endT D line (now - head + 1)).length ≤ D.length + 1 := by
    unfold endT
    split
    · split
      · omega
      · simp
    · omega
  obtain ⟨D1, hD1⟩ : ∃ D1, endT D line (now - head + 1) = D1 := ⟨_, rfl⟩
  rw [hD1] at HE hlen2
  by_cases k0 : kl X.l j = 0
  · have HR : Hid (∀ (v' : Value) (W' : World), MS X W' now fst line head v' D1 → RunR X R (.returned (.int .i64 0)) W') := fun v' W' m' => by
      have hR : R = (D1, 0, 0, 0) := by
        rw [← hrun]
        unfold lendM
        rw [if_pos k0, ← hat.ci, ← hah.ci, hD1]
      exact ⟨by rw [hR]; rfl, now, fst, line, head, v', D1, m', hhn, by omega, fun _ => hR, fun h => absurd (by rw [hR]) h⟩
    rw [k0] at hCl
    clear hrun hat hah hM0 k0 m hD1 hk01
    go_wp2_with fail
    refine HE.mono ?_
    rintro e w1 ⟨rfl, v1, m1⟩
    go_wp2_with fail
    refine (hCl.out _ _ _ m1).mono ?_
    rintro e w2 ⟨rfl, m2⟩
    go_wp2_with fail
    refine jump_ret (hQ.out _ _ ?_)
    exact HR.out v1 _ m2
  · have k1 : kl X.l j = 1 := by omega
    obtain ⟨hj1, ha1⟩ := kl_asc (l := X.l) (j := j) (by omega) (by omega)
    have hat1 := hat.asc hj1 ha1
    have HH : Hid (∀ (v' : Value) (W' : World), MS X W' (now + 1) fst (line + 1) (now + 1) v' D1 → Hid (RF X R 0 (now + 1) (j + 1) fst (line + 1) (now + 1) (j + 1) v' D1 W') ∧ rM X 0 W' < rM X 2 wr) := fun v' W' m' => ⟨⟨by decide, m', hat1, hat1, by omega, by omega, by omega, by omega, (fun _ => ⟨f, by omega, by
        rw [← hrun]
        unfold lendM
        rw [if_neg k0, ← hat.ci, ← hah.ci, hD1]⟩), (fun h => absurd h (by decide)), (fun h => absurd h (by decide))⟩, by unfold rM; rw [mNow_of m', hM0]; simp; omega⟩
    have HS : Hid (∀ (v' : Value) (W' : World), MS X W' now fst line head v' D1 → MS X (((W'.setCell ⟨X.b, 2, none⟩ (.int .i64 ((now : Int) + 1))).setCell ⟨X.b, 4, none⟩ (.int .i64 ((line : Int) + 1))).setCell ⟨X.b, 5, none⟩ (.int .i64 ((now : Int) + 1))) (now + 1) fst (line + 1) (now + 1) v' D1) := fun v' W' m' => ((m'.setNow hC (now + 1) (by omega)).setLine hC (line + 1) (by omega)).setHead hC (now + 1) (by omega)
    rw [k1] at hCl
    have l0 : (0 : Int) ≤ (line : Int) := by omega
    have l1 : (line : Int) ≤ 16385 := by omega
    clear hrun hat hah hM0 k0 k1 m hD1 hk01 hat1 ha1
    go_wp2_with fail
    refine HE.mono ?_
    rintro e w1 ⟨rfl, v1, m1⟩
    go_wp2_with fail
    refine (hCl.out _ _ _ m1).mono ?_
    rintro e w2 ⟨rfl, m3⟩
    have d2 := m3.c2
    have d4 := m3.c4
    have d5 := m3.c5
    have z2 := m3.fz 2
    have z4 := m3.fz 4
    have z5 := m3.fz 5
    have m2 := HS.out _ _ m3
    go_wp2_with fail
    go_step3
    try simp only [Exit.inBlock, Exit.then]
    exact ⟨⟨now + 1, j + 1, fst, line + 1, now + 1, j + 1, v1, D1, _, rfl, rfl, rfl, (HH.out _ _ m2).1⟩, (HH.out _ _ m2).2⟩
end Go.Proofs.YtnboehlbcjfndaaGreatDoor

import Derived.Test.YthlgjdadkmpbbaaDoorXBH
import Derived.OwnWalk
import Derived.Shelf.Strconv.Clone
import Derived.Ground.NamesProg
import Derived.Test.YthlgjdadkmpbbaaDoorProg
import Derived.Test.YthlgjdadkmpbbaaDoorXAH
import Derived.Test.YthlgjdadkmpbbaaDoorXAL
import Derived.Deep.QuietTactic
namespace Go.Proofs.YthlgjdadkmpbbaaDoor
open Go.RowKit Go.Shelf
set_option maxRecDepth 100000 in
set_option maxHeartbeats 4000000 in
theorem rn1 {X : MX} (hC : MC X) {R : Res} {Q : Exit → Act → World → Prop} (hQ0 : ∀ tmps W', RunR X R (.returned (tmps.getD 2 undef)) W' → Q .ret { tmps := tmps, defers := [] } W')
    (a : Act) (wr : World) (hJ : RJ X R 1 a wr) (R0 c : Code) (hc : Tryd.f10.body = some (.seq R0 (.scope c))) : ∃ X', findLabel c 1 = some (.seq .skip X') ∧ X'.wp Tryd.prog (jumpN (fun l' a' w' => RJ X R l' a' w' ∧ rM X l' w' < rM X 1 wr) Q) a wr := by
  have hQ : Hid (∀ tmps W', RunR X R (.returned (tmps.getD 2 undef)) W' → Q .ret { tmps := tmps, defers := [] } W') := hQ0
  have hlen := hC.len
  clear hQ0
  unfold Tryd.f10 at hc
  injection hc with hc
  injection hc with _ hc
  injection hc with hc
  subst hc
  refine ⟨_, rfl, ?_⟩
  obtain ⟨now, j, fst, line, head, hb, v, D, u, rfl, hu, h0, HF⟩ := hJ
  obtain ⟨u0, u1, u2, u3, u4, u5, u6, u7, u8, u9, u10, u11, u12, u13, u14, u15, u16, u17, u18, u19, u20, u21, u22, u23, u24, u25, u26, u27, u28, u29, u30, u31, u32, u33, u34, u35, u36, u37, u38, u39, u40, u41, u42, u43, u44, u45, u46, u47, u48, u49, u50, u51, u52, u53, u54, u55, u56, u57, u58, u59, u60, u61, u62, u63, u64, u65, u66, rfl⟩ := arr_67 u hu
  have e0 : u0 = .pointer (some ⟨X.b, 0, none⟩) := h0
  subst e0
  clear hu h0
  obtain ⟨-, m, hat, hah, hhn, hjl, hDl, hln, f0, f1, f2⟩ := HF.out
  clear HF
  have hc2 := m.c2
  have fz2 := m.fz 2
  have hle := hat.le
  have hlt := hat.lt
  have hM0 := mNow_of m
  have n0 : (0 : Int) ≤ (now : Int) := by omega
  have n1 : (now : Int) ≤ 16384 := by omega
  obtain ⟨hj1, hk1, f, hf, hrun⟩ := f1 rfl
  clear f0 f1 f2
  have hat1 := hat.next hj1
  have hp := dc_pos X.l j
  have hpl := dc_le X.l j hj1
  have m1 := m.setNow hC (now + 1) (z := (now : Int) + 1) (by omega)
  have hcl := class_any hC m1 hat1
  obtain ⟨j1, hj1'⟩ : ∃ j1, j + (dc X.l j).2 = j1 := ⟨_, rfl⟩
  rw [hj1'] at hat1 hcl hrun hpl
  have hjj : j < j1 := by omega
  by_cases k01 : kl X.l j1 = 1 ∨ kl X.l j1 = 0
  · have HH : Hid (∀ (v' : Value) (W' : World), MS X W' (now + 1) fst line head v' D → Hid (RF X R 2 (now + 1) j1 fst line head hb v' D W') ∧ rM X 2 W' ≤ rM X 1 wr) := fun v' W' m' => ⟨⟨by decide, m', hat1, hah, by omega, hpl, by omega, by omega, (fun h => absurd h (by decide)), (fun h => absurd h (by decide)), (fun _ => ⟨k01, f, by omega, by rw [← hrun, cend_end k01]⟩)⟩, by unfold rM; rw [mNow_of m', hM0]; simp; omega⟩
    have HC2 : Hid (kl X.l j1 = 1 ∨ kl X.l j1 = 0) := k01
    obtain ⟨k, hk⟩ : ∃ k, kl X.l j1 = k := ⟨_, rfl⟩
    rw [hk] at hcl k01
    clear hrun hat hah hM0 m hk
    have hnk : ((k : Int) != 1 && (k : Int) != 0) = false := by rcases k01 with rfl | rfl <;> rfl
    rcases k01 with rfl | rfl
    all_goals
      go_wp2_with fail
      refine hcl.mono ?_
      rintro e w1 ⟨rfl, m2⟩
      go_wp2_with fail
      go_step3
      simp only [Exit.then]
      rename_i hK
      refine hK _ _ ?_
      clear hK
      exact use_pass2 (m := fun l' _ w' => rM X l' w') (rn2 hC (Q := Q) hQ.out _ _ ⟨now + 1, j1, fst, line, head, hb, v, D, _, rfl, rfl, rfl, (HH.out _ _ m2).1⟩ _ _ rfl) rfl (HH.out _ _ m2).2
  · have kn1 : kl X.l j1 ≠ 1 := fun h => k01 (.inl h)
    have kn0 : kl X.l j1 ≠ 0 := fun h => k01 (.inr h)
    have hj2 : j1 < X.l.length := Classical.byContradiction (fun h => kn0 (kl0.2 h))
    have HH : Hid (∀ (v' : Value) (W' : World), MS X W' (now + 1) fst line head v' D → Hid (RF X R 1 (now + 1) j1 fst line head hb v' D W') ∧ rM X 1 W' < rM X 1 wr) := fun v' W' m' => ⟨⟨by decide, m', hat1, hah, by omega, hpl, by omega, by omega, (fun h => absurd h (by decide)), (fun _ => ⟨hj2, kn1, f, by omega, by rw [← hrun, cend_on kn1 kn0]⟩), (fun h => absurd h (by decide))⟩, by unfold rM; rw [mNow_of m', hM0]; simp; omega⟩
    obtain ⟨k, hk⟩ : ∃ k, kl X.l j1 = k := ⟨_, rfl⟩
    rw [hk] at hcl kn1 kn0
    have t0 : ((k : Int) == 0) = false := by rw [beq_eq_false_iff_ne]; omega
    have t1 : ((k : Int) == 1) = false := by rw [beq_eq_false_iff_ne]; omega
    have t2 : ((k : Int) != 0) = true := by rw [bne, t0]; rfl
    have t3 : ((k : Int) != 1) = true := by rw [bne, t1]; rfl
    clear hrun hat hah hM0 m hk k01
    go_wp2_with fail
    refine hcl.mono ?_
    rintro e w1 ⟨rfl, m2⟩
    go_wp2_with fail
    go_step3
    try simp only [Exit.then]
    exact ⟨⟨now + 1, j1, fst, line, head, hb, v, D, _, rfl, rfl, rfl, (HH.out _ _ m2).1⟩, (HH.out _ _ m2).2⟩
end Go.Proofs.YthlgjdadkmpbbaaDoor
namespace Go.Proofs.YthlgjdadkmpbbaaDoor
open Go.RowKit Go.Shelf
set_option maxRecDepth 100000 in
set_option maxHeartbeats 4000000 in
theorem run_any {X : MX} (hC : MC X) (hF : FOK X.w0) {W : World} {v0 : Value} (h : MS X W 0 0 1 0 v0 []) :
    Calls Tryd.prog 10 #[.pointer (some ⟨X.b, 0, none⟩)] W fun e w' => RunR X (runM (X.l.length + 1) X.l 0 1 0 []) e w' := by
  obtain ⟨R, hR⟩ : ∃ R, runM (X.l.length + 1) X.l 0 1 0 [] = R := ⟨_, rfl⟩
  have HF0 : Hid (RF X R 0 0 0 0 1 0 0 v0 [] W) := ⟨by decide, h, rfl, rfl, Nat.le_refl _, Nat.zero_le _, Nat.zero_le _, Nat.le_refl _, (fun _ => ⟨_, by omega, hR⟩), (fun h => absurd h (by decide)), (fun h => absurd h (by decide))⟩
  rw [hR]
  clear hR h
  go_enter Tryd.func10, Tryd.ntmps10
  go_wp2_with fail
  refine wp_scope_many2 (RJ X R) (fun lab _ wr => rM X lab wr) ?pass ?first
  case first =>
    intro pass
    go_wp2_with fail
    go_step3
    simp only [Exit.then]
    rename_i hK
    refine hK _ _ ?_
    exact use_pass (pass 0) ⟨0, 0, 0, 1, 0, 0, v0, [], _, rfl, rfl, rfl, HF0⟩ rfl
  case pass =>
    intro lab a wr hJ
    have hlab : lab = 0 ∨ lab = 1 ∨ lab = 2 := by
      obtain ⟨_, _, _, _, _, _, _, _, _, _, _, _, HF⟩ := hJ
      exact HF.out.1
    rcases hlab with rfl | rfl | rfl
    · exact rn0 hC hF (fun tmps W' h => bodyPost_ret (results_rn _ _) rfl h) a wr hJ _ _ rfl
    · exact rn1 hC (fun tmps W' h => bodyPost_ret (results_rn _ _) rfl h) a wr hJ _ _ rfl
    · exact rn2 hC (fun tmps W' h => bodyPost_ret (results_rn _ _) rfl h) a wr hJ _ _ rfl
end Go.Proofs.YthlgjdadkmpbbaaDoor
namespace Go.Proofs
open Go.Shelf
def Tryd.l316_ren : Go.Shelf.Ren := ⟨fun | 316 => 12 | n => n, fun | 9 => 9 | 3 => 3 | 4 => 4 | 37 => 46 | 0 => 0 | 127 => 47 | 5 => 5 | n => n, fun | n => n⟩
theorem Tryd.l316 : Go.Proofs.LaysM.n316 Tryd.prog Tryd.l316_ren := {
  mixed := by kernel_rfl
  f316 := Tryd.func12.trans (congrArg some (by kernel_rfl))
  t0 := Tryd.underlying0
  a0 := Tryd.isAgg0
  z0 := Tryd.sizeOf0
  v0 := Tryd.zeroValue0
  t3 := Tryd.underlying3
  a3 := Tryd.isAgg3
  z3 := Tryd.sizeOf3
  v3 := Tryd.zeroValue3
  t4 := Tryd.underlying4
  a4 := Tryd.isAgg4
  z4 := Tryd.sizeOf4
  v4 := Tryd.zeroValue4
  t9 := Tryd.underlying9
  a9 := Tryd.isAgg9
  z9 := Tryd.sizeOf9
  v9 := Tryd.zeroValue9
  t37 := Tryd.underlying46
  a37 := Tryd.isAgg46
  z37 := Tryd.sizeOf46
  v37 := Tryd.zeroValue46
  t127 := Tryd.underlying47
  a127 := Tryd.isAgg47
  z127 := Tryd.sizeOf47
  v127 := Tryd.zeroValue47
  t5 := Tryd.underlying5
  a5 := Tryd.isAgg5
  z5 := Tryd.sizeOf5
  v5 := Tryd.zeroValue5
  i0 := by kernel_rfl
  i3 := by kernel_rfl
  i4 := by kernel_rfl
  i5 := by kernel_rfl
  i9 := by kernel_rfl
  i37 := by kernel_rfl
  i127 := by kernel_rfl }
end Go.Proofs
namespace Go.Proofs.YthlgjdadkmpbbaaDoor
open Go.RowKit
end Go.Proofs.YthlgjdadkmpbbaaDoor
namespace Go.Proofs.YthlgjdadkmpbbaaDoor
open Go.RowKit Go.Shelf
theorem add0 (g m : Nat) : (⟨g, 0, none⟩ : Addr).add m = ⟨g, m, none⟩ := by unfold Addr.add; split <;> simp_all
theorem ccels_at (C : List (Int × Nat)) : ∀ (k : Nat) (c : Int × Nat), C[k]? = some c → (ccels C)[k * 2]? = some (.int .i32 c.1) ∧ (ccels C)[k * 2 + 1]? = some (.int .i64 (c.2 : Int)) := by
  induction C with
  | nil => intro k c h; simp at h
  | cons y C ih =>
    intro k c h
    cases k with
    | zero =>
      simp at h
      subst h
      exact ⟨rfl, rfl⟩
    | succ k =>
      have := ih k c (by simpa using h)
      rw [show (k + 1) * 2 = k * 2 + 1 + 1 by omega]
      exact this
theorem own_cap {w : World} {B e sz n m g cap : Nat} {xs : List Value} (h : w.ownsRow B e sz (.slice (some ⟨g, 0, none⟩) m cap) n xs) : n ≤ cap := by
  rcases h.2 with ⟨hh, _⟩ | ⟨g', c, cur, h1, _, _, h4, _⟩
  · cases hh
  · injection h1 with _ _ h1
    omega
end Go.Proofs.YthlgjdadkmpbbaaDoor

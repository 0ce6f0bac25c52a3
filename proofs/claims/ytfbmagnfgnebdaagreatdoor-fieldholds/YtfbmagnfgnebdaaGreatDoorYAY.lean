import Derived.Test.YtfbmagnfgnebdaaGreatDoorYAS
import Derived.OwnWalk
import Derived.Test.YtfbmagnfgnebdaaGreatDoorYAX
import Derived.Shelf.Strconv.Clone
import Derived.Ground.NamesProg
import Derived.Test.YtfbmagnfgnebdaaGreatDoorProg
import Derived.Test.YtfbmagnfgnebdaaGreatDoorYAH
namespace Go.Proofs.YtfbmagnfgnebdaaGreatDoor
open Go.RowKit Go.Shelf
set_option maxRecDepth 100000 in
set_option maxHeartbeats 4000000 in
theorem rn2 {X : MX} (hC : MC X) {R : Res} {Q : Exit → Act → World → Prop} (hQ0 : ∀ tmps W', RunR X R (.returned (tmps.getD 2 undef)) W' → Q .ret { tmps := tmps, defers := [] } W')
    (a : Act) (wr : World) (hJ : RJ X R 2 a wr) (R0 c : Code) (hc : Tryz.f108.body = some (.seq R0 (.scope c))) : ∃ X', findLabel c 2 = some (.seq .skip X') ∧ X'.wp Tryz.prog (jumpN (fun l' a' w' => RJ X R l' a' w' ∧ rM X l' w' < rM X 2 wr) Q) a wr := by
  have hQ : Hid (∀ tmps W', RunR X R (.returned (tmps.getD 2 undef)) W' → Q .ret { tmps := tmps, defers := [] } W') := hQ0
  have hlen := hC.len
  clear hQ0
  unfold Tryz.f108 at hc
  injection hc with hc
  injection hc with _ hc
  injection hc with hc
  subst hc
  refine ⟨_, rfl, ?_⟩
  obtain ⟨now, j, fst, line, head, hb, v, D, u, rfl, hu, h0, HF⟩ := hJ
  obtain ⟨u0, u1, u2, u3, u4, u5, u6, u7, u8, u9, u10, u11, u12, u13, u14, u15, u16, u17, u18, u19, u20, u21, u22, u23, u24, u25, u26, u27, u28, u29, u30, u31, u32, u33, u34, u35, u36, u37, u38, u39, u40, u41, u42, u43, u44, u45, u46, u47, u48, u49, u50, u51, u52, u53, u54, u55, u56, u57, u58, u59, u60, u61, u62, u63, u64, u65, u66, rfl⟩ := arr_67 u hu
  have e0 : u0 = .pointer (some ⟨X.b, 0, none⟩) := h0
  subst e0
  clear hu h0
  obtain ⟨-, m, hat, hah, hhn, hjl, hDl, hln, f0, f1, f2⟩ := HF.out
  clear HF
  have hc2 := m.c2
  have fz2 := m.fz 2
  have hle := hat.le
  have hlt := hat.lt
  have hM0 := mNow_of m
  have n0 : (0 : Int) ≤ (now : Int) := by omega
  have n1 : (now : Int) ≤ 16384 := by omega
  obtain ⟨hk01, f, hf, hrun⟩ := f2 rfl
  clear f0 f1 f2
  have HE := endTokens_any hC m hhn (by omega) (by omega)
  have hCl : Hid (∀ (v' : Value) (D' : List Tok) (W' : World), MS X W' now fst line head v' D' → Calls Tryz.prog 135 #[.pointer (some ⟨X.b, 0, none⟩)] W' fun e w' => e = .returned (.int .i64 (kl X.l j : Int)) ∧ MS X w' now fst line head v' D') := fun v' D' W' m' => class_any hC m' hat
  have hlen2 : (endT D line (now - head + 1)).length ≤ D.length + 1 := by
    unfold endT
    split
    · split
      · omega
      · simp
    · omega
  obtain ⟨D1, hD1⟩ : ∃ D1, endT D line (now - head + 1) = D1 := ⟨_, rfl⟩
  rw [hD1] at HE hlen2
  by_cases k0 : kl X.l j = 0
  · have HR : Hid (∀ (v' : Value) (W' : World), MS X W' now fst line head v' D1 → RunR X R (.returned (.int .i64 0)) W') := fun v' W' m' => by
      have hR : R = (D1, 0, 0, 0) := by
        rw [← hrun]
        unfold lendM
        rw [if_pos k0, ← hat.ci, ← hah.ci, hD1]
      exact ⟨by rw [hR]; rfl, now, fst, line, head, v', D1, m', hhn, by omega, fun _ => hR, fun h => absurd (by rw [hR]) h⟩
    rw [k0] at hCl
    clear hrun hat hah hM0 k0 m hD1 hk01
    go_wp2_with fail
    refine HE.mono ?_
    rintro e w1 ⟨rfl, v1, m1⟩
    go_wp2_with fail
    refine (hCl.out _ _ _ m1).mono ?_
    rintro e w2 ⟨rfl, m2⟩
    go_wp2_with fail
    refine jump_ret (hQ.out _ _ ?_)
    exact HR.out v1 _ m2
  · have k1 : kl X.l j = 1 := by omega
    obtain ⟨hj1, ha1⟩ := kl_asc (l := X.l) (j := j) (by omega) (by omega)
    have hat1 := hat.asc hj1 ha1
    have HH : Hid (∀ (v' : Value) (W' : World), MS X W' (now + 1) fst (line + 1) (now + 1) v' D1 → Hid (RF X R 0 (now + 1) (j + 1) fst (line + 1) (now + 1) (j + 1) v' D1 W') ∧ rM X 0 W' < rM X 2 wr) := fun v' W' m' => ⟨⟨by decide, m', hat1, hat1, by omega, by omega, by omega, by omega, (fun _ => ⟨f, by omega, by
        rw [← hrun]
        unfold lendM
        rw [if_neg k0, ← hat.ci, ← hah.ci, hD1]⟩), (fun h => absurd h (by decide)), (fun h => absurd h (by decide))⟩, by unfold rM; rw [mNow_of m', hM0]; simp; omega⟩
    have HS : Hid (∀ (v' : Value) (W' : World), MS X W' now fst line head v' D1 → MS X (((W'.setCell ⟨X.b, 2, none⟩ (.int .i64 ((now : Int) + 1))).setCell ⟨X.b, 4, none⟩ (.int .i64 ((line : Int) + 1))).setCell ⟨X.b, 5, none⟩ (.int .i64 ((now : Int) + 1))) (now + 1) fst (line + 1) (now + 1) v' D1) := fun v' W' m' => ((m'.setNow hC (now + 1) (by omega)).setLine hC (line + 1) (by omega)).setHead hC (now + 1) (by omega)
    rw [k1] at hCl
    have l0 : (0 : Int) ≤ (line : Int) := by omega
    have l1 : (line : Int) ≤ 16385 := by omega
    clear hrun hat hah hM0 k0 k1 m hD1 hk01 hat1 ha1
    go_wp2_with fail
    refine HE.mono ?_
    rintro e w1 ⟨rfl, v1, m1⟩
    go_wp2_with fail
    refine (hCl.out _ _ _ m1).mono ?_
    rintro e w2 ⟨rfl, m3⟩
    have d2 := m3.c2
    have d4 := m3.c4
    have d5 := m3.c5
    have z2 := m3.fz 2
    have z4 := m3.fz 4
    have z5 := m3.fz 5
    have m2 := HS.out _ _ m3
    go_wp2_with fail
    go_step3
    try simp only [Exit.inBlock, Exit.then]
    exact ⟨⟨now + 1, j + 1, fst, line + 1, now + 1, j + 1, v1, D1, _, rfl, rfl, rfl, (HH.out _ _ m2).1⟩, (HH.out _ _ m2).2⟩
end Go.Proofs.YtfbmagnfgnebdaaGreatDoor
namespace Go.Proofs.YtfbmagnfgnebdaaGreatDoor
open Go.RowKit Go.Shelf
set_option maxRecDepth 100000 in
set_option maxHeartbeats 4000000 in
theorem rn1 {X : MX} (hC : MC X) {R : Res} {Q : Exit → Act → World → Prop} (hQ0 : ∀ tmps W', RunR X R (.returned (tmps.getD 2 undef)) W' → Q .ret { tmps := tmps, defers := [] } W')
    (a : Act) (wr : World) (hJ : RJ X R 1 a wr) (R0 c : Code) (hc : Tryz.f108.body = some (.seq R0 (.scope c))) : ∃ X', findLabel c 1 = some (.seq .skip X') ∧ X'.wp Tryz.prog (jumpN (fun l' a' w' => RJ X R l' a' w' ∧ rM X l' w' < rM X 1 wr) Q) a wr := by
  have hQ : Hid (∀ tmps W', RunR X R (.returned (tmps.getD 2 undef)) W' → Q .ret { tmps := tmps, defers := [] } W') := hQ0
  have hlen := hC.len
  clear hQ0
  unfold Tryz.f108 at hc
  injection hc with hc
  injection hc with _ hc
  injection hc with hc
  subst hc
  refine ⟨_, rfl, ?_⟩
  obtain ⟨now, j, fst, line, head, hb, v, D, u, rfl, hu, h0, HF⟩ := hJ
  obtain ⟨u0, u1, u2, u3, u4, u5, u6, u7, u8, u9, u10, u11, u12, u13, u14, u15, u16, u17, u18, u19, u20, u21, u22, u23, u24, u25, u26, u27, u28, u29, u30, u31, u32, u33, u34, u35, u36, u37, u38, u39, u40, u41, u42, u43, u44, u45, u46, u47, u48, u49, u50, u51, u52, u53, u54, u55, u56, u57, u58, u59, u60, u61, u62, u63, u64, u65, u66, rfl⟩ := arr_67 u hu
  have e0 : u0 = .pointer (some ⟨X.b, 0, none⟩) := h0
  subst e0
  clear hu h0
  obtain ⟨-, m, hat, hah, hhn, hjl, hDl, hln, f0, f1, f2⟩ := HF.out
  clear HF
  have hc2 := m.c2
  have fz2 := m.fz 2
  have hle := hat.le
  have hlt := hat.lt
  have hM0 := mNow_of m
  have n0 : (0 : Int) ≤ (now : Int) := by omega
  have n1 : (now : Int) ≤ 16384 := by omega
  obtain ⟨hj1, hk1, f, hf, hrun⟩ := f1 rfl
  clear f0 f1 f2
  have hat1 := hat.next hj1
  have hp := dc_pos X.l j
  have hpl := dc_le X.l j hj1
  have m1 := m.setNow hC (now + 1) (z := (now : Int) + 1) (by omega)
  have hcl := class_any hC m1 hat1
  obtain ⟨j1, hj1'⟩ : ∃ j1, j + (dc X.l j).2 = j1 := ⟨_, rfl⟩
  rw [hj1'] at hat1 hcl hrun hpl
  have hjj : j < j1 := by omega
  by_cases k01 : kl X.l j1 = 1 ∨ kl X.l j1 = 0
  · have HH : Hid (∀ (v' : Value) (W' : World), MS X W' (now + 1) fst line head v' D → Hid (RF X R 2 (now + 1) j1 fst line head hb v' D W') ∧ rM X 2 W' ≤ rM X 1 wr) := fun v' W' m' => ⟨⟨by decide, m', hat1, hah, by omega, hpl, by omega, by omega, (fun h => absurd h (by decide)), (fun h => absurd h (by decide)), (fun _ => ⟨k01, f, by omega, by rw [← hrun, cend_end k01]⟩)⟩, by unfold rM; rw [mNow_of m', hM0]; simp; omega⟩
    have HC2 : Hid (kl X.l j1 = 1 ∨ kl X.l j1 = 0) := k01
    obtain ⟨k, hk⟩ : ∃ k, kl X.l j1 = k := ⟨_, rfl⟩
    rw [hk] at hcl k01
    clear hrun hat hah hM0 m hk
    have hnk : ((k : Int) != 1 && (k : Int) != 0) = false := by rcases k01 with rfl | rfl <;> rfl
    rcases k01 with rfl | rfl
    all_goals
      go_wp2_with fail
      refine hcl.mono ?_
      rintro e w1 ⟨rfl, m2⟩
      go_wp2_with fail
      go_step3
      simp only [Exit.then]
      rename_i hK
      refine hK _ _ ?_
      clear hK
      exact use_pass2 (m := fun l' _ w' => rM X l' w') (rn2 hC (Q := Q) hQ.out _ _ ⟨now + 1, j1, fst, line, head, hb, v, D, _, rfl, rfl, rfl, (HH.out _ _ m2).1⟩ _ _ rfl) rfl (HH.out _ _ m2).2
  · have kn1 : kl X.l j1 ≠ 1 := fun h => k01 (.inl h)
    have kn0 : kl X.l j1 ≠ 0 := fun h => k01 (.inr h)
    have hj2 : j1 < X.l.length := Classical.byContradiction (fun h => kn0 (kl0.2 h))
    have HH : Hid (∀ (v' : Value) (W' : World), MS X W' (now + 1) fst line head v' D → Hid (RF X R 1 (now + 1) j1 fst line head hb v' D W') ∧ rM X 1 W' < rM X 1 wr) := fun v' W' m' => ⟨⟨by decide, m', hat1, hah, by omega, hpl, by omega, by omega, (fun h => absurd h (by decide)), (fun _ => ⟨hj2, kn1, f, by omega, by rw [← hrun, cend_on kn1 kn0]⟩), (fun h => absurd h (by decide))⟩, by unfold rM; rw [mNow_of m', hM0]; simp; omega⟩
    obtain ⟨k, hk⟩ : ∃ k, kl X.l j1 = k := ⟨_, rfl⟩
    rw [hk] at hcl kn1 kn0
    have t0 : ((k : Int) == 0) = false := by rw [beq_eq_false_iff_ne]; omega
    have t1 : ((k : Int) == 1) = false := by rw [beq_eq_false_iff_ne]; omega
    have t2 : ((k : Int) != 0) = true := by rw [bne, t0]; rfl
    have t3 : ((k : Int) != 1) = true := by rw [bne, t1]; rfl
    clear hrun hat hah hM0 m hk k01
    go_wp2_with fail
    refine hcl.mono ?_
    rintro e w1 ⟨rfl, m2⟩
    go_wp2_with fail
    go_step3
    try simp only [Exit.then]
    exact ⟨⟨now + 1, j1, fst, line, head, hb, v, D, _, rfl, rfl, rfl, (HH.out _ _ m2).1⟩, (HH.out _ _ m2).2⟩
end Go.Proofs.YtfbmagnfgnebdaaGreatDoor
namespace Go.Proofs.YtfbmagnfgnebdaaGreatDoor
open Go.RowKit Go.Shelf
set_option maxRecDepth 100000 in
set_option maxHeartbeats 4000000 in
theorem run_any {X : MX} (hC : MC X) (hF : FOK X.w0) {W : World} {v0 : Value} (h : MS X W 0 0 1 0 v0 []) :
    Calls Tryz.prog 108 #[.pointer (some ⟨X.b, 0, none⟩)] W fun e w' => RunR X (runM (X.l.length + 1) X.l 0 1 0 []) e w' := by
  obtain ⟨R, hR⟩ : ∃ R, runM (X.l.length + 1) X.l 0 1 0 [] = R := ⟨_, rfl⟩
  have HF0 : Hid (RF X R 0 0 0 0 1 0 0 v0 [] W) := ⟨by decide, h, rfl, rfl, Nat.le_refl _, Nat.zero_le _, Nat.zero_le _, Nat.le_refl _, (fun _ => ⟨_, by omega, hR⟩), (fun h => absurd h (by decide)), (fun h => absurd h (by decide))⟩
  rw [hR]
  clear hR h
  go_enter Tryz.func108, Tryz.ntmps108
  go_wp2_with fail
  refine wp_scope_many2 (RJ X R) (fun lab _ wr => rM X lab wr) ?pass ?first
  case first =>
    intro pass
    go_wp2_with fail
    go_step3
    simp only [Exit.then]
    rename_i hK
    refine hK _ _ ?_
    exact use_pass (pass 0) ⟨0, 0, 0, 1, 0, 0, v0, [], _, rfl, rfl, rfl, HF0⟩ rfl
  case pass =>
    intro lab a wr hJ
    have hlab : lab = 0 ∨ lab = 1 ∨ lab = 2 := by
      obtain ⟨_, _, _, _, _, _, _, _, _, _, _, _, HF⟩ := hJ
      exact HF.out.1
    rcases hlab with rfl | rfl | rfl
    · exact rn0 hC hF (fun tmps W' h => bodyPost_ret (results_rn _ _) rfl h) a wr hJ _ _ rfl
    · exact rn1 hC (fun tmps W' h => bodyPost_ret (results_rn _ _) rfl h) a wr hJ _ _ rfl
    · exact rn2 hC (fun tmps W' h => bodyPost_ret (results_rn _ _) rfl h) a wr hJ _ _ rfl
end Go.Proofs.YtfbmagnfgnebdaaGreatDoor
namespace Go.Proofs
open Go.Shelf
def Tryz.l316_ren : Go.Shelf.Ren := ⟨fun | 316 => 134 | n => n, fun | 9 => 9 | 3 => 3 | 4 => 4 | 37 => 60 | 0 => 0 | 127 => 169 | 5 => 5 | n => n, fun | n => n⟩
theorem Tryz.l316 : Go.Proofs.LaysM.n316 Tryz.prog Tryz.l316_ren := {
  mixed := by kernel_rfl
  f316 := Tryz.func134.trans (congrArg some (by kernel_rfl))
  t0 := Tryz.underlying0
  a0 := Tryz.isAgg0
  z0 := Tryz.sizeOf0
  v0 := Tryz.zeroValue0
  t3 := Tryz.underlying3
  a3 := Tryz.isAgg3
  z3 := Tryz.sizeOf3
  v3 := Tryz.zeroValue3
  t4 := Tryz.underlying4
  a4 := Tryz.isAgg4
  z4 := Tryz.sizeOf4
  v4 := Tryz.zeroValue4
  t9 := Tryz.underlying9
  a9 := Tryz.isAgg9
  z9 := Tryz.sizeOf9
  v9 := Tryz.zeroValue9
  t37 := Tryz.underlying60
  a37 := Tryz.isAgg60
  z37 := Tryz.sizeOf60
  v37 := Tryz.zeroValue60
  t127 := Tryz.underlying169
  a127 := Tryz.isAgg169
  z127 := Tryz.sizeOf169
  v127 := Tryz.zeroValue169
  t5 := Tryz.underlying5
  a5 := Tryz.isAgg5
  z5 := Tryz.sizeOf5
  v5 := Tryz.zeroValue5
  i0 := by kernel_rfl
  i3 := by kernel_rfl
  i4 := by kernel_rfl
  i5 := by kernel_rfl
  i9 := by kernel_rfl
  i37 := by kernel_rfl
  i127 := by kernel_rfl }
end Go.Proofs
namespace Go.Proofs.YtfbmagnfgnebdaaGreatDoor
open Go.RowKit Go.Shelf
/-- what Scan answers -/
def scanM (l : List UInt8) : Res := if 16384 < l.length then ([], 2, 0, 0) else runM (l.length + 1) l 0 1 0 []
def scR (l : List UInt8) (w : World) (e : Ending) (w' : World) : Prop :=
  ∃ v, e = .returned (.tuple #[v, .int .i64 ((scanM l).2.1 : Int), .int .i64 ((scanM l).2.2.1 : Int), .int .i64 ((scanM l).2.2.2 : Int)]) ∧ w'.ownsRow w.heap.size 125 4 v (scanM l).1.length (tcels (scanM l).1) ∧ Below w.heap.size w w'
theorem results_sc (tmps : Array Value) (W : World) : (results Tryz.f82 tmps).run Tryz.prog W = .ok (.tuple #[tmps.getD 2 undef, tmps.getD 3 undef, tmps.getD 4 undef, tmps.getD 5 undef]) W := by
  simp [results, go_sem]
theorem clone_any (l : List UInt8) (w : World) (h : l.length ≤ 16384) : Calls Tryz.prog 106 #[.string ⟨l.toArray⟩] w fun e w' => e = .returned (.string ⟨l.toArray⟩) ∧ Below w.heap.size w w' := by
  have H := Any.stringslite_Clone Tryz.l316 ⟨l.toArray⟩ w (by simp [ByteArray.size]; omega)
  go_enter Tryz.func106, Tryz.ntmps106
  go_wp2_with fail
  refine H.mono ?_
  rintro e w1 ⟨rfl, hb⟩
  go_wp2_with fail
  go_ret
  exact ⟨rfl, hb⟩
theorem row_blk {W : World} {B g cap n : Nat} {C : List (Int × Nat)} (h : W.ownsRow B 184 2 (.slice (some ⟨g, 0, none⟩) n cap) C.length (ccels C)) : ∃ gc gf, W.heap[g]? = some (.cells gc 184 gf) ∧ ∀ k c, C[k]? = some c → gc[k * 2]? = some (.int .i32 c.1) ∧ gc[k * 2 + 1]? = some (.int .i64 (c.2 : Int)) := by
  rcases h.2 with ⟨hh, _⟩ | ⟨g', c, cur, h1, _, h3, _⟩
  · cases hh
  · injection h1 with h1 _ _
    injection h1 with h1
    injection h1 with h1 _ _
    subst h1
    refine ⟨_, _, h3, fun k c hc => ?_⟩
    obtain ⟨a, b⟩ := ccels_at C k c hc
    have ca := h.cells rfl _ _ a
    have cb := h.cells rfl _ _ b
    rw [add0, cell_of_row W g _ _ _ _ h3] at ca cb
    exact ⟨ca, cb⟩
set_option maxRecDepth 100000 in
set_option maxHeartbeats 2000000 in
theorem scan_any (l : List UInt8) (w : World) (hm : l.length ≤ 281474976710656) (hsh : SH w) (hsg : SG w) (hF : FOK w) :
    Calls Tryz.prog 82 #[.string ⟨l.toArray⟩] w fun e w' => scR l w e w' := by
  by_cases h1 : 16384 < l.length
  · have hr : Hid (scanM l = ([], 2, 0, 0)) := if_pos h1
    have i1 : (16384 : Int) < (l.length : Int) := by omega
    go_enter Tryz.func82, Tryz.ntmps82
    go_wp2_with fail
    refine bodyPost_ret (results_sc _ _) rfl ?_
    unfold scR
    rw [hr.out]
    exact ⟨_, rfl, World.ownsRow_nil _ _ _ _, Below.refl _ _⟩
  · have i1 : ¬ (16384 : Int) < (l.length : Int) := by omega
    have hr : scanM l = runM (l.length + 1) l 0 1 0 [] := if_neg h1
    have HC := clone_any l w (by omega)
    have HCH : Hid (∀ W, Calls Tryz.prog 107 #[.string ⟨l.toArray⟩] W fun e w' => ∃ v, e = .returned v ∧ w'.ownsRow W.heap.size 184 2 v (chars l 0).length (ccels (chars l 0)) ∧ Below W.heap.size W w') := fun W => charsOf_any l W (by omega)
    have hget0 : (chars l 0)[0]? = some (chr l 0, (if 0 < l.length then 0 else l.length)) := drop_get (now := 0) rfl
    have hN0 : 0 < (chars l 0).length := (List.getElem?_eq_some_iff.1 hget0).1
    have hNm := chars_len l _ 0 (Nat.le_refl _)
    obtain ⟨R, hR⟩ : ∃ R, scanM l = R := ⟨_, rfl⟩
    unfold scR
    rw [hR]
    have HRR : Hid (runM (l.length + 1) l 0 1 0 [] = R) := hr.symm.trans hR
    have hSH : Hid (SH w) := hsh
    have hSG : Hid (SG w) := hsg
    have hFF : Hid (FOK w) := hF
    clear hr hR hget0 hsh hsg hF
    go_enter Tryz.func82, Tryz.ntmps82
    go_wp2_with fail
    refine HC.mono ?_
    rintro e w1 ⟨rfl, hb1⟩
    go_wp2_with fail
    refine (HCH.out _).mono ?_
    rintro e w2 ⟨vc, rfl, ho2, hb2⟩
    obtain ⟨g, cap, rfl⟩ := own_form ho2 hN0
    have hcap := own_cap ho2
    obtain ⟨gc, gf, hgk, hgc⟩ := row_blk ho2
    have hbel := bel0 hb1 hb2
    obtain ⟨X, hX⟩ : ∃ X : MX, X = ⟨w, l, w2.heap.size, g, cap, gc, gf⟩ := ⟨_, rfl⟩
    have hMC : MC X := by subst hX; exact ⟨hgc, hbel.size, hcap, by show l.length ≤ 16384; omega, hSH.out, hSG.out⟩
    have hM0 : MS X (w2.alloc (.cells #[.string ⟨l.toArray⟩, .slice (some ⟨g, 0, none⟩) (chars l 0).length cap, .int .i64 0, .int .i64 0, .int .i64 1, .int .i64 0, .slice none 0 0] 156)) 0 0 1 0 (.slice none 0 0) [] := by
      subst hX
      exact ⟨alloc_get _ _, allocblk hgk _, World.ownsRow_nil _ _ _ _, hbel.alloc hbel.size _⟩
    have HRun := run_any hMC (by subst hX; exact hFF.out) hM0
    have hXb : X.b = w2.heap.size := by rw [hX]
    have hXl : X.l = l := by rw [hX]
    have hXw : X.w0 = w := by rw [hX]
    rw [hXb, hXl, HRR.out] at HRun
    have HXw : Hid (X.w0 = w) := hXw
    have HXb : Hid (X.b = w2.heap.size) := hXb
    clear hX hXb hXl hXw HCH HC HRR hSH hSG hFF ho2 hgk hgc hb1 hb2 hM0 hMC
    go_wp2_with fail
    refine HRun.mono ?_
    rintro e w3 ⟨rfl, now, fst, line, head, v, D, hM, hhn, hn16, hok, herr⟩
    clear HRun
    by_cases e0 : R.2.1 = 0
    · obtain rfl := hok e0
      have hc6 := hM.c6
      rw [HXb.out] at hc6
      clear hok herr e0
      go_wp2_with fail
      refine bodyPost_ret (results_sc _ _) rfl ?_
      have ho := hM.own
      have hb := hM.bel
      rw [HXw.out] at ho hb
      exact ⟨v, rfl, ho, hb⟩
    · have hRe := herr e0
      obtain ⟨E, hE⟩ : ∃ E, R.2.1 = E := ⟨_, rfl⟩
      rw [hE] at e0 hRe ⊢
      have HRe : Hid (R = ([], E, line, now - head + 1)) := hRe
      have t0 : ((E : Int) == 0) = false := by rw [beq_eq_false_iff_ne]; omega
      have t1 : ((E : Int) != 0) = true := by rw [bne, t0]; rfl
      have HB : Hid (∀ W', MS X W' now fst line head v D → ∀ i, W'.cell? ⟨w2.heap.size, i, none⟩ = (mcells X now fst line head v)[i]?) := fun W' m' i => by rw [← HXb.out]; exact m'.c i
      have HCo : Hid (∀ W', MS X W' now fst line head v D → Calls Tryz.prog 109 #[.pointer (some ⟨w2.heap.size, 0, none⟩), .int .i64 (now : Int)] W' fun e w' => e = .returned (.int .i64 ((now - head + 1 : Nat) : Int)) ∧ w' = W') := fun W' m' => by
        rw [← HXb.out]
        exact column_any m' hhn hn16
      clear hok herr hRe hE
      go_wp2_with fail
      refine quiet_lit3 (C := fun W => MS X W now fst line head v D) (by kernel_rfl) (by kernel_rfl) (MS.drew hM) ?_
      go_big_quiet_want
      go_big_quiet_op
      go_big_quiet_on
      go_big_quiet_want
      refine ⟨.pointer (some ⟨w2.heap.size, 4, none⟩), fun W hW => ?_, ?_⟩
      · go_simp
      go_big_quiet_on
      simp only [Act.put, List.setIfInBounds_toArray, List.set_cons_zero, List.set_cons_succ]
      go_big_quiet_want
      refine ⟨.int .i64 (line : Int), fun W hW => ?_, ?_⟩
      · have x4 : W.cell? ⟨w2.heap.size, 4, none⟩ = some (.int .i64 (line : Int)) := HB.out W hW 4
        go_simp
      go_big_quiet_on
      simp only [Act.put, List.setIfInBounds_toArray, List.set_cons_zero, List.set_cons_succ]
      go_big_quiet_want
      refine ⟨.pointer (some ⟨w2.heap.size, 2, none⟩), fun W hW => ?_, ?_⟩
      · go_simp
      go_big_quiet_on
      simp only [Act.put, List.setIfInBounds_toArray, List.set_cons_zero, List.set_cons_succ]
      go_big_quiet_want
      refine ⟨.int .i64 (now : Int), fun W hW => ?_, ?_⟩
      · have x2 : W.cell? ⟨w2.heap.size, 2, none⟩ = some (.int .i64 (now : Int)) := HB.out W hW 2
        go_simp
      go_big_quiet_on
      simp only [Act.put, List.setIfInBounds_toArray, List.set_cons_zero, List.set_cons_succ]
      go_big_quiet_want
      refine ⟨.int .i64 ((now - head + 1 : Nat) : Int), fun W hW => ?_, ?_⟩
      · go_simp
        refine (HCo.out W hW).mono ?_
        rintro e w7 ⟨rfl, rfl⟩
        exact ⟨rfl, hW⟩
      go_big_quiet_on
      simp only [Act.put, List.setIfInBounds_toArray, List.set_cons_zero, List.set_cons_succ]
      go_big_quiet_want
      go_big_quiet_op
      go_big_quiet_on
      go_big_quiet_want
      go_big_quiet_op
      go_big_quiet_on
      go_big_quiet_want
      go_big_quiet_op
      go_big_quiet_on
      go_big_quiet_want
      go_big_quiet_op
      go_big_quiet_on
      refine wpQuiet_nil ?_
      intro W hW
      go_wp2_with fail
      refine bodyPost_ret (results_sc _ _) rfl ?_
      have hb := hW.bel
      rw [HXw.out] at hb
      rw [HRe.out]
      exact ⟨.slice none 0 0, rfl, World.ownsRow_nil _ _ _ _, hb⟩
end Go.Proofs.YtfbmagnfgnebdaaGreatDoor

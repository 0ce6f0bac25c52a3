import Derived.Test.YtffgkjmfeannoaaGreatDoorXAO
namespace Go.Proofs.YtffgkjmfeannoaaGreatDoor
open Go.RowKit Go.Shelf
set_option maxRecDepth 100000 in
set_option maxHeartbeats 4000000 in
theorem tk4 {X : MX} (hC : MC X) (hF : FOK X.w0) {now0 line head j0 : Nat} {D : List Tok} (hA0 : AT X.l now0 j0) (hhd : head ≤ now0) (hD : D.length ≤ 65536) {Q : Exit → Act → World → Prop} (hQ0 : ∀ tmps W', tokR X now0 line head j0 D (.returned (tmps.getD 2 undef)) W' → Q .ret { tmps := tmps, defers := [] } W')
    (a : Act) (wr : World) (hJ : TJ X now0 line head j0 D 4 a wr) (R c : Code) (hc : Tryz.f45.body = some (.seq R (.scope c))) : ∃ X', findLabel c 4 = some (.seq .skip X') ∧ X'.wp Tryz.prog (jumpN (fun l' a' w' => TJ X now0 line head j0 D l' a' w' ∧ mNow X w' < mNow X wr) Q) a wr := by
  have HA0 : Hid (AT X.l now0 j0) := hA0
  have hQ : Hid (∀ tmps W', tokR X now0 line head j0 D (.returned (tmps.getD 2 undef)) W' → Q .ret { tmps := tmps, defers := [] } W') := hQ0
  have hlen := hC.len
  clear hA0 hQ0
  unfold Tryz.f45 at hc
  injection hc with hc
  injection hc with _ hc
  injection hc with hc
  subst hc
  refine ⟨_, rfl, ?_⟩
  obtain ⟨now, j, v, u, rfl, hu, h0, HF⟩ := hJ
  obtain ⟨u0, u1, u2, u3, u4, u5, u6, u7, u8, u9, u10, u11, u12, u13, u14, u15, u16, u17, u18, u19, u20, u21, u22, u23, u24, u25, u26, u27, u28, u29, u30, u31, u32, u33, u34, u35, u36, u37, u38, u39, u40, u41, u42, u43, u44, u45, u46, u47, u48, u49, u50, u51, u52, u53, u54, u55, u56, u57, u58, u59, u60, u61, u62, u63, u64, u65, u66, u67, u68, u69, u70, u71, u72, u73, u74, u75, u76, u77, u78, u79, u80, u81, u82, u83, u84, u85, u86, u87, u88, u89, u90, u91, u92, u93, u94, u95, u96, u97, u98, u99, u100, u101, u102, u103, u104, rfl⟩ := arr_105 u hu
  have e0 : u0 = .pointer (some ⟨X.b, 0, none⟩) := h0
  subst e0
  clear hu h0
  obtain ⟨-, m, hat, hj0, hjl, hasc, hend, h3, hn7, h7⟩ := HF.out
  clear HF
  have hc2 := m.c2
  have fz2 := m.fz 2
  have hle := hat.le
  have hlt := hat.lt
  have n0 : (0 : Int) ≤ (now : Int) := by omega
  have n1 : (now : Int) ≤ 16384 := by omega
  have hat1 := hat.asc hjl hasc
  have m1 := m.setNow hC (now + 1) (z := (now : Int) + 1) (by omega)
  have hM0 := mNow_of m
  have HW := inWord_any hC m1 hat1
  obtain ⟨r, hr⟩ : ∃ r, inW X.l (j + 1) = r := ⟨_, rfl⟩
  rw [hr] at HW
  clear m
  cases r with
  | true =>
    obtain ⟨hl1, ha1⟩ := inW_asc hr
    have hend1 : endF 4 X.l (j + 1) = tokC X.l j0 := by
      rw [← hend]
      show ((3 : Nat), wrun X.l (j + 1 + 1)) = ((3 : Nat), wrun X.l (j + 1))
      rw [wrun_yes (j := j + 1) (by simp [hr])]
    have HH : Hid (∀ W', MS X W' (now + 1) now0 line head v D → Hid (TF X now0 line head j0 D 4 (now + 1) (j + 1) v W') ∧ mNow X W' < mNow X wr) := fun W' m' => ⟨⟨by decide, m', hat1, by omega, hl1, ha1, hend1, (fun h => absurd h (by decide)), (fun _ => hn7 (by decide)), (fun h => absurd h (by decide))⟩, by rw [mNow_of m', hM0]; omega⟩
    clear hend1 ha1
    clear hr hat1 hat hend h3 hn7 h7 hM0 hasc
    go_wp2_with fail
    refine HW.mono ?_
    rintro e w1 ⟨rfl, m2⟩
    go_wp2_with fail
    go_step3
    simp only [Exit.then]
    exact ⟨⟨now + 1, j + 1, v, _, rfl, rfl, rfl, (HH.out _ m2).1⟩, (HH.out _ m2).2⟩
  | false =>
    have HEND : Hid (tokC X.l j0 = (3, j + 1)) := by
      unfold Hid
      rw [← hend]
      show ((3 : Nat), wrun X.l (j + 1)) = _
      rw [wrun_no (j := j + 1) (by simp [hr])]
    have HN7 : Hid (kl X.l j0 ≠ 7) := hn7 (by decide)
    have HAT : Hid (AT X.l (now + 1) (j + 1)) := hat1
    clear hr hat1 hat hend h3 hn7 h7 hM0 hasc
    go_wp2_with fail
    refine HW.mono ?_
    rintro e w1 ⟨rfl, m2⟩
    go_wp2_with fail
    refine (whole_any hC hF m2 HA0.out HAT.out (by omega) (by omega) hhd hD 3 (by decide) (by decide) (by intro _; omega)).mono ?_
    rintro e w9 ⟨rfl, v9, m9⟩
    go_wp2_with fail
    refine jump_ret (hQ.out _ _ ?_)
    exact tokR_of_whole HAT.out HA0.out HEND.out (fun x => absurd x HN7.out) ⟨rfl, v9, m9⟩
end Go.Proofs.YtffgkjmfeannoaaGreatDoor

import Derived.Test.YtffgkjmfeannoaaGreatDoorXAO
namespace Go.Proofs.YtffgkjmfeannoaaGreatDoor
open Go.RowKit Go.Shelf
set_option maxRecDepth 100000 in
set_option maxHeartbeats 4000000 in
theorem tk3 {X : MX} (hC : MC X) (hF : FOK X.w0) {now0 line head j0 : Nat} {D : List Tok} (hA0 : AT X.l now0 j0) (hhd : head ≤ now0) (hD : D.length ≤ 65536) {Q : Exit → Act → World → Prop} (hQ0 : ∀ tmps W', tokR X now0 line head j0 D (.returned (tmps.getD 2 undef)) W' → Q .ret { tmps := tmps, defers := [] } W')
    (a : Act) (wr : World) (hJ : TJ X now0 line head j0 D 3 a wr) (R c : Code) (hc : Tryz.f45.body = some (.seq R (.scope c))) : ∃ X', findLabel c 3 = some (.seq .skip X') ∧ X'.wp Tryz.prog (jumpN (fun l' a' w' => TJ X now0 line head j0 D l' a' w' ∧ mNow X w' < mNow X wr) Q) a wr := by
  have HA0 : Hid (AT X.l now0 j0) := hA0
  have hQ : Hid (∀ tmps W', tokR X now0 line head j0 D (.returned (tmps.getD 2 undef)) W' → Q .ret { tmps := tmps, defers := [] } W') := hQ0
  have hlen := hC.len
  clear hA0 hQ0
  unfold Tryz.f45 at hc
  injection hc with hc
  injection hc with _ hc
  injection hc with hc
  subst hc
  refine ⟨_, rfl, ?_⟩
  obtain ⟨now, j, v, u, rfl, hu, h0, HF⟩ := hJ
  obtain ⟨u0, u1, u2, u3, u4, u5, u6, u7, u8, u9, u10, u11, u12, u13, u14, u15, u16, u17, u18, u19, u20, u21, u22, u23, u24, u25, u26, u27, u28, u29, u30, u31, u32, u33, u34, u35, u36, u37, u38, u39, u40, u41, u42, u43, u44, u45, u46, u47, u48, u49, u50, u51, u52, u53, u54, u55, u56, u57, u58, u59, u60, u61, u62, u63, u64, u65, u66, u67, u68, u69, u70, u71, u72, u73, u74, u75, u76, u77, u78, u79, u80, u81, u82, u83, u84, u85, u86, u87, u88, u89, u90, u91, u92, u93, u94, u95, u96, u97, u98, u99, u100, u101, u102, u103, u104, rfl⟩ := arr_105 u hu
  have e0 : u0 = .pointer (some ⟨X.b, 0, none⟩) := h0
  subst e0
  clear hu h0
  obtain ⟨-, m, hat, hj0, hjl, hasc, hend, h3, hn7, h7⟩ := HF.out
  clear HF
  have hc2 := m.c2
  have fz2 := m.fz 2
  have hle := hat.le
  have hlt := hat.lt
  have n0 : (0 : Int) ≤ (now : Int) := by omega
  have n1 : (now : Int) ≤ 16384 := by omega
  obtain ⟨rfl, rfl, hb34⟩ := h3 rfl
  have H7 : Hid (kl X.l j = 7) := h7 rfl
  have HP := passQuoted_any hC m hat hjl hb34
  have HEND0 : Hid (tokC X.l j = (6, quoJ X.l j)) := hend.symm
  have hql := quoE_lt X.l j
  have hge : quoE X.l j = 0 → j ≤ quoJ X.l j := fun h0 => by
    have h1 := insS_ge X.l _ (j + 1) [] (Nat.le_refl _) (by omega)
    unfold quoJ
    split
    · exact Nat.le_refl _
    · omega
  obtain ⟨E, hE⟩ : ∃ E, quoE X.l j = E := ⟨_, rfl⟩
  have HE : Hid (quoE X.l j = E) := hE
  rw [hE] at HP hge hql
  clear hE hend h3 hn7 h7 hasc hc2 fz2 m hb34
  by_cases e0 : E = 0
  · subst e0
    have hge0 := hge rfl
    go_wp2_with fail
    refine HP.mono ?_
    rintro e w1 ⟨rfl, kq, hkq, hql2, m2⟩
    have HEND : Hid (tokC X.l j = (6, quoJ X.l j)) := HEND0.out
    have HAT : Hid (AT X.l kq (quoJ X.l j)) := hkq
    clear hkq hat
    go_wp2_with fail
    refine (whole_any hC hF m2 HA0.out HAT.out (by omega) (by omega) hhd hD 6 (by decide) (by decide) (by intro _; omega)).mono ?_
    rintro e w9 ⟨rfl, v9, m9⟩
    go_wp2_with fail
    refine jump_ret (hQ.out _ _ ?_)
    exact tokR_of_whole HAT.out HA0.out HEND.out (fun _ => HE.out) ⟨rfl, v9, m9⟩
  · have e1 : ((E : Int) == 0) = false := by rw [beq_eq_false_iff_ne]; omega
    have e2 : ((E : Int) != 0) = true := by rw [bne, e1]; rfl
    clear hge
    go_wp2_with fail
    refine HP.mono ?_
    rintro e w1 ⟨rfl, kq, hkq, hql2, m2⟩
    go_wp2_with fail
    refine jump_ret (hQ.out _ _ ?_)
    have := tokR_of_quo hkq H7.out (by rw [HE.out]; exact e0) m2
    rw [HE.out] at this
    exact this
end Go.Proofs.YtffgkjmfeannoaaGreatDoor

import Derived.Test.YtfcdaljhbeogeaaBI
namespace Go.Proofs.Ytfcdaljhbeogeaa
open Go.RowKit
set_option maxRecDepth 100000 in
theorem rnum_any (n : Int) (w : World) : Calls Try.prog 12 #[.int .i64 n] w fun e w' => e = .returned (.int .i64 n) ∧ w' = w := by
  go_enter Try.func12, Try.ntmps12
  go_wp2_with fail
  go_ret
  exact ⟨rfl, rfl⟩
set_option maxRecDepth 100000 in
set_option maxHeartbeats 1000000 in
theorem ralike_any (L : List IRt) (o1 o2 : Option Addr) (c1 c2 : Nat) (w : World) (hL : L.length ≤ 281474976710656) (h1 : IRR w o1 L) (h2 : IRR w o2 L) :
    Calls Try.prog 18 #[.slice o1 L.length c1, .slice o2 L.length c2] w fun e w' => e = .returned (.bool true) ∧ Below w.heap.size w w' := by
  have H1 : Hid (IRR w o1 L) := h1
  have H2 : Hid (IRR w o2 L) := h2
  clear h1 h2
  go_enter Try.func18, Try.ntmps18
  go_wp2_with fail
  go_loopw [5] (fun vi wr => ∃ i : Nat, vi = .int .i64 i ∧ i ≤ L.length ∧ Below w.heap.size w wr) (fun vi _ => L.length - (intOf vi).toNat)
  case atStart => exact ⟨0, rfl, Nat.zero_le _, Below.refl _ _⟩
  case round =>
    obtain ⟨i, rfl, hi, hB⟩ := hrel
    by_cases hlt : i < L.length
    · have j1 : (i : Int) < (L.length : Int) := by omega
      have j0 : (0 : Int) ≤ (i : Int) := by omega
      obtain ⟨r, hri⟩ : ∃ r, L[i]? = some r := ⟨_, List.getElem?_eq_getElem hlt⟩
      obtain ⟨g, o0, rfl, p0, p1, p2, p3⟩ := H1.out wr hB i r hri
      obtain ⟨k, q0, rfl, n0, n1, n2, n3⟩ := H2.out wr hB i r hri
      have X1 : Hid (∀ W, Below wr.heap.size wr W → W.cell? ⟨g, o0 + i * 4, none⟩ = some (.int .i64 r.1) ∧ W.cell? ⟨g, o0 + i * 4 + 1, none⟩ = some (.int .i64 r.2.1) ∧ W.cell? ⟨g, o0 + i * 4 + 2, none⟩ = some (.int .i64 r.2.2.1) ∧ W.cell? ⟨g, o0 + i * 4 + 3, none⟩ = some (.int .i64 r.2.2.2)) := fun W hW => by
        obtain ⟨g3, q3, e, hh⟩ := H1.out W (bel0 hB hW) i r hri
        injection e with e
        injection e with e1 e2
        subst e1 e2
        exact hh
      have X2 : Hid (∀ W, Below wr.heap.size wr W → W.cell? ⟨k, q0 + i * 4, none⟩ = some (.int .i64 r.1) ∧ W.cell? ⟨k, q0 + i * 4 + 1, none⟩ = some (.int .i64 r.2.1) ∧ W.cell? ⟨k, q0 + i * 4 + 2, none⟩ = some (.int .i64 r.2.2.1) ∧ W.cell? ⟨k, q0 + i * 4 + 3, none⟩ = some (.int .i64 r.2.2.2)) := fun W hW => by
        obtain ⟨g3, q3, e, hh⟩ := H2.out W (bel0 hB hW) i r hri
        injection e with e
        injection e with e1 e2
        subst e1 e2
        exact hh
      obtain ⟨r0, r1, r2, r3⟩ := r
      simp only at X1 X2
      clear p0 p1 p2 p3 n0 n1 n2 n3 hri
      go_wp2_with fail
      refine quiet_lit3 (C := fun W => Below wr.heap.size wr W) (by kernel_rfl) (by kernel_rfl) (show Below _ _ _ from (Below.refl _ _).drew) ?_
      go_big_quiet_want
      go_big_quiet_op
      go_big_quiet_on
      go_big_quiet_want
      go_big_quiet_op
      go_big_quiet_on
      go_big_quiet_want
      refine ⟨.pointer (some ⟨g, o0 + i * 4, none⟩), fun W hW => ?_, ?_⟩
      · go_simp
      go_big_quiet_on
      simp only [Act.put, List.setIfInBounds_toArray, List.set_cons_zero, List.set_cons_succ]
      go_big_quiet_want
      refine ⟨.agg #[.int .i64 r0, .int .i64 r1, .int .i64 r2, .int .i64 r3], fun W hW => ?_, ?_⟩
      · obtain ⟨x0, x1, x2, x3⟩ := X1.out W hW
        go_simp
      go_big_quiet_on
      simp only [Act.put, List.setIfInBounds_toArray, List.set_cons_zero, List.set_cons_succ]
      go_big_quiet_want
      go_big_quiet_op
      go_big_quiet_on
      go_big_quiet_want
      go_big_quiet_op
      go_big_quiet_on
      go_big_quiet_want
      refine ⟨.pointer (some ⟨k, q0 + i * 4, none⟩), fun W hW => ?_, ?_⟩
      · go_simp
      go_big_quiet_on
      simp only [Act.put, List.setIfInBounds_toArray, List.set_cons_zero, List.set_cons_succ]
      go_big_quiet_want
      refine ⟨.agg #[.int .i64 r0, .int .i64 r1, .int .i64 r2, .int .i64 r3], fun W hW => ?_, ?_⟩
      · obtain ⟨x0, x1, x2, x3⟩ := X2.out W hW
        go_simp
      go_big_quiet_on
      simp only [Act.put, List.setIfInBounds_toArray, List.set_cons_zero, List.set_cons_succ]
      go_big_quiet_want
      refine ⟨.bool false, fun W hW => ?_, ?_⟩
      · go_simp
      go_big_quiet_on
      simp only [Act.put, List.setIfInBounds_toArray, List.set_cons_zero, List.set_cons_succ]
      refine wpQuiet_nil ?_
      intro W hW
      go_wp2_with fail
      go_roundw
      case rel => exact ⟨i + 1, by go_num, by omega, bel0 hB hW⟩
      case measure => simp [intOf]; omega
    · have j1 : ¬ (i : Int) < (L.length : Int) := by omega
      go_wp2_with fail
      go_ret
      exact ⟨rfl, hB⟩
set_option maxRecDepth 100000 in
set_option maxHeartbeats 1000000 in
theorem runtouched_any (L : List IRt) (g c : Nat) (o2 : Option Addr) (c2 : Nat) (w : World) (hL : L.length ≤ 270) (hc : L.length + 2 ≤ c) (h1 : IRR w (some ⟨g, 0, none⟩) (L ++ [(91, 0, 0, 0), (92, 0, 0, 0)])) (h2 : IRR w o2 L) :
    Calls Try.prog 19 #[.slice (some ⟨g, 0, none⟩) L.length c, .slice o2 L.length c2] w fun e w' => e = .returned (.bool true) ∧ Below w.heap.size w w' := by
  have hI : IRR w (some ⟨g, 0, none⟩) L := fun W hW k r hr => h1 W hW k r (by rw [List.getElem?_append_left (List.getElem?_eq_some_iff.1 hr).1]; exact hr)
  have HA : Hid (Calls Try.prog 18 #[.slice (some ⟨g, 0, none⟩) L.length c, .slice o2 L.length c2] w fun e w' => e = .returned (.bool true) ∧ Below w.heap.size w w') := ralike_any L _ _ c c2 w (by omega) hI h2
  have XM : Hid (∀ W, Below w.heap.size w W → (W.cell? ⟨g, L.length * 4, none⟩ = some (.int .i64 91) ∧ W.cell? ⟨g, L.length * 4 + 1, none⟩ = some (.int .i64 0) ∧ W.cell? ⟨g, L.length * 4 + 2, none⟩ = some (.int .i64 0) ∧ W.cell? ⟨g, L.length * 4 + 3, none⟩ = some (.int .i64 0)) ∧ (W.cell? ⟨g, (L.length + 1) * 4, none⟩ = some (.int .i64 92) ∧ W.cell? ⟨g, (L.length + 1) * 4 + 1, none⟩ = some (.int .i64 0) ∧ W.cell? ⟨g, (L.length + 1) * 4 + 2, none⟩ = some (.int .i64 0) ∧ W.cell? ⟨g, (L.length + 1) * 4 + 3, none⟩ = some (.int .i64 0))) := fun W hW => by
    obtain ⟨g3, q3, e, a⟩ := h1 W hW L.length (91, 0, 0, 0) (by rw [List.getElem?_append_right (Nat.le_refl _), Nat.sub_self]; rfl)
    obtain ⟨g4, q4, e', a'⟩ := h1 W hW (L.length + 1) (92, 0, 0, 0) (by rw [List.getElem?_append_right (by omega), Nat.add_sub_cancel_left]; rfl)
    injection e with e
    injection e with e1 e2
    injection e' with e'
    injection e' with e3 e4
    subst e1 e2 e3 e4
    simp only [Nat.zero_add] at a a'
    exact ⟨a, a'⟩
  have e1 : IntKind.i64.wrap ((L.length : Int) + 2) = (L.length : Int) + 2 := by rw [IntKind.wrap_i64]; omega
  have e2 : IntKind.i64.wrap ((L.length : Int) + 1) = (L.length : Int) + 1 := by rw [IntKind.wrap_i64]; omega
  obtain ⟨n, hn⟩ : ∃ n, L.length = n := ⟨_, rfl⟩
  rw [hn] at HA XM e1 e2 hL hc ⊢
  have u1 : wrap64 ((n : Int) + 2) = (n : Int) + 2 := w64 (by omega) (by omega)
  have u2 : wrap64 ((n : Int) + 1) = (n : Int) + 1 := w64 (by omega) (by omega)
  have j0 : (0 : Int) ≤ (n : Int) := by omega
  have j1 : (0 : Int) ≤ (n : Int) + 2 := by omega
  have j2 : (n : Int) + 2 ≤ (c : Int) := by omega
  have j3 : (n : Int) < (n : Int) + 2 := by omega
  have j4 : (0 : Int) ≤ (n : Int) + 1 := by omega
  have j5 : (n : Int) + 1 < (n : Int) + 2 := by omega
  clear h1 h2 hI hn
  go_enter Try.func19, Try.ntmps19
  go_wp2_with fail
  refine HA.out.mono ?_
  rintro e W1 ⟨rfl, hb1⟩
  obtain ⟨⟨m0, m1, m2, m3⟩, m4, m5, m6, m7⟩ := XM.out W1 hb1
  go_wp2_with fail
  go_ret
  exact ⟨rfl, hb1⟩
end Go.Proofs.Ytfcdaljhbeogeaa

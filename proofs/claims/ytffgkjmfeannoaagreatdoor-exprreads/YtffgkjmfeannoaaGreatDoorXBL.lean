import Derived.Test.YtffgkjmfeannoaaGreatDoorXBK
namespace Go.Proofs.YtffgkjmfeannoaaGreatDoor.Ex
open Go.RowKit
variable {w0 W X : World} {b : Nat} {pt : Option Addr} {ct : Nat} {L : List XTok} {i o m : Nat} {out : List Nd}
def opsC : Array Value := #[.string ⟨#[]⟩, .string ⟨#[61]⟩, .string ⟨#[33, 61]⟩, .string ⟨#[60]⟩, .string ⟨#[60, 61]⟩, .string ⟨#[62]⟩, .string ⟨#[62, 61]⟩]
def OS (w : World) : Prop := ∃ t fr, w.heap[2]? = some (.cells opsC t fr)
def opL : List (List UInt8) := [[], [61], [33, 61], [60], [60, 61], [62], [62, 61]]
def opN (t : XTok) : Nat := if isS t [61] then 1 else if isS t [33, 61] then 2 else if isS t [60] then 3 else if isS t [60, 61] then 4 else if isS t [62] then 5 else if isS t [62, 61] then 6 else 0
variable {nB : List UInt8 → Bool} {nV : List UInt8 → Option Int} {pB : List UInt8 → Bool}
theorem info_strX : (Tryz.prog.info? 9).map (fun i => i.size) = some 1 := by kernel_rfl
theorem ix_arr (cs : Array Value) (k : Nat) (v : Value) (hk : k < 7) (hv : cs.toList[k]? = some v) (w : World) : Sem.run Tryz.prog (Instr.index 118 (.agg cs) (.int .i64 (k : Int))) w = .ok v w := by
  obtain ⟨I, hinf, hsz⟩ : ∃ I, Tryz.prog.info? 9 = some I ∧ I.size = 1 := by
    have h := info_strX
    cases hq : Tryz.prog.info? 9 with
    | none => rw [hq] at h; cases h
    | some I => rw [hq] at h; exact ⟨I, rfl, Option.some.inj h⟩
  have hv0 : cs[k]? = some v := by rw [← Array.getElem?_toList]; exact hv
  simp [Instr.index, asIntOf, run_underlying Tryz.underlying118, go_sem, sizeOf, typeInfo, hk, hinf, hsz, hv0]
theorem opN_at (k : Nat) (hk : k < 7) {t : XTok} (h : isS t (opL.getD k []) = true) (hn : ∀ j, j < k → isS t (opL.getD j []) = false) : opN t = k := by
  unfold opN
  match k, hk with
  | 0, _ =>
    have h0 : t.2.1 = [] := by
      unfold isS at h
      have := (Bool.and_eq_true _ _ ▸ h : _ ∧ _).2
      exact beq_iff_eq.1 this
    unfold isS
    rw [h0]
    cases (t.1 == 7) <;> rfl
  | 1, _ =>
    have h0 : isS t [61] = true := h
    rw [h0, if_pos rfl]
  | 2, _ =>
    have h0 : isS t [33, 61] = true := h
    have n1 : isS t [61] = false := hn 1 (by decide)
    rw [n1, if_neg (by decide), h0, if_pos rfl]
  | 3, _ =>
    have h0 : isS t [60] = true := h
    have n1 : isS t [61] = false := hn 1 (by decide)
    have n2 : isS t [33, 61] = false := hn 2 (by decide)
    rw [n1, if_neg (by decide), n2, if_neg (by decide), h0, if_pos rfl]
  | 4, _ =>
    have h0 : isS t [60, 61] = true := h
    have n1 : isS t [61] = false := hn 1 (by decide)
    have n2 : isS t [33, 61] = false := hn 2 (by decide)
    have n3 : isS t [60] = false := hn 3 (by decide)
    rw [n1, if_neg (by decide), n2, if_neg (by decide), n3, if_neg (by decide), h0, if_pos rfl]
  | 5, _ =>
    have h0 : isS t [62] = true := h
    have n1 : isS t [61] = false := hn 1 (by decide)
    have n2 : isS t [33, 61] = false := hn 2 (by decide)
    have n3 : isS t [60] = false := hn 3 (by decide)
    have n4 : isS t [60, 61] = false := hn 4 (by decide)
    rw [n1, if_neg (by decide), n2, if_neg (by decide), n3, if_neg (by decide), n4, if_neg (by decide), h0, if_pos rfl]
  | 6, _ =>
    have h0 : isS t [62, 61] = true := h
    have n1 : isS t [61] = false := hn 1 (by decide)
    have n2 : isS t [33, 61] = false := hn 2 (by decide)
    have n3 : isS t [60] = false := hn 3 (by decide)
    have n4 : isS t [60, 61] = false := hn 4 (by decide)
    have n5 : isS t [62] = false := hn 5 (by decide)
    rw [n1, if_neg (by decide), n2, if_neg (by decide), n3, if_neg (by decide), n4, if_neg (by decide), n5, if_neg (by decide), h0, if_pos rfl]
theorem opN_none {t : XTok} (hn : ∀ j, j < 7 → isS t (opL.getD j []) = false) : opN t = 0 := by
  unfold opN
  have n1 : isS t [61] = false := hn 1 (by decide)
  have n2 : isS t [33, 61] = false := hn 2 (by decide)
  have n3 : isS t [60] = false := hn 3 (by decide)
  have n4 : isS t [60, 61] = false := hn 4 (by decide)
  have n5 : isS t [62] = false := hn 5 (by decide)
  have n6 : isS t [62, 61] = false := hn 6 (by decide)
  rw [n1, if_neg (by decide), n2, if_neg (by decide), n3, if_neg (by decide), n4, if_neg (by decide), n5, if_neg (by decide), n6, if_neg (by decide)]
theorem opN_cl (t : XTok) : (opN t = 0 ∧ ∀ o, cl nB nV pB t ≠ .op o) ∨ (opN t ≠ 0 ∧ opN t ≤ 6 ∧ cl nB nV pB t = .op (opN t)) := by
  by_cases h7 : t.1 = 7
  · have hi : ∀ s, isS t s = (t.2.1 == s) := fun s => by unfold isS; simp [h7]
    unfold opN cl
    simp only [hi, if_pos h7]
    unfold clS
    by_cases e : t.2.1 = [33]
    · rw [e]; exact .inl ⟨rfl, fun o => nofun⟩
    rw [if_neg e]; clear e
    by_cases e : t.2.1 = [40]
    · rw [e]; exact .inl ⟨rfl, fun o => nofun⟩
    rw [if_neg e]; clear e
    by_cases e : t.2.1 = [41]
    · rw [e]; exact .inl ⟨rfl, fun o => nofun⟩
    rw [if_neg e]; clear e
    by_cases e : t.2.1 = [38]
    · rw [e]; exact .inl ⟨rfl, fun o => nofun⟩
    rw [if_neg e]; clear e
    by_cases e : t.2.1 = [124]
    · rw [e]; exact .inl ⟨rfl, fun o => nofun⟩
    rw [if_neg e]; clear e
    by_cases e : t.2.1 = [47]
    · rw [e]; exact .inl ⟨rfl, fun o => nofun⟩
    rw [if_neg e]; clear e
    by_cases e : t.2.1 = [46, 46]
    · rw [e]; exact .inl ⟨rfl, fun o => nofun⟩
    rw [if_neg e]; clear e
    by_cases e : t.2.1 = [61]
    · rw [e]; exact .inr ⟨by decide, by decide, rfl⟩
    rw [if_neg e, if_neg (by simpa using e)]; clear e
    by_cases e : t.2.1 = [33, 61]
    · rw [e]; exact .inr ⟨by decide, by decide, rfl⟩
    rw [if_neg e, if_neg (by simpa using e)]; clear e
    by_cases e : t.2.1 = [60]
    · rw [e]; exact .inr ⟨by decide, by decide, rfl⟩
    rw [if_neg e, if_neg (by simpa using e)]; clear e
    by_cases e : t.2.1 = [60, 61]
    · rw [e]; exact .inr ⟨by decide, by decide, rfl⟩
    rw [if_neg e, if_neg (by simpa using e)]; clear e
    by_cases e : t.2.1 = [62]
    · rw [e]; exact .inr ⟨by decide, by decide, rfl⟩
    rw [if_neg e, if_neg (by simpa using e)]; clear e
    by_cases e : t.2.1 = [62, 61]
    · rw [e]; exact .inr ⟨by decide, by decide, rfl⟩
    rw [if_neg e, if_neg (by simpa using e)]; clear e
    exact .inl ⟨rfl, fun o => nofun⟩
  · left
    have hi : ∀ s, isS t s = false := fun s => by unfold isS; simp [h7]
    exact ⟨by unfold opN; simp only [hi]; rfl, fun o h => (cl_not7 h7 h).1 o rfl⟩
set_option maxRecDepth 100000 in
set_option maxHeartbeats 8000000 in
theorem op_any (hX : XR w0 pt L) (hlen : L.length ≤ 100000) (hO : ∀ U, Below w0.heap.size w0 U → OS U) (h : ST w0 b pt ct L W i o m out) :
    Calls Tryz.prog 86 #[.pointer (some ⟨b, 0, none⟩)] W fun e W' => e = .returned (.int .i64 (opN (tokAt L i) : Int)) ∧ Below W.heap.size W W' := by
  obtain ⟨t, fr, ho⟩ := hO W h.2.1
  have hc := fun j => cell_of_row W _ j _ _ _ ho
  have c0 : W.cell? ⟨2, 0, none⟩ = some (.string ⟨#[]⟩) := hc 0
  have c1 : W.cell? ⟨2, 1, none⟩ = some (.string ⟨#[61]⟩) := hc 1
  have c2 : W.cell? ⟨2, 2, none⟩ = some (.string ⟨#[33, 61]⟩) := hc 2
  have c3 : W.cell? ⟨2, 3, none⟩ = some (.string ⟨#[60]⟩) := hc 3
  have c4 : W.cell? ⟨2, 4, none⟩ = some (.string ⟨#[60, 61]⟩) := hc 4
  have c5 : W.cell? ⟨2, 5, none⟩ = some (.string ⟨#[62]⟩) := hc 5
  have c6 : W.cell? ⟨2, 6, none⟩ = some (.string ⟨#[62, 61]⟩) := hc 6
  have HA : Hid (∀ sg W', Below W.heap.size W W' → Calls Tryz.prog 35 #[.pointer (some ⟨b, 0, none⟩), .string ⟨sg.toArray⟩] W' fun e W2 => e = .returned (.bool (isS (tokAt L i) sg)) ∧ Below W'.heap.size W' W2) := fun sg W' hW' => isAt_any sg hX hlen (h.below hW')
  clear h hX hc ho
  obtain ⟨T, hT⟩ : ∃ T, tokAt L i = T := ⟨_, rfl⟩
  rw [hT] at HA ⊢
  clear hT
  go_enter Tryz.func86, Tryz.ntmps86
  go_wp2_with fail
  clear c0 c1 c2 c3 c4 c5 c6
  go_loopw [6] (fun vk wr => ∃ k : Nat, vk = .int .i64 (k : Int) ∧ Hid (k ≤ 7 ∧ Below W.heap.size W wr ∧ ∀ j, j < k → isS T (opL.getD j []) = false)) (fun vk wr => 7 - (intOf vk).toNat)
  case atStart => exact ⟨0, rfl, ⟨by omega, Below.refl _ _, fun j hj => absurd hj (Nat.not_lt_zero _)⟩⟩
  case round =>
    obtain ⟨k, rfl, HK⟩ := hrel
    have hk : k = 0 ∨ k = 1 ∨ k = 2 ∨ k = 3 ∨ k = 4 ∨ k = 5 ∨ k = 6 ∨ k = 7 := by have := HK.out.1; omega
    rcases hk with rfl | rfl | rfl | rfl | rfl | rfl | rfl | rfl
    · have H1 := HA.out [] wr HK.out.2.1
      have ix : Sem.run Tryz.prog (Instr.index 118 (.agg #[.string ⟨#[]⟩, .string ⟨#[61]⟩, .string ⟨#[33, 61]⟩, .string ⟨#[60]⟩, .string ⟨#[60, 61]⟩, .string ⟨#[62]⟩, .string ⟨#[62, 61]⟩]) (.int .i64 0)) wr = .ok (.string ⟨#[]⟩) wr := ix_arr _ 0 _ (by decide) rfl wr
      cases hc : isS T [] with
      | true =>
        rw [hc] at H1
        have HC := hideL hc
        clear hc
        go_wp2_with fail
        refine H1.mono ?_
        rintro e W1 ⟨rfl, b1⟩
        have HB : Hid (Below W.heap.size W W1) := bel0Z HK.out.2.1 b1
        clear H1 b1
        go_wp2_with fail
        go_ret
        exact ⟨by rw [opN_at 0 (by decide) HC.out HK.out.2.2]; rfl, HB.out⟩
      | false =>
        rw [hc] at H1
        have HC := hideL hc
        clear hc
        go_wp2_with fail
        refine H1.mono ?_
        rintro e W1 ⟨rfl, b1⟩
        have HB : Hid (Below W.heap.size W W1) := bel0Z HK.out.2.1 b1
        clear H1 b1
        go_wp2_with fail
        exact ⟨⟨1, rfl, ⟨by omega, HB.out, fun j hj => by
          rcases Nat.lt_succ_iff_lt_or_eq.1 hj with h | h
          · exact HK.out.2.2 j h
          · subst h; exact HC.out⟩⟩, by decide⟩
    · have H1 := HA.out [61] wr HK.out.2.1
      have ix : Sem.run Tryz.prog (Instr.index 118 (.agg #[.string ⟨#[]⟩, .string ⟨#[61]⟩, .string ⟨#[33, 61]⟩, .string ⟨#[60]⟩, .string ⟨#[60, 61]⟩, .string ⟨#[62]⟩, .string ⟨#[62, 61]⟩]) (.int .i64 1)) wr = .ok (.string ⟨#[61]⟩) wr := ix_arr _ 1 _ (by decide) rfl wr
      cases hc : isS T [61] with
      | true =>
        rw [hc] at H1
        have HC := hideL hc
        clear hc
        go_wp2_with fail
        refine H1.mono ?_
        rintro e W1 ⟨rfl, b1⟩
        have HB : Hid (Below W.heap.size W W1) := bel0Z HK.out.2.1 b1
        clear H1 b1
        go_wp2_with fail
        go_ret
        exact ⟨by rw [opN_at 1 (by decide) HC.out HK.out.2.2]; rfl, HB.out⟩
      | false =>
        rw [hc] at H1
        have HC := hideL hc
        clear hc
        go_wp2_with fail
        refine H1.mono ?_
        rintro e W1 ⟨rfl, b1⟩
        have HB : Hid (Below W.heap.size W W1) := bel0Z HK.out.2.1 b1
        clear H1 b1
        go_wp2_with fail
        exact ⟨⟨2, rfl, ⟨by omega, HB.out, fun j hj => by
          rcases Nat.lt_succ_iff_lt_or_eq.1 hj with h | h
          · exact HK.out.2.2 j h
          · subst h; exact HC.out⟩⟩, by decide⟩
    · have H1 := HA.out [33, 61] wr HK.out.2.1
      have ix : Sem.run Tryz.prog (Instr.index 118 (.agg #[.string ⟨#[]⟩, .string ⟨#[61]⟩, .string ⟨#[33, 61]⟩, .string ⟨#[60]⟩, .string ⟨#[60, 61]⟩, .string ⟨#[62]⟩, .string ⟨#[62, 61]⟩]) (.int .i64 2)) wr = .ok (.string ⟨#[33, 61]⟩) wr := ix_arr _ 2 _ (by decide) rfl wr
      cases hc : isS T [33, 61] with
      | true =>
        rw [hc] at H1
        have HC := hideL hc
        clear hc
        go_wp2_with fail
        refine H1.mono ?_
        rintro e W1 ⟨rfl, b1⟩
        have HB : Hid (Below W.heap.size W W1) := bel0Z HK.out.2.1 b1
        clear H1 b1
        go_wp2_with fail
        go_ret
        exact ⟨by rw [opN_at 2 (by decide) HC.out HK.out.2.2]; rfl, HB.out⟩
      | false =>
        rw [hc] at H1
        have HC := hideL hc
        clear hc
        go_wp2_with fail
        refine H1.mono ?_
        rintro e W1 ⟨rfl, b1⟩
        have HB : Hid (Below W.heap.size W W1) := bel0Z HK.out.2.1 b1
        clear H1 b1
        go_wp2_with fail
        exact ⟨⟨3, rfl, ⟨by omega, HB.out, fun j hj => by
          rcases Nat.lt_succ_iff_lt_or_eq.1 hj with h | h
          · exact HK.out.2.2 j h
          · subst h; exact HC.out⟩⟩, by decide⟩
    · have H1 := HA.out [60] wr HK.out.2.1
      have ix : Sem.run Tryz.prog (Instr.index 118 (.agg #[.string ⟨#[]⟩, .string ⟨#[61]⟩, .string ⟨#[33, 61]⟩, .string ⟨#[60]⟩, .string ⟨#[60, 61]⟩, .string ⟨#[62]⟩, .string ⟨#[62, 61]⟩]) (.int .i64 3)) wr = .ok (.string ⟨#[60]⟩) wr := ix_arr _ 3 _ (by decide) rfl wr
      cases hc : isS T [60] with
      | true =>
        rw [hc] at H1
        have HC := hideL hc
        clear hc
        go_wp2_with fail
        refine H1.mono ?_
        rintro e W1 ⟨rfl, b1⟩
        have HB : Hid (Below W.heap.size W W1) := bel0Z HK.out.2.1 b1
        clear H1 b1
        go_wp2_with fail
        go_ret
        exact ⟨by rw [opN_at 3 (by decide) HC.out HK.out.2.2]; rfl, HB.out⟩
      | false =>
        rw [hc] at H1
        have HC := hideL hc
        clear hc
        go_wp2_with fail
        refine H1.mono ?_
        rintro e W1 ⟨rfl, b1⟩
        have HB : Hid (Below W.heap.size W W1) := bel0Z HK.out.2.1 b1
        clear H1 b1
        go_wp2_with fail
        exact ⟨⟨4, rfl, ⟨by omega, HB.out, fun j hj => by
          rcases Nat.lt_succ_iff_lt_or_eq.1 hj with h | h
          · exact HK.out.2.2 j h
          · subst h; exact HC.out⟩⟩, by decide⟩
    · have H1 := HA.out [60, 61] wr HK.out.2.1
      have ix : Sem.run Tryz.prog (Instr.index 118 (.agg #[.string ⟨#[]⟩, .string ⟨#[61]⟩, .string ⟨#[33, 61]⟩, .string ⟨#[60]⟩, .string ⟨#[60, 61]⟩, .string ⟨#[62]⟩, .string ⟨#[62, 61]⟩]) (.int .i64 4)) wr = .ok (.string ⟨#[60, 61]⟩) wr := ix_arr _ 4 _ (by decide) rfl wr
      cases hc : isS T [60, 61] with
      | true =>
        rw [hc] at H1
        have HC := hideL hc
        clear hc
        go_wp2_with fail
        refine H1.mono ?_
        rintro e W1 ⟨rfl, b1⟩
        have HB : Hid (Below W.heap.size W W1) := bel0Z HK.out.2.1 b1
        clear H1 b1
        go_wp2_with fail
        go_ret
        exact ⟨by rw [opN_at 4 (by decide) HC.out HK.out.2.2]; rfl, HB.out⟩
      | false =>
        rw [hc] at H1
        have HC := hideL hc
        clear hc
        go_wp2_with fail
        refine H1.mono ?_
        rintro e W1 ⟨rfl, b1⟩
        have HB : Hid (Below W.heap.size W W1) := bel0Z HK.out.2.1 b1
        clear H1 b1
        go_wp2_with fail
        exact ⟨⟨5, rfl, ⟨by omega, HB.out, fun j hj => by
          rcases Nat.lt_succ_iff_lt_or_eq.1 hj with h | h
          · exact HK.out.2.2 j h
          · subst h; exact HC.out⟩⟩, by decide⟩
    · have H1 := HA.out [62] wr HK.out.2.1
      have ix : Sem.run Tryz.prog (Instr.index 118 (.agg #[.string ⟨#[]⟩, .string ⟨#[61]⟩, .string ⟨#[33, 61]⟩, .string ⟨#[60]⟩, .string ⟨#[60, 61]⟩, .string ⟨#[62]⟩, .string ⟨#[62, 61]⟩]) (.int .i64 5)) wr = .ok (.string ⟨#[62]⟩) wr := ix_arr _ 5 _ (by decide) rfl wr
      cases hc : isS T [62] with
      | true =>
        rw [hc] at H1
        have HC := hideL hc
        clear hc
        go_wp2_with fail
        refine H1.mono ?_
        rintro e W1 ⟨rfl, b1⟩
        have HB : Hid (Below W.heap.size W W1) := bel0Z HK.out.2.1 b1
        clear H1 b1
        go_wp2_with fail
        go_ret
        exact ⟨by rw [opN_at 5 (by decide) HC.out HK.out.2.2]; rfl, HB.out⟩
      | false =>
        rw [hc] at H1
        have HC := hideL hc
        clear hc
        go_wp2_with fail
        refine H1.mono ?_
        rintro e W1 ⟨rfl, b1⟩
        have HB : Hid (Below W.heap.size W W1) := bel0Z HK.out.2.1 b1
        clear H1 b1
        go_wp2_with fail
        exact ⟨⟨6, rfl, ⟨by omega, HB.out, fun j hj => by
          rcases Nat.lt_succ_iff_lt_or_eq.1 hj with h | h
          · exact HK.out.2.2 j h
          · subst h; exact HC.out⟩⟩, by decide⟩
    · have H1 := HA.out [62, 61] wr HK.out.2.1
      have ix : Sem.run Tryz.prog (Instr.index 118 (.agg #[.string ⟨#[]⟩, .string ⟨#[61]⟩, .string ⟨#[33, 61]⟩, .string ⟨#[60]⟩, .string ⟨#[60, 61]⟩, .string ⟨#[62]⟩, .string ⟨#[62, 61]⟩]) (.int .i64 6)) wr = .ok (.string ⟨#[62, 61]⟩) wr := ix_arr _ 6 _ (by decide) rfl wr
      cases hc : isS T [62, 61] with
      | true =>
        rw [hc] at H1
        have HC := hideL hc
        clear hc
        go_wp2_with fail
        refine H1.mono ?_
        rintro e W1 ⟨rfl, b1⟩
        have HB : Hid (Below W.heap.size W W1) := bel0Z HK.out.2.1 b1
        clear H1 b1
        go_wp2_with fail
        go_ret
        exact ⟨by rw [opN_at 6 (by decide) HC.out HK.out.2.2]; rfl, HB.out⟩
      | false =>
        rw [hc] at H1
        have HC := hideL hc
        clear hc
        go_wp2_with fail
        refine H1.mono ?_
        rintro e W1 ⟨rfl, b1⟩
        have HB : Hid (Below W.heap.size W W1) := bel0Z HK.out.2.1 b1
        clear H1 b1
        go_wp2_with fail
        exact ⟨⟨7, rfl, ⟨by omega, HB.out, fun j hj => by
          rcases Nat.lt_succ_iff_lt_or_eq.1 hj with h | h
          · exact HK.out.2.2 j h
          · subst h; exact HC.out⟩⟩, by decide⟩
    · go_wp2_with fail
      go_ret
      exact ⟨by rw [opN_none HK.out.2.2]; rfl, HK.out.2.1⟩
end Go.Proofs.YtffgkjmfeannoaaGreatDoor.Ex
namespace Go.Proofs.YtffgkjmfeannoaaGreatDoor.Ex
open Go.RowKit
variable {w0 W X : World} {b : Nat} {pt : Option Addr} {ct : Nat} {L : List XTok} {i o m : Nat} {out : List Nd}
def tsB (t : Ts) : Array Value := #[.string ⟨t.f.toArray⟩, .int .i64 (t.o : Int), .int .i64 (t.fm : Int), .int .i64 t.lo, .int .i64 t.hi, .int .i64 t.ln, .string ⟨t.p.toArray⟩]
def patB (t : XTok) : Bool := t.1 == 5 && ofB 5 t.2.1
def nV0 (x : List UInt8) : Option Int := if valE x = 0 then some (valV x) else none
def vlX (L : List XTok) (j : Nat) (f : List UInt8) (o : Nat) : Except Nat (Nat × Ts) :=
  if o ≤ 2 ∧ patB (tokAt L j) = true then .ok (j + 1, ⟨f, o, 4, 0, 0, 0, (tokAt L j).2.1.drop 1⟩)
  else match nvX (tokAt L j) with
    | none => .error j
    | some v => if 2 < o then .ok (j + 1, ⟨f, o, 1, v, 0, 0, []⟩)
      else if isS (tokAt L (j + 1)) [47] = true then (match nvX (tokAt L (j + 2)) with
        | none => .error (j + 2)
        | some w => .ok (j + 3, ⟨f, o, 2, v, 0, w, []⟩))
      else if isS (tokAt L (j + 1)) [46, 46] = true then (match nvX (tokAt L (j + 2)) with
        | none => .error (j + 2)
        | some w => .ok (j + 3, ⟨f, o, 3, v, w, 0, []⟩))
      else .ok (j + 1, ⟨f, o, 1, v, 0, 0, []⟩)
def tsX (L : List XTok) (i : Nat) (f : List UInt8) : Except Nat (Nat × Ts) := if opN (tokAt L i) = 0 then .error i else vlX L (i + 1) f (opN (tokAt L i))
abbrev clX : XTok → Tk := cl (ofB 2) nV0 (ofB 5)
theorem tok_lt {t : XTok} (h : tokAt L i = t) (hn : t.1 ≠ 0) : i < L.length := by
  unfold tokAt at h
  rw [List.getD_eq_getElem?_getD] at h
  rcases Nat.lt_or_ge i L.length with h1 | h1
  · exact h1
  · rw [List.getElem?_eq_none h1] at h
    subst h
    exact absurd rfl hn
theorem nvX_in (L : List XTok) (i : Nat) : i < L.length ∨ nvX (tokAt L i) = none := by
  by_cases h : (tokAt L i).1 = 4
  · exact .inl (tok_lt rfl (by rw [h]; decide))
  · exact .inr (by unfold nvX; rw [if_neg h])
theorem isS_in {sg : List UInt8} (h : isS (tokAt L i) sg = true) : i < L.length := by
  refine tok_lt rfl ?_
  unfold isS at h
  have : (tokAt L i).1 = 7 := by
    have h2 := (Bool.and_eq_true _ _ ▸ h : _ ∧ _).1
    exact beq_iff_eq.1 h2
  rw [this]; decide
theorem patB_in (h : patB (tokAt L i) = true) : i < L.length := by
  refine tok_lt rfl ?_
  unfold patB at h
  have : (tokAt L i).1 = 5 := by
    have h2 := (Bool.and_eq_true _ _ ▸ h : _ ∧ _).1
    exact beq_iff_eq.1 h2
  rw [this]; decide
theorem clS_num (x : List UInt8) (v) (h : clS x = .num v) : False := by
  unfold clS at h
  by_cases e : x = [33]
  · rw [if_pos e] at h; cases h
  rw [if_neg e] at h; clear e
  by_cases e : x = [40]
  · rw [if_pos e] at h; cases h
  rw [if_neg e] at h; clear e
  by_cases e : x = [41]
  · rw [if_pos e] at h; cases h
  rw [if_neg e] at h; clear e
  by_cases e : x = [38]
  · rw [if_pos e] at h; cases h
  rw [if_neg e] at h; clear e
  by_cases e : x = [124]
  · rw [if_pos e] at h; cases h
  rw [if_neg e] at h; clear e
  by_cases e : x = [47]
  · rw [if_pos e] at h; cases h
  rw [if_neg e] at h; clear e
  by_cases e : x = [46, 46]
  · rw [if_pos e] at h; cases h
  rw [if_neg e] at h; clear e
  by_cases e : x = [61]
  · rw [if_pos e] at h; cases h
  rw [if_neg e] at h; clear e
  by_cases e : x = [33, 61]
  · rw [if_pos e] at h; cases h
  rw [if_neg e] at h; clear e
  by_cases e : x = [60]
  · rw [if_pos e] at h; cases h
  rw [if_neg e] at h; clear e
  by_cases e : x = [60, 61]
  · rw [if_pos e] at h; cases h
  rw [if_neg e] at h; clear e
  by_cases e : x = [62]
  · rw [if_pos e] at h; cases h
  rw [if_neg e] at h; clear e
  by_cases e : x = [62, 61]
  · rw [if_pos e] at h; cases h
  rw [if_neg e] at h; clear e
  cases h
theorem clS_pat (x : List UInt8) (v) (h : clS x = .pat v) : False := by
  unfold clS at h
  by_cases e : x = [33]
  · rw [if_pos e] at h; cases h
  rw [if_neg e] at h; clear e
  by_cases e : x = [40]
  · rw [if_pos e] at h; cases h
  rw [if_neg e] at h; clear e
  by_cases e : x = [41]
  · rw [if_pos e] at h; cases h
  rw [if_neg e] at h; clear e
  by_cases e : x = [38]
  · rw [if_pos e] at h; cases h
  rw [if_neg e] at h; clear e
  by_cases e : x = [124]
  · rw [if_pos e] at h; cases h
  rw [if_neg e] at h; clear e
  by_cases e : x = [47]
  · rw [if_pos e] at h; cases h
  rw [if_neg e] at h; clear e
  by_cases e : x = [46, 46]
  · rw [if_pos e] at h; cases h
  rw [if_neg e] at h; clear e
  by_cases e : x = [61]
  · rw [if_pos e] at h; cases h
  rw [if_neg e] at h; clear e
  by_cases e : x = [33, 61]
  · rw [if_pos e] at h; cases h
  rw [if_neg e] at h; clear e
  by_cases e : x = [60]
  · rw [if_pos e] at h; cases h
  rw [if_neg e] at h; clear e
  by_cases e : x = [60, 61]
  · rw [if_pos e] at h; cases h
  rw [if_neg e] at h; clear e
  by_cases e : x = [62]
  · rw [if_pos e] at h; cases h
  rw [if_neg e] at h; clear e
  by_cases e : x = [62, 61]
  · rw [if_pos e] at h; cases h
  rw [if_neg e] at h; clear e
  cases h
theorem cl_num (t : XTok) (v : Int) : nvX t = some v ↔ clX t = .num v := by
  unfold nvX clX cl nV0
  by_cases h4 : t.1 = 4
  · rw [if_pos h4, if_neg (show ¬ t.1 = 7 by rw [h4]; decide), if_neg (show ¬ t.1 = 2 by rw [h4]; decide), if_pos h4]
    by_cases hv : valE t.2.1 = 0
    · rw [if_pos hv]
      constructor
      · intro h; rw [Option.some.inj h]
      · intro h; injection h with h; rw [h]
    · rw [if_neg hv]
      exact ⟨nofun, nofun⟩
  · rw [if_neg h4]
    constructor
    · exact nofun
    · intro h
      exfalso
      by_cases h7 : t.1 = 7
      · rw [if_pos h7] at h
        exact clS_num _ _ h
      · rw [if_neg h7, if_neg h4] at h
        split at h
        · split at h
          · split at h
            · cases h
            · split at h <;> cases h
          · cases h
        · split at h
          · split at h <;> cases h
          · cases h
theorem cl_pat (t : XTok) : (patB t = true ∧ clX t = .pat (t.2.1.drop 1)) ∨ (patB t = false ∧ ∀ p, clX t ≠ .pat p) := by
  unfold patB clX cl
  by_cases h5 : t.1 = 5
  · rw [if_neg (by rw [h5]; decide), if_neg (by rw [h5]; decide), if_neg (by rw [h5]; decide), if_pos h5]
    cases hp : ofB 5 t.2.1 with
    | true => exact .inl ⟨by simp [h5], by rw [if_pos rfl]⟩
    | false => exact .inr ⟨by simp, fun p => by rw [if_neg (by decide)]; exact nofun⟩
  · refine .inr ⟨by simp [h5], fun p h => ?_⟩
    by_cases h7 : t.1 = 7
    · rw [if_pos h7] at h
      exact clS_pat _ _ h
    · rw [if_neg h7, if_neg h5] at h
      split at h
      · split at h
        · split at h
          · cases h
          · split at h <;> cases h
        · cases h
      · split at h
        · split at h <;> cases h
        · cases h
theorem tsX_eq (L : List XTok) (i : Nat) (f : List UInt8) : tsV (L.map clX) i f = tsX L i f := by
  unfold tsV tsX
  rw [tk_cl]
  rcases opN_cl (nB := ofB 2) (nV := nV0) (pB := ofB 5) (tokAt L i) with ⟨h0, hn⟩ | ⟨h0, h6, hc⟩
  · rw [if_pos h0]
    split
    · rename_i o ho; exact absurd ho (hn o)
    · rfl
  · rw [if_neg h0, hc]
    simp only
    unfold vlX
    rw [tk_cl]
    obtain ⟨t, ht⟩ : ∃ t, tokAt L (i + 1) = t := ⟨_, rfl⟩
    rw [ht]
    by_cases h2 : opN (tokAt L i) ≤ 2
    · rw [if_pos h2]
      rcases cl_pat t with ⟨hp, hcp⟩ | ⟨hp, hcp⟩
      · rw [show cl (ofB 2) nV0 (ofB 5) t = _ from hcp, if_pos ⟨h2, hp⟩]
      · rw [if_neg (by rw [hp]; exact fun h => absurd h.2 (by decide))]
        cases hv : nvX t with
        | none =>
          simp only
          have hno : ∀ v, clX t ≠ .num v := fun v h => by rw [(cl_num t v).2 h] at hv; cases hv
          split
          · rename_i p h; exact absurd h (hcp p)
          · rename_i v h; exact absurd h (hno v)
          · rfl
        | some v =>
          rw [show cl (ofB 2) nV0 (ofB 5) t = _ from (cl_num t v).1 hv]
          simp only
          rw [if_neg (by omega), tk_cl, tk_cl]
          have e2 : i + 1 + 1 = i + 2 := by omega
          have e3 : i + 1 + 2 = i + 3 := by omega
          have e4 : i + 1 + 3 = i + 4 := by omega
          rw [e2, e3, e4]
          obtain ⟨t2, ht2⟩ : ∃ t, tokAt L (i + 2) = t := ⟨_, rfl⟩
          obtain ⟨t3, ht3⟩ : ∃ t, tokAt L (i + 3) = t := ⟨_, rfl⟩
          rw [ht2, ht3]
          by_cases hs : isS t2 [47] = true
          · rw [if_pos hs, (is_slash t2).1 hs]
            simp only
            cases hw : nvX t3 with
            | none =>
              simp only
              have hno : ∀ v, clX t3 ≠ .num v := fun v h => by rw [(cl_num t3 v).2 h] at hw; cases hw
              split
              · rename_i v h; exact absurd h (hno v)
              · rfl
            | some w => rw [show cl (ofB 2) nV0 (ofB 5) t3 = _ from (cl_num t3 w).1 hw]
          · rw [if_neg hs]
            by_cases hq : isS t2 [46, 46] = true
            · rw [if_pos hq, (is_span t2).1 hq]
              simp only
              cases hw : nvX t3 with
              | none =>
                simp only
                have hno : ∀ v, clX t3 ≠ .num v := fun v h => by rw [(cl_num t3 v).2 h] at hw; cases hw
                split
                · rename_i v h; exact absurd h (hno v)
                · rfl
              | some w => rw [show cl (ofB 2) nV0 (ofB 5) t3 = _ from (cl_num t3 w).1 hw]
            · rw [if_neg hq]
              split
              · rename_i h; exact absurd ((is_slash t2).2 h) hs
              · rename_i h; exact absurd ((is_span t2).2 h) hq
              · rfl
    · rw [if_neg h2, if_neg (fun h => h2 h.1)]
      cases hv : nvX t with
      | none =>
        simp only
        have hno : ∀ v, clX t ≠ .num v := fun v h => by rw [(cl_num t v).2 h] at hv; cases hv
        split
        · rename_i v h; exact absurd h (hno v)
        · rfl
      | some v =>
        rw [show cl (ofB 2) nV0 (ofB 5) t = _ from (cl_num t v).1 hv]
        simp only
        rw [if_pos (by omega)]
end Go.Proofs.YtffgkjmfeannoaaGreatDoor.Ex

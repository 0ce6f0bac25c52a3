import Derived.Test.YtffgkjmfeannoaaGreatDoorXBO
import Derived.Deep.LoopGhost
import Derived.Test.YtffgkjmfeannoaaGreatDoorXBN
namespace Go.Proofs.YtffgkjmfeannoaaGreatDoor.Ex
open Go.RowKit
variable {w0 W X : World} {b : Nat} {pt : Option Addr} {ct : Nat} {L : List XTok} {i m e : Nat} {Q : List Nat} {out : List Nd}
theorem own_popE {W : World} {B n : Nat} {T : TypeId} {v x : Value} {xs : List Value} (h : W.ownsRow B T 1 v (n + 1) (xs ++ [x])) : ∃ g c, v = .slice (some ⟨g, 0, none⟩) (n + 1) c ∧ n + 1 ≤ c ∧ W.ownsRow B T 1 (.slice (some ⟨g, 0, none⟩) n c) n xs := by
  obtain ⟨hl, ⟨_, h0⟩ | ⟨g, c, cur, rfl, hB, hg, hn, hm, hs, ht⟩⟩ := h
  · omega
  · have hl' : xs.length = n := by simp at hl; omega
    refine ⟨g, c, rfl, hn, by omega, .inr ⟨g, c, cur, rfl, hB, hg, by omega, hm, hs, ?_⟩⟩
    have h1 : (cur.toList.take ((n + 1) * 1)).take n = xs := by rw [ht, List.take_append_of_le_length (by omega), List.take_of_length_le (by omega)]
    rw [List.take_take, Nat.mul_one, Nat.min_eq_left (by omega)] at h1
    rw [Nat.mul_one]
    exact h1
theorem DS.pile (h : DS w0 b pt ct L W i Q out m e) : ∃ p c, W.cell? ⟨b, 2, none⟩ = some (.slice p Q.length c) ∧ ∀ k x, Q.reverse[k]? = some x → ∃ g, p = some ⟨g, 0, none⟩ ∧ W.cell? ⟨g, k, none⟩ = some (.int .u8 ((x : Nat) : Int)) := by
  obtain ⟨⟨vo, vn, h1, h2, h3⟩, h4⟩ := h
  obtain ⟨p, c, rfl⟩ := shapeZ h2
  refine ⟨p, c, by rw [(cellsZ h1).1]; rfl, fun k x hk => ?_⟩
  have hq : Q.length ≠ 0 := by
    intro h0
    rw [List.length_eq_zero_iff.1 h0] at hk
    simp at hk
  obtain ⟨g, rfl⟩ := own_someZ h2 hq
  exact ⟨g, rfl, own_atZ h2 (by rw [qC, List.getElem?_map, hk]; rfl)⟩
theorem DS.popped {c : Nat} (h : DS w0 b pt ct L W i (c :: Q) out m e) (hb : w0.heap.size ≤ b) : ∃ g cap, W.cell? ⟨b, 2, none⟩ = some (.slice (some ⟨g, 0, none⟩) (Q.length + 1) cap) ∧ Q.length + 1 ≤ cap ∧ DS w0 b pt ct L (W.setCell ⟨b, 2, none⟩ (.slice (some ⟨g, 0, none⟩) Q.length cap)) i Q out m e := by
  obtain ⟨⟨vo, vn, h1, h2, h3⟩, h4⟩ := h
  unfold OWB at h2
  rw [qC_cons, List.length_cons] at h2
  obtain ⟨g, cap, rfl, hc, h5⟩ := own_popE h2
  have h6 : OWB W w0.heap.size (.slice (some ⟨g, 0, none⟩) Q.length cap) Q := h5
  refine ⟨g, cap, by rw [(cellsZ h1).1]; rfl, hc, ⟨_, vn, ?_, World.ownsRow.kept h6 (gr_setZ _ _ _ _) (.inr (own_box_ne h6 h1 (by decide))), World.ownsRow.kept h3 (gr_setZ _ _ _ _) (.inr (own_box_ne h3 h1 (by decide)))⟩, h4.setCell hb _⟩
  rw [set_getZ _ h1]
  simp
set_option maxRecDepth 100000 in
set_option maxHeartbeats 4000000 in
theorem top_any (hq : Q.length ≤ 100000) (h : DS w0 b pt ct L W i Q out m e) :
    Calls Tryz.prog 27 #[.pointer (some ⟨b, 0, none⟩)] W fun en W' => en = .returned (.int .u8 ((Q.headD 0 : Nat) : Int)) ∧ DS w0 b pt ct L W' i Q out m e := by
  obtain ⟨p, c, c2, hp⟩ := h.pile
  have HS := hideL h
  cases Q with
  | nil =>
    simp only [List.length_nil] at c2
    clear h hp hq
    go_enter Tryz.func27, Tryz.ntmps27
    go_wp2_with fail
    go_ret
    exact ⟨rfl, HS.out⟩
  | cons x Q =>
    obtain ⟨g, rfl, hg⟩ := hp Q.length x (by simp)
    simp only [List.length_cons] at c2 hq
    obtain ⟨N, hN⟩ : ∃ N, Q.length + 1 = N := ⟨_, rfl⟩
    obtain ⟨M, hM⟩ : ∃ M, Q.length = M := ⟨_, rfl⟩
    rw [hN] at c2 hq
    rw [hM] at hg
    have y0 : ((N : Int) == 0) = false := beq_eq_false_iff_ne.2 (by omega)
    have y1 : IntKind.i64.wrap ((N : Int) - 1) = (M : Int) := by rw [IntKind.wrap_i64]; omega
    have j0 : (M : Int) < (N : Int) := by omega
    have j1 : M < N := by omega
    clear h hp hN hM hq
    go_enter Tryz.func27, Tryz.ntmps27
    go_wp2_with fail
    go_quiet (fail)
    go_wp2_with fail
    go_ret
    exact ⟨rfl, HS.out.below (bel_drewZ nq (Below.refl _ _))⟩
theorem flush_cons (c : Nat) (Q : List Nat) : flush (c :: Q) = sgn c ++ flush Q := by simp [flush]
theorem DS.drewSet {a : Addr} {v : Value} (n : Nat) (h : DS w0 b pt ct L (W.setCell a v) i Q out m e) : DS w0 b pt ct L ((W.drewN n).setCell a v) i Q out m e := DS.below (X := (W.drewN n).setCell a v) h (bel_drewZ n (Below.refl _ _))
set_option maxRecDepth 100000 in
set_option maxHeartbeats 8000000 in
theorem pop_any {c : Nat} (hb : w0.heap.size ≤ b) (hq : Q.length ≤ 90000) (hout : out.length ≤ 1000) (h : DS w0 b pt ct L W i (c :: Q) out m e) :
    Calls Tryz.prog 28 #[.pointer (some ⟨b, 0, none⟩)] W fun en W' => en = .returned (.tuple #[]) ∧ DS w0 b pt ct L W' i Q (out ++ sgn c) m e := by
  have HT := top_any (by simp only [List.length_cons]; omega) h
  simp only [List.headD_cons] at HT
  have HP : Hid (∀ U k, DS w0 b pt ct L U i (c :: Q) out m e → Calls Tryz.prog 38 #[.pointer (some ⟨b, 0, none⟩), .int .i64 ((k : Nat) : Int)] U fun en' W' => en' = .returned (.tuple #[]) ∧ DS w0 b pt ct L W' i (c :: Q) (out ++ [nd k]) m e) := fun U k hU => put_any k hb hout hU
  have HE : Hid (∀ U o', DS w0 b pt ct L U i (c :: Q) o' m e → ∃ g cap, U.cell? ⟨b, 2, none⟩ = some (.slice (some ⟨g, 0, none⟩) (Q.length + 1) cap) ∧ Q.length + 1 ≤ cap ∧ U.frozen? ⟨b, 2, none⟩ = false ∧ DS w0 b pt ct L (U.setCell ⟨b, 2, none⟩ (.slice (some ⟨g, 0, none⟩) Q.length cap)) i Q o' m e) := fun U o' hU => by
    obtain ⟨g, cap, h1, h2, h3⟩ := hU.popped hb
    exact ⟨g, cap, h1, h2, hU.cells.2.2.2.2 2, h3⟩
  obtain ⟨N, hN⟩ : ∃ N, Q.length + 1 = N := ⟨_, rfl⟩
  obtain ⟨M, hM⟩ : ∃ M, Q.length = M := ⟨_, rfl⟩
  rw [hN, hM] at HE
  have y1 : IntKind.i64.wrap ((N : Int) - 1) = (M : Int) := by rw [IntKind.wrap_i64]; omega
  have j1 : M ≤ N := by omega
  clear h hN hM hq hout hb
  by_cases h1 : c = 33
  · subst h1
    go_enter Tryz.func28, Tryz.ntmps28
    go_wp2_with fail
    refine HT.mono ?_
    rintro en W1 ⟨rfl, s1⟩
    have HP1 := HP.out W1 4 s1
    clear HT s1
    go_wp2_with fail
    refine HP1.mono ?_
    rintro en W2 ⟨rfl, s2⟩
    obtain ⟨g, cap, k1, k2, k3, k4⟩ := HE.out W2 _ s2
    have j2 : M ≤ cap := by omega
    have HD := hideL k4
    clear HP1 s2 k4
    go_wp2_with fail
    refine quiet_last (C := fun U => ∃ n, U = W2.drewN n) (by kernel_rfl) (by kernel_rfl) (by kernel_rfl) (by kernel_rfl) ⟨1, rfl⟩ ?_
    simp only [List.dropLast_cons_cons, List.dropLast_singleton]
    repeat (quiet_step (fail))
    refine wpQuiet_nil ?_
    rintro W6 ⟨nq, rfl⟩
    refine wpOp_goE rfl rfl ?_
    go_simp
    go_wp2_with fail
    go_end0
    exact ⟨rfl, HD.out.drewSet nq⟩
  · have y2 : ((c : Int) == 33) = false := beq_eq_false_iff_ne.2 (by omega)
    by_cases h2 : c = 38
    · subst h2
      clear h1
      go_enter Tryz.func28, Tryz.ntmps28
      go_wp2_with fail
      refine HT.mono ?_
      rintro en W1 ⟨rfl, s1⟩
      have HP1 := HP.out W1 5 s1
      clear HT s1
      go_wp2_with fail
      refine HP1.mono ?_
      rintro en W2 ⟨rfl, s2⟩
      obtain ⟨g, cap, k1, k2, k3, k4⟩ := HE.out W2 _ s2
      have j2 : M ≤ cap := by omega
      have HD := hideL k4
      clear HP1 s2 k4
      go_wp2_with fail
      refine quiet_last (C := fun U => ∃ n, U = W2.drewN n) (by kernel_rfl) (by kernel_rfl) (by kernel_rfl) (by kernel_rfl) ⟨1, rfl⟩ ?_
      simp only [List.dropLast_cons_cons, List.dropLast_singleton]
      repeat (quiet_step (fail))
      refine wpQuiet_nil ?_
      rintro W6 ⟨nq, rfl⟩
      refine wpOp_goE rfl rfl ?_
      go_simp
      go_wp2_with fail
      go_end0
      exact ⟨rfl, HD.out.drewSet nq⟩
    · have y3 : ((c : Int) == 38) = false := beq_eq_false_iff_ne.2 (by omega)
      by_cases h3 : c = 124
      · subst h3
        clear h1 h2
        go_enter Tryz.func28, Tryz.ntmps28
        go_wp2_with fail
        refine HT.mono ?_
        rintro en W1 ⟨rfl, s1⟩
        have HP1 := HP.out W1 6 s1
        clear HT s1
        go_wp2_with fail
        refine HP1.mono ?_
        rintro en W2 ⟨rfl, s2⟩
        obtain ⟨g, cap, k1, k2, k3, k4⟩ := HE.out W2 _ s2
        have j2 : M ≤ cap := by omega
        have HD := hideL k4
        clear HP1 s2 k4
        go_wp2_with fail
        refine quiet_last (C := fun U => ∃ n, U = W2.drewN n) (by kernel_rfl) (by kernel_rfl) (by kernel_rfl) (by kernel_rfl) ⟨1, rfl⟩ ?_
        simp only [List.dropLast_cons_cons, List.dropLast_singleton]
        repeat (quiet_step (fail))
        refine wpQuiet_nil ?_
        rintro W6 ⟨nq, rfl⟩
        refine wpOp_goE rfl rfl ?_
        go_simp
        go_wp2_with fail
        go_end0
        exact ⟨rfl, HD.out.drewSet nq⟩
      · have y4 : ((c : Int) == 124) = false := beq_eq_false_iff_ne.2 (by omega)
        have HG : Hid (out ++ sgn c = out) := by show _ = _; unfold sgn; rw [if_neg h1, if_neg h2, if_neg h3, List.append_nil]
        rw [HG.out]
        clear h1 h2 h3
        go_enter Tryz.func28, Tryz.ntmps28
        go_wp2_with fail
        refine HT.mono ?_
        rintro en W1 ⟨rfl, s1⟩
        obtain ⟨g, cap, k1, k2, k3, k4⟩ := HE.out W1 _ s1
        have j2 : M ≤ cap := by omega
        have HD := hideL k4
        clear HT s1 k4
        go_wp2_with fail
        refine quiet_last (C := fun U => ∃ n, U = W1.drewN n) (by kernel_rfl) (by kernel_rfl) (by kernel_rfl) (by kernel_rfl) ⟨1, rfl⟩ ?_
        simp only [List.dropLast_cons_cons, List.dropLast_singleton]
        repeat (quiet_step (fail))
        refine wpQuiet_nil ?_
        rintro W6 ⟨nq, rfl⟩
        refine wpOp_goE rfl rfl ?_
        go_simp
        go_wp2_with fail
        go_end0
        exact ⟨rfl, HD.out.drewSet nq⟩
def DNS (w0 : World) (b : Nat) (pt : Option Addr) (ct : Nat) (L : List XTok) (i m e : Nat) (P : List Nat) (O : List Nd) (W : World) (Q : List Nat) (out : List Nd) : Prop := DS w0 b pt ct L W i Q out m e ∧ dnP Q = P ∧ out ++ dnO Q = O ∧ out.length + (flush Q).length ≤ 1000 ∧ Q.length ≤ 90000 ∧ w0.heap.size ≤ b
set_option maxRecDepth 100000 in
set_option maxHeartbeats 8000000 in
theorem done_any (hb : w0.heap.size ≤ b) (hq : Q.length ≤ 90000) (hout : out.length + (flush Q).length ≤ 1000) (h : DS w0 b pt ct L W i Q out m e) :
    Calls Tryz.prog 13 #[.pointer (some ⟨b, 0, none⟩)] W fun en W' => en = .returned (.tuple #[]) ∧ DS w0 b pt ct L W' i (dnP Q) (out ++ dnO Q) m e := by
  have H0 : Hid (DNS w0 b pt ct L i m e (dnP Q) (out ++ dnO Q) W Q out) := ⟨h, rfl, rfl, hout, hq, hb⟩
  clear h hout hq hb
  go_enter Tryz.func13, Tryz.ntmps13
  go_wp2_with fail
  go_loopg [] (Q.length) (fun gk wr => ∃ Q' out', gk = List.length Q' ∧ Hid (DNS w0 b pt ct L i m e (dnP Q) (out ++ dnO Q) wr Q' out'))
  case atStart => exact ⟨Q, out, rfl, H0⟩
  case round =>
    clear H0
    obtain ⟨Q', out', hk, H⟩ := hrel
    obtain ⟨s0, e1, e2, e3, e4, e5⟩ := H.out
    have HT := top_any (by omega) s0
    have HX : Hid (dnP Q' = dnP Q ∧ out' ++ dnO Q' = out ++ dnO Q ∧ out'.length + (flush Q').length ≤ 1000 ∧ Q'.length ≤ 90000 ∧ w0.heap.size ≤ b) := ⟨e1, e2, e3, e4, e5⟩
    have HK := hideL hk
    clear H s0 e1 e2 e3 e4 e5 hk
    cases Q' with
    | nil =>
      simp only [List.headD_nil] at HT
      go_wp2_with fail
      refine HT.mono ?_
      rintro en W1 ⟨rfl, s1⟩
      have HD : Hid (DS w0 b pt ct L W1 i (dnP Q) (out ++ dnO Q) m e) := by
        show DS _ _ _ _ _ _ _ _ _ _ _
        rw [← HX.out.1, ← HX.out.2.1]
        show DS _ _ _ _ _ _ _ [] (out' ++ []) _ _
        rw [List.append_nil]
        exact s1
      clear HT s1
      go_wp2_with fail
      go_end0
      exact ⟨rfl, HD.out⟩
    | cons c Q' =>
      simp only [List.headD_cons] at HT
      by_cases h1 : c = 33
      · subst h1
        go_wp2_with fail
        refine HT.mono ?_
        rintro en W1 ⟨rfl, s1⟩
        have HP := pop_any HX.out.2.2.2.2 (by have := HX.out.2.2.2.1; simp only [List.length_cons] at this; omega) (by have := HX.out.2.2.1; omega) s1
        clear HT s1
        go_wp2_with fail
        refine HP.mono ?_
        rintro en W2 ⟨rfl, s2⟩
        have HD : Hid (DNS w0 b pt ct L i m e (dnP Q) (out ++ dnO Q) W2 Q' (out' ++ [nd 4])) := by
          obtain ⟨e1, e2, e3, e4, e5⟩ := HX.out
          refine ⟨s2, e1, ?_, ?_, ?_, e5⟩
          · rw [← e2]; simp [dnO]
          · rw [flush_cons] at e3
            have : (sgn 33).length = 1 := rfl
            simp only [List.length_append, List.length_singleton] at e3 ⊢
            omega
          · simp only [List.length_cons] at e4; omega
        clear HP s2
        go_wp2_with fail
        go_roundg (List.length Q')
        case measure => have := HK.out; simp only [List.length_cons] at this; omega
        case rel => exact ⟨Q', _, rfl, HD⟩
      · have y2 : ((c : Int) == 33) = false := beq_eq_false_iff_ne.2 (by omega)
        have HN : Hid (dnP (c :: Q') = c :: Q' ∧ dnO (c :: Q') = []) := by
          constructor
          · unfold dnP; split
            · rename_i h; injection h with h _; exact absurd h h1
            · rfl
          · unfold dnO; split
            · rename_i h; injection h with h _; exact absurd h h1
            · rfl
        clear h1
        go_wp2_with fail
        refine HT.mono ?_
        rintro en W1 ⟨rfl, s1⟩
        have HD : Hid (DS w0 b pt ct L W1 i (dnP Q) (out ++ dnO Q) m e) := by
          show DS _ _ _ _ _ _ _ _ _ _ _
          rw [← HX.out.1, ← HX.out.2.1, HN.out.1, HN.out.2, List.append_nil]
          exact s1
        clear HT s1
        go_wp2_with fail
        go_end0
        exact ⟨rfl, HD.out⟩
end Go.Proofs.YtffgkjmfeannoaaGreatDoor.Ex
namespace Go.Proofs.YtffgkjmfeannoaaGreatDoor.Ex
open Go.RowKit Go.Shelf
theorem nameB_bad {x : List UInt8} {j : Nat} (hj : j < x.length) (h : letX (bt x j) = false ∧ (digX (bt x j) = false ∨ j = 0)) : nameB x = false := by
  cases hb : nameB x with
  | false => rfl
  | true =>
    unfold nameB at hb
    simp only [Bool.and_eq_true, decide_eq_true_eq] at hb
    obtain ⟨h0, h24, hl, ha⟩ := hb
    have := List.all_eq_true.1 ha x[j] (List.getElem_mem hj)
    rw [← bt_of (List.getElem?_eq_getElem hj), h.1, Bool.false_or] at this
    rcases h.2 with e | e
    · rw [e] at this; cases this
    · subst e
      rw [h.1] at hl
      cases hl
theorem nameB_ok {x : List UInt8} (h0 : 0 < x.length) (h24 : x.length ≤ 24) (h : ∀ j, j < x.length → ¬ (letX (bt x j) = false ∧ (digX (bt x j) = false ∨ j = 0))) : nameB x = true := by
  unfold nameB
  have hl : letX (bt x 0) = true := by
    cases hh : letX (bt x 0) with
    | true => rfl
    | false => exact absurd ⟨hh, .inr rfl⟩ (h 0 h0)
  have ha : x.all (fun c => letX c.toNat || digX c.toNat) = true := by
    rw [List.all_eq_true]
    intro c hc
    obtain ⟨k, hk, rfl⟩ := List.getElem_of_mem hc
    have := h k hk
    rw [bt_of (List.getElem?_eq_getElem hk)] at this
    cases h1 : letX x[k].toNat with
    | true => rfl
    | false =>
      cases h2 : digX x[k].toNat with
      | true => rfl
      | false => exact absurd ⟨h1, .inl h2⟩ this
  rw [hl, ha, decide_eq_true h0, decide_eq_true h24]
  rfl
set_option maxRecDepth 100000 in
set_option maxHeartbeats 4000000 in
theorem yName_any (x : List UInt8) (w : World) : Calls Tryz.prog 20 #[.string ⟨x.toArray⟩] w fun e w' => e = .returned (.bool (nameB x)) ∧ w' = w := by
  by_cases h0 : x.length < 1
  · have hr : Hid (nameB x = false) := by
      unfold Hid nameB
      rw [decide_eq_false (show ¬ 0 < x.length by omega)]
      rfl
    have i0 : (x.length : Int) < 1 := by omega
    go_enter Tryz.func20, Tryz.ntmps20
    go_wp2_with fail
    go_ret
    exact ⟨by rw [hr.out]; rfl, rfl⟩
  have i0 : ¬ (x.length : Int) < 1 := by omega
  by_cases h24 : 24 < x.length
  · have hr : Hid (nameB x = false) := by
      unfold Hid nameB
      rw [decide_eq_false (show ¬ x.length ≤ 24 by omega)]
      simp
    have i1 : (24 : Int) < (x.length : Int) := by omega
    go_enter Tryz.func20, Tryz.ntmps20
    go_wp2_with fail
    go_ret
    exact ⟨by rw [hr.out]; rfl, rfl⟩
  have i1 : ¬ (24 : Int) < (x.length : Int) := by omega
  obtain ⟨q, hq⟩ : ∃ q, nameB x = q := ⟨_, rfl⟩
  have HBAD : Hid (∀ j, j < x.length → letX (bt x j) = false ∧ (digX (bt x j) = false ∨ j = 0) → q = false) := fun j hj h => by rw [← hq]; exact nameB_bad hj h
  have HOK : Hid ((∀ j, j < x.length → ¬ (letX (bt x j) = false ∧ (digX (bt x j) = false ∨ j = 0))) → q = true) := fun h => by rw [← hq]; exact nameB_ok (by omega) (by omega) h
  rw [hq]
  clear hq
  go_enter Tryz.func20, Tryz.ntmps20
  go_wp2_with fail
  go_loopw [3] (fun vj wr => ∃ j : Nat, vj = .int .i64 j ∧ j ≤ x.length ∧ Hid (∀ i, i < j → ¬ (letX (bt x i) = false ∧ (digX (bt x i) = false ∨ i = 0))) ∧ wr = w) (fun vj _ => x.length - (intOf vj).toNat)
  case atStart => exact ⟨0, rfl, Nat.zero_le _, fun i hi => by omega, rfl⟩
  case round =>
    obtain ⟨j, rfl, hj, hno, rfl⟩ := hrel
    by_cases hlt : j < x.length
    · have j0 : (0 : Int) ≤ (j : Int) := by omega
      have j1 : (j : Int) < (x.length : Int) := by omega
      obtain ⟨d, hd, hld⟩ := byte_get x j hlt
      have hbt := bt_of hld
      have hd256 := d.toNat_lt
      have HNX : Hid (¬ (letX (bt x j) = false ∧ (digX (bt x j) = false ∨ j = 0)) → ∀ i, i < j + 1 → ¬ (letX (bt x i) = false ∧ (digX (bt x i) = false ∨ i = 0))) := fun h i hi => by
        rcases Nat.lt_or_ge i j with h1 | h1
        · exact hno.out i h1
        · obtain rfl : i = j := by omega
          exact h
      have HBJ : Hid (letX (bt x j) = false ∧ (digX (bt x j) = false ∨ j = 0) → q = false) := HBAD.out j hlt
      rw [hbt] at HNX HBJ
      clear hld hno hbt
      rcases (show d.toNat ≤ 47 ∨ (48 ≤ d.toNat ∧ d.toNat ≤ 57) ∨ (58 ≤ d.toNat ∧ d.toNat ≤ 64) ∨ (65 ≤ d.toNat ∧ d.toNat ≤ 90) ∨ (91 ≤ d.toNat ∧ d.toNat ≤ 94) ∨ d.toNat = 95 ∨ d.toNat = 96 ∨ (97 ≤ d.toNat ∧ d.toNat ≤ 122) ∨ 123 ≤ d.toNat by omega) with hr | hr | hr | hr | hr | hr | hr | hr | hr
      · have a97 : ¬ (97 : Int) ≤ (d.toNat : Int) := by omega
        have a122 : (d.toNat : Int) ≤ 122 := by omega
        have a65 : ¬ (65 : Int) ≤ (d.toNat : Int) := by omega
        have a90 : (d.toNat : Int) ≤ 90 := by omega
        have a48 : (d.toNat : Int) < 48 := by omega
        have a57 : ¬ (57 : Int) < (d.toNat : Int) := by omega
        have a95 : ((d.toNat : Int) == 95) = false := beq_eq_false_iff_ne.2 (by omega)
        have hl : letX d.toNat = false := by unfold letX; simp; omega
        have hdg : digX d.toNat = false := by unfold digX; simp; omega
        obtain rfl : q = false := HBJ.out ⟨hl, .inl hdg⟩
        by_cases hz : j = 0
        · have z0 : ((j : Int) == 0) = true := beq_iff_eq.2 (by omega)
          clear hz
          clear hl hdg
          clear HNX HBJ
          go_wp2_with fail
          go_ret
          exact ⟨rfl, rfl⟩
        · have z0 : ((j : Int) == 0) = false := beq_eq_false_iff_ne.2 (by omega)
          clear hz
          clear hl hdg
          clear HNX HBJ
          go_wp2_with fail
          go_ret
          exact ⟨rfl, rfl⟩
      · have a97 : ¬ (97 : Int) ≤ (d.toNat : Int) := by omega
        have a122 : (d.toNat : Int) ≤ 122 := by omega
        have a65 : ¬ (65 : Int) ≤ (d.toNat : Int) := by omega
        have a90 : (d.toNat : Int) ≤ 90 := by omega
        have a48 : ¬ (d.toNat : Int) < 48 := by omega
        have a57 : ¬ (57 : Int) < (d.toNat : Int) := by omega
        have a95 : ((d.toNat : Int) == 95) = false := beq_eq_false_iff_ne.2 (by omega)
        have hl : letX d.toNat = false := by unfold letX; simp; omega
        have hdg : digX d.toNat = true := by unfold digX; simp; omega
        by_cases hz : j = 0
        · have z0 : ((j : Int) == 0) = true := beq_iff_eq.2 (by omega)
          obtain rfl : q = false := HBJ.out ⟨hl, .inr hz⟩
          clear hz
          clear hl hdg
          clear HNX HBJ
          go_wp2_with fail
          go_ret
          exact ⟨rfl, rfl⟩
        · have z0 : ((j : Int) == 0) = false := beq_eq_false_iff_ne.2 (by omega)
          have HN2 : Hid (∀ i, i < j + 1 → ¬ (letX (bt x i) = false ∧ (digX (bt x i) = false ∨ i = 0))) := HNX.out (fun h => by
            rw [hdg] at h
            rcases h.2 with e | e
            · cases e
            · exact hz e)
          clear hz
          clear hl hdg
          clear HBJ HNX
          go_wp2_with fail
          go_roundw
          case rel => exact ⟨j + 1, by go_num, by omega, HN2, by first | rfl | trivial⟩
          case measure => simp [intOf]; omega
      · have a97 : ¬ (97 : Int) ≤ (d.toNat : Int) := by omega
        have a122 : (d.toNat : Int) ≤ 122 := by omega
        have a65 : ¬ (65 : Int) ≤ (d.toNat : Int) := by omega
        have a90 : (d.toNat : Int) ≤ 90 := by omega
        have a48 : ¬ (d.toNat : Int) < 48 := by omega
        have a57 : (57 : Int) < (d.toNat : Int) := by omega
        have a95 : ((d.toNat : Int) == 95) = false := beq_eq_false_iff_ne.2 (by omega)
        have hl : letX d.toNat = false := by unfold letX; simp; omega
        have hdg : digX d.toNat = false := by unfold digX; simp; omega
        obtain rfl : q = false := HBJ.out ⟨hl, .inl hdg⟩
        by_cases hz : j = 0
        · have z0 : ((j : Int) == 0) = true := beq_iff_eq.2 (by omega)
          clear hz
          clear hl hdg
          clear HNX HBJ
          go_wp2_with fail
          go_ret
          exact ⟨rfl, rfl⟩
        · have z0 : ((j : Int) == 0) = false := beq_eq_false_iff_ne.2 (by omega)
          clear hz
          clear hl hdg
          clear HNX HBJ
          go_wp2_with fail
          go_ret
          exact ⟨rfl, rfl⟩
      · have a97 : ¬ (97 : Int) ≤ (d.toNat : Int) := by omega
        have a122 : (d.toNat : Int) ≤ 122 := by omega
        have a65 : (65 : Int) ≤ (d.toNat : Int) := by omega
        have a90 : (d.toNat : Int) ≤ 90 := by omega
        have a48 : ¬ (d.toNat : Int) < 48 := by omega
        have a57 : (57 : Int) < (d.toNat : Int) := by omega
        have a95 : ((d.toNat : Int) == 95) = false := beq_eq_false_iff_ne.2 (by omega)
        have hl : letX d.toNat = true := by unfold letX; simp; omega
        have hdg : digX d.toNat = false := by unfold digX; simp; omega
        have HN2 : Hid (∀ i, i < j + 1 → ¬ (letX (bt x i) = false ∧ (digX (bt x i) = false ∨ i = 0))) := HNX.out (fun h => by rw [hl] at h; cases h.1)
        clear hl hdg
        clear HBJ HNX
        go_wp2_with fail
        go_roundw
        case rel => exact ⟨j + 1, by go_num, by omega, HN2, by first | rfl | trivial⟩
        case measure => simp [intOf]; omega
      · have a97 : ¬ (97 : Int) ≤ (d.toNat : Int) := by omega
        have a122 : (d.toNat : Int) ≤ 122 := by omega
        have a65 : (65 : Int) ≤ (d.toNat : Int) := by omega
        have a90 : ¬ (d.toNat : Int) ≤ 90 := by omega
        have a48 : ¬ (d.toNat : Int) < 48 := by omega
        have a57 : (57 : Int) < (d.toNat : Int) := by omega
        have a95 : ((d.toNat : Int) == 95) = false := beq_eq_false_iff_ne.2 (by omega)
        have hl : letX d.toNat = false := by unfold letX; simp; omega
        have hdg : digX d.toNat = false := by unfold digX; simp; omega
        obtain rfl : q = false := HBJ.out ⟨hl, .inl hdg⟩
        by_cases hz : j = 0
        · have z0 : ((j : Int) == 0) = true := beq_iff_eq.2 (by omega)
          clear hz
          clear hl hdg
          clear HNX HBJ
          go_wp2_with fail
          go_ret
          exact ⟨rfl, rfl⟩
        · have z0 : ((j : Int) == 0) = false := beq_eq_false_iff_ne.2 (by omega)
          clear hz
          clear hl hdg
          clear HNX HBJ
          go_wp2_with fail
          go_ret
          exact ⟨rfl, rfl⟩
      · have a97 : ¬ (97 : Int) ≤ (d.toNat : Int) := by omega
        have a122 : (d.toNat : Int) ≤ 122 := by omega
        have a65 : (65 : Int) ≤ (d.toNat : Int) := by omega
        have a90 : ¬ (d.toNat : Int) ≤ 90 := by omega
        have a48 : ¬ (d.toNat : Int) < 48 := by omega
        have a57 : (57 : Int) < (d.toNat : Int) := by omega
        have a95 : ((d.toNat : Int) == 95) = true := beq_iff_eq.2 (by omega)
        have hl : letX d.toNat = true := by unfold letX; simp; omega
        have hdg : digX d.toNat = false := by unfold digX; simp; omega
        have HN2 : Hid (∀ i, i < j + 1 → ¬ (letX (bt x i) = false ∧ (digX (bt x i) = false ∨ i = 0))) := HNX.out (fun h => by rw [hl] at h; cases h.1)
        clear hl hdg
        clear HBJ HNX
        go_wp2_with fail
        go_roundw
        case rel => exact ⟨j + 1, by go_num, by omega, HN2, by first | rfl | trivial⟩
        case measure => simp [intOf]; omega
      · have a97 : ¬ (97 : Int) ≤ (d.toNat : Int) := by omega
        have a122 : (d.toNat : Int) ≤ 122 := by omega
        have a65 : (65 : Int) ≤ (d.toNat : Int) := by omega
        have a90 : ¬ (d.toNat : Int) ≤ 90 := by omega
        have a48 : ¬ (d.toNat : Int) < 48 := by omega
        have a57 : (57 : Int) < (d.toNat : Int) := by omega
        have a95 : ((d.toNat : Int) == 95) = false := beq_eq_false_iff_ne.2 (by omega)
        have hl : letX d.toNat = false := by unfold letX; simp; omega
        have hdg : digX d.toNat = false := by unfold digX; simp; omega
        obtain rfl : q = false := HBJ.out ⟨hl, .inl hdg⟩
        by_cases hz : j = 0
        · have z0 : ((j : Int) == 0) = true := beq_iff_eq.2 (by omega)
          clear hz
          clear hl hdg
          clear HNX HBJ
          go_wp2_with fail
          go_ret
          exact ⟨rfl, rfl⟩
        · have z0 : ((j : Int) == 0) = false := beq_eq_false_iff_ne.2 (by omega)
          clear hz
          clear hl hdg
          clear HNX HBJ
          go_wp2_with fail
          go_ret
          exact ⟨rfl, rfl⟩
      · have a97 : (97 : Int) ≤ (d.toNat : Int) := by omega
        have a122 : (d.toNat : Int) ≤ 122 := by omega
        have a65 : (65 : Int) ≤ (d.toNat : Int) := by omega
        have a90 : ¬ (d.toNat : Int) ≤ 90 := by omega
        have a48 : ¬ (d.toNat : Int) < 48 := by omega
        have a57 : (57 : Int) < (d.toNat : Int) := by omega
        have a95 : ((d.toNat : Int) == 95) = false := beq_eq_false_iff_ne.2 (by omega)
        have hl : letX d.toNat = true := by unfold letX; simp; omega
        have hdg : digX d.toNat = false := by unfold digX; simp; omega
        have HN2 : Hid (∀ i, i < j + 1 → ¬ (letX (bt x i) = false ∧ (digX (bt x i) = false ∨ i = 0))) := HNX.out (fun h => by rw [hl] at h; cases h.1)
        clear hl hdg
        clear HBJ HNX
        go_wp2_with fail
        go_roundw
        case rel => exact ⟨j + 1, by go_num, by omega, HN2, by first | rfl | trivial⟩
        case measure => simp [intOf]; omega
      · have a97 : (97 : Int) ≤ (d.toNat : Int) := by omega
        have a122 : ¬ (d.toNat : Int) ≤ 122 := by omega
        have a65 : (65 : Int) ≤ (d.toNat : Int) := by omega
        have a90 : ¬ (d.toNat : Int) ≤ 90 := by omega
        have a48 : ¬ (d.toNat : Int) < 48 := by omega
        have a57 : (57 : Int) < (d.toNat : Int) := by omega
        have a95 : ((d.toNat : Int) == 95) = false := beq_eq_false_iff_ne.2 (by omega)
        have hl : letX d.toNat = false := by unfold letX; simp; omega
        have hdg : digX d.toNat = false := by unfold digX; simp; omega
        obtain rfl : q = false := HBJ.out ⟨hl, .inl hdg⟩
        by_cases hz : j = 0
        · have z0 : ((j : Int) == 0) = true := beq_iff_eq.2 (by omega)
          clear hz
          clear hl hdg
          clear HNX HBJ
          go_wp2_with fail
          go_ret
          exact ⟨rfl, rfl⟩
        · have z0 : ((j : Int) == 0) = false := beq_eq_false_iff_ne.2 (by omega)
          clear hz
          clear hl hdg
          clear HNX HBJ
          go_wp2_with fail
          go_ret
          exact ⟨rfl, rfl⟩
    · have j1 : ¬ (j : Int) < (x.length : Int) := by omega
      obtain rfl : j = x.length := by omega
      obtain rfl : q = true := HOK.out hno.out
      go_wp2_with fail
      go_ret
      exact ⟨rfl, rfl⟩
def digB (x : List UInt8) : Bool := decide (1 ≤ x.length) && (decide (x.length ≤ 32) && x.all is01x)
theorem patD_eq (x : List UInt8) : patD x = (decide (2 ≤ x.length) && ((x.headD 0 == 37) && digB (x.drop 1))) := by
  unfold patD digB
  cases x with
  | nil => rfl
  | cons c d =>
    by_cases hc : c = 37
    · subst hc
      simp
    · have : (c == 37) = false := beq_eq_false_iff_ne.2 hc
      simp [hc]
set_option maxRecDepth 100000 in
set_option maxHeartbeats 4000000 in
theorem digits_any (x : List UInt8) (w : World) : Calls Tryz.prog 40 #[.string ⟨x.toArray⟩] w fun e w' => e = .returned (.bool (digB x)) ∧ w' = w := by
  by_cases h0 : x.length < 1
  · have hr : Hid (digB x = false) := by
      unfold Hid digB
      rw [decide_eq_false (show ¬ 1 ≤ x.length by omega)]
      rfl
    have i0 : (x.length : Int) < 1 := by omega
    go_enter Tryz.func40, Tryz.ntmps40
    go_wp2_with fail
    go_ret
    exact ⟨by rw [hr.out]; rfl, rfl⟩
  have i0 : ¬ (x.length : Int) < 1 := by omega
  by_cases h24 : 32 < x.length
  · have hr : Hid (digB x = false) := by
      unfold Hid digB
      rw [decide_eq_false (show ¬ x.length ≤ 32 by omega)]
      simp
    have i1 : (32 : Int) < (x.length : Int) := by omega
    go_enter Tryz.func40, Tryz.ntmps40
    go_wp2_with fail
    go_ret
    exact ⟨by rw [hr.out]; rfl, rfl⟩
  have i1 : ¬ (32 : Int) < (x.length : Int) := by omega
  obtain ⟨q, hq⟩ : ∃ q, digB x = q := ⟨_, rfl⟩
  have HBAD : Hid (∀ (j : Nat) (c : UInt8), x[j]? = some c → is01x c = false → q = false) := fun j c hj h => by
    rw [← hq]
    unfold digB
    have : x.all is01x = false := by
      rw [List.all_eq_false]
      exact ⟨c, List.mem_of_getElem? hj, by rw [h]; decide⟩
    rw [this]
    simp
  have HOK : Hid ((∀ (j : Nat) (c : UInt8), j < x.length → x[j]? = some c → is01x c = true) → q = true) := fun h => by
    rw [← hq]
    unfold digB
    have : x.all is01x = true := by
      rw [List.all_eq_true]
      intro c hc
      obtain ⟨k, hk, rfl⟩ := List.getElem_of_mem hc
      exact h k _ hk (List.getElem?_eq_getElem hk)
    rw [this, decide_eq_true (by omega), decide_eq_true (by omega)]
    rfl
  rw [hq]
  clear hq
  go_enter Tryz.func40, Tryz.ntmps40
  go_wp2_with fail
  go_loopw [3] (fun vj wr => ∃ j : Nat, vj = .int .i64 j ∧ j ≤ x.length ∧ Hid (∀ (i : Nat) (c : UInt8), i < j → x[i]? = some c → is01x c = true) ∧ wr = w) (fun vj _ => x.length - (intOf vj).toNat)
  case atStart => exact ⟨0, rfl, Nat.zero_le _, fun i c hi => by omega, rfl⟩
  case round =>
    obtain ⟨j, rfl, hj, hno, rfl⟩ := hrel
    by_cases hlt : j < x.length
    · have j0 : (0 : Int) ≤ (j : Int) := by omega
      have j1 : (j : Int) < (x.length : Int) := by omega
      obtain ⟨d, hd, hld⟩ := byte_get x j hlt
      have HNX : Hid (is01x d = true → ∀ (i : Nat) (c : UInt8), i < j + 1 → x[i]? = some c → is01x c = true) := fun h i c hi hc => by
        rcases Nat.lt_or_ge i j with h1 | h1
        · exact hno.out i c h1 hc
        · obtain rfl : i = j := by omega
          rw [hld] at hc
          rw [← Option.some.inj hc]
          exact h
      have HBJ : Hid (is01x d = false → q = false) := HBAD.out j d hld
      have HIS : Hid (is01x d = (d.toNat == 48 || d.toNat == 49 || d.toNat == 120)) := by
        show is01x d = _
        unfold is01x
        have e : ∀ k : UInt8, (d == k) = (d.toNat == k.toNat) := fun k => by
          rw [Bool.eq_iff_iff, beq_iff_eq, beq_iff_eq]
          exact ⟨fun h => by rw [h], fun h => UInt8.toNat_inj.1 h⟩
        rw [e, e, e]
        rfl
      clear hld hno
      rcases (show d.toNat = 48 ∨ d.toNat = 49 ∨ d.toNat = 120 ∨ (d.toNat ≠ 48 ∧ d.toNat ≠ 49 ∧ d.toNat ≠ 120) by omega) with hr | hr | hr | hr
      · have a1 : ((d.toNat : Int) != 48) = false := by rw [hr]; rfl
        have b1 : ((d.toNat : Int) == 48) = true := by rw [hr]; rfl
        have a2 : ((d.toNat : Int) != 49) = true := by rw [bne_iff_ne]; omega
        have b2 : ((d.toNat : Int) == 49) = false := beq_eq_false_iff_ne.2 (by omega)
        have a3 : ((d.toNat : Int) != 120) = true := by rw [bne_iff_ne]; omega
        have b3 : ((d.toNat : Int) == 120) = false := beq_eq_false_iff_ne.2 (by omega)
        have HN2 := hideL (HNX.out (by rw [HIS.out, hr]; rfl))
        clear HBJ HNX HIS hr
        go_wp2_with fail
        go_roundw
        case rel => exact ⟨j + 1, by go_num, by omega, HN2, by first | rfl | trivial⟩
        case measure => simp [intOf]; omega
      · have a1 : ((d.toNat : Int) != 48) = true := by rw [bne_iff_ne]; omega
        have b1 : ((d.toNat : Int) == 48) = false := beq_eq_false_iff_ne.2 (by omega)
        have a2 : ((d.toNat : Int) != 49) = false := by rw [hr]; rfl
        have b2 : ((d.toNat : Int) == 49) = true := by rw [hr]; rfl
        have a3 : ((d.toNat : Int) != 120) = true := by rw [bne_iff_ne]; omega
        have b3 : ((d.toNat : Int) == 120) = false := beq_eq_false_iff_ne.2 (by omega)
        have HN2 := hideL (HNX.out (by rw [HIS.out, hr]; rfl))
        clear HBJ HNX HIS hr
        go_wp2_with fail
        go_roundw
        case rel => exact ⟨j + 1, by go_num, by omega, HN2, by first | rfl | trivial⟩
        case measure => simp [intOf]; omega
      · have a1 : ((d.toNat : Int) != 48) = true := by rw [bne_iff_ne]; omega
        have b1 : ((d.toNat : Int) == 48) = false := beq_eq_false_iff_ne.2 (by omega)
        have a2 : ((d.toNat : Int) != 49) = true := by rw [bne_iff_ne]; omega
        have b2 : ((d.toNat : Int) == 49) = false := beq_eq_false_iff_ne.2 (by omega)
        have a3 : ((d.toNat : Int) != 120) = false := by rw [hr]; rfl
        have b3 : ((d.toNat : Int) == 120) = true := by rw [hr]; rfl
        have HN2 := hideL (HNX.out (by rw [HIS.out, hr]; rfl))
        clear HBJ HNX HIS hr
        go_wp2_with fail
        go_roundw
        case rel => exact ⟨j + 1, by go_num, by omega, HN2, by first | rfl | trivial⟩
        case measure => simp [intOf]; omega
      · have a1 : ((d.toNat : Int) != 48) = true := by rw [bne_iff_ne]; omega
        have b1 : ((d.toNat : Int) == 48) = false := beq_eq_false_iff_ne.2 (by omega)
        have a2 : ((d.toNat : Int) != 49) = true := by rw [bne_iff_ne]; omega
        have b2 : ((d.toNat : Int) == 49) = false := beq_eq_false_iff_ne.2 (by omega)
        have a3 : ((d.toNat : Int) != 120) = true := by rw [bne_iff_ne]; omega
        have b3 : ((d.toNat : Int) == 120) = false := beq_eq_false_iff_ne.2 (by omega)
        obtain rfl : q = false := HBJ.out (by rw [HIS.out]; simp [hr])
        clear HNX HBJ HIS
        go_wp2_with fail
        go_ret
        exact ⟨rfl, rfl⟩
    · have j1 : ¬ (j : Int) < (x.length : Int) := by omega
      obtain rfl : j = x.length := by omega
      obtain rfl : q = true := HOK.out hno.out
      go_wp2_with fail
      go_ret
      exact ⟨rfl, rfl⟩
end Go.Proofs.YtffgkjmfeannoaaGreatDoor.Ex

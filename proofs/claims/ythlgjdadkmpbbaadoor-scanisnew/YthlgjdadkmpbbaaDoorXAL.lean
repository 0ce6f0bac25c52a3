import Derived.Test.YthlgjdadkmpbbaaDoorXAK
import Derived.Test.YthlgjdadkmpbbaaDoorXAI
import Derived.OwnWalk
namespace Go.Proofs.YthlgjdadkmpbbaaDoor
open Go.RowKit Go.Shelf
theorem tcels_at (L : List Tok) : ∀ (k : Nat) (t : Tok), L[k]? = some t → (tcels L)[k * 4]? = some (.int .i64 (t.1 : Int)) ∧ (tcels L)[k * 4 + 1]? = some (.string ⟨t.2.1.toArray⟩) ∧ (tcels L)[k * 4 + 2]? = some (.int .i64 (t.2.2.1 : Int)) ∧ (tcels L)[k * 4 + 3]? = some (.int .i64 (t.2.2.2 : Int)) := by
  induction L with
  | nil => intro k t h; simp at h
  | cons y L ih =>
    intro k t h
    cases k with
    | zero =>
      simp at h
      subst h
      exact ⟨rfl, rfl, rfl, rfl⟩
    | succ k =>
      have := ih k t (by simpa using h)
      rw [show (k + 1) * 4 = k * 4 + 4 by omega]
      exact this
/-- a token of an own row -/
theorem tok_cell {W : World} {B g c : Nat} {D : List Tok} (h : W.ownsRow B 29 4 (.slice (some ⟨g, 0, none⟩) D.length c) D.length (tcels D)) {k : Nat} {t : Tok} (ht : D[k]? = some t) :
    W.cell? ⟨g, k * 4, none⟩ = some (.int .i64 (t.1 : Int)) ∧ W.cell? ⟨g, k * 4 + 1, none⟩ = some (.string ⟨t.2.1.toArray⟩) ∧ W.cell? ⟨g, k * 4 + 2, none⟩ = some (.int .i64 (t.2.2.1 : Int)) ∧ W.cell? ⟨g, k * 4 + 3, none⟩ = some (.int .i64 (t.2.2.2 : Int)) := by
  obtain ⟨h0, h1, h2, h3⟩ := tcels_at D k t ht
  have e : ∀ m, (⟨g, 0, none⟩ : Addr).add m = ⟨g, m, none⟩ := fun m => by unfold Addr.add; split <;> simp_all
  have c0 := h.cells rfl _ _ h0
  have c1 := h.cells rfl _ _ h1
  have c2 := h.cells rfl _ _ h2
  have c3 := h.cells rfl _ _ h3
  rw [e] at c0 c1 c2 c3
  exact ⟨c0, c1, c2, c3⟩
/-- the tokens behind a line's end -/
def endT (D : List Tok) (line col : Nat) : List Tok := match D.getLast? with
  | some t => if t.1 = 1 then D else D ++ [(1, [10], line, col)]
  | none => D
set_option maxRecDepth 100000 in
set_option maxHeartbeats 2000000 in
theorem endTokens_any {X : MX} (hC : MC X) {W : World} {now fst line head : Nat} {v : Value} {D : List Tok} (h : MS X W now fst line head v D) (hh : head ≤ now) (hm : now ≤ 16384) (hD : D.length ≤ 65536) :
    Calls Tryd.prog 16 #[.pointer (some ⟨X.b, 0, none⟩)] W fun e w' => e = .returned (.tuple #[]) ∧ ∃ v', MS X w' now fst line head v' (endT D line (now - head + 1)) := by
  have hM : Hid (MS X W now fst line head v D) := h
  have hc6 := h.c6
  have hc2 := h.c2
  have hown := h.own
  by_cases h0 : D = []
  · subst h0
    obtain ⟨qv, cv, rfl⟩ := shapeP hown
    clear h
    go_enter Tryd.func16, Tryd.ntmps16
    go_wp2_with fail
    go_end0
    exact ⟨rfl, _, hM.out⟩
  · obtain ⟨D0, t, rfl⟩ : ∃ D0 t, D = D0 ++ [t] := ⟨D.dropLast, D.getLast h0, (List.dropLast_concat_getLast h0).symm⟩
    have hE : Hid (endT (D0 ++ [t]) line (now - head + 1) = if t.1 = 1 then D0 ++ [t] else D0 ++ [t] ++ [(1, [10], line, now - head + 1)]) := by unfold Hid endT; simp
    obtain ⟨g, c, rfl⟩ := own_form hown (by simp)
    have ht : (D0 ++ [t])[D0.length]? = some t := by simp
    have hx := (tok_cell hown ht).1
    have HH := hand_any hC h 1 [10] now hh hm hD
    have hl : (D0 ++ [t]).length = D0.length + 1 := by simp
    rw [hE.out]
    obtain ⟨K, hK⟩ : ∃ K, D0.length = K := ⟨_, rfl⟩
    rw [hK] at hx hl
    rw [hl] at hc6 hD
    have k0 : (0 : Int) ≤ (K : Int) := by omega
    have k1 : (0 : Int) < (K : Int) + 1 := by omega
    obtain ⟨kd, hkd⟩ : ∃ kd, t.1 = kd := ⟨_, rfl⟩
    rw [hkd] at hx ⊢
    by_cases h1 : kd = 1
    · subst h1
      rw [if_pos rfl]
      clear h hown ht h0 HH hE hkd
      go_enter Tryd.func16, Tryd.ntmps16
      go_wp2_with fail
      go_end0
      exact ⟨rfl, _, hM.out⟩
    · have e1 : ((kd : Int) == 1) = false := by rw [beq_eq_false_iff_ne]; omega
      have e2 : ((kd : Int) != 1) = true := by rw [bne, e1]; rfl
      rw [if_neg h1]
      clear h hown ht h0 hE hkd
      go_enter Tryd.func16, Tryd.ntmps16
      go_wp2_with fail
      refine HH.mono ?_
      rintro e w1 ⟨rfl, v1, h1⟩
      go_wp2_with fail
      go_end0
      exact ⟨rfl, v1, h1⟩
end Go.Proofs.YthlgjdadkmpbbaaDoor
namespace Go.Proofs.YthlgjdadkmpbbaaDoor
open Go.RowKit Go.Shelf
theorem wp_scope_many2 {P : Program} {a : Act} {w : World} {Q : Exit → Act → World → Prop} {c : Code} (J : Nat → Act → World → Prop) (m : Nat → Act → World → Nat)
    (pass : ∀ l a w, J l a w → ∃ X, findLabel c l = some (.seq .skip X) ∧ X.wp P (jumpN (fun l' a' w' => J l' a' w' ∧ m l' a' w' < m l a w) Q) a w)
    (first : (∀ l a w, J l a w → ∃ X, findLabel c l = some (.seq .skip X) ∧ X.wp P (jumpN J Q) a w) → c.wp P (jumpN J Q) a w) : (Code.scope c).wp P Q a w :=
  wp_scope_many J m (first (fun l a w h => by
    obtain ⟨X, hf, hr⟩ := pass l a w h
    refine ⟨X, hf, wp_mono hr ?_⟩
    intro e a' w' hq
    cases e with
    | goto l' => exact hq.1
    | normal => exact hq
    | exit id => exact hq
    | ret => exact hq
    | panic ch => exact hq
    | outgrown => exact hq)) (fun l a w h => by
    obtain ⟨X, hf, hr⟩ := pass l a w h
    exact ⟨_, hf, wp_seq (wp_skip hr)⟩)
theorem jump_ret {J : Nat → Act → World → Prop} {Q : Exit → Act → World → Prop} {a : Act} {w : World} (h : Q .ret a w) : jumpN J Q .ret a w := h
theorem bar_iff (l : List UInt8) (j : Nat) (h : j < l.length) : (chr l j < 32 ∨ chr l j = 127) ↔ (lo1 l j = true ∨ bt l j < 32 ∨ bt l j = 127) := by
  unfold chr
  rw [if_pos h]
  by_cases hb : bt l j < 128
  · rw [lo1_asc hb, dc_asc hb]
    simp only [Bool.false_eq_true, if_false, false_or]
    omega
  · have := dc_big hb
    cases lo1 l j with
    | true => simp
    | false => simp only [Bool.false_eq_true, if_false, false_or]; omega
theorem escS_drop (l : List UInt8) (j : Nat) (hj : j < l.length) (hb : bt l j = 92) (h : 0 < (escS l j).1) : (chars l j).drop (escS l j).1 = chars l (j + (escS l j).1) := by
  have hc0 : chars l j = (92, j) :: chars l (j + 1) := by rw [chars_asc hj (by omega), hb]; rfl
  have asc : ∀ m, j + m < l.length → bt l (j + m) < 128 → ∃ c, chars l (j + m) = c :: chars l (j + m + 1) := fun m h1 h2 => ⟨_, chars_asc h1 h2⟩
  have two : j + 1 < l.length → bt l (j + 1) < 128 → (chars l j).drop 2 = chars l (j + 2) := fun h1 h2 => by
    obtain ⟨c, hc⟩ := asc 1 h1 h2
    rw [hc0, hc]; rfl
  unfold escS at h ⊢
  split at h
  · simp at h
  rename_i g0
  rw [if_neg g0]
  by_cases g1 : bt l (j + 1) = 34
  · rw [if_pos g1]; exact two (by omega) (by omega)
  rw [if_neg g1] at h ⊢
  by_cases g2 : bt l (j + 1) = 92
  · rw [if_pos g2]; exact two (by omega) (by omega)
  rw [if_neg g2] at h ⊢
  by_cases g3 : bt l (j + 1) = 110
  · rw [if_pos g3]; exact two (by omega) (by omega)
  rw [if_neg g3] at h ⊢
  by_cases g4 : bt l (j + 1) = 114
  · rw [if_pos g4]; exact two (by omega) (by omega)
  rw [if_neg g4] at h ⊢
  by_cases g5 : bt l (j + 1) = 116
  · rw [if_pos g5]; exact two (by omega) (by omega)
  rw [if_neg g5] at h ⊢
  by_cases g6 : bt l (j + 1) = 120
  · rw [if_pos g6] at h ⊢
    have t2 := two (by omega) (by omega)
    rcases hex2 l j with ⟨h3, a, b, ha, hb, hq⟩ | ⟨hq, hno⟩
    · rw [if_pos h3, ha, hb]
      have := drop_hex 2 l (j + 2) 0
      rw [hq] at this
      show (chars l j).drop 4 = chars l (j + 4)
      rw [show 4 = 2 + 2 by rfl, ← List.drop_drop, t2]
      exact this
    · by_cases h3 : j + 3 < l.length
      · rw [if_pos h3] at h
        rcases hno h3 with e | e
        · rw [e] at h; simp at h
        · rw [e] at h
          revert h
          cases hexD (l.getD (j + 2) 0) <;> simp
      · rw [if_neg h3] at h; simp at h
  rw [if_neg g6] at h ⊢
  by_cases g7 : bt l (j + 1) = 117
  · rw [if_pos g7] at h ⊢
    have t2 := two (by omega) (by omega)
    by_cases h0 : 0 < (brS l j).1
    · rw [if_pos h0]
      show (chars l j).drop (brS l j).1 = chars l (j + (brS l j).1)
      unfold brS at h0 ⊢
      split at h0
      · simp at h0
      · split at h0
        · simp at h0
        · rename_i k1 k2
          rw [if_neg k1, if_neg k2]
          have hd := drop_hex 6 l (j + 3) 0
          show (chars l j).drop (4 + (hexRun 6 (l.drop (j + 3)) 0).1) = chars l (j + (4 + (hexRun 6 (l.drop (j + 3)) 0).1))
          obtain ⟨c2, hc2⟩ := asc 2 (by omega) (by omega)
          have t3 : (chars l j).drop 3 = chars l (j + 3) := by
            rw [show 3 = 2 + 1 by rfl, ← List.drop_drop, t2, hc2]; rfl
          obtain ⟨c3, hc3⟩ := asc (3 + (hexRun 6 (l.drop (j + 3)) 0).1) (by omega) (by rw [← Nat.add_assoc]; omega)
          rw [show 4 + (hexRun 6 (l.drop (j + 3)) 0).1 = 3 + ((hexRun 6 (l.drop (j + 3)) 0).1 + 1) by omega, ← List.drop_drop, t3, ← List.drop_drop, hd, Nat.add_assoc, hc3]
          exact congrArg (chars l) (by omega)
    · rw [if_neg h0] at h; simp at h
  · rw [if_neg g7] at h; simp at h
theorem byteCells_append (a b : List UInt8) : Lib.byteCells (a ++ b) = Lib.byteCells a ++ Lib.byteCells b := by simp [Lib.byteCells]
theorem byteCells_one (b : List UInt8) : ∀ u ∈ Lib.byteCells b, u.oneCell' = true := by
  intro u hu
  obtain ⟨c, _, rfl⟩ := List.mem_map.1 hu
  rfl
theorem use_pass {P : Program} {a : Act} {w : World} {R : Exit → Act → World → Prop} {c X : Code} {J : Nat → Act → World → Prop} {l : Nat} (h : ∀ a w, J l a w → ∃ X, findLabel c l = some (.seq .skip X) ∧ X.wp P R a w) (hJ : J l a w) (hf : findLabel c l = some (.seq .skip X)) : X.wp P R a w := by
  obtain ⟨Y, hY, hr⟩ := h a w hJ
  have e := Option.some.inj (hf.symm.trans hY)
  injection e with _ e
  rw [e]
  exact hr
theorem results_pc (tmps : Array Value) (W : World) (a b c : Value) (h : tmps.getD 4 undef = a ∧ tmps.getD 5 undef = b ∧ tmps.getD 6 undef = c) : (results Tryd.f26 tmps).run Tryd.prog W = .ok (.tuple #[a, b, c]) W := by
  obtain ⟨h1, h2, h3⟩ := h
  have h1' : tmps[4]?.getD undef = a := by simpa using h1
  have h2' : tmps[5]?.getD undef = b := by simpa using h2
  have h3' : tmps[6]?.getD undef = c := by simpa using h3
  simp [results, h1', h2', h3', go_sem]
end Go.Proofs.YthlgjdadkmpbbaaDoor

import Derived.Test.YtnfhhdjgjonbaaaOA
import Derived.Test.YtnfhhdjgjonbaaaLH
import Derived.Test.YtnfhhdjgjonbaaaLQ
namespace Go.Proofs.Ytnfhhdjgjonbaaa
open Go.RowKit
theorem info_sb : (Try.prog.info? 30).map (fun i => (i.zero, i.size, i.bytes)) = some (some (.slice none 0 0), 1, 24) := by kernel_rfl
/-- what lies in memory while the lists are gathered -/
structure DO6 (f : Nat × Nat → Reg) (va : Value) (La : List Value) (vw : Value) (Lw : List Value) (vr : Value) (nr : Nat) (Lr : List Value) (vs : Value) (ns : Nat) (Ls : List Value) (V U : List Reg) : Prop where
  a : f (0, 0) = ⟨30, 1, va, La.length, La⟩
  w : f (0, 1) = ⟨30, 1, vw, Lw.length, Lw⟩
  r : f (0, 2) = ⟨29, 3, vr, nr, Lr⟩
  s : f (0, 3) = ⟨29, 3, vs, ns, Ls⟩
  v : ∀ j, f (1, j) = V.getD j (nilR 5 1)
  u : ∀ j, f (2, j) = U.getD j (nilR 5 1)
  g : ∀ j, f (3, j) = nilR 5 1
  m : f (0, 4) = nilR 30 1
variable {f : Nat × Nat → Reg} {va vw vr vs : Value} {La Lw Lr Ls : List Value} {nr ns : Nat} {V U : List Reg}
def fN : Nat × Nat → Reg
  | (0, 0) => nilR 30 1
  | (0, 1) => nilR 30 1
  | (0, 2) => nilR 29 3
  | (0, 3) => nilR 29 3
  | (0, 4) => nilR 30 1
  | _ => nilR 5 1
theorem fN_v (k : Nat × Nat) : ∃ T s, fN k = nilR T s := by
  unfold fN
  split <;> exact ⟨_, _, rfl⟩
theorem SEP_fN (W : World) (B : Nat) : SEP W B fN := by
  refine ⟨fun k => ?_, fun k k' _ b hb => ?_⟩
  · obtain ⟨T, s, e⟩ := fN_v k
    rw [e]; exact nilR_owns _ _ _ _
  · obtain ⟨T, s, e⟩ := fN_v k
    rw [e] at hb
    cases hb
theorem DO6_fN : DO6 fN (.slice none 0 0) [] (.slice none 0 0) [] (.slice none 0 0) 0 [] (.slice none 0 0) 0 [] [] [] := ⟨rfl, rfl, rfl, rfl, fun _ => rfl, fun _ => rfl, fun _ => rfl, rfl⟩
theorem DO6.box (h : DO6 f va La vw Lw vr nr Lr vs ns Ls V U) (i : Nat) (x : Reg) : DO6 (updS f (4, i) x) va La vw Lw vr nr Lr vs ns Ls V U :=
  ⟨(updS_ne _ _ (by simp)).trans h.a, (updS_ne _ _ (by simp)).trans h.w, (updS_ne _ _ (by simp)).trans h.r, (updS_ne _ _ (by simp)).trans h.s, fun j => (updS_ne _ _ (by simp)).trans (h.v j), fun j => (updS_ne _ _ (by simp)).trans (h.u j), fun j => (updS_ne _ _ (by simp)).trans (h.g j), (updS_ne _ _ (by simp)).trans h.m⟩
theorem DO6.ua (h : DO6 f va La vw Lw vr nr Lr vs ns Ls V U) (va' x : Value) : DO6 (updS f (0, 0) ⟨30, 1, va', La.length + 1, La ++ [x]⟩) va' (La ++ [x]) vw Lw vr nr Lr vs ns Ls V U :=
  ⟨by rw [updS_self, List.length_append]; rfl, (updS_ne _ _ (by simp)).trans h.w, (updS_ne _ _ (by simp)).trans h.r, (updS_ne _ _ (by simp)).trans h.s, fun j => (updS_ne _ _ (by simp)).trans (h.v j), fun j => (updS_ne _ _ (by simp)).trans (h.u j), fun j => (updS_ne _ _ (by simp)).trans (h.g j), (updS_ne _ _ (by simp)).trans h.m⟩
theorem DO6.uw (h : DO6 f va La vw Lw vr nr Lr vs ns Ls V U) (vw' x : Value) : DO6 (updS f (0, 1) ⟨30, 1, vw', Lw.length + 1, Lw ++ [x]⟩) va La vw' (Lw ++ [x]) vr nr Lr vs ns Ls V U :=
  ⟨(updS_ne _ _ (by simp)).trans h.a, by rw [updS_self, List.length_append]; rfl, (updS_ne _ _ (by simp)).trans h.r, (updS_ne _ _ (by simp)).trans h.s, fun j => (updS_ne _ _ (by simp)).trans (h.v j), fun j => (updS_ne _ _ (by simp)).trans (h.u j), fun j => (updS_ne _ _ (by simp)).trans (h.g j), (updS_ne _ _ (by simp)).trans h.m⟩
theorem DO6.ur (h : DO6 f va La vw Lw vr nr Lr vs ns Ls V U) (vr' : Value) (x : List Value) : DO6 (updS f (0, 2) ⟨29, 3, vr', nr + 1, Lr ++ x⟩) va La vw Lw vr' (nr + 1) (Lr ++ x) vs ns Ls V U :=
  ⟨(updS_ne _ _ (by simp)).trans h.a, (updS_ne _ _ (by simp)).trans h.w, updS_self _ _ _, (updS_ne _ _ (by simp)).trans h.s, fun j => (updS_ne _ _ (by simp)).trans (h.v j), fun j => (updS_ne _ _ (by simp)).trans (h.u j), fun j => (updS_ne _ _ (by simp)).trans (h.g j), (updS_ne _ _ (by simp)).trans h.m⟩
theorem DO6.us (h : DO6 f va La vw Lw vr nr Lr vs ns Ls V U) (vs' : Value) (x : List Value) : DO6 (updS f (0, 3) ⟨29, 3, vs', ns + 1, Ls ++ x⟩) va La vw Lw vr nr Lr vs' (ns + 1) (Ls ++ x) V U :=
  ⟨(updS_ne _ _ (by simp)).trans h.a, (updS_ne _ _ (by simp)).trans h.w, (updS_ne _ _ (by simp)).trans h.r, updS_self _ _ _, fun j => (updS_ne _ _ (by simp)).trans (h.v j), fun j => (updS_ne _ _ (by simp)).trans (h.u j), fun j => (updS_ne _ _ (by simp)).trans (h.g j), (updS_ne _ _ (by simp)).trans h.m⟩
theorem getD_snoc (V : List Reg) (x d : Reg) (j : Nat) (h : j ≠ V.length) : (V ++ [x]).getD j d = V.getD j d := by
  rw [List.getD_eq_getElem?_getD, List.getD_eq_getElem?_getD]
  by_cases h1 : j < V.length
  · rw [List.getElem?_append_left h1]
  · rw [List.getElem?_eq_none (by rw [List.length_append, List.length_singleton]; omega), List.getElem?_eq_none (by omega)]
theorem getD_last (V : List Reg) (x d : Reg) : (V ++ [x]).getD V.length d = x := by
  rw [List.getD_eq_getElem?_getD, List.getElem?_append_right (Nat.le_refl _), Nat.sub_self]; rfl
theorem DO6.uv (h : DO6 f va La vw Lw vr nr Lr vs ns Ls V U) (n : Nat) (hn : V.length = n) (x : Reg) : DO6 (updS f (1, n) x) va La vw Lw vr nr Lr vs ns Ls (V ++ [x]) U :=
  ⟨(updS_ne _ _ (by simp)).trans h.a, (updS_ne _ _ (by simp)).trans h.w, (updS_ne _ _ (by simp)).trans h.r, (updS_ne _ _ (by simp)).trans h.s, fun j => by
    by_cases hj : j = n
    · subst hj hn; rw [updS_self, getD_last]
    · rw [updS_ne _ _ (by simpa using hj), h.v j, getD_snoc V x _ j (by omega)], fun j => (updS_ne _ _ (by simp)).trans (h.u j), fun j => (updS_ne _ _ (by simp)).trans (h.g j), (updS_ne _ _ (by simp)).trans h.m⟩
theorem DO6.uu (h : DO6 f va La vw Lw vr nr Lr vs ns Ls V U) (n : Nat) (hn : U.length = n) (x : Reg) : DO6 (updS f (2, n) x) va La vw Lw vr nr Lr vs ns Ls V (U ++ [x]) :=
  ⟨(updS_ne _ _ (by simp)).trans h.a, (updS_ne _ _ (by simp)).trans h.w, (updS_ne _ _ (by simp)).trans h.r, (updS_ne _ _ (by simp)).trans h.s, fun j => (updS_ne _ _ (by simp)).trans (h.v j), fun j => by
    by_cases hj : j = n
    · subst hj hn; rw [updS_self, getD_last]
    · rw [updS_ne _ _ (by simpa using hj), h.u j, getD_snoc U x _ j (by omega)], fun j => (updS_ne _ _ (by simp)).trans (h.g j), (updS_ne _ _ (by simp)).trans h.m⟩
/-- a box is a row of one -/
theorem own_box {W : World} {B b T s : Nat} {cs : Array Value} (h : W.heap[b]? = some (.cells cs T (0, 0))) (hB : B ≤ b) (hc : cs.size = s) : W.ownsRow B T s (.slice (some ⟨b, 0, none⟩) 1 1) 1 cs.toList := by
  refine ⟨by simp [hc], .inr ⟨b, 1, cs, rfl, hB, h, Nat.le_refl _, by unfold maxLen; omega, by simp [hc], ?_⟩⟩
  rw [Nat.one_mul]
  exact List.take_of_length_le (by simp [hc])
end Go.Proofs.Ytnfhhdjgjonbaaa

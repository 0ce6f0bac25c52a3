import Derived.Test.YtkmnonkabekclaaDoorOA
import Derived.Test.YtkmnonkabekclaaDoorLT
import Derived.Test.YtkmnonkabekclaaDoorPE
namespace Go.Proofs.YtkmnonkabekclaaDoor
open Go.RowKit
theorem hideP {p : Prop} (h : p) : Hid p := h
theorem info_sr : (Tryd.prog.info? 40).map (fun i => (i.zero, i.size, i.bytes)) = some (some (.slice none 0 0), 1, 24) := by kernel_rfl
theorem info_ss : (Tryd.prog.info? 22).map (fun i => (i.zero, i.size, i.bytes)) = some (some (.slice none 0 0), 1, 24) := by kernel_rfl
/-- what lies in memory while the lists are gathered -/
structure DL (f : Nat × Nat → Reg) (va : Value) (La : List Value) (vb : Value) (Lb : List Value) (vw vl : Value) (R : List Rec) (M : List (List UInt8)) (V U : List Reg) : Prop where
  a : f (0, 0) = ⟨40, 1, va, La.length, La⟩
  b : f (0, 1) = ⟨22, 1, vb, Lb.length, Lb⟩
  w : f (0, 2) = ⟨35, 3, vw, R.length, rcs R⟩
  l : f (0, 3) = ⟨9, 1, vl, M.length, stZ M⟩
  v : ∀ j, f (1, j) = V.getD j (nilR 35 3)
  u : ∀ j, f (2, j) = U.getD j (nilR 9 1)
  g : ∀ j, f (3, j) = nilR 35 3
  h : ∀ j, f (4, j) = nilR 9 1
  m : f (0, 4) = nilR 40 1
  n : f (0, 5) = nilR 22 1
variable {f : Nat × Nat → Reg} {va vb vw vl : Value} {La Lb : List Value} {R : List Rec} {M : List (List UInt8)} {V U : List Reg}
def fL : Nat × Nat → Reg
  | (0, 0) => nilR 40 1
  | (0, 1) => nilR 22 1
  | (0, 2) => nilR 35 3
  | (0, 3) => nilR 9 1
  | (0, 4) => nilR 40 1
  | (0, 5) => nilR 22 1
  | (1, _) => nilR 35 3
  | (3, _) => nilR 35 3
  | _ => nilR 9 1
theorem fL_v (k : Nat × Nat) : ∃ T s, fL k = nilR T s := by
  unfold fL
  split <;> exact ⟨_, _, rfl⟩
theorem SEP_fL (W : World) (B : Nat) : SEP W B fL := by
  refine ⟨fun k => ?_, fun k k' _ b hb => ?_⟩
  · obtain ⟨T, s, e⟩ := fL_v k
    rw [e]; exact nilR_owns _ _ _ _
  · obtain ⟨T, s, e⟩ := fL_v k
    rw [e] at hb
    cases hb
theorem DL_fL (vw vl : Value) (R : List Rec) (M : List (List UInt8)) : DL (updS (updS fL (0, 2) ⟨35, 3, vw, R.length, rcs R⟩) (0, 3) ⟨9, 1, vl, M.length, stZ M⟩) (.slice none 0 0) [] (.slice none 0 0) [] vw vl R M [] [] :=
  ⟨rfl, rfl, rfl, rfl, fun _ => rfl, fun _ => rfl, fun _ => rfl, fun _ => rfl, rfl, rfl⟩
theorem getD_snocL (V : List Reg) (x d : Reg) (j : Nat) (h : j ≠ V.length) : (V ++ [x]).getD j d = V.getD j d := by
  rw [List.getD_eq_getElem?_getD, List.getD_eq_getElem?_getD]
  by_cases h1 : j < V.length
  · rw [List.getElem?_append_left h1]
  · rw [List.getElem?_eq_none (by rw [List.length_append, List.length_singleton]; omega), List.getElem?_eq_none (by omega)]
theorem getD_lastL (V : List Reg) (x d : Reg) : (V ++ [x]).getD V.length d = x := by
  rw [List.getD_eq_getElem?_getD, List.getElem?_append_right (Nat.le_refl _), Nat.sub_self]; rfl
theorem DL.ua (h : DL f va La vb Lb vw vl R M V U) (va' x : Value) : DL (updS f (0, 0) ⟨40, 1, va', La.length + 1, La ++ [x]⟩) va' (La ++ [x]) vb Lb vw vl R M V U :=
  ⟨(by rw [updS_self, List.length_append]; rfl), ((updS_ne _ _ (by simp)).trans h.b), ((updS_ne _ _ (by simp)).trans h.w), ((updS_ne _ _ (by simp)).trans h.l), (fun j => (updS_ne _ _ (by simp)).trans (h.v j)), (fun j => (updS_ne _ _ (by simp)).trans (h.u j)), (fun j => (updS_ne _ _ (by simp)).trans (h.g j)), (fun j => (updS_ne _ _ (by simp)).trans (h.h j)), ((updS_ne _ _ (by simp)).trans h.m), ((updS_ne _ _ (by simp)).trans h.n)⟩
theorem DL.ub (h : DL f va La vb Lb vw vl R M V U) (vb' x : Value) : DL (updS f (0, 1) ⟨22, 1, vb', Lb.length + 1, Lb ++ [x]⟩) va La vb' (Lb ++ [x]) vw vl R M V U :=
  ⟨((updS_ne _ _ (by simp)).trans h.a), (by rw [updS_self, List.length_append]; rfl), ((updS_ne _ _ (by simp)).trans h.w), ((updS_ne _ _ (by simp)).trans h.l), (fun j => (updS_ne _ _ (by simp)).trans (h.v j)), (fun j => (updS_ne _ _ (by simp)).trans (h.u j)), (fun j => (updS_ne _ _ (by simp)).trans (h.g j)), (fun j => (updS_ne _ _ (by simp)).trans (h.h j)), ((updS_ne _ _ (by simp)).trans h.m), ((updS_ne _ _ (by simp)).trans h.n)⟩
theorem DL.uv (h : DL f va La vb Lb vw vl R M V U) (x : Reg) : DL (updS f (1, V.length) x) va La vb Lb vw vl R M (V ++ [x]) U :=
  ⟨((updS_ne _ _ (by simp)).trans h.a), ((updS_ne _ _ (by simp)).trans h.b), ((updS_ne _ _ (by simp)).trans h.w), ((updS_ne _ _ (by simp)).trans h.l), (fun j => by
    by_cases hj : j = V.length
    · subst hj; rw [updS_self, getD_lastL]
    · rw [updS_ne _ _ (by simpa using hj), h.v j, getD_snocL V x _ j hj]), (fun j => (updS_ne _ _ (by simp)).trans (h.u j)), (fun j => (updS_ne _ _ (by simp)).trans (h.g j)), (fun j => (updS_ne _ _ (by simp)).trans (h.h j)), ((updS_ne _ _ (by simp)).trans h.m), ((updS_ne _ _ (by simp)).trans h.n)⟩
theorem DL.uu (h : DL f va La vb Lb vw vl R M V U) (x : Reg) : DL (updS f (2, U.length) x) va La vb Lb vw vl R M V (U ++ [x]) :=
  ⟨((updS_ne _ _ (by simp)).trans h.a), ((updS_ne _ _ (by simp)).trans h.b), ((updS_ne _ _ (by simp)).trans h.w), ((updS_ne _ _ (by simp)).trans h.l), (fun j => (updS_ne _ _ (by simp)).trans (h.v j)), (fun j => by
    by_cases hj : j = U.length
    · subst hj; rw [updS_self, getD_lastL]
    · rw [updS_ne _ _ (by simpa using hj), h.u j, getD_snocL U x _ j hj]), (fun j => (updS_ne _ _ (by simp)).trans (h.g j)), (fun j => (updS_ne _ _ (by simp)).trans (h.h j)), ((updS_ne _ _ (by simp)).trans h.m), ((updS_ne _ _ (by simp)).trans h.n)⟩
/-- what stands between the calls of one round -/
def TL (W : World) (B : Nat) (va : Value) (La : List Value) (vb : Value) (Lb : List Value) (vw vl : Value) (R : List Rec) (M : List (List UInt8)) (V U : List Reg) : Prop :=
  (∃ f, SEP W B f ∧ DL f va La vb Lb vw vl R M V U) ∧ B ≤ W.heap.size
variable {W X : World} {B : Nat}
theorem TL.below (h : TL W B va La vb Lb vw vl R M V U) (hb : Below W.heap.size W X) : TL X B va La vb Lb vw vl R M V U := by
  obtain ⟨⟨f, h1, h2⟩, h3⟩ := h
  exact ⟨⟨f, h1.below hb, h2⟩, Nat.le_trans h3 hb.size⟩
theorem TL.nv (h : TL W B va La vb Lb vw vl R M V U) (hb : Below W.heap.size W X) {v : Value} {l : List Rec} (ho : OR X W.heap.size v l) : TL X B va La vb Lb vw vl R M (V ++ [⟨35, 3, v, l.length, rcs l⟩]) U := by
  obtain ⟨⟨f, h1, h2⟩, h3⟩ := h
  exact ⟨⟨_, h1.new hb h3 (1, V.length) (r := ⟨35, 3, v, l.length, rcs l⟩) ho, h2.uv _⟩, Nat.le_trans h3 hb.size⟩
theorem TL.nu (h : TL W B va La vb Lb vw vl R M V U) (hb : Below W.heap.size W X) {v : Value} {l : List (List UInt8)} (ho : OS X W.heap.size v l) : TL X B va La vb Lb vw vl R M V (U ++ [⟨9, 1, v, l.length, stZ l⟩]) := by
  obtain ⟨⟨f, h1, h2⟩, h3⟩ := h
  exact ⟨⟨_, h1.new hb h3 (2, U.length) (r := ⟨9, 1, v, l.length, stZ l⟩) ho, h2.uu _⟩, Nat.le_trans h3 hb.size⟩
theorem TL.ta (h : TL W B va La vb Lb vw vl R M V U) (ty : TypeId) {nb : Nat} (x : Value) (hx : x.oneCell' = true) (hnb : W.heap[nb]? = some (.cells #[x] 40 (0, 0))) (hl : La.length ≤ 100000) :
    ∃ v' X, (Builtin.append_ #[55, 55] ty #[va, .slice (some ⟨nb, 0, none⟩) 1 1]).run Tryd.prog W = .ok v' X ∧ TL X B v' (La ++ [x]) vb Lb vw vl R M V U ∧ (∃ p' c', v' = .slice p' (La.length + 1) c') ∧ (∀ w : World, w.heap.size ≤ B → Below w.heap.size w W → Below w.heap.size w X) := by
  obtain ⟨⟨f, h1, h2⟩, h5⟩ := h
  obtain ⟨i0, hi, hz0, hz1, hz2⟩ := info_parts info_sr
  have o := h1.own (0, 0)
  rw [h2.a] at o
  obtain ⟨v', X, hr, o2, g2, n2⟩ := appZ (TS := 55) (nb := nb) ty Tryd.underlying55 hi hz0 hz1 hz2 rfl (by decide) o h5 (news := [x]) rfl (World.news_of_block hnb) (fun u hu => by rw [List.mem_singleton.1 hu]; exact hx) hl (by decide)
  have s1 := h1.upd (0, 0) (r := ⟨40, 1, v', La.length + 1, _⟩) o2 (by rw [h2.a]; exact g2) (by rw [h2.a]; exact n2)
  exact ⟨v', X, hr, ⟨⟨_, s1, h2.ua v' x⟩, Nat.le_trans h5 g2.size⟩, shapeZ o2, fun w hw hb => bel_grZ hb g2 (fun k e => Nat.le_trans hw (World.ownsRow.lt o k e).1)⟩
theorem TL.tb (h : TL W B va La vb Lb vw vl R M V U) (ty : TypeId) {nb : Nat} (x : Value) (hx : x.oneCell' = true) (hnb : W.heap[nb]? = some (.cells #[x] 22 (0, 0))) (hl : Lb.length ≤ 100000) :
    ∃ v' X, (Builtin.append_ #[56, 56] ty #[vb, .slice (some ⟨nb, 0, none⟩) 1 1]).run Tryd.prog W = .ok v' X ∧ TL X B va La v' (Lb ++ [x]) vw vl R M V U ∧ (∃ p' c', v' = .slice p' (Lb.length + 1) c') ∧ (∀ w : World, w.heap.size ≤ B → Below w.heap.size w W → Below w.heap.size w X) := by
  obtain ⟨⟨f, h1, h2⟩, h5⟩ := h
  obtain ⟨i0, hi, hz0, hz1, hz2⟩ := info_parts info_ss
  have o := h1.own (0, 1)
  rw [h2.b] at o
  obtain ⟨v', X, hr, o2, g2, n2⟩ := appZ (TS := 56) (nb := nb) ty Tryd.underlying56 hi hz0 hz1 hz2 rfl (by decide) o h5 (news := [x]) rfl (World.news_of_block hnb) (fun u hu => by rw [List.mem_singleton.1 hu]; exact hx) hl (by decide)
  have s1 := h1.upd (0, 1) (r := ⟨22, 1, v', Lb.length + 1, _⟩) o2 (by rw [h2.b]; exact g2) (by rw [h2.b]; exact n2)
  exact ⟨v', X, hr, ⟨⟨_, s1, h2.ub v' x⟩, Nat.le_trans h5 g2.size⟩, shapeZ o2, fun w hw hb => bel_grZ hb g2 (fun k e => Nat.le_trans hw (World.ownsRow.lt o k e).1)⟩
/-- two lists that were told in one round -/
structure EL where
  p : Option Addr
  c : Nat
  q : Option Addr
  d : Nat
def EL.v (n : Nat) (e : EL) : Value := .slice e.p n e.c
def EL.u (n : Nat) (e : EL) : Value := .slice e.q n e.d
def rgV (R : List Rec) (e : EL) : Reg := ⟨35, 3, e.v R.length, R.length, rcs R⟩
def rgU (M : List (List UInt8)) (e : EL) : Reg := ⟨9, 1, e.u M.length, M.length, stZ M⟩
/-- between the rounds -/
def SL (W : World) (B : Nat) (va vb vw vl : Value) (R : List Rec) (M : List (List UInt8)) (K : List EL) : Prop := TL W B va (K.map (EL.v R.length)) vb (K.map (EL.u M.length)) vw vl R M (K.map (rgV R)) (K.map (rgU M))
theorem SL.snoc {K : List EL} {e : EL} (h : TL W B va (K.map (EL.v R.length) ++ [e.v R.length]) vb (K.map (EL.u M.length) ++ [e.u M.length]) vw vl R M (K.map (rgV R) ++ [rgV R e]) (K.map (rgU M) ++ [rgU M e])) : SL W B va vb vw vl R M (K ++ [e]) := by
  unfold SL
  simp only [List.map_append, List.map_cons, List.map_nil]
  exact h
theorem SL.start {w W1 W2 : World} (hb1 : Below w.heap.size w W1) (hb2 : Below W1.heap.size W1 W2) (ho1 : OR W1 w.heap.size vw R) (ho2 : OS W2 W1.heap.size vl M) : SL W2 w.heap.size (.slice none 0 0) (.slice none 0 0) vw vl R M [] :=
  ⟨⟨_, ((SEP_fL w w.heap.size).new hb1 (Nat.le_refl _) (0, 2) (r := ⟨35, 3, vw, R.length, rcs R⟩) ho1).new hb2 hb1.size (0, 3) (r := ⟨9, 1, vl, M.length, stZ M⟩) ho2, DL_fL vw vl R M⟩, Nat.le_trans hb1.size hb2.size⟩
end Go.Proofs.YtkmnonkabekclaaDoor

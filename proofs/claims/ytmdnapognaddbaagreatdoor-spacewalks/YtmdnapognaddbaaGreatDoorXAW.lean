import Derived.Test.YtmdnapognaddbaaGreatDoorXAV
namespace Go.Proofs.YtmdnapognaddbaaGreatDoor
open Go.RowKit Go.Shelf
def rtc (z : ZT) : List Value := [.string ⟨z.c.toArray⟩, .slice z.q z.L.length z.k]
def rts (Z : List ZT) : List Value := Z.flatMap rtc
theorem rts_snoc (Z : List ZT) (z : ZT) : rts (Z ++ [z]) = rts Z ++ [.string ⟨z.c.toArray⟩, .slice z.q z.L.length z.k] := by simp [rts, rtc]
theorem rts_len (Z : List ZT) : (rts Z).length = Z.length * 2 := by
  induction Z with
  | nil => rfl
  | cons x l ih => simp only [rts, List.flatMap_cons, List.length_append, List.length_cons] at ih ⊢; rw [ih]; simp [rtc]; omega
theorem rts_get (Z : List ZT) (k m : Nat) (hm : m < 2) : (rts Z)[k * 2 + m]? = (Z[k]?).bind (fun t => (rtc t)[m]?) := by
  induction Z generalizing k with
  | nil => simp [rts]
  | cons t l ih =>
    have hc : rts (t :: l) = rtc t ++ rts l := rfl
    have hl : (rtc t).length = 2 := rfl
    cases k with
    | zero =>
      rw [hc, List.getElem?_append_left (by rw [hl]; omega)]
      simp
    | succ k =>
      rw [hc, List.getElem?_append_right (by rw [hl]; omega), hl, show (k + 1) * 2 + m - 2 = k * 2 + m from by omega, ih]
      simp
theorem rr_cells {W : World} {B n c g k : Nat} {L : List ZT} {z : ZT} (h : W.ownsRow B 64 2 (.slice (some ⟨g, 0, none⟩) n c) n (rts L)) (hz : L[k]? = some z) : W.cell? ⟨g, k * 2, none⟩ = some (.string ⟨z.c.toArray⟩) ∧ W.cell? ⟨g, k * 2 + 1, none⟩ = some (.slice z.q z.L.length z.k) := by
  have h0 : (rts L)[k * 2]? = some (.string ⟨z.c.toArray⟩) := by
    have := rts_get L k 0 (by omega)
    rw [hz] at this
    exact this
  have h1 : (rts L)[k * 2 + 1]? = some (.slice z.q z.L.length z.k) := by
    have := rts_get L k 1 (by omega)
    rw [hz] at this
    exact this
  have c0 := h.cells (g := g) rfl (k * 2) _ h0
  have c1 := h.cells (g := g) rfl (k * 2 + 1) _ h1
  rw [add_plain, Nat.zero_add] at c0 c1
  exact ⟨c0, c1⟩
theorem IRR_own {W : World} {B n c : Nat} {p : Option Addr} {L : List ZT} (h : W.ownsRow B 64 2 (.slice p n c) n (rts L)) (hn : L.length = n) : IRR W p L := fun X hX k z hz => by
  have hk := (List.getElem?_eq_some_iff.1 hz).1
  rcases own_shapeQ h with ⟨e, h0⟩ | ⟨g, c2, e, -⟩
  · omega
  · injection e with e1 _ _
    subst e1
    refine ⟨g, 0, rfl, ?_⟩
    rw [Nat.zero_add]
    exact rr_cells (own_belQ h hX) hz
theorem info_rtm : (Tryz.prog.info? 64).map (fun i => (i.zero, i.size, i.bytes)) = some (some (.agg #[.string ⟨#[]⟩, .slice none 0 0]), 2, 40) := by kernel_rfl
/-- a term of the document, as it is read -/
def YOK (w : World) (z : ZT) : Prop := IRSt w z.q z.L ∧ z.L.length ≤ 1000000 ∧ good z.c = true ∧ ∀ t ∈ z.L, good t = true
theorem YOK.later {w W : World} {z : ZT} (h : YOK w z) (hb : Below w.heap.size w W) : YOK W z := ⟨h.1.later hb, h.2⟩
theorem cv_any {w : World} {x y : ZT} (hx : YOK w x) (hy : YOK w y) : Calls Tryz.prog 70 #[.agg #[.string ⟨x.c.toArray⟩, .slice x.q x.L.length x.k], .agg #[.string ⟨y.c.toArray⟩, .slice y.q y.L.length y.k]] w fun e w' => e = .returned (.bool (cvB x y)) ∧ Below w.heap.size w w' :=
  dcovered_any x.c y.c x.L y.L x.L.length y.L.length x.k y.k x.q y.q w rfl rfl hx.2.1 hy.2.1 hx.2.2.1 hx.2.2.2 hy.2.2.2 hx.1 hy.1
theorem ah_any {w : World} {x y : ZT} (hx : YOK w x) (hy : YOK w y) : Calls Tryz.prog 71 #[.agg #[.string ⟨x.c.toArray⟩, .slice x.q x.L.length x.k], .agg #[.string ⟨y.c.toArray⟩, .slice y.q y.L.length y.k]] w fun e w' => e = .returned (.bool (decide (cmpLn (x.c :: x.L) (y.c :: y.L) < 0))) ∧ Below w.heap.size w w' :=
  dahead_any x.c y.c x.L y.L x.L.length y.L.length x.k y.k x.q y.q w rfl rfl hx.2.1 hy.2.1 hx.1 hy.1
theorem anyZ_no {T : List ZT} {p : ZT → Bool} {n : Nat} (hn : T.length ≤ n) (h : ∀ j t, j < n → T[j]? = some t → p t = false) : T.any p = false := by
  rw [List.any_eq_false]
  intro t ht
  obtain ⟨j, hj, he⟩ := List.getElem_of_mem ht
  rw [h j t (by omega) (by rw [List.getElem?_eq_getElem hj, he])]
  simp
theorem fltZ_step {K : List ZT} {x y : ZT} {j : Nat} (h : K[j]? = some y) : (K.take (j + 1)).filter (fun y => !cvB y x) = (K.take j).filter (fun y => !cvB y x) ++ (if cvB y x = true then [] else [y]) := by
  rw [List.take_add_one, h, List.filter_append]
  congr 1
  cases hc : cvB y x <;> simp [hc]
end Go.Proofs.YtmdnapognaddbaaGreatDoor
namespace Go.Proofs.YtmdnapognaddbaaGreatDoor
open Go.RowKit Go.Shelf
def ZT.ln (z : ZT) : List (List UInt8) := z.c :: z.L
/-- what stands while the least is taken again and again -/
def SEL (K0 K D : List ZT) : Prop := (D ++ K).Perm K0 ∧ (D.map ZT.ln).Pairwise (fun a b => leLn a b = true) ∧ ∀ d ∈ D, ∀ x ∈ K, leLn d.ln x.ln = true
theorem set_perm {z y : ZT} : ∀ (L : List ZT) (k : Nat), L[k]? = some z → (L.set k y ++ [z]).Perm (L ++ [y])
  | [], k, h => by cases h
  | a :: l, 0, h => by
    obtain rfl : a = z := by simpa using h
    rw [List.set_cons_zero, List.cons_append]
    exact ((List.perm_append_comm (l₁ := l) (l₂ := [a])).cons y).trans ((List.Perm.swap a y l).trans ((List.perm_append_comm (l₁ := [y]) (l₂ := l)).cons a))
  | a :: l, k + 1, h => by
    rw [List.set_cons_succ, List.cons_append, List.cons_append]
    exact (set_perm l k (by simpa using h)).cons a
theorem cut_perm {K : List ZT} {k m : Nat} {z y : ZT} (hm : K.length = m + 1) (hz : K[k]? = some z) (hy : K[m]? = some y) : ((K.set k y).take m ++ [z]).Perm K := by
  have hk := (List.getElem?_eq_some_iff.1 hz).1
  have e : K = K.take m ++ [y] := by
    have h1 := List.take_add_one (l := K) (i := m)
    rw [hy, List.take_of_length_le (by omega)] at h1
    exact h1
  by_cases h : k = m
  · subst h
    obtain rfl : y = z := by rw [hz] at hy; exact (Option.some.inj hy).symm
    rw [List.take_set_of_le (by omega), ← e]
  · have h2 : (K.set k y).take m = (K.take m).set k y := by rw [List.take_set]
    rw [h2]
    refine (set_perm (K.take m) k ?_).trans (by rw [← e])
    rw [List.getElem?_take_of_lt (by omega)]
    exact hz
theorem SEL.step {K0 K D : List ZT} {k m : Nat} {z y : ZT} (h : SEL K0 K D) (hm : K.length = m + 1) (hz : K[k]? = some z) (hy : K[m]? = some y) (hmin : ∀ x ∈ K, leLn z.ln x.ln = true) : SEL K0 ((K.set k y).take m) (D ++ [z]) := by
  have hp := cut_perm hm hz hy
  have hmem : ∀ x ∈ (K.set k y).take m, x ∈ K := fun x hx => hp.mem_iff.1 (List.mem_append_left _ hx)
  refine ⟨?_, ?_, ?_⟩
  · refine List.Perm.trans ?_ h.1
    rw [List.append_assoc]
    exact ((List.perm_append_comm).trans hp).append_left D
  · rw [List.map_append, List.pairwise_append]
    refine ⟨h.2.1, by simp, fun a ha b hb => ?_⟩
    obtain ⟨d, hd, rfl⟩ := List.mem_map.1 ha
    obtain ⟨e, he, rfl⟩ := List.mem_map.1 hb
    obtain rfl := List.mem_singleton.1 he
    exact h.2.2 d hd _ (List.mem_of_getElem? hz)
  · intro d hd x hx
    rcases List.mem_append.1 hd with hd | hd
    · exact h.2.2 d hd x (hmem x hx)
    · obtain rfl := List.mem_singleton.1 hd
      exact hmin x (hmem x hx)
theorem SEL_start (K : List ZT) : SEL K K [] := ⟨List.Perm.refl _, List.Pairwise.nil, fun d h => by cases h⟩
theorem SEL.done {K0 D : List ZT} (h : SEL K0 [] D) : D.map ZT.cont = (srtLn ((K0.map ZT.cont).map (fun t => t.1 :: t.2))).map (fun S => (S.headD [], S.tail)) := by
  have hp : D.Perm K0 := by have := h.1; rwa [List.append_nil] at this
  have e : D.map ZT.ln = srtLn (K0.map ZT.ln) := srtLn_eq (hp.map _) h.2.1
  have e2 : (K0.map ZT.cont).map (fun t => t.1 :: t.2) = K0.map ZT.ln := by rw [List.map_map]; rfl
  rw [e2, ← e, List.map_map]
  rfl
theorem le_refl_ln (a : List (List UInt8)) : leLn a a = true := by unfold leLn; rw [cmpLn_self]; rfl
theorem le_of_lt_ln {a b : List (List UInt8)} (h : cmpLn a b < 0) : leLn a b = true := by unfold leLn; simp; omega
theorem le_of_not_ln {a b : List (List UInt8)} (h : ¬ cmpLn a b < 0) : leLn b a = true := by
  unfold leLn
  simp
  rcases cmpLn_three a b with ⟨h1, -⟩ | ⟨-, h2⟩ | ⟨-, h2⟩ <;> omega
theorem rts_set (K : List ZT) (k : Nat) (t : ZT) (hk : k < K.length) : ((rts K).set (k * 2) (.string ⟨t.c.toArray⟩)).set (k * 2 + 1) (.slice t.q t.L.length t.k) = rts (K.set k t) := by
  induction K generalizing k with
  | nil => exact absurd hk (by simp)
  | cons a l ih =>
    cases k with
    | zero => rfl
    | succ k =>
      have h1 := ih k (by simpa using hk)
      rw [List.set_cons_succ]
      show ((_ :: _ :: rts l).set ((k + 1) * 2) _).set ((k + 1) * 2 + 1) _ = _ :: _ :: rts (l.set k t)
      rw [← h1, show (k + 1) * 2 = k * 2 + 1 + 1 from by omega, show k * 2 + 1 + 1 + 1 = (k * 2 + 1) + 1 + 1 from rfl, List.set_cons_succ, List.set_cons_succ, List.set_cons_succ, List.set_cons_succ]
theorem put2_own {W : World} {B g n c k : Nat} {K : List ZT} (t : ZT) (h : W.ownsRow B 64 2 (.slice (some ⟨g, 0, none⟩) n c) n (rts K)) (hk : k < K.length) :
    ((W.setCell ⟨g, k * 2, none⟩ (.string ⟨t.c.toArray⟩)).setCell ⟨g, k * 2 + 1, none⟩ (.slice t.q t.L.length t.k)).ownsRow B 64 2 (.slice (some ⟨g, 0, none⟩) n c) n (rts (K.set k t)) ∧ W.grownBy ((W.setCell ⟨g, k * 2, none⟩ (.string ⟨t.c.toArray⟩)).setCell ⟨g, k * 2 + 1, none⟩ (.slice t.q t.L.length t.k)) (some g) := by
  have s0 := h.stored (k * 2) (.string ⟨t.c.toArray⟩)
  have s1 := s0.1.stored (k * 2 + 1) (.slice t.q t.L.length t.k)
  rw [← rts_set K k t hk]
  exact ⟨s1.1, ⟨s1.2.os.trans s0.2.os, s1.2.tape.trans s0.2.tape, s1.2.output.trans s0.2.output, Nat.le_trans s0.2.size s1.2.size, fun j hj hr => (s1.2.block j (Nat.lt_of_lt_of_le hj s0.2.size) hr).trans (s0.2.block j hj hr)⟩⟩
theorem rts_take (L : List ZT) (i : Nat) : (rts L).take (i * 2) = rts (L.take i) := by
  induction L generalizing i with
  | nil => simp [rts]
  | cons a l ih =>
    cases i with
    | zero => simp [rts]
    | succ i =>
      show (_ :: _ :: rts l).take ((i + 1) * 2) = _ :: _ :: rts (l.take i)
      rw [show (i + 1) * 2 = i * 2 + 1 + 1 from by omega, List.take_succ_cons, List.take_succ_cons, ih]
end Go.Proofs.YtmdnapognaddbaaGreatDoor

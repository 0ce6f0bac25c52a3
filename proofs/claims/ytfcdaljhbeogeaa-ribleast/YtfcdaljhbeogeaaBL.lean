import Derived.Test.YtfcdaljhbeogeaaBC
namespace Go.Proofs.Ytfcdaljhbeogeaa
open Go.RowKit
/-- a route's prefix: its length and value -/
def rpre (r : IRt) : Int × Int := (r.2.2.1, r.2.1)
/-- the prefix stands ahead -/
def plt (p q : Int × Int) : Prop := q.1 < p.1 ∨ (p.1 = q.1 ∧ p.2 < q.2)
theorem plt_irrefl {p : Int × Int} (h : plt p p) : False := by unfold plt at h; omega
theorem plt_trans {p q r : Int × Int} (h1 : plt p q) (h2 : plt q r) : plt p r := by unfold plt at *; omega
theorem plt_asymm {p q : Int × Int} (h1 : plt p q) (h2 : plt q p) : False := by unfold plt at *; omega
theorem plt_total {p q : Int × Int} (h : p ≠ q) : plt p q ∨ plt q p := by
  obtain ⟨a, b⟩ := p
  obtain ⟨c, d⟩ := q
  unfold plt
  simp only
  by_cases h1 : a = c
  · by_cases h2 : b = d
    · subst h1 h2; exact absurd rfl h
    · omega
  · omega
theorem rahead_iff (r s : IRt) : rahead r s = true ↔ plt (rpre r) (rpre s) ∨ (rpre r = rpre s ∧ r.1 < s.1) := by
  obtain ⟨a, b, c, d⟩ := r
  obtain ⟨a', b', c', d'⟩ := s
  unfold rahead rpre plt
  simp only [Prod.mk.injEq]
  split
  · rw [decide_eq_true_eq]; omega
  · split
    · rw [decide_eq_true_eq]; omega
    · rw [decide_eq_true_eq]; omega
/-- the route that stands for a prefix: of the lowest kind, the first of these -/
def bst (p : Int × Int) : List IRt → Option IRt
  | [] => none
  | r :: L => match bst p L with
    | none => if rpre r = p then some r else none
    | some s => if rpre r = p ∧ ¬ s.1 < r.1 then some r else some s
theorem bst_some {p : Int × Int} {s : IRt} : ∀ {L : List IRt}, bst p L = some s → s ∈ L ∧ rpre s = p
  | [], h => by cases h
  | r :: L, h => by
    unfold bst at h
    cases hb : bst p L with
    | none =>
      rw [hb] at h
      simp only at h
      split at h
      · rename_i e
        cases h
        exact ⟨List.mem_cons_self, e⟩
      · cases h
    | some t =>
      rw [hb] at h
      simp only at h
      split at h
      · rename_i e
        cases h
        exact ⟨List.mem_cons_self, e.1⟩
      · cases h
        have := bst_some hb
        exact ⟨List.mem_cons_of_mem _ this.1, this.2⟩
theorem bst_skip {p : Int × Int} {r : IRt} {L : List IRt} (h : rpre r ≠ p) : bst p (r :: L) = bst p L := by
  rw [bst]
  cases hb : bst p L with
  | none => exact if_neg h
  | some s => exact if_neg (fun e => h e.1)
theorem bst_of {p : Int × Int} {r : IRt} (hp : rpre r = p) : ∀ {L : List IRt} {k : Nat}, L[k]? = some r → (∀ j x, L[j]? = some x → rpre x = p → (j < k → r.1 < x.1) ∧ ¬ x.1 < r.1) → bst p L = some r
  | [], k, h, _ => by simp at h
  | x :: L, 0, h, hm => by
    obtain rfl : x = r := by simpa using h
    rw [bst]
    cases hb : bst p L with
    | none => exact if_pos hp
    | some s =>
      obtain ⟨h1, h2⟩ := bst_some hb
      obtain ⟨j, hj⟩ := List.getElem?_of_mem h1
      exact if_pos ⟨hp, (hm (j + 1) s (by simpa using hj) h2).2⟩
  | x :: L, k + 1, h, hm => by
    have ih := bst_of hp (L := L) (k := k) (by simpa using h) (fun j y hy e => by
      have := hm (j + 1) y (by simpa using hy) e
      exact ⟨fun hl => this.1 (by omega), this.2⟩)
    by_cases hx : rpre x = p
    · rw [bst, ih]
      exact if_neg (fun e => e.2 ((hm 0 x rfl hx).1 (by omega)))
    · rw [bst_skip hx, ih]
theorem bst_filter {p : Int × Int} {q : IRt → Bool} (hq : ∀ r, rpre r = p → q r = true) : ∀ (L : List IRt), bst p (L.filter q) = bst p L
  | [] => rfl
  | x :: L => by
    by_cases hx : q x = true
    · rw [List.filter_cons_of_pos hx, bst, bst, bst_filter hq L]
    · rw [List.filter_cons_of_neg hx, bst_filter hq L, bst_skip (fun e => hx (hq x e))]
/-- the list O is L in its order, one route a prefix -/
structure OrdOf (L O : List IRt) : Prop where
  srt : O.Pairwise (fun a b => plt (rpre a) (rpre b))
  own : ∀ o ∈ O, bst (rpre o) L = some o
  all : ∀ r ∈ L, ∃ o ∈ O, rpre o = rpre r
theorem uniq_aux (f : Int × Int → Option IRt) : ∀ (A B : List IRt), A.Pairwise (fun a b => plt (rpre a) (rpre b)) → B.Pairwise (fun a b => plt (rpre a) (rpre b)) → (∀ a ∈ A, f (rpre a) = some a) → (∀ b ∈ B, f (rpre b) = some b) → (∀ a ∈ A, ∃ b ∈ B, rpre b = rpre a) → (∀ b ∈ B, ∃ a ∈ A, rpre a = rpre b) → A = B
  | [], [], _, _, _, _, _, _ => rfl
  | [], b :: B, _, _, _, _, _, h => by obtain ⟨a, ha, _⟩ := h b List.mem_cons_self; cases ha
  | a :: A, [], _, _, _, _, h, _ => by obtain ⟨b, hb, _⟩ := h a List.mem_cons_self; cases hb
  | a :: A, b :: B, s1, s2, f1, f2, h1, h2 => by
    obtain ⟨p1, q1⟩ := List.pairwise_cons.1 s1
    obtain ⟨p2, q2⟩ := List.pairwise_cons.1 s2
    have e : rpre a = rpre b := by
      obtain ⟨b', hb, eb⟩ := h1 a List.mem_cons_self
      obtain ⟨a', ha, ea⟩ := h2 b List.mem_cons_self
      rcases List.mem_cons.1 hb with rfl | hb
      · exact eb.symm
      · rcases List.mem_cons.1 ha with rfl | ha
        · exact ea
        · exact (plt_asymm (eb ▸ p2 b' hb) (ea ▸ p1 a' ha)).elim
    have eab : a = b := by
      have x := f1 a List.mem_cons_self
      rw [e, f2 b List.mem_cons_self] at x
      exact (Option.some.inj x).symm
    subst eab
    rw [uniq_aux f A B q1 q2 (fun x hx => f1 x (List.mem_cons_of_mem _ hx)) (fun x hx => f2 x (List.mem_cons_of_mem _ hx)) (fun x hx => ?_) (fun x hx => ?_)]
    · obtain ⟨y, hy, ey⟩ := h1 x (List.mem_cons_of_mem _ hx)
      rcases List.mem_cons.1 hy with rfl | hy
      · exact (plt_irrefl (ey ▸ p1 x hx)).elim
      · exact ⟨y, hy, ey⟩
    · obtain ⟨y, hy, ey⟩ := h2 x (List.mem_cons_of_mem _ hx)
      rcases List.mem_cons.1 hy with rfl | hy
      · exact (plt_irrefl (ey ▸ p2 x hx)).elim
      · exact ⟨y, hy, ey⟩
theorem OrdOf.mem {L O : List IRt} (h : OrdOf L O) {o : IRt} (ho : o ∈ O) : o ∈ L := (bst_some (h.own o ho)).1
theorem ord_uniq {L A B : List IRt} (h1 : OrdOf L A) (h2 : OrdOf L B) : A = B :=
  uniq_aux (fun p => bst p L) A B h1.srt h2.srt h1.own h2.own (fun a ha => h2.all a (h1.mem ha)) (fun b hb => h1.all b (h2.mem hb))
/-- a strict order that may hold some alike -/
structure SWO (lt : Nat → Nat → Bool) : Prop where
  asymm : ∀ a b, lt a b = true → lt b a = false
  ntr : ∀ a b c, lt a b = false → lt b c = false → lt a c = false
theorem SWO.irrefl {lt : Nat → Nat → Bool} (h : SWO lt) (a : Nat) : lt a a = false := by
  cases e : lt a a with
  | false => rfl
  | true => rw [h.asymm a a e] at e; cases e
/-- two things change their places -/
def sw (V : List Nat) (a b : Nat) : List Nat := (V.set a (V.getD b 0)).set b (V.getD a 0)
theorem sw_len (V : List Nat) (a b : Nat) : (sw V a b).length = V.length := by simp [sw]
theorem sw_get {V : List Nat} {a b x y : Nat} (ha : V[a]? = some x) (hb : V[b]? = some y) (i : Nat) : (sw V a b)[i]? = if i = b then some x else if i = a then some y else V[i]? := by
  have la := (List.getElem?_eq_some_iff.1 ha).1
  have lb := (List.getElem?_eq_some_iff.1 hb).1
  unfold sw
  rw [List.getElem?_set, List.getElem?_set]
  simp only [List.getD, ha, hb, Option.getD_some, List.length_set]
  by_cases e1 : i = b
  · subst e1; simp [lb]
  · rw [if_neg (fun e => e1 e.symm), if_neg e1]
    by_cases e2 : i = a
    · subst e2; simp [la]
    · rw [if_neg (fun e => e2 e.symm), if_neg e2]
theorem sw_perm {V : List Nat} {a b x y : Nat} (ha : V[a]? = some x) (hb : V[b]? = some y) : (sw V a b).Perm V := by
  obtain ⟨la, ea⟩ := List.getElem?_eq_some_iff.1 ha
  obtain ⟨lb, eb⟩ := List.getElem?_eq_some_iff.1 hb
  have e0 : sw V a b = (V.set a y).set b x := by
    unfold sw
    simp only [List.getD, ha, hb, Option.getD_some]
  rw [e0]
  by_cases hab : a = b
  · subst hab
    have : x = y := by rw [← ea, ← eb]
    subst this
    rw [List.set_set, ← ea, List.set_getElem_self]
  · rw [List.perm_iff_count]
    intro z
    have hb' : b < (V.set a y).length := by simpa using lb
    have eg : (V.set a y)[b]'hb' = y := by rw [List.getElem_set_ne hab]; exact eb
    rw [List.count_set hb', List.count_set la, eg, ea]
    by_cases h1 : x == z
    · have : 0 < V.count z := List.count_pos_iff.2 (by rw [← eq_of_beq h1, ← ea]; exact List.getElem_mem la)
      by_cases h2 : y == z
      · simp [h1, h2]; omega
      · simp [h1, h2]; omega
    · by_cases h2 : y == z
      · simp [h1, h2]
      · simp [h1, h2]
/-- none is ahead of what stands above it -/
def hp (lt : Nat → Nat → Bool) (V : List Nat) : Prop := ∀ i x y, 0 < i → V[i]? = some x → V[(i - 1) / 2]? = some y → lt x y = false
/-- so, but for the one at a place that may rise -/
def HR (lt : Nat → Nat → Bool) (V : List Nat) (at_ : Nat) : Prop := (∀ i x y, 0 < i → i ≠ at_ → V[i]? = some x → V[(i - 1) / 2]? = some y → lt x y = false) ∧ ∀ i x y, 0 < i → (i - 1) / 2 = at_ → 0 < at_ → V[i]? = some x → V[(at_ - 1) / 2]? = some y → lt x y = false
/-- so, but for the one at a place that may sink -/
def HD (lt : Nat → Nat → Bool) (V : List Nat) (at_ : Nat) : Prop := (∀ i x y, 0 < i → (i - 1) / 2 ≠ at_ → V[i]? = some x → V[(i - 1) / 2]? = some y → lt x y = false) ∧ ∀ i x y, 0 < i → (i - 1) / 2 = at_ → 0 < at_ → V[i]? = some x → V[(at_ - 1) / 2]? = some y → lt x y = false
theorem HR_done0 {lt : Nat → Nat → Bool} {V : List Nat} (h : HR lt V 0) : hp lt V := fun i x y h0 hx hy => h.1 i x y h0 (by omega) hx hy
theorem HR_done {lt : Nat → Nat → Bool} {V : List Nat} {k x y : Nat} (h : HR lt V k) (hx : V[k]? = some x) (hy : V[(k - 1) / 2]? = some y) (hn : lt x y = false) : hp lt V := fun i x' y' h0 hx' hy' => by
  by_cases e : i = k
  · subst e
    rw [hx] at hx'
    rw [hy] at hy'
    cases hx'
    cases hy'
    exact hn
  · exact h.1 i x' y' h0 e hx' hy'
theorem HR_step {lt : Nat → Nat → Bool} (S : SWO lt) {V : List Nat} {k x y : Nat} (h : HR lt V k) (hk : 0 < k) (hx : V[k]? = some x) (hy : V[(k - 1) / 2]? = some y) (hn : lt x y = true) : HR lt (sw V k ((k - 1) / 2)) ((k - 1) / 2) := by
  have g := sw_get hx hy
  have hyx := S.asymm _ _ hn
  obtain ⟨m, hm⟩ : ∃ m, (k - 1) / 2 = m := ⟨_, rfl⟩
  rw [hm] at g hy ⊢
  have hmk : m < k := by omega
  refine ⟨fun i a b h0 hi ha hb => ?_, fun i a b h0 hi hm0 ha hb => ?_⟩
  · rw [g] at ha hb
    rw [if_neg hi] at ha
    by_cases e1 : i = k
    · subst e1
      rw [if_pos rfl] at ha
      rw [if_pos hm] at hb
      cases ha
      cases hb
      exact hyx
    · rw [if_neg e1] at ha
      by_cases e2 : (i - 1) / 2 = m
      · rw [if_pos e2] at hb
        cases hb
        exact S.ntr _ y _ (h.1 i a y h0 e1 ha (by rw [e2]; exact hy)) hyx
      · rw [if_neg e2] at hb
        by_cases e3 : (i - 1) / 2 = k
        · rw [if_pos e3] at hb
          cases hb
          exact h.2 i a y h0 e3 hk ha (by rw [hm]; exact hy)
        · rw [if_neg e3] at hb
          exact h.1 i a b h0 e1 ha hb
  · rw [g] at ha hb
    rw [if_neg (by omega), if_neg (by omega)] at hb
    have hyb : lt y b = false := h.1 m y b hm0 (by omega) hy hb
    rw [if_neg (by omega)] at ha
    by_cases e1 : i = k
    · rw [if_pos e1] at ha
      cases ha
      exact hyb
    · rw [if_neg e1] at ha
      exact S.ntr _ y _ (h.1 i a y h0 e1 ha (by rw [hi]; exact hy)) hyb
theorem HR_put {lt : Nat → Nat → Bool} {V : List Nat} (h : hp lt V) (x : Nat) : HR lt (V ++ [x]) V.length := by
  refine ⟨fun i a b h0 hi ha hb => ?_, fun i a b h0 hi hn ha hb => ?_⟩
  · have hl := (List.getElem?_eq_some_iff.1 ha).1
    rw [List.length_append] at hl
    simp only [List.length_cons, List.length_nil] at hl
    rw [List.getElem?_append_left (by omega)] at ha hb
    exact h i a b h0 ha hb
  · have hl := (List.getElem?_eq_some_iff.1 ha).1
    rw [List.length_append] at hl
    simp only [List.length_cons, List.length_nil] at hl
    omega
theorem hp_root {lt : Nat → Nat → Bool} (S : SWO lt) {V : List Nat} (h : hp lt V) {y : Nat} (hy : V[0]? = some y) : ∀ (n i x : Nat), i ≤ n → V[i]? = some x → lt x y = false
  | n, 0, x, _, hx => by rw [hy] at hx; cases hx; exact S.irrefl _
  | 0, i + 1, x, hn, _ => by omega
  | n + 1, i + 1, x, hn, hx => by
    have hl := (List.getElem?_eq_some_iff.1 hx).1
    obtain ⟨z, hz⟩ : ∃ z, V[(i + 1 - 1) / 2]? = some z := ⟨_, List.getElem?_eq_getElem (by omega)⟩
    exact S.ntr _ z _ (h (i + 1) x z (by omega) hx hz) (hp_root S h hy n _ z (by omega) hz)
theorem hp_min {lt : Nat → Nat → Bool} (S : SWO lt) {V : List Nat} (h : hp lt V) {y : Nat} (hy : V[0]? = some y) : ∀ x ∈ V, lt x y = false := fun x hx => by
  obtain ⟨i, hi⟩ := List.getElem?_of_mem hx
  exact hp_root S h hy i i x (Nat.le_refl _) hi
/-- the last one at the head, the head gone -/
def tk (V : List Nat) : List Nat := (sw V 0 (V.length - 1)).take (V.length - 1)
theorem tk_len (V : List Nat) : (tk V).length = V.length - 1 := by unfold tk; rw [List.length_take, sw_len]; omega
theorem tk_get {V : List Nat} {i : Nat} (h0 : 0 < i) (h : i < V.length - 1) : (tk V)[i]? = V[i]? := by
  unfold tk
  rw [List.getElem?_take_of_lt h]
  obtain ⟨x, hx⟩ : ∃ x, V[0]? = some x := ⟨_, List.getElem?_eq_getElem (by omega)⟩
  obtain ⟨y, hy⟩ : ∃ y, V[V.length - 1]? = some y := ⟨_, List.getElem?_eq_getElem (by omega)⟩
  rw [sw_get hx hy, if_neg (by omega), if_neg (by omega)]
theorem HD_tk {lt : Nat → Nat → Bool} {V : List Nat} (h : hp lt V) : HD lt (tk V) 0 := by
  refine ⟨fun i a b h0 hi ha hb => ?_, fun i a b h0 hi hn ha hb => by omega⟩
  have hl := (List.getElem?_eq_some_iff.1 ha).1
  rw [tk_len] at hl
  rw [tk_get (by omega) (by omega)] at ha hb
  exact h i a b h0 ha hb
theorem tk_perm {V : List Nat} {x : Nat} (hx : V[0]? = some x) : V.Perm (x :: tk V) := by
  have hl := (List.getElem?_eq_some_iff.1 hx).1
  obtain ⟨y, hy⟩ : ∃ y, V[V.length - 1]? = some y := ⟨_, List.getElem?_eq_getElem (by omega)⟩
  have hp := sw_perm hx hy
  have e : sw V 0 (V.length - 1) = tk V ++ [x] := by
    have hls := sw_len V 0 (V.length - 1)
    have hg := sw_get hx hy (V.length - 1)
    rw [if_pos rfl] at hg
    obtain ⟨l2, e2⟩ := List.getElem?_eq_some_iff.1 hg
    unfold tk
    have := List.take_append_drop (V.length - 1) (sw V 0 (V.length - 1))
    rw [List.drop_eq_getElem_cons l2, List.drop_eq_nil_of_le (by omega), e2] at this
    exact this.symm
  rw [e] at hp
  exact hp.symm.trans (List.perm_append_comm.trans (List.Perm.refl _))
/-- of a place and its two below none is ahead of the one at nx -/
structure Nxt (lt : Nat → Nat → Bool) (V : List Nat) (k nx : Nat) : Prop where
  own : nx = k ∨ ((nx - 1) / 2 = k ∧ 0 < nx)
  le : ∀ i x y, i = k ∨ (0 < i ∧ (i - 1) / 2 = k) → V[i]? = some x → V[nx]? = some y → lt x y = false
theorem HD_done {lt : Nat → Nat → Bool} {V : List Nat} {k : Nat} (h : HD lt V k) (hn : Nxt lt V k k) : hp lt V := fun i x y h0 hx hy => by
  by_cases e : (i - 1) / 2 = k
  · exact hn.le i x y (.inr ⟨h0, e⟩) hx (e ▸ hy)
  · exact h.1 i x y h0 e hx hy
theorem HD_step {lt : Nat → Nat → Bool} {V : List Nat} {k nx a c : Nat} (h : HD lt V k) (hn : Nxt lt V k nx) (hne : nx ≠ k) (ha : V[k]? = some a) (hc : V[nx]? = some c) : HD lt (sw V k nx) nx := by
  have g := sw_get ha hc
  obtain ⟨hpar, hpos⟩ : (nx - 1) / 2 = k ∧ 0 < nx := by rcases hn.own with e | e; exact absurd e hne; exact e
  refine ⟨fun i x y h0 hi hx hy => ?_, fun i x y h0 hi hn0 hx hy => ?_⟩
  · rw [g] at hx hy
    rw [if_neg hi] at hy
    by_cases e1 : i = nx
    · rw [if_pos e1] at hx
      cases hx
      rw [e1, if_pos hpar] at hy
      cases hy
      exact hn.le k a c (.inl rfl) ha hc
    · rw [if_neg e1] at hx
      by_cases e2 : i = k
      · rw [if_pos e2] at hx
        cases hx
        rw [if_neg (by omega)] at hy
        subst e2
        exact h.2 nx c y hpos hpar h0 hc hy
      · rw [if_neg e2] at hx
        by_cases e3 : (i - 1) / 2 = k
        · rw [if_pos e3] at hy
          cases hy
          exact hn.le i x c (.inr ⟨h0, e3⟩) hx hc
        · rw [if_neg e3] at hy
          exact h.1 i x y h0 e3 hx hy
  · rw [g] at hx hy
    rw [hpar, if_neg (by omega), if_pos rfl] at hy
    cases hy
    rw [if_neg (by omega), if_neg (by omega)] at hx
    exact h.1 i x c h0 (by omega) hx (by rw [hi]; exact hc)
/-- the order of places -/
def plA (L : List IRt) (a b : Nat) : Bool := decide (or4 (cmp3 (L.getD b (0, 0, 0, 0)).2.2.1 (L.getD a (0, 0, 0, 0)).2.2.1) (cmp3 (L.getD a (0, 0, 0, 0)).2.1 (L.getD b (0, 0, 0, 0)).2.1) (cmp3 (L.getD a (0, 0, 0, 0)).1 (L.getD b (0, 0, 0, 0)).1) (cmp3 (a : Int) (b : Int)) < 0)
theorem plA_iff (L : List IRt) (a b : Nat) : plA L a b = true ↔ plt (rpre (L.getD a (0, 0, 0, 0))) (rpre (L.getD b (0, 0, 0, 0))) ∨ (rpre (L.getD a (0, 0, 0, 0)) = rpre (L.getD b (0, 0, 0, 0)) ∧ ((L.getD a (0, 0, 0, 0)).1 < (L.getD b (0, 0, 0, 0)).1 ∨ ((L.getD a (0, 0, 0, 0)).1 = (L.getD b (0, 0, 0, 0)).1 ∧ a < b))) := by
  unfold plA rpre plt or4 cmp3
  generalize L.getD a (0, 0, 0, 0) = r
  generalize L.getD b (0, 0, 0, 0) = s
  obtain ⟨x0, x1, x2, x3⟩ := r
  obtain ⟨y0, y1, y2, y3⟩ := s
  simp only [Prod.mk.injEq]
  rw [decide_eq_true_eq]
  repeat' split
  all_goals omega
theorem plA_swo (L : List IRt) : SWO (plA L) := by
  constructor
  · intro a b h
    rw [← Bool.not_eq_true, plA_iff]
    rw [plA_iff] at h
    unfold plt rpre at *
    simp only [Prod.mk.injEq] at *
    omega
  · intro a b c h1 h2
    rw [← Bool.not_eq_true, plA_iff] at *
    unfold plt rpre at *
    simp only [Prod.mk.injEq] at *
    omega
theorem plA_tot {L : List IRt} {a b : Nat} (h : a ≠ b) (h1 : plA L b a = false) : plA L a b = true := by
  rw [← Bool.not_eq_true] at h1
  rw [plA_iff] at *
  unfold plt rpre at *
  simp only [Prod.mk.injEq] at *
  omega
/-- how far the list is laid: taken, held, laid -/
structure LInv (L : List IRt) (T V : List Nat) (O : List IRt) : Prop where
  per : (T ++ V).Perm (List.range L.length)
  sep : ∀ t ∈ T, ∀ v ∈ V, plA L t v = true
  srt : O.Pairwise (fun a b => plt (rpre a) (rpre b))
  own : ∀ o ∈ O, bst (rpre o) L = some o
  all : ∀ t ∈ T, ∃ o ∈ O, rpre o = rpre (L.getD t (0, 0, 0, 0))
  top : ∀ o, O.getLast? = some o → (∃ t ∈ T, rpre o = rpre (L.getD t (0, 0, 0, 0))) ∧ ∀ t ∈ T, rpre (L.getD t (0, 0, 0, 0)) = rpre o ∨ plt (rpre (L.getD t (0, 0, 0, 0))) (rpre o)
theorem LInv.start {L : List IRt} {V : List Nat} (h : V.Perm (List.range L.length)) : LInv L [] V [] :=
  ⟨h, fun t ht => (by cases ht), List.Pairwise.nil, fun o ho => (by cases ho), fun t ht => (by cases ht), fun o ho => (by cases ho)⟩
theorem LInv.lt {L : List IRt} {T V : List Nat} {O : List IRt} (h : LInv L T V O) {p : Nat} (hp : p ∈ V) : p < L.length :=
  List.mem_range.1 (h.per.subset (List.mem_append_right _ hp))
theorem pl_pre {L : List IRt} {a b : Nat} (h : plA L a b = true) : rpre (L.getD a (0, 0, 0, 0)) = rpre (L.getD b (0, 0, 0, 0)) ∨ plt (rpre (L.getD a (0, 0, 0, 0))) (rpre (L.getD b (0, 0, 0, 0))) := by
  rw [plA_iff] at h
  rcases h with h | h
  · exact .inr h
  · exact .inl h.1
theorem LInv.take {L : List IRt} {T V V' : List Nat} {O : List IRt} {p : Nat} (h : LInv L T V O) (hv : V.Perm (p :: V')) (hm : ∀ v ∈ V, plA L v p = false) :
    ((T ++ [p]) ++ V').Perm (List.range L.length) ∧ (∀ t ∈ T ++ [p], ∀ v ∈ V', plA L t v = true) ∧ (∀ t ∈ T, plA L t p = true) ∧ ∀ t, t < L.length → t ∈ T ∨ t = p ∨ plA L p t = true := by
  have hper : ((T ++ [p]) ++ V').Perm (List.range L.length) := by
    rw [List.append_assoc]
    exact ((List.Perm.append_left T hv.symm)).trans h.per
  have hnd : ((T ++ [p]) ++ V').Nodup := hper.nodup_iff.2 List.nodup_range
  have hpv : ∀ v ∈ V', p ≠ v := fun v hv' e => by
    rw [List.append_assoc] at hnd
    have := (List.nodup_append.1 hnd).2.1
    rw [List.singleton_append, List.nodup_cons] at this
    exact this.1 (e ▸ hv')
  have hpl : ∀ v ∈ V', plA L p v = true := fun v hv' => plA_tot (hpv v hv') (hm v (hv.symm.subset (List.mem_cons_of_mem _ hv')))
  have hpV : p ∈ V := hv.symm.subset List.mem_cons_self
  refine ⟨hper, fun t ht v hv' => ?_, fun t ht => h.sep t ht p hpV, fun t ht => ?_⟩
  · rcases List.mem_append.1 ht with ht | ht
    · exact h.sep t ht v (hv.symm.subset (List.mem_cons_of_mem _ hv'))
    · rw [List.mem_singleton.1 ht]
      exact hpl v hv'
  · have := hper.symm.subset (List.mem_range.2 ht)
    rcases List.mem_append.1 this with h1 | h1
    · rcases List.mem_append.1 h1 with h2 | h2
      · exact .inl h2
      · exact .inr (.inl (List.mem_singleton.1 h2))
    · exact .inr (.inr (hpl t h1))
theorem LInv.same {L : List IRt} {T V V' : List Nat} {O : List IRt} {p : Nat} {o : IRt} (h : LInv L T V O) (hv : V.Perm (p :: V')) (hm : ∀ v ∈ V, plA L v p = false) (ho : O.getLast? = some o) (he : rpre o = rpre (L.getD p (0, 0, 0, 0))) : LInv L (T ++ [p]) V' O := by
  obtain ⟨a1, a2, a3, a4⟩ := h.take hv hm
  have hoO : o ∈ O := List.mem_of_getLast? ho
  refine ⟨a1, a2, h.srt, h.own, fun t ht => ?_, fun o' ho' => ?_⟩
  · rcases List.mem_append.1 ht with ht | ht
    · exact h.all t ht
    · rw [List.mem_singleton.1 ht]
      exact ⟨o, hoO, he⟩
  · rw [ho] at ho'
    cases ho'
    refine ⟨⟨p, List.mem_append_right _ (List.mem_singleton.2 rfl), he⟩, fun t ht => ?_⟩
    rcases List.mem_append.1 ht with ht | ht
    · exact (h.top o ho).2 t ht
    · rw [List.mem_singleton.1 ht]
      exact .inl he.symm
theorem last_srt {O : List IRt} (h : O.Pairwise (fun a b => plt (rpre a) (rpre b))) {l : IRt} (hl : O.getLast? = some l) {o : IRt} (ho : o ∈ O) : o = l ∨ plt (rpre o) (rpre l) := by
  obtain ⟨ys, rfl⟩ := List.getLast?_eq_some_iff.1 hl
  rcases List.mem_append.1 ho with h1 | h1
  · exact .inr ((List.pairwise_append.1 h).2.2 o h1 l (List.mem_singleton.2 rfl))
  · exact .inl (List.mem_singleton.1 h1)
theorem LInv.new {L : List IRt} {T V V' : List Nat} {O : List IRt} {p : Nat} (h : LInv L T V O) (hv : V.Perm (p :: V')) (hm : ∀ v ∈ V, plA L v p = false) (hn : ∀ o, O.getLast? = some o → rpre o ≠ rpre (L.getD p (0, 0, 0, 0))) : LInv L (T ++ [p]) V' (O ++ [L.getD p (0, 0, 0, 0)]) := by
  obtain ⟨a1, a2, a3, a4⟩ := h.take hv hm
  have hpl : p < L.length := h.lt (hv.symm.subset List.mem_cons_self)
  have hgp : L[p]? = some (L.getD p (0, 0, 0, 0)) := by simp [List.getD, List.getElem?_eq_getElem hpl]
  obtain ⟨r, hr⟩ : ∃ r, L.getD p (0, 0, 0, 0) = r := ⟨_, rfl⟩
  rw [hr] at hn hgp ⊢
  have hbef : ∀ o ∈ O, plt (rpre o) (rpre r) := fun o ho => by
    cases hl : O.getLast? with
    | none => rw [List.getLast?_eq_none_iff.1 hl] at ho; cases ho
    | some l =>
      have hlr : plt (rpre l) (rpre r) := by
        obtain ⟨t, ht, et⟩ := (h.top l hl).1
        rcases pl_pre (a3 t ht) with e | e
        · rw [hr] at e
          exact absurd (et.trans e) (hn l hl)
        · rw [hr] at e
          rw [et]
          exact e
      rcases last_srt h.srt hl ho with rfl | e
      · exact hlr
      · exact plt_trans e hlr
  have hT : ∀ t ∈ T, rpre (L.getD t (0, 0, 0, 0)) ≠ rpre r := fun t ht e => by
    obtain ⟨o, ho, eo⟩ := h.all t ht
    exact plt_irrefl ((eo.trans e) ▸ hbef o ho)
  have hown : bst (rpre r) L = some r := by
    refine bst_of rfl hgp (fun j x hx ex => ?_)
    have hjl := (List.getElem?_eq_some_iff.1 hx).1
    have hgx : L.getD j (0, 0, 0, 0) = x := by simp [List.getD, hx]
    rcases a4 j hjl with h1 | rfl | h1
    · exact absurd (hgx ▸ ex) (hT j h1)
    · have : x = r := by rw [hgp] at hx; exact (Option.some.inj hx).symm
      subst this
      exact ⟨fun hl => absurd hl (Nat.lt_irrefl _), by omega⟩
    · rw [plA_iff, hr, hgx] at h1
      rcases h1 with h1 | ⟨_, h1⟩
      · exact (plt_irrefl (ex ▸ h1)).elim
      · omega
  refine ⟨a1, a2, ?_, fun o ho => ?_, fun t ht => ?_, fun o ho => ?_⟩
  · refine List.pairwise_append.2 ⟨h.srt, List.pairwise_singleton _ _, fun a ha b hb => ?_⟩
    rw [List.mem_singleton.1 hb]
    exact hbef a ha
  · rcases List.mem_append.1 ho with ho | ho
    · exact h.own o ho
    · rw [List.mem_singleton.1 ho]
      exact hown
  · rcases List.mem_append.1 ht with ht | ht
    · obtain ⟨o, ho, eo⟩ := h.all t ht
      exact ⟨o, List.mem_append_left _ ho, eo⟩
    · rw [List.mem_singleton.1 ht, hr]
      exact ⟨r, List.mem_append_right _ (List.mem_singleton.2 rfl), rfl⟩
  · rw [List.getLast?_append] at ho
    simp at ho
    subst ho
    refine ⟨⟨p, List.mem_append_right _ (List.mem_singleton.2 rfl), by rw [hr]⟩, fun t ht => ?_⟩
    rcases List.mem_append.1 ht with ht | ht
    · have := pl_pre (a3 t ht)
      rw [hr] at this
      exact this
    · rw [List.mem_singleton.1 ht, hr]
      exact .inl rfl
theorem LInv.done {L : List IRt} {T : List Nat} {O : List IRt} (h : LInv L T [] O) : OrdOf L O := by
  refine ⟨h.srt, h.own, fun r hr => ?_⟩
  obtain ⟨i, hi⟩ := List.getElem?_of_mem hr
  have hl := (List.getElem?_eq_some_iff.1 hi).1
  have := h.per.symm.subset (List.mem_range.2 hl)
  rw [List.append_nil] at this
  obtain ⟨o, ho, eo⟩ := h.all i this
  refine ⟨o, ho, ?_⟩
  rw [eo]
  simp [List.getD, hi]
/-- what is left, and what is laid -/
structure RInv (L R O : List IRt) : Prop where
  rst : R = L.filter (fun r => O.all (fun o => decide (rpre o ≠ rpre r)))
  srt : O.Pairwise (fun a b => plt (rpre a) (rpre b))
  own : ∀ o ∈ O, bst (rpre o) L = some o
  sep : ∀ o ∈ O, ∀ r ∈ R, plt (rpre o) (rpre r)
theorem RInv.start (L : List IRt) : RInv L L [] :=
  ⟨(List.filter_eq_self.2 (fun _ _ => rfl)).symm, List.Pairwise.nil, fun o ho => (by cases ho), fun o ho => (by cases ho)⟩
def rsame (r x : IRt) : Bool := decide (rpre x = rpre r)
theorem RInv.step {L R O : List IRt} (h : RInv L R O) {k : Nat} {r : IRt} (hk : R[k]? = some r) (hm : ∀ j x, R[j]? = some x → (j < k → rahead r x = true) ∧ rahead x r = false) : RInv L (R.filter (fun x => !rsame r x)) (O ++ [r]) := by
  have hrR : r ∈ R := List.mem_of_getElem? hk
  have hown : bst (rpre r) L = some r := by
    have h1 : bst (rpre r) R = some r := by
      refine bst_of rfl hk (fun j x hx ex => ?_)
      obtain ⟨m1, m2⟩ := hm j x hx
      rw [← Bool.not_eq_true, rahead_iff] at m2
      refine ⟨fun hl => ?_, fun hlt => m2 (.inr ⟨ex, hlt⟩)⟩
      have := m1 hl
      rw [rahead_iff] at this
      rcases this with h1 | h1
      · exact (plt_irrefl (ex ▸ h1)).elim
      · exact h1.2
    rw [h.rst, bst_filter] at h1
    · exact h1
    · intro x ex
      rw [List.all_eq_true]
      intro o ho
      rw [decide_eq_true_eq, ex]
      intro e
      exact plt_irrefl (e ▸ h.sep o ho r hrR)
  refine ⟨?_, ?_, fun o ho => ?_, fun o ho x hx => ?_⟩
  · rw [h.rst, List.filter_filter]
    refine List.filter_congr (fun x _ => ?_)
    rw [List.all_append]
    simp only [List.all_cons, List.all_nil, Bool.and_true, rsame]
    rw [Bool.and_comm]
    congr 1
    rw [Bool.eq_iff_iff]
    simp only [Bool.not_eq_true', decide_eq_false_iff_not, decide_eq_true_eq, ne_eq]
    exact ⟨fun h e => h e.symm, fun h e => h e.symm⟩
  · refine List.pairwise_append.2 ⟨h.srt, List.pairwise_singleton _ _, fun a ha b hb => ?_⟩
    rw [List.mem_singleton.1 hb]
    exact h.sep a ha r hrR
  · rcases List.mem_append.1 ho with ho | ho
    · exact h.own o ho
    · rw [List.mem_singleton.1 ho]
      exact hown
  · obtain ⟨hx1, hx2⟩ := List.mem_filter.1 hx
    rcases List.mem_append.1 ho with ho | ho
    · exact h.sep o ho x hx1
    · rw [List.mem_singleton.1 ho]
      obtain ⟨j, hj⟩ := List.getElem?_of_mem hx1
      have m2 := (hm j x hj).2
      rw [← Bool.not_eq_true, rahead_iff] at m2
      have hne : rpre r ≠ rpre x := fun e => by
        unfold rsame at hx2
        rw [decide_eq_true e.symm] at hx2
        cases hx2
      rcases plt_total hne with e | e
      · exact e
      · exact absurd (.inl e) m2
theorem RInv.done {L O : List IRt} (h : RInv L [] O) : OrdOf L O := by
  refine ⟨h.srt, h.own, fun r hr => ?_⟩
  refine Classical.byContradiction (fun hn => ?_)
  have : r ∈ L.filter (fun r => O.all (fun o => decide (rpre o ≠ rpre r))) := by
    refine List.mem_filter.2 ⟨hr, ?_⟩
    rw [List.all_eq_true]
    intro o ho
    rw [decide_eq_true_eq]
    intro e
    exact hn ⟨o, ho, e⟩
  rw [← h.rst] at this
  cases this
/-- the place of the first that none of the first i is ahead of -/
def rmin (R : List IRt) : Nat → Nat
  | 0 => 0
  | i + 1 => if rahead (R.getD (i + 1) (0, 0, 0, 0)) (R.getD (rmin R i) (0, 0, 0, 0)) = true then i + 1 else rmin R i
theorem rmin_le (R : List IRt) : ∀ i, rmin R i ≤ i
  | 0 => Nat.le_refl _
  | i + 1 => by
    have := rmin_le R i
    unfold rmin
    split <;> omega
theorem rahead_ntr {a b c : IRt} (h1 : rahead a b = false) (h2 : rahead b c = false) : rahead a c = false := by
  rw [← Bool.not_eq_true, rahead_iff] at *
  unfold plt rpre at *
  simp only [Prod.mk.injEq] at *
  omega
theorem rahead_asymm {a b : IRt} (h1 : rahead a b = true) : rahead b a = false := by
  rw [← Bool.not_eq_true]
  rw [rahead_iff] at *
  unfold plt rpre at *
  simp only [Prod.mk.injEq] at *
  omega
theorem rahead_ftr {a b c : IRt} (h1 : rahead a b = true) (h2 : rahead c b = false) : rahead a c = true := by
  rw [← Bool.not_eq_true] at h2
  rw [rahead_iff] at *
  unfold plt rpre at *
  simp only [Prod.mk.injEq] at *
  omega
theorem rahead_irr (a : IRt) : rahead a a = false := by
  rw [← Bool.not_eq_true, rahead_iff]
  unfold plt
  omega
theorem rmin_ok (R : List IRt) : ∀ i j, j ≤ i → (j < rmin R i → rahead (R.getD (rmin R i) (0, 0, 0, 0)) (R.getD j (0, 0, 0, 0)) = true) ∧ rahead (R.getD j (0, 0, 0, 0)) (R.getD (rmin R i) (0, 0, 0, 0)) = false
  | 0, j, hj => by
    obtain rfl : j = 0 := by omega
    exact ⟨fun h => by unfold rmin at h; omega, rahead_irr _⟩
  | i + 1, j, hj => by
    have ih := rmin_ok R i
    unfold rmin
    split
    · rename_i h
      by_cases e : j = i + 1
      · subst e
        exact ⟨fun h => by omega, rahead_irr _⟩
      · have hji := (ih j (by omega)).2
        have := rahead_ftr h hji
        exact ⟨fun _ => this, rahead_asymm this⟩
    · rename_i h
      by_cases e : j = i + 1
      · subst e
        have := rmin_le R i
        exact ⟨fun h => by omega, by simpa using h⟩
      · exact ih j (by omega)
theorem rmin_min {R : List IRt} {j : Nat} {x : IRt} (hx : R[j]? = some x) : (j < rmin R (R.length - 1) → rahead (R.getD (rmin R (R.length - 1)) (0, 0, 0, 0)) x = true) ∧ rahead x (R.getD (rmin R (R.length - 1)) (0, 0, 0, 0)) = false := by
  have hl := (List.getElem?_eq_some_iff.1 hx).1
  have := rmin_ok R (R.length - 1) j (by omega)
  rw [show R.getD j (0, 0, 0, 0) = x by simp [List.getD, hx]] at this
  exact this
end Go.Proofs.Ytfcdaljhbeogeaa

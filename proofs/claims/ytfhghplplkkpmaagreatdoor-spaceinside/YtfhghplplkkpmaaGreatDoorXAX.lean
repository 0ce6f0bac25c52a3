import Derived.Test.YtfhghplplkkpmaaGreatDoorXAW
import Derived.BigQuiet
import Derived.Test.YtfhghplplkkpmaaGreatDoorXAU
namespace Go.Proofs.YtfhghplplkkpmaaGreatDoor
open Go.RowKit Go.Shelf
/-- one term behind the other is taken away; none: too much -/
def tkA : List (List UInt8 × List (List UInt8)) → List (List UInt8 × List (List UInt8)) → Option (List (List UInt8 × List (List UInt8)))
  | X, [] => some X
  | X, u :: r => if tkE X u.1 u.2 = 0 then tkA (tkT X u.1 u.2) r else none
def mzE (b b2 : Int) (A C : List (List UInt8 × List (List UInt8))) : Int := if (!(b == 0) && (b == b2)) = false then 11 else if (tkA A C).isSome = true then 0 else 3
def mzB (b b2 : Int) (A C : List (List UInt8 × List (List UInt8))) : Int := if mzE b b2 A C = 0 then b else 0
def mzT (b b2 : Int) (A C : List (List UInt8 × List (List UInt8))) : List (List UInt8 × List (List UInt8)) := if mzE b b2 A C = 0 then (tkA A C).getD [] else []
theorem gdC_wt {X : List (List UInt8 × List (List UInt8))} {c : List UInt8} {L : List (List UInt8)} (h : gdC X) (hc : good c = true) (hL : ∀ x ∈ L, good x = true) : gdC (wtN X c L) := fun t ht => by
  unfold wtN at ht
  obtain ⟨x, hx, ht⟩ := List.mem_flatMap.1 ht
  have hgx := h x hx
  rcases List.mem_cons.1 ht with rfl | ht
  · refine ⟨hgx.1, fun y hy => ?_⟩
    rcases List.mem_append.1 hy with hy | hy
    · exact hgx.2 y hy
    · obtain rfl := List.mem_singleton.1 hy
      exact hc
  · unfold wtI at ht
    obtain ⟨n, hn, he⟩ := List.mem_filterMap.1 ht
    split at he
    · cases he
      exact ⟨good_mtT _ _ hgx.1 (hL n hn), hgx.2⟩
    · cases he
theorem tk_ok {X : List (List UInt8 × List (List UInt8))} {c : List UInt8} {L : List (List UInt8)} (h : gdC X) (hc : good c = true) (hL : ∀ x ∈ L, good x = true) : gdC (tkT X c L) ∧ szC (tkT X c L) ≤ 128 := by
  unfold tkT
  split
  · rename_i h0
    have h2 : szC (topC (stl (wtN X c L))) ≤ 128 := by
      unfold tkE at h0
      split at h0
      · exact absurd h0 (by decide)
      · split at h0
        · assumption
        · exact absurd h0 (by decide)
    exact ⟨gdC_ord (gdC_top (gdC_stl (gdC_wt h hc hL))), by rw [szC_ord]; exact h2⟩
  · exact ⟨(fun t h => by cases h), Nat.zero_le _⟩
theorem tkE_or (X : List (List UInt8 × List (List UInt8))) (c : List UInt8) (L : List (List UInt8)) : tkE X c L = 0 ∨ tkE X c L = 3 := by
  unfold tkE
  split
  · exact .inr rfl
  · split
    · exact .inl rfl
    · exact .inr rfl
theorem drop_at {α : Type} {L : List α} {i : Nat} {x : α} (h : L[i]? = some x) : L.drop i = x :: L.drop (i + 1) := by
  obtain ⟨hi, he⟩ := List.getElem?_eq_some_iff.1 h
  rw [List.drop_eq_getElem_cons hi, he]
end Go.Proofs.YtfhghplplkkpmaaGreatDoor
namespace Go.Proofs.YtfhghplplkkpmaaGreatDoor
open Go.RowKit Go.Shelf
/-- one step of a list of the greatest -/
def gS {α : Type} (r : α → α → Bool) (T : List α) (x : α) : List α := if T.any (fun y => r x y) = true then T else T.filter (fun y => !r y x) ++ [x]
structure GI {α : Type} (r : α → α → Bool) (T D : List α) : Prop where
  sub : ∀ t ∈ T, t ∈ D
  ap : T.Pairwise (fun a b => r a b = false ∧ r b a = false)
  cov : ∀ d ∈ D, ∃ t ∈ T, r d t = true
theorem gi_step {α : Type} {r : α → α → Bool} {P : α → Prop} (hre : ∀ a, P a → r a a = true) (htr : ∀ a b c, P a → P b → P c → r a b = true → r b c = true → r a c = true) {T D : List α} {x : α} (h : GI r T D) (hP : ∀ d ∈ D, P d) (hx : P x) : GI r (gS r T x) (D ++ [x]) := by
  unfold gS
  split
  · rename_i ha
    obtain ⟨y, hy, hr⟩ := List.any_eq_true.1 ha
    refine ⟨fun t ht => List.mem_append_left _ (h.sub t ht), h.ap, fun d hd => ?_⟩
    rcases List.mem_append.1 hd with hd | hd
    · exact h.cov d hd
    · obtain rfl := List.mem_singleton.1 hd
      exact ⟨y, hy, hr⟩
  · rename_i ha
    refine ⟨fun t ht => ?_, List.pairwise_append.2 ⟨List.Pairwise.filter _ h.ap, List.pairwise_singleton _ _, fun a haT b hb => ?_⟩, fun d hd => ?_⟩
    · rcases List.mem_append.1 ht with ht | ht
      · exact List.mem_append_left _ (h.sub t (List.mem_filter.1 ht).1)
      · exact List.mem_append_right _ ht
    · obtain rfl := List.mem_singleton.1 hb
      have h1 := List.mem_filter.1 haT
      have h2 : r a b = false := by simpa using h1.2
      refine ⟨h2, ?_⟩
      cases h4 : r b a
      · rfl
      · exact absurd (List.any_eq_true.2 ⟨a, h1.1, h4⟩) ha
    · have hxx : ∃ t ∈ T.filter (fun y => !r y x) ++ [x], r x t = true := ⟨x, List.mem_append_right _ (List.mem_singleton.2 rfl), hre x hx⟩
      rcases List.mem_append.1 hd with hd | hd
      · obtain ⟨t, ht, hr⟩ := h.cov d hd
        cases hq : r t x
        · exact ⟨t, List.mem_append_left _ (List.mem_filter.2 ⟨ht, by rw [hq]; rfl⟩), hr⟩
        · exact ⟨x, List.mem_append_right _ (List.mem_singleton.2 rfl), htr d t x (hP d hd) (hP t (h.sub t ht)) hx hr hq⟩
      · obtain rfl := List.mem_singleton.1 hd
        exact hxx
theorem gi_fold {α : Type} {r : α → α → Bool} {P : α → Prop} (hre : ∀ a, P a → r a a = true) (htr : ∀ a b c, P a → P b → P c → r a b = true → r b c = true → r a c = true) : ∀ (L T D : List α), GI r T D → (∀ d ∈ D, P d) → (∀ x ∈ L, P x) → GI r (L.foldl (gS r) T) (D ++ L)
  | [], T, D, h, _, _ => by simpa using h
  | x :: L, T, D, h, hD, hL => by
    have h1 := gi_step hre htr h hD (hL x List.mem_cons_self)
    have h2 := gi_fold hre htr L _ (D ++ [x]) h1 (fun d hd => by
      rcases List.mem_append.1 hd with hd | hd
      · exact hD d hd
      · obtain rfl := List.mem_singleton.1 hd
        exact hL _ List.mem_cons_self) (fun y hy => hL y (List.mem_cons_of_mem _ hy))
    simpa using h2
theorem gi_all {α : Type} {r : α → α → Bool} {P : α → Prop} (hre : ∀ a, P a → r a a = true) (htr : ∀ a b c, P a → P b → P c → r a b = true → r b c = true → r a c = true) {L : List α} (hL : ∀ x ∈ L, P x) : GI r (L.foldl (gS r) []) L := by
  have h := gi_fold hre htr L [] [] ⟨fun t ht => (by cases ht), List.Pairwise.nil, fun d hd => (by cases hd)⟩ (fun d hd => (by cases hd)) hL
  simpa using h
theorem gi_mem {α : Type} {r : α → α → Bool} {P : α → Prop} (htr : ∀ a b c, P a → P b → P c → r a b = true → r b c = true → r a c = true) (han : ∀ a b, P a → P b → r a b = true → r b a = true → a = b) {L T : List α} (hL : ∀ x ∈ L, P x) (h : GI r T L) (y : α) : y ∈ T ↔ y ∈ L ∧ ∀ z ∈ L, r y z = true → z = y := by
  have key : ∀ a ∈ T, ∀ b ∈ T, r a b = true → a = b := fun a ha b hb hr => by
    obtain ⟨i, hi, rfl⟩ := List.getElem_of_mem ha
    obtain ⟨j, hj, rfl⟩ := List.getElem_of_mem hb
    rcases Nat.lt_trichotomy i j with hlt | rfl | hlt
    · have := (List.pairwise_iff_getElem.1 h.ap i j hi hj hlt).1
      rw [hr] at this
      cases this
    · rfl
    · have := (List.pairwise_iff_getElem.1 h.ap j i hj hi hlt).2
      rw [hr] at this
      cases this
  constructor
  · intro hy
    refine ⟨h.sub y hy, fun z hz hr => ?_⟩
    obtain ⟨t, ht, hzt⟩ := h.cov z hz
    have e : y = t := key y hy t ht (htr y z t (hL y (h.sub y hy)) (hL z hz) (hL t (h.sub t ht)) hr hzt)
    subst e
    exact han z y (hL z hz) (hL y (h.sub y hy)) hzt hr
  · rintro ⟨hy, hm⟩
    obtain ⟨t, ht, hr⟩ := h.cov y hy
    have e := hm t (h.sub t ht) hr
    subst e
    exact ht
theorem gi_nodup {α : Type} {r : α → α → Bool} {P : α → Prop} (hre : ∀ a, P a → r a a = true) {L T : List α} (hL : ∀ x ∈ L, P x) (h : GI r T L) : T.Nodup := by
  refine List.pairwise_iff_getElem.2 (fun i j hi hj hlt e => ?_)
  have h1 := (List.pairwise_iff_getElem.1 h.ap i j hi hj hlt).1
  rw [← e, hre _ (hL _ (h.sub _ (List.getElem_mem hi)))] at h1
  cases h1
theorem perm_mem {α : Type} [DecidableEq α] : ∀ (A B : List α), A.Nodup → B.Nodup → (∀ x, x ∈ A ↔ x ∈ B) → A.Perm B
  | [], B, _, _, h => by
    have : B = [] := by
      cases hB : B with
      | nil => rfl
      | cons b l => rw [hB] at h; exact absurd ((h b).2 List.mem_cons_self) (by simp)
    rw [this]
  | a :: A, B, hA, hB, h => by
    have ha : a ∈ B := (h a).1 List.mem_cons_self
    have h1 := perm_mem A (B.erase a) (List.nodup_cons.1 hA).2 (hB.erase a) (fun x => by
      rw [hB.mem_erase_iff]
      constructor
      · intro hx
        exact ⟨fun e => (List.nodup_cons.1 hA).1 (e ▸ hx), (h x).1 (List.mem_cons_of_mem _ hx)⟩
      · rintro ⟨hne, hx⟩
        rcases List.mem_cons.1 ((h x).2 hx) with e | hx
        · exact absurd e hne
        · exact hx)
    exact (List.Perm.cons a h1).trans (List.perm_cons_erase ha).symm
/-- the greatest of two lists of the same members are the same, but for the order -/
theorem g_perm {α : Type} [DecidableEq α] {r : α → α → Bool} {P : α → Prop} (hre : ∀ a, P a → r a a = true) (htr : ∀ a b c, P a → P b → P c → r a b = true → r b c = true → r a c = true) (han : ∀ a b, P a → P b → r a b = true → r b a = true → a = b) {L M : List α} (hL : ∀ x ∈ L, P x) (hm : ∀ x, x ∈ L ↔ x ∈ M) : (L.foldl (gS r) []).Perm (M.foldl (gS r) []) := by
  have hM : ∀ x ∈ M, P x := fun x hx => hL x ((hm x).2 hx)
  have h1 := gi_all hre htr hL
  have h2 := gi_all hre htr hM
  refine perm_mem _ _ (gi_nodup hre hL h1) (gi_nodup hre hM h2) (fun y => ?_)
  rw [gi_mem htr han hL h1 y, gi_mem htr han hM h2 y, hm y]
  constructor
  · rintro ⟨a, b⟩
    exact ⟨a, fun z hz => b z ((hm z).2 hz)⟩
  · rintro ⟨a, b⟩
    exact ⟨a, fun z hz => b z ((hm z).1 hz)⟩
theorem wi_rf {a : List UInt8} (h : a ≠ []) : wiB a a = true := by
  unfold wiB
  rw [Bool.and_eq_true, allTo_iff]
  refine ⟨?_, fun k hk => ?_⟩
  · cases a with
    | nil => exact absurd rfl h
    | cons x l => simp [fitB]
  · rw [List.getElem?_eq_getElem hk]
    simp
theorem wi_pos {a b : List UInt8} (h : wiB a b = true) : fitB a b = true ∧ ∀ k (k1 : k < a.length) (k2 : k < b.length), b[k] = 120 ∨ a[k] = b[k] := by
  unfold wiB at h
  rw [Bool.and_eq_true, allTo_iff] at h
  refine ⟨h.1, fun k k1 k2 => ?_⟩
  have e1 := h.2 k k1
  simp only [List.getElem?_eq_getElem k1, List.getElem?_eq_getElem k2, Bool.or_eq_true, beq_iff_eq] at e1
  exact e1
theorem wi_mk {a b : List UInt8} (hf : fitB a b = true) (h : ∀ k (k1 : k < a.length) (k2 : k < b.length), b[k] = 120 ∨ a[k] = b[k]) : wiB a b = true := by
  unfold wiB
  rw [Bool.and_eq_true, allTo_iff]
  refine ⟨hf, fun k k1 => ?_⟩
  have k2 : k < b.length := by rw [← fitB_len hf]; exact k1
  simp only [List.getElem?_eq_getElem k1, List.getElem?_eq_getElem k2, Bool.or_eq_true, beq_iff_eq]
  exact h k k1 k2
theorem fit_mk {a b : List UInt8} (hl : a.length = b.length) (hn : a ≠ []) : fitB a b = true := by
  unfold fitB
  cases a with
  | nil => exact absurd rfl hn
  | cons x l => simp_all
theorem fit_ne {a b : List UInt8} (h : fitB a b = true) : a ≠ [] ∧ b ≠ [] := by
  have hl := fitB_len h
  constructor
  · rintro rfl
    simp [fitB] at h
  · rintro rfl
    have : a = [] := by simpa using hl
    rw [this] at h
    simp [fitB] at h
theorem wi_trans {a b c : List UInt8} (h1 : wiB a b = true) (h2 : wiB b c = true) : wiB a c = true := by
  obtain ⟨f1, p1⟩ := wi_pos h1
  obtain ⟨f2, p2⟩ := wi_pos h2
  have l1 := fitB_len f1
  have l2 := fitB_len f2
  refine wi_mk (fit_mk (l1.trans l2) (fit_ne f1).1) (fun k k1 k3 => ?_)
  have k2 : k < b.length := by omega
  rcases p2 k k2 k3 with e | e
  · exact .inl e
  · rcases p1 k k1 k2 with e2 | e2
    · exact .inl (by rw [← e]; exact e2)
    · exact .inr (e2.trans e)
/-- what lies in both lies in what they have in common -/
theorem wi_glb {x m c : List UInt8} (gm : good m = true) (gc : good c = true) (h1 : wiB x m = true) (h2 : wiB x c = true) : agB m c = true ∧ wiB x (mtT m c) = true := by
  obtain ⟨f1, p1⟩ := wi_pos h1
  obtain ⟨f2, p2⟩ := wi_pos h2
  have l1 := fitB_len f1
  have l2 := fitB_len f2
  have hl : m.length = c.length := by omega
  have hag : agB m c = true := by
    unfold agB
    rw [Bool.and_eq_true, allTo_iff]
    refine ⟨fit_mk hl (fit_ne f1).2, fun k k1 => ?_⟩
    have k0 : k < x.length := by omega
    have k2 : k < c.length := by omega
    have e1 := p1 k k0 k1
    have e2 := p2 k k0 k2
    have ta := good_tri gm k k1
    have tb := good_tri gc k k2
    unfold cfl fx on
    rw [List.getElem?_eq_getElem k1, List.getElem?_eq_getElem k2]
    generalize m[k] = u at *
    generalize c[k] = v at *
    generalize x[k] = z at *
    simp [tri] at ta tb
    rcases ta with (rfl | rfl) | rfl <;> rcases tb with (rfl | rfl) | rfl <;> simp_all
  refine ⟨hag, ?_⟩
  unfold mtT
  rw [if_pos hag]
  have hml := meetT_len m c hl
  refine wi_mk (fit_mk (by omega) (fit_ne f1).1) (fun k k1 k3 => ?_)
  have k2 : k < m.length := by omega
  have k4 : k < c.length := by omega
  have hg := meetT_get m c hl k k2
  rw [List.getElem?_eq_getElem k3] at hg
  have e1 := p1 k k1 k2
  have e2 := p2 k k1 k4
  have ta := good_tri gm k k2
  have tb := good_tri gc k k4
  have hg2 := Option.some.inj hg
  rw [hg2]
  generalize m[k] = u at *
  generalize c[k] = v at *
  generalize x[k] = z at *
  simp [tri] at ta tb
  rcases ta with (rfl | rfl) | rfl <;> rcases tb with (rfl | rfl) | rfl <;> simp_all
end Go.Proofs.YtfhghplplkkpmaaGreatDoor
namespace Go.Proofs.YtfhghplplkkpmaaGreatDoor
open Go.RowKit Go.Shelf
theorem mt_ne {m c : List UInt8} (h : agB m c = true) : mtT m c ≠ [] := by
  have hf := agB_fit h
  have hl := fitB_len hf
  unfold mtT
  rw [if_pos h]
  intro e
  have h1 := meetT_len m c hl
  rw [e] at h1
  exact (fit_ne hf).1 (List.eq_nil_of_length_eq_zero h1.symm)
theorem mt_first {m c : List UInt8} (gm : good m = true) (gc : good c = true) (h : agB m c = true) : wiB (mtT m c) m = true := by
  have hn := mt_ne h
  have hf := agB_fit h
  have hl := fitB_len hf
  have hcf := agB_cfl h
  unfold mtT at hn ⊢
  rw [if_pos h] at hn ⊢
  have hml := meetT_len m c hl
  refine wi_mk (fit_mk (by omega) hn) (fun k k1 k2 => ?_)
  have k4 : k < c.length := by omega
  have hg := meetT_get m c hl k k2
  rw [List.getElem?_eq_getElem k1] at hg
  rw [Option.some.inj hg]
  have ta := good_tri gm k k2
  have tb := good_tri gc k k4
  generalize m[k] = u at *
  generalize c[k] = v at *
  simp [tri] at ta tb
  rcases ta with (rfl | rfl) | rfl <;> rcases tb with (rfl | rfl) | rfl <;> simp_all
theorem cv_iff (a b : List UInt8 × List (List UInt8)) : cvC a b = true ↔ wiB a.1 b.1 = true ∧ ∀ n ∈ b.2, agB n a.1 = true → ∃ y ∈ a.2, wiB (mtT n a.1) y = true := by
  unfold cvC
  rw [Bool.and_eq_true, List.all_eq_true]
  constructor
  · rintro ⟨h1, h2⟩
    refine ⟨h1, fun n hn ha => ?_⟩
    have h3 := h2 n hn
    rw [ha] at h3
    have h4 : a.2.any (fun y => wiB (mtT n a.1) y) = true := by simpa using h3
    obtain ⟨y, hy, hw⟩ := List.any_eq_true.1 h4
    exact ⟨y, hy, hw⟩
  · rintro ⟨h1, h2⟩
    refine ⟨h1, fun n hn => ?_⟩
    cases ha : agB n a.1
    · rfl
    · obtain ⟨y, hy, hw⟩ := h2 n hn ha
      have h4 : a.2.any (fun y => wiB (mtT n a.1) y) = true := List.any_eq_true.2 ⟨y, hy, hw⟩
      rw [h4]
      rfl
def gdT (t : List UInt8 × List (List UInt8)) : Prop := good t.1 = true ∧ ∀ x ∈ t.2, good x = true
theorem cv_refl {a : List UInt8 × List (List UInt8)} (g : gdT a) (hn : a.1 ≠ []) : cvC a a = true := (cv_iff a a).2 ⟨wi_rf hn, fun n hn ha => ⟨n, hn, mt_first (g.2 n hn) g.1 ha⟩⟩
theorem cv_trans {a b c : List UInt8 × List (List UInt8)} (ga : gdT a) (gb : gdT b) (gc : gdT c) (h1 : cvC a b = true) (h2 : cvC b c = true) : cvC a c = true := by
  obtain ⟨w1, c1⟩ := (cv_iff a b).1 h1
  obtain ⟨w2, c2⟩ := (cv_iff b c).1 h2
  refine (cv_iff a c).2 ⟨wi_trans w1 w2, fun n hn ha => ?_⟩
  have p1 := mt_first (gc.2 n hn) ga.1 ha
  have p2 := mt_within (gc.2 n hn) ga.1 ha
  obtain ⟨hb, p3⟩ := wi_glb (gc.2 n hn) gb.1 p1 (wi_trans p2 w1)
  obtain ⟨y, hy, q1⟩ := c2 n hn hb
  obtain ⟨hya, p4⟩ := wi_glb (gb.2 y hy) ga.1 (wi_trans p3 q1) p2
  obtain ⟨z, hz, q2⟩ := c1 y hy hya
  exact ⟨z, hz, wi_trans p4 q2⟩
theorem ap_key {L : List (List UInt8)} (h : apL L) {a b : List UInt8} (ha : a ∈ L) (hb : b ∈ L) (hr : wiB a b = true) : a = b := by
  obtain ⟨i, hi, rfl⟩ := List.getElem_of_mem ha
  obtain ⟨j, hj, rfl⟩ := List.getElem_of_mem hb
  rcases Nat.lt_trichotomy i j with hlt | rfl | hlt
  · have := (List.pairwise_iff_getElem.1 h i j hi hj hlt).1
    rw [hr] at this
    cases this
  · rfl
  · have := (List.pairwise_iff_getElem.1 h j i hj hi hlt).2
    rw [hr] at this
    cases this
theorem wi_ne {a b : List UInt8} (h : wiB a b = true) : a ≠ [] := (fit_ne (wi_pos h).1).1
theorem ap_nodup {L : List (List UInt8)} (h : apL L) (hn : ∀ x ∈ L, x ≠ []) : L.Nodup := by
  refine List.pairwise_iff_getElem.2 (fun i j hi hj hlt e => ?_)
  have h1 := (List.pairwise_iff_getElem.1 h i j hi hj hlt).1
  rw [← e, wi_rf (hn _ (List.getElem_mem hi))] at h1
  cases h1
theorem cv_anti {a b : List UInt8 × List (List UInt8)} (fa : FTm a) (fb : FTm b) (h1 : cvC a b = true) (h2 : cvC b a = true) : a = b := by
  obtain ⟨w1, c1⟩ := (cv_iff a b).1 h1
  obtain ⟨w2, c2⟩ := (cv_iff b a).1 h2
  have e1 := wi_anti2 w1 w2
  have half : ∀ (x y : List UInt8 × List (List UInt8)), FTm x → FTm y → x.1 = y.1 → (∀ n ∈ y.2, agB n x.1 = true → ∃ z ∈ x.2, wiB (mtT n x.1) z = true) → ∀ n ∈ y.2, ∃ z ∈ x.2, wiB n z = true := fun x y fx fy e hc n hn => by
    have h3 := wi_eq n x.1 (fy.gl n hn) fx.gc
    rw [e, fy.wi n hn, ← e] at h3
    obtain ⟨h4, h5⟩ := Bool.and_eq_true_iff.1 h3
    have h6 : mtT n x.1 = n := by simpa using h5
    obtain ⟨z, hz, hw⟩ := hc n hn h4
    rw [h6] at hw
    exact ⟨z, hz, hw⟩
  have A1 := half a b fa fb e1 c1
  have A2 := half b a fb fa e1.symm c2
  have sub : ∀ (x y : List UInt8 × List (List UInt8)), FTm y → (∀ n ∈ y.2, ∃ z ∈ x.2, wiB n z = true) → (∀ n ∈ x.2, ∃ z ∈ y.2, wiB n z = true) → ∀ n ∈ y.2, n ∈ x.2 := fun x y fy hx hy n hn => by
    obtain ⟨z, hz, hw⟩ := hx n hn
    obtain ⟨n2, hn2, hw2⟩ := hy z hz
    have e := ap_key fy.ap hn hn2 (wi_trans hw hw2)
    subst e
    have e2 := wi_anti2 hw hw2
    rw [e2]
    exact hz
  have hp : a.2.Perm b.2 := perm_mem _ _ (ap_nodup fa.ap (fun x hx => wi_ne (fa.wi x hx))) (ap_nodup fb.ap (fun x hx => wi_ne (fb.wi x hx))) (fun x => ⟨sub b a fa A2 A1 x, sub a b fb A1 A2 x⟩)
  have e2 : a.2 = b.2 := (srt_eq hp fa.so).trans (srt_eq (List.Perm.refl _) fb.so).symm
  exact Prod.ext e1 e2
theorem topL_perm {L M : List (List UInt8)} (hL : ∀ x ∈ L, x ≠ []) (hm : ∀ x, x ∈ L ↔ x ∈ M) : (topL L).Perm (topL M) := g_perm (r := wiB) (P := fun x => x ≠ []) (fun _ h => wi_rf h) (fun _ _ _ _ _ _ h1 h2 => wi_trans h1 h2) (fun _ _ _ _ h1 h2 => wi_anti2 h1 h2) hL hm
theorem topC_perm {L M : List (List UInt8 × List (List UInt8))} (hL : ∀ x ∈ L, FTm x ∧ x.1 ≠ []) (hm : ∀ x, x ∈ L ↔ x ∈ M) : (topC L).Perm (topC M) := g_perm (r := cvC) (P := fun x => FTm x ∧ x.1 ≠ []) (fun _ h => cv_refl ⟨h.1.gc, h.1.gl⟩ h.2) (fun _ _ _ ha hb hc h1 h2 => cv_trans ⟨ha.1.gc, ha.1.gl⟩ ⟨hb.1.gc, hb.1.gl⟩ ⟨hc.1.gc, hc.1.gl⟩ h1 h2) (fun _ _ ha hb h1 h2 => cv_anti ha.1 hb.1 h1 h2) hL hm
theorem ordT_cong {X Y : List (List UInt8 × List (List UInt8))} (h : (X.map sof).Perm (Y.map sof)) : ordT X = ordT Y := by
  have h1 : (X.map (fun t => t.1 :: srtT t.2)).Perm (Y.map (fun t => t.1 :: srtT t.2)) := by
    have e : ∀ Z : List (List UInt8 × List (List UInt8)), Z.map (fun t => t.1 :: srtT t.2) = (Z.map sof).map (fun t => t.1 :: t.2) := fun Z => by rw [List.map_map]; rfl
    rw [e, e]
    exact h.map _
  have hs : ∀ Z : List (List (List UInt8)), (srtLn Z).Pairwise (fun a b => leLn a b = true) := fun Z => List.pairwise_mergeSort leLn_trans leLn_total _
  unfold ordT
  rw [srtLn_eq ((srtLn_perm _).trans h1) (hs (X.map (fun t => t.1 :: srtT t.2)))]
/-- the form hangs on the terms alone, not on their order -/
theorem form_cong {L M : List (List UInt8 × List (List UInt8))} (hL : ∀ x ∈ L.map sof, FTm x ∧ x.1 ≠ []) (hm : ∀ x, x ∈ L.map sof ↔ x ∈ M.map sof) : ordT (topC L) = ordT (topC M) := by
  refine ordT_cong ?_
  rw [← topC_sof, ← topC_sof]
  exact topC_perm hL hm
theorem set_cong {c : List UInt8} {M N : List (List UInt8)} (hm : ∀ x, x ∈ M ↔ x ∈ N) : (setO c M).map srtT = (setO c N).map srtT := by
  have hl : ∀ x, x ∈ lesL c M ↔ x ∈ lesL c N := fun x => by
    unfold lesL
    rw [List.mem_filterMap, List.mem_filterMap]
    constructor
    · rintro ⟨m, h1, h2⟩
      exact ⟨m, (hm m).1 h1, h2⟩
    · rintro ⟨m, h1, h2⟩
      exact ⟨m, (hm m).2 h1, h2⟩
  have ha : (lesL c M).any (fun t => t == c) = (lesL c N).any (fun t => t == c) := by
    rw [Bool.eq_iff_iff, List.any_eq_true, List.any_eq_true]
    constructor
    · rintro ⟨m, h1, h2⟩
      exact ⟨m, (hl m).1 h1, h2⟩
    · rintro ⟨m, h1, h2⟩
      exact ⟨m, (hl m).2 h1, h2⟩
  unfold setO
  rw [ha]
  split
  · rfl
  · have hp := topL_perm (L := lesL c M) (M := lesL c N) (fun x hx => by
      unfold lesL at hx
      obtain ⟨m, h1, h2⟩ := List.mem_filterMap.1 hx
      split at h2
      · rename_i h3
        cases h2
        exact mt_ne h3
      · cases h2) hl
    show some (srtT (topL (lesL c M))) = some (srtT (topL (lesL c N)))
    exact congrArg some (srt_eq ((srtT_perm _).trans hp) (srtT_sorted (topL (lesL c M))))
end Go.Proofs.YtfhghplplkkpmaaGreatDoor
namespace Go.Proofs.YtfhghplplkkpmaaGreatDoor
open Go.RowKit Go.Shelf
/-- a settled term, its list in any order -/
def Sd (t : List UInt8 × List (List UInt8)) : Prop := FTm (sof t) ∧ t.1 ≠ []
theorem Sd.gd {t : List UInt8 × List (List UInt8)} (h : Sd t) : gdT t := ⟨h.1.gc, fun x hx => h.1.gl x ((srtT_perm t.2).mem_iff.2 hx)⟩
theorem Sd_gdC {Y : List (List UInt8 × List (List UInt8))} (h : ∀ y ∈ Y, Sd y) : gdC Y := fun y hy => (h y hy).gd
def stF (t : List UInt8 × List (List UInt8)) : Option (List UInt8 × List (List UInt8)) := (setO t.1 t.2).map (fun R => (t.1, srtT R))
theorem stF_cong {t u : List UInt8 × List (List UInt8)} (h1 : t.1 = u.1) (h2 : ∀ x, x ∈ t.2 ↔ x ∈ u.2) : stF t = stF u := by
  have h := set_cong (c := t.1) h2
  unfold stF
  rw [← h1]
  cases ha : setO t.1 t.2 <;> cases hb : setO t.1 u.2 <;> rw [ha, hb] at h <;> simp_all
theorem mem_stD (W : List (List UInt8 × List (List UInt8))) (x : List UInt8 × List (List UInt8)) : x ∈ stD W ↔ ∃ t ∈ W, stF t = some x := by
  unfold stD stF
  rw [List.mem_filterMap]
theorem wt_ne {Y : List (List UInt8 × List (List UInt8))} {c : List UInt8} {L : List (List UInt8)} (h : ∀ y ∈ Y, y.1 ≠ []) : ∀ t ∈ wtN Y c L, t.1 ≠ [] := fun t ht => by
  unfold wtN at ht
  obtain ⟨y, hy, ht⟩ := List.mem_flatMap.1 ht
  rcases List.mem_cons.1 ht with rfl | ht
  · exact h y hy
  · unfold wtI at ht
    obtain ⟨n, hn, he⟩ := List.mem_filterMap.1 ht
    split at he
    · rename_i h3
      cases he
      exact mt_ne h3
    · cases he
theorem Sd_wt {Y : List (List UInt8 × List (List UInt8))} {c : List UInt8} {L : List (List UInt8)} (h : ∀ y ∈ Y, Sd y) (gc : good c = true) (gL : ∀ x ∈ L, good x = true) : ∀ t ∈ stl (wtN Y c L), Sd t := fun t ht => by
  obtain ⟨h1, y, hy, he⟩ := FTm_stl (gdC_wt (Sd_gdC h) gc gL) _ (List.mem_map_of_mem (f := sof) ht)
  refine ⟨h1, ?_⟩
  have h2 := wt_ne (fun y hy => (h y hy).2) y hy
  rw [he] at h2
  exact h2
theorem Sd_top {L : List (List UInt8 × List (List UInt8))} (h : ∀ t ∈ L, Sd t) : ∀ t ∈ topC L, Sd t := fun t ht => by
  rcases topCF_mem L [] t ht with h1 | h1
  · cases h1
  · exact h t h1
theorem sof_mem (Y : List (List UInt8 × List (List UInt8))) (x : List UInt8 × List (List UInt8)) : x ∈ ordT Y ↔ ∃ y ∈ Y, sof y = x := by
  rw [(ordT_perm Y).mem_iff, List.mem_map]
theorem wt_pair (y : List UInt8 × List (List UInt8)) (c : List UInt8) (L : List (List UInt8)) (t : List UInt8 × List (List UInt8)) : (t ∈ (y.1, y.2 ++ [c]) :: wtI y L → ∃ u ∈ ((sof y).1, (sof y).2 ++ [c]) :: wtI (sof y) L, stF u = stF t) ∧ (t ∈ ((sof y).1, (sof y).2 ++ [c]) :: wtI (sof y) L → ∃ u ∈ (y.1, y.2 ++ [c]) :: wtI y L, stF u = stF t) := by
  have hs : ∀ x, x ∈ srtT y.2 ↔ x ∈ y.2 := fun x => (srtT_perm y.2).mem_iff
  constructor
  · intro ht
    rcases List.mem_cons.1 ht with rfl | ht
    · refine ⟨_, List.mem_cons_self, stF_cong rfl (fun x => ?_)⟩
      show x ∈ srtT y.2 ++ [c] ↔ x ∈ y.2 ++ [c]
      rw [List.mem_append, List.mem_append, hs x]
    · unfold wtI at ht
      obtain ⟨n, hn, he⟩ := List.mem_filterMap.1 ht
      split at he
      · rename_i h3
        cases he
        refine ⟨(mtT y.1 n, srtT y.2), List.mem_cons_of_mem _ ?_, stF_cong rfl hs⟩
        unfold wtI
        exact List.mem_filterMap.2 ⟨n, hn, if_pos h3⟩
      · cases he
  · intro ht
    rcases List.mem_cons.1 ht with rfl | ht
    · refine ⟨_, List.mem_cons_self, stF_cong rfl (fun x => ?_)⟩
      show x ∈ y.2 ++ [c] ↔ x ∈ srtT y.2 ++ [c]
      rw [List.mem_append, List.mem_append, hs x]
    · unfold wtI at ht
      obtain ⟨n, hn, he⟩ := List.mem_filterMap.1 ht
      split at he
      · rename_i h3
        cases he
        refine ⟨(mtT y.1 n, y.2), List.mem_cons_of_mem _ ?_, stF_cong rfl (fun x => (hs x).symm)⟩
        unfold wtI
        exact List.mem_filterMap.2 ⟨n, hn, if_pos h3⟩
      · cases he
/-- taking away does not hang on any order -/
theorem wt_step {Y : List (List UInt8 × List (List UInt8))} {c : List UInt8} {L : List (List UInt8)} (h : ∀ y ∈ Y, Sd y) (gc : good c = true) (gL : ∀ x ∈ L, good x = true) : ordT (topC (stl (wtN (ordT Y) c L))) = ordT (topC (stl (wtN Y c L))) := by
  symm
  refine form_cong (fun x hx => ?_) (fun x => ?_)
  · obtain ⟨t, ht, rfl⟩ := List.mem_map.1 hx
    exact Sd_wt h gc gL t ht
  · rw [← stD_eq, ← stD_eq, mem_stD, mem_stD]
    constructor
    · rintro ⟨t, ht, he⟩
      unfold wtN at ht
      obtain ⟨y, hy, ht⟩ := List.mem_flatMap.1 ht
      obtain ⟨u, hu, e⟩ := (wt_pair y c L t).1 ht
      refine ⟨u, ?_, e.trans he⟩
      unfold wtN
      exact List.mem_flatMap.2 ⟨sof y, (sof_mem Y _).2 ⟨y, hy, rfl⟩, hu⟩
    · rintro ⟨t, ht, he⟩
      unfold wtN at ht
      obtain ⟨x', hx', ht⟩ := List.mem_flatMap.1 ht
      obtain ⟨y, hy, rfl⟩ := (sof_mem Y _).1 hx'
      obtain ⟨u, hu, e⟩ := (wt_pair y c L t).2 ht
      refine ⟨u, ?_, e.trans he⟩
      unfold wtN
      exact List.mem_flatMap.2 ⟨y, hy, hu⟩
/-- the program's way: the order comes last -/
def pgA : List (List UInt8 × List (List UInt8)) → List (List UInt8 × List (List UInt8)) → Option (List (List UInt8 × List (List UInt8)))
  | Y, [] => some Y
  | Y, u :: r => if 2048 < Y.length * (1 + u.2.length) then none else if szC (topC (stl (wtN Y u.1 u.2))) ≤ 128 then pgA (topC (stl (wtN Y u.1 u.2))) r else none
theorem ordT_len (Y : List (List UInt8 × List (List UInt8))) : (ordT Y).length = Y.length := by
  have h := (ordT_perm Y).length_eq
  rw [List.length_map] at h
  exact h
theorem pg_tk : ∀ (C Y : List (List UInt8 × List (List UInt8))), (∀ y ∈ Y, Sd y) → gdC C → tkA (ordT Y) C = (pgA Y C).map ordT
  | [], Y, _, _ => rfl
  | u :: r, Y, h, g => by
    have gu := g u List.mem_cons_self
    have hst := wt_step h gu.1 gu.2
    have hsz : szC (topC (stl (wtN (ordT Y) u.1 u.2))) = szC (topC (stl (wtN Y u.1 u.2))) := by rw [← szC_ord, hst, szC_ord]
    have ih := pg_tk r (topC (stl (wtN Y u.1 u.2))) (Sd_top (Sd_wt h gu.1 gu.2)) (fun t ht => g t (List.mem_cons_of_mem _ ht))
    have hE : tkE (ordT Y) u.1 u.2 = if 2048 < Y.length * (1 + u.2.length) then 3 else if szC (topC (stl (wtN Y u.1 u.2))) ≤ 128 then 0 else 3 := by unfold tkE; rw [ordT_len, hsz]
    unfold tkA pgA
    by_cases h1 : 2048 < Y.length * (1 + u.2.length)
    · rw [hE, if_pos h1, if_pos h1]
      rfl
    · by_cases h2 : szC (topC (stl (wtN Y u.1 u.2))) ≤ 128
      · have e0 : tkE (ordT Y) u.1 u.2 = 0 := by rw [hE, if_neg h1, if_pos h2]
        rw [if_pos e0, if_neg h1, if_pos h2, ← ih]
        unfold tkT
        rw [if_pos e0, hst]
      · rw [hE, if_neg h1, if_neg h2, if_neg h1, if_neg h2]
        rfl
/-- a settled term outside of one cube more, as the program goes -/
def outO (x : List UInt8 × List (List UInt8)) (c : List UInt8) : Option (List UInt8 × List (List UInt8)) := if agB c x.1 = true then (if x.2.any (fun y => wiB (mtT c x.1) y) = true then some x else if mtT c x.1 = x.1 then none else some (x.1, x.2.filter (fun y => !wiB y (mtT c x.1)) ++ [mtT c x.1])) else some x
theorem out_eq {x : List UInt8 × List (List UInt8)} {c : List UInt8} (h : Sd x) : outO x c = (setO x.1 (x.2 ++ [c])).map (fun R => (x.1, R)) := by
  have hs : ∀ y, y ∈ srtT x.2 ↔ y ∈ x.2 := fun y => (srtT_perm x.2).mem_iff
  have hid : lesL x.1 x.2 = x.2 := les_id h.1.gc x.2 (fun m hm => h.1.gl m ((hs m).2 hm)) (fun m hm => h.1.wi m ((hs m).2 hm))
  have hap : apL x.2 := List.Perm.pairwise (srtT_perm x.2) h.1.ap (fun {x y} hxy => ⟨hxy.2, hxy.1⟩)
  have hne : ¬ x.2.any (fun t => t == x.1) = true := fun hc => by
    obtain ⟨y, hy, he⟩ := List.any_eq_true.1 hc
    obtain rfl : y = x.1 := by simpa using he
    exact h.1.ne ((hs _).2 hy)
  unfold outO setO
  rw [lesL_snoc, hid]
  by_cases ha : agB c x.1 = true
  · rw [if_pos ha, if_pos ha]
    have e : topL (x.2 ++ [mtT c x.1]) = topS x.2 (mtT c x.1) := by
      have h1 := topL_id hap
      unfold topL at h1 ⊢
      rw [List.foldl_append, h1]
      rfl
    rw [e]
    by_cases hw : x.2.any (fun y => wiB (mtT c x.1) y) = true
    · have hm : ¬ mtT c x.1 = x.1 := fun em => by
        obtain ⟨y, hy, hwy⟩ := List.any_eq_true.1 hw
        rw [em] at hwy
        have e2 := wi_anti2 (h.1.wi y ((hs y).2 hy)) hwy
        have e3 : y = x.1 := e2
        exact h.1.ne ((hs _).2 (e3 ▸ hy))
      have hn2 : ¬ (x.2 ++ [mtT c x.1]).any (fun t => t == x.1) = true := by
        rw [List.any_append]
        simp only [Bool.or_eq_true, not_or]
        exact ⟨hne, by simpa using hm⟩
      rw [if_pos hw, if_neg hn2]
      unfold topS
      rw [if_pos hw]
      rfl
    · rw [if_neg hw]
      by_cases hm : mtT c x.1 = x.1
      · have hn2 : (x.2 ++ [mtT c x.1]).any (fun t => t == x.1) = true := by
          rw [List.any_append]
          simp [hm]
        rw [if_pos hm, if_pos hn2]
        rfl
      · have hn2 : ¬ (x.2 ++ [mtT c x.1]).any (fun t => t == x.1) = true := by
          rw [List.any_append]
          simp only [Bool.or_eq_true, not_or]
          exact ⟨hne, by simpa using hm⟩
        rw [if_neg hm, if_neg hn2]
        unfold topS
        rw [if_neg hw]
        rfl
  · rw [if_neg ha, if_neg ha, List.append_nil, if_neg hne, topL_id hap]
    rfl
end Go.Proofs.YtfhghplplkkpmaaGreatDoor

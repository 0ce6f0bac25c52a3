import Derived.Test.YtekjbpemaohipaaGreatDoorXAZ
import Derived.Test.YtekjbpemaohipaaGreatDoorXBA
import Derived.Test.YtekjbpemaohipaaGreatDoorXAX
import Derived.Test.YtekjbpemaohipaaGreatDoorXAY
namespace Go.Proofs.YtekjbpemaohipaaGreatDoor
open Go.RowKit Go.Shelf
/-- one step of a list of the greatest -/
def gS {α : Type} (r : α → α → Bool) (T : List α) (x : α) : List α := if T.any (fun y => r x y) = true then T else T.filter (fun y => !r y x) ++ [x]
structure GI {α : Type} (r : α → α → Bool) (T D : List α) : Prop where
  sub : ∀ t ∈ T, t ∈ D
  ap : T.Pairwise (fun a b => r a b = false ∧ r b a = false)
  cov : ∀ d ∈ D, ∃ t ∈ T, r d t = true
theorem gi_step {α : Type} {r : α → α → Bool} {P : α → Prop} (hre : ∀ a, P a → r a a = true) (htr : ∀ a b c, P a → P b → P c → r a b = true → r b c = true → r a c = true) {T D : List α} {x : α} (h : GI r T D) (hP : ∀ d ∈ D, P d) (hx : P x) : GI r (gS r T x) (D ++ [x]) := by
  unfold gS
  split
  · rename_i ha
    obtain ⟨y, hy, hr⟩ := List.any_eq_true.1 ha
    refine ⟨fun t ht => List.mem_append_left _ (h.sub t ht), h.ap, fun d hd => ?_⟩
    rcases List.mem_append.1 hd with hd | hd
    · exact h.cov d hd
    · obtain rfl := List.mem_singleton.1 hd
      exact ⟨y, hy, hr⟩
  · rename_i ha
    refine ⟨fun t ht => ?_, List.pairwise_append.2 ⟨List.Pairwise.filter _ h.ap, List.pairwise_singleton _ _, fun a haT b hb => ?_⟩, fun d hd => ?_⟩
    · rcases List.mem_append.1 ht with ht | ht
      · exact List.mem_append_left _ (h.sub t (List.mem_filter.1 ht).1)
      · exact List.mem_append_right _ ht
    · obtain rfl := List.mem_singleton.1 hb
      have h1 := List.mem_filter.1 haT
      have h2 : r a b = false := by simpa using h1.2
      refine ⟨h2, ?_⟩
      cases h4 : r b a
      · rfl
      · exact absurd (List.any_eq_true.2 ⟨a, h1.1, h4⟩) ha
    · have hxx : ∃ t ∈ T.filter (fun y => !r y x) ++ [x], r x t = true := ⟨x, List.mem_append_right _ (List.mem_singleton.2 rfl), hre x hx⟩
      rcases List.mem_append.1 hd with hd | hd
      · obtain ⟨t, ht, hr⟩ := h.cov d hd
        cases hq : r t x
        · exact ⟨t, List.mem_append_left _ (List.mem_filter.2 ⟨ht, by rw [hq]; rfl⟩), hr⟩
        · exact ⟨x, List.mem_append_right _ (List.mem_singleton.2 rfl), htr d t x (hP d hd) (hP t (h.sub t ht)) hx hr hq⟩
      · obtain rfl := List.mem_singleton.1 hd
        exact hxx
theorem gi_fold {α : Type} {r : α → α → Bool} {P : α → Prop} (hre : ∀ a, P a → r a a = true) (htr : ∀ a b c, P a → P b → P c → r a b = true → r b c = true → r a c = true) : ∀ (L T D : List α), GI r T D → (∀ d ∈ D, P d) → (∀ x ∈ L, P x) → GI r (L.foldl (gS r) T) (D ++ L)
  | [], T, D, h, _, _ => by simpa using h
  | x :: L, T, D, h, hD, hL => by
    have h1 := gi_step hre htr h hD (hL x List.mem_cons_self)
    have h2 := gi_fold hre htr L _ (D ++ [x]) h1 (fun d hd => by
      rcases List.mem_append.1 hd with hd | hd
      · exact hD d hd
      · obtain rfl := List.mem_singleton.1 hd
        exact hL _ List.mem_cons_self) (fun y hy => hL y (List.mem_cons_of_mem _ hy))
    simpa using h2
theorem gi_all {α : Type} {r : α → α → Bool} {P : α → Prop} (hre : ∀ a, P a → r a a = true) (htr : ∀ a b c, P a → P b → P c → r a b = true → r b c = true → r a c = true) {L : List α} (hL : ∀ x ∈ L, P x) : GI r (L.foldl (gS r) []) L := by
  have h := gi_fold hre htr L [] [] ⟨fun t ht => (by cases ht), List.Pairwise.nil, fun d hd => (by cases hd)⟩ (fun d hd => (by cases hd)) hL
  simpa using h
theorem gi_mem {α : Type} {r : α → α → Bool} {P : α → Prop} (htr : ∀ a b c, P a → P b → P c → r a b = true → r b c = true → r a c = true) (han : ∀ a b, P a → P b → r a b = true → r b a = true → a = b) {L T : List α} (hL : ∀ x ∈ L, P x) (h : GI r T L) (y : α) : y ∈ T ↔ y ∈ L ∧ ∀ z ∈ L, r y z = true → z = y := by
  have key : ∀ a ∈ T, ∀ b ∈ T, r a b = true → a = b := fun a ha b hb hr => by
    obtain ⟨i, hi, rfl⟩ := List.getElem_of_mem ha
    obtain ⟨j, hj, rfl⟩ := List.getElem_of_mem hb
    rcases Nat.lt_trichotomy i j with hlt | rfl | hlt
    · have := (List.pairwise_iff_getElem.1 h.ap i j hi hj hlt).1
      rw [hr] at this
      cases this
    · rfl
    · have := (List.pairwise_iff_getElem.1 h.ap j i hj hi hlt).2
      rw [hr] at this
      cases this
  constructor
  · intro hy
    refine ⟨h.sub y hy, fun z hz hr => ?_⟩
    obtain ⟨t, ht, hzt⟩ := h.cov z hz
    have e : y = t := key y hy t ht (htr y z t (hL y (h.sub y hy)) (hL z hz) (hL t (h.sub t ht)) hr hzt)
    subst e
    exact han z y (hL z hz) (hL y (h.sub y hy)) hzt hr
  · rintro ⟨hy, hm⟩
    obtain ⟨t, ht, hr⟩ := h.cov y hy
    have e := hm t (h.sub t ht) hr
    subst e
    exact ht
theorem gi_nodup {α : Type} {r : α → α → Bool} {P : α → Prop} (hre : ∀ a, P a → r a a = true) {L T : List α} (hL : ∀ x ∈ L, P x) (h : GI r T L) : T.Nodup := by
  refine List.pairwise_iff_getElem.2 (fun i j hi hj hlt e => ?_)
  have h1 := (List.pairwise_iff_getElem.1 h.ap i j hi hj hlt).1
  rw [← e, hre _ (hL _ (h.sub _ (List.getElem_mem hi)))] at h1
  cases h1
theorem perm_mem {α : Type} [DecidableEq α] : ∀ (A B : List α), A.Nodup → B.Nodup → (∀ x, x ∈ A ↔ x ∈ B) → A.Perm B
  | [], B, _, _, h => by
    have : B = [] := by
      cases hB : B with
      | nil => rfl
      | cons b l => rw [hB] at h; exact absurd ((h b).2 List.mem_cons_self) (by simp)
    rw [this]
  | a :: A, B, hA, hB, h => by
    have ha : a ∈ B := (h a).1 List.mem_cons_self
    have h1 := perm_mem A (B.erase a) (List.nodup_cons.1 hA).2 (hB.erase a) (fun x => by
      rw [hB.mem_erase_iff]
      constructor
      · intro hx
        exact ⟨fun e => (List.nodup_cons.1 hA).1 (e ▸ hx), (h x).1 (List.mem_cons_of_mem _ hx)⟩
      · rintro ⟨hne, hx⟩
        rcases List.mem_cons.1 ((h x).2 hx) with e | hx
        · exact absurd e hne
        · exact hx)
    exact (List.Perm.cons a h1).trans (List.perm_cons_erase ha).symm
/-- the greatest of two lists of the same members are the same, but for the order -/
theorem g_perm {α : Type} [DecidableEq α] {r : α → α → Bool} {P : α → Prop} (hre : ∀ a, P a → r a a = true) (htr : ∀ a b c, P a → P b → P c → r a b = true → r b c = true → r a c = true) (han : ∀ a b, P a → P b → r a b = true → r b a = true → a = b) {L M : List α} (hL : ∀ x ∈ L, P x) (hm : ∀ x, x ∈ L ↔ x ∈ M) : (L.foldl (gS r) []).Perm (M.foldl (gS r) []) := by
  have hM : ∀ x ∈ M, P x := fun x hx => hL x ((hm x).2 hx)
  have h1 := gi_all hre htr hL
  have h2 := gi_all hre htr hM
  refine perm_mem _ _ (gi_nodup hre hL h1) (gi_nodup hre hM h2) (fun y => ?_)
  rw [gi_mem htr han hL h1 y, gi_mem htr han hM h2 y, hm y]
  constructor
  · rintro ⟨a, b⟩
    exact ⟨a, fun z hz => b z ((hm z).2 hz)⟩
  · rintro ⟨a, b⟩
    exact ⟨a, fun z hz => b z ((hm z).1 hz)⟩
theorem wi_rf {a : List UInt8} (h : a ≠ []) : wiB a a = true := by
  unfold wiB
  rw [Bool.and_eq_true, allTo_iff]
  refine ⟨?_, fun k hk => ?_⟩
  · cases a with
    | nil => exact absurd rfl h
    | cons x l => simp [fitB]
  · rw [List.getElem?_eq_getElem hk]
    simp
theorem wi_pos {a b : List UInt8} (h : wiB a b = true) : fitB a b = true ∧ ∀ k (k1 : k < a.length) (k2 : k < b.length), b[k] = 120 ∨ a[k] = b[k] := by
  unfold wiB at h
  rw [Bool.and_eq_true, allTo_iff] at h
  refine ⟨h.1, fun k k1 k2 => ?_⟩
  have e1 := h.2 k k1
  simp only [List.getElem?_eq_getElem k1, List.getElem?_eq_getElem k2, Bool.or_eq_true, beq_iff_eq] at e1
  exact e1
theorem wi_mk {a b : List UInt8} (hf : fitB a b = true) (h : ∀ k (k1 : k < a.length) (k2 : k < b.length), b[k] = 120 ∨ a[k] = b[k]) : wiB a b = true := by
  unfold wiB
  rw [Bool.and_eq_true, allTo_iff]
  refine ⟨hf, fun k k1 => ?_⟩
  have k2 : k < b.length := by rw [← fitB_len hf]; exact k1
  simp only [List.getElem?_eq_getElem k1, List.getElem?_eq_getElem k2, Bool.or_eq_true, beq_iff_eq]
  exact h k k1 k2
theorem fit_mk {a b : List UInt8} (hl : a.length = b.length) (hn : a ≠ []) : fitB a b = true := by
  unfold fitB
  cases a with
  | nil => exact absurd rfl hn
  | cons x l => simp_all
theorem fit_ne {a b : List UInt8} (h : fitB a b = true) : a ≠ [] ∧ b ≠ [] := by
  have hl := fitB_len h
  constructor
  · rintro rfl
    simp [fitB] at h
  · rintro rfl
    have : a = [] := by simpa using hl
    rw [this] at h
    simp [fitB] at h
theorem wi_trans {a b c : List UInt8} (h1 : wiB a b = true) (h2 : wiB b c = true) : wiB a c = true := by
  obtain ⟨f1, p1⟩ := wi_pos h1
  obtain ⟨f2, p2⟩ := wi_pos h2
  have l1 := fitB_len f1
  have l2 := fitB_len f2
  refine wi_mk (fit_mk (l1.trans l2) (fit_ne f1).1) (fun k k1 k3 => ?_)
  have k2 : k < b.length := by omega
  rcases p2 k k2 k3 with e | e
  · exact .inl e
  · rcases p1 k k1 k2 with e2 | e2
    · exact .inl (by rw [← e]; exact e2)
    · exact .inr (e2.trans e)
/-- what lies in both lies in what they have in common -/
theorem wi_glb {x m c : List UInt8} (gm : good m = true) (gc : good c = true) (h1 : wiB x m = true) (h2 : wiB x c = true) : agB m c = true ∧ wiB x (mtT m c) = true := by
  obtain ⟨f1, p1⟩ := wi_pos h1
  obtain ⟨f2, p2⟩ := wi_pos h2
  have l1 := fitB_len f1
  have l2 := fitB_len f2
  have hl : m.length = c.length := by omega
  have hag : agB m c = true := by
    unfold agB
    rw [Bool.and_eq_true, allTo_iff]
    refine ⟨fit_mk hl (fit_ne f1).2, fun k k1 => ?_⟩
    have k0 : k < x.length := by omega
    have k2 : k < c.length := by omega
    have e1 := p1 k k0 k1
    have e2 := p2 k k0 k2
    have ta := good_tri gm k k1
    have tb := good_tri gc k k2
    unfold cfl fx on
    rw [List.getElem?_eq_getElem k1, List.getElem?_eq_getElem k2]
    generalize m[k] = u at *
    generalize c[k] = v at *
    generalize x[k] = z at *
    simp [tri] at ta tb
    rcases ta with (rfl | rfl) | rfl <;> rcases tb with (rfl | rfl) | rfl <;> simp_all
  refine ⟨hag, ?_⟩
  unfold mtT
  rw [if_pos hag]
  have hml := meetT_len m c hl
  refine wi_mk (fit_mk (by omega) (fit_ne f1).1) (fun k k1 k3 => ?_)
  have k2 : k < m.length := by omega
  have k4 : k < c.length := by omega
  have hg := meetT_get m c hl k k2
  rw [List.getElem?_eq_getElem k3] at hg
  have e1 := p1 k k1 k2
  have e2 := p2 k k1 k4
  have ta := good_tri gm k k2
  have tb := good_tri gc k k4
  have hg2 := Option.some.inj hg
  rw [hg2]
  generalize m[k] = u at *
  generalize c[k] = v at *
  generalize x[k] = z at *
  simp [tri] at ta tb
  rcases ta with (rfl | rfl) | rfl <;> rcases tb with (rfl | rfl) | rfl <;> simp_all
end Go.Proofs.YtekjbpemaohipaaGreatDoor
namespace Go.Proofs.YtekjbpemaohipaaGreatDoor
open Go.RowKit Go.Shelf
theorem mt_ne {m c : List UInt8} (h : agB m c = true) : mtT m c ≠ [] := by
  have hf := agB_fit h
  have hl := fitB_len hf
  unfold mtT
  rw [if_pos h]
  intro e
  have h1 := meetT_len m c hl
  rw [e] at h1
  exact (fit_ne hf).1 (List.eq_nil_of_length_eq_zero h1.symm)
theorem mt_first {m c : List UInt8} (gm : good m = true) (gc : good c = true) (h : agB m c = true) : wiB (mtT m c) m = true := by
  have hn := mt_ne h
  have hf := agB_fit h
  have hl := fitB_len hf
  have hcf := agB_cfl h
  unfold mtT at hn ⊢
  rw [if_pos h] at hn ⊢
  have hml := meetT_len m c hl
  refine wi_mk (fit_mk (by omega) hn) (fun k k1 k2 => ?_)
  have k4 : k < c.length := by omega
  have hg := meetT_get m c hl k k2
  rw [List.getElem?_eq_getElem k1] at hg
  rw [Option.some.inj hg]
  have ta := good_tri gm k k2
  have tb := good_tri gc k k4
  generalize m[k] = u at *
  generalize c[k] = v at *
  simp [tri] at ta tb
  rcases ta with (rfl | rfl) | rfl <;> rcases tb with (rfl | rfl) | rfl <;> simp_all
theorem cv_iff (a b : List UInt8 × List (List UInt8)) : cvC a b = true ↔ wiB a.1 b.1 = true ∧ ∀ n ∈ b.2, agB n a.1 = true → ∃ y ∈ a.2, wiB (mtT n a.1) y = true := by
  unfold cvC
  rw [Bool.and_eq_true, List.all_eq_true]
  constructor
  · rintro ⟨h1, h2⟩
    refine ⟨h1, fun n hn ha => ?_⟩
    have h3 := h2 n hn
    rw [ha] at h3
    have h4 : a.2.any (fun y => wiB (mtT n a.1) y) = true := by simpa using h3
    obtain ⟨y, hy, hw⟩ := List.any_eq_true.1 h4
    exact ⟨y, hy, hw⟩
  · rintro ⟨h1, h2⟩
    refine ⟨h1, fun n hn => ?_⟩
    cases ha : agB n a.1
    · rfl
    · obtain ⟨y, hy, hw⟩ := h2 n hn ha
      have h4 : a.2.any (fun y => wiB (mtT n a.1) y) = true := List.any_eq_true.2 ⟨y, hy, hw⟩
      rw [h4]
      rfl
def gdT (t : List UInt8 × List (List UInt8)) : Prop := good t.1 = true ∧ ∀ x ∈ t.2, good x = true
theorem cv_refl {a : List UInt8 × List (List UInt8)} (g : gdT a) (hn : a.1 ≠ []) : cvC a a = true := (cv_iff a a).2 ⟨wi_rf hn, fun n hn ha => ⟨n, hn, mt_first (g.2 n hn) g.1 ha⟩⟩
theorem cv_trans {a b c : List UInt8 × List (List UInt8)} (ga : gdT a) (gb : gdT b) (gc : gdT c) (h1 : cvC a b = true) (h2 : cvC b c = true) : cvC a c = true := by
  obtain ⟨w1, c1⟩ := (cv_iff a b).1 h1
  obtain ⟨w2, c2⟩ := (cv_iff b c).1 h2
  refine (cv_iff a c).2 ⟨wi_trans w1 w2, fun n hn ha => ?_⟩
  have p1 := mt_first (gc.2 n hn) ga.1 ha
  have p2 := mt_within (gc.2 n hn) ga.1 ha
  obtain ⟨hb, p3⟩ := wi_glb (gc.2 n hn) gb.1 p1 (wi_trans p2 w1)
  obtain ⟨y, hy, q1⟩ := c2 n hn hb
  obtain ⟨hya, p4⟩ := wi_glb (gb.2 y hy) ga.1 (wi_trans p3 q1) p2
  obtain ⟨z, hz, q2⟩ := c1 y hy hya
  exact ⟨z, hz, wi_trans p4 q2⟩
theorem ap_key {L : List (List UInt8)} (h : apL L) {a b : List UInt8} (ha : a ∈ L) (hb : b ∈ L) (hr : wiB a b = true) : a = b := by
  obtain ⟨i, hi, rfl⟩ := List.getElem_of_mem ha
  obtain ⟨j, hj, rfl⟩ := List.getElem_of_mem hb
  rcases Nat.lt_trichotomy i j with hlt | rfl | hlt
  · have := (List.pairwise_iff_getElem.1 h i j hi hj hlt).1
    rw [hr] at this
    cases this
  · rfl
  · have := (List.pairwise_iff_getElem.1 h j i hj hi hlt).2
    rw [hr] at this
    cases this
theorem wi_ne {a b : List UInt8} (h : wiB a b = true) : a ≠ [] := (fit_ne (wi_pos h).1).1
theorem ap_nodup {L : List (List UInt8)} (h : apL L) (hn : ∀ x ∈ L, x ≠ []) : L.Nodup := by
  refine List.pairwise_iff_getElem.2 (fun i j hi hj hlt e => ?_)
  have h1 := (List.pairwise_iff_getElem.1 h i j hi hj hlt).1
  rw [← e, wi_rf (hn _ (List.getElem_mem hi))] at h1
  cases h1
theorem cv_anti {a b : List UInt8 × List (List UInt8)} (fa : FTm a) (fb : FTm b) (h1 : cvC a b = true) (h2 : cvC b a = true) : a = b := by
  obtain ⟨w1, c1⟩ := (cv_iff a b).1 h1
  obtain ⟨w2, c2⟩ := (cv_iff b a).1 h2
  have e1 := wi_anti2 w1 w2
  have half : ∀ (x y : List UInt8 × List (List UInt8)), FTm x → FTm y → x.1 = y.1 → (∀ n ∈ y.2, agB n x.1 = true → ∃ z ∈ x.2, wiB (mtT n x.1) z = true) → ∀ n ∈ y.2, ∃ z ∈ x.2, wiB n z = true := fun x y fx fy e hc n hn => by
    have h3 := wi_eq n x.1 (fy.gl n hn) fx.gc
    rw [e, fy.wi n hn, ← e] at h3
    obtain ⟨h4, h5⟩ := Bool.and_eq_true_iff.1 h3
    have h6 : mtT n x.1 = n := by simpa using h5
    obtain ⟨z, hz, hw⟩ := hc n hn h4
    rw [h6] at hw
    exact ⟨z, hz, hw⟩
  have A1 := half a b fa fb e1 c1
  have A2 := half b a fb fa e1.symm c2
  have sub : ∀ (x y : List UInt8 × List (List UInt8)), FTm y → (∀ n ∈ y.2, ∃ z ∈ x.2, wiB n z = true) → (∀ n ∈ x.2, ∃ z ∈ y.2, wiB n z = true) → ∀ n ∈ y.2, n ∈ x.2 := fun x y fy hx hy n hn => by
    obtain ⟨z, hz, hw⟩ := hx n hn
    obtain ⟨n2, hn2, hw2⟩ := hy z hz
    have e := ap_key fy.ap hn hn2 (wi_trans hw hw2)
    subst e
    have e2 := wi_anti2 hw hw2
    rw [e2]
    exact hz
  have hp : a.2.Perm b.2 := perm_mem _ _ (ap_nodup fa.ap (fun x hx => wi_ne (fa.wi x hx))) (ap_nodup fb.ap (fun x hx => wi_ne (fb.wi x hx))) (fun x => ⟨sub b a fa A2 A1 x, sub a b fb A1 A2 x⟩)
  have e2 : a.2 = b.2 := (srt_eq hp fa.so).trans (srt_eq (List.Perm.refl _) fb.so).symm
  exact Prod.ext e1 e2
theorem topL_perm {L M : List (List UInt8)} (hL : ∀ x ∈ L, x ≠ []) (hm : ∀ x, x ∈ L ↔ x ∈ M) : (topL L).Perm (topL M) := g_perm (r := wiB) (P := fun x => x ≠ []) (fun _ h => wi_rf h) (fun _ _ _ _ _ _ h1 h2 => wi_trans h1 h2) (fun _ _ _ _ h1 h2 => wi_anti2 h1 h2) hL hm
theorem topC_perm {L M : List (List UInt8 × List (List UInt8))} (hL : ∀ x ∈ L, FTm x ∧ x.1 ≠ []) (hm : ∀ x, x ∈ L ↔ x ∈ M) : (topC L).Perm (topC M) := g_perm (r := cvC) (P := fun x => FTm x ∧ x.1 ≠ []) (fun _ h => cv_refl ⟨h.1.gc, h.1.gl⟩ h.2) (fun _ _ _ ha hb hc h1 h2 => cv_trans ⟨ha.1.gc, ha.1.gl⟩ ⟨hb.1.gc, hb.1.gl⟩ ⟨hc.1.gc, hc.1.gl⟩ h1 h2) (fun _ _ ha hb h1 h2 => cv_anti ha.1 hb.1 h1 h2) hL hm
theorem ordT_cong {X Y : List (List UInt8 × List (List UInt8))} (h : (X.map sof).Perm (Y.map sof)) : ordT X = ordT Y := by
  have h1 : (X.map (fun t => t.1 :: srtT t.2)).Perm (Y.map (fun t => t.1 :: srtT t.2)) := by
    have e : ∀ Z : List (List UInt8 × List (List UInt8)), Z.map (fun t => t.1 :: srtT t.2) = (Z.map sof).map (fun t => t.1 :: t.2) := fun Z => by rw [List.map_map]; rfl
    rw [e, e]
    exact h.map _
  have hs : ∀ Z : List (List (List UInt8)), (srtLn Z).Pairwise (fun a b => leLn a b = true) := fun Z => List.pairwise_mergeSort leLn_trans leLn_total _
  unfold ordT
  rw [srtLn_eq ((srtLn_perm _).trans h1) (hs (X.map (fun t => t.1 :: srtT t.2)))]
/-- the form hangs on the terms alone, not on their order -/
theorem form_cong {L M : List (List UInt8 × List (List UInt8))} (hL : ∀ x ∈ L.map sof, FTm x ∧ x.1 ≠ []) (hm : ∀ x, x ∈ L.map sof ↔ x ∈ M.map sof) : ordT (topC L) = ordT (topC M) := by
  refine ordT_cong ?_
  rw [← topC_sof, ← topC_sof]
  exact topC_perm hL hm
theorem set_cong {c : List UInt8} {M N : List (List UInt8)} (hm : ∀ x, x ∈ M ↔ x ∈ N) : (setO c M).map srtT = (setO c N).map srtT := by
  have hl : ∀ x, x ∈ lesL c M ↔ x ∈ lesL c N := fun x => by
    unfold lesL
    rw [List.mem_filterMap, List.mem_filterMap]
    constructor
    · rintro ⟨m, h1, h2⟩
      exact ⟨m, (hm m).1 h1, h2⟩
    · rintro ⟨m, h1, h2⟩
      exact ⟨m, (hm m).2 h1, h2⟩
  have ha : (lesL c M).any (fun t => t == c) = (lesL c N).any (fun t => t == c) := by
    rw [Bool.eq_iff_iff, List.any_eq_true, List.any_eq_true]
    constructor
    · rintro ⟨m, h1, h2⟩
      exact ⟨m, (hl m).1 h1, h2⟩
    · rintro ⟨m, h1, h2⟩
      exact ⟨m, (hl m).2 h1, h2⟩
  unfold setO
  rw [ha]
  split
  · rfl
  · have hp := topL_perm (L := lesL c M) (M := lesL c N) (fun x hx => by
      unfold lesL at hx
      obtain ⟨m, h1, h2⟩ := List.mem_filterMap.1 hx
      split at h2
      · rename_i h3
        cases h2
        exact mt_ne h3
      · cases h2) hl
    show some (srtT (topL (lesL c M))) = some (srtT (topL (lesL c N)))
    exact congrArg some (srt_eq ((srtT_perm _).trans hp) (srtT_sorted (topL (lesL c M))))
end Go.Proofs.YtekjbpemaohipaaGreatDoor
namespace Go.Proofs.YtekjbpemaohipaaGreatDoor
open Go.RowKit Go.Shelf
theorem sof_mD (Y : List (List UInt8 × List (List UInt8))) (x : List UInt8 × List (List UInt8)) : x ∈ ordT Y ↔ ∃ y ∈ Y, sof y = x := by
  rw [(ordT_perm Y).mem_iff, List.mem_map]
/-- a header is in one of the terms, cube by cube -/
def Dn (h : List UInt8) (X : List (List UInt8 × List (List UInt8))) : Bool := X.any (fun t => tdB t.1 t.2 h)
theorem td_iff (c : List UInt8) (L : List (List UInt8)) (h : List UInt8) : tdB c L h = true ↔ wiB h c = true ∧ ∀ m ∈ L, ¬ wiB h m = true := by
  unfold tdB
  rw [Bool.and_eq_true, List.all_eq_true]
  simp
theorem Dn_iff (h : List UInt8) (X : List (List UInt8 × List (List UInt8))) : Dn h X = true ↔ ∃ t ∈ X, wiB h t.1 = true ∧ ∀ m ∈ t.2, ¬ wiB h m = true := by
  unfold Dn
  rw [List.any_eq_true]
  constructor
  · rintro ⟨t, ht, e⟩
    exact ⟨t, ht, (td_iff _ _ _).1 e⟩
  · rintro ⟨t, ht, e⟩
    exact ⟨t, ht, (td_iff _ _ _).2 e⟩
theorem mt_second {m c : List UInt8} (gm : good m = true) (gc : good c = true) (h : agB m c = true) : wiB (mtT m c) c = true := by
  have hn := mt_ne h
  have hf := agB_fit h
  have hl := fitB_len hf
  have hcf := agB_cfl h
  unfold mtT at hn ⊢
  rw [if_pos h] at hn ⊢
  have hml := meetT_len m c hl
  refine wi_mk (fit_mk (by omega) hn) (fun k k1 k2 => ?_)
  have k4 : k < m.length := by omega
  have hg := meetT_get m c hl k k4
  rw [List.getElem?_eq_getElem k1] at hg
  rw [Option.some.inj hg]
  have ta := good_tri gm k k4
  have tb := good_tri gc k k2
  have hk := hcf k
  unfold cfl fx on at hk
  rw [List.getElem?_eq_getElem k4, List.getElem?_eq_getElem k2] at hk
  generalize m[k] = u at *
  generalize c[k] = v at *
  simp [tri] at ta tb
  rcases ta with (rfl | rfl) | rfl <;> rcases tb with (rfl | rfl) | rfl <;> simp_all
theorem les_mem {c h : List UInt8} {L : List (List UInt8)} (gc : good c = true) (gL : ∀ m ∈ L, good m = true) (hc : wiB h c = true) : (∃ m ∈ lesL c L, wiB h m = true) ↔ ∃ m ∈ L, wiB h m = true := by
  unfold lesL
  constructor
  · rintro ⟨x, hx, hw⟩
    obtain ⟨m, hm, e⟩ := List.mem_filterMap.1 hx
    split at e
    · rename_i ha
      obtain rfl := Option.some.inj e
      exact ⟨m, hm, wi_trans hw (mt_first (gL m hm) gc ha)⟩
    · cases e
  · rintro ⟨m, hm, hw⟩
    obtain ⟨h1, h2⟩ := wi_glb (gL m hm) gc hw hc
    exact ⟨mtT m c, List.mem_filterMap.2 ⟨m, hm, by rw [if_pos h1]⟩, h2⟩
theorem top_mem {K : List (List UInt8)} {h : List UInt8} (hn : ∀ x ∈ K, x ≠ []) : (∃ m ∈ topL K, wiB h m = true) ↔ ∃ m ∈ K, wiB h m = true := by
  have hG : GI wiB (topL K) K := gi_all (r := wiB) (P := fun x => x ≠ []) (fun _ h => wi_rf h) (fun _ _ _ _ _ _ h1 h2 => wi_trans h1 h2) hn
  constructor
  · rintro ⟨m, hm, hw⟩
    exact ⟨m, hG.sub m hm, hw⟩
  · rintro ⟨m, hm, hw⟩
    obtain ⟨t, ht, hr⟩ := hG.cov m hm
    exact ⟨t, ht, wi_trans hw hr⟩
theorem les_ne {c : List UInt8} {L : List (List UInt8)} : ∀ x ∈ lesL c L, x ≠ [] := fun x hx => by
  obtain ⟨m, hm, e⟩ := List.mem_filterMap.1 hx
  split at e
  · rename_i ha
    obtain rfl := Option.some.inj e
    exact mt_ne ha
  · cases e
theorem set_none_td {c h : List UInt8} {L : List (List UInt8)} (gc : good c = true) (gL : ∀ m ∈ L, good m = true) (hs : setO c L = none) : ¬ tdB c L h = true := fun ht => by
  obtain ⟨h1, h2⟩ := (td_iff _ _ _).1 ht
  unfold setO at hs
  split at hs
  · rename_i ha
    obtain ⟨x, hx, he⟩ := List.any_eq_true.1 ha
    obtain rfl : x = c := by simpa using he
    obtain ⟨m, hm, hw⟩ := (les_mem gc gL h1).1 ⟨x, hx, h1⟩
    exact h2 m hm hw
  · cases hs
theorem set_some_td {c h : List UInt8} {L R : List (List UInt8)} (gc : good c = true) (gL : ∀ m ∈ L, good m = true) (hs : setO c L = some R) : tdB c R h = tdB c L h := by
  unfold setO at hs
  split at hs
  · cases hs
  · obtain rfl := Option.some.inj hs
    rw [Bool.eq_iff_iff, td_iff, td_iff]
    constructor
    · rintro ⟨h1, h2⟩
      refine ⟨h1, fun m hm hw => ?_⟩
      obtain ⟨x, hx, hw2⟩ := (top_mem les_ne).2 ((les_mem gc gL h1).2 ⟨m, hm, hw⟩)
      exact h2 x hx hw2
    · rintro ⟨h1, h2⟩
      refine ⟨h1, fun m hm hw => ?_⟩
      obtain ⟨x, hx, hw2⟩ := (les_mem gc gL h1).1 ((top_mem les_ne).1 ⟨m, hm, hw⟩)
      exact h2 x hx hw2
theorem Dn_stl {X : List (List UInt8 × List (List UInt8))} (g : gdC X) (h : List UInt8) : Dn h (stl X) = Dn h X := by
  rw [Bool.eq_iff_iff]
  unfold Dn
  rw [List.any_eq_true, List.any_eq_true]
  constructor
  · rintro ⟨t, ht, e⟩
    obtain ⟨u, hu, he⟩ := List.mem_filterMap.1 ht
    cases hs : setO u.1 u.2 with
    | none => rw [hs] at he; cases he
    | some R =>
      rw [hs] at he
      obtain rfl := Option.some.inj he
      exact ⟨u, hu, by rw [← set_some_td (g u hu).1 (g u hu).2 hs]; exact e⟩
  · rintro ⟨u, hu, e⟩
    cases hs : setO u.1 u.2 with
    | none => exact absurd e (set_none_td (g u hu).1 (g u hu).2 hs)
    | some R => exact ⟨(u.1, R), List.mem_filterMap.2 ⟨u, hu, by rw [hs]; rfl⟩, by rw [set_some_td (g u hu).1 (g u hu).2 hs]; exact e⟩
theorem cv_td {a b : List UInt8 × List (List UInt8)} {h : List UInt8} (ga : gdT a) (gb : gdT b) (hc : cvC a b = true) (ht : tdB a.1 a.2 h = true) : tdB b.1 b.2 h = true := by
  obtain ⟨c1, c2⟩ := (cv_iff a b).1 hc
  obtain ⟨h1, h2⟩ := (td_iff _ _ _).1 ht
  refine (td_iff _ _ _).2 ⟨wi_trans h1 c1, fun n hn hw => ?_⟩
  obtain ⟨h3, h4⟩ := wi_glb (gb.2 n hn) ga.1 hw h1
  obtain ⟨y, hy, h5⟩ := c2 n hn h3
  exact h2 y hy (wi_trans h4 h5)
theorem Dn_top {X : List (List UInt8 × List (List UInt8))} (g : ∀ x ∈ X, gdT x ∧ x.1 ≠ []) (h : List UInt8) : Dn h (topC X) = Dn h X := by
  have hG : GI cvC (topC X) X := gi_all (r := cvC) (P := fun x => gdT x ∧ x.1 ≠ []) (fun _ h => cv_refl h.1 h.2) (fun _ _ _ ha hb hc h1 h2 => cv_trans ha.1 hb.1 hc.1 h1 h2) g
  rw [Bool.eq_iff_iff]
  unfold Dn
  rw [List.any_eq_true, List.any_eq_true]
  constructor
  · rintro ⟨t, ht, e⟩
    exact ⟨t, hG.sub t ht, e⟩
  · rintro ⟨u, hu, e⟩
    obtain ⟨t, ht, hr⟩ := hG.cov u hu
    exact ⟨t, ht, cv_td (g u hu).1 (g t (hG.sub t ht)).1 hr e⟩
theorem Dn_ord (X : List (List UInt8 × List (List UInt8))) (h : List UInt8) : Dn h (ordT X) = Dn h X := by
  have hp : ∀ y : List UInt8 × List (List UInt8), tdB (sof y).1 (sof y).2 h = tdB y.1 y.2 h := fun y => by
    rw [Bool.eq_iff_iff, td_iff, td_iff]
    have hm : ∀ x, x ∈ (sof y).2 ↔ x ∈ y.2 := fun x => (srtT_perm y.2).mem_iff
    exact ⟨fun ⟨a, b⟩ => ⟨a, fun m hm' => b m ((hm m).2 hm')⟩, fun ⟨a, b⟩ => ⟨a, fun m hm' => b m ((hm m).1 hm')⟩⟩
  rw [Bool.eq_iff_iff]
  unfold Dn
  rw [List.any_eq_true, List.any_eq_true]
  constructor
  · rintro ⟨t, ht, e⟩
    obtain ⟨y, hy, rfl⟩ := (sof_mD X t).1 ht
    exact ⟨y, hy, by rw [← hp]; exact e⟩
  · rintro ⟨y, hy, e⟩
    exact ⟨sof y, (sof_mD X _).2 ⟨y, hy, rfl⟩, by rw [hp]; exact e⟩
theorem Dn_form {X : List (List UInt8 × List (List UInt8))} (g : gdC X) (hn : ∀ x ∈ X, x.1 ≠ []) (h : List UInt8) : Dn h (ordT (topC (stl X))) = Dn h X := by
  rw [Dn_ord, Dn_top (fun x hx => ?_), Dn_stl g]
  refine ⟨gdC_stl g x hx, ?_⟩
  obtain ⟨u, hu, he⟩ := List.mem_filterMap.1 hx
  cases hs : setO u.1 u.2 with
  | none => rw [hs] at he; cases he
  | some R =>
    rw [hs] at he
    obtain rfl := Option.some.inj he
    exact hn u hu
end Go.Proofs.YtekjbpemaohipaaGreatDoor
namespace Go.Proofs.YtekjbpemaohipaaGreatDoor
open Go.RowKit Go.Shelf
/-- has the header the digits of the cube's text? -/
def ftB (h c : List UInt8) : Bool := (h.length == c.length) && allTo (fun k => match h[k]?, c[k]? with | some x, some y => y == 120 || x == y | _, _ => true) h.length
theorem ft_wi {h c : List UInt8} (hc : c ≠ []) : ftB h c = wiB h c := by
  unfold ftB wiB
  have e : (h.length == c.length) = fitB h c := by
    rw [Bool.eq_iff_iff, beq_iff_eq]
    constructor
    · intro hl
      refine fit_mk hl (fun e => hc ?_)
      rw [e] at hl
      exact List.eq_nil_of_length_eq_zero hl.symm
    · exact fitB_len
  rw [e]
  rfl
theorem first_of {s : UInt8} : ∀ r : List UInt8, s ∉ r ∨ ∃ c t, r = c ++ s :: t ∧ s ∉ c
  | [] => .inl (by simp)
  | x :: r => by
    by_cases e : x = s
    · exact .inr ⟨[], r, by rw [e]; rfl, by simp⟩
    · rcases first_of (s := s) r with h | ⟨c, t, rfl, hc⟩
      · exact .inl (fun hm => (List.mem_cons.1 hm).elim (fun e2 => e e2.symm) h)
      · exact .inr ⟨x :: c, t, rfl, fun hm => (List.mem_cons.1 hm).elim (fun e2 => e e2.symm) hc⟩
theorem prts_no {s : UInt8} {r : List UInt8} (h : s ∉ r) : prts s r = [r] := prts_neg (by rw [idxM_no h]; decide)
theorem prts_mid {s : UInt8} {c t : List UInt8} (hc : s ∉ c) : prts s (c ++ s :: t) = c :: prts s t := by
  rw [prts_pos (idxM_mid _ hc), List.take_left, List.drop_append, List.drop_eq_nil_of_le (by omega)]
  rw [show c.length + 1 - c.length = 1 by omega]
  rfl
theorem prts_sep (s : UInt8) (r : List UInt8) : prts s (s :: r) = [] :: prts s r := prts_mid (c := []) (by simp)
theorem prts_cons {s x : UInt8} (hx : x ≠ s) (r : List UInt8) : prts s (x :: r) = (x :: (prts s r).headD []) :: (prts s r).tail := by
  rcases first_of (s := s) r with h | ⟨c, t, rfl, hc⟩
  · rw [prts_no h, prts_no (fun hm => (List.mem_cons.1 hm).elim (fun e2 => hx e2.symm) h)]
    rfl
  · rw [prts_mid hc]
    exact prts_mid (c := x :: c) (fun hm => (List.mem_cons.1 hm).elim (fun e2 => hx e2.symm) hc)
theorem prts_shape (s : UInt8) (r : List UInt8) : prts s r = (prts s r).headD [] :: (prts s r).tail := by
  have h := prts_ne s r
  cases e : prts s r with
  | nil => rw [e] at h; exact absurd h (by simp)
  | cons a l => rfl
/-- a term and those behind it, cube by cube, as they are read -/
def tms : List UInt8 → List UInt8 × List (List UInt8) × List (List (List UInt8))
  | [] => ([], [], [])
  | x :: r => if x = 43 then ([], [], ((tms r).1 :: (tms r).2.1) :: (tms r).2.2) else if x = 45 then ([], (tms r).1 :: (tms r).2.1, (tms r).2.2) else (x :: (tms r).1, (tms r).2.1, (tms r).2.2)
theorem tms_oth {x : UInt8} {r : List UInt8} (e1 : x ≠ 43) (e2 : x ≠ 45) : tms (x :: r) = (x :: (tms r).1, (tms r).2.1, (tms r).2.2) := by
  show (if x = 43 then _ else if x = 45 then _ else _) = _
  rw [if_neg e1, if_neg e2]
theorem tms_prts : ∀ l : List UInt8, (prts 43 l).map (prts 45) = ((tms l).1 :: (tms l).2.1) :: (tms l).2.2
  | [] => by
    rw [prts_no (by simp)]
    show [prts 45 []] = _
    rw [prts_no (by simp)]
    rfl
  | x :: r => by
    have ih := tms_prts r
    by_cases e1 : x = 43
    · subst e1
      rw [prts_sep, List.map_cons, ih, prts_no (s := 45) (r := []) (by simp)]
      rfl
    · rw [prts_shape 43 r, List.map_cons] at ih
      injection ih with i1 i2
      rw [prts_cons e1, List.map_cons, i2]
      by_cases e2 : x = 45
      · subst e2
        rw [prts_sep, i1]
        rfl
      · rw [prts_cons e2, i1, tms_oth e1 e2]
        rfl
def tmB (h : List UInt8) (T : List (List UInt8)) : Bool := ftB h (T.headD []) && T.tail.all (fun m => !ftB h m)
/-- the reading of a text: the cube so far, whether the header is in the term so far, whether the cube is its first, whether it was in one -/
def sdM (h : List UInt8) : List UInt8 → List UInt8 → Bool → Bool → Bool → Bool
  | [], cur, inn, fst, sm => sm || (inn && (if fst then ftB h cur else !ftB h cur))
  | x :: r, cur, inn, fst, sm => if x = 43 then sdM h r [] true true (sm || (inn && (if fst then ftB h cur else !ftB h cur))) else if x = 45 then sdM h r [] (inn && (if fst then ftB h cur else !ftB h cur)) false sm else sdM h r (cur ++ [x]) inn fst sm
theorem sdM_eq (h : List UInt8) : ∀ (l cur : List UInt8) (inn fst sm : Bool), sdM h l cur inn fst sm = (sm || ((inn && (if fst then ftB h (cur ++ (tms l).1) else !ftB h (cur ++ (tms l).1))) && (tms l).2.1.all (fun m => !ftB h m)) || (tms l).2.2.any (tmB h))
  | [], cur, inn, fst, sm => by simp [sdM, tms]
  | x :: r, cur, inn, fst, sm => by
    unfold sdM tms
    by_cases e1 : x = 43
    · rw [if_pos e1, if_pos e1, sdM_eq h r]
      simp only [List.nil_append, List.append_nil, List.all_nil, Bool.and_true, List.any_cons, if_true, Bool.true_and]
      have e : tmB h ((tms r).1 :: (tms r).2.1) = (ftB h (tms r).1 && (tms r).2.1.all (fun m => !ftB h m)) := rfl
      rw [e]
      simp only [Bool.or_assoc]
    · rw [if_neg e1, if_neg e1]
      by_cases e2 : x = 45
      · rw [if_pos e2, if_pos e2, sdM_eq h r]
        simp only [List.nil_append, List.append_nil, List.all_cons, if_false, Bool.false_eq_true, Bool.and_assoc]
      · rw [if_neg e2, if_neg e2, sdM_eq h r]
        simp only [List.append_assoc, List.singleton_append]
/-- by the text alone: is the header in it? -/
def sdB (l h : List UInt8) : Bool := if l = [110, 111, 110, 101] then false else sdM h l [] true true false
theorem sd_pr {b : Int} {l : List UInt8} (h : List UInt8) (h0 : prE b l = 0) : sdB l h = Dn h (prT b l) := by
  unfold sdB prT
  rw [if_pos h0]
  by_cases hl : l = [110, 111, 110, 101]
  · rw [if_pos hl, if_pos hl]
    rfl
  · rw [if_neg hl, if_neg hl, sdM_eq]
    obtain ⟨-, -, h3⟩ := prE_zero h0
    have hok := h3.resolve_left hl
    have hT : ∀ t ∈ (prts 43 l).map tcon, (good t.1 = true ∧ t.1 ≠ []) ∧ ∀ m ∈ t.2, good m = true ∧ m ≠ [] := fun t ht => by
      obtain ⟨p, hp, rfl⟩ := List.mem_map.1 ht
      have h5 := List.all_eq_true.1 hok p hp
      unfold okT at h5
      rw [List.all_eq_true] at h5
      have hq : ∀ m ∈ prts 45 p, good m = true ∧ m ≠ [] := fun m hm => by
        have h6 := h5 m hm
        unfold okP at h6
        have h7 : refP m = 0 := by simpa using (Bool.and_eq_true_iff.1 h6).1
        have h8 := (refP_zero m).1 h7
        exact ⟨h8.2, h8.1⟩
      have hs := prts_shape 45 p
      refine ⟨hq _ (by rw [hs]; exact List.mem_cons_self), fun m hm => hq m (by rw [hs]; exact List.mem_cons_of_mem _ hm)⟩
    rw [Dn_form (fun t ht => ⟨((hT t ht).1).1, fun m hm => ((hT t ht).2 m hm).1⟩) (fun t ht => ((hT t ht).1).2)]
    have e1 : (false || ((true && (if true = true then ftB h ([] ++ (tms l).1) else !ftB h ([] ++ (tms l).1))) && (tms l).2.1.all (fun m => !ftB h m)) || (tms l).2.2.any (tmB h)) = (((tms l).1 :: (tms l).2.1) :: (tms l).2.2).any (tmB h) := by
      rw [List.any_cons]
      rfl
    have e2 : (if true = true then ftB h ([] ++ (tms l).1) else !ftB h ([] ++ (tms l).1)) = ftB h ([] ++ (tms l).1) := rfl
    refine e1.trans ?_
    rw [← tms_prts]
    unfold Dn
    rw [List.any_map, List.any_map]
    refine any_congrB (fun p hp => ?_)
    have h9 := hT (tcon p) (List.mem_map_of_mem hp)
    show tmB h (prts 45 p) = tdB (tcon p).1 (tcon p).2 h
    unfold tmB tdB
    have h10 : (prts 45 p).headD [] = (tcon p).1 := rfl
    have h11 : (prts 45 p).tail = (tcon p).2 := rfl
    rw [h10, h11, ft_wi h9.1.2]
    congr 1
    refine all_congrB (fun m hm => ?_)
    rw [ft_wi (h9.2 m hm).2]
theorem has_dig {c h : List UInt8} (hd : h.all digB = true) : hasB c h = wiB h c := by
  by_cases hl : c.length = h.length
  · exact has_wi hl hd
  · have h1 : wiB h c = false := by
      unfold wiB
      have : fitB h c = false := by
        cases hf : fitB h c
        · rfl
        · exact absurd (fitB_len hf).symm hl
      rw [this]
      rfl
    rw [h1]
    unfold hasB
    simp
    omega
theorem hs_dn {h : List UInt8} (hd : h.all digB = true) (X : List (List UInt8 × List (List UInt8))) : hsB X h = Dn h X := by
  unfold hsB Dn
  refine any_congrB (fun t _ => ?_)
  unfold thB tdB
  rw [has_dig hd]
  congr 1
  exact all_congrB (fun m _ => by rw [has_dig hd])
end Go.Proofs.YtekjbpemaohipaaGreatDoor
namespace Go.Proofs.YtekjbpemaohipaaGreatDoor
open Go.RowKit Go.Shelf
/-- example 1 -/
def awT : List UInt8 := [49, 48, 120, 120, 45, 49, 49, 49, 49, 45, 49, 48, 49, 120, 45, 49, 48, 49, 48, 43, 48, 120, 120, 120, 45, 49, 120, 120, 120]
theorem aw1 : stl [([49, 48, 120, 120], [[49, 49, 49, 49], [49, 48, 49, 120], [49, 48, 49, 48]]), ([48, 120, 120, 120], [[49, 120, 120, 120]])] = [([49, 48, 120, 120], [[49, 48, 49, 120]]), ([48, 120, 120, 120], [])] := by decide +kernel
theorem aw2 : topC [([49, 48, 120, 120], [[49, 48, 49, 120]]), ([48, 120, 120, 120], [])] = [([49, 48, 120, 120], [[49, 48, 49, 120]]), ([48, 120, 120, 120], [])] := by decide +kernel
theorem aw3 : ordT [([49, 48, 120, 120], [[49, 48, 49, 120]]), ([48, 120, 120, 120], [])] = [([48, 120, 120, 120], []), ([49, 48, 120, 120], [[49, 48, 49, 120]])] := by
  have h : ¬ leLn [[49, 48, 120, 120], [49, 48, 49, 120]] [[48, 120, 120, 120]] = true := by decide +kernel
  unfold ordT srtLn
  simp [srtT, List.mergeSort, h]
set_option maxRecDepth 100000 in
theorem aw5 : prE 4 awT = 0 := by decide +kernel
set_option maxRecDepth 100000 in
theorem aw6 : (prts 43 awT).map tcon = [([49, 48, 120, 120], [[49, 49, 49, 49], [49, 48, 49, 120], [49, 48, 49, 48]]), ([48, 120, 120, 120], [[49, 120, 120, 120]])] := by decide +kernel
theorem aw7 : prT 4 awT = [([48, 120, 120, 120], []), ([49, 48, 120, 120], [[49, 48, 49, 120]])] := by
  unfold prT
  rw [if_pos aw5, if_neg (by decide), aw6, aw1, aw2, aw3]
theorem aw_ok : prE 4 awT = 0 ∧ txC (prT 4 awT) = [48, 120, 120, 120, 43, 49, 48, 120, 120, 45, 49, 48, 49, 120] ∧ szC (prT 4 awT) = 3 := by
  rw [aw7]
  exact ⟨aw5, by decide +kernel, by decide +kernel⟩
set_option maxRecDepth 100000 in
set_option maxHeartbeats 4000000 in
theorem awake_any (w : World) : Calls Tryz.prog 4 #[] w fun e w' => e = .returned (.bool true) ∧ Below w.heap.size w w' := by
  obtain ⟨a1, a2, a3⟩ := aw_ok
  have ok := prT_ok 4 awT
  have hB : prB 4 awT = 4 := by unfold prB; rw [if_pos a1]
  obtain ⟨X, hX⟩ : ∃ X, prT 4 awT = X := ⟨_, rfl⟩
  have HP : Hid (Calls Tryz.prog 5 #[.int .i64 4, .string ⟨#[49, 48, 120, 120, 45, 49, 49, 49, 49, 45, 49, 48, 49, 120, 45, 49, 48, 49, 48, 43, 48, 120, 120, 120, 45, 49, 120, 120, 120]⟩] w fun e w' => ∃ V, e = .returned (.tuple #[.agg #[.int .i64 4, V, .bool false], .int .i64 0]) ∧ SPL w' w.heap.size V X ∧ Below w.heap.size w w') := by
    have h := sParse_any 4 awT w (by unfold maxLen awT; decide)
    unfold PRS at h
    rw [hB, a1, hX] at h
    exact h
  rw [hX] at a2 a3 ok
  have HT : Hid (∀ (W : World) (V : Value) (B : Nat), SPL W B V X → Calls Tryz.prog 16 #[.agg #[.int .i64 4, V, .bool false]] W fun e w' => e = .returned (.string ⟨#[48, 120, 120, 120, 43, 49, 48, 120, 120, 45, 49, 48, 49, 120]⟩) ∧ Below W.heap.size W w') := fun W V B h => by
    have h1 := spText_any 4 V X B W h ok.2 ok.1
    rw [a2] at h1
    exact h1
  have HS : Hid (∀ (W : World) (V : Value) (B : Nat), SPL W B V X → Calls Tryz.prog 17 #[.agg #[.int .i64 4, V, .bool false]] W fun e w' => e = .returned (.int .i64 3) ∧ Below W.heap.size W w') := fun W V B h => by
    have h1 := spSize_any 4 V X B W h ok.2
    rw [a3] at h1
    exact h1
  clear a1 a2 a3 ok hB hX
  obtain ⟨n, hn⟩ : ∃ n, X.length = n := ⟨_, rfl⟩
  go_enter Tryz.func4, Tryz.ntmps4
  go_wp2_with fail
  refine HP.out.mono ?_
  rintro e w1 ⟨V, rfl, sv, hb1⟩
  obtain ⟨p, c, rfl⟩ := sv.shape
  rw [hn] at sv ⊢
  have HF : Hid (∀ W, Below (w1.alloc (.cells #[.int .i64 4, .slice p n c, .bool false] 26 (0, 0))).heap.size (w1.alloc (.cells #[.int .i64 4, .slice p n c, .bool false] 26 (0, 0))) W → (∀ j, W.cell? ⟨w1.heap.size, j, none⟩ = (#[.int .i64 4, .slice p n c, .bool false] : Array Value)[j]?) ∧ SPL W w.heap.size (.slice p n c) X ∧ Below w.heap.size w W) := fun W hW => by
    have h1 : Below w1.heap.size w1 W := bel0 (belA (Below.refl _ _) _) hW
    exact ⟨(cells_block (keepblk3 hW (alloc_get _ _))).1, sv.below h1, bel0 hb1 h1⟩
  obtain ⟨f1, g1, -⟩ := HF.out _ (Below.refl _ _)
  clear sv hb1 HP
  go_wp2_with fail
  refine (HT.out _ _ _ g1).mono ?_
  rintro e w2 ⟨rfl, hb2⟩
  obtain ⟨f2, g2, -⟩ := HF.out w2 hb2
  clear f1 g1
  go_wp2_with fail
  refine (HS.out _ _ _ g2).mono ?_
  rintro e w3 ⟨rfl, hb3⟩
  have hb3' := bel0 hb2 hb3
  obtain ⟨f3, g3, -⟩ := HF.out w3 hb3'
  clear f2 g2 hb2 hb3
  go_wp2_with fail
  refine (bits_any 4 p n c _).mono ?_
  rintro e w4 ⟨rfl, hb4⟩
  clear f3 g3
  go_wp2_with fail
  go_ret
  exact ⟨rfl, (HF.out w4 (bel0 hb3' hb4)).2.2⟩
end Go.Proofs.YtekjbpemaohipaaGreatDoor

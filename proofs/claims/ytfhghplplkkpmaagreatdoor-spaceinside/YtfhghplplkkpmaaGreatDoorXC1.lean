import Derived.Test.YtfhghplplkkpmaaGreatDoorXAX
import Derived.Test.YtfhghplplkkpmaaGreatDoorXAV
namespace Go.Proofs.YtfhghplplkkpmaaGreatDoor
open Go.RowKit Go.Shelf
theorem sof_mD (Y : List (List UInt8 × List (List UInt8))) (x : List UInt8 × List (List UInt8)) : x ∈ ordT Y ↔ ∃ y ∈ Y, sof y = x := by
  rw [(ordT_perm Y).mem_iff, List.mem_map]
/-- a header is in one of the terms, cube by cube -/
def Dn (h : List UInt8) (X : List (List UInt8 × List (List UInt8))) : Bool := X.any (fun t => tdB t.1 t.2 h)
theorem td_iff (c : List UInt8) (L : List (List UInt8)) (h : List UInt8) : tdB c L h = true ↔ wiB h c = true ∧ ∀ m ∈ L, ¬ wiB h m = true := by
  unfold tdB
  rw [Bool.and_eq_true, List.all_eq_true]
  simp
theorem Dn_iff (h : List UInt8) (X : List (List UInt8 × List (List UInt8))) : Dn h X = true ↔ ∃ t ∈ X, wiB h t.1 = true ∧ ∀ m ∈ t.2, ¬ wiB h m = true := by
  unfold Dn
  rw [List.any_eq_true]
  constructor
  · rintro ⟨t, ht, e⟩
    exact ⟨t, ht, (td_iff _ _ _).1 e⟩
  · rintro ⟨t, ht, e⟩
    exact ⟨t, ht, (td_iff _ _ _).2 e⟩
theorem mt_second {m c : List UInt8} (gm : good m = true) (gc : good c = true) (h : agB m c = true) : wiB (mtT m c) c = true := by
  have hn := mt_ne h
  have hf := agB_fit h
  have hl := fitB_len hf
  have hcf := agB_cfl h
  unfold mtT at hn ⊢
  rw [if_pos h] at hn ⊢
  have hml := meetT_len m c hl
  refine wi_mk (fit_mk (by omega) hn) (fun k k1 k2 => ?_)
  have k4 : k < m.length := by omega
  have hg := meetT_get m c hl k k4
  rw [List.getElem?_eq_getElem k1] at hg
  rw [Option.some.inj hg]
  have ta := good_tri gm k k4
  have tb := good_tri gc k k2
  have hk := hcf k
  unfold cfl fx on at hk
  rw [List.getElem?_eq_getElem k4, List.getElem?_eq_getElem k2] at hk
  generalize m[k] = u at *
  generalize c[k] = v at *
  simp [tri] at ta tb
  rcases ta with (rfl | rfl) | rfl <;> rcases tb with (rfl | rfl) | rfl <;> simp_all
theorem les_mem {c h : List UInt8} {L : List (List UInt8)} (gc : good c = true) (gL : ∀ m ∈ L, good m = true) (hc : wiB h c = true) : (∃ m ∈ lesL c L, wiB h m = true) ↔ ∃ m ∈ L, wiB h m = true := by
  unfold lesL
  constructor
  · rintro ⟨x, hx, hw⟩
    obtain ⟨m, hm, e⟩ := List.mem_filterMap.1 hx
    split at e
    · rename_i ha
      obtain rfl := Option.some.inj e
      exact ⟨m, hm, wi_trans hw (mt_first (gL m hm) gc ha)⟩
    · cases e
  · rintro ⟨m, hm, hw⟩
    obtain ⟨h1, h2⟩ := wi_glb (gL m hm) gc hw hc
    exact ⟨mtT m c, List.mem_filterMap.2 ⟨m, hm, by rw [if_pos h1]⟩, h2⟩
theorem top_mem {K : List (List UInt8)} {h : List UInt8} (hn : ∀ x ∈ K, x ≠ []) : (∃ m ∈ topL K, wiB h m = true) ↔ ∃ m ∈ K, wiB h m = true := by
  have hG : GI wiB (topL K) K := gi_all (r := wiB) (P := fun x => x ≠ []) (fun _ h => wi_rf h) (fun _ _ _ _ _ _ h1 h2 => wi_trans h1 h2) hn
  constructor
  · rintro ⟨m, hm, hw⟩
    exact ⟨m, hG.sub m hm, hw⟩
  · rintro ⟨m, hm, hw⟩
    obtain ⟨t, ht, hr⟩ := hG.cov m hm
    exact ⟨t, ht, wi_trans hw hr⟩
theorem les_ne {c : List UInt8} {L : List (List UInt8)} : ∀ x ∈ lesL c L, x ≠ [] := fun x hx => by
  obtain ⟨m, hm, e⟩ := List.mem_filterMap.1 hx
  split at e
  · rename_i ha
    obtain rfl := Option.some.inj e
    exact mt_ne ha
  · cases e
theorem set_none_td {c h : List UInt8} {L : List (List UInt8)} (gc : good c = true) (gL : ∀ m ∈ L, good m = true) (hs : setO c L = none) : ¬ tdB c L h = true := fun ht => by
  obtain ⟨h1, h2⟩ := (td_iff _ _ _).1 ht
  unfold setO at hs
  split at hs
  · rename_i ha
    obtain ⟨x, hx, he⟩ := List.any_eq_true.1 ha
    obtain rfl : x = c := by simpa using he
    obtain ⟨m, hm, hw⟩ := (les_mem gc gL h1).1 ⟨x, hx, h1⟩
    exact h2 m hm hw
  · cases hs
theorem set_some_td {c h : List UInt8} {L R : List (List UInt8)} (gc : good c = true) (gL : ∀ m ∈ L, good m = true) (hs : setO c L = some R) : tdB c R h = tdB c L h := by
  unfold setO at hs
  split at hs
  · cases hs
  · obtain rfl := Option.some.inj hs
    rw [Bool.eq_iff_iff, td_iff, td_iff]
    constructor
    · rintro ⟨h1, h2⟩
      refine ⟨h1, fun m hm hw => ?_⟩
      obtain ⟨x, hx, hw2⟩ := (top_mem les_ne).2 ((les_mem gc gL h1).2 ⟨m, hm, hw⟩)
      exact h2 x hx hw2
    · rintro ⟨h1, h2⟩
      refine ⟨h1, fun m hm hw => ?_⟩
      obtain ⟨x, hx, hw2⟩ := (les_mem gc gL h1).1 ((top_mem les_ne).1 ⟨m, hm, hw⟩)
      exact h2 x hx hw2
theorem Dn_stl {X : List (List UInt8 × List (List UInt8))} (g : gdC X) (h : List UInt8) : Dn h (stl X) = Dn h X := by
  rw [Bool.eq_iff_iff]
  unfold Dn
  rw [List.any_eq_true, List.any_eq_true]
  constructor
  · rintro ⟨t, ht, e⟩
    obtain ⟨u, hu, he⟩ := List.mem_filterMap.1 ht
    cases hs : setO u.1 u.2 with
    | none => rw [hs] at he; cases he
    | some R =>
      rw [hs] at he
      obtain rfl := Option.some.inj he
      exact ⟨u, hu, by rw [← set_some_td (g u hu).1 (g u hu).2 hs]; exact e⟩
  · rintro ⟨u, hu, e⟩
    cases hs : setO u.1 u.2 with
    | none => exact absurd e (set_none_td (g u hu).1 (g u hu).2 hs)
    | some R => exact ⟨(u.1, R), List.mem_filterMap.2 ⟨u, hu, by rw [hs]; rfl⟩, by rw [set_some_td (g u hu).1 (g u hu).2 hs]; exact e⟩
theorem cv_td {a b : List UInt8 × List (List UInt8)} {h : List UInt8} (ga : gdT a) (gb : gdT b) (hc : cvC a b = true) (ht : tdB a.1 a.2 h = true) : tdB b.1 b.2 h = true := by
  obtain ⟨c1, c2⟩ := (cv_iff a b).1 hc
  obtain ⟨h1, h2⟩ := (td_iff _ _ _).1 ht
  refine (td_iff _ _ _).2 ⟨wi_trans h1 c1, fun n hn hw => ?_⟩
  obtain ⟨h3, h4⟩ := wi_glb (gb.2 n hn) ga.1 hw h1
  obtain ⟨y, hy, h5⟩ := c2 n hn h3
  exact h2 y hy (wi_trans h4 h5)
theorem Dn_top {X : List (List UInt8 × List (List UInt8))} (g : ∀ x ∈ X, gdT x ∧ x.1 ≠ []) (h : List UInt8) : Dn h (topC X) = Dn h X := by
  have hG : GI cvC (topC X) X := gi_all (r := cvC) (P := fun x => gdT x ∧ x.1 ≠ []) (fun _ h => cv_refl h.1 h.2) (fun _ _ _ ha hb hc h1 h2 => cv_trans ha.1 hb.1 hc.1 h1 h2) g
  rw [Bool.eq_iff_iff]
  unfold Dn
  rw [List.any_eq_true, List.any_eq_true]
  constructor
  · rintro ⟨t, ht, e⟩
    exact ⟨t, hG.sub t ht, e⟩
  · rintro ⟨u, hu, e⟩
    obtain ⟨t, ht, hr⟩ := hG.cov u hu
    exact ⟨t, ht, cv_td (g u hu).1 (g t (hG.sub t ht)).1 hr e⟩
theorem Dn_ord (X : List (List UInt8 × List (List UInt8))) (h : List UInt8) : Dn h (ordT X) = Dn h X := by
  have hp : ∀ y : List UInt8 × List (List UInt8), tdB (sof y).1 (sof y).2 h = tdB y.1 y.2 h := fun y => by
    rw [Bool.eq_iff_iff, td_iff, td_iff]
    have hm : ∀ x, x ∈ (sof y).2 ↔ x ∈ y.2 := fun x => (srtT_perm y.2).mem_iff
    exact ⟨fun ⟨a, b⟩ => ⟨a, fun m hm' => b m ((hm m).2 hm')⟩, fun ⟨a, b⟩ => ⟨a, fun m hm' => b m ((hm m).1 hm')⟩⟩
  rw [Bool.eq_iff_iff]
  unfold Dn
  rw [List.any_eq_true, List.any_eq_true]
  constructor
  · rintro ⟨t, ht, e⟩
    obtain ⟨y, hy, rfl⟩ := (sof_mD X t).1 ht
    exact ⟨y, hy, by rw [← hp]; exact e⟩
  · rintro ⟨y, hy, e⟩
    exact ⟨sof y, (sof_mD X _).2 ⟨y, hy, rfl⟩, by rw [hp]; exact e⟩
theorem Dn_form {X : List (List UInt8 × List (List UInt8))} (g : gdC X) (hn : ∀ x ∈ X, x.1 ≠ []) (h : List UInt8) : Dn h (ordT (topC (stl X))) = Dn h X := by
  rw [Dn_ord, Dn_top (fun x hx => ?_), Dn_stl g]
  refine ⟨gdC_stl g x hx, ?_⟩
  obtain ⟨u, hu, he⟩ := List.mem_filterMap.1 hx
  cases hs : setO u.1 u.2 with
  | none => rw [hs] at he; cases he
  | some R =>
    rw [hs] at he
    obtain rfl := Option.some.inj he
    exact hn u hu
end Go.Proofs.YtfhghplplkkpmaaGreatDoor
namespace Go.Proofs.YtfhghplplkkpmaaGreatDoor
open Go.RowKit Go.Shelf
theorem Dn_app (X Y : List (List UInt8 × List (List UInt8))) (h : List UInt8) : Dn h (X ++ Y) = (Dn h X || Dn h Y) := by
  unfold Dn
  rw [List.any_append]
theorem Dn_cm {A C : List (List UInt8 × List (List UInt8))} (gA : gdC A) (gC : gdC C) (h : List UInt8) : Dn h (cmN A C) = (Dn h A && Dn h C) := by
  rw [Bool.eq_iff_iff, Bool.and_eq_true, Dn_iff, Dn_iff, Dn_iff]
  unfold cmN
  constructor
  · rintro ⟨t, ht, h1, h2⟩
    obtain ⟨a, ha, ht⟩ := List.mem_flatMap.1 ht
    obtain ⟨c, hc, he⟩ := List.mem_filterMap.1 ht
    split at he
    · rename_i hq
      obtain rfl := Option.some.inj he
      have w1 := wi_trans h1 (mt_first (gA a ha).1 (gC c hc).1 hq)
      have w2 : wiB h c.1 = true := wi_trans h1 (mt_second (gA a ha).1 (gC c hc).1 hq)
      exact ⟨⟨a, ha, w1, fun m hm => h2 m (List.mem_append_left _ hm)⟩, ⟨c, hc, w2, fun m hm => h2 m (List.mem_append_right _ hm)⟩⟩
    · cases he
  · rintro ⟨⟨a, ha, h1, h2⟩, ⟨c, hc, h3, h4⟩⟩
    obtain ⟨h5, h6⟩ := wi_glb (gA a ha).1 (gC c hc).1 h1 h3
    refine ⟨(mtT a.1 c.1, a.2 ++ c.2), List.mem_flatMap.2 ⟨a, ha, List.mem_filterMap.2 ⟨c, hc, by rw [if_pos h5]⟩⟩, h6, fun m hm => ?_⟩
    rcases List.mem_append.1 hm with hm | hm
    · exact h2 m hm
    · exact h4 m hm
theorem Dn_wt {X : List (List UInt8 × List (List UInt8))} {c : List UInt8} {L : List (List UInt8)} (gX : gdC X) (gL : ∀ m ∈ L, good m = true) (h : List UInt8) : Dn h (wtN X c L) = (Dn h X && !tdB c L h) := by
  rw [Bool.eq_iff_iff, Bool.and_eq_true, Dn_iff, Dn_iff]
  have hneg : ((!tdB c L h) = true) ↔ ¬ (wiB h c = true ∧ ∀ m ∈ L, ¬ wiB h m = true) := by
    rw [← td_iff]
    cases tdB c L h <;> simp
  rw [hneg]
  unfold wtN
  constructor
  · rintro ⟨t, ht, h1, h2⟩
    obtain ⟨x, hx, ht⟩ := List.mem_flatMap.1 ht
    rcases List.mem_cons.1 ht with rfl | ht
    · exact ⟨⟨x, hx, h1, fun m hm => h2 m (List.mem_append_left _ hm)⟩, fun ⟨e, _⟩ => h2 c (List.mem_append_right _ (List.mem_singleton.2 rfl)) e⟩
    · obtain ⟨n, hn, he⟩ := List.mem_filterMap.1 ht
      split at he
      · rename_i hq
        obtain rfl := Option.some.inj he
        have w1 := wi_trans h1 (mt_first (gX x hx).1 (gL n hn) hq)
        have w2 : wiB h n = true := wi_trans h1 (mt_second (gX x hx).1 (gL n hn) hq)
        exact ⟨⟨x, hx, w1, h2⟩, fun ⟨_, e⟩ => e n hn w2⟩
      · cases he
  · rintro ⟨⟨x, hx, h1, h2⟩, h3⟩
    by_cases hc : wiB h c = true
    · have : ∃ n ∈ L, wiB h n = true := by
        by_cases he : ∃ n ∈ L, wiB h n = true
        · exact he
        · exact absurd ⟨hc, fun m hm hw => he ⟨m, hm, hw⟩⟩ h3
      obtain ⟨n, hn, hw⟩ := this
      obtain ⟨h5, h6⟩ := wi_glb (gX x hx).1 (gL n hn) h1 hw
      exact ⟨(mtT x.1 n, x.2), List.mem_flatMap.2 ⟨x, hx, List.mem_cons_of_mem _ (List.mem_filterMap.2 ⟨n, hn, by rw [if_pos h5]⟩)⟩, h6, h2⟩
    · refine ⟨(x.1, x.2 ++ [c]), List.mem_flatMap.2 ⟨x, hx, List.mem_cons_self⟩, h1, fun m hm => ?_⟩
      rcases List.mem_append.1 hm with hm | hm
      · exact h2 m hm
      · obtain rfl := List.mem_singleton.1 hm
        exact hc
theorem topC_subF : ∀ (L T : List (List UInt8 × List (List UInt8))) (x : List UInt8 × List (List UInt8)), x ∈ L.foldl topCS T → x ∈ T ∨ x ∈ L
  | [], T, x, h => .inl h
  | a :: l, T, x, h => by
    rcases topC_subF l (topCS T a) x h with h1 | h1
    · unfold topCS at h1
      split at h1
      · exact .inl h1
      · rcases List.mem_append.1 h1 with h1 | h1
        · exact .inl (List.mem_filter.1 h1).1
        · obtain rfl := List.mem_singleton.1 h1
          exact .inr List.mem_cons_self
    · exact .inr (List.mem_cons_of_mem _ h1)
theorem topC_sub {L : List (List UInt8 × List (List UInt8))} {x : List UInt8 × List (List UInt8)} (h : x ∈ topC L) : x ∈ L := by
  rcases topC_subF L [] x h with h1 | h1
  · cases h1
  · exact h1
theorem tk_ne {X : List (List UInt8 × List (List UInt8))} {c : List UInt8} {L : List (List UInt8)} (h : ∀ x ∈ X, x.1 ≠ []) : ∀ t ∈ tkT X c L, t.1 ≠ [] := fun t ht => by
  unfold tkT at ht
  split at ht
  · obtain ⟨y, hy, rfl⟩ := (sof_mem _ t).1 ht
    have hw := wt_ne (c := c) (L := L) h
    have hy2 : y ∈ stl (wtN X c L) := topC_sub hy
    obtain ⟨u, hu, he⟩ := List.mem_filterMap.1 hy2
    cases hs : setO u.1 u.2 with
    | none => rw [hs] at he; cases he
    | some R =>
      rw [hs] at he
      obtain rfl := Option.some.inj he
      exact hw u hu
  · cases ht
theorem Dn_tk (h : List UInt8) : ∀ (C A R : List (List UInt8 × List (List UInt8))), gdC A → gdC C → (∀ x ∈ A, x.1 ≠ []) → tkA A C = some R → Dn h R = (Dn h A && !Dn h C)
  | [], A, R, _, _, _, e => by
    obtain rfl : A = R := Option.some.inj e
    simp [Dn]
  | u :: r, A, R, gA, gC, hn, e => by
    unfold tkA at e
    split at e
    · rename_i h0
      have hu := gC u List.mem_cons_self
      have hk := tk_ok (c := u.1) (L := u.2) gA hu.1 hu.2
      have ih := Dn_tk h r _ R hk.1 (fun t ht => gC t (List.mem_cons_of_mem _ ht)) (tk_ne hn) e
      have e1 : Dn h (tkT A u.1 u.2) = (Dn h A && !tdB u.1 u.2 h) := by
        unfold tkT
        rw [if_pos h0, Dn_form (gdC_wt gA hu.1 hu.2) (wt_ne hn), Dn_wt gA hu.2]
      have e2 : Dn h (u :: r) = (tdB u.1 u.2 h || Dn h r) := by
        unfold Dn
        rw [List.any_cons]
      rw [ih, e1, e2]
      cases Dn h A <;> cases tdB u.1 u.2 h <;> cases Dn h r <;> rfl
    · cases e
end Go.Proofs.YtfhghplplkkpmaaGreatDoor

import Derived.Test.YtcejejiomhhpgaaGreatDoorXBX
import Derived.Test.YtcejejiomhhpgaaGreatDoorXBM
namespace Go.Proofs.YtcejejiomhhpgaaGreatDoor
open Go.RowKit Go.Shelf
/-- a term lies below one of the list -/
def dnS (X : List (List UInt8 × List (List UInt8))) (x : List UInt8 × List (List UInt8)) : Prop := ∃ y ∈ X, cvC x y = true
def FA (X : List (List UInt8 × List (List UInt8))) : Prop := ∀ x ∈ X, FTm x ∧ x.1 ≠ []
theorem FTm.gd {x : List UInt8 × List (List UInt8)} (h : FTm x) : gdT x := ⟨h.gc, h.gl⟩
theorem FA_gi {X : List (List UInt8 × List (List UInt8))} (h : FA X) : GI cvC (topC X) X := gi_all (r := cvC) (P := fun x => gdT x ∧ x.1 ≠ []) (fun _ h => cv_refl h.1 h.2) (fun _ _ _ ha hb hc h1 h2 => cv_trans ha.1 hb.1 hc.1 h1 h2) (fun x hx => ⟨(h x hx).1.gd, (h x hx).2⟩)
theorem sof_self {t : List UInt8 × List (List UInt8)} (h : FTm t) : sof t = t := by
  unfold sof
  rw [srtT_id h.so]
theorem ord_mem {X : List (List UInt8 × List (List UInt8))} (h : FA X) (x : List UInt8 × List (List UInt8)) : x ∈ ordT X ↔ x ∈ X := by
  rw [sof_mem]
  constructor
  · rintro ⟨y, hy, rfl⟩
    rw [sof_self (h y hy).1]
    exact hy
  · intro hx
    exact ⟨x, hx, sof_self (h x hx).1⟩
theorem FA_top {X : List (List UInt8 × List (List UInt8))} (h : FA X) : FA (topC X) := fun x hx => h x (topC_sub hx)
theorem FA_form {X : List (List UInt8 × List (List UInt8))} (h : FA X) : FA (ordT (topC X)) := fun x hx => h x (topC_sub ((ord_mem (FA_top h) x).1 hx))
theorem FA_app {X Y : List (List UInt8 × List (List UInt8))} (h1 : FA X) (h2 : FA Y) : FA (X ++ Y) := fun x hx => (List.mem_append.1 hx).elim (h1 x) (h2 x)
theorem dn_app (X Y : List (List UInt8 × List (List UInt8))) (x : List UInt8 × List (List UInt8)) : dnS (X ++ Y) x ↔ dnS X x ∨ dnS Y x := by
  unfold dnS
  constructor
  · rintro ⟨y, hy, h⟩
    rcases List.mem_append.1 hy with hy | hy
    · exact .inl ⟨y, hy, h⟩
    · exact .inr ⟨y, hy, h⟩
  · rintro (⟨y, hy, h⟩ | ⟨y, hy, h⟩)
    · exact ⟨y, List.mem_append_left _ hy, h⟩
    · exact ⟨y, List.mem_append_right _ hy, h⟩
theorem dn_form {X : List (List UInt8 × List (List UInt8))} (h : FA X) {x : List UInt8 × List (List UInt8)} (hx : FTm x) : dnS (ordT (topC X)) x ↔ dnS X x := by
  have hG := FA_gi h
  constructor
  · rintro ⟨y, hy, hc⟩
    exact ⟨y, topC_sub ((ord_mem (FA_top h) y).1 hy), hc⟩
  · rintro ⟨y, hy, hc⟩
    obtain ⟨t, ht, hr⟩ := hG.cov y hy
    exact ⟨t, (ord_mem (FA_top h) t).2 ht, cv_trans hx.gd (h y hy).1.gd (h t (topC_sub ht)).1.gd hc hr⟩
theorem map_sof {X : List (List UInt8 × List (List UInt8))} (h : FA X) : X.map sof = X := by
  refine (List.map_congr_left (fun x hx => sof_self (h x hx).1)).trans ?_
  exact List.map_id'' (fun _ => rfl) X
/-- the form hangs on what lies below alone -/
theorem form_dn {X Y : List (List UInt8 × List (List UInt8))} (hX : FA X) (hY : FA Y) (h : ∀ x, FTm x → x.1 ≠ [] → (dnS X x ↔ dnS Y x)) : ordT (topC X) = ordT (topC Y) := by
  have key : ∀ {A B : List (List UInt8 × List (List UInt8))}, FA A → FA B → (∀ x, FTm x → x.1 ≠ [] → (dnS A x ↔ dnS B x)) → ∀ x ∈ topC A, x ∈ topC B := fun {A B} hA hB h x hx => by
    have gA := FA_gi hA
    have gB := FA_gi hB
    have hxA := topC_sub hx
    have fx := hA x hxA
    obtain ⟨y, hy, hc⟩ := (h x fx.1 fx.2).1 ⟨x, hxA, cv_refl fx.1.gd fx.2⟩
    obtain ⟨t, ht, hr⟩ := gB.cov y hy
    have ft := hB t (topC_sub ht)
    have hxt := cv_trans fx.1.gd (hB y hy).1.gd ft.1.gd hc hr
    obtain ⟨z, hz, hc2⟩ := (h t ft.1 ft.2).2 ⟨t, topC_sub ht, cv_refl ft.1.gd ft.2⟩
    obtain ⟨u, hu, hr2⟩ := gA.cov z hz
    have fu := hA u (topC_sub hu)
    have htu := cv_trans ft.1.gd (hA z hz).1.gd fu.1.gd hc2 hr2
    have hxu := cv_trans fx.1.gd ft.1.gd fu.1.gd hxt htu
    have e : x = u := by
      obtain ⟨i, hi, rfl⟩ := List.getElem_of_mem hx
      obtain ⟨j, hj, rfl⟩ := List.getElem_of_mem hu
      rcases Nat.lt_trichotomy i j with hlt | rfl | hlt
      · have := (List.pairwise_iff_getElem.1 gA.ap i j hi hj hlt).1
        rw [hxu] at this
        cases this
      · rfl
      · have := (List.pairwise_iff_getElem.1 gA.ap j i hj hi hlt).2
        rw [hxu] at this
        cases this
    rw [← e] at htu
    have e2 : x = t := cv_anti fx.1 ft.1 hxt htu
    rw [e2]
    exact ht
  have hm : ∀ x, x ∈ topC X ↔ x ∈ topC Y := fun x => ⟨key hX hY h x, key hY hX (fun x h1 h2 => (h x h1 h2).symm) x⟩
  have hc : ordT (topC (topC X)) = ordT (topC (topC Y)) := by
    refine form_cong (fun x hx => ?_) (fun x => ?_)
    · rw [map_sof (FA_top hX)] at hx
      exact FA_top hX x hx
    · rw [map_sof (FA_top hX), map_sof (FA_top hY)]
      exact hm x
  rw [topC_id (topC_ap X), topC_id (topC_ap Y)] at hc
  exact hc
theorem FA_std {W : List (List UInt8 × List (List UInt8))} (g : gdC W) (hn : ∀ t ∈ W, t.1 ≠ []) : FA (stD W) := fun x hx => by
  rw [stD_eq] at hx
  obtain ⟨h1, y, hy, e⟩ := FTm_stl g x hx
  exact ⟨h1, by rw [← e]; exact hn y hy⟩
theorem form_std {W : List (List UInt8 × List (List UInt8))} (g : gdC W) (hn : ∀ t ∈ W, t.1 ≠ []) : ordT (topC (stl W)) = ordT (topC (stD W)) := by
  have hF := FA_std g hn
  refine form_cong (fun x hx => ?_) (fun x => ?_)
  · rw [← stD_eq] at hx
    exact hF x hx
  · rw [← stD_eq, map_sof hF]
theorem FA_gdC {X : List (List UInt8 × List (List UInt8))} (h : FA X) : gdC X := fun x hx => (h x hx).1.gd
theorem cm_ne {A C : List (List UInt8 × List (List UInt8))} : ∀ t ∈ cmN A C, t.1 ≠ [] := fun t ht => by
  unfold cmN at ht
  obtain ⟨a, ha, ht⟩ := List.mem_flatMap.1 ht
  obtain ⟨c, hc, he⟩ := List.mem_filterMap.1 ht
  split at he
  · rename_i hq
    obtain rfl := Option.some.inj he
    exact mt_ne hq
  · cases he
theorem stF_some {p : List UInt8} {L : List (List UInt8)} {x : List UInt8 × List (List UInt8)} (h : stF (p, L) = some x) : x = (p, srtT (topL (lesL p L))) := by
  unfold stF setO at h
  split at h
  · cases h
  · exact (Option.some.inj h).symm
/-- below what two terms have in common is just what lies below both -/
theorem dn_two {a c x : List UInt8 × List (List UInt8)} (fa : FTm a) (fc : FTm c) (fx : FTm x) (nx : x.1 ≠ []) : (agB a.1 c.1 = true ∧ ∃ m, stF (mtT a.1 c.1, a.2 ++ c.2) = some m ∧ cvC x m = true) ↔ (cvC x a = true ∧ cvC x c = true) := by
  have hmem : ∀ (p : List UInt8) (L : List (List UInt8)) (y : List UInt8), y ∈ srtT (topL (lesL p L)) ↔ y ∈ topL (lesL p L) := fun p L y => (srtT_perm _).mem_iff
  constructor
  · rintro ⟨hq, m, hm, hc⟩
    obtain rfl := stF_some hm
    obtain ⟨c1, c2⟩ := (cv_iff _ _).1 hc
    have gL : ∀ l ∈ a.2 ++ c.2, good l = true := fun l hl => (List.mem_append.1 hl).elim (fa.gl l) (fc.gl l)
    have gp := good_mtT _ _ fa.gc fc.gc
    have side : ∀ n ∈ a.2 ++ c.2, agB n x.1 = true → ∃ y ∈ x.2, wiB (mtT n x.1) y = true := fun n hn hag => by
      have w1 := mt_first (gL n hn) fx.gc hag
      have w2 := wi_trans (mt_second (gL n hn) fx.gc hag) c1
      obtain ⟨h1, h2⟩ := wi_glb (gL n hn) gp w1 w2
      have hin : mtT n (mtT a.1 c.1) ∈ lesL (mtT a.1 c.1) (a.2 ++ c.2) := List.mem_filterMap.2 ⟨n, hn, by rw [if_pos h1]⟩
      obtain ⟨t, ht, hr⟩ := (gi_all (r := wiB) (P := fun x => x ≠ []) (fun _ h => wi_rf h) (fun _ _ _ _ _ _ h1 h2 => wi_trans h1 h2) (les_ne (c := mtT a.1 c.1) (L := a.2 ++ c.2))).cov _ hin
      have w3 := wi_trans h2 hr
      have gt : good t = true := by
        obtain ⟨l, hl, e⟩ := List.mem_filterMap.1 ((gi_all (r := wiB) (P := fun x => x ≠ []) (fun _ h => wi_rf h) (fun _ _ _ _ _ _ h1 h2 => wi_trans h1 h2) (les_ne (c := mtT a.1 c.1) (L := a.2 ++ c.2))).sub t ht)
        split at e
        · obtain rfl := Option.some.inj e
          exact good_mtT _ _ (gL l hl) gp
        · cases e
      obtain ⟨h3, h4⟩ := wi_glb gt fx.gc w3 (mt_second (gL n hn) fx.gc hag)
      obtain ⟨y, hy, h5⟩ := c2 t ((hmem _ _ _).2 ht) h3
      exact ⟨y, hy, wi_trans h4 h5⟩
    exact ⟨(cv_iff _ _).2 ⟨wi_trans c1 (mt_first fa.gc fc.gc hq), fun n hn => side n (List.mem_append_left _ hn)⟩, (cv_iff _ _).2 ⟨wi_trans c1 (mt_second fa.gc fc.gc hq), fun n hn => side n (List.mem_append_right _ hn)⟩⟩
  · rintro ⟨ha, hc⟩
    obtain ⟨a1, a2⟩ := (cv_iff _ _).1 ha
    obtain ⟨c1, c2⟩ := (cv_iff _ _).1 hc
    obtain ⟨hq, hp⟩ := wi_glb fa.gc fc.gc a1 c1
    have gL : ∀ l ∈ a.2 ++ c.2, good l = true := fun l hl => (List.mem_append.1 hl).elim (fa.gl l) (fc.gl l)
    have gp := good_mtT _ _ fa.gc fc.gc
    have side : ∀ l ∈ a.2 ++ c.2, agB l x.1 = true → ∃ y ∈ x.2, wiB (mtT l x.1) y = true := fun l hl => (List.mem_append.1 hl).elim (a2 l) (c2 l)
    refine ⟨hq, (mtT a.1 c.1, srtT (topL (lesL (mtT a.1 c.1) (a.2 ++ c.2)))), ?_, ?_⟩
    · unfold stF setO
      rw [if_neg]
      · rfl
      · intro hany
        obtain ⟨t, ht, he⟩ := List.any_eq_true.1 hany
        obtain ⟨l, hl, e⟩ := List.mem_filterMap.1 ht
        split at e
        · rename_i hag
          have e1 := Option.some.inj e
          have e2 : t = mtT a.1 c.1 := by simpa using he
          have w1 : wiB x.1 l = true := by
            refine wi_trans hp ?_
            have h1 := mt_first (gL l hl) gp hag
            rw [e1, e2] at h1
            exact h1
          obtain ⟨h2, h3⟩ := wi_glb (gL l hl) fx.gc w1 (wi_rf nx)
          obtain ⟨y, hy, h4⟩ := side l hl h2
          have h5 := wi_trans h3 h4
          have e3 := wi_anti2 (fx.wi y hy) h5
          exact fx.ne (e3 ▸ hy)
        · cases e
    · refine (cv_iff _ _).2 ⟨hp, fun n hn hag => ?_⟩
      have hn2 := (gi_all (r := wiB) (P := fun x => x ≠ []) (fun _ h => wi_rf h) (fun _ _ _ _ _ _ h1 h2 => wi_trans h1 h2) (les_ne (c := mtT a.1 c.1) (L := a.2 ++ c.2))).sub n ((hmem _ _ _).1 hn)
      obtain ⟨l, hl, e⟩ := List.mem_filterMap.1 hn2
      split at e
      · rename_i hag2
        obtain rfl := Option.some.inj e
        have gn := good_mtT _ _ (gL l hl) gp
        have w1 := wi_trans (mt_first gn fx.gc hag) (mt_first (gL l hl) gp hag2)
        have w2 := mt_second gn fx.gc hag
        obtain ⟨h2, h3⟩ := wi_glb (gL l hl) fx.gc w1 w2
        obtain ⟨y, hy, h4⟩ := side l hl h2
        exact ⟨y, hy, wi_trans h3 h4⟩
      · cases e
theorem dn_meet {A C : List (List UInt8 × List (List UInt8))} (hA : FA A) (hC : FA C) {x : List UInt8 × List (List UInt8)} (fx : FTm x) (nx : x.1 ≠ []) : dnS (stD (cmN A C)) x ↔ dnS A x ∧ dnS C x := by
  constructor
  · rintro ⟨m, hm, hc⟩
    obtain ⟨t, ht, he⟩ := (mem_stD _ _).1 hm
    unfold cmN at ht
    obtain ⟨a, ha, ht⟩ := List.mem_flatMap.1 ht
    obtain ⟨c, hc', he2⟩ := List.mem_filterMap.1 ht
    split at he2
    · rename_i hq
      obtain rfl := Option.some.inj he2
      obtain ⟨h1, h2⟩ := (dn_two (hA a ha).1 (hC c hc').1 fx nx).1 ⟨hq, m, he, hc⟩
      exact ⟨⟨a, ha, h1⟩, ⟨c, hc', h2⟩⟩
    · cases he2
  · rintro ⟨⟨a, ha, h1⟩, ⟨c, hc, h2⟩⟩
    obtain ⟨hq, m, hm, h3⟩ := (dn_two (hA a ha).1 (hC c hc).1 fx nx).2 ⟨h1, h2⟩
    exact ⟨m, (mem_stD _ _).2 ⟨_, List.mem_flatMap.2 ⟨a, ha, List.mem_filterMap.2 ⟨c, hc, by rw [if_pos hq]⟩⟩, hm⟩, h3⟩
/-- Join and Meet as lists of terms, whatever their size -/
def jnF (A C : List (List UInt8 × List (List UInt8))) : List (List UInt8 × List (List UInt8)) := ordT (topC (A ++ C))
def mnF (A C : List (List UInt8 × List (List UInt8))) : List (List UInt8 × List (List UInt8)) := ordT (topC (stl (cmN A C)))
theorem jnF_fa {A C : List (List UInt8 × List (List UInt8))} (hA : FA A) (hC : FA C) : FA (jnF A C) := FA_form (FA_app hA hC)
theorem mnF_std {A C : List (List UInt8 × List (List UInt8))} (hA : FA A) (hC : FA C) : mnF A C = ordT (topC (stD (cmN A C))) := form_std (gdC_cm (FA_gdC hA) (FA_gdC hC)) cm_ne
theorem cm_fa {A C : List (List UInt8 × List (List UInt8))} (hA : FA A) (hC : FA C) : FA (stD (cmN A C)) := FA_std (gdC_cm (FA_gdC hA) (FA_gdC hC)) cm_ne
theorem mnF_fa {A C : List (List UInt8 × List (List UInt8))} (hA : FA A) (hC : FA C) : FA (mnF A C) := by
  rw [mnF_std hA hC]
  exact FA_form (cm_fa hA hC)
theorem jnF_dn {A C : List (List UInt8 × List (List UInt8))} (hA : FA A) (hC : FA C) {x : List UInt8 × List (List UInt8)} (fx : FTm x) : dnS (jnF A C) x ↔ dnS A x ∨ dnS C x := by
  unfold jnF
  rw [dn_form (FA_app hA hC) fx, dn_app]
theorem mnF_dn {A C : List (List UInt8 × List (List UInt8))} (hA : FA A) (hC : FA C) {x : List UInt8 × List (List UInt8)} (fx : FTm x) (nx : x.1 ≠ []) : dnS (mnF A C) x ↔ dnS A x ∧ dnS C x := by
  rw [mnF_std hA hC, dn_form (cm_fa hA hC) fx, dn_meet hA hC fx nx]
/-- a list in its form -/
def FO (A : List (List UInt8 × List (List UInt8))) : Prop := FA A ∧ ordT (topC A) = A
theorem FO_eq {A C : List (List UInt8 × List (List UInt8))} (hA : FO A) (hC : FO C) (h : ∀ x, FTm x → x.1 ≠ [] → (dnS A x ↔ dnS C x)) : A = C := by
  rw [← hA.2, ← hC.2]
  exact form_dn hA.1 hC.1 h
theorem FO_ord {X : List (List UInt8 × List (List UInt8))} (h : FA X) : FO (ordT (topC X)) := ⟨FA_form h, by
  rw [topC_id (apC_ord _ (topC_ap _)), ordT_id]⟩
theorem jnF_fo {A C : List (List UInt8 × List (List UInt8))} (hA : FA A) (hC : FA C) : FO (jnF A C) := FO_ord (FA_app hA hC)
theorem mnF_fo {A C : List (List UInt8 × List (List UInt8))} (hA : FA A) (hC : FA C) : FO (mnF A C) := by
  rw [mnF_std hA hC]
  exact FO_ord (cm_fa hA hC)
section
variable {A B C : List (List UInt8 × List (List UInt8))} (hA : FO A) (hB : FO B) (hC : FO C)
include hA hB
theorem jn_comm : jnF A B = jnF B A := FO_eq (jnF_fo hA.1 hB.1) (jnF_fo hB.1 hA.1) (fun x fx _ => by rw [jnF_dn hA.1 hB.1 fx, jnF_dn hB.1 hA.1 fx]; exact Or.comm)
theorem mn_comm : mnF A B = mnF B A := FO_eq (mnF_fo hA.1 hB.1) (mnF_fo hB.1 hA.1) (fun x fx nx => by rw [mnF_dn hA.1 hB.1 fx nx, mnF_dn hB.1 hA.1 fx nx]; exact And.comm)
include hC
theorem jn_assoc : jnF (jnF A B) C = jnF A (jnF B C) := FO_eq (jnF_fo (jnF_fa hA.1 hB.1) hC.1) (jnF_fo hA.1 (jnF_fa hB.1 hC.1)) (fun x fx _ => by rw [jnF_dn (jnF_fa hA.1 hB.1) hC.1 fx, jnF_dn hA.1 hB.1 fx, jnF_dn hA.1 (jnF_fa hB.1 hC.1) fx, jnF_dn hB.1 hC.1 fx]; exact or_assoc)
theorem mn_assoc : mnF (mnF A B) C = mnF A (mnF B C) := FO_eq (mnF_fo (mnF_fa hA.1 hB.1) hC.1) (mnF_fo hA.1 (mnF_fa hB.1 hC.1)) (fun x fx nx => by rw [mnF_dn (mnF_fa hA.1 hB.1) hC.1 fx nx, mnF_dn hA.1 hB.1 fx nx, mnF_dn hA.1 (mnF_fa hB.1 hC.1) fx nx, mnF_dn hB.1 hC.1 fx nx]; exact and_assoc)
theorem mn_jn : mnF A (jnF B C) = jnF (mnF A B) (mnF A C) := FO_eq (mnF_fo hA.1 (jnF_fa hB.1 hC.1)) (jnF_fo (mnF_fa hA.1 hB.1) (mnF_fa hA.1 hC.1)) (fun x fx nx => by rw [mnF_dn hA.1 (jnF_fa hB.1 hC.1) fx nx, jnF_dn hB.1 hC.1 fx, jnF_dn (mnF_fa hA.1 hB.1) (mnF_fa hA.1 hC.1) fx, mnF_dn hA.1 hB.1 fx nx, mnF_dn hA.1 hC.1 fx nx]; exact and_or_left)
theorem jn_mn : jnF A (mnF B C) = mnF (jnF A B) (jnF A C) := FO_eq (jnF_fo hA.1 (mnF_fa hB.1 hC.1)) (mnF_fo (jnF_fa hA.1 hB.1) (jnF_fa hA.1 hC.1)) (fun x fx nx => by rw [jnF_dn hA.1 (mnF_fa hB.1 hC.1) fx, mnF_dn hB.1 hC.1 fx nx, mnF_dn (jnF_fa hA.1 hB.1) (jnF_fa hA.1 hC.1) fx nx, jnF_dn hA.1 hB.1 fx, jnF_dn hA.1 hC.1 fx]; exact or_and_left)
end
theorem jn_idem {A : List (List UInt8 × List (List UInt8))} (hA : FO A) : jnF A A = A := FO_eq (jnF_fo hA.1 hA.1) hA (fun x fx _ => by rw [jnF_dn hA.1 hA.1 fx]; exact or_self_iff)
theorem mn_idem {A : List (List UInt8 × List (List UInt8))} (hA : FO A) : mnF A A = A := FO_eq (mnF_fo hA.1 hA.1) hA (fun x fx nx => by rw [mnF_dn hA.1 hA.1 fx nx]; exact and_self_iff)
end Go.Proofs.YtcejejiomhhpgaaGreatDoor

import Derived.Test.YtfhghplplkkpmaaGreatDoorXC1
import Derived.Test.YtfhghplplkkpmaaGreatDoorXAV
import Derived.Test.YtfhghplplkkpmaaGreatDoorXAU
import Derived.Test.YtfhghplplkkpmaaGreatDoorXAA
namespace Go.Proofs.YtfhghplplkkpmaaGreatDoor
open Go.RowKit Go.Shelf
/-- a term lies below one of the list -/
def dnS (X : List (List UInt8 × List (List UInt8))) (x : List UInt8 × List (List UInt8)) : Prop := ∃ y ∈ X, cvC x y = true
def FA (X : List (List UInt8 × List (List UInt8))) : Prop := ∀ x ∈ X, FTm x ∧ x.1 ≠ []
theorem FTm.gd {x : List UInt8 × List (List UInt8)} (h : FTm x) : gdT x := ⟨h.gc, h.gl⟩
theorem FA_gi {X : List (List UInt8 × List (List UInt8))} (h : FA X) : GI cvC (topC X) X := gi_all (r := cvC) (P := fun x => gdT x ∧ x.1 ≠ []) (fun _ h => cv_refl h.1 h.2) (fun _ _ _ ha hb hc h1 h2 => cv_trans ha.1 hb.1 hc.1 h1 h2) (fun x hx => ⟨(h x hx).1.gd, (h x hx).2⟩)
theorem sof_self {t : List UInt8 × List (List UInt8)} (h : FTm t) : sof t = t := by
  unfold sof
  rw [srtT_id h.so]
theorem ord_mem {X : List (List UInt8 × List (List UInt8))} (h : FA X) (x : List UInt8 × List (List UInt8)) : x ∈ ordT X ↔ x ∈ X := by
  rw [sof_mem]
  constructor
  · rintro ⟨y, hy, rfl⟩
    rw [sof_self (h y hy).1]
    exact hy
  · intro hx
    exact ⟨x, hx, sof_self (h x hx).1⟩
theorem FA_top {X : List (List UInt8 × List (List UInt8))} (h : FA X) : FA (topC X) := fun x hx => h x (topC_sub hx)
theorem FA_form {X : List (List UInt8 × List (List UInt8))} (h : FA X) : FA (ordT (topC X)) := fun x hx => h x (topC_sub ((ord_mem (FA_top h) x).1 hx))
theorem FA_app {X Y : List (List UInt8 × List (List UInt8))} (h1 : FA X) (h2 : FA Y) : FA (X ++ Y) := fun x hx => (List.mem_append.1 hx).elim (h1 x) (h2 x)
theorem dn_app (X Y : List (List UInt8 × List (List UInt8))) (x : List UInt8 × List (List UInt8)) : dnS (X ++ Y) x ↔ dnS X x ∨ dnS Y x := by
  unfold dnS
  constructor
  · rintro ⟨y, hy, h⟩
    rcases List.mem_append.1 hy with hy | hy
    · exact .inl ⟨y, hy, h⟩
    · exact .inr ⟨y, hy, h⟩
  · rintro (⟨y, hy, h⟩ | ⟨y, hy, h⟩)
    · exact ⟨y, List.mem_append_left _ hy, h⟩
    · exact ⟨y, List.mem_append_right _ hy, h⟩
theorem dn_form {X : List (List UInt8 × List (List UInt8))} (h : FA X) {x : List UInt8 × List (List UInt8)} (hx : FTm x) : dnS (ordT (topC X)) x ↔ dnS X x := by
  have hG := FA_gi h
  constructor
  · rintro ⟨y, hy, hc⟩
    exact ⟨y, topC_sub ((ord_mem (FA_top h) y).1 hy), hc⟩
  · rintro ⟨y, hy, hc⟩
    obtain ⟨t, ht, hr⟩ := hG.cov y hy
    exact ⟨t, (ord_mem (FA_top h) t).2 ht, cv_trans hx.gd (h y hy).1.gd (h t (topC_sub ht)).1.gd hc hr⟩
theorem map_sof {X : List (List UInt8 × List (List UInt8))} (h : FA X) : X.map sof = X := by
  refine (List.map_congr_left (fun x hx => sof_self (h x hx).1)).trans ?_
  exact List.map_id'' (fun _ => rfl) X
/-- the form hangs on what lies below alone -/
theorem form_dn {X Y : List (List UInt8 × List (List UInt8))} (hX : FA X) (hY : FA Y) (h : ∀ x, FTm x → x.1 ≠ [] → (dnS X x ↔ dnS Y x)) : ordT (topC X) = ordT (topC Y) := by
  have key : ∀ {A B : List (List UInt8 × List (List UInt8))}, FA A → FA B → (∀ x, FTm x → x.1 ≠ [] → (dnS A x ↔ dnS B x)) → ∀ x ∈ topC A, x ∈ topC B := fun {A B} hA hB h x hx => by
    have gA := FA_gi hA
    have gB := FA_gi hB
    have hxA := topC_sub hx
    have fx := hA x hxA
    obtain ⟨y, hy, hc⟩ := (h x fx.1 fx.2).1 ⟨x, hxA, cv_refl fx.1.gd fx.2⟩
    obtain ⟨t, ht, hr⟩ := gB.cov y hy
    have ft := hB t (topC_sub ht)
    have hxt := cv_trans fx.1.gd (hB y hy).1.gd ft.1.gd hc hr
    obtain ⟨z, hz, hc2⟩ := (h t ft.1 ft.2).2 ⟨t, topC_sub ht, cv_refl ft.1.gd ft.2⟩
    obtain ⟨u, hu, hr2⟩ := gA.cov z hz
    have fu := hA u (topC_sub hu)
    have htu := cv_trans ft.1.gd (hA z hz).1.gd fu.1.gd hc2 hr2
    have hxu := cv_trans fx.1.gd ft.1.gd fu.1.gd hxt htu
    have e : x = u := by
      obtain ⟨i, hi, rfl⟩ := List.getElem_of_mem hx
      obtain ⟨j, hj, rfl⟩ := List.getElem_of_mem hu
      rcases Nat.lt_trichotomy i j with hlt | rfl | hlt
      · have := (List.pairwise_iff_getElem.1 gA.ap i j hi hj hlt).1
        rw [hxu] at this
        cases this
      · rfl
      · have := (List.pairwise_iff_getElem.1 gA.ap j i hj hi hlt).2
        rw [hxu] at this
        cases this
    rw [← e] at htu
    have e2 : x = t := cv_anti fx.1 ft.1 hxt htu
    rw [e2]
    exact ht
  have hm : ∀ x, x ∈ topC X ↔ x ∈ topC Y := fun x => ⟨key hX hY h x, key hY hX (fun x h1 h2 => (h x h1 h2).symm) x⟩
  have hc : ordT (topC (topC X)) = ordT (topC (topC Y)) := by
    refine form_cong (fun x hx => ?_) (fun x => ?_)
    · rw [map_sof (FA_top hX)] at hx
      exact FA_top hX x hx
    · rw [map_sof (FA_top hX), map_sof (FA_top hY)]
      exact hm x
  rw [topC_id (topC_ap X), topC_id (topC_ap Y)] at hc
  exact hc
theorem FA_std {W : List (List UInt8 × List (List UInt8))} (g : gdC W) (hn : ∀ t ∈ W, t.1 ≠ []) : FA (stD W) := fun x hx => by
  rw [stD_eq] at hx
  obtain ⟨h1, y, hy, e⟩ := FTm_stl g x hx
  exact ⟨h1, by rw [← e]; exact hn y hy⟩
theorem form_std {W : List (List UInt8 × List (List UInt8))} (g : gdC W) (hn : ∀ t ∈ W, t.1 ≠ []) : ordT (topC (stl W)) = ordT (topC (stD W)) := by
  have hF := FA_std g hn
  refine form_cong (fun x hx => ?_) (fun x => ?_)
  · rw [← stD_eq] at hx
    exact hF x hx
  · rw [← stD_eq, map_sof hF]
theorem FA_gdC {X : List (List UInt8 × List (List UInt8))} (h : FA X) : gdC X := fun x hx => (h x hx).1.gd
theorem cm_ne {A C : List (List UInt8 × List (List UInt8))} : ∀ t ∈ cmN A C, t.1 ≠ [] := fun t ht => by
  unfold cmN at ht
  obtain ⟨a, ha, ht⟩ := List.mem_flatMap.1 ht
  obtain ⟨c, hc, he⟩ := List.mem_filterMap.1 ht
  split at he
  · rename_i hq
    obtain rfl := Option.some.inj he
    exact mt_ne hq
  · cases he
theorem stF_some {p : List UInt8} {L : List (List UInt8)} {x : List UInt8 × List (List UInt8)} (h : stF (p, L) = some x) : x = (p, srtT (topL (lesL p L))) := by
  unfold stF setO at h
  split at h
  · cases h
  · exact (Option.some.inj h).symm
/-- below what two terms have in common is just what lies below both -/
theorem dn_two {a c x : List UInt8 × List (List UInt8)} (fa : FTm a) (fc : FTm c) (fx : FTm x) (nx : x.1 ≠ []) : (agB a.1 c.1 = true ∧ ∃ m, stF (mtT a.1 c.1, a.2 ++ c.2) = some m ∧ cvC x m = true) ↔ (cvC x a = true ∧ cvC x c = true) := by
  have hmem : ∀ (p : List UInt8) (L : List (List UInt8)) (y : List UInt8), y ∈ srtT (topL (lesL p L)) ↔ y ∈ topL (lesL p L) := fun p L y => (srtT_perm _).mem_iff
  constructor
  · rintro ⟨hq, m, hm, hc⟩
    obtain rfl := stF_some hm
    obtain ⟨c1, c2⟩ := (cv_iff _ _).1 hc
    have gL : ∀ l ∈ a.2 ++ c.2, good l = true := fun l hl => (List.mem_append.1 hl).elim (fa.gl l) (fc.gl l)
    have gp := good_mtT _ _ fa.gc fc.gc
    have side : ∀ n ∈ a.2 ++ c.2, agB n x.1 = true → ∃ y ∈ x.2, wiB (mtT n x.1) y = true := fun n hn hag => by
      have w1 := mt_first (gL n hn) fx.gc hag
      have w2 := wi_trans (mt_second (gL n hn) fx.gc hag) c1
      obtain ⟨h1, h2⟩ := wi_glb (gL n hn) gp w1 w2
      have hin : mtT n (mtT a.1 c.1) ∈ lesL (mtT a.1 c.1) (a.2 ++ c.2) := List.mem_filterMap.2 ⟨n, hn, by rw [if_pos h1]⟩
      obtain ⟨t, ht, hr⟩ := (gi_all (r := wiB) (P := fun x => x ≠ []) (fun _ h => wi_rf h) (fun _ _ _ _ _ _ h1 h2 => wi_trans h1 h2) (les_ne (c := mtT a.1 c.1) (L := a.2 ++ c.2))).cov _ hin
      have w3 := wi_trans h2 hr
      have gt : good t = true := by
        obtain ⟨l, hl, e⟩ := List.mem_filterMap.1 ((gi_all (r := wiB) (P := fun x => x ≠ []) (fun _ h => wi_rf h) (fun _ _ _ _ _ _ h1 h2 => wi_trans h1 h2) (les_ne (c := mtT a.1 c.1) (L := a.2 ++ c.2))).sub t ht)
        split at e
        · obtain rfl := Option.some.inj e
          exact good_mtT _ _ (gL l hl) gp
        · cases e
      obtain ⟨h3, h4⟩ := wi_glb gt fx.gc w3 (mt_second (gL n hn) fx.gc hag)
      obtain ⟨y, hy, h5⟩ := c2 t ((hmem _ _ _).2 ht) h3
      exact ⟨y, hy, wi_trans h4 h5⟩
    exact ⟨(cv_iff _ _).2 ⟨wi_trans c1 (mt_first fa.gc fc.gc hq), fun n hn => side n (List.mem_append_left _ hn)⟩, (cv_iff _ _).2 ⟨wi_trans c1 (mt_second fa.gc fc.gc hq), fun n hn => side n (List.mem_append_right _ hn)⟩⟩
  · rintro ⟨ha, hc⟩
    obtain ⟨a1, a2⟩ := (cv_iff _ _).1 ha
    obtain ⟨c1, c2⟩ := (cv_iff _ _).1 hc
    obtain ⟨hq, hp⟩ := wi_glb fa.gc fc.gc a1 c1
    have gL : ∀ l ∈ a.2 ++ c.2, good l = true := fun l hl => (List.mem_append.1 hl).elim (fa.gl l) (fc.gl l)
    have gp := good_mtT _ _ fa.gc fc.gc
    have side : ∀ l ∈ a.2 ++ c.2, agB l x.1 = true → ∃ y ∈ x.2, wiB (mtT l x.1) y = true := fun l hl => (List.mem_append.1 hl).elim (a2 l) (c2 l)
    refine ⟨hq, (mtT a.1 c.1, srtT (topL (lesL (mtT a.1 c.1) (a.2 ++ c.2)))), ?_, ?_⟩
    · unfold stF setO
      rw [if_neg]
      · rfl
      · intro hany
        obtain ⟨t, ht, he⟩ := List.any_eq_true.1 hany
        obtain ⟨l, hl, e⟩ := List.mem_filterMap.1 ht
        split at e
        · rename_i hag
          have e1 := Option.some.inj e
          have e2 : t = mtT a.1 c.1 := by simpa using he
          have w1 : wiB x.1 l = true := by
            refine wi_trans hp ?_
            have h1 := mt_first (gL l hl) gp hag
            rw [e1, e2] at h1
            exact h1
          obtain ⟨h2, h3⟩ := wi_glb (gL l hl) fx.gc w1 (wi_rf nx)
          obtain ⟨y, hy, h4⟩ := side l hl h2
          have h5 := wi_trans h3 h4
          have e3 := wi_anti2 (fx.wi y hy) h5
          exact fx.ne (e3 ▸ hy)
        · cases e
    · refine (cv_iff _ _).2 ⟨hp, fun n hn hag => ?_⟩
      have hn2 := (gi_all (r := wiB) (P := fun x => x ≠ []) (fun _ h => wi_rf h) (fun _ _ _ _ _ _ h1 h2 => wi_trans h1 h2) (les_ne (c := mtT a.1 c.1) (L := a.2 ++ c.2))).sub n ((hmem _ _ _).1 hn)
      obtain ⟨l, hl, e⟩ := List.mem_filterMap.1 hn2
      split at e
      · rename_i hag2
        obtain rfl := Option.some.inj e
        have gn := good_mtT _ _ (gL l hl) gp
        have w1 := wi_trans (mt_first gn fx.gc hag) (mt_first (gL l hl) gp hag2)
        have w2 := mt_second gn fx.gc hag
        obtain ⟨h2, h3⟩ := wi_glb (gL l hl) fx.gc w1 w2
        obtain ⟨y, hy, h4⟩ := side l hl h2
        exact ⟨y, hy, wi_trans h3 h4⟩
      · cases e
theorem dn_meet {A C : List (List UInt8 × List (List UInt8))} (hA : FA A) (hC : FA C) {x : List UInt8 × List (List UInt8)} (fx : FTm x) (nx : x.1 ≠ []) : dnS (stD (cmN A C)) x ↔ dnS A x ∧ dnS C x := by
  constructor
  · rintro ⟨m, hm, hc⟩
    obtain ⟨t, ht, he⟩ := (mem_stD _ _).1 hm
    unfold cmN at ht
    obtain ⟨a, ha, ht⟩ := List.mem_flatMap.1 ht
    obtain ⟨c, hc', he2⟩ := List.mem_filterMap.1 ht
    split at he2
    · rename_i hq
      obtain rfl := Option.some.inj he2
      obtain ⟨h1, h2⟩ := (dn_two (hA a ha).1 (hC c hc').1 fx nx).1 ⟨hq, m, he, hc⟩
      exact ⟨⟨a, ha, h1⟩, ⟨c, hc', h2⟩⟩
    · cases he2
  · rintro ⟨⟨a, ha, h1⟩, ⟨c, hc, h2⟩⟩
    obtain ⟨hq, m, hm, h3⟩ := (dn_two (hA a ha).1 (hC c hc).1 fx nx).2 ⟨h1, h2⟩
    exact ⟨m, (mem_stD _ _).2 ⟨_, List.mem_flatMap.2 ⟨a, ha, List.mem_filterMap.2 ⟨c, hc, by rw [if_pos hq]⟩⟩, hm⟩, h3⟩
/-- Join and Meet as lists of terms, whatever their size -/
def jnF (A C : List (List UInt8 × List (List UInt8))) : List (List UInt8 × List (List UInt8)) := ordT (topC (A ++ C))
def mnF (A C : List (List UInt8 × List (List UInt8))) : List (List UInt8 × List (List UInt8)) := ordT (topC (stl (cmN A C)))
theorem jnF_fa {A C : List (List UInt8 × List (List UInt8))} (hA : FA A) (hC : FA C) : FA (jnF A C) := FA_form (FA_app hA hC)
theorem mnF_std {A C : List (List UInt8 × List (List UInt8))} (hA : FA A) (hC : FA C) : mnF A C = ordT (topC (stD (cmN A C))) := form_std (gdC_cm (FA_gdC hA) (FA_gdC hC)) cm_ne
theorem cm_fa {A C : List (List UInt8 × List (List UInt8))} (hA : FA A) (hC : FA C) : FA (stD (cmN A C)) := FA_std (gdC_cm (FA_gdC hA) (FA_gdC hC)) cm_ne
theorem mnF_fa {A C : List (List UInt8 × List (List UInt8))} (hA : FA A) (hC : FA C) : FA (mnF A C) := by
  rw [mnF_std hA hC]
  exact FA_form (cm_fa hA hC)
theorem jnF_dn {A C : List (List UInt8 × List (List UInt8))} (hA : FA A) (hC : FA C) {x : List UInt8 × List (List UInt8)} (fx : FTm x) : dnS (jnF A C) x ↔ dnS A x ∨ dnS C x := by
  unfold jnF
  rw [dn_form (FA_app hA hC) fx, dn_app]
theorem mnF_dn {A C : List (List UInt8 × List (List UInt8))} (hA : FA A) (hC : FA C) {x : List UInt8 × List (List UInt8)} (fx : FTm x) (nx : x.1 ≠ []) : dnS (mnF A C) x ↔ dnS A x ∧ dnS C x := by
  rw [mnF_std hA hC, dn_form (cm_fa hA hC) fx, dn_meet hA hC fx nx]
/-- a list in its form -/
def FO (A : List (List UInt8 × List (List UInt8))) : Prop := FA A ∧ ordT (topC A) = A
theorem FO_eq {A C : List (List UInt8 × List (List UInt8))} (hA : FO A) (hC : FO C) (h : ∀ x, FTm x → x.1 ≠ [] → (dnS A x ↔ dnS C x)) : A = C := by
  rw [← hA.2, ← hC.2]
  exact form_dn hA.1 hC.1 h
theorem FO_ord {X : List (List UInt8 × List (List UInt8))} (h : FA X) : FO (ordT (topC X)) := ⟨FA_form h, by
  rw [topC_id (apC_ord _ (topC_ap _)), ordT_id]⟩
theorem jnF_fo {A C : List (List UInt8 × List (List UInt8))} (hA : FA A) (hC : FA C) : FO (jnF A C) := FO_ord (FA_app hA hC)
theorem mnF_fo {A C : List (List UInt8 × List (List UInt8))} (hA : FA A) (hC : FA C) : FO (mnF A C) := by
  rw [mnF_std hA hC]
  exact FO_ord (cm_fa hA hC)
section
variable {A B C : List (List UInt8 × List (List UInt8))} (hA : FO A) (hB : FO B) (hC : FO C)
include hA hB
theorem jn_comm : jnF A B = jnF B A := FO_eq (jnF_fo hA.1 hB.1) (jnF_fo hB.1 hA.1) (fun x fx _ => by rw [jnF_dn hA.1 hB.1 fx, jnF_dn hB.1 hA.1 fx]; exact Or.comm)
theorem mn_comm : mnF A B = mnF B A := FO_eq (mnF_fo hA.1 hB.1) (mnF_fo hB.1 hA.1) (fun x fx nx => by rw [mnF_dn hA.1 hB.1 fx nx, mnF_dn hB.1 hA.1 fx nx]; exact And.comm)
include hC
theorem jn_assoc : jnF (jnF A B) C = jnF A (jnF B C) := FO_eq (jnF_fo (jnF_fa hA.1 hB.1) hC.1) (jnF_fo hA.1 (jnF_fa hB.1 hC.1)) (fun x fx _ => by rw [jnF_dn (jnF_fa hA.1 hB.1) hC.1 fx, jnF_dn hA.1 hB.1 fx, jnF_dn hA.1 (jnF_fa hB.1 hC.1) fx, jnF_dn hB.1 hC.1 fx]; exact or_assoc)
theorem mn_assoc : mnF (mnF A B) C = mnF A (mnF B C) := FO_eq (mnF_fo (mnF_fa hA.1 hB.1) hC.1) (mnF_fo hA.1 (mnF_fa hB.1 hC.1)) (fun x fx nx => by rw [mnF_dn (mnF_fa hA.1 hB.1) hC.1 fx nx, mnF_dn hA.1 hB.1 fx nx, mnF_dn hA.1 (mnF_fa hB.1 hC.1) fx nx, mnF_dn hB.1 hC.1 fx nx]; exact and_assoc)
theorem mn_jn : mnF A (jnF B C) = jnF (mnF A B) (mnF A C) := FO_eq (mnF_fo hA.1 (jnF_fa hB.1 hC.1)) (jnF_fo (mnF_fa hA.1 hB.1) (mnF_fa hA.1 hC.1)) (fun x fx nx => by rw [mnF_dn hA.1 (jnF_fa hB.1 hC.1) fx nx, jnF_dn hB.1 hC.1 fx, jnF_dn (mnF_fa hA.1 hB.1) (mnF_fa hA.1 hC.1) fx, mnF_dn hA.1 hB.1 fx nx, mnF_dn hA.1 hC.1 fx nx]; exact and_or_left)
theorem jn_mn : jnF A (mnF B C) = mnF (jnF A B) (jnF A C) := FO_eq (jnF_fo hA.1 (mnF_fa hB.1 hC.1)) (mnF_fo (jnF_fa hA.1 hB.1) (jnF_fa hA.1 hC.1)) (fun x fx nx => by rw [jnF_dn hA.1 (mnF_fa hB.1 hC.1) fx, mnF_dn hB.1 hC.1 fx nx, mnF_dn (jnF_fa hA.1 hB.1) (jnF_fa hA.1 hC.1) fx nx, jnF_dn hA.1 hB.1 fx, jnF_dn hA.1 hC.1 fx]; exact or_and_left)
end
theorem jn_idem {A : List (List UInt8 × List (List UInt8))} (hA : FO A) : jnF A A = A := FO_eq (jnF_fo hA.1 hA.1) hA (fun x fx _ => by rw [jnF_dn hA.1 hA.1 fx]; exact or_self_iff)
theorem mn_idem {A : List (List UInt8 × List (List UInt8))} (hA : FO A) : mnF A A = A := FO_eq (mnF_fo hA.1 hA.1) hA (fun x fx nx => by rw [mnF_dn hA.1 hA.1 fx nx]; exact and_self_iff)
end Go.Proofs.YtfhghplplkkpmaaGreatDoor
namespace Go.Proofs.YtfhghplplkkpmaaGreatDoor
open Go.RowKit Go.Shelf
/-- has the header the digits of the cube's text? -/
def ftB (h c : List UInt8) : Bool := (h.length == c.length) && allTo (fun k => match h[k]?, c[k]? with | some x, some y => y == 120 || x == y | _, _ => true) h.length
theorem ft_wi {h c : List UInt8} (hc : c ≠ []) : ftB h c = wiB h c := by
  unfold ftB wiB
  have e : (h.length == c.length) = fitB h c := by
    rw [Bool.eq_iff_iff, beq_iff_eq]
    constructor
    · intro hl
      refine fit_mk hl (fun e => hc ?_)
      rw [e] at hl
      exact List.eq_nil_of_length_eq_zero hl.symm
    · exact fitB_len
  rw [e]
  rfl
theorem first_of {s : UInt8} : ∀ r : List UInt8, s ∉ r ∨ ∃ c t, r = c ++ s :: t ∧ s ∉ c
  | [] => .inl (by simp)
  | x :: r => by
    by_cases e : x = s
    · exact .inr ⟨[], r, by rw [e]; rfl, by simp⟩
    · rcases first_of (s := s) r with h | ⟨c, t, rfl, hc⟩
      · exact .inl (fun hm => (List.mem_cons.1 hm).elim (fun e2 => e e2.symm) h)
      · exact .inr ⟨x :: c, t, rfl, fun hm => (List.mem_cons.1 hm).elim (fun e2 => e e2.symm) hc⟩
theorem prts_no {s : UInt8} {r : List UInt8} (h : s ∉ r) : prts s r = [r] := prts_neg (by rw [idxM_no h]; decide)
theorem prts_mid {s : UInt8} {c t : List UInt8} (hc : s ∉ c) : prts s (c ++ s :: t) = c :: prts s t := by
  rw [prts_pos (idxM_mid _ hc), List.take_left, List.drop_append, List.drop_eq_nil_of_le (by omega)]
  rw [show c.length + 1 - c.length = 1 by omega]
  rfl
theorem prts_sep (s : UInt8) (r : List UInt8) : prts s (s :: r) = [] :: prts s r := prts_mid (c := []) (by simp)
theorem prts_cons {s x : UInt8} (hx : x ≠ s) (r : List UInt8) : prts s (x :: r) = (x :: (prts s r).headD []) :: (prts s r).tail := by
  rcases first_of (s := s) r with h | ⟨c, t, rfl, hc⟩
  · rw [prts_no h, prts_no (fun hm => (List.mem_cons.1 hm).elim (fun e2 => hx e2.symm) h)]
    rfl
  · rw [prts_mid hc]
    exact prts_mid (c := x :: c) (fun hm => (List.mem_cons.1 hm).elim (fun e2 => hx e2.symm) hc)
theorem prts_shape (s : UInt8) (r : List UInt8) : prts s r = (prts s r).headD [] :: (prts s r).tail := by
  have h := prts_ne s r
  cases e : prts s r with
  | nil => rw [e] at h; exact absurd h (by simp)
  | cons a l => rfl
/-- a term and those behind it, cube by cube, as they are read -/
def tms : List UInt8 → List UInt8 × List (List UInt8) × List (List (List UInt8))
  | [] => ([], [], [])
  | x :: r => if x = 43 then ([], [], ((tms r).1 :: (tms r).2.1) :: (tms r).2.2) else if x = 45 then ([], (tms r).1 :: (tms r).2.1, (tms r).2.2) else (x :: (tms r).1, (tms r).2.1, (tms r).2.2)
theorem tms_oth {x : UInt8} {r : List UInt8} (e1 : x ≠ 43) (e2 : x ≠ 45) : tms (x :: r) = (x :: (tms r).1, (tms r).2.1, (tms r).2.2) := by
  show (if x = 43 then _ else if x = 45 then _ else _) = _
  rw [if_neg e1, if_neg e2]
theorem tms_prts : ∀ l : List UInt8, (prts 43 l).map (prts 45) = ((tms l).1 :: (tms l).2.1) :: (tms l).2.2
  | [] => by
    rw [prts_no (by simp)]
    show [prts 45 []] = _
    rw [prts_no (by simp)]
    rfl
  | x :: r => by
    have ih := tms_prts r
    by_cases e1 : x = 43
    · subst e1
      rw [prts_sep, List.map_cons, ih, prts_no (s := 45) (r := []) (by simp)]
      rfl
    · rw [prts_shape 43 r, List.map_cons] at ih
      injection ih with i1 i2
      rw [prts_cons e1, List.map_cons, i2]
      by_cases e2 : x = 45
      · subst e2
        rw [prts_sep, i1]
        rfl
      · rw [prts_cons e2, i1, tms_oth e1 e2]
        rfl
def tmB (h : List UInt8) (T : List (List UInt8)) : Bool := ftB h (T.headD []) && T.tail.all (fun m => !ftB h m)
/-- the reading of a text: the cube so far, whether the header is in the term so far, whether the cube is its first, whether it was in one -/
def sdM (h : List UInt8) : List UInt8 → List UInt8 → Bool → Bool → Bool → Bool
  | [], cur, inn, fst, sm => sm || (inn && (if fst then ftB h cur else !ftB h cur))
  | x :: r, cur, inn, fst, sm => if x = 43 then sdM h r [] true true (sm || (inn && (if fst then ftB h cur else !ftB h cur))) else if x = 45 then sdM h r [] (inn && (if fst then ftB h cur else !ftB h cur)) false sm else sdM h r (cur ++ [x]) inn fst sm
theorem sdM_eq (h : List UInt8) : ∀ (l cur : List UInt8) (inn fst sm : Bool), sdM h l cur inn fst sm = (sm || ((inn && (if fst then ftB h (cur ++ (tms l).1) else !ftB h (cur ++ (tms l).1))) && (tms l).2.1.all (fun m => !ftB h m)) || (tms l).2.2.any (tmB h))
  | [], cur, inn, fst, sm => by simp [sdM, tms]
  | x :: r, cur, inn, fst, sm => by
    unfold sdM tms
    by_cases e1 : x = 43
    · rw [if_pos e1, if_pos e1, sdM_eq h r]
      simp only [List.nil_append, List.append_nil, List.all_nil, Bool.and_true, List.any_cons, if_true, Bool.true_and]
      have e : tmB h ((tms r).1 :: (tms r).2.1) = (ftB h (tms r).1 && (tms r).2.1.all (fun m => !ftB h m)) := rfl
      rw [e]
      simp only [Bool.or_assoc]
    · rw [if_neg e1, if_neg e1]
      by_cases e2 : x = 45
      · rw [if_pos e2, if_pos e2, sdM_eq h r]
        simp only [List.nil_append, List.append_nil, List.all_cons, if_false, Bool.false_eq_true, Bool.and_assoc]
      · rw [if_neg e2, if_neg e2, sdM_eq h r]
        simp only [List.append_assoc, List.singleton_append]
/-- by the text alone: is the header in it? -/
def sdB (l h : List UInt8) : Bool := if l = [110, 111, 110, 101] then false else sdM h l [] true true false
theorem sd_pr {b : Int} {l : List UInt8} (h : List UInt8) (h0 : prE b l = 0) : sdB l h = Dn h (prT b l) := by
  unfold sdB prT
  rw [if_pos h0]
  by_cases hl : l = [110, 111, 110, 101]
  · rw [if_pos hl, if_pos hl]
    rfl
  · rw [if_neg hl, if_neg hl, sdM_eq]
    obtain ⟨-, -, h3⟩ := prE_zero h0
    have hok := h3.resolve_left hl
    have hT : ∀ t ∈ (prts 43 l).map tcon, (good t.1 = true ∧ t.1 ≠ []) ∧ ∀ m ∈ t.2, good m = true ∧ m ≠ [] := fun t ht => by
      obtain ⟨p, hp, rfl⟩ := List.mem_map.1 ht
      have h5 := List.all_eq_true.1 hok p hp
      unfold okT at h5
      rw [List.all_eq_true] at h5
      have hq : ∀ m ∈ prts 45 p, good m = true ∧ m ≠ [] := fun m hm => by
        have h6 := h5 m hm
        unfold okP at h6
        have h7 : refP m = 0 := by simpa using (Bool.and_eq_true_iff.1 h6).1
        have h8 := (refP_zero m).1 h7
        exact ⟨h8.2, h8.1⟩
      have hs := prts_shape 45 p
      refine ⟨hq _ (by rw [hs]; exact List.mem_cons_self), fun m hm => hq m (by rw [hs]; exact List.mem_cons_of_mem _ hm)⟩
    rw [Dn_form (fun t ht => ⟨((hT t ht).1).1, fun m hm => ((hT t ht).2 m hm).1⟩) (fun t ht => ((hT t ht).1).2)]
    have e1 : (false || ((true && (if true = true then ftB h ([] ++ (tms l).1) else !ftB h ([] ++ (tms l).1))) && (tms l).2.1.all (fun m => !ftB h m)) || (tms l).2.2.any (tmB h)) = (((tms l).1 :: (tms l).2.1) :: (tms l).2.2).any (tmB h) := by
      rw [List.any_cons]
      rfl
    have e2 : (if true = true then ftB h ([] ++ (tms l).1) else !ftB h ([] ++ (tms l).1)) = ftB h ([] ++ (tms l).1) := rfl
    refine e1.trans ?_
    rw [← tms_prts]
    unfold Dn
    rw [List.any_map, List.any_map]
    refine any_congrB (fun p hp => ?_)
    have h9 := hT (tcon p) (List.mem_map_of_mem hp)
    show tmB h (prts 45 p) = tdB (tcon p).1 (tcon p).2 h
    unfold tmB tdB
    have h10 : (prts 45 p).headD [] = (tcon p).1 := rfl
    have h11 : (prts 45 p).tail = (tcon p).2 := rfl
    rw [h10, h11, ft_wi h9.1.2]
    congr 1
    refine all_congrB (fun m hm => ?_)
    rw [ft_wi (h9.2 m hm).2]
theorem has_dig {c h : List UInt8} (hd : h.all digB = true) : hasB c h = wiB h c := by
  by_cases hl : c.length = h.length
  · exact has_wi hl hd
  · have h1 : wiB h c = false := by
      unfold wiB
      have : fitB h c = false := by
        cases hf : fitB h c
        · rfl
        · exact absurd (fitB_len hf).symm hl
      rw [this]
      rfl
    rw [h1]
    unfold hasB
    simp
    omega
theorem hs_dn {h : List UInt8} (hd : h.all digB = true) (X : List (List UInt8 × List (List UInt8))) : hsB X h = Dn h X := by
  unfold hsB Dn
  refine any_congrB (fun t _ => ?_)
  unfold thB tdB
  rw [has_dig hd]
  congr 1
  exact all_congrB (fun m _ => by rw [has_dig hd])
end Go.Proofs.YtfhghplplkkpmaaGreatDoor
namespace Go.Proofs.YtfhghplplkkpmaaGreatDoor
/-- the least header of a cube -/
def lsT (c : List UInt8) : List UInt8 := c.map (fun x => if x = 120 then 48 else x)
theorem lsT_len (c : List UInt8) : (lsT c).length = c.length := by simp [lsT]
def ltS (a b : List UInt8) : Bool := Op.bytesLess a b
def mnS (a x : List UInt8) : List UInt8 := if a = [] then x else if ltS x a = true then x else a
/-- the least header of cubes; none: the empty text -/
def mnL (l : List (List UInt8)) : List UInt8 := l.foldl (fun a x => mnS a (lsT x)) []
theorem mnL_snoc (l : List (List UInt8)) (x : List UInt8) : mnL (l ++ [x]) = mnS (mnL l) (lsT x) := by
  unfold mnL
  rw [List.foldl_append]
  rfl
theorem mnS_ne {a x : List UInt8} (hx : x ≠ []) : mnS a x ≠ [] := by
  unfold mnS
  split
  · exact hx
  · split
    · exact hx
    · assumption
theorem lsT_ne {x : List UInt8} (h : x ≠ []) : lsT x ≠ [] := fun e => h (List.eq_nil_of_length_eq_zero (by rw [← lsT_len, e]; rfl))
theorem mnL_one (x : List UInt8) : mnL [x] = lsT x := by
  unfold mnL mnS
  simp
theorem mnL_take {l : List (List UInt8)} {i : Nat} {x : List UInt8} (h : l[i]? = some x) : mnL (l.take (i + 1)) = mnS (mnL (l.take i)) (lsT x) := by
  rw [List.take_add_one, h]
  exact mnL_snoc _ _
theorem mnL_ne : ∀ (l : List (List UInt8)), (∀ x ∈ l, x ≠ []) → l ≠ [] → mnL l ≠ [] := fun l hl hn => by
  obtain ⟨l', x, rfl⟩ : ∃ l' x, l = l' ++ [x] := ⟨l.dropLast, l.getLast hn, (List.dropLast_concat_getLast hn).symm⟩
  rw [mnL_snoc]
  exact mnS_ne (lsT_ne (hl x (by simp)))
theorem wr_zero (n : Nat) (c : List UInt8) (h : c.length = n) : wrT (List.replicate n 48) c = lsT c := by
  subst h
  apply List.ext_getElem?
  intro i
  unfold wrT lsT
  rw [List.getElem?_zipWith, List.getElem?_map]
  by_cases hi : i < c.length
  · rw [List.getElem?_eq_getElem (by simpa using hi), List.getElem?_eq_getElem hi]
    simp
  · rw [List.getElem?_eq_none (by simpa using hi), List.getElem?_eq_none (by omega)]
    rfl
theorem good_zero (n : Nat) (h2 : n ≤ 256) : good (List.replicate n 48) = true := by
  simp only [good, Bool.and_eq_true, decide_eq_true_eq, List.all_eq_true, List.length_replicate]
  refine ⟨by omega, fun y hy => ?_⟩
  rw [List.eq_of_mem_replicate hy]
  decide
end Go.Proofs.YtfhghplplkkpmaaGreatDoor

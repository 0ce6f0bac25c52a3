import Derived.Test.YtcmajlianphoaaaGreatDoorXAY
import Derived.Test.YtcmajlianphoaaaGreatDoorXAA
import Derived.Test.YtcmajlianphoaaaGreatDoorXAK
import Derived.Deep.RegionHeld3
import Derived.Deep.AppendLies
namespace Go.Proofs.YtcmajlianphoaaaGreatDoor
open Go.RowKit Go.Shelf
theorem sof_mD (Y : List (List UInt8 × List (List UInt8))) (x : List UInt8 × List (List UInt8)) : x ∈ ordT Y ↔ ∃ y ∈ Y, sof y = x := by
  rw [(ordT_perm Y).mem_iff, List.mem_map]
/-- a header is in one of the terms, cube by cube -/
def Dn (h : List UInt8) (X : List (List UInt8 × List (List UInt8))) : Bool := X.any (fun t => tdB t.1 t.2 h)
theorem td_iff (c : List UInt8) (L : List (List UInt8)) (h : List UInt8) : tdB c L h = true ↔ wiB h c = true ∧ ∀ m ∈ L, ¬ wiB h m = true := by
  unfold tdB
  rw [Bool.and_eq_true, List.all_eq_true]
  simp
theorem Dn_iff (h : List UInt8) (X : List (List UInt8 × List (List UInt8))) : Dn h X = true ↔ ∃ t ∈ X, wiB h t.1 = true ∧ ∀ m ∈ t.2, ¬ wiB h m = true := by
  unfold Dn
  rw [List.any_eq_true]
  constructor
  · rintro ⟨t, ht, e⟩
    exact ⟨t, ht, (td_iff _ _ _).1 e⟩
  · rintro ⟨t, ht, e⟩
    exact ⟨t, ht, (td_iff _ _ _).2 e⟩
theorem mt_second {m c : List UInt8} (gm : good m = true) (gc : good c = true) (h : agB m c = true) : wiB (mtT m c) c = true := by
  have hn := mt_ne h
  have hf := agB_fit h
  have hl := fitB_len hf
  have hcf := agB_cfl h
  unfold mtT at hn ⊢
  rw [if_pos h] at hn ⊢
  have hml := meetT_len m c hl
  refine wi_mk (fit_mk (by omega) hn) (fun k k1 k2 => ?_)
  have k4 : k < m.length := by omega
  have hg := meetT_get m c hl k k4
  rw [List.getElem?_eq_getElem k1] at hg
  rw [Option.some.inj hg]
  have ta := good_tri gm k k4
  have tb := good_tri gc k k2
  have hk := hcf k
  unfold cfl fx on at hk
  rw [List.getElem?_eq_getElem k4, List.getElem?_eq_getElem k2] at hk
  generalize m[k] = u at *
  generalize c[k] = v at *
  simp [tri] at ta tb
  rcases ta with (rfl | rfl) | rfl <;> rcases tb with (rfl | rfl) | rfl <;> simp_all
theorem les_mem {c h : List UInt8} {L : List (List UInt8)} (gc : good c = true) (gL : ∀ m ∈ L, good m = true) (hc : wiB h c = true) : (∃ m ∈ lesL c L, wiB h m = true) ↔ ∃ m ∈ L, wiB h m = true := by
  unfold lesL
  constructor
  · rintro ⟨x, hx, hw⟩
    obtain ⟨m, hm, e⟩ := List.mem_filterMap.1 hx
    split at e
    · rename_i ha
      obtain rfl := Option.some.inj e
      exact ⟨m, hm, wi_trans hw (mt_first (gL m hm) gc ha)⟩
    · cases e
  · rintro ⟨m, hm, hw⟩
    obtain ⟨h1, h2⟩ := wi_glb (gL m hm) gc hw hc
    exact ⟨mtT m c, List.mem_filterMap.2 ⟨m, hm, by rw [if_pos h1]⟩, h2⟩
theorem top_mem {K : List (List UInt8)} {h : List UInt8} (hn : ∀ x ∈ K, x ≠ []) : (∃ m ∈ topL K, wiB h m = true) ↔ ∃ m ∈ K, wiB h m = true := by
  have hG : GI wiB (topL K) K := gi_all (r := wiB) (P := fun x => x ≠ []) (fun _ h => wi_rf h) (fun _ _ _ _ _ _ h1 h2 => wi_trans h1 h2) hn
  constructor
  · rintro ⟨m, hm, hw⟩
    exact ⟨m, hG.sub m hm, hw⟩
  · rintro ⟨m, hm, hw⟩
    obtain ⟨t, ht, hr⟩ := hG.cov m hm
    exact ⟨t, ht, wi_trans hw hr⟩
theorem les_ne {c : List UInt8} {L : List (List UInt8)} : ∀ x ∈ lesL c L, x ≠ [] := fun x hx => by
  obtain ⟨m, hm, e⟩ := List.mem_filterMap.1 hx
  split at e
  · rename_i ha
    obtain rfl := Option.some.inj e
    exact mt_ne ha
  · cases e
theorem set_none_td {c h : List UInt8} {L : List (List UInt8)} (gc : good c = true) (gL : ∀ m ∈ L, good m = true) (hs : setO c L = none) : ¬ tdB c L h = true := fun ht => by
  obtain ⟨h1, h2⟩ := (td_iff _ _ _).1 ht
  unfold setO at hs
  split at hs
  · rename_i ha
    obtain ⟨x, hx, he⟩ := List.any_eq_true.1 ha
    obtain rfl : x = c := by simpa using he
    obtain ⟨m, hm, hw⟩ := (les_mem gc gL h1).1 ⟨x, hx, h1⟩
    exact h2 m hm hw
  · cases hs
theorem set_some_td {c h : List UInt8} {L R : List (List UInt8)} (gc : good c = true) (gL : ∀ m ∈ L, good m = true) (hs : setO c L = some R) : tdB c R h = tdB c L h := by
  unfold setO at hs
  split at hs
  · cases hs
  · obtain rfl := Option.some.inj hs
    rw [Bool.eq_iff_iff, td_iff, td_iff]
    constructor
    · rintro ⟨h1, h2⟩
      refine ⟨h1, fun m hm hw => ?_⟩
      obtain ⟨x, hx, hw2⟩ := (top_mem les_ne).2 ((les_mem gc gL h1).2 ⟨m, hm, hw⟩)
      exact h2 x hx hw2
    · rintro ⟨h1, h2⟩
      refine ⟨h1, fun m hm hw => ?_⟩
      obtain ⟨x, hx, hw2⟩ := (les_mem gc gL h1).1 ((top_mem les_ne).1 ⟨m, hm, hw⟩)
      exact h2 x hx hw2
theorem Dn_stl {X : List (List UInt8 × List (List UInt8))} (g : gdC X) (h : List UInt8) : Dn h (stl X) = Dn h X := by
  rw [Bool.eq_iff_iff]
  unfold Dn
  rw [List.any_eq_true, List.any_eq_true]
  constructor
  · rintro ⟨t, ht, e⟩
    obtain ⟨u, hu, he⟩ := List.mem_filterMap.1 ht
    cases hs : setO u.1 u.2 with
    | none => rw [hs] at he; cases he
    | some R =>
      rw [hs] at he
      obtain rfl := Option.some.inj he
      exact ⟨u, hu, by rw [← set_some_td (g u hu).1 (g u hu).2 hs]; exact e⟩
  · rintro ⟨u, hu, e⟩
    cases hs : setO u.1 u.2 with
    | none => exact absurd e (set_none_td (g u hu).1 (g u hu).2 hs)
    | some R => exact ⟨(u.1, R), List.mem_filterMap.2 ⟨u, hu, by rw [hs]; rfl⟩, by rw [set_some_td (g u hu).1 (g u hu).2 hs]; exact e⟩
theorem cv_td {a b : List UInt8 × List (List UInt8)} {h : List UInt8} (ga : gdT a) (gb : gdT b) (hc : cvC a b = true) (ht : tdB a.1 a.2 h = true) : tdB b.1 b.2 h = true := by
  obtain ⟨c1, c2⟩ := (cv_iff a b).1 hc
  obtain ⟨h1, h2⟩ := (td_iff _ _ _).1 ht
  refine (td_iff _ _ _).2 ⟨wi_trans h1 c1, fun n hn hw => ?_⟩
  obtain ⟨h3, h4⟩ := wi_glb (gb.2 n hn) ga.1 hw h1
  obtain ⟨y, hy, h5⟩ := c2 n hn h3
  exact h2 y hy (wi_trans h4 h5)
theorem Dn_top {X : List (List UInt8 × List (List UInt8))} (g : ∀ x ∈ X, gdT x ∧ x.1 ≠ []) (h : List UInt8) : Dn h (topC X) = Dn h X := by
  have hG : GI cvC (topC X) X := gi_all (r := cvC) (P := fun x => gdT x ∧ x.1 ≠ []) (fun _ h => cv_refl h.1 h.2) (fun _ _ _ ha hb hc h1 h2 => cv_trans ha.1 hb.1 hc.1 h1 h2) g
  rw [Bool.eq_iff_iff]
  unfold Dn
  rw [List.any_eq_true, List.any_eq_true]
  constructor
  · rintro ⟨t, ht, e⟩
    exact ⟨t, hG.sub t ht, e⟩
  · rintro ⟨u, hu, e⟩
    obtain ⟨t, ht, hr⟩ := hG.cov u hu
    exact ⟨t, ht, cv_td (g u hu).1 (g t (hG.sub t ht)).1 hr e⟩
theorem Dn_ord (X : List (List UInt8 × List (List UInt8))) (h : List UInt8) : Dn h (ordT X) = Dn h X := by
  have hp : ∀ y : List UInt8 × List (List UInt8), tdB (sof y).1 (sof y).2 h = tdB y.1 y.2 h := fun y => by
    rw [Bool.eq_iff_iff, td_iff, td_iff]
    have hm : ∀ x, x ∈ (sof y).2 ↔ x ∈ y.2 := fun x => (srtT_perm y.2).mem_iff
    exact ⟨fun ⟨a, b⟩ => ⟨a, fun m hm' => b m ((hm m).2 hm')⟩, fun ⟨a, b⟩ => ⟨a, fun m hm' => b m ((hm m).1 hm')⟩⟩
  rw [Bool.eq_iff_iff]
  unfold Dn
  rw [List.any_eq_true, List.any_eq_true]
  constructor
  · rintro ⟨t, ht, e⟩
    obtain ⟨y, hy, rfl⟩ := (sof_mD X t).1 ht
    exact ⟨y, hy, by rw [← hp]; exact e⟩
  · rintro ⟨y, hy, e⟩
    exact ⟨sof y, (sof_mD X _).2 ⟨y, hy, rfl⟩, by rw [hp]; exact e⟩
theorem Dn_form {X : List (List UInt8 × List (List UInt8))} (g : gdC X) (hn : ∀ x ∈ X, x.1 ≠ []) (h : List UInt8) : Dn h (ordT (topC (stl X))) = Dn h X := by
  rw [Dn_ord, Dn_top (fun x hx => ?_), Dn_stl g]
  refine ⟨gdC_stl g x hx, ?_⟩
  obtain ⟨u, hu, he⟩ := List.mem_filterMap.1 hx
  cases hs : setO u.1 u.2 with
  | none => rw [hs] at he; cases he
  | some R =>
    rw [hs] at he
    obtain rfl := Option.some.inj he
    exact hn u hu
end Go.Proofs.YtcmajlianphoaaaGreatDoor
namespace Go.Proofs.YtcmajlianphoaaaGreatDoor
open Go.RowKit Go.Shelf
/-- every term of what is read has its form, and its width -/
theorem prT_ft (b : Int) (l : List UInt8) : ∀ t ∈ prT b l, FTm t ∧ (t.1.length : Int) = b ∧ 1 ≤ b ∧ b ≤ 256 ∧ prE b l = 0 := fun t ht => by
  unfold prT at ht
  split at ht
  · rename_i h0
    obtain ⟨h1, h2, h3⟩ := prE_zero h0
    split at ht
    · cases ht
    · rename_i hn
      rcases h3 with h3 | h3
      · exact absurd h3 hn
      · obtain ⟨hf, y, hy, he⟩ := FTm_form (gdC_tcon h3) t ht
        refine ⟨hf, ?_, h1, h2, h0⟩
        obtain ⟨p, hp, rfl⟩ := List.mem_map.1 hy
        have h4 := List.all_eq_true.1 h3 p hp
        have hne := prts_ne 45 p
        have : (tcon p).1.length = b.toNat := by
          unfold tcon
          unfold okT at h4
          cases hc : prts 45 p with
          | nil => rw [hc] at hne; exact absurd hne (by simp)
          | cons c r =>
            rw [hc] at h4
            have h5 := List.all_eq_true.1 h4 c List.mem_cons_self
            unfold okP at h5
            simpa using (Bool.and_eq_true_iff.1 h5).2
        rw [← he, this]
        omega
  · cases ht
theorem okH_at {t h : List UInt8} {k : Nat} (hk : k < t.length) (hk2 : k < h.length) : okH t h k = ((h[k] == 48 || h[k] == 49) && (t[k] == 120 || t[k] == h[k])) := by
  unfold okH
  rw [List.getElem?_eq_getElem hk, List.getElem?_eq_getElem hk2]
theorem has_wi {t h : List UInt8} (hl : t.length = h.length) (hd : h.all digB = true) : hasB t h = wiB h t := by
  have hd' := List.all_eq_true.1 hd
  unfold hasB wiB fitB
  have e1 : t.isEmpty = h.isEmpty := by
    cases t <;> cases h <;> first | rfl | (simp at hl)
  rw [e1, hl, Bool.eq_iff_iff]
  simp only [Bool.and_eq_true, allTo_iff]
  refine and_congr (by simp) (forall_congr' fun k => forall_congr' fun hk => ?_)
  rw [okH_at (by omega) hk, List.getElem?_eq_getElem hk, List.getElem?_eq_getElem (show k < t.length by omega)]
  have h1 := hd' _ (List.getElem_mem hk)
  unfold digB at h1
  rw [h1, Bool.true_and]
  simp only [Bool.or_eq_true, beq_iff_eq]
  exact ⟨fun h => h.imp id Eq.symm, fun h => h.imp id Eq.symm⟩
theorem has_hd {b : Int} {t h : List UInt8} (hb : (t.length : Int) = b) (h1 : 1 ≤ b) (hh : hdB b h = false) : hasB t h = false := by
  cases hc : hasB t h with
  | false => rfl
  | true =>
    unfold hasB at hc
    obtain ⟨h2, h3⟩ := Bool.and_eq_true_iff.1 hc
    have h4 : t.length = h.length := by simpa using (Bool.and_eq_true_iff.1 h2).2
    have h5 := (allTo_iff _ _).1 h3
    have : hdB b h = true := by
      unfold hdB
      rw [← h4, show ((t.length : Int) == b) = true by simpa using hb, show (b == 0) = false by simp; omega]
      simp only [Bool.not_false, Bool.and_true, Bool.true_and]
      refine List.all_eq_true.2 (fun x hx => ?_)
      obtain ⟨k, hk, rfl⟩ := List.getElem_of_mem hx
      have h6 := h5 k (by omega)
      rw [okH_at (by omega) hk] at h6
      exact (Bool.and_eq_true_iff.1 h6).1
    rw [this] at hh
    cases hh
theorem any_congrB {α : Type} {L : List α} {p q : α → Bool} (h : ∀ t ∈ L, p t = q t) : L.any p = L.any q := by
  induction L with
  | nil => rfl
  | cons x l ih => rw [List.any_cons, List.any_cons, h x List.mem_cons_self, ih (fun t ht => h t (List.mem_cons_of_mem _ ht))]
theorem all_congrB {α : Type} {L : List α} {p q : α → Bool} (h : ∀ t ∈ L, p t = q t) : L.all p = L.all q := by
  induction L with
  | nil => rfl
  | cons x l ih => rw [List.all_cons, List.all_cons, h x List.mem_cons_self, ih (fun t ht => h t (List.mem_cons_of_mem _ ht))]
/-- the program's Has is the document's -/
theorem hs_eq (b : Int) (l h : List UInt8) : hsB (prT b l) h = (hdB (prB b l) h && (prT b l).any (fun t => tdB t.1 t.2 h)) := by
  have hF := prT_ft b l
  unfold hsB
  by_cases hX : prT b l = []
  · rw [hX]; simp
  · obtain ⟨t0, ht0⟩ : ∃ t, t ∈ prT b l := by
      cases hx : prT b l with
      | nil => exact absurd hx hX
      | cons t r => exact ⟨t, List.mem_cons_self⟩
    have e0 : prB b l = b := by unfold prB; rw [if_pos (hF t0 ht0).2.2.2.2]
    rw [e0]
    cases hh : hdB b h with
    | false =>
      rw [Bool.false_and, List.any_eq_false]
      intro t ht
      obtain ⟨hf, hl, h1, h2, -⟩ := hF t ht
      unfold thB
      rw [has_hd hl h1 hh]
      simp
    | true =>
      rw [Bool.true_and]
      refine any_congrB (fun t ht => ?_)
      obtain ⟨hf, hl, h1, h2, -⟩ := hF t ht
      have hd : h.all digB = true := (Bool.and_eq_true_iff.1 hh).2
      have hln : (h.length : Int) = b := by simpa using (Bool.and_eq_true_iff.1 (Bool.and_eq_true_iff.1 hh).1).1
      unfold thB tdB
      rw [has_wi (by omega) hd]
      congr 1
      refine all_congrB (fun m hm => ?_)
      have h3 := hf.wi m hm
      unfold wiB at h3
      have h4 := fitB_len (Bool.and_eq_true_iff.1 h3).1
      rw [has_wi (by omega) hd]
end Go.Proofs.YtcmajlianphoaaaGreatDoor
namespace Go.Proofs.YtcmajlianphoaaaGreatDoor
open Go.RowKit Go.Shelf
/-- has the header the digits of the cube's text? -/
def ftB (h c : List UInt8) : Bool := (h.length == c.length) && allTo (fun k => match h[k]?, c[k]? with | some x, some y => y == 120 || x == y | _, _ => true) h.length
theorem ft_wi {h c : List UInt8} (hc : c ≠ []) : ftB h c = wiB h c := by
  unfold ftB wiB
  have e : (h.length == c.length) = fitB h c := by
    rw [Bool.eq_iff_iff, beq_iff_eq]
    constructor
    · intro hl
      refine fit_mk hl (fun e => hc ?_)
      rw [e] at hl
      exact List.eq_nil_of_length_eq_zero hl.symm
    · exact fitB_len
  rw [e]
  rfl
theorem first_of {s : UInt8} : ∀ r : List UInt8, s ∉ r ∨ ∃ c t, r = c ++ s :: t ∧ s ∉ c
  | [] => .inl (by simp)
  | x :: r => by
    by_cases e : x = s
    · exact .inr ⟨[], r, by rw [e]; rfl, by simp⟩
    · rcases first_of (s := s) r with h | ⟨c, t, rfl, hc⟩
      · exact .inl (fun hm => (List.mem_cons.1 hm).elim (fun e2 => e e2.symm) h)
      · exact .inr ⟨x :: c, t, rfl, fun hm => (List.mem_cons.1 hm).elim (fun e2 => e e2.symm) hc⟩
theorem prts_no {s : UInt8} {r : List UInt8} (h : s ∉ r) : prts s r = [r] := prts_neg (by rw [idxM_no h]; decide)
theorem prts_mid {s : UInt8} {c t : List UInt8} (hc : s ∉ c) : prts s (c ++ s :: t) = c :: prts s t := by
  rw [prts_pos (idxM_mid _ hc), List.take_left, List.drop_append, List.drop_eq_nil_of_le (by omega)]
  rw [show c.length + 1 - c.length = 1 by omega]
  rfl
theorem prts_sep (s : UInt8) (r : List UInt8) : prts s (s :: r) = [] :: prts s r := prts_mid (c := []) (by simp)
theorem prts_cons {s x : UInt8} (hx : x ≠ s) (r : List UInt8) : prts s (x :: r) = (x :: (prts s r).headD []) :: (prts s r).tail := by
  rcases first_of (s := s) r with h | ⟨c, t, rfl, hc⟩
  · rw [prts_no h, prts_no (fun hm => (List.mem_cons.1 hm).elim (fun e2 => hx e2.symm) h)]
    rfl
  · rw [prts_mid hc]
    exact prts_mid (c := x :: c) (fun hm => (List.mem_cons.1 hm).elim (fun e2 => hx e2.symm) hc)
theorem prts_shape (s : UInt8) (r : List UInt8) : prts s r = (prts s r).headD [] :: (prts s r).tail := by
  have h := prts_ne s r
  cases e : prts s r with
  | nil => rw [e] at h; exact absurd h (by simp)
  | cons a l => rfl
/-- a term and those behind it, cube by cube, as they are read -/
def tms : List UInt8 → List UInt8 × List (List UInt8) × List (List (List UInt8))
  | [] => ([], [], [])
  | x :: r => if x = 43 then ([], [], ((tms r).1 :: (tms r).2.1) :: (tms r).2.2) else if x = 45 then ([], (tms r).1 :: (tms r).2.1, (tms r).2.2) else (x :: (tms r).1, (tms r).2.1, (tms r).2.2)
theorem tms_oth {x : UInt8} {r : List UInt8} (e1 : x ≠ 43) (e2 : x ≠ 45) : tms (x :: r) = (x :: (tms r).1, (tms r).2.1, (tms r).2.2) := by
  show (if x = 43 then _ else if x = 45 then _ else _) = _
  rw [if_neg e1, if_neg e2]
theorem tms_prts : ∀ l : List UInt8, (prts 43 l).map (prts 45) = ((tms l).1 :: (tms l).2.1) :: (tms l).2.2
  | [] => by
    rw [prts_no (by simp)]
    show [prts 45 []] = _
    rw [prts_no (by simp)]
    rfl
  | x :: r => by
    have ih := tms_prts r
    by_cases e1 : x = 43
    · subst e1
      rw [prts_sep, List.map_cons, ih, prts_no (s := 45) (r := []) (by simp)]
      rfl
    · rw [prts_shape 43 r, List.map_cons] at ih
      injection ih with i1 i2
      rw [prts_cons e1, List.map_cons, i2]
      by_cases e2 : x = 45
      · subst e2
        rw [prts_sep, i1]
        rfl
      · rw [prts_cons e2, i1, tms_oth e1 e2]
        rfl
def tmB (h : List UInt8) (T : List (List UInt8)) : Bool := ftB h (T.headD []) && T.tail.all (fun m => !ftB h m)
/-- the reading of a text: the cube so far, whether the header is in the term so far, whether the cube is its first, whether it was in one -/
def sdM (h : List UInt8) : List UInt8 → List UInt8 → Bool → Bool → Bool → Bool
  | [], cur, inn, fst, sm => sm || (inn && (if fst then ftB h cur else !ftB h cur))
  | x :: r, cur, inn, fst, sm => if x = 43 then sdM h r [] true true (sm || (inn && (if fst then ftB h cur else !ftB h cur))) else if x = 45 then sdM h r [] (inn && (if fst then ftB h cur else !ftB h cur)) false sm else sdM h r (cur ++ [x]) inn fst sm
theorem sdM_eq (h : List UInt8) : ∀ (l cur : List UInt8) (inn fst sm : Bool), sdM h l cur inn fst sm = (sm || ((inn && (if fst then ftB h (cur ++ (tms l).1) else !ftB h (cur ++ (tms l).1))) && (tms l).2.1.all (fun m => !ftB h m)) || (tms l).2.2.any (tmB h))
  | [], cur, inn, fst, sm => by simp [sdM, tms]
  | x :: r, cur, inn, fst, sm => by
    unfold sdM tms
    by_cases e1 : x = 43
    · rw [if_pos e1, if_pos e1, sdM_eq h r]
      simp only [List.nil_append, List.append_nil, List.all_nil, Bool.and_true, List.any_cons, if_true, Bool.true_and]
      have e : tmB h ((tms r).1 :: (tms r).2.1) = (ftB h (tms r).1 && (tms r).2.1.all (fun m => !ftB h m)) := rfl
      rw [e]
      simp only [Bool.or_assoc]
    · rw [if_neg e1, if_neg e1]
      by_cases e2 : x = 45
      · rw [if_pos e2, if_pos e2, sdM_eq h r]
        simp only [List.nil_append, List.append_nil, List.all_cons, if_false, Bool.false_eq_true, Bool.and_assoc]
      · rw [if_neg e2, if_neg e2, sdM_eq h r]
        simp only [List.append_assoc, List.singleton_append]
/-- by the text alone: is the header in it? -/
def sdB (l h : List UInt8) : Bool := if l = [110, 111, 110, 101] then false else sdM h l [] true true false
theorem sd_pr {b : Int} {l : List UInt8} (h : List UInt8) (h0 : prE b l = 0) : sdB l h = Dn h (prT b l) := by
  unfold sdB prT
  rw [if_pos h0]
  by_cases hl : l = [110, 111, 110, 101]
  · rw [if_pos hl, if_pos hl]
    rfl
  · rw [if_neg hl, if_neg hl, sdM_eq]
    obtain ⟨-, -, h3⟩ := prE_zero h0
    have hok := h3.resolve_left hl
    have hT : ∀ t ∈ (prts 43 l).map tcon, (good t.1 = true ∧ t.1 ≠ []) ∧ ∀ m ∈ t.2, good m = true ∧ m ≠ [] := fun t ht => by
      obtain ⟨p, hp, rfl⟩ := List.mem_map.1 ht
      have h5 := List.all_eq_true.1 hok p hp
      unfold okT at h5
      rw [List.all_eq_true] at h5
      have hq : ∀ m ∈ prts 45 p, good m = true ∧ m ≠ [] := fun m hm => by
        have h6 := h5 m hm
        unfold okP at h6
        have h7 : refP m = 0 := by simpa using (Bool.and_eq_true_iff.1 h6).1
        have h8 := (refP_zero m).1 h7
        exact ⟨h8.2, h8.1⟩
      have hs := prts_shape 45 p
      refine ⟨hq _ (by rw [hs]; exact List.mem_cons_self), fun m hm => hq m (by rw [hs]; exact List.mem_cons_of_mem _ hm)⟩
    rw [Dn_form (fun t ht => ⟨((hT t ht).1).1, fun m hm => ((hT t ht).2 m hm).1⟩) (fun t ht => ((hT t ht).1).2)]
    have e1 : (false || ((true && (if true = true then ftB h ([] ++ (tms l).1) else !ftB h ([] ++ (tms l).1))) && (tms l).2.1.all (fun m => !ftB h m)) || (tms l).2.2.any (tmB h)) = (((tms l).1 :: (tms l).2.1) :: (tms l).2.2).any (tmB h) := by
      rw [List.any_cons]
      rfl
    have e2 : (if true = true then ftB h ([] ++ (tms l).1) else !ftB h ([] ++ (tms l).1)) = ftB h ([] ++ (tms l).1) := rfl
    refine e1.trans ?_
    rw [← tms_prts]
    unfold Dn
    rw [List.any_map, List.any_map]
    refine any_congrB (fun p hp => ?_)
    have h9 := hT (tcon p) (List.mem_map_of_mem hp)
    show tmB h (prts 45 p) = tdB (tcon p).1 (tcon p).2 h
    unfold tmB tdB
    have h10 : (prts 45 p).headD [] = (tcon p).1 := rfl
    have h11 : (prts 45 p).tail = (tcon p).2 := rfl
    rw [h10, h11, ft_wi h9.1.2]
    congr 1
    refine all_congrB (fun m hm => ?_)
    rw [ft_wi (h9.2 m hm).2]
theorem has_dig {c h : List UInt8} (hd : h.all digB = true) : hasB c h = wiB h c := by
  by_cases hl : c.length = h.length
  · exact has_wi hl hd
  · have h1 : wiB h c = false := by
      unfold wiB
      have : fitB h c = false := by
        cases hf : fitB h c
        · rfl
        · exact absurd (fitB_len hf).symm hl
      rw [this]
      rfl
    rw [h1]
    unfold hasB
    simp
    omega
theorem hs_dn {h : List UInt8} (hd : h.all digB = true) (X : List (List UInt8 × List (List UInt8))) : hsB X h = Dn h X := by
  unfold hsB Dn
  refine any_congrB (fun t _ => ?_)
  unfold thB tdB
  rw [has_dig hd]
  congr 1
  exact all_congrB (fun m _ => by rw [has_dig hd])
end Go.Proofs.YtcmajlianphoaaaGreatDoor
namespace Go.Proofs.YtcmajlianphoaaaGreatDoor

/-- a place at which d has a digit and c has x -/
def qual (a b : List UInt8) (p : Nat) : Bool := fx b p && !fx a p
/-- the open places of word w from bit i on -/
def opn (a b : List UInt8) (w i : Nat) : Nat := wd (fun j => decide (i ≤ j) && qual a b (64 * w + j)) 64

theorem opn_lt (a b : List UInt8) (w i : Nat) : opn a b w i < 18446744073709551616 := wd_lt _ 64
theorem opn_bit (a b : List UInt8) (w i j : Nat) : (opn a b w i).testBit j = (decide (j < 64) && (decide (i ≤ j) && qual a b (64 * w + j))) := wd_bit _ _ _

theorem opn_start (a b : List UInt8) (w : Nat) : bits .andNot .u64 (FW b w : Int) (FW a w : Int) = (opn a b w 0 : Nat) := by
  rw [u64_andNot_nat _ _ (FW_lt _ _) (FW_lt _ _)]
  congr 1
  apply Nat.eq_of_testBit_eq
  intro i
  rw [andnot_bit _ _ (FW_lt _ _), FW_bit, FW_bit, opn_bit]
  unfold qual
  by_cases hi : i < 64 <;> simp [hi]

theorem least_bit (O : Nat) (h : O ≠ 0) (hO : O < 18446744073709551616) : ∃ r m, r < 64 ∧ O = 2 ^ (r + 1) * m + 2 ^ r := by
  have key : ∀ n O, O ≠ 0 → O < 2 ^ n → ∃ r m, r < n ∧ O = 2 ^ (r + 1) * m + 2 ^ r := by
    intro n
    induction n with
    | zero => intro O h1 h2; simp at h2; exact absurd h2 h1
    | succ n ih =>
      intro O h1 h2
      by_cases e : O % 2 = 1
      · exact ⟨0, O / 2, by omega, by simp; omega⟩
      · have hp : 2 ^ (n + 1) = 2 * 2 ^ n := by rw [Nat.pow_succ]; omega
        obtain ⟨r, m, hr, hm⟩ := ih (O / 2) (by omega) (by omega)
        refine ⟨r + 1, m, by omega, ?_⟩
        have e1 : O = 2 * (O / 2) := by omega
        rw [e1, hm, Nat.mul_add, ← Nat.mul_assoc, Nat.pow_succ 2 (r + 1), Nat.pow_succ 2 r]
        congr 1
        · rw [Nat.mul_comm 2 (2 ^ r * 2)]
        · omega
  exact key 64 O h hO

theorem odd_bit (r m j : Nat) : (2 ^ (r + 1) * m + 2 ^ r).testBit j = (if j < r then false else if j = r then true else m.testBit (j - (r + 1))) := by
  have hp : 2 ^ r < 2 ^ (r + 1) := Nat.pow_lt_pow_right (by omega) (by omega)
  rw [Nat.testBit_two_pow_mul_add _ hp]
  by_cases h1 : j < r
  · have : j < r + 1 := by omega
    simp only [this, if_true, h1]
    rw [Nat.testBit_two_pow]
    simp; omega
  · by_cases h2 : j = r
    · subst h2
      simp
    · have : ¬ j < r + 1 := by omega
      simp only [this, if_false, h1, h2]
theorem odd_pred_bit (r m j : Nat) : (2 ^ (r + 1) * m + 2 ^ r - 1).testBit j = (if j < r then true else if j = r then false else m.testBit (j - (r + 1))) := by
  have hp : 2 ^ r < 2 ^ (r + 1) := Nat.pow_lt_pow_right (by omega) (by omega)
  have h0 : 0 < 2 ^ r := Nat.two_pow_pos r
  have e : 2 ^ (r + 1) * m + 2 ^ r - 1 = 2 ^ (r + 1) * m + (2 ^ r - 1) := by omega
  rw [e, Nat.testBit_two_pow_mul_add _ (by omega), Nat.testBit_two_pow_sub_one]
  by_cases h1 : j < r
  · have : j < r + 1 := by omega
    simp [this, h1]
  · by_cases h2 : j = r
    · subst h2; simp
    · have : ¬ j < r + 1 := by omega
      simp [this, h1, h2]

/-- what the round of the inner loop does -/
theorem opn_step (a b : List UInt8) (w i : Nat) (h : opn a b w i ≠ 0) : ∃ r, i ≤ r ∧ r < 64 ∧ qual a b (64 * w + r) = true ∧ (∀ j, i ≤ j → j < r → qual a b (64 * w + j) = false) ∧
    opn a b w i &&& (18446744073709551616 - opn a b w i) = 2 ^ r ∧ opn a b w i &&& (opn a b w i - 1) = opn a b w (r + 1) := by
  obtain ⟨r, m, hr, hm⟩ := least_bit _ h (opn_lt a b w i)
  have hb : ∀ j, (opn a b w i).testBit j = (if j < r then false else if j = r then true else m.testBit (j - (r + 1))) := fun j => by rw [hm]; exact odd_bit r m j
  have hpb : ∀ j, (opn a b w i - 1).testBit j = (if j < r then true else if j = r then false else m.testBit (j - (r + 1))) := fun j => by rw [hm]; exact odd_pred_bit r m j
  have hr1 := hb r
  rw [opn_bit] at hr1
  simp [hr] at hr1
  refine ⟨r, hr1.1, hr, hr1.2, ?_, ?_, ?_⟩
  · intro j h1 h2
    have := hb j
    rw [opn_bit] at this
    have h3 : j < 64 := by omega
    simp [h1, h2, h3] at this
    exact this
  · apply Nat.eq_of_testBit_eq
    intro j
    have e : 18446744073709551616 - opn a b w i = 2 ^ 64 - ((opn a b w i - 1) + 1) := by have := opn_lt a b w i; omega
    rw [Nat.testBit_and, e, Nat.testBit_two_pow_sub_succ (by have := opn_lt a b w i; omega), hpb, hb, Nat.testBit_two_pow]
    by_cases h1 : j < r
    · have : ¬ r = j := by omega
      simp [h1, this]
    · by_cases h2 : j = r
      · subst h2; simp [hr]
      · have : ¬ r = j := by omega
        simp [h1, h2, this]
        exact fun h _ => h
  · apply Nat.eq_of_testBit_eq
    intro j
    rw [Nat.testBit_and, hpb, opn_bit, opn_bit]
    by_cases h1 : j < r
    · have h2 : ¬ r + 1 ≤ j := by omega
      have := hb j
      rw [opn_bit] at this
      simp [h1] at this
      simp only [h1, if_true, h2, decide_false, Bool.false_and, Bool.and_false, Bool.and_true]
      simpa using this
    · by_cases h2 : j = r
      · subst h2; simp
        intro _ hx; omega
      · have h3 : r + 1 ≤ j := by omega
        have h4 : i ≤ j := by omega
        have := hb j
        rw [opn_bit] at this
        simp only [h1, h2, if_false, h4, h3, decide_true, Bool.true_and] at this ⊢
        rw [← this]
        simp

/-- c with d's digits at the open places below p -/
def rsT (a b : List UInt8) (p : Nat) : List UInt8 := meetT (a.take p) (b.take p) ++ a.drop p
theorem rs_get (a b : List UInt8) (hl : a.length = b.length) (p k : Nat) (hk : k < a.length) : (rsT a b p)[k]? = some (if k < p then (if a[k] == 120 then b[k]'(by omega) else a[k]) else a[k]) := by
  unfold rsT
  have hm : (meetT (a.take p) (b.take p)).length = min p a.length := by rw [meetT_len _ _ (by simp; omega)]; simp
  by_cases h : k < p
  · rw [List.getElem?_append_left (by omega), meetT_get _ _ (by simp; omega) k (by simp; omega)]
    simp [h]
  · rw [List.getElem?_append_right (by omega), hm, List.getElem?_drop]
    have : p + (k - min p a.length) = k := by omega
    rw [this, List.getElem?_eq_getElem hk]
    simp [h]
theorem rs_len (a b : List UInt8) (hl : a.length = b.length) (p : Nat) : (rsT a b p).length = a.length := by
  unfold rsT
  rw [List.length_append, meetT_len _ _ (by simp; omega)]
  simp; omega
theorem rs_zero (a b : List UInt8) : rsT a b 0 = a := by simp [rsT, meetT]
theorem qual_bytes (a b : List UInt8) (hl : a.length = b.length) (p : Nat) (hp : p < a.length) : qual a b p = (!(b[p]'(by omega) == 120) && (a[p] == 120)) := by
  have hb : p < b.length := by omega
  simp only [qual, fx, List.getElem?_eq_getElem hp, List.getElem?_eq_getElem hb]
  cases e1 : (b[p] == 120) <;> cases e2 : (a[p] == 120) <;> simp_all
theorem qual_lt (a b : List UInt8) (hl : a.length = b.length) (p : Nat) (h : qual a b p = true) : p < a.length := by
  rcases Nat.lt_or_ge p a.length with h1 | h1
  · exact h1
  · simp only [qual, fx] at h
    rw [List.getElem?_eq_none (show b.length ≤ p by omega)] at h
    simp at h
theorem rs_skip (a b : List UInt8) (hl : a.length = b.length) (p q : Nat) (hpq : p ≤ q) (h : ∀ k, p ≤ k → k < q → qual a b k = false) : rsT a b q = rsT a b p := by
  apply List.ext_getElem?
  intro k
  by_cases hk : k < a.length
  · rw [rs_get a b hl q k hk, rs_get a b hl p k hk]
    by_cases h1 : k < p
    · have : k < q := by omega
      simp [h1, this]
    · by_cases h2 : k < q
      · have := h k (by omega) h2
        rw [qual_bytes a b hl k hk] at this
        simp only [h1, h2, if_true, if_false]
        congr 1
        cases e1 : (a[k] == 120)
        · rfl
        · rw [e1] at this
          have e3 : a[k] = 120 := by simpa using e1
          simp at this
          rw [if_pos rfl, this, e3]
      · simp [h1, h2]
  · rw [List.getElem?_eq_none (by rw [rs_len a b hl]; omega), List.getElem?_eq_none (by rw [rs_len a b hl]; omega)]
theorem rs_at (a b : List UInt8) (hl : a.length = b.length) (p : Nat) (h : qual a b p = true) (hp : p < (rsT a b p).length) : (rsT a b p)[p] = 120 := by
  have hpa : p < a.length := qual_lt a b hl p h
  have := rs_get a b hl p p hpa
  rw [List.getElem?_eq_getElem hp] at this
  rw [qual_bytes a b hl p hpa] at h
  simp at this h
  rw [this]; exact h.2
theorem rs_succ (a b : List UInt8) (hl : a.length = b.length) (p : Nat) (h : qual a b p = true) : (rsT a b p).set p (b[p]'(by have := qual_lt a b hl p h; omega)) = rsT a b (p + 1) := by
  have hpa : p < a.length := qual_lt a b hl p h
  apply List.ext_getElem?
  intro k
  by_cases hk : k < a.length
  · rw [rs_get a b hl (p + 1) k hk]
    by_cases e : k = p
    · subst e
      rw [List.getElem?_set_self (by rw [rs_len a b hl]; exact hk)]
      rw [qual_bytes a b hl k hk] at h
      simp at h
      simp [h.2]
    · rw [List.getElem?_set_ne (by omega), rs_get a b hl p k hk]
      by_cases h1 : k < p
      · have : k < p + 1 := by omega
        simp [h1, this]
      · have : ¬ k < p + 1 := by omega
        simp [h1, this]
  · rw [List.getElem?_eq_none (by simp; rw [rs_len a b hl]; omega), List.getElem?_eq_none (by rw [rs_len a b hl]; omega)]
theorem rs_good (a b : List UInt8) (hl : a.length = b.length) (ga : good a = true) (gb : good b = true) (p : Nat) : good (rsT a b p) = true := by
  simp only [good, Bool.and_eq_true, decide_eq_true_eq, List.all_eq_true]
  refine ⟨by rw [rs_len a b hl]; exact good_len ga, ?_⟩
  intro x hx
  obtain ⟨k, hk, rfl⟩ := List.getElem_of_mem hx
  have hka : k < a.length := by rw [rs_len a b hl] at hk; exact hk
  have := rs_get a b hl p k hka
  rw [List.getElem?_eq_getElem hk] at this
  rw [Option.some.inj this]
  have ta := good_tri ga k hka
  have tb := good_tri gb k (by omega)
  repeat' split
  all_goals assumption

/-- the other digit -/
def oth (d : UInt8) : UInt8 := if d == 48 then 49 else 48
/-- the part of Split at an open place -/
def pcT (a b : List UInt8) (p : Nat) : List UInt8 := (rsT a b p).set p (oth (b.getD p 0))
/-- P1.7: the parts at the open places below p -/
def pcs (a b : List UInt8) : Nat → List (List UInt8)
  | 0 => []
  | p + 1 => pcs a b p ++ (if qual a b p then [pcT a b p] else [])
theorem pcs_skip (a b : List UInt8) (p q : Nat) (hpq : p ≤ q) (h : ∀ k, p ≤ k → k < q → qual a b k = false) : pcs a b q = pcs a b p := by
  induction q with
  | zero => have : p = 0 := by omega
            subst this; rfl
  | succ q ih =>
    by_cases e : p = q + 1
    · subst e; rfl
    · conv => lhs; unfold pcs
      rw [h q (by omega) (by omega), ih (by omega) (fun k h1 h2 => h k h1 (by omega))]
      simp
theorem pcs_succ (a b : List UInt8) (p : Nat) (h : qual a b p = true) : pcs a b (p + 1) = pcs a b p ++ [pcT a b p] := by
  conv => lhs; unfold pcs
  rw [h]; rfl
theorem pcs_len (a b : List UInt8) (p : Nat) : (pcs a b p).length ≤ p := by
  induction p with
  | zero => simp [pcs]
  | succ p ih => unfold pcs; split <;> simp <;> omega

theorem dg_own (b : List UInt8) (w r : Nat) (hr : r < 64) (hp : 64 * w + r < b.length) (gb : good b = true) (hx : b[64 * w + r] ≠ 120) : dg (OW b w) r = b[64 * w + r] := by
  unfold dg
  rw [OW_bit]
  have tb := good_tri gb _ hp
  simp only [hr, decide_true, Bool.true_and, on, List.getElem?_eq_getElem hp]
  generalize b[64 * w + r] = y at *
  simp [tri] at tb
  rcases tb with (rfl | rfl) | rfl
  · decide
  · decide
  · exact absurd rfl hx
theorem dg_oth (b : List UInt8) (w r : Nat) (hr : r < 64) (hp : 64 * w + r < b.length) (gb : good b = true) (hx : b[64 * w + r] ≠ 120) : dg (18446744073709551615 - OW b w) r = oth (b[64 * w + r]) := by
  unfold dg
  have e : 18446744073709551615 - OW b w = 2 ^ 64 - (OW b w + 1) := by omega
  rw [e, Nat.testBit_two_pow_sub_succ (OW_lt b w), OW_bit]
  have tb := good_tri gb _ hp
  simp only [hr, decide_true, Bool.true_and, on, List.getElem?_eq_getElem hp]
  generalize b[64 * w + r] = y at *
  simp [tri] at tb
  rcases tb with (rfl | rfl) | rfl
  · decide
  · decide
  · exact absurd rfl hx
end Go.Proofs.YtcmajlianphoaaaGreatDoor
namespace Go.Proofs.YtcmajlianphoaaaGreatDoor
open Go.RowKit

theorem info_cube : (Tryz.prog.info? 42).map (fun i => (i.zero, i.size, i.bytes)) = some (some (.agg #[.int .i64 0, .int .u64 0, .int .u64 0, .int .u64 0, .int .u64 0, .int .u64 0, .int .u64 0, .int .u64 0, .int .u64 0]), 9, 72) := by kernel_rfl

/-- the nine cells of a cube -/
def cel (t : List UInt8) : List Value := [.int .i64 (t.length : Int), .int .u64 (FW t 0 : Int), .int .u64 (FW t 1 : Int), .int .u64 (FW t 2 : Int), .int .u64 (FW t 3 : Int), .int .u64 (OW t 0 : Int), .int .u64 (OW t 1 : Int), .int .u64 (OW t 2 : Int), .int .u64 (OW t 3 : Int)]
/-- the cells of a list of cubes -/
def cels (l : List (List UInt8)) : List Value := l.flatMap cel
theorem cels_snoc (l : List (List UInt8)) (t : List UInt8) : cels (l ++ [t]) = cels l ++ cel t := by simp [cels]

/-- what Split answers -/
def splT (a b : List UInt8) : List (List UInt8) := if agB a b = true then pcs a b a.length else [a]

theorem opn_zero (a b : List UInt8) (w i : Nat) (h : opn a b w i = 0) : ∀ j, i ≤ j → j < 64 → qual a b (64 * w + j) = false := by
  intro j h1 h2
  have := opn_bit a b w i j
  rw [h, Nat.zero_testBit] at this
  simp [h1, h2] at this
  exact this

set_option maxHeartbeats 400000 in
theorem split_no (a b : List UInt8) (w : World) (ha : good a = true) (hq0 : agB a b = false) :
    Calls Tryz.prog 76 #[cubeV a, cubeV b] w fun e w' => ∃ v, e = .returned v ∧ w'.ownsRow w.heap.size 42 9 v 1 (cels [a]) ∧ Below w.heap.size w w' := by
  have hq : Hid (agB a b = false) := hq0
  clear hq0
  unfold cubeV cv
  go_enter Tryz.func76, Tryz.ntmps76
  go_wp2_with (go_at_call 90; refine (agrees_D a b false _ ha hq.out).mono ?_; rintro e w1 ⟨rfl, hb1⟩; obtain ⟨hc1, hf1⟩ := bcell hb1)
  go_ret
  have hB := bel1 (bel1 hb1)
  refine ⟨_, rfl, ?_, belA hB _⟩
  refine ⟨by simp [cels, cel], .inr ⟨w1.heap.size, 1, _, rfl, hB.size, alloc_get _ _, by omega, by unfold maxLen; omega, by simp, by simp [cels, cel]⟩⟩

theorem cellkeepS {W w' : World} {b : Nat} {cs : Array Value} (hb : Below W.heap.size W w') (hlt : b < W.heap.size) (h : ∀ j, W.cell? ⟨b, j, none⟩ = cs[j]?) : ∀ j, w'.cell? ⟨b, j, none⟩ = cs[j]? :=
  fun j => (hb.cell (p := ⟨b, j, none⟩) hlt).trans (h j)
theorem cell1keep {W w' : World} {b o : Nat} {v : Value} (hb : Below W.heap.size W w') (hlt : b < W.heap.size) (h : W.cell? ⟨b, o, none⟩ = some v) : w'.cell? ⟨b, o, none⟩ = some v := (hb.cell (p := ⟨b, o, none⟩) hlt).trans h
theorem alloc1keep {W : World} {b o : Nat} {v : Value} (hlt : b < W.heap.size) (h : W.cell? ⟨b, o, none⟩ = some v) (O : Obj) : (W.alloc O).cell? ⟨b, o, none⟩ = some v := (World.cell?_alloc_lt W O ⟨b, o, none⟩ hlt).trans h
theorem cell1grow {W w' : World} {row : Option Nat} {b o : Nat} {v : Value} (hg : W.grownBy w' row) (hlt : b < W.heap.size) (hne : some b ≠ row) (h : W.cell? ⟨b, o, none⟩ = some v) : w'.cell? ⟨b, o, none⟩ = some v :=
  (World.cell?_of_block (w := W) (a := ⟨b, o, none⟩) (hg.block b hlt hne)).trans h
theorem allockeepS {W : World} {b : Nat} {cs : Array Value} (hlt : b < W.heap.size) (h : ∀ j, W.cell? ⟨b, j, none⟩ = cs[j]?) (o : Obj) : ∀ j, (W.alloc o).cell? ⟨b, j, none⟩ = cs[j]? :=
  fun j => (World.cell?_alloc_lt W o ⟨b, j, none⟩ hlt).trans (h j)
theorem cellgrowS {W w' : World} {row : Option Nat} {b : Nat} {cs : Array Value} (hg : W.grownBy w' row) (hlt : b < W.heap.size) (hne : some b ≠ row) (h : ∀ j, W.cell? ⟨b, j, none⟩ = cs[j]?) : ∀ j, w'.cell? ⟨b, j, none⟩ = cs[j]? :=
  fun j => (World.cell?_of_block (w := W) (a := ⟨b, j, none⟩) (hg.block b hlt hne)).trans (h j)
theorem ltA {W : World} {b : Nat} (h : b < W.heap.size) (o : Obj) : b < (W.alloc o).heap.size := by simp; omega
theorem growblk {W w' : World} {row : Option Nat} {b : Nat} {o : Obj} (hg : W.grownBy w' row) (h : W.heap[b]? = some o) (hne : some b ≠ row) : w'.heap[b]? = some o := (hg.block b (lt_of_get h) hne).trans h
theorem bel_app2 {w wr w1 : World} {o : Obj} {base : Nat} {e : TypeId} {size : Nat} {v : Value} {n : Nat} {xs : List Value} (hB : Below w.heap.size w wr) (hown : wr.ownsRow base e size v n xs) (hg : (wr.alloc o).grownBy w1 v.ownBlock) (hb : w.heap.size ≤ base) : Below w.heap.size w w1 :=
  (belA hB o).grown hg (belA hB o).size (fun k h => Nat.le_trans hb (hown.lt k h).1)
theorem put9_ne {W : World} {b c : Nat} {o : Obj} (v0 v1 v2 v3 v4 v5 v6 v7 v8 : Value) (hne : c ≠ b) (h : W.heap[c]? = some o) : (put9 W b v0 v1 v2 v3 v4 v5 v6 v7 v8).heap[c]? = some o := by
  unfold put9
  rw [Below.heap_setCell _ _ _ _ (by exact hne), Below.heap_setCell _ _ _ _ (by exact hne), Below.heap_setCell _ _ _ _ (by exact hne), Below.heap_setCell _ _ _ _ (by exact hne), Below.heap_setCell _ _ _ _ (by exact hne), Below.heap_setCell _ _ _ _ (by exact hne), Below.heap_setCell _ _ _ _ (by exact hne), Below.heap_setCell _ _ _ _ (by exact hne), Below.heap_setCell _ _ _ _ (by exact hne)]
  exact h
theorem put9_size (W : World) (b : Nat) (v0 v1 v2 v3 v4 v5 v6 v7 v8 : Value) : (put9 W b v0 v1 v2 v3 v4 v5 v6 v7 v8).heap.size = W.heap.size := by simp [put9, World.setCell]
theorem own_put9 {W : World} {base b : Nat} {e : TypeId} {size : Nat} {v : Value} {n : Nat} {xs : List Value} (v0 v1 v2 v3 v4 v5 v6 v7 v8 : Value) (h : W.ownsRow base e size v n xs) (hb : b < base) : (put9 W b v0 v1 v2 v3 v4 v5 v6 v7 v8).ownsRow base e size v n xs := by
  have s := fun (W : World) (j : Nat) (u : Value) (h : W.ownsRow base e size v n xs) => ownsRow_setCell_below h (a := ⟨b, j, none⟩) hb u
  exact s _ _ _ (s _ _ _ (s _ _ _ (s _ _ _ (s _ _ _ (s _ _ _ (s _ _ _ (s _ _ _ (s _ _ _ h))))))))
theorem cellF {W : World} {x k : Nat} {t : List UInt8} (h : ∀ j, W.cell? ⟨x, j, none⟩ = (#[.int .i64 (t.length : Int), .int .u64 (FW t 0 : Int), .int .u64 (FW t 1 : Int), .int .u64 (FW t 2 : Int), .int .u64 (FW t 3 : Int), .int .u64 (OW t 0 : Int), .int .u64 (OW t 1 : Int), .int .u64 (OW t 2 : Int), .int .u64 (OW t 3 : Int)] : Array Value)[j]?) (hk : k < 4) : W.cell? ⟨x, 1 + k, none⟩ = some (.int .u64 (FW t k : Int)) := by
  rw [h]
  rcases (show k = 0 ∨ k = 1 ∨ k = 2 ∨ k = 3 by omega) with rfl | rfl | rfl | rfl <;> rfl
theorem cellO {W : World} {x k : Nat} {t : List UInt8} (h : ∀ j, W.cell? ⟨x, j, none⟩ = (#[.int .i64 (t.length : Int), .int .u64 (FW t 0 : Int), .int .u64 (FW t 1 : Int), .int .u64 (FW t 2 : Int), .int .u64 (FW t 3 : Int), .int .u64 (OW t 0 : Int), .int .u64 (OW t 1 : Int), .int .u64 (OW t 2 : Int), .int .u64 (OW t 3 : Int)] : Array Value)[j]?) (hk : k < 4) : W.cell? ⟨x, 5 + k, none⟩ = some (.int .u64 (OW t k : Int)) := by
  rw [h]
  rcases (show k = 0 ∨ k = 1 ∨ k = 2 ∨ k = 3 by omega) with rfl | rfl | rfl | rfl <;> rfl
theorem own_baseW {W : World} {B B' : Nat} {e : TypeId} {size : Nat} {v : Value} {n : Nat} {xs : List Value} (h : W.ownsRow B e size v n xs) (hb : B' ≤ B) : W.ownsRow B' e size v n xs := by
  obtain ⟨h1, h2⟩ := h
  refine ⟨h1, ?_⟩
  rcases h2 with h2 | ⟨g, cap, cur, hv, hg, r⟩
  · exact .inl h2
  · exact .inr ⟨g, cap, cur, hv, Nat.le_trans hb hg, r⟩
theorem drew_heap (V : World) : V.drew.heap = V.heap := rfl
theorem drew_own {V : World} {base : Nat} {e : TypeId} {size : Nat} {v : Value} {n : Nat} {xs : List Value} (h : V.ownsRow base e size v n xs) : V.drew.ownsRow base e size v n xs := h
theorem drew_bel {B : Nat} {a V : World} (h : Below B a V) : Below B a V.drew := h.drew
theorem put9_szle {W : World} {b n : Nat} (v0 v1 v2 v3 v4 v5 v6 v7 v8 : Value) (h : n ≤ W.heap.size) : n ≤ (put9 W b v0 v1 v2 v3 v4 v5 v6 v7 v8).heap.size := by
  rw [put9_size]; exact h
theorem put9d_ne {W : World} {b c : Nat} {o : Obj} (v0 v1 v2 v3 v4 v5 v6 v7 v8 : Value) (hne : c ≠ b) (h : W.heap[c]? = some o) : (put9 W b v0 v1 v2 v3 v4 v5 v6 v7 v8).drew.heap[c]? = some o := by rw [drew_heap]; exact put9_ne v0 v1 v2 v3 v4 v5 v6 v7 v8 hne h
theorem put9d_get {W : World} {b T : Nat} {m : Nat × Nat} {x0 x1 x2 x3 x4 x5 x6 x7 x8 : Value} (v0 v1 v2 v3 v4 v5 v6 v7 v8 : Value) (h : W.heap[b]? = some (.cells #[x0, x1, x2, x3, x4, x5, x6, x7, x8] T m)) :
    (put9 W b v0 v1 v2 v3 v4 v5 v6 v7 v8).drew.heap[b]? = some (.cells #[v0, v1, v2, v3, v4, v5, v6, v7, v8] T m) := by rw [drew_heap]; exact put9_get v0 v1 v2 v3 v4 v5 v6 v7 v8 h
theorem own_put9d {W : World} {base b : Nat} {e : TypeId} {size : Nat} {v : Value} {n : Nat} {xs : List Value} (v0 v1 v2 v3 v4 v5 v6 v7 v8 : Value) (h : W.ownsRow base e size v n xs) (hb : b < base) : (put9 W b v0 v1 v2 v3 v4 v5 v6 v7 v8).drew.ownsRow base e size v n xs := drew_own (own_put9 v0 v1 v2 v3 v4 v5 v6 v7 v8 h hb)
theorem put9d_below {B : Nat} {a W : World} {b : Nat} (v0 v1 v2 v3 v4 v5 v6 v7 v8 : Value) (h : Below B a W) (hb : B ≤ b) : Below B a (put9 W b v0 v1 v2 v3 v4 v5 v6 v7 v8).drew := drew_bel (put9_below v0 v1 v2 v3 v4 v5 v6 v7 v8 h hb)
theorem put9d_size {W : World} {b n : Nat} (v0 v1 v2 v3 v4 v5 v6 v7 v8 : Value) (h : n ≤ W.heap.size) : n ≤ (put9 W b v0 v1 v2 v3 v4 v5 v6 v7 v8).drew.heap.size := by
  rw [drew_heap, put9_size]; exact h
theorem undrewS {B : Nat} {a w : World} (h : Below B a.drew w) : Below B a w := ⟨h.os, h.tape, h.output, h.size, h.block⟩
theorem low_bits (O r : Nat) (h0 : O ≠ 0) (hO : O < 18446744073709551616) (h : O &&& (18446744073709551616 - O) = 2 ^ r) : bits .and .u64 (O : Int) (IntKind.u64.wrap (-(O : Int))) = ((2 ^ r : Nat) : Int) := by
  have e : IntKind.u64.wrap (-(O : Int)) = ((18446744073709551616 - O : Nat) : Int) := by rw [IntKind.wrap_u64]; omega
  rw [e, u64_and_nat _ _ hO (by omega), h]
theorem next_bits (O N : Nat) (h0 : O ≠ 0) (hO : O < 18446744073709551616) (h : O &&& (O - 1) = N) : bits .and .u64 (O : Int) (IntKind.u64.wrap ((O : Int) - 1)) = (N : Int) := by
  have e : IntKind.u64.wrap ((O : Int) - 1) = ((O - 1 : Nat) : Int) := by rw [IntKind.wrap_u64]; omega
  rw [e, u64_and_nat _ _ hO (by omega), h]
theorem next_bits2 (O N : Nat) (h0 : O ≠ 0) (hO : O < 18446744073709551616) (h : O &&& (O - 1) = N) : bits .and .u64 (O : Int) ((O : Int) - 1) = (N : Int) := by
  have e : ((O : Int) - 1) = ((O - 1 : Nat) : Int) := by omega
  rw [e, u64_and_nat _ _ hO (by omega), h]
theorem not_xor (x : Nat) (hx : x < 18446744073709551616) : bits .xor .u64 (if IntKind.u64.signed = true then -1 else IntKind.u64.max) (x : Int) = ((18446744073709551615 - x : Nat) : Int) := by
  have e : (if IntKind.u64.signed = true then (-1 : Int) else IntKind.u64.max) = ((18446744073709551615 : Nat) : Int) := by decide
  rw [e, u64_xor_nat _ _ (by decide) hx]
  congr 1
  apply Nat.eq_of_testBit_eq
  intro i
  have e1 : 18446744073709551615 - x = 2 ^ 64 - (x + 1) := by omega
  have e2 : (18446744073709551615 : Nat) = 2 ^ 64 - 1 := by decide
  rw [e1, Nat.testBit_xor, e2, Nat.testBit_two_pow_sub_one, Nat.testBit_two_pow_sub_succ (by exact hx)]
  by_cases hi : i < 64
  · simp [hi]
  · have h64 : 64 ≤ i := Nat.le_of_not_lt hi
    have hx2 : x < 2 ^ 64 := hx
    have : x.testBit i = false := Nat.testBit_lt_two_pow (Nat.lt_of_lt_of_le hx2 (Nat.pow_le_pow_right (by decide) h64))
    simp [hi, this]
theorem fix_own (a b : List UInt8) (k r : Nat) (w : World) (hk : k < 4) (hr : r < 64) (hl : a.length = b.length) (gb : good b = true) (hq : qual a b (64 * k + r) = true) :
    Calls Tryz.prog 104 #[cubeV (rsT a b (64 * k + r)), .int .i64 (k : Int), .int .u64 ((2 ^ r : Nat) : Int), .int .u64 (OW b k : Int)] w fun e w' => e = .returned (cubeV (rsT a b (64 * k + r + 1))) ∧ Below w.heap.size w w' := by
  have hp := qual_lt a b hl _ hq
  have hpr : 64 * k + r < (rsT a b (64 * k + r)).length := by rw [rs_len a b hl]; exact hp
  have hbx : b[64 * k + r]'(by omega) ≠ 120 := by
    rw [qual_bytes a b hl _ hp] at hq
    simp at hq; exact hq.1
  refine (fix_any _ k r (OW b k) w hk hr (OW_lt _ _) hpr (rs_at a b hl _ hq hpr)).mono ?_
  rintro e w' ⟨rfl, hb⟩
  exact ⟨by rw [dg_own b k r hr (by omega) gb hbx, rs_succ a b hl _ hq], hb⟩
theorem fix_oth (a b : List UInt8) (k r : Nat) (w : World) (hk : k < 4) (hr : r < 64) (hl : a.length = b.length) (gb : good b = true) (hq : qual a b (64 * k + r) = true) :
    Calls Tryz.prog 104 #[cubeV (rsT a b (64 * k + r)), .int .i64 (k : Int), .int .u64 ((2 ^ r : Nat) : Int), .int .u64 (bits .xor .u64 (if IntKind.u64.signed = true then -1 else IntKind.u64.max) (OW b k : Int))] w fun e w' => e = .returned (cubeV (pcT a b (64 * k + r))) ∧ Below w.heap.size w w' := by
  have hp := qual_lt a b hl _ hq
  have hpr : 64 * k + r < (rsT a b (64 * k + r)).length := by rw [rs_len a b hl]; exact hp
  have hpb : 64 * k + r < b.length := by omega
  have hbx : b[64 * k + r] ≠ 120 := by
    rw [qual_bytes a b hl _ hp] at hq
    simp at hq; exact hq.1
  rw [not_xor _ (OW_lt _ _)]
  refine (fix_any _ k r (18446744073709551615 - OW b k) w hk hr (by omega) hpr (rs_at a b hl _ hq hpr)).mono ?_
  rintro e w' ⟨rfl, hb⟩
  refine ⟨?_, hb⟩
  unfold pcT
  rw [dg_oth b k r hr hpb gb hbx, show b.getD (64 * k + r) 0 = b[64 * k + r] by simp [List.getD, List.getElem?_eq_getElem hpb]]

theorem alloc2_0 (w : World) (o1 o2 : Obj) : ((w.alloc o1).alloc o2).heap[w.heap.size]? = some o1 := by
  rw [Below.heap_alloc _ _ _ (by simp)]; exact alloc_get _ _
theorem alloc2_1 (w : World) (o1 o2 : Obj) : ((w.alloc o1).alloc o2).heap[w.heap.size + 1]? = some o2 := by
  have := alloc_get (w.alloc o1) o2
  simpa using this
end Go.Proofs.YtcmajlianphoaaaGreatDoor

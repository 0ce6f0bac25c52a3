import Derived.Test.YtecgjlpmmailjaaGreatDoorXAX
import Derived.Test.YtecgjlpmmailjaaGreatDoorXAC
import Derived.Deep.RegionHeld3
import Derived.Test.YtecgjlpmmailjaaGreatDoorXAJ
import Derived.Test.YtecgjlpmmailjaaGreatDoorXAQ
import Derived.Test.YtecgjlpmmailjaaGreatDoorXAW
import Derived.Test.YtecgjlpmmailjaaGreatDoorXAM
import Derived.BigQuiet
namespace Go.Proofs.YtecgjlpmmailjaaGreatDoor
open Go.RowKit Go.Shelf
/-- no two of a list are within one another -/
def apL (L : List (List UInt8)) : Prop := L.Pairwise (fun a b => wiB a b = false ∧ wiB b a = false)
theorem topS_ap {T : List (List UInt8)} {x : List UInt8} (h : apL T) : apL (topS T x) := by
  unfold topS
  split
  · exact h
  · rename_i hn
    refine List.pairwise_append.2 ⟨List.Pairwise.filter _ h, List.pairwise_singleton _ _, fun a ha b hb => ?_⟩
    obtain rfl := List.mem_singleton.1 hb
    have h1 := List.mem_filter.1 ha
    have h2 : wiB a b = false := by simpa using h1.2
    have h3 : wiB b a = false := by
      cases h4 : wiB b a
      · rfl
      · exact absurd (List.any_eq_true.2 ⟨a, h1.1, h4⟩) hn
    exact ⟨h2, h3⟩
theorem topF_ap (L : List (List UInt8)) : ∀ T : List (List UInt8), apL T → apL (L.foldl topS T) := by
  induction L with
  | nil => intro T h; exact h
  | cons x l ih => intro T h; rw [List.foldl_cons]; exact ih _ (topS_ap h)
theorem topL_ap (L : List (List UInt8)) : apL (topL L) := topF_ap L [] List.Pairwise.nil
theorem topF_id (L : List (List UInt8)) : ∀ T : List (List UInt8), apL (T ++ L) → L.foldl topS T = T ++ L := by
  induction L with
  | nil => intro T _; simp
  | cons x l ih =>
    intro T h
    have e : topS T x = T ++ [x] := by
      unfold topS
      have h1 := (List.pairwise_append.1 h).2.2
      have hn : ¬ T.any (fun y => wiB x y) = true := fun hc => by
        obtain ⟨y, hy, hw⟩ := List.any_eq_true.1 hc
        rw [(h1 y hy x List.mem_cons_self).2] at hw
        cases hw
      rw [if_neg hn]
      congr 1
      exact List.filter_eq_self.2 (fun y hy => by rw [(h1 y hy x List.mem_cons_self).1]; rfl)
    rw [List.foldl_cons, e, ih (T ++ [x]) (by simpa using h)]
    simp
theorem topL_id {L : List (List UInt8)} (h : apL L) : topL L = L := topF_id L [] h
/-- no two of a list of terms cover one another -/
def apC (L : List (List UInt8 × List (List UInt8))) : Prop := L.Pairwise (fun a b => cvC a b = false ∧ cvC b a = false)
theorem topCS_ap {T : List (List UInt8 × List (List UInt8))} {x : List UInt8 × List (List UInt8)} (h : apC T) : apC (topCS T x) := by
  unfold topCS
  split
  · exact h
  · rename_i hn
    refine List.pairwise_append.2 ⟨List.Pairwise.filter _ h, List.pairwise_singleton _ _, fun a ha b hb => ?_⟩
    obtain rfl := List.mem_singleton.1 hb
    have h1 := List.mem_filter.1 ha
    have h2 : cvC a b = false := by simpa using h1.2
    have h3 : cvC b a = false := by
      cases h4 : cvC b a
      · rfl
      · exact absurd (List.any_eq_true.2 ⟨a, h1.1, h4⟩) hn
    exact ⟨h2, h3⟩
theorem topCF_ap (L : List (List UInt8 × List (List UInt8))) : ∀ T : List (List UInt8 × List (List UInt8)), apC T → apC (L.foldl topCS T) := by
  induction L with
  | nil => intro T h; exact h
  | cons x l ih => intro T h; rw [List.foldl_cons]; exact ih _ (topCS_ap h)
theorem topC_ap (L : List (List UInt8 × List (List UInt8))) : apC (topC L) := topCF_ap L [] List.Pairwise.nil
theorem topCF_id (L : List (List UInt8 × List (List UInt8))) : ∀ T : List (List UInt8 × List (List UInt8)), apC (T ++ L) → L.foldl topCS T = T ++ L := by
  induction L with
  | nil => intro T _; simp
  | cons x l ih =>
    intro T h
    have e : topCS T x = T ++ [x] := by
      unfold topCS
      have h1 := (List.pairwise_append.1 h).2.2
      have hn : ¬ T.any (fun y => cvC x y) = true := fun hc => by
        obtain ⟨y, hy, hw⟩ := List.any_eq_true.1 hc
        rw [(h1 y hy x List.mem_cons_self).2] at hw
        cases hw
      rw [if_neg hn]
      congr 1
      exact List.filter_eq_self.2 (fun y hy => by rw [(h1 y hy x List.mem_cons_self).1]; rfl)
    rw [List.foldl_cons, e, ih (T ++ [x]) (by simpa using h)]
    simp
theorem topC_id {L : List (List UInt8 × List (List UInt8))} (h : apC L) : topC L = L := topCF_id L [] h
theorem apC_ord (L : List (List UInt8 × List (List UInt8))) (h : apC L) : apC (ordT L) := by
  have h1 : apC (L.map sof) := by
    refine List.pairwise_map.2 (List.Pairwise.imp (fun {a b} hab => ?_) h)
    rw [cvC_sof, cvC_sof]
    exact hab
  exact List.Perm.pairwise (ordT_perm L).symm h1 (fun {x y} hxy => ⟨hxy.2, hxy.1⟩)
theorem les_id {c : List UInt8} (gc : good c = true) : ∀ R : List (List UInt8), (∀ m ∈ R, good m = true) → (∀ m ∈ R, wiB m c = true) → lesL c R = R
  | [], _, _ => rfl
  | m :: l, gR, h => by
    have h1 := wi_eq m c (gR m List.mem_cons_self) gc
    rw [h m List.mem_cons_self] at h1
    obtain ⟨h2, h3⟩ := Bool.and_eq_true_iff.1 h1
    have h4 : mtT m c = m := by simpa using h3
    have ih := les_id gc l (fun x hx => gR x (List.mem_cons_of_mem _ hx)) (fun x hx => h x (List.mem_cons_of_mem _ hx))
    unfold lesL at ih ⊢
    rw [List.filterMap_cons, if_pos h2, h4, ih]
/-- a term in its form -/
structure FTm (t : List UInt8 × List (List UInt8)) : Prop where
  gc : good t.1 = true
  gl : ∀ m ∈ t.2, good m = true
  wi : ∀ m ∈ t.2, wiB m t.1 = true
  ne : t.1 ∉ t.2
  ap : apL t.2
  so : t.2.Pairwise (fun a b => leB a b = true)
theorem FTm.set {t : List UInt8 × List (List UInt8)} (h : FTm t) : setO t.1 t.2 = some t.2 := by
  unfold setO
  rw [les_id h.gc t.2 h.gl h.wi, topL_id h.ap]
  refine if_neg (fun hc => ?_)
  obtain ⟨y, hy, he⟩ := List.any_eq_true.1 hc
  obtain rfl : y = t.1 := by simpa using he
  exact h.ne hy
theorem stl_id : ∀ X : List (List UInt8 × List (List UInt8)), (∀ t ∈ X, FTm t) → stl X = X
  | [], _ => rfl
  | t :: l, h => by
    have ih := stl_id l (fun x hx => h x (List.mem_cons_of_mem _ hx))
    unfold stl at ih ⊢
    rw [List.filterMap_cons, (h t List.mem_cons_self).set, ih]
    rfl
theorem FTm_stl {Y : List (List UInt8 × List (List UInt8))} (g : gdC Y) : ∀ t ∈ (stl Y).map sof, FTm t ∧ ∃ y ∈ Y, y.1 = t.1 := fun t ht => by
  obtain ⟨u, hu, rfl⟩ := List.mem_map.1 ht
  have hgu := gdC_stl g u hu
  unfold stl at hu
  obtain ⟨x, hx, he⟩ := List.mem_filterMap.1 hu
  cases hs : setO x.1 x.2 with
  | none => rw [hs] at he; cases he
  | some R =>
    rw [hs] at he
    obtain rfl := Option.some.inj he
    have h2 := put_some hs
    have hR : R = topL (lesL x.1 x.2) := by
      unfold setO at hs
      split at hs
      · cases hs
      · exact (Option.some.inj hs).symm
    refine ⟨⟨hgu.1, fun m hm => hgu.2 m ((srtT_perm R).mem_iff.1 hm), fun m hm => ?_, h2.2, ?_, srtT_sorted R⟩, x, hx, rfl⟩
    · have h3 : m ∈ putL (lesL x.1 x.2) := by rw [h2.1]; exact hm
      exact lesL_within (g x hx).1 (g x hx).2 m (putL_mem h3)
    · exact List.Perm.pairwise (srtT_perm R).symm (hR ▸ topL_ap _) (fun {x y} hxy => ⟨hxy.2, hxy.1⟩)
theorem FTm_form {Y : List (List UInt8 × List (List UInt8))} (g : gdC Y) : ∀ t ∈ ordT (topC (stl Y)), FTm t ∧ ∃ y ∈ Y, y.1 = t.1 := fun t ht => by
  have h1 := (ordT_perm (topC (stl Y))).mem_iff.1 ht
  obtain ⟨u, hu, rfl⟩ := List.mem_map.1 h1
  rcases topCF_mem (stl Y) [] u hu with h2 | h2
  · cases h2
  · exact FTm_stl g _ (List.mem_map_of_mem h2)
theorem srtT_id {l : List (List UInt8)} (h : l.Pairwise (fun a b => leB a b = true)) : srtT l = l := (srt_eq (List.Perm.refl l) h).symm
theorem ordT_id (Z : List (List UInt8 × List (List UInt8))) : ordT (ordT Z) = ordT Z := by
  have hL : ∀ S ∈ srtLn (Z.map (fun t => t.1 :: srtT t.2)), S.headD [] :: srtT S.tail = S := fun S hS => by
    obtain ⟨t, _, rfl⟩ := List.mem_map.1 ((srtLn_perm _).mem_iff.1 hS)
    show t.1 :: srtT (srtT t.2) = _
    rw [srtT_id (srtT_sorted _)]
  have hs : (srtLn (Z.map (fun t => t.1 :: srtT t.2))).Pairwise (fun a b => leLn a b = true) := List.pairwise_mergeSort leLn_trans leLn_total _
  have e : (ordT Z).map (fun t => t.1 :: srtT t.2) = srtLn (Z.map (fun t => t.1 :: srtT t.2)) := by
    unfold ordT
    rw [List.map_map]
    exact (List.map_congr_left (fun S hS => hL S hS)).trans (List.map_id _)
  have e2 : ordT (ordT Z) = (srtLn ((ordT Z).map (fun t => t.1 :: srtT t.2))).map (fun S => (S.headD [], S.tail)) := rfl
  rw [e2, e, ← srtLn_eq (List.Perm.refl _) hs]
  rfl
/-- the form of a form is itself -/
theorem form_id {Y : List (List UInt8 × List (List UInt8))} (g : gdC Y) : ordT (topC (stl (ordT (topC (stl Y))))) = ordT (topC (stl Y)) := by
  rw [stl_id _ (fun t ht => (FTm_form g t ht).1), topC_id (apC_ord _ (topC_ap _)), ordT_id]
theorem idxM_no {s : UInt8} : ∀ {r : List UInt8}, s ∉ r → Lib.indexByte r s = -1
  | [], _ => rfl
  | x :: l, h => by
    have h1 : x ≠ s := fun e => h (by rw [e]; exact List.mem_cons_self)
    have h2 := idxM_no (r := l) (fun hc => h (List.mem_cons_of_mem _ hc))
    simp [Lib.indexByte, h1, h2]
theorem idxM_mid {s : UInt8} (r : List UInt8) : ∀ {p : List UInt8}, s ∉ p → Lib.indexByte (p ++ s :: r) s = (p.length : Int)
  | [], _ => by simp [Lib.indexByte]
  | x :: l, h => by
    have h1 : x ≠ s := fun e => h (by rw [e]; exact List.mem_cons_self)
    have h2 := idxM_mid r (p := l) (fun hc => h (List.mem_cons_of_mem _ hc))
    rw [List.cons_append, Lib.indexByte, h2, if_neg (by simpa using h1), if_neg (by simp)]
    rw [List.length_cons]
    omega
theorem prts_join (s : UInt8) : ∀ (L : List (List UInt8)) (c : List UInt8), s ∉ c → (∀ x ∈ L, s ∉ x) → prts s (c ++ L.flatMap (fun x => s :: x)) = c :: L
  | [], c, hc, _ => by
    rw [List.flatMap_nil, List.append_nil]
    exact prts_neg (by rw [idxM_no hc]; decide)
  | x :: l, c, hc, h => by
    have ih := prts_join s l x (h x List.mem_cons_self) (fun y hy => h y (List.mem_cons_of_mem _ hy))
    have e : c ++ (x :: l).flatMap (fun x => s :: x) = c ++ s :: (x ++ l.flatMap (fun x => s :: x)) := by rw [List.flatMap_cons]; rfl
    rw [e, prts_pos (idxM_mid _ hc), List.take_left, List.drop_append, List.drop_eq_nil_of_le (by omega)]
    rw [show c.length + 1 - c.length = 1 by omega]
    show c :: prts s (x ++ l.flatMap (fun x => s :: x)) = _
    rw [ih]
theorem tri_no {x : UInt8} (h : tri x = true) : x ≠ 43 ∧ x ≠ 45 ∧ x ≠ 110 := by
  refine ⟨fun e => ?_, fun e => ?_, fun e => ?_⟩ <;> subst e <;> revert h <;> decide
theorem good_no {t : List UInt8} (h : good t = true) : (43 : UInt8) ∉ t ∧ (45 : UInt8) ∉ t ∧ (110 : UInt8) ∉ t := by
  have h1 := List.all_eq_true.1 (Bool.and_eq_true_iff.1 h).2
  exact ⟨fun hc => (tri_no (h1 _ hc)).1 rfl, fun hc => (tri_no (h1 _ hc)).2.1 rfl, fun hc => (tri_no (h1 _ hc)).2.2 rfl⟩
theorem prts_txT {t : List UInt8 × List (List UInt8)} (gc : good t.1 = true) (gl : ∀ m ∈ t.2, good m = true) : prts 45 (txT t) = t.1 :: t.2 :=
  prts_join 45 t.2 t.1 (good_no gc).2.1 (fun x hx => (good_no (gl x hx)).2.1)
theorem tcon_txT {t : List UInt8 × List (List UInt8)} (gc : good t.1 = true) (gl : ∀ m ∈ t.2, good m = true) : tcon (txT t) = t := by
  unfold tcon; rw [prts_txT gc gl]; rfl
theorem txT_no43 {t : List UInt8 × List (List UInt8)} (gc : good t.1 = true) (gl : ∀ m ∈ t.2, good m = true) : (43 : UInt8) ∉ txT t := by
  unfold txT txL
  intro hc
  rcases List.mem_append.1 hc with h | h
  · exact (good_no gc).1 h
  · obtain ⟨m, hm, h⟩ := List.mem_flatMap.1 h
    rcases List.mem_cons.1 h with h | h
    · revert h; decide
    · exact (good_no (gl m hm)).1 h
theorem prts_txC {X : List (List UInt8 × List (List UInt8))} (g : gdC X) (hn : X ≠ []) : prts 43 (txC X) = X.map txT := by
  unfold txC
  rw [if_neg hn]
  cases X with
  | nil => exact absurd rfl hn
  | cons t l =>
    have e : jn ((t :: l).map txT) = txT t ++ (l.map txT).flatMap (fun x => 43 :: x) := by simp [jn]
    rw [e, prts_join 43 (l.map txT) (txT t) (txT_no43 (g t List.mem_cons_self).1 (g t List.mem_cons_self).2) (fun x hx => by
      obtain ⟨u, hu, rfl⟩ := List.mem_map.1 hx
      exact txT_no43 (g u (List.mem_cons_of_mem _ hu)).1 (g u (List.mem_cons_of_mem _ hu)).2)]
    rfl
theorem tcon_all {X : List (List UInt8 × List (List UInt8))} (g : gdC X) : (X.map txT).map tcon = X := by
  rw [List.map_map]
  exact (List.map_congr_left (fun t ht => tcon_txT (g t ht).1 (g t ht).2)).trans (List.map_id _)
theorem txM_len : ∀ {L : List (List UInt8)}, (∀ m ∈ L, m.length ≤ 256) → (txL L).length ≤ 257 * L.length
  | [], _ => by simp [txL]
  | x :: l, h => by
    have ih := txM_len (L := l) (fun m hm => h m (List.mem_cons_of_mem _ hm))
    have h1 := h x List.mem_cons_self
    unfold txL at ih ⊢
    rw [List.flatMap_cons, List.length_append, List.length_cons, List.length_cons]
    omega
theorem flatM_len : ∀ {X : List (List UInt8 × List (List UInt8))}, (∀ t ∈ X, t.1.length ≤ 256 ∧ ∀ m ∈ t.2, m.length ≤ 256) → ((X.map txT).flatMap (fun x => 43 :: x)).length ≤ 257 * szC X
  | [], _ => by simp [szC]
  | t :: l, h => by
    have ih := flatM_len (X := l) (fun m hm => h m (List.mem_cons_of_mem _ hm))
    have h1 := (h t List.mem_cons_self).1
    have h2 := txM_len (h t List.mem_cons_self).2
    rw [List.map_cons, List.flatMap_cons, List.length_append, List.length_cons, szC]
    unfold txT at ih ⊢
    rw [List.length_append]
    omega
theorem good_le {t : List UInt8} (h : good t = true) : t.length ≤ 256 := by
  have := (Bool.and_eq_true_iff.1 h).1
  simpa using this
theorem txC_len {X : List (List UInt8 × List (List UInt8))} (g : gdC X) (hs : szC X ≤ 128) : (txC X).length ≤ 33024 := by
  unfold txC
  split
  · simp
  · have h1 := flatM_len (X := X) (fun t ht => ⟨good_le (g t ht).1, fun m hm => good_le ((g t ht).2 m hm)⟩)
    unfold jn
    rw [List.length_drop]
    omega
theorem txC_none {X : List (List UInt8 × List (List UInt8))} (g : gdC X) (hn : X ≠ []) (hl : ∀ t ∈ X, t.1 ≠ []) : txC X ≠ [110, 111, 110, 101] := by
  unfold txC
  rw [if_neg hn]
  cases X with
  | nil => exact absurd rfl hn
  | cons t l =>
    have e : jn ((t :: l).map txT) = txT t ++ (l.map txT).flatMap (fun x => 43 :: x) := by simp [jn]
    rw [e]
    unfold txT
    intro hc
    have h1 := hl t List.mem_cons_self
    have h2 := (good_no (g t List.mem_cons_self).1).2.2
    cases hx : t.1 with
    | nil => exact h1 hx
    | cons x r =>
      rw [hx] at hc h2
      have h3 := congrArg (fun l => l.headD 0) hc
      have h4 : x = 110 := h3
      exact h2 (by rw [h4]; exact List.mem_cons_self)
theorem prE_zero {b : Int} {l : List UInt8} (h0 : prE b l = 0) : 1 ≤ b ∧ b ≤ 256 ∧ (l = [110, 111, 110, 101] ∨ (prts 43 l).all (okT b.toNat) = true) := by
  unfold prE at h0
  by_cases h1 : 33024 < l.length
  · rw [if_pos h1] at h0; exact absurd h0 (by decide)
  · rw [if_neg h1] at h0
    by_cases hb : b < 1 ∨ 256 < b
    · rw [if_pos hb] at h0; exact absurd h0 (by decide)
    · rw [if_neg hb] at h0
      refine ⟨by omega, by omega, ?_⟩
      by_cases hn : l = [110, 111, 110, 101]
      · exact .inl hn
      · rw [if_neg hn] at h0
        cases h : (prts 43 l).all (okT b.toNat)
        · rw [if_pos h] at h0; exact absurd h0 (by decide)
        · exact .inr rfl
/-- the text of what was read is read as the same -/
theorem pr_back (b : Int) (l : List UInt8) (h0 : prE b l = 0) : prE b (txC (prT b l)) = 0 ∧ prT b (txC (prT b l)) = prT b l := by
  have hok := prT_ok b l
  have hlen := txC_len hok.1 hok.2
  obtain ⟨hb1, hb2, hb3⟩ := prE_zero h0
  have hb : ¬ (b < 1 ∨ 256 < b) := by omega
  by_cases hX : prT b l = []
  · rw [hX] at hlen ⊢
    have e : txC [] = [110, 111, 110, 101] := rfl
    have h1 : prE b (txC []) = 0 := by
      unfold prE
      rw [if_neg (by omega), if_neg hb, e, if_pos rfl]
    refine ⟨h1, ?_⟩
    unfold prT
    rw [if_pos h1, e, if_pos rfl]
  · have hn : ¬ l = [110, 111, 110, 101] := fun hc => hX (by unfold prT; rw [if_pos h0, if_pos hc])
    have hT : prT b l = ordT (topC (stl ((prts 43 l).map tcon))) := by unfold prT; rw [if_pos h0, if_neg hn]
    have hall : (prts 43 l).all (okT b.toNat) = true := hb3.resolve_left hn
    have hg := gdC_tcon hall
    have hF : ∀ t ∈ prT b l, FTm t ∧ t.1.length = b.toNat := fun t ht => by
      rw [hT] at ht
      obtain ⟨h1, y, hy, he⟩ := FTm_form hg t ht
      refine ⟨h1, ?_⟩
      obtain ⟨p, hp, rfl⟩ := List.mem_map.1 hy
      have h2 := List.all_eq_true.1 hall p hp
      have hne := prts_ne 45 p
      rw [← he]
      unfold tcon
      unfold okT at h2
      cases hc : prts 45 p with
      | nil => rw [hc] at hne; exact absurd hne (by simp)
      | cons c r =>
        rw [hc] at h2
        have h3 := List.all_eq_true.1 h2 c List.mem_cons_self
        unfold okP at h3
        simpa using (Bool.and_eq_true_iff.1 h3).2
    have hne : ∀ t ∈ prT b l, t.1 ≠ [] := fun t ht hc => by
      have := (hF t ht).2
      rw [hc] at this
      simp at this
      omega
    have hp := prts_txC hok.1 hX
    have hoP : ∀ c : List UInt8, good c = true → c.length = b.toNat → okP b.toNat c = true := fun c gc hc => by
      unfold okP
      rw [hc]
      have h1 : refP c = 0 := by
        unfold refP
        rw [if_neg (by have := good_le gc; omega), if_neg (fun e => by rw [e] at hc; simp at hc; omega), if_pos (Bool.and_eq_true_iff.1 gc).2]
      rw [h1]
      simp
    have hall2 : ((prT b l).map txT).all (okT b.toNat) = true := List.all_eq_true.2 (fun p hp => by
      obtain ⟨t, ht, rfl⟩ := List.mem_map.1 hp
      obtain ⟨hf, hl⟩ := hF t ht
      unfold okT
      rw [prts_txT hf.gc hf.gl]
      refine List.all_eq_true.2 (fun c hc => ?_)
      rcases List.mem_cons.1 hc with rfl | hc
      · exact hoP _ hf.gc hl
      · refine hoP _ (hf.gl c hc) ?_
        have h1 := hf.wi c hc
        unfold wiB at h1
        rw [fitB_len (Bool.and_eq_true_iff.1 h1).1, hl])
    have h1 : prE b (txC (prT b l)) = 0 := by
      unfold prE
      rw [if_neg (by omega), if_neg hb, if_neg (txC_none hok.1 hX hne), hp, tcon_all hok.1, if_neg (by rw [hall2]; simp), if_neg (by omega)]
    refine ⟨h1, ?_⟩
    have e1 : prT b (txC (prT b l)) = ordT (topC (stl ((prts 43 (txC (prT b l))).map tcon))) := by
      rw [prT, if_pos h1, if_neg (txC_none hok.1 hX hne)]
    rw [e1, hp, tcon_all hok.1, hT]
    exact form_id hg
end Go.Proofs.YtecgjlpmmailjaaGreatDoor
namespace Go.Proofs.YtecgjlpmmailjaaGreatDoor
open Go.RowKit

/-- place k of a header suits a cube's -/
def okH (t h : List UInt8) (k : Nat) : Bool := match t[k]?, h[k]? with | some x, some d => (d == 48 || d == 49) && (x == 120 || x == d) | _, _ => true
/-- P1.4 -/
def hasB (t h : List UInt8) : Bool := !t.isEmpty && (t.length == h.length) && allTo (okH t h) t.length

theorem byteH_bne (x : UInt8) (n : Nat) (hn : n < 256) : ((x.toNat : Int) != (n : Int)) = !(x == UInt8.ofNat n) := by
  unfold bne
  congr 1
  rw [Bool.eq_iff_iff, beq_iff_eq, beq_iff_eq]
  constructor
  · intro e
    have : x.toNat = n := by omega
    rw [← this]; simp
  · intro e; subst e
    simp [UInt8.toNat_ofNat', Nat.mod_eq_of_lt hn]

theorem byteH_bne2 (x y : UInt8) : ((x.toNat : Int) != (y.toNat : Int)) = !(x == y) := by
  unfold bne
  congr 1
  rw [Bool.eq_iff_iff, beq_iff_eq, beq_iff_eq]
  constructor
  · intro e; exact UInt8.toNat_inj.1 (by omega)
  · intro e; subst e; rfl

theorem okH_eq (t : List UInt8) (s : ByteArray) (k : Nat) (hk : k < t.length) (hks : k < s.size) (p1 p2 p3 p4 : Bool) (n1 : ((s[k].toNat : Int) != 48) = p1) (n2 : ((s[k].toNat : Int) != 49) = p2) (n3 : ((t[k].toNat : Int) != 120) = p3) (n4 : ((t[k].toNat : Int) != (s[k].toNat : Int)) = p4) :
    okH t s.data.toList k = !((p1 && p2) || (p3 && p4)) := by
  have e1 := byteH_bne s[k] 48 (by decide)
  have e2 := byteH_bne s[k] 49 (by decide)
  have e3 := byteH_bne t[k] 120 (by decide)
  have e4 := byteH_bne2 t[k] s[k]
  have hs : s.data.toList[k]? = some s[k] := by rw [List.getElem?_eq_getElem (by simpa using hks)]; rfl
  simp only [okH, hs, List.getElem?_eq_getElem hk]
  subst n1 n2 n3 n4
  have f1 : ((s[k].toNat : Int) != 48) = !(s[k] == 48) := e1
  have f2 : ((s[k].toNat : Int) != 49) = !(s[k] == 49) := e2
  have f3 : ((t[k].toNat : Int) != 120) = !(t[k] == 120) := e3
  rw [f1, f2, f3, e4]
  cases (s[k] == 48) <;> cases (s[k] == 49) <;> cases (t[k] == 120) <;> cases (t[k] == s[k]) <;> rfl

theorem okH_succ {p : Nat → Bool} {k : Nat} {q : Bool} (h : ∀ j, j < k → p j = true) (hk : p k = q) (hq : q = true := by rfl) : ∀ j, j < k + 1 → p j = true := by
  intro j hj
  by_cases e : j = k
  · subst e; rw [hk, hq]
  · exact h j (by omega)

end Go.Proofs.YtecgjlpmmailjaaGreatDoor
namespace Go.Proofs.YtecgjlpmmailjaaGreatDoor
open Go.RowKit
/-- a header is in a term -/
def thB (c : List UInt8) (L : List (List UInt8)) (h : List UInt8) : Bool := hasB c h && L.all (fun m => !hasB m h)
end Go.Proofs.YtecgjlpmmailjaaGreatDoor
namespace Go.Proofs.YtecgjlpmmailjaaGreatDoor
open Go.RowKit
/-- a header is in one of the terms -/
def hsB (Ts : List (List UInt8 × List (List UInt8))) (h : List UInt8) : Bool := Ts.any (fun t => thB t.1 t.2 h)
theorem any_noV {α : Type} {L : List α} {p : α → Bool} {n : Nat} (hn : L.length ≤ n) (h : ∀ j t, j < n → L[j]? = some t → p t = false) : L.any p = false := by
  rw [List.any_eq_false]
  intro t ht
  obtain ⟨j, hj, he⟩ := List.getElem_of_mem ht
  rw [h j t (by omega) (by rw [List.getElem?_eq_getElem hj, he])]
  simp
end Go.Proofs.YtecgjlpmmailjaaGreatDoor
namespace Go.Proofs.YtecgjlpmmailjaaGreatDoor
open Go.RowKit Go.Shelf
def digB (d : UInt8) : Bool := d == 48 || d == 49
/-- a header of that width -/
def hdB (b : Int) (l : List UInt8) : Bool := ((l.length : Int) == b) && !(b == 0) && l.all digB
theorem dig_succ {s : ByteArray} {k : Nat} (hk : k < s.size) (h : ∀ j (h : j < s.data.toList.length), j < k → digB s.data.toList[j] = true) (c : s[k] = 48 ∨ s[k] = 49) : ∀ j (h : j < s.data.toList.length), j < k + 1 → digB s.data.toList[j] = true := by
  intro j hj hlt
  by_cases e : j < k
  · exact h j hj e
  · obtain rfl : j = k := by omega
    have e2 : s.data.toList[j] = s[j] := rfl
    rw [e2]
    unfold digB
    rcases c with c | c <;> rw [c] <;> rfl
end Go.Proofs.YtecgjlpmmailjaaGreatDoor
namespace Go.Proofs.YtecgjlpmmailjaaGreatDoor
open Go.RowKit Go.Shelf
/-- the document's: a header is in a term -/
def tdB (c : List UInt8) (L : List (List UInt8)) (h : List UInt8) : Bool := wiB h c && L.all (fun m => !wiB h m)
theorem good_hd {b : Int} {l : List UInt8} (h : hdB b l = true) (hb : b ≤ 256) : good l = true := by
  unfold hdB at h
  obtain ⟨h1, h2⟩ := Bool.and_eq_true_iff.1 h
  have h3 : (l.length : Int) = b := by simpa using (Bool.and_eq_true_iff.1 h1).1
  have h4 := List.all_eq_true.1 h2
  unfold good
  rw [Bool.and_eq_true, List.all_eq_true]
  refine ⟨by simp; omega, fun x hx => ?_⟩
  have h5 := h4 x hx
  unfold digB at h5
  unfold tri
  rcases Bool.or_eq_true_iff.1 h5 with h5 | h5 <;> rw [h5] <;> simp
end Go.Proofs.YtecgjlpmmailjaaGreatDoor
namespace Go.Proofs.YtecgjlpmmailjaaGreatDoor
open Go.RowKit Go.Shelf
/-- every term of what is read has its form, and its width -/
theorem prT_ft (b : Int) (l : List UInt8) : ∀ t ∈ prT b l, FTm t ∧ (t.1.length : Int) = b ∧ 1 ≤ b ∧ b ≤ 256 ∧ prE b l = 0 := fun t ht => by
  unfold prT at ht
  split at ht
  · rename_i h0
    obtain ⟨h1, h2, h3⟩ := prE_zero h0
    split at ht
    · cases ht
    · rename_i hn
      rcases h3 with h3 | h3
      · exact absurd h3 hn
      · obtain ⟨hf, y, hy, he⟩ := FTm_form (gdC_tcon h3) t ht
        refine ⟨hf, ?_, h1, h2, h0⟩
        obtain ⟨p, hp, rfl⟩ := List.mem_map.1 hy
        have h4 := List.all_eq_true.1 h3 p hp
        have hne := prts_ne 45 p
        have : (tcon p).1.length = b.toNat := by
          unfold tcon
          unfold okT at h4
          cases hc : prts 45 p with
          | nil => rw [hc] at hne; exact absurd hne (by simp)
          | cons c r =>
            rw [hc] at h4
            have h5 := List.all_eq_true.1 h4 c List.mem_cons_self
            unfold okP at h5
            simpa using (Bool.and_eq_true_iff.1 h5).2
        rw [← he, this]
        omega
  · cases ht
theorem okH_at {t h : List UInt8} {k : Nat} (hk : k < t.length) (hk2 : k < h.length) : okH t h k = ((h[k] == 48 || h[k] == 49) && (t[k] == 120 || t[k] == h[k])) := by
  unfold okH
  rw [List.getElem?_eq_getElem hk, List.getElem?_eq_getElem hk2]
theorem has_wi {t h : List UInt8} (hl : t.length = h.length) (hd : h.all digB = true) : hasB t h = wiB h t := by
  have hd' := List.all_eq_true.1 hd
  unfold hasB wiB fitB
  have e1 : t.isEmpty = h.isEmpty := by
    cases t <;> cases h <;> first | rfl | (simp at hl)
  rw [e1, hl, Bool.eq_iff_iff]
  simp only [Bool.and_eq_true, allTo_iff]
  refine and_congr (by simp) (forall_congr' fun k => forall_congr' fun hk => ?_)
  rw [okH_at (by omega) hk, List.getElem?_eq_getElem hk, List.getElem?_eq_getElem (show k < t.length by omega)]
  have h1 := hd' _ (List.getElem_mem hk)
  unfold digB at h1
  rw [h1, Bool.true_and]
  simp only [Bool.or_eq_true, beq_iff_eq]
  exact ⟨fun h => h.imp id Eq.symm, fun h => h.imp id Eq.symm⟩
theorem has_hd {b : Int} {t h : List UInt8} (hb : (t.length : Int) = b) (h1 : 1 ≤ b) (hh : hdB b h = false) : hasB t h = false := by
  cases hc : hasB t h with
  | false => rfl
  | true =>
    unfold hasB at hc
    obtain ⟨h2, h3⟩ := Bool.and_eq_true_iff.1 hc
    have h4 : t.length = h.length := by simpa using (Bool.and_eq_true_iff.1 h2).2
    have h5 := (allTo_iff _ _).1 h3
    have : hdB b h = true := by
      unfold hdB
      rw [← h4, show ((t.length : Int) == b) = true by simpa using hb, show (b == 0) = false by simp; omega]
      simp only [Bool.not_false, Bool.and_true, Bool.true_and]
      refine List.all_eq_true.2 (fun x hx => ?_)
      obtain ⟨k, hk, rfl⟩ := List.getElem_of_mem hx
      have h6 := h5 k (by omega)
      rw [okH_at (by omega) hk] at h6
      exact (Bool.and_eq_true_iff.1 h6).1
    rw [this] at hh
    cases hh
theorem any_congrB {α : Type} {L : List α} {p q : α → Bool} (h : ∀ t ∈ L, p t = q t) : L.any p = L.any q := by
  induction L with
  | nil => rfl
  | cons x l ih => rw [List.any_cons, List.any_cons, h x List.mem_cons_self, ih (fun t ht => h t (List.mem_cons_of_mem _ ht))]
theorem all_congrB {α : Type} {L : List α} {p q : α → Bool} (h : ∀ t ∈ L, p t = q t) : L.all p = L.all q := by
  induction L with
  | nil => rfl
  | cons x l ih => rw [List.all_cons, List.all_cons, h x List.mem_cons_self, ih (fun t ht => h t (List.mem_cons_of_mem _ ht))]
/-- the program's Has is the document's -/
theorem hs_eq (b : Int) (l h : List UInt8) : hsB (prT b l) h = (hdB (prB b l) h && (prT b l).any (fun t => tdB t.1 t.2 h)) := by
  have hF := prT_ft b l
  unfold hsB
  by_cases hX : prT b l = []
  · rw [hX]; simp
  · obtain ⟨t0, ht0⟩ : ∃ t, t ∈ prT b l := by
      cases hx : prT b l with
      | nil => exact absurd hx hX
      | cons t r => exact ⟨t, List.mem_cons_self⟩
    have e0 : prB b l = b := by unfold prB; rw [if_pos (hF t0 ht0).2.2.2.2]
    rw [e0]
    cases hh : hdB b h with
    | false =>
      rw [Bool.false_and, List.any_eq_false]
      intro t ht
      obtain ⟨hf, hl, h1, h2, -⟩ := hF t ht
      unfold thB
      rw [has_hd hl h1 hh]
      simp
    | true =>
      rw [Bool.true_and]
      refine any_congrB (fun t ht => ?_)
      obtain ⟨hf, hl, h1, h2, -⟩ := hF t ht
      have hd : h.all digB = true := (Bool.and_eq_true_iff.1 hh).2
      have hln : (h.length : Int) = b := by simpa using (Bool.and_eq_true_iff.1 (Bool.and_eq_true_iff.1 hh).1).1
      unfold thB tdB
      rw [has_wi (by omega) hd]
      congr 1
      refine all_congrB (fun m hm => ?_)
      have h3 := hf.wi m hm
      unfold wiB at h3
      have h4 := fitB_len (Bool.and_eq_true_iff.1 h3).1
      rw [has_wi (by omega) hd]
end Go.Proofs.YtecgjlpmmailjaaGreatDoor
namespace Go.Proofs.YtecgjlpmmailjaaGreatDoor
open Go.RowKit Go.Shelf
/-- the terms of a space, good, each of one width -/
def gdS (Ts : List (List UInt8 × List (List UInt8))) : Prop := ∀ t ∈ Ts, good t.1 = true ∧ gdW t.1.length t.2
theorem gdS_ft {Ts : List (List UInt8 × List (List UInt8))} (h : ∀ t ∈ Ts, FTm t) : gdS Ts := fun t ht => by
  have h0 := h t ht
  refine ⟨h0.gc, fun x hx => ⟨h0.gl x hx, ?_⟩⟩
  have h3 := h0.wi x hx
  rw [wiB_eq, Bool.and_eq_true] at h3
  have h4 := h3.1
  simp [fitB] at h4
  omega
theorem gdS_pr (b : Int) (l : List UInt8) : gdS (prT b l) := gdS_ft (fun t ht => (prT_ft b l t ht).1)
theorem TRC_spl {W : World} {B n cp : Nat} {p : Option Addr} {Z : List ZT} (h : W.ownsRow B 67 10 (.slice p n cp) n (tes Z)) (hn : Z.length = n) (hz : ZL W B Z) : TRC W (fun _ => False) none p Z := fun i z hzi => by
  obtain ⟨g, o0, e, c⟩ := IRZ_own h hn W (Below.refl _ _) i z hzi
  have hL := hz z (List.mem_of_getElem? hzi)
  refine ⟨g, o0, e, c, fun h => h, by simp, fun j t ht => ?_, ?_⟩
  · obtain ⟨g2, o2, e2, c2⟩ := IRC_own hL rfl W (Below.refl _ _) j t ht
    exact ⟨g2, o2, e2, c2, fun h => h, by simp⟩
  · rcases own_shapeQ hL with ⟨_, e2⟩ | ⟨g3, c3, e3, e4, -⟩
    · omega
    · injection e3 with _ _ e5
      omega
set_option maxRecDepth 100000 in
set_option maxHeartbeats 4000000 in
theorem sExpand_any (b lim : Int) (Ts : List (List UInt8 × List (List UInt8))) (B : Nat) (V : Value) (w : World) (h : SPL w B V Ts) (hs : szC Ts ≤ 128) (hg : gdS Ts) :
    Calls Tryz.prog 6 #[.agg #[.int .i64 b, V, .bool false], .int .i64 lim] w fun e w' => ∃ v, e = .returned (.tuple #[v, .int .i64 (xpE b lim Ts)]) ∧ w'.ownsRow w.heap.size 58 9 v (xpL b lim Ts).length (ces (xpL b lim Ts)) ∧ Below w.heap.size w w' := by
  obtain ⟨Z, rfl, hrow, hzl⟩ := h
  obtain ⟨p, cp, rfl⟩ := shapeQ1 hrow
  have hq1 := szC_len (Z.map ZT.cont)
  rw [List.length_map] at hq1
  obtain ⟨n, hn⟩ : ∃ n, Z.length = n := ⟨_, rfl⟩
  rw [hn] at hrow hq1 ⊢
  have hzg : ∀ z ∈ Z, good z.c = true ∧ gdW z.c.length z.L ∧ z.L.length ≤ 128 := fun z hz => by
    have hm := List.mem_map_of_mem (f := ZT.cont) hz
    have h1 := szC_mem z.cont hm
    have e : z.cont.2 = z.L := rfl
    rw [e] at h1
    obtain ⟨g1, g2⟩ := hg z.cont hm
    exact ⟨g1, g2, by omega⟩
  have ht := TRC_spl hrow hn hzl
  obtain ⟨w2, hw2⟩ : ∃ w2, (w.alloc (.cells #[.int .i64 b, .slice p n cp, .bool false] 28 (0, 0))).alloc (.cells #[.int .i64 lim] 3 (0, 0)) = w2 := ⟨_, rfl⟩
  have b1 : w2.heap[w.heap.size]? = some (.cells #[.int .i64 b, .slice p n cp, .bool false] 28 (0, 0)) := by rw [← hw2]; exact alw_0 _ _ _
  have b2 : w2.heap[w.heap.size + 1]? = some (.cells #[.int .i64 lim] 3 (0, 0)) := by rw [← hw2]; exact alw_1 _ _ _
  have hB2 : Below w.heap.size w w2 := by rw [← hw2]; exact belA (belA (Below.refl _ _) _) _
  have hc1 := (cells_block b1).1
  have hc2 : w2.cell? ⟨w.heap.size + 1, 0, none⟩ = some (.int .i64 lim) := (cells_block b2).1 0
  have hmf : ∀ (fn : Fn) (first cap : Array Value) (w : World), (Instr.makeFunc fn first cap).run Tryz.prog w = .ok (.func fn first cap) w := fun _ _ _ _ => rfl
  have HRF := refusal_any b lim p n cp w2
  obtain ⟨E, hE⟩ : ∃ E, rfE b lim = E := ⟨_, rfl⟩
  rw [hE] at HRF
  have HB : Hid (Below w.heap.size w w2) := hB2
  have hsz2 : w.heap.size ≤ w2.heap.size := hB2.size
  by_cases hE0 : E = 0
  · have hb0 : ¬ b = 0 := fun h => by unfold rfE at hE; rw [if_pos h] at hE; omega
    have hl0 : ¬ (lim < 0 ∨ 2048 < lim) := fun h => by unfold rfE at hE; rw [if_neg hb0, if_pos h] at hE; omega
    obtain ⟨M, rfl⟩ : ∃ M : Nat, lim = M := ⟨lim.toNat, by omega⟩
    have hM : M ≤ 2048 := by omega
    obtain ⟨R, ok, hxp, HG⟩ : ∃ (R : List (List UInt8)) (ok : Bool), (XPD b (M : Int) (Z.map ZT.cont) (if ok = true then 0 else 3) (if ok = true then R else [])) ∧ ∀ W, Below w2.heap.size w2 W → Calls Tryz.prog 21 #[.pointer (some ⟨w.heap.size, 0, none⟩), .pointer (some ⟨w.heap.size + 1, 0, none⟩)] W fun e w' => Below W.heap.size W w' ∧ ((ok = true ∧ ∃ v, e = .returned v ∧ w'.ownsRow W.heap.size 58 9 v R.length (ces R)) ∨ (ok = false ∧ e = .panicked [{ v := .iface 81 (.agg #[]), recovered := false }])) := by
      have H1 : ∀ W, Below w2.heap.size w2 W → _ := fun W hW => expand1_any inForm_any b Z n p cp w.heap.size (w.heap.size + 1) M W hn (by omega) hM (keepblk3 hW b1) (keepblk3 hW b2) (ht.ofW (bel0 hB2 hW) (fun k h => h.elim)) hzg
      cases hx : exE splT M [] (Z.map ZT.cont) with
      | none =>
        refine ⟨[], false, xpd_n hb0 hM hx, fun W hW => (H1 W hW).mono ?_⟩
        rintro e w' ⟨h1, ⟨R, v, h2, -⟩ | ⟨-, h3⟩⟩
        · rw [show exE splT M [] (Z.map ctZ) = none from hx] at h2
          cases h2
        · exact ⟨h1, .inr ⟨rfl, h3⟩⟩
      | some R =>
        refine ⟨R, true, xpd_s hb0 hM hx, fun W hW => (H1 W hW).mono ?_⟩
        rintro e w' ⟨h1, ⟨R', v, h2, h3, h4⟩ | ⟨h3, -⟩⟩
        · rw [show exE splT M [] (Z.map ctZ) = some R from hx] at h2
          injection h2 with h2
          subst h2
          exact ⟨h1, .inl ⟨rfl, v, h3, h4⟩⟩
        · rw [show exE splT M [] (Z.map ctZ) = some R from hx] at h3
          cases h3
    rw [← hxp.1, ← hxp.2]
    have HGV : Hid (∀ W, Below w2.heap.size w2 W → Calls Tryz.prog 20 #[.func (.func 21) #[] #[.pointer (some ⟨w.heap.size, 0, none⟩), .pointer (some ⟨w.heap.size + 1, 0, none⟩)]] W fun e w' => ∃ v, e = .returned (.tuple #[v, .int .i64 (if ok = true then 0 else 3)]) ∧ w'.ownsRow W.heap.size 58 9 v (if ok = true then R else []).length (ces (if ok = true then R else [])) ∧ Below W.heap.size W w') := fun W hW => giveC R ok _ _ W (fun X hX => HG X (bel0 hW hX))
    obtain ⟨EE, hEE⟩ : ∃ E : Int, (if ok = true then 0 else 3) = E := ⟨_, rfl⟩
    obtain ⟨LL, hLL⟩ : ∃ E, (if ok = true then R else []) = E := ⟨_, rfl⟩
    rw [hEE, hLL] at HGV ⊢
    subst hE0
    clear hE hb0 hl0 HG hxp hEE hLL b1 b2 ht hzg hrow hzl hg hs hB2 hn hq1
    go_enter Tryz.func6, Tryz.ntmps6
    go_wp2_with fail
    refine HRF.mono ?_
    rintro e w3 ⟨rfl, hb3⟩
    clear HRF hc1 hc2 hw2
    have HB3 : Hid (Below w2.heap.size w2 w3) := hb3
    clear hb3
    go_wp2_with fail
    refine (HGV.out w3 HB3.out).mono ?_
    rintro e w4 ⟨v, rfl, o4, hb4⟩
    obtain ⟨p4, c4, rfl⟩ := shapeQ1 o4
    have hs3 := HB3.out.size
    have HZ : Hid (w4.ownsRow w.heap.size 58 9 (.slice p4 LL.length c4) LL.length (ces LL) ∧ Below w.heap.size w w4) := ⟨own_base o4 (by omega), bel0 HB.out (bel0 HB3.out hb4)⟩
    clear o4 hb4
    go_wp2_with fail
    go_ret2
    exact ⟨_, rfl, HZ.out.1, HZ.out.2⟩
  · have hxp : XPD b lim (Z.map ZT.cont) E [] := by
      unfold rfE at hE
      split at hE
      · rename_i h1
        subst h1
        rw [← hE]
        exact xpd_w _ _
      · rename_i h1
        split at hE
        · rename_i h2
          rw [← hE]
          exact xpd_a _ h1 h2
        · omega
    rw [← hxp.1, ← hxp.2]
    have e0 : (E != 0) = true := by rw [bne_iff_ne]; exact hE0
    clear hE hxp b1 b2 ht hzg hrow hzl hg hs hB2 hn hq1 hE0
    go_enter Tryz.func6, Tryz.ntmps6
    go_wp2_with fail
    refine HRF.mono ?_
    rintro e w3 ⟨rfl, hb3⟩
    have HZ : Hid (Below w.heap.size w w3) := bel0 HB.out hb3
    clear HRF hc1 hc2 hw2 hb3
    go_wp2_with fail
    go_ret2
    exact ⟨_, rfl, World.ownsRow_nil _ _ _ _, HZ.out⟩
end Go.Proofs.YtecgjlpmmailjaaGreatDoor
namespace Go.Proofs.YtecgjlpmmailjaaGreatDoor
open Go.RowKit Go.Shelf
/-- example 1 -/
def awT : List UInt8 := [49, 48, 120, 120, 45, 49, 49, 49, 49, 45, 49, 48, 49, 120, 45, 49, 48, 49, 48, 43, 48, 120, 120, 120, 45, 49, 120, 120, 120]
theorem aw1 : stl [([49, 48, 120, 120], [[49, 49, 49, 49], [49, 48, 49, 120], [49, 48, 49, 48]]), ([48, 120, 120, 120], [[49, 120, 120, 120]])] = [([49, 48, 120, 120], [[49, 48, 49, 120]]), ([48, 120, 120, 120], [])] := by decide +kernel
theorem aw2 : topC [([49, 48, 120, 120], [[49, 48, 49, 120]]), ([48, 120, 120, 120], [])] = [([49, 48, 120, 120], [[49, 48, 49, 120]]), ([48, 120, 120, 120], [])] := by decide +kernel
theorem aw3 : ordT [([49, 48, 120, 120], [[49, 48, 49, 120]]), ([48, 120, 120, 120], [])] = [([48, 120, 120, 120], []), ([49, 48, 120, 120], [[49, 48, 49, 120]])] := by
  have h : ¬ leLn [[49, 48, 120, 120], [49, 48, 49, 120]] [[48, 120, 120, 120]] = true := by decide +kernel
  unfold ordT srtLn
  simp [srtT, List.mergeSort, h]
set_option maxRecDepth 100000 in
theorem aw5 : prE 4 awT = 0 := by decide +kernel
set_option maxRecDepth 100000 in
theorem aw6 : (prts 43 awT).map tcon = [([49, 48, 120, 120], [[49, 49, 49, 49], [49, 48, 49, 120], [49, 48, 49, 48]]), ([48, 120, 120, 120], [[49, 120, 120, 120]])] := by decide +kernel
theorem aw7 : prT 4 awT = [([48, 120, 120, 120], []), ([49, 48, 120, 120], [[49, 48, 49, 120]])] := by
  unfold prT
  rw [if_pos aw5, if_neg (by decide), aw6, aw1, aw2, aw3]
theorem aw_ok : prE 4 awT = 0 ∧ txC (prT 4 awT) = [48, 120, 120, 120, 43, 49, 48, 120, 120, 45, 49, 48, 49, 120] ∧ szC (prT 4 awT) = 3 := by
  rw [aw7]
  exact ⟨aw5, by decide +kernel, by decide +kernel⟩
set_option maxRecDepth 100000 in
set_option maxHeartbeats 4000000 in
theorem awake_any (w : World) : Calls Tryz.prog 4 #[] w fun e w' => e = .returned (.bool true) ∧ Below w.heap.size w w' := by
  obtain ⟨a1, a2, a3⟩ := aw_ok
  have ok := prT_ok 4 awT
  have hB : prB 4 awT = 4 := by unfold prB; rw [if_pos a1]
  obtain ⟨X, hX⟩ : ∃ X, prT 4 awT = X := ⟨_, rfl⟩
  have HP : Hid (Calls Tryz.prog 5 #[.int .i64 4, .string ⟨#[49, 48, 120, 120, 45, 49, 49, 49, 49, 45, 49, 48, 49, 120, 45, 49, 48, 49, 48, 43, 48, 120, 120, 120, 45, 49, 120, 120, 120]⟩] w fun e w' => ∃ V, e = .returned (.tuple #[.agg #[.int .i64 4, V, .bool false], .int .i64 0]) ∧ SPL w' w.heap.size V X ∧ Below w.heap.size w w') := by
    have h := sParse_any 4 awT w (by unfold maxLen awT; decide)
    unfold PRS at h
    rw [hB, a1, hX] at h
    exact h
  rw [hX] at a2 a3 ok
  have HT : Hid (∀ (W : World) (V : Value) (B : Nat), SPL W B V X → Calls Tryz.prog 12 #[.agg #[.int .i64 4, V, .bool false]] W fun e w' => e = .returned (.string ⟨#[48, 120, 120, 120, 43, 49, 48, 120, 120, 45, 49, 48, 49, 120]⟩) ∧ Below W.heap.size W w') := fun W V B h => by
    have h1 := spText_any 4 V X B W h ok.2 ok.1
    rw [a2] at h1
    exact h1
  have HS : Hid (∀ (W : World) (V : Value) (B : Nat), SPL W B V X → Calls Tryz.prog 13 #[.agg #[.int .i64 4, V, .bool false]] W fun e w' => e = .returned (.int .i64 3) ∧ Below W.heap.size W w') := fun W V B h => by
    have h1 := spSize_any 4 V X B W h ok.2
    rw [a3] at h1
    exact h1
  clear a1 a2 a3 ok hB hX
  obtain ⟨n, hn⟩ : ∃ n, X.length = n := ⟨_, rfl⟩
  go_enter Tryz.func4, Tryz.ntmps4
  go_wp2_with fail
  refine HP.out.mono ?_
  rintro e w1 ⟨V, rfl, sv, hb1⟩
  obtain ⟨p, c, rfl⟩ := sv.shape
  rw [hn] at sv ⊢
  have HF : Hid (∀ W, Below (w1.alloc (.cells #[.int .i64 4, .slice p n c, .bool false] 28 (0, 0))).heap.size (w1.alloc (.cells #[.int .i64 4, .slice p n c, .bool false] 28 (0, 0))) W → (∀ j, W.cell? ⟨w1.heap.size, j, none⟩ = (#[.int .i64 4, .slice p n c, .bool false] : Array Value)[j]?) ∧ SPL W w.heap.size (.slice p n c) X ∧ Below w.heap.size w W) := fun W hW => by
    have h1 : Below w1.heap.size w1 W := bel0 (belA (Below.refl _ _) _) hW
    exact ⟨(cells_block (keepblk3 hW (alloc_get _ _))).1, sv.below h1, bel0 hb1 h1⟩
  obtain ⟨f1, g1, -⟩ := HF.out _ (Below.refl _ _)
  clear sv hb1 HP
  go_wp2_with fail
  refine (HT.out _ _ _ g1).mono ?_
  rintro e w2 ⟨rfl, hb2⟩
  obtain ⟨f2, g2, -⟩ := HF.out w2 hb2
  clear f1 g1
  go_wp2_with fail
  refine (HS.out _ _ _ g2).mono ?_
  rintro e w3 ⟨rfl, hb3⟩
  have hb3' := bel0 hb2 hb3
  obtain ⟨f3, g3, -⟩ := HF.out w3 hb3'
  clear f2 g2 hb2 hb3
  go_wp2_with fail
  refine (bits_any 4 p n c _).mono ?_
  rintro e w4 ⟨rfl, hb4⟩
  clear f3 g3
  go_wp2_with fail
  go_ret
  exact ⟨rfl, (HF.out w4 (bel0 hb3' hb4)).2.2⟩
end Go.Proofs.YtecgjlpmmailjaaGreatDoor
namespace Go.Proofs.YtecgjlpmmailjaaGreatDoor
open Go.RowKit Go.Shelf
theorem quiet_lit3 {P : Program} {id : Nat} {Q : Exit → Act → World → Prop} {a : Act} {w : World} {l : List Oper} {C : World → Prop} (hm : P.follows .mixedOrders = true) (hB : Region.lexB .any l.toArray = true) (hC : C w.drew)
    (h : wpQuiet P l.toArray C (fun a' => ∀ w', C w' → Q .normal a' w') l a) : (Code.region id l.toArray true).wp P Q a w :=
  wp_region_quiet (C := C) hm hB hC (by simpa using h)
theorem RSR.shape {W : World} {V : Value} {Ts : List (List UInt8 × List (List UInt8))} (h : RSR W V Ts) : ∃ p c, V = .slice p Ts.length c := by
  obtain ⟨Z, p, c, rfl, rfl, -, -⟩ := h
  exact ⟨p, c, by rw [List.length_map]⟩
theorem RSR.kept {W X : World} {b : Nat} {V : Value} {Ts : List (List UInt8 × List (List UInt8))} (h : RSR W V Ts) (hg : W.grownBy X (some b)) (hb : ∀ o t, W.cell? ⟨b, o, none⟩ ≠ some (.string t)) : RSR X V Ts := by
  have far : ∀ (X' : World) (g o : Nat) (u : Value), Below X.heap.size X X' → (∃ o' t, W.cell? ⟨g, o', none⟩ = some (.string t)) → W.cell? ⟨g, o, none⟩ = some u → X'.cell? ⟨g, o, none⟩ = some u := fun X' g o u hX hs hc => by
    have hne : some g ≠ some b := fun e => by
      obtain rfl := Option.some.inj e
      obtain ⟨o', t, h⟩ := hs
      exact hb o' t h
    have hlt := World.block_lt_of_cell? W _ hc
    have e1 : X'.heap[g]? = W.heap[g]? := (hX.block g (Nat.lt_of_lt_of_le hlt hg.size)).trans (hg.block g hlt hne)
    rw [World.cell?_of_block (a := ⟨g, o, none⟩) e1]
    exact hc
  obtain ⟨Z, p, cp, h1, h2, h3, h4⟩ := h
  refine ⟨Z, p, cp, h1, h2, fun X' hX k z hz => ?_, fun z hz X' hX k t ht => ?_⟩
  · obtain ⟨g, o0, e, c0, c1⟩ := h3 W (Below.refl _ _) k z hz
    exact ⟨g, o0, e, far X' g _ _ hX ⟨_, _, c0⟩ c0, far X' g _ _ hX ⟨_, _, c0⟩ c1⟩
  · obtain ⟨g, o0, e, c0⟩ := h4 z hz W (Below.refl _ _) k t ht
    exact ⟨g, o0, e, far X' g _ _ hX ⟨_, _, c0⟩ c0⟩
theorem no_str3 {W : World} {b : Nat} {i : Int} {q : Option Addr} {n c : Nat} {f : Bool} {T : TypeId} {fr : Nat × Nat} (hb : W.heap[b]? = some (.cells #[.int .i64 i, .slice q n c, .bool f] T fr)) : ∀ o t, W.cell? ⟨b, o, none⟩ ≠ some (.string t) := fun o t h => by
  unfold World.cell? at h
  rw [hb] at h
  match o, h with
  | 0, h => simp at h
  | 1, h => simp at h
  | 2, h => simp at h
  | k + 3, h => simp at h
theorem no_str2 {W : World} {b : Nat} {i : Int} {q : Option Addr} {n c : Nat} {T : TypeId} {fr : Nat × Nat} (hb : W.heap[b]? = some (.cells #[.int .i64 i, .slice q n c] T fr)) : ∀ o t, W.cell? ⟨b, o, none⟩ ≠ some (.string t) := fun o t h => by
  unfold World.cell? at h
  rw [hb] at h
  match o, h with
  | 0, h => simp at h
  | 1, h => simp at h
  | k + 2, h => simp at h
end Go.Proofs.YtecgjlpmmailjaaGreatDoor

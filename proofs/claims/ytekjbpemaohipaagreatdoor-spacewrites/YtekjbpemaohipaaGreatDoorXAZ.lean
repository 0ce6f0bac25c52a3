import Derived.Test.YtekjbpemaohipaaGreatDoorXAY
import Derived.Test.YtekjbpemaohipaaGreatDoorXAC
import Derived.Deep.RegionHeld3
import Derived.Test.YtekjbpemaohipaaGreatDoorXAJ
import Derived.Test.YtekjbpemaohipaaGreatDoorXAR
import Derived.Test.YtekjbpemaohipaaGreatDoorXAX
namespace Go.Proofs.YtekjbpemaohipaaGreatDoor
open Go.RowKit Go.Shelf
/-- no two of a list are within one another -/
def apL (L : List (List UInt8)) : Prop := L.Pairwise (fun a b => wiB a b = false ∧ wiB b a = false)
theorem topS_ap {T : List (List UInt8)} {x : List UInt8} (h : apL T) : apL (topS T x) := by
  unfold topS
  split
  · exact h
  · rename_i hn
    refine List.pairwise_append.2 ⟨List.Pairwise.filter _ h, List.pairwise_singleton _ _, fun a ha b hb => ?_⟩
    obtain rfl := List.mem_singleton.1 hb
    have h1 := List.mem_filter.1 ha
    have h2 : wiB a b = false := by simpa using h1.2
    have h3 : wiB b a = false := by
      cases h4 : wiB b a
      · rfl
      · exact absurd (List.any_eq_true.2 ⟨a, h1.1, h4⟩) hn
    exact ⟨h2, h3⟩
theorem topF_ap (L : List (List UInt8)) : ∀ T : List (List UInt8), apL T → apL (L.foldl topS T) := by
  induction L with
  | nil => intro T h; exact h
  | cons x l ih => intro T h; rw [List.foldl_cons]; exact ih _ (topS_ap h)
theorem topL_ap (L : List (List UInt8)) : apL (topL L) := topF_ap L [] List.Pairwise.nil
theorem topF_id (L : List (List UInt8)) : ∀ T : List (List UInt8), apL (T ++ L) → L.foldl topS T = T ++ L := by
  induction L with
  | nil => intro T _; simp
  | cons x l ih =>
    intro T h
    have e : topS T x = T ++ [x] := by
      unfold topS
      have h1 := (List.pairwise_append.1 h).2.2
      have hn : ¬ T.any (fun y => wiB x y) = true := fun hc => by
        obtain ⟨y, hy, hw⟩ := List.any_eq_true.1 hc
        rw [(h1 y hy x List.mem_cons_self).2] at hw
        cases hw
      rw [if_neg hn]
      congr 1
      exact List.filter_eq_self.2 (fun y hy => by rw [(h1 y hy x List.mem_cons_self).1]; rfl)
    rw [List.foldl_cons, e, ih (T ++ [x]) (by simpa using h)]
    simp
theorem topL_id {L : List (List UInt8)} (h : apL L) : topL L = L := topF_id L [] h
/-- no two of a list of terms cover one another -/
def apC (L : List (List UInt8 × List (List UInt8))) : Prop := L.Pairwise (fun a b => cvC a b = false ∧ cvC b a = false)
theorem topCS_ap {T : List (List UInt8 × List (List UInt8))} {x : List UInt8 × List (List UInt8)} (h : apC T) : apC (topCS T x) := by
  unfold topCS
  split
  · exact h
  · rename_i hn
    refine List.pairwise_append.2 ⟨List.Pairwise.filter _ h, List.pairwise_singleton _ _, fun a ha b hb => ?_⟩
    obtain rfl := List.mem_singleton.1 hb
    have h1 := List.mem_filter.1 ha
    have h2 : cvC a b = false := by simpa using h1.2
    have h3 : cvC b a = false := by
      cases h4 : cvC b a
      · rfl
      · exact absurd (List.any_eq_true.2 ⟨a, h1.1, h4⟩) hn
    exact ⟨h2, h3⟩
theorem topCF_ap (L : List (List UInt8 × List (List UInt8))) : ∀ T : List (List UInt8 × List (List UInt8)), apC T → apC (L.foldl topCS T) := by
  induction L with
  | nil => intro T h; exact h
  | cons x l ih => intro T h; rw [List.foldl_cons]; exact ih _ (topCS_ap h)
theorem topC_ap (L : List (List UInt8 × List (List UInt8))) : apC (topC L) := topCF_ap L [] List.Pairwise.nil
theorem topCF_id (L : List (List UInt8 × List (List UInt8))) : ∀ T : List (List UInt8 × List (List UInt8)), apC (T ++ L) → L.foldl topCS T = T ++ L := by
  induction L with
  | nil => intro T _; simp
  | cons x l ih =>
    intro T h
    have e : topCS T x = T ++ [x] := by
      unfold topCS
      have h1 := (List.pairwise_append.1 h).2.2
      have hn : ¬ T.any (fun y => cvC x y) = true := fun hc => by
        obtain ⟨y, hy, hw⟩ := List.any_eq_true.1 hc
        rw [(h1 y hy x List.mem_cons_self).2] at hw
        cases hw
      rw [if_neg hn]
      congr 1
      exact List.filter_eq_self.2 (fun y hy => by rw [(h1 y hy x List.mem_cons_self).1]; rfl)
    rw [List.foldl_cons, e, ih (T ++ [x]) (by simpa using h)]
    simp
theorem topC_id {L : List (List UInt8 × List (List UInt8))} (h : apC L) : topC L = L := topCF_id L [] h
theorem apC_ord (L : List (List UInt8 × List (List UInt8))) (h : apC L) : apC (ordT L) := by
  have h1 : apC (L.map sof) := by
    refine List.pairwise_map.2 (List.Pairwise.imp (fun {a b} hab => ?_) h)
    rw [cvC_sof, cvC_sof]
    exact hab
  exact List.Perm.pairwise (ordT_perm L).symm h1 (fun {x y} hxy => ⟨hxy.2, hxy.1⟩)
theorem les_id {c : List UInt8} (gc : good c = true) : ∀ R : List (List UInt8), (∀ m ∈ R, good m = true) → (∀ m ∈ R, wiB m c = true) → lesL c R = R
  | [], _, _ => rfl
  | m :: l, gR, h => by
    have h1 := wi_eq m c (gR m List.mem_cons_self) gc
    rw [h m List.mem_cons_self] at h1
    obtain ⟨h2, h3⟩ := Bool.and_eq_true_iff.1 h1
    have h4 : mtT m c = m := by simpa using h3
    have ih := les_id gc l (fun x hx => gR x (List.mem_cons_of_mem _ hx)) (fun x hx => h x (List.mem_cons_of_mem _ hx))
    unfold lesL at ih ⊢
    rw [List.filterMap_cons, if_pos h2, h4, ih]
/-- a term in its form -/
structure FTm (t : List UInt8 × List (List UInt8)) : Prop where
  gc : good t.1 = true
  gl : ∀ m ∈ t.2, good m = true
  wi : ∀ m ∈ t.2, wiB m t.1 = true
  ne : t.1 ∉ t.2
  ap : apL t.2
  so : t.2.Pairwise (fun a b => leB a b = true)
theorem FTm.set {t : List UInt8 × List (List UInt8)} (h : FTm t) : setO t.1 t.2 = some t.2 := by
  unfold setO
  rw [les_id h.gc t.2 h.gl h.wi, topL_id h.ap]
  refine if_neg (fun hc => ?_)
  obtain ⟨y, hy, he⟩ := List.any_eq_true.1 hc
  obtain rfl : y = t.1 := by simpa using he
  exact h.ne hy
theorem stl_id : ∀ X : List (List UInt8 × List (List UInt8)), (∀ t ∈ X, FTm t) → stl X = X
  | [], _ => rfl
  | t :: l, h => by
    have ih := stl_id l (fun x hx => h x (List.mem_cons_of_mem _ hx))
    unfold stl at ih ⊢
    rw [List.filterMap_cons, (h t List.mem_cons_self).set, ih]
    rfl
theorem FTm_stl {Y : List (List UInt8 × List (List UInt8))} (g : gdC Y) : ∀ t ∈ (stl Y).map sof, FTm t ∧ ∃ y ∈ Y, y.1 = t.1 := fun t ht => by
  obtain ⟨u, hu, rfl⟩ := List.mem_map.1 ht
  have hgu := gdC_stl g u hu
  unfold stl at hu
  obtain ⟨x, hx, he⟩ := List.mem_filterMap.1 hu
  cases hs : setO x.1 x.2 with
  | none => rw [hs] at he; cases he
  | some R =>
    rw [hs] at he
    obtain rfl := Option.some.inj he
    have h2 := put_some hs
    have hR : R = topL (lesL x.1 x.2) := by
      unfold setO at hs
      split at hs
      · cases hs
      · exact (Option.some.inj hs).symm
    refine ⟨⟨hgu.1, fun m hm => hgu.2 m ((srtT_perm R).mem_iff.1 hm), fun m hm => ?_, h2.2, ?_, srtT_sorted R⟩, x, hx, rfl⟩
    · have h3 : m ∈ putL (lesL x.1 x.2) := by rw [h2.1]; exact hm
      exact lesL_within (g x hx).1 (g x hx).2 m (putL_mem h3)
    · exact List.Perm.pairwise (srtT_perm R).symm (hR ▸ topL_ap _) (fun {x y} hxy => ⟨hxy.2, hxy.1⟩)
theorem FTm_form {Y : List (List UInt8 × List (List UInt8))} (g : gdC Y) : ∀ t ∈ ordT (topC (stl Y)), FTm t ∧ ∃ y ∈ Y, y.1 = t.1 := fun t ht => by
  have h1 := (ordT_perm (topC (stl Y))).mem_iff.1 ht
  obtain ⟨u, hu, rfl⟩ := List.mem_map.1 h1
  rcases topCF_mem (stl Y) [] u hu with h2 | h2
  · cases h2
  · exact FTm_stl g _ (List.mem_map_of_mem h2)
theorem srtT_id {l : List (List UInt8)} (h : l.Pairwise (fun a b => leB a b = true)) : srtT l = l := (srt_eq (List.Perm.refl l) h).symm
theorem ordT_id (Z : List (List UInt8 × List (List UInt8))) : ordT (ordT Z) = ordT Z := by
  have hL : ∀ S ∈ srtLn (Z.map (fun t => t.1 :: srtT t.2)), S.headD [] :: srtT S.tail = S := fun S hS => by
    obtain ⟨t, _, rfl⟩ := List.mem_map.1 ((srtLn_perm _).mem_iff.1 hS)
    show t.1 :: srtT (srtT t.2) = _
    rw [srtT_id (srtT_sorted _)]
  have hs : (srtLn (Z.map (fun t => t.1 :: srtT t.2))).Pairwise (fun a b => leLn a b = true) := List.pairwise_mergeSort leLn_trans leLn_total _
  have e : (ordT Z).map (fun t => t.1 :: srtT t.2) = srtLn (Z.map (fun t => t.1 :: srtT t.2)) := by
    unfold ordT
    rw [List.map_map]
    exact (List.map_congr_left (fun S hS => hL S hS)).trans (List.map_id _)
  have e2 : ordT (ordT Z) = (srtLn ((ordT Z).map (fun t => t.1 :: srtT t.2))).map (fun S => (S.headD [], S.tail)) := rfl
  rw [e2, e, ← srtLn_eq (List.Perm.refl _) hs]
  rfl
/-- the form of a form is itself -/
theorem form_id {Y : List (List UInt8 × List (List UInt8))} (g : gdC Y) : ordT (topC (stl (ordT (topC (stl Y))))) = ordT (topC (stl Y)) := by
  rw [stl_id _ (fun t ht => (FTm_form g t ht).1), topC_id (apC_ord _ (topC_ap _)), ordT_id]
theorem idxM_no {s : UInt8} : ∀ {r : List UInt8}, s ∉ r → Lib.indexByte r s = -1
  | [], _ => rfl
  | x :: l, h => by
    have h1 : x ≠ s := fun e => h (by rw [e]; exact List.mem_cons_self)
    have h2 := idxM_no (r := l) (fun hc => h (List.mem_cons_of_mem _ hc))
    simp [Lib.indexByte, h1, h2]
theorem idxM_mid {s : UInt8} (r : List UInt8) : ∀ {p : List UInt8}, s ∉ p → Lib.indexByte (p ++ s :: r) s = (p.length : Int)
  | [], _ => by simp [Lib.indexByte]
  | x :: l, h => by
    have h1 : x ≠ s := fun e => h (by rw [e]; exact List.mem_cons_self)
    have h2 := idxM_mid r (p := l) (fun hc => h (List.mem_cons_of_mem _ hc))
    rw [List.cons_append, Lib.indexByte, h2, if_neg (by simpa using h1), if_neg (by simp)]
    rw [List.length_cons]
    omega
theorem prts_join (s : UInt8) : ∀ (L : List (List UInt8)) (c : List UInt8), s ∉ c → (∀ x ∈ L, s ∉ x) → prts s (c ++ L.flatMap (fun x => s :: x)) = c :: L
  | [], c, hc, _ => by
    rw [List.flatMap_nil, List.append_nil]
    exact prts_neg (by rw [idxM_no hc]; decide)
  | x :: l, c, hc, h => by
    have ih := prts_join s l x (h x List.mem_cons_self) (fun y hy => h y (List.mem_cons_of_mem _ hy))
    have e : c ++ (x :: l).flatMap (fun x => s :: x) = c ++ s :: (x ++ l.flatMap (fun x => s :: x)) := by rw [List.flatMap_cons]; rfl
    rw [e, prts_pos (idxM_mid _ hc), List.take_left, List.drop_append, List.drop_eq_nil_of_le (by omega)]
    rw [show c.length + 1 - c.length = 1 by omega]
    show c :: prts s (x ++ l.flatMap (fun x => s :: x)) = _
    rw [ih]
theorem tri_no {x : UInt8} (h : tri x = true) : x ≠ 43 ∧ x ≠ 45 ∧ x ≠ 110 := by
  refine ⟨fun e => ?_, fun e => ?_, fun e => ?_⟩ <;> subst e <;> revert h <;> decide
theorem good_no {t : List UInt8} (h : good t = true) : (43 : UInt8) ∉ t ∧ (45 : UInt8) ∉ t ∧ (110 : UInt8) ∉ t := by
  have h1 := List.all_eq_true.1 (Bool.and_eq_true_iff.1 h).2
  exact ⟨fun hc => (tri_no (h1 _ hc)).1 rfl, fun hc => (tri_no (h1 _ hc)).2.1 rfl, fun hc => (tri_no (h1 _ hc)).2.2 rfl⟩
theorem prts_txT {t : List UInt8 × List (List UInt8)} (gc : good t.1 = true) (gl : ∀ m ∈ t.2, good m = true) : prts 45 (txT t) = t.1 :: t.2 :=
  prts_join 45 t.2 t.1 (good_no gc).2.1 (fun x hx => (good_no (gl x hx)).2.1)
theorem tcon_txT {t : List UInt8 × List (List UInt8)} (gc : good t.1 = true) (gl : ∀ m ∈ t.2, good m = true) : tcon (txT t) = t := by
  unfold tcon; rw [prts_txT gc gl]; rfl
theorem txT_no43 {t : List UInt8 × List (List UInt8)} (gc : good t.1 = true) (gl : ∀ m ∈ t.2, good m = true) : (43 : UInt8) ∉ txT t := by
  unfold txT txL
  intro hc
  rcases List.mem_append.1 hc with h | h
  · exact (good_no gc).1 h
  · obtain ⟨m, hm, h⟩ := List.mem_flatMap.1 h
    rcases List.mem_cons.1 h with h | h
    · revert h; decide
    · exact (good_no (gl m hm)).1 h
theorem prts_txC {X : List (List UInt8 × List (List UInt8))} (g : gdC X) (hn : X ≠ []) : prts 43 (txC X) = X.map txT := by
  unfold txC
  rw [if_neg hn]
  cases X with
  | nil => exact absurd rfl hn
  | cons t l =>
    have e : jn ((t :: l).map txT) = txT t ++ (l.map txT).flatMap (fun x => 43 :: x) := by simp [jn]
    rw [e, prts_join 43 (l.map txT) (txT t) (txT_no43 (g t List.mem_cons_self).1 (g t List.mem_cons_self).2) (fun x hx => by
      obtain ⟨u, hu, rfl⟩ := List.mem_map.1 hx
      exact txT_no43 (g u (List.mem_cons_of_mem _ hu)).1 (g u (List.mem_cons_of_mem _ hu)).2)]
    rfl
theorem tcon_all {X : List (List UInt8 × List (List UInt8))} (g : gdC X) : (X.map txT).map tcon = X := by
  rw [List.map_map]
  exact (List.map_congr_left (fun t ht => tcon_txT (g t ht).1 (g t ht).2)).trans (List.map_id _)
theorem txM_len : ∀ {L : List (List UInt8)}, (∀ m ∈ L, m.length ≤ 256) → (txL L).length ≤ 257 * L.length
  | [], _ => by simp [txL]
  | x :: l, h => by
    have ih := txM_len (L := l) (fun m hm => h m (List.mem_cons_of_mem _ hm))
    have h1 := h x List.mem_cons_self
    unfold txL at ih ⊢
    rw [List.flatMap_cons, List.length_append, List.length_cons, List.length_cons]
    omega
theorem flatM_len : ∀ {X : List (List UInt8 × List (List UInt8))}, (∀ t ∈ X, t.1.length ≤ 256 ∧ ∀ m ∈ t.2, m.length ≤ 256) → ((X.map txT).flatMap (fun x => 43 :: x)).length ≤ 257 * szC X
  | [], _ => by simp [szC]
  | t :: l, h => by
    have ih := flatM_len (X := l) (fun m hm => h m (List.mem_cons_of_mem _ hm))
    have h1 := (h t List.mem_cons_self).1
    have h2 := txM_len (h t List.mem_cons_self).2
    rw [List.map_cons, List.flatMap_cons, List.length_append, List.length_cons, szC]
    unfold txT at ih ⊢
    rw [List.length_append]
    omega
theorem good_le {t : List UInt8} (h : good t = true) : t.length ≤ 256 := by
  have := (Bool.and_eq_true_iff.1 h).1
  simpa using this
theorem txC_len {X : List (List UInt8 × List (List UInt8))} (g : gdC X) (hs : szC X ≤ 128) : (txC X).length ≤ 33024 := by
  unfold txC
  split
  · simp
  · have h1 := flatM_len (X := X) (fun t ht => ⟨good_le (g t ht).1, fun m hm => good_le ((g t ht).2 m hm)⟩)
    unfold jn
    rw [List.length_drop]
    omega
theorem txC_none {X : List (List UInt8 × List (List UInt8))} (g : gdC X) (hn : X ≠ []) (hl : ∀ t ∈ X, t.1 ≠ []) : txC X ≠ [110, 111, 110, 101] := by
  unfold txC
  rw [if_neg hn]
  cases X with
  | nil => exact absurd rfl hn
  | cons t l =>
    have e : jn ((t :: l).map txT) = txT t ++ (l.map txT).flatMap (fun x => 43 :: x) := by simp [jn]
    rw [e]
    unfold txT
    intro hc
    have h1 := hl t List.mem_cons_self
    have h2 := (good_no (g t List.mem_cons_self).1).2.2
    cases hx : t.1 with
    | nil => exact h1 hx
    | cons x r =>
      rw [hx] at hc h2
      have h3 := congrArg (fun l => l.headD 0) hc
      have h4 : x = 110 := h3
      exact h2 (by rw [h4]; exact List.mem_cons_self)
theorem prE_zero {b : Int} {l : List UInt8} (h0 : prE b l = 0) : 1 ≤ b ∧ b ≤ 256 ∧ (l = [110, 111, 110, 101] ∨ (prts 43 l).all (okT b.toNat) = true) := by
  unfold prE at h0
  by_cases h1 : 33024 < l.length
  · rw [if_pos h1] at h0; exact absurd h0 (by decide)
  · rw [if_neg h1] at h0
    by_cases hb : b < 1 ∨ 256 < b
    · rw [if_pos hb] at h0; exact absurd h0 (by decide)
    · rw [if_neg hb] at h0
      refine ⟨by omega, by omega, ?_⟩
      by_cases hn : l = [110, 111, 110, 101]
      · exact .inl hn
      · rw [if_neg hn] at h0
        cases h : (prts 43 l).all (okT b.toNat)
        · rw [if_pos h] at h0; exact absurd h0 (by decide)
        · exact .inr rfl
/-- the text of what was read is read as the same -/
theorem pr_back (b : Int) (l : List UInt8) (h0 : prE b l = 0) : prE b (txC (prT b l)) = 0 ∧ prT b (txC (prT b l)) = prT b l := by
  have hok := prT_ok b l
  have hlen := txC_len hok.1 hok.2
  obtain ⟨hb1, hb2, hb3⟩ := prE_zero h0
  have hb : ¬ (b < 1 ∨ 256 < b) := by omega
  by_cases hX : prT b l = []
  · rw [hX] at hlen ⊢
    have e : txC [] = [110, 111, 110, 101] := rfl
    have h1 : prE b (txC []) = 0 := by
      unfold prE
      rw [if_neg (by omega), if_neg hb, e, if_pos rfl]
    refine ⟨h1, ?_⟩
    unfold prT
    rw [if_pos h1, e, if_pos rfl]
  · have hn : ¬ l = [110, 111, 110, 101] := fun hc => hX (by unfold prT; rw [if_pos h0, if_pos hc])
    have hT : prT b l = ordT (topC (stl ((prts 43 l).map tcon))) := by unfold prT; rw [if_pos h0, if_neg hn]
    have hall : (prts 43 l).all (okT b.toNat) = true := hb3.resolve_left hn
    have hg := gdC_tcon hall
    have hF : ∀ t ∈ prT b l, FTm t ∧ t.1.length = b.toNat := fun t ht => by
      rw [hT] at ht
      obtain ⟨h1, y, hy, he⟩ := FTm_form hg t ht
      refine ⟨h1, ?_⟩
      obtain ⟨p, hp, rfl⟩ := List.mem_map.1 hy
      have h2 := List.all_eq_true.1 hall p hp
      have hne := prts_ne 45 p
      rw [← he]
      unfold tcon
      unfold okT at h2
      cases hc : prts 45 p with
      | nil => rw [hc] at hne; exact absurd hne (by simp)
      | cons c r =>
        rw [hc] at h2
        have h3 := List.all_eq_true.1 h2 c List.mem_cons_self
        unfold okP at h3
        simpa using (Bool.and_eq_true_iff.1 h3).2
    have hne : ∀ t ∈ prT b l, t.1 ≠ [] := fun t ht hc => by
      have := (hF t ht).2
      rw [hc] at this
      simp at this
      omega
    have hp := prts_txC hok.1 hX
    have hoP : ∀ c : List UInt8, good c = true → c.length = b.toNat → okP b.toNat c = true := fun c gc hc => by
      unfold okP
      rw [hc]
      have h1 : refP c = 0 := by
        unfold refP
        rw [if_neg (by have := good_le gc; omega), if_neg (fun e => by rw [e] at hc; simp at hc; omega), if_pos (Bool.and_eq_true_iff.1 gc).2]
      rw [h1]
      simp
    have hall2 : ((prT b l).map txT).all (okT b.toNat) = true := List.all_eq_true.2 (fun p hp => by
      obtain ⟨t, ht, rfl⟩ := List.mem_map.1 hp
      obtain ⟨hf, hl⟩ := hF t ht
      unfold okT
      rw [prts_txT hf.gc hf.gl]
      refine List.all_eq_true.2 (fun c hc => ?_)
      rcases List.mem_cons.1 hc with rfl | hc
      · exact hoP _ hf.gc hl
      · refine hoP _ (hf.gl c hc) ?_
        have h1 := hf.wi c hc
        unfold wiB at h1
        rw [fitB_len (Bool.and_eq_true_iff.1 h1).1, hl])
    have h1 : prE b (txC (prT b l)) = 0 := by
      unfold prE
      rw [if_neg (by omega), if_neg hb, if_neg (txC_none hok.1 hX hne), hp, tcon_all hok.1, if_neg (by rw [hall2]; simp), if_neg (by omega)]
    refine ⟨h1, ?_⟩
    have e1 : prT b (txC (prT b l)) = ordT (topC (stl ((prts 43 (txC (prT b l))).map tcon))) := by
      rw [prT, if_pos h1, if_neg (txC_none hok.1 hX hne)]
    rw [e1, hp, tcon_all hok.1, hT]
    exact form_id hg
end Go.Proofs.YtekjbpemaohipaaGreatDoor
namespace Go.Proofs.YtekjbpemaohipaaGreatDoor
open Go.RowKit

/-- place k of a header suits a cube's -/
def okH (t h : List UInt8) (k : Nat) : Bool := match t[k]?, h[k]? with | some x, some d => (d == 48 || d == 49) && (x == 120 || x == d) | _, _ => true
/-- P1.4 -/
def hasB (t h : List UInt8) : Bool := !t.isEmpty && (t.length == h.length) && allTo (okH t h) t.length

theorem byteH_bne (x : UInt8) (n : Nat) (hn : n < 256) : ((x.toNat : Int) != (n : Int)) = !(x == UInt8.ofNat n) := by
  unfold bne
  congr 1
  rw [Bool.eq_iff_iff, beq_iff_eq, beq_iff_eq]
  constructor
  · intro e
    have : x.toNat = n := by omega
    rw [← this]; simp
  · intro e; subst e
    simp [UInt8.toNat_ofNat', Nat.mod_eq_of_lt hn]

theorem byteH_bne2 (x y : UInt8) : ((x.toNat : Int) != (y.toNat : Int)) = !(x == y) := by
  unfold bne
  congr 1
  rw [Bool.eq_iff_iff, beq_iff_eq, beq_iff_eq]
  constructor
  · intro e; exact UInt8.toNat_inj.1 (by omega)
  · intro e; subst e; rfl

theorem okH_eq (t : List UInt8) (s : ByteArray) (k : Nat) (hk : k < t.length) (hks : k < s.size) (p1 p2 p3 p4 : Bool) (n1 : ((s[k].toNat : Int) != 48) = p1) (n2 : ((s[k].toNat : Int) != 49) = p2) (n3 : ((t[k].toNat : Int) != 120) = p3) (n4 : ((t[k].toNat : Int) != (s[k].toNat : Int)) = p4) :
    okH t s.data.toList k = !((p1 && p2) || (p3 && p4)) := by
  have e1 := byteH_bne s[k] 48 (by decide)
  have e2 := byteH_bne s[k] 49 (by decide)
  have e3 := byteH_bne t[k] 120 (by decide)
  have e4 := byteH_bne2 t[k] s[k]
  have hs : s.data.toList[k]? = some s[k] := by rw [List.getElem?_eq_getElem (by simpa using hks)]; rfl
  simp only [okH, hs, List.getElem?_eq_getElem hk]
  subst n1 n2 n3 n4
  have f1 : ((s[k].toNat : Int) != 48) = !(s[k] == 48) := e1
  have f2 : ((s[k].toNat : Int) != 49) = !(s[k] == 49) := e2
  have f3 : ((t[k].toNat : Int) != 120) = !(t[k] == 120) := e3
  rw [f1, f2, f3, e4]
  cases (s[k] == 48) <;> cases (s[k] == 49) <;> cases (t[k] == 120) <;> cases (t[k] == s[k]) <;> rfl

set_option maxHeartbeats 400000 in
theorem has_off (t : List UInt8) (s : ByteArray) (w : World) (hs : s.size ≤ maxLen) (h : t.length = 0 ∨ s.size ≠ t.length) :
    Calls Tryz.prog 51 #[cubeV t, .string s] w fun e w' => e = .returned (.bool false) ∧ Below w.heap.size w w' := by
  unfold maxLen at hs
  unfold cubeV cv
  by_cases h0 : t.length = 0
  · have b0 : ((t.length : Int) == 0) = true := by rw [h0]; rfl
    clear h h0
    go_enter Tryz.func51, Tryz.ntmps51
    go_wp2
    go_ret
    exact ⟨rfl, (Below.refl _ _).alloc (Nat.le_refl _) _⟩
  · have b0 : ((t.length : Int) == 0) = false := by simp; intro e; subst e; simp at h0
    have b1 : ((s.size : Int) != (t.length : Int)) = true := by simp; omega
    clear h h0
    go_enter Tryz.func51, Tryz.ntmps51
    go_wp2
    go_ret
    exact ⟨rfl, (Below.refl _ _).alloc (Nat.le_refl _) _⟩

theorem okH_succ {p : Nat → Bool} {k : Nat} {q : Bool} (h : ∀ j, j < k → p j = true) (hk : p k = q) (hq : q = true := by rfl) : ∀ j, j < k + 1 → p j = true := by
  intro j hj
  by_cases e : j = k
  · subst e; rw [hk, hq]
  · exact h j (by omega)

set_option maxHeartbeats 2000000 in
theorem has_loop (t : List UInt8) (s : ByteArray) (w : World) (hg : good t = true) (h0 : 1 ≤ t.length) (hsz : s.size = t.length) :
    Calls Tryz.prog 51 #[cubeV t, .string s] w fun e w' => e = .returned (.bool (allTo (okH t s.data.toList) t.length)) ∧ Below w.heap.size w w' := by
  have hl := good_len hg
  have HS : Hid (s.size = t.length) := hsz
  have b0 : ((t.length : Int) == 0) = false := by simp; intro e; subst e; simp at h0
  have b1 : ((s.size : Int) != (t.length : Int)) = false := by simp [hsz]
  clear hsz
  unfold cubeV cv
  go_enter Tryz.func51, Tryz.ntmps51
  go_wp2
  clear b0 b1
  go_loopw [20] (fun i wr => ∃ k : Nat, k ≤ t.length ∧ i = .int .i64 k ∧ Hid (∀ j, j < k → okH t s.data.toList j = true) ∧ Below (w.heap.size + 1) (w.alloc (.cells #[.int .i64 (t.length : Int), .int .u64 (FW t 0 : Int), .int .u64 (FW t 1 : Int), .int .u64 (FW t 2 : Int), .int .u64 (FW t 3 : Int), .int .u64 (OW t 0 : Int), .int .u64 (OW t 1 : Int), .int .u64 (OW t 2 : Int), .int .u64 (OW t 3 : Int)] 34)) wr) (fun i _ => t.length - (intOf i).toNat)
  case atStart => exact ⟨0, Nat.zero_le _, rfl, fun j h => by omega, Below.refl _ _⟩
  case round =>
    obtain ⟨k, hk, rfl, hok, hB⟩ := hrel
    have hsz1 : w.heap.size + 1 ≤ wr.heap.size := by have := hB.size; simpa using this
    by_cases hlt : k < t.length
    · have hc : ∀ b o, b < w.heap.size + 1 → wr.cell? ⟨b, o, none⟩ = (w.alloc (.cells #[.int .i64 (t.length : Int), .int .u64 (FW t 0 : Int), .int .u64 (FW t 1 : Int), .int .u64 (FW t 2 : Int), .int .u64 (FW t 3 : Int), .int .u64 (OW t 0 : Int), .int .u64 (OW t 1 : Int), .int .u64 (OW t 2 : Int), .int .u64 (OW t 3 : Int)] 34)).cell? ⟨b, o, none⟩ := fun b o h => hB.cell (p := ⟨b, o, none⟩) h
      have hks : k < s.size := by rw [HS.out]; exact hlt
      have i0 : (0 : Int) ≤ (k : Int) := by omega
      have i1 : (k : Int) < (s.size : Int) := by omega
      obtain ⟨p1, n1⟩ : ∃ p, ((s[k].toNat : Int) != 48) = p := ⟨_, rfl⟩
      obtain ⟨p2, n2⟩ : ∃ p, ((s[k].toNat : Int) != 49) = p := ⟨_, rfl⟩
      obtain ⟨p3, n3⟩ : ∃ p, ((t[k].toNat : Int) != 120) = p := ⟨_, rfl⟩
      obtain ⟨p4, n4⟩ : ∃ p, ((t[k].toNat : Int) != (s[k].toNat : Int)) = p := ⟨_, rfl⟩
      have hH : Hid (okH t s.data.toList k = !((p1 && p2) || (p3 && p4))) := okH_eq t s k hlt hks p1 p2 p3 p4 n1 n2 n3 n4
      go_wp2
      have hS : ∀ j, wr.cell? ⟨w.heap.size, j, none⟩ = (#[.int .i64 (t.length : Int), .int .u64 (FW t 0 : Int), .int .u64 (FW t 1 : Int), .int .u64 (FW t 2 : Int), .int .u64 (FW t 3 : Int), .int .u64 (OW t 0 : Int), .int .u64 (OW t 1 : Int), .int .u64 (OW t 2 : Int), .int .u64 (OW t 3 : Int)] : Array Value)[j]? := fun j => by rw [hc _ _ (by omega)]; simp
      go_region_held3 (fun W => ∀ j, W.cell? ⟨w.heap.size, j, none⟩ = (#[.int .i64 (t.length : Int), .int .u64 (FW t 0 : Int), .int .u64 (FW t 1 : Int), .int .u64 (FW t 2 : Int), .int .u64 (FW t 3 : Int), .int .u64 (OW t 0 : Int), .int .u64 (OW t 1 : Int), .int .u64 (OW t 2 : Int), .int .u64 (OW t 3 : Int)] : Array Value)[j]?) (first | exact hS | (intro j; exact (hb2.cell (p := ⟨w.heap.size, j, none⟩) (by simp; omega)).trans (hS j))) (first | (go_at_call 53; refine (at_any t _ k _ hg rfl hlt).mono ?_; rintro e w2 ⟨rfl, hb2⟩))
      all_goals
        have hB2 := hB.trans ((undrew hb2).mono hsz1)
        clear hS hc hb2 hB
        cases p1 <;> cases p2 <;> cases p3 <;> cases p4
        all_goals
          go_wp2
          first
            | (have hF : okH t s.data.toList k = false := hH.out
               have hF2 := allTo_false (n := t.length) k hlt hF
               go_ret
               refine ⟨?_, ((Below.refl _ _).alloc (Nat.le_refl _) _).trans (hB2.mono (by omega))⟩
               rw [hF2]
               rfl)
            | (have hF : okH t s.data.toList k = true := hH.out
               have hF2 := okH_succ hok.out hF
               go_roundw
               case rel => exact ⟨k + 1, by omega, by go_num, hF2, hB2⟩
               case measure => simp [intOf]; omega)
    · have hkn : k = t.length := by omega
      have hA : Hid (allTo (okH t s.data.toList) t.length = true) := (allTo_iff _ _).2 (fun j hj => hok.out j (by omega))
      clear hok
      go_wp2
      go_ret
      exact ⟨by rw [hA.out]; rfl, ((Below.refl _ _).alloc (Nat.le_refl _) _).trans (hB.mono (by omega))⟩

theorem has_any (t : List UInt8) (s : ByteArray) (w : World) (hg : good t = true) (hs : s.size ≤ maxLen) :
    Calls Tryz.prog 51 #[cubeV t, .string s] w fun e w' => e = .returned (.bool (hasB t s.data.toList)) ∧ Below w.heap.size w w' := by
  have hlen : s.data.toList.length = s.size := by simp
  unfold hasB
  by_cases h : t.length = 0 ∨ s.size ≠ t.length
  · have e : (!t.isEmpty && (t.length == s.data.toList.length)) = false := by
      rw [hlen]
      rcases h with h | h
      · have : t = [] := List.eq_nil_of_length_eq_zero h
        subst this; rfl
      · have : (t.length == s.size) = false := by simp; omega
        rw [this]; simp
    rw [e]
    exact has_off t s w hs h
  · have e : (!t.isEmpty && (t.length == s.data.toList.length)) = true := by
      rw [hlen]
      cases t with
      | nil => simp at h
      | cons x l => simp at h ⊢; omega
    rw [e, Bool.true_and]
    exact has_loop t s w hg (by omega) (by omega)
theorem has_D (t : List UInt8) (s : ByteArray) (q : Bool) (w : World) (hg : good t = true) (hs : s.size ≤ maxLen) (h : hasB t s.data.toList = q) :
    Calls Tryz.prog 51 #[cubeV t, .string s] w fun e w' => e = .returned (.bool q) ∧ Below w.heap.size w w' := by
  subst h; exact has_any t s w hg hs
end Go.Proofs.YtekjbpemaohipaaGreatDoor
namespace Go.Proofs.YtekjbpemaohipaaGreatDoor
open Go.RowKit
/-- a header is in a term -/
def thB (c : List UInt8) (L : List (List UInt8)) (h : List UInt8) : Bool := hasB c h && L.all (fun m => !hasB m h)
set_option maxRecDepth 100000 in
set_option maxHeartbeats 4000000 in
theorem thas_any (zc : List UInt8) (zq : Option Addr) (zk : Nat) (zL : List (List UInt8)) (s : ByteArray) (w : World) (hz : IRC w zq zL) (gc : good zc = true) (gL : ∀ x ∈ zL, good x = true) (hzl : zL.length ≤ 1000000) (hs : s.size ≤ maxLen) : Calls Tryz.prog 34 #[.agg #[.int .i64 (zc.length : Int), .int .u64 (FW zc 0 : Int), .int .u64 (FW zc 1 : Int), .int .u64 (FW zc 2 : Int), .int .u64 (FW zc 3 : Int), .int .u64 (OW zc 0 : Int), .int .u64 (OW zc 1 : Int), .int .u64 (OW zc 2 : Int), .int .u64 (OW zc 3 : Int), .slice zq zL.length zk], .string s] w fun e w' => e = .returned (.bool (thB zc zL s.data.toList)) ∧ Below w.heap.size w w' := by
  obtain ⟨w2, hw2⟩ : ∃ w2, w.alloc (.cells #[.int .i64 (zc.length : Int), .int .u64 (FW zc 0 : Int), .int .u64 (FW zc 1 : Int), .int .u64 (FW zc 2 : Int), .int .u64 (FW zc 3 : Int), .int .u64 (OW zc 0 : Int), .int .u64 (OW zc 1 : Int), .int .u64 (OW zc 2 : Int), .int .u64 (OW zc 3 : Int), .slice zq zL.length zk] 62 (0, 0)) = w2 := ⟨_, rfl⟩
  have ha : w2.heap[w.heap.size]? = some (.cells #[.int .i64 (zc.length : Int), .int .u64 (FW zc 0 : Int), .int .u64 (FW zc 1 : Int), .int .u64 (FW zc 2 : Int), .int .u64 (FW zc 3 : Int), .int .u64 (OW zc 0 : Int), .int .u64 (OW zc 1 : Int), .int .u64 (OW zc 2 : Int), .int .u64 (OW zc 3 : Int), .slice zq zL.length zk] 62 (0, 0)) := by rw [← hw2]; exact alloc_get _ _
  have hB : Below w.heap.size w w2 := by rw [← hw2]; exact belA (Below.refl _ _) _
  have HA : Hid (w2.heap[w.heap.size]? = some (.cells #[.int .i64 (zc.length : Int), .int .u64 (FW zc 0 : Int), .int .u64 (FW zc 1 : Int), .int .u64 (FW zc 2 : Int), .int .u64 (FW zc 3 : Int), .int .u64 (OW zc 0 : Int), .int .u64 (OW zc 1 : Int), .int .u64 (OW zc 2 : Int), .int .u64 (OW zc 3 : Int), .slice zq zL.length zk] 62 (0, 0)) ∧ Below w.heap.size w w2) := ⟨ha, hB⟩
  have HU : Hid (IRC w zq zL ∧ ∀ x ∈ zL, good x = true) := ⟨hz, gL⟩
  have HS : Hid (s.size ≤ maxLen) := hs
  obtain ⟨hca, -⟩ := cells_block ha
  obtain ⟨P, hP⟩ : ∃ P : List UInt8 → Bool, (fun m => !hasB m s.data.toList) = P := ⟨_, rfl⟩
  have HP : Hid (∀ m, P m = !hasB m s.data.toList) := fun n => by rw [← hP]
  have HCV : Hid (thB zc zL s.data.toList = (hasB zc s.data.toList && zL.all P)) := by unfold Hid thB; rw [hP]
  have H1 : Hid (Calls Tryz.prog 51 #[.agg #[.int .i64 (zc.length : Int), .int .u64 (FW zc 0 : Int), .int .u64 (FW zc 1 : Int), .int .u64 (FW zc 2 : Int), .int .u64 (FW zc 3 : Int), .int .u64 (OW zc 0 : Int), .int .u64 (OW zc 1 : Int), .int .u64 (OW zc 2 : Int), .int .u64 (OW zc 3 : Int)], .string s] w2 fun e w' => e = .returned (.bool (hasB zc s.data.toList)) ∧ Below w2.heap.size w2 w') := has_any zc s w2 gc hs
  clear ha hB hz gc gL hs hP
  cases hw : hasB zc s.data.toList with
  | false =>
    rw [hw] at H1 HCV
    clear hw
    go_enter Tryz.func34, Tryz.ntmps34
    go_wp2_with fail
    refine H1.out.mono ?_
    rintro e W1 ⟨rfl, hb1⟩
    go_wp2_with fail
    go_ret
    exact ⟨by rw [HCV.out]; rfl, bel0 HA.out.2 hb1⟩
  | true =>
    rw [hw] at H1 HCV
    clear hw
    go_enter Tryz.func34, Tryz.ntmps34
    go_wp2_with fail
    refine H1.out.mono ?_
    rintro e W1 ⟨rfl, hb1⟩
    obtain ⟨hcb1, -⟩ := cells_block (keepblk3 hb1 HA.out.1)
    have HB1 : Hid (Below w2.heap.size w2 W1) := hb1
    clear hca hw2 hb1
    go_wp2_with fail
    clear hcb1
    go_loopw [15] (fun vi wr => ∃ j : Nat, vi = .int .i64 j ∧ j ≤ zL.length ∧ Hid (∀ i t, i < j → zL[i]? = some t → P t = true) ∧ Below w2.heap.size w2 wr) (fun vi _ => zL.length - (intOf vi).toNat)
    case atStart => exact ⟨0, rfl, Nat.zero_le _, fun i t hi => by omega, HB1.out⟩
    case round =>
      clear HB1
      obtain ⟨j, rfl, hj, hok, hBj⟩ := hrel
      by_cases hlt : j < zL.length
      · have j1 : (j : Int) < (zL.length : Int) := by omega
        have j0 : (0 : Int) ≤ (j : Int) := by omega
        obtain ⟨t, ht⟩ : ∃ t, zL[j]? = some t := ⟨_, List.getElem?_eq_getElem hlt⟩
        obtain ⟨g, o0, rfl, p0, p1, p2, p3, p4, p5, p6, p7, p8⟩ := HU.out.1 wr (bel0 HA.out.2 hBj) j t ht
        have gt := HU.out.2 t (List.mem_of_getElem? ht)
        obtain ⟨wa, hwa⟩ : ∃ wa, wr.alloc (.cells #[.int .i64 (t.length : Int), .int .u64 (FW t 0 : Int), .int .u64 (FW t 1 : Int), .int .u64 (FW t 2 : Int), .int .u64 (FW t 3 : Int), .int .u64 (OW t 0 : Int), .int .u64 (OW t 1 : Int), .int .u64 (OW t 2 : Int), .int .u64 (OW t 3 : Int)] 34 (0, 0)) = wa := ⟨_, rfl⟩
        have hal : Below wr.heap.size wr wa := by rw [← hwa]; exact belA (Below.refl _ _) _
        have hgt : wa.heap[wr.heap.size]? = some (.cells #[.int .i64 (t.length : Int), .int .u64 (FW t 0 : Int), .int .u64 (FW t 1 : Int), .int .u64 (FW t 2 : Int), .int .u64 (FW t 3 : Int), .int .u64 (OW t 0 : Int), .int .u64 (OW t 1 : Int), .int .u64 (OW t 2 : Int), .int .u64 (OW t 3 : Int)] 34 (0, 0)) := by rw [← hwa]; exact alloc_get _ _
        obtain ⟨hct, -⟩ := cells_block hgt
        have hBa : Below w2.heap.size w2 wa := bel0 hBj hal
        have HT : Hid (zL[j]? = some t) := ht
        obtain ⟨q, hq⟩ : ∃ q, hasB t s.data.toList = q := ⟨_, rfl⟩
        have HPt : Hid (P t = !q) := by unfold Hid; rw [HP.out, hq]
        have H2 : Hid (Calls Tryz.prog 51 #[.agg #[.int .i64 (t.length : Int), .int .u64 (FW t 0 : Int), .int .u64 (FW t 1 : Int), .int .u64 (FW t 2 : Int), .int .u64 (FW t 3 : Int), .int .u64 (OW t 0 : Int), .int .u64 (OW t 1 : Int), .int .u64 (OW t 2 : Int), .int .u64 (OW t 3 : Int)], .string s] wa fun e w' => e = .returned (.bool q) ∧ Below wa.heap.size wa w') := has_D t s q wa gt HS.out hq
        clear ht gt hgt hal hq
        cases q with
        | true =>
          have HX : Hid (zL.all P = false) := all_fail HT.out (by rw [HPt.out]; rfl)
          go_wp2_with fail
          refine H2.out.mono ?_
          rintro e W5 ⟨rfl, hb5⟩
          clear hct hwa p0 p1 p2 p3 p4 p5 p6 p7 p8
          go_wp2_with fail
          go_ret
          exact ⟨by rw [HCV.out, HX.out]; rfl, bel0 HA.out.2 (bel0 hBa hb5)⟩
        | false =>
          have HX : Hid (∀ i t, i < j + 1 → zL[i]? = some t → P t = true) := fun i v hi hv => by
            by_cases e : i = j
            · subst e
              rw [HT.out] at hv
              obtain rfl := Option.some.inj hv
              rw [HPt.out]; rfl
            · exact hok.out i v (by omega) hv
          go_wp2_with fail
          refine H2.out.mono ?_
          rintro e W5 ⟨rfl, hb5⟩
          clear hct hwa p0 p1 p2 p3 p4 p5 p6 p7 p8
          go_wp2_with fail
          go_roundw
          case rel => exact ⟨j + 1, by go_num, by omega, HX, bel0 hBa hb5⟩
          case measure => simp [intOf]; omega
      · have j1 : ¬ (j : Int) < (zL.length : Int) := by omega
        have HX : Hid (zL.all P = true) := all_step hok.out (by omega)
        clear hok
        go_wp2_with fail
        go_ret
        exact ⟨by rw [HCV.out, HX.out]; rfl, bel0 HA.out.2 hBj⟩
end Go.Proofs.YtekjbpemaohipaaGreatDoor
namespace Go.Proofs.YtekjbpemaohipaaGreatDoor
open Go.RowKit
/-- a header is in one of the terms -/
def hsB (Ts : List (List UInt8 × List (List UInt8))) (h : List UInt8) : Bool := Ts.any (fun t => thB t.1 t.2 h)
theorem any_noV {α : Type} {L : List α} {p : α → Bool} {n : Nat} (hn : L.length ≤ n) (h : ∀ j t, j < n → L[j]? = some t → p t = false) : L.any p = false := by
  rw [List.any_eq_false]
  intro t ht
  obtain ⟨j, hj, he⟩ := List.getElem_of_mem ht
  rw [h j t (by omega) (by rw [List.getElem?_eq_getElem hj, he])]
  simp
set_option maxRecDepth 100000 in
set_option maxHeartbeats 4000000 in
theorem sHas_any (b : Int) (V : Value) (Ts : List (List UInt8 × List (List UInt8))) (B : Nat) (s : ByteArray) (w : World) (h : SPL w B V Ts) (hg : ∀ t ∈ Ts, good t.1 = true ∧ ∀ x ∈ t.2, good x = true) (hl : Ts.length ≤ 1000000) (hll : ∀ t ∈ Ts, t.2.length ≤ 1000000) (hs : s.size ≤ maxLen) : Calls Tryz.prog 13 #[.agg #[.int .i64 b, V, .bool false], .string s] w fun e w' => e = .returned (.bool (hsB Ts s.data.toList)) ∧ Below w.heap.size w w' := by
  obtain ⟨Z, rfl, h2, h3⟩ := h
  obtain ⟨p, c, rfl⟩ := shapeQ1 h2
  rw [List.length_map] at hl
  obtain ⟨w2, hw2⟩ : ∃ w2, w.alloc (.cells #[.int .i64 b, .slice p Z.length c, .bool false] 26 (0, 0)) = w2 := ⟨_, rfl⟩
  have h0 : w2.heap[w.heap.size]? = some (.cells #[.int .i64 b, .slice p Z.length c, .bool false] 26 (0, 0)) := by rw [← hw2]; exact alloc_get _ _
  have hB : Below w.heap.size w w2 := by rw [← hw2]; exact belA (Below.refl _ _) _
  obtain ⟨hc0, -⟩ := cells_block h0
  have HR : Hid (IRZ w p Z) := IRZ_own h2 rfl
  have HZ : Hid (∀ z ∈ Z, IRC w z.q z.L ∧ (good z.c = true ∧ ∀ x ∈ z.L, good x = true) ∧ z.L.length ≤ 1000000) := fun z hz => ⟨IRC_own (h3 z hz) rfl, hg z.cont (List.mem_map_of_mem (f := ZT.cont) hz), hll z.cont (List.mem_map_of_mem (f := ZT.cont) hz)⟩
  have HS : Hid (s.size ≤ maxLen) := hs
  obtain ⟨P, hP⟩ : ∃ P : ZT → Bool, (fun z => thB z.c z.L s.data.toList) = P := ⟨_, rfl⟩
  have HP : Hid (∀ z, P z = thB z.c z.L s.data.toList) := fun n => by rw [← hP]
  have HCV : Hid (hsB (Z.map ZT.cont) s.data.toList = Z.any P) := by
    unfold Hid hsB
    rw [List.any_map, ← hP]
    rfl
  have HBB : Hid (Below w.heap.size w w2) := hB
  obtain ⟨n, hn⟩ : ∃ n, Z.length = n := ⟨_, rfl⟩
  rw [hn] at hc0 hw2 hl ⊢
  have HN : Hid (Z.length = n) := hn
  clear h0 hB h2 h3 hg hll hs hP hn
  go_enter Tryz.func13, Tryz.ntmps13
  go_wp2_with fail
  clear hc0 hw2
  go_loopw [10] (fun vi wr => ∃ j : Nat, vi = .int .i64 j ∧ j ≤ n ∧ Hid (∀ i t, i < j → Z[i]? = some t → P t = false) ∧ Below w2.heap.size w2 wr) (fun vi _ => n - (intOf vi).toNat)
  case atStart => exact ⟨0, rfl, Nat.zero_le _, fun i t hi => by omega, Below.refl _ _⟩
  case round =>
    obtain ⟨j, rfl, hj, hok, hBj⟩ := hrel
    by_cases hlt : j < n
    · have j1 : (j : Int) < (n : Int) := by omega
      have j0 : (0 : Int) ≤ (j : Int) := by omega
      obtain ⟨z, hz⟩ : ∃ z, Z[j]? = some z := ⟨_, List.getElem?_eq_getElem (by rw [HN.out]; exact hlt)⟩
      obtain ⟨zc, zq, zk, zL⟩ := z
      obtain ⟨g, o0, rfl, p0, p1, p2, p3, p4, p5, p6, p7, p8, p9⟩ := HR.out wr (bel0 HBB.out hBj) j _ hz
      simp only at p0 p1 p2 p3 p4 p5 p6 p7 p8 p9
      have hZ := HZ.out _ (List.mem_of_getElem? hz)
      obtain ⟨wa, hwa⟩ : ∃ wa, wr.alloc (.cells #[.int .i64 (zc.length : Int), .int .u64 (FW zc 0 : Int), .int .u64 (FW zc 1 : Int), .int .u64 (FW zc 2 : Int), .int .u64 (FW zc 3 : Int), .int .u64 (OW zc 0 : Int), .int .u64 (OW zc 1 : Int), .int .u64 (OW zc 2 : Int), .int .u64 (OW zc 3 : Int), .slice zq zL.length zk] 62 (0, 0)) = wa := ⟨_, rfl⟩
      have hal : Below wr.heap.size wr wa := by rw [← hwa]; exact belA (Below.refl _ _) _
      have hgt : wa.heap[wr.heap.size]? = some (.cells #[.int .i64 (zc.length : Int), .int .u64 (FW zc 0 : Int), .int .u64 (FW zc 1 : Int), .int .u64 (FW zc 2 : Int), .int .u64 (FW zc 3 : Int), .int .u64 (OW zc 0 : Int), .int .u64 (OW zc 1 : Int), .int .u64 (OW zc 2 : Int), .int .u64 (OW zc 3 : Int), .slice zq zL.length zk] 62 (0, 0)) := by rw [← hwa]; exact alloc_get _ _
      obtain ⟨hct, -⟩ := cells_block hgt
      have hBa : Below w2.heap.size w2 wa := bel0 hBj hal
      have HT : Hid (Z[j]? = some ⟨zc, zq, zk, zL⟩) := hz
      obtain ⟨q, hq⟩ : ∃ q, thB zc zL s.data.toList = q := ⟨_, rfl⟩
      have HPt : Hid (P ⟨zc, zq, zk, zL⟩ = q) := by unfold Hid; rw [HP.out, hq]
      have H2 : Hid (Calls Tryz.prog 34 #[.agg #[.int .i64 (zc.length : Int), .int .u64 (FW zc 0 : Int), .int .u64 (FW zc 1 : Int), .int .u64 (FW zc 2 : Int), .int .u64 (FW zc 3 : Int), .int .u64 (OW zc 0 : Int), .int .u64 (OW zc 1 : Int), .int .u64 (OW zc 2 : Int), .int .u64 (OW zc 3 : Int), .slice zq zL.length zk], .string s] wa fun e w' => e = .returned (.bool q) ∧ Below wa.heap.size wa w') := by
        unfold Hid
        rw [← hq]
        exact thas_any zc zq zk zL s wa (hZ.1.later (bel0 HBB.out hBa)) hZ.2.1.1 hZ.2.1.2 hZ.2.2 HS.out
      clear hz hgt hal hq hZ
      cases q with
      | true =>
        have HX : Hid (Z.any P = true) := List.any_eq_true.2 ⟨_, List.mem_of_getElem? HT.out, HPt.out⟩
        go_wp2_with fail
        refine H2.out.mono ?_
        rintro e W5 ⟨rfl, hb5⟩
        clear hct hwa p0 p1 p2 p3 p4 p5 p6 p7 p8 p9
        go_wp2_with fail
        go_ret
        exact ⟨by rw [HCV.out, HX.out]; rfl, bel0 HBB.out (bel0 hBa hb5)⟩
      | false =>
        have HX : Hid (∀ i t, i < j + 1 → Z[i]? = some t → P t = false) := fun i v hi hv => by
          by_cases e : i = j
          · subst e
            rw [HT.out] at hv
            obtain rfl := Option.some.inj hv
            exact HPt.out
          · exact hok.out i v (by omega) hv
        go_wp2_with fail
        refine H2.out.mono ?_
        rintro e W5 ⟨rfl, hb5⟩
        clear hct hwa p0 p1 p2 p3 p4 p5 p6 p7 p8 p9
        go_wp2_with fail
        go_roundw
        case rel => exact ⟨j + 1, by go_num, by omega, HX, bel0 hBa hb5⟩
        case measure => simp [intOf]; omega
    · have j1 : ¬ (j : Int) < (n : Int) := by omega
      have HX : Hid (Z.any P = false) := any_noV (n := j) (by rw [HN.out]; omega) hok.out
      clear hok
      go_wp2_with fail
      go_ret
      exact ⟨by rw [HCV.out, HX.out]; rfl, bel0 HBB.out hBj⟩
end Go.Proofs.YtekjbpemaohipaaGreatDoor
namespace Go.Proofs.YtekjbpemaohipaaGreatDoor
open Go.RowKit Go.Shelf
def digB (d : UInt8) : Bool := d == 48 || d == 49
/-- a header of that width -/
def hdB (b : Int) (l : List UInt8) : Bool := ((l.length : Int) == b) && !(b == 0) && l.all digB
theorem dig_succ {s : ByteArray} {k : Nat} (hk : k < s.size) (h : ∀ j (h : j < s.data.toList.length), j < k → digB s.data.toList[j] = true) (c : s[k] = 48 ∨ s[k] = 49) : ∀ j (h : j < s.data.toList.length), j < k + 1 → digB s.data.toList[j] = true := by
  intro j hj hlt
  by_cases e : j < k
  · exact h j hj e
  · obtain rfl : j = k := by omega
    have e2 : s.data.toList[j] = s[j] := rfl
    rw [e2]
    unfold digB
    rcases c with c | c <;> rw [c] <;> rfl
end Go.Proofs.YtekjbpemaohipaaGreatDoor
namespace Go.Proofs.YtekjbpemaohipaaGreatDoor
open Go.RowKit Go.Shelf
/-- the document's: a header is in a term -/
def tdB (c : List UInt8) (L : List (List UInt8)) (h : List UInt8) : Bool := wiB h c && L.all (fun m => !wiB h m)
theorem good_hd {b : Int} {l : List UInt8} (h : hdB b l = true) (hb : b ≤ 256) : good l = true := by
  unfold hdB at h
  obtain ⟨h1, h2⟩ := Bool.and_eq_true_iff.1 h
  have h3 : (l.length : Int) = b := by simpa using (Bool.and_eq_true_iff.1 h1).1
  have h4 := List.all_eq_true.1 h2
  unfold good
  rw [Bool.and_eq_true, List.all_eq_true]
  refine ⟨by simp; omega, fun x hx => ?_⟩
  have h5 := h4 x hx
  unfold digB at h5
  unfold tri
  rcases Bool.or_eq_true_iff.1 h5 with h5 | h5 <;> rw [h5] <;> simp
end Go.Proofs.YtekjbpemaohipaaGreatDoor

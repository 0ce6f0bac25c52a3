import Derived.Test.YtmdnapognaddbaaGreatDoorXAZ
import Derived.BigQuiet
import Derived.Deep.RegionHeld3
namespace Go.Proofs.YtmdnapognaddbaaGreatDoor
open Go.RowKit Go.Shelf
theorem ordT_perm (X : List (List UInt8 × List (List UInt8))) : (ordT X).Perm (X.map sof) := by
  unfold ordT
  refine ((srtLn_perm _).map _).trans ?_
  rw [List.map_map]
  exact List.Perm.refl _
theorem szC_perm {A B : List (List UInt8 × List (List UInt8))} (h : A.Perm B) : szC A = szC B := by
  induction h with
  | nil => rfl
  | cons x _ ih => rw [szC, szC, ih]
  | swap x y l => simp only [szC]; omega
  | trans _ _ h1 h2 => exact h1.trans h2
theorem szC_sof (X : List (List UInt8 × List (List UInt8))) : szC (X.map sof) = szC X := by
  induction X with
  | nil => rfl
  | cons x l ih =>
    rw [List.map_cons, szC, szC, ih]
    show 1 + (srtT x.2).length + _ = _
    rw [srtT_len]
theorem szC_ord (X : List (List UInt8 × List (List UInt8))) : szC (ordT X) = szC X := (szC_perm (ordT_perm X)).trans (szC_sof X)
theorem topCF_mem (L : List (List UInt8 × List (List UInt8))) : ∀ (T : List (List UInt8 × List (List UInt8))) (t : List UInt8 × List (List UInt8)), t ∈ L.foldl topCS T → t ∈ T ∨ t ∈ L := by
  induction L with
  | nil => intro T t h; exact .inl h
  | cons x l ih =>
    intro T t h
    rw [List.foldl_cons] at h
    rcases ih _ t h with h | h
    · unfold topCS at h
      split at h
      · exact .inl h
      · rcases List.mem_append.1 h with h | h
        · exact .inl (List.mem_filter.1 h).1
        · obtain rfl := List.mem_singleton.1 h
          exact .inr List.mem_cons_self
    · exact .inr (List.mem_cons_of_mem _ h)
theorem gdC_top {L : List (List UInt8 × List (List UInt8))} (h : gdC L) : gdC (topC L) := fun t ht => by
  rcases topCF_mem L [] t ht with h1 | h1
  · cases h1
  · exact h t h1
theorem gdC_sof {L : List (List UInt8 × List (List UInt8))} (h : gdC L) : gdC (L.map sof) := fun t ht => by
  obtain ⟨x, hx, rfl⟩ := List.mem_map.1 ht
  exact ⟨(h x hx).1, fun y hy => (h x hx).2 y ((srtT_perm x.2).mem_iff.1 hy)⟩
theorem gdC_ord {L : List (List UInt8 × List (List UInt8))} (h : gdC L) : gdC (ordT L) := fun t ht => gdC_sof h t ((ordT_perm L).mem_iff.1 ht)
theorem gdC_stl {L : List (List UInt8 × List (List UInt8))} (h : gdC L) : gdC (stl L) := fun t ht => by
  unfold stl at ht
  obtain ⟨x, hx, he⟩ := List.mem_filterMap.1 ht
  cases hs : setO x.1 x.2 with
  | none => rw [hs] at he; cases he
  | some R =>
    rw [hs] at he
    obtain rfl := Option.some.inj he
    refine ⟨(h x hx).1, fun y hy => ?_⟩
    have h2 := (put_some hs).1
    have h3 : y ∈ putL (lesL x.1 x.2) := by rw [h2]; exact (srtT_perm R).mem_iff.2 hy
    exact lesL_good (h x hx).1 (h x hx).2 y (putL_mem h3)
theorem gdC_tcon {b : Nat} {P : List (List UInt8)} (h : P.all (okT b) = true) : gdC (P.map tcon) := fun t ht => by
  obtain ⟨p, hp, rfl⟩ := List.mem_map.1 ht
  have h1 := List.all_eq_true.1 h p hp
  have hq : ∀ q ∈ prts 45 p, good q = true := fun q hq => by
    have h2 := List.all_eq_true.1 h1 q hq
    rw [okP_cub] at h2
    exact ((cubB_iff q).1 (Bool.and_eq_true_iff.1 h2).1).2
  have hne := prts_ne 45 p
  unfold tcon
  cases hc : prts 45 p with
  | nil => rw [hc] at hne; exact absurd hne (by simp)
  | cons c r =>
    rw [hc] at hq
    exact ⟨hq c List.mem_cons_self, fun x hx => hq x (List.mem_cons_of_mem _ hx)⟩
/-- what Parse gives has good cubes, and not too many -/
theorem prT_ok (b : Int) (l : List UInt8) : gdC (prT b l) ∧ szC (prT b l) ≤ 128 := by
  unfold prT
  split
  · rename_i h0
    split
    · exact ⟨(fun t h => by cases h), Nat.zero_le _⟩
    · rename_i hn
      unfold prE at h0
      split at h0
      · cases h0
      · split at h0
        · cases h0
        · try rw [if_neg hn] at h0
          split at h0
          · cases h0
          · rename_i hall
            split at h0
            · cases h0
            · rename_i hsz
              have hall' : (prts 43 l).all (okT b.toNat) = true := by
                cases h : (prts 43 l).all (okT b.toNat)
                · exact absurd h hall
                · rfl
              refine ⟨gdC_ord (gdC_top (gdC_stl (gdC_tcon hall'))), ?_⟩
              rw [szC_ord]
              have := szC_top ((prts 43 l).map tcon)
              omega
  · exact ⟨(fun t h => by cases h), Nat.zero_le _⟩
end Go.Proofs.YtmdnapognaddbaaGreatDoor
namespace Go.Proofs.YtmdnapognaddbaaGreatDoor
open Go.RowKit Go.Shelf
/-- no two of a list are within one another -/
def apL (L : List (List UInt8)) : Prop := L.Pairwise (fun a b => wiB a b = false ∧ wiB b a = false)
theorem topS_ap {T : List (List UInt8)} {x : List UInt8} (h : apL T) : apL (topS T x) := by
  unfold topS
  split
  · exact h
  · rename_i hn
    refine List.pairwise_append.2 ⟨List.Pairwise.filter _ h, List.pairwise_singleton _ _, fun a ha b hb => ?_⟩
    obtain rfl := List.mem_singleton.1 hb
    have h1 := List.mem_filter.1 ha
    have h2 : wiB a b = false := by simpa using h1.2
    have h3 : wiB b a = false := by
      cases h4 : wiB b a
      · rfl
      · exact absurd (List.any_eq_true.2 ⟨a, h1.1, h4⟩) hn
    exact ⟨h2, h3⟩
theorem topF_ap (L : List (List UInt8)) : ∀ T : List (List UInt8), apL T → apL (L.foldl topS T) := by
  induction L with
  | nil => intro T h; exact h
  | cons x l ih => intro T h; rw [List.foldl_cons]; exact ih _ (topS_ap h)
theorem topL_ap (L : List (List UInt8)) : apL (topL L) := topF_ap L [] List.Pairwise.nil
theorem topF_id (L : List (List UInt8)) : ∀ T : List (List UInt8), apL (T ++ L) → L.foldl topS T = T ++ L := by
  induction L with
  | nil => intro T _; simp
  | cons x l ih =>
    intro T h
    have e : topS T x = T ++ [x] := by
      unfold topS
      have h1 := (List.pairwise_append.1 h).2.2
      have hn : ¬ T.any (fun y => wiB x y) = true := fun hc => by
        obtain ⟨y, hy, hw⟩ := List.any_eq_true.1 hc
        rw [(h1 y hy x List.mem_cons_self).2] at hw
        cases hw
      rw [if_neg hn]
      congr 1
      exact List.filter_eq_self.2 (fun y hy => by rw [(h1 y hy x List.mem_cons_self).1]; rfl)
    rw [List.foldl_cons, e, ih (T ++ [x]) (by simpa using h)]
    simp
theorem topL_id {L : List (List UInt8)} (h : apL L) : topL L = L := topF_id L [] h
/-- no two of a list of terms cover one another -/
def apC (L : List (List UInt8 × List (List UInt8))) : Prop := L.Pairwise (fun a b => cvC a b = false ∧ cvC b a = false)
theorem topCS_ap {T : List (List UInt8 × List (List UInt8))} {x : List UInt8 × List (List UInt8)} (h : apC T) : apC (topCS T x) := by
  unfold topCS
  split
  · exact h
  · rename_i hn
    refine List.pairwise_append.2 ⟨List.Pairwise.filter _ h, List.pairwise_singleton _ _, fun a ha b hb => ?_⟩
    obtain rfl := List.mem_singleton.1 hb
    have h1 := List.mem_filter.1 ha
    have h2 : cvC a b = false := by simpa using h1.2
    have h3 : cvC b a = false := by
      cases h4 : cvC b a
      · rfl
      · exact absurd (List.any_eq_true.2 ⟨a, h1.1, h4⟩) hn
    exact ⟨h2, h3⟩
theorem topCF_ap (L : List (List UInt8 × List (List UInt8))) : ∀ T : List (List UInt8 × List (List UInt8)), apC T → apC (L.foldl topCS T) := by
  induction L with
  | nil => intro T h; exact h
  | cons x l ih => intro T h; rw [List.foldl_cons]; exact ih _ (topCS_ap h)
theorem topC_ap (L : List (List UInt8 × List (List UInt8))) : apC (topC L) := topCF_ap L [] List.Pairwise.nil
theorem topCF_id (L : List (List UInt8 × List (List UInt8))) : ∀ T : List (List UInt8 × List (List UInt8)), apC (T ++ L) → L.foldl topCS T = T ++ L := by
  induction L with
  | nil => intro T _; simp
  | cons x l ih =>
    intro T h
    have e : topCS T x = T ++ [x] := by
      unfold topCS
      have h1 := (List.pairwise_append.1 h).2.2
      have hn : ¬ T.any (fun y => cvC x y) = true := fun hc => by
        obtain ⟨y, hy, hw⟩ := List.any_eq_true.1 hc
        rw [(h1 y hy x List.mem_cons_self).2] at hw
        cases hw
      rw [if_neg hn]
      congr 1
      exact List.filter_eq_self.2 (fun y hy => by rw [(h1 y hy x List.mem_cons_self).1]; rfl)
    rw [List.foldl_cons, e, ih (T ++ [x]) (by simpa using h)]
    simp
theorem topC_id {L : List (List UInt8 × List (List UInt8))} (h : apC L) : topC L = L := topCF_id L [] h
theorem apC_ord (L : List (List UInt8 × List (List UInt8))) (h : apC L) : apC (ordT L) := by
  have h1 : apC (L.map sof) := by
    refine List.pairwise_map.2 (List.Pairwise.imp (fun {a b} hab => ?_) h)
    rw [cvC_sof, cvC_sof]
    exact hab
  exact List.Perm.pairwise (ordT_perm L).symm h1 (fun {x y} hxy => ⟨hxy.2, hxy.1⟩)
theorem les_id {c : List UInt8} (gc : good c = true) : ∀ R : List (List UInt8), (∀ m ∈ R, good m = true) → (∀ m ∈ R, wiB m c = true) → lesL c R = R
  | [], _, _ => rfl
  | m :: l, gR, h => by
    have h1 := wi_eq m c (gR m List.mem_cons_self) gc
    rw [h m List.mem_cons_self] at h1
    obtain ⟨h2, h3⟩ := Bool.and_eq_true_iff.1 h1
    have h4 : mtT m c = m := by simpa using h3
    have ih := les_id gc l (fun x hx => gR x (List.mem_cons_of_mem _ hx)) (fun x hx => h x (List.mem_cons_of_mem _ hx))
    unfold lesL at ih ⊢
    rw [List.filterMap_cons, if_pos h2, h4, ih]
/-- a term in its form -/
structure FTm (t : List UInt8 × List (List UInt8)) : Prop where
  gc : good t.1 = true
  gl : ∀ m ∈ t.2, good m = true
  wi : ∀ m ∈ t.2, wiB m t.1 = true
  ne : t.1 ∉ t.2
  ap : apL t.2
  so : t.2.Pairwise (fun a b => leB a b = true)
theorem FTm.set {t : List UInt8 × List (List UInt8)} (h : FTm t) : setO t.1 t.2 = some t.2 := by
  unfold setO
  rw [les_id h.gc t.2 h.gl h.wi, topL_id h.ap]
  refine if_neg (fun hc => ?_)
  obtain ⟨y, hy, he⟩ := List.any_eq_true.1 hc
  obtain rfl : y = t.1 := by simpa using he
  exact h.ne hy
theorem stl_id : ∀ X : List (List UInt8 × List (List UInt8)), (∀ t ∈ X, FTm t) → stl X = X
  | [], _ => rfl
  | t :: l, h => by
    have ih := stl_id l (fun x hx => h x (List.mem_cons_of_mem _ hx))
    unfold stl at ih ⊢
    rw [List.filterMap_cons, (h t List.mem_cons_self).set, ih]
    rfl
theorem FTm_stl {Y : List (List UInt8 × List (List UInt8))} (g : gdC Y) : ∀ t ∈ (stl Y).map sof, FTm t ∧ ∃ y ∈ Y, y.1 = t.1 := fun t ht => by
  obtain ⟨u, hu, rfl⟩ := List.mem_map.1 ht
  have hgu := gdC_stl g u hu
  unfold stl at hu
  obtain ⟨x, hx, he⟩ := List.mem_filterMap.1 hu
  cases hs : setO x.1 x.2 with
  | none => rw [hs] at he; cases he
  | some R =>
    rw [hs] at he
    obtain rfl := Option.some.inj he
    have h2 := put_some hs
    have hR : R = topL (lesL x.1 x.2) := by
      unfold setO at hs
      split at hs
      · cases hs
      · exact (Option.some.inj hs).symm
    refine ⟨⟨hgu.1, fun m hm => hgu.2 m ((srtT_perm R).mem_iff.1 hm), fun m hm => ?_, h2.2, ?_, srtT_sorted R⟩, x, hx, rfl⟩
    · have h3 : m ∈ putL (lesL x.1 x.2) := by rw [h2.1]; exact hm
      exact lesL_within (g x hx).1 (g x hx).2 m (putL_mem h3)
    · exact List.Perm.pairwise (srtT_perm R).symm (hR ▸ topL_ap _) (fun {x y} hxy => ⟨hxy.2, hxy.1⟩)
theorem FTm_form {Y : List (List UInt8 × List (List UInt8))} (g : gdC Y) : ∀ t ∈ ordT (topC (stl Y)), FTm t ∧ ∃ y ∈ Y, y.1 = t.1 := fun t ht => by
  have h1 := (ordT_perm (topC (stl Y))).mem_iff.1 ht
  obtain ⟨u, hu, rfl⟩ := List.mem_map.1 h1
  rcases topCF_mem (stl Y) [] u hu with h2 | h2
  · cases h2
  · exact FTm_stl g _ (List.mem_map_of_mem h2)
theorem srtT_id {l : List (List UInt8)} (h : l.Pairwise (fun a b => leB a b = true)) : srtT l = l := (srt_eq (List.Perm.refl l) h).symm
theorem ordT_id (Z : List (List UInt8 × List (List UInt8))) : ordT (ordT Z) = ordT Z := by
  have hL : ∀ S ∈ srtLn (Z.map (fun t => t.1 :: srtT t.2)), S.headD [] :: srtT S.tail = S := fun S hS => by
    obtain ⟨t, _, rfl⟩ := List.mem_map.1 ((srtLn_perm _).mem_iff.1 hS)
    show t.1 :: srtT (srtT t.2) = _
    rw [srtT_id (srtT_sorted _)]
  have hs : (srtLn (Z.map (fun t => t.1 :: srtT t.2))).Pairwise (fun a b => leLn a b = true) := List.pairwise_mergeSort leLn_trans leLn_total _
  have e : (ordT Z).map (fun t => t.1 :: srtT t.2) = srtLn (Z.map (fun t => t.1 :: srtT t.2)) := by
    unfold ordT
    rw [List.map_map]
    exact (List.map_congr_left (fun S hS => hL S hS)).trans (List.map_id _)
  have e2 : ordT (ordT Z) = (srtLn ((ordT Z).map (fun t => t.1 :: srtT t.2))).map (fun S => (S.headD [], S.tail)) := rfl
  rw [e2, e, ← srtLn_eq (List.Perm.refl _) hs]
  rfl
/-- the form of a form is itself -/
theorem form_id {Y : List (List UInt8 × List (List UInt8))} (g : gdC Y) : ordT (topC (stl (ordT (topC (stl Y))))) = ordT (topC (stl Y)) := by
  rw [stl_id _ (fun t ht => (FTm_form g t ht).1), topC_id (apC_ord _ (topC_ap _)), ordT_id]
theorem idxM_no {s : UInt8} : ∀ {r : List UInt8}, s ∉ r → Lib.indexByte r s = -1
  | [], _ => rfl
  | x :: l, h => by
    have h1 : x ≠ s := fun e => h (by rw [e]; exact List.mem_cons_self)
    have h2 := idxM_no (r := l) (fun hc => h (List.mem_cons_of_mem _ hc))
    simp [Lib.indexByte, h1, h2]
theorem idxM_mid {s : UInt8} (r : List UInt8) : ∀ {p : List UInt8}, s ∉ p → Lib.indexByte (p ++ s :: r) s = (p.length : Int)
  | [], _ => by simp [Lib.indexByte]
  | x :: l, h => by
    have h1 : x ≠ s := fun e => h (by rw [e]; exact List.mem_cons_self)
    have h2 := idxM_mid r (p := l) (fun hc => h (List.mem_cons_of_mem _ hc))
    rw [List.cons_append, Lib.indexByte, h2, if_neg (by simpa using h1), if_neg (by simp)]
    rw [List.length_cons]
    omega
theorem prts_join (s : UInt8) : ∀ (L : List (List UInt8)) (c : List UInt8), s ∉ c → (∀ x ∈ L, s ∉ x) → prts s (c ++ L.flatMap (fun x => s :: x)) = c :: L
  | [], c, hc, _ => by
    rw [List.flatMap_nil, List.append_nil]
    exact prts_neg (by rw [idxM_no hc]; decide)
  | x :: l, c, hc, h => by
    have ih := prts_join s l x (h x List.mem_cons_self) (fun y hy => h y (List.mem_cons_of_mem _ hy))
    have e : c ++ (x :: l).flatMap (fun x => s :: x) = c ++ s :: (x ++ l.flatMap (fun x => s :: x)) := by rw [List.flatMap_cons]; rfl
    rw [e, prts_pos (idxM_mid _ hc), List.take_left, List.drop_append, List.drop_eq_nil_of_le (by omega)]
    rw [show c.length + 1 - c.length = 1 by omega]
    show c :: prts s (x ++ l.flatMap (fun x => s :: x)) = _
    rw [ih]
theorem tri_no {x : UInt8} (h : tri x = true) : x ≠ 43 ∧ x ≠ 45 ∧ x ≠ 110 := by
  refine ⟨fun e => ?_, fun e => ?_, fun e => ?_⟩ <;> subst e <;> revert h <;> decide
theorem good_no {t : List UInt8} (h : good t = true) : (43 : UInt8) ∉ t ∧ (45 : UInt8) ∉ t ∧ (110 : UInt8) ∉ t := by
  have h1 := List.all_eq_true.1 (Bool.and_eq_true_iff.1 h).2
  exact ⟨fun hc => (tri_no (h1 _ hc)).1 rfl, fun hc => (tri_no (h1 _ hc)).2.1 rfl, fun hc => (tri_no (h1 _ hc)).2.2 rfl⟩
theorem prts_txT {t : List UInt8 × List (List UInt8)} (gc : good t.1 = true) (gl : ∀ m ∈ t.2, good m = true) : prts 45 (txT t) = t.1 :: t.2 :=
  prts_join 45 t.2 t.1 (good_no gc).2.1 (fun x hx => (good_no (gl x hx)).2.1)
theorem tcon_txT {t : List UInt8 × List (List UInt8)} (gc : good t.1 = true) (gl : ∀ m ∈ t.2, good m = true) : tcon (txT t) = t := by
  unfold tcon; rw [prts_txT gc gl]; rfl
theorem txT_no43 {t : List UInt8 × List (List UInt8)} (gc : good t.1 = true) (gl : ∀ m ∈ t.2, good m = true) : (43 : UInt8) ∉ txT t := by
  unfold txT txL
  intro hc
  rcases List.mem_append.1 hc with h | h
  · exact (good_no gc).1 h
  · obtain ⟨m, hm, h⟩ := List.mem_flatMap.1 h
    rcases List.mem_cons.1 h with h | h
    · revert h; decide
    · exact (good_no (gl m hm)).1 h
theorem prts_txC {X : List (List UInt8 × List (List UInt8))} (g : gdC X) (hn : X ≠ []) : prts 43 (txC X) = X.map txT := by
  unfold txC
  rw [if_neg hn]
  cases X with
  | nil => exact absurd rfl hn
  | cons t l =>
    have e : jn ((t :: l).map txT) = txT t ++ (l.map txT).flatMap (fun x => 43 :: x) := by simp [jn]
    rw [e, prts_join 43 (l.map txT) (txT t) (txT_no43 (g t List.mem_cons_self).1 (g t List.mem_cons_self).2) (fun x hx => by
      obtain ⟨u, hu, rfl⟩ := List.mem_map.1 hx
      exact txT_no43 (g u (List.mem_cons_of_mem _ hu)).1 (g u (List.mem_cons_of_mem _ hu)).2)]
    rfl
theorem tcon_all {X : List (List UInt8 × List (List UInt8))} (g : gdC X) : (X.map txT).map tcon = X := by
  rw [List.map_map]
  exact (List.map_congr_left (fun t ht => tcon_txT (g t ht).1 (g t ht).2)).trans (List.map_id _)
theorem txM_len : ∀ {L : List (List UInt8)}, (∀ m ∈ L, m.length ≤ 256) → (txL L).length ≤ 257 * L.length
  | [], _ => by simp [txL]
  | x :: l, h => by
    have ih := txM_len (L := l) (fun m hm => h m (List.mem_cons_of_mem _ hm))
    have h1 := h x List.mem_cons_self
    unfold txL at ih ⊢
    rw [List.flatMap_cons, List.length_append, List.length_cons, List.length_cons]
    omega
theorem flatM_len : ∀ {X : List (List UInt8 × List (List UInt8))}, (∀ t ∈ X, t.1.length ≤ 256 ∧ ∀ m ∈ t.2, m.length ≤ 256) → ((X.map txT).flatMap (fun x => 43 :: x)).length ≤ 257 * szC X
  | [], _ => by simp [szC]
  | t :: l, h => by
    have ih := flatM_len (X := l) (fun m hm => h m (List.mem_cons_of_mem _ hm))
    have h1 := (h t List.mem_cons_self).1
    have h2 := txM_len (h t List.mem_cons_self).2
    rw [List.map_cons, List.flatMap_cons, List.length_append, List.length_cons, szC]
    unfold txT at ih ⊢
    rw [List.length_append]
    omega
theorem good_le {t : List UInt8} (h : good t = true) : t.length ≤ 256 := by
  have := (Bool.and_eq_true_iff.1 h).1
  simpa using this
theorem txC_len {X : List (List UInt8 × List (List UInt8))} (g : gdC X) (hs : szC X ≤ 128) : (txC X).length ≤ 33024 := by
  unfold txC
  split
  · simp
  · have h1 := flatM_len (X := X) (fun t ht => ⟨good_le (g t ht).1, fun m hm => good_le ((g t ht).2 m hm)⟩)
    unfold jn
    rw [List.length_drop]
    omega
theorem txC_none {X : List (List UInt8 × List (List UInt8))} (g : gdC X) (hn : X ≠ []) (hl : ∀ t ∈ X, t.1 ≠ []) : txC X ≠ [110, 111, 110, 101] := by
  unfold txC
  rw [if_neg hn]
  cases X with
  | nil => exact absurd rfl hn
  | cons t l =>
    have e : jn ((t :: l).map txT) = txT t ++ (l.map txT).flatMap (fun x => 43 :: x) := by simp [jn]
    rw [e]
    unfold txT
    intro hc
    have h1 := hl t List.mem_cons_self
    have h2 := (good_no (g t List.mem_cons_self).1).2.2
    cases hx : t.1 with
    | nil => exact h1 hx
    | cons x r =>
      rw [hx] at hc h2
      have h3 := congrArg (fun l => l.headD 0) hc
      have h4 : x = 110 := h3
      exact h2 (by rw [h4]; exact List.mem_cons_self)
theorem prE_zero {b : Int} {l : List UInt8} (h0 : prE b l = 0) : 1 ≤ b ∧ b ≤ 256 ∧ (l = [110, 111, 110, 101] ∨ (prts 43 l).all (okT b.toNat) = true) := by
  unfold prE at h0
  by_cases h1 : 33024 < l.length
  · rw [if_pos h1] at h0; exact absurd h0 (by decide)
  · rw [if_neg h1] at h0
    by_cases hb : b < 1 ∨ 256 < b
    · rw [if_pos hb] at h0; exact absurd h0 (by decide)
    · rw [if_neg hb] at h0
      refine ⟨by omega, by omega, ?_⟩
      by_cases hn : l = [110, 111, 110, 101]
      · exact .inl hn
      · rw [if_neg hn] at h0
        cases h : (prts 43 l).all (okT b.toNat)
        · rw [if_pos h] at h0; exact absurd h0 (by decide)
        · exact .inr rfl
/-- the text of what was read is read as the same -/
theorem pr_back (b : Int) (l : List UInt8) (h0 : prE b l = 0) : prE b (txC (prT b l)) = 0 ∧ prT b (txC (prT b l)) = prT b l := by
  have hok := prT_ok b l
  have hlen := txC_len hok.1 hok.2
  obtain ⟨hb1, hb2, hb3⟩ := prE_zero h0
  have hb : ¬ (b < 1 ∨ 256 < b) := by omega
  by_cases hX : prT b l = []
  · rw [hX] at hlen ⊢
    have e : txC [] = [110, 111, 110, 101] := rfl
    have h1 : prE b (txC []) = 0 := by
      unfold prE
      rw [if_neg (by omega), if_neg hb, e, if_pos rfl]
    refine ⟨h1, ?_⟩
    unfold prT
    rw [if_pos h1, e, if_pos rfl]
  · have hn : ¬ l = [110, 111, 110, 101] := fun hc => hX (by unfold prT; rw [if_pos h0, if_pos hc])
    have hT : prT b l = ordT (topC (stl ((prts 43 l).map tcon))) := by unfold prT; rw [if_pos h0, if_neg hn]
    have hall : (prts 43 l).all (okT b.toNat) = true := hb3.resolve_left hn
    have hg := gdC_tcon hall
    have hF : ∀ t ∈ prT b l, FTm t ∧ t.1.length = b.toNat := fun t ht => by
      rw [hT] at ht
      obtain ⟨h1, y, hy, he⟩ := FTm_form hg t ht
      refine ⟨h1, ?_⟩
      obtain ⟨p, hp, rfl⟩ := List.mem_map.1 hy
      have h2 := List.all_eq_true.1 hall p hp
      have hne := prts_ne 45 p
      rw [← he]
      unfold tcon
      unfold okT at h2
      cases hc : prts 45 p with
      | nil => rw [hc] at hne; exact absurd hne (by simp)
      | cons c r =>
        rw [hc] at h2
        have h3 := List.all_eq_true.1 h2 c List.mem_cons_self
        unfold okP at h3
        simpa using (Bool.and_eq_true_iff.1 h3).2
    have hne : ∀ t ∈ prT b l, t.1 ≠ [] := fun t ht hc => by
      have := (hF t ht).2
      rw [hc] at this
      simp at this
      omega
    have hp := prts_txC hok.1 hX
    have hoP : ∀ c : List UInt8, good c = true → c.length = b.toNat → okP b.toNat c = true := fun c gc hc => by
      unfold okP
      rw [hc]
      have h1 : refP c = 0 := by
        unfold refP
        rw [if_neg (by have := good_le gc; omega), if_neg (fun e => by rw [e] at hc; simp at hc; omega), if_pos (Bool.and_eq_true_iff.1 gc).2]
      rw [h1]
      simp
    have hall2 : ((prT b l).map txT).all (okT b.toNat) = true := List.all_eq_true.2 (fun p hp => by
      obtain ⟨t, ht, rfl⟩ := List.mem_map.1 hp
      obtain ⟨hf, hl⟩ := hF t ht
      unfold okT
      rw [prts_txT hf.gc hf.gl]
      refine List.all_eq_true.2 (fun c hc => ?_)
      rcases List.mem_cons.1 hc with rfl | hc
      · exact hoP _ hf.gc hl
      · refine hoP _ (hf.gl c hc) ?_
        have h1 := hf.wi c hc
        unfold wiB at h1
        rw [fitB_len (Bool.and_eq_true_iff.1 h1).1, hl])
    have h1 : prE b (txC (prT b l)) = 0 := by
      unfold prE
      rw [if_neg (by omega), if_neg hb, if_neg (txC_none hok.1 hX hne), hp, tcon_all hok.1, if_neg (by rw [hall2]; simp), if_neg (by omega)]
    refine ⟨h1, ?_⟩
    have e1 : prT b (txC (prT b l)) = ordT (topC (stl ((prts 43 (txC (prT b l))).map tcon))) := by
      rw [prT, if_pos h1, if_neg (txC_none hok.1 hX hne)]
    rw [e1, hp, tcon_all hok.1, hT]
    exact form_id hg
end Go.Proofs.YtmdnapognaddbaaGreatDoor
namespace Go.Proofs.YtmdnapognaddbaaGreatDoor
open Go.RowKit Go.Shelf
theorem quiet_lit3 {P : Program} {id : Nat} {Q : Exit → Act → World → Prop} {a : Act} {w : World} {l : List Oper} {C : World → Prop} (hm : P.follows .mixedOrders = true) (hB : Region.lexB .any l.toArray = true) (hC : C w.drew)
    (h : wpQuiet P l.toArray C (fun a' => ∀ w', C w' → Q .normal a' w') l a) : (Code.region id l.toArray true).wp P Q a w :=
  wp_region_quiet (C := C) hm hB hC (by simpa using h)
theorem num_any (e : Int) (w : World) : Calls Tryz.prog 50 #[.int .i64 e] w fun r w' => r = .returned (.int .i64 e) ∧ Below w.heap.size w w' := by
  go_enter Tryz.func50, Tryz.ntmps50
  go_wp2_with fail
  go_ret
  exact ⟨rfl, Below.refl _ _⟩
theorem RSR.shape {W : World} {V : Value} {Ts : List (List UInt8 × List (List UInt8))} (h : RSR W V Ts) : ∃ p c, V = .slice p Ts.length c := by
  obtain ⟨Z, p, c, rfl, rfl, -, -⟩ := h
  exact ⟨p, c, by rw [List.length_map]⟩
theorem RSR.kept {W X : World} {b : Nat} {V : Value} {Ts : List (List UInt8 × List (List UInt8))} (h : RSR W V Ts) (hg : W.grownBy X (some b)) (hb : ∀ o t, W.cell? ⟨b, o, none⟩ ≠ some (.string t)) : RSR X V Ts := by
  have far : ∀ (X' : World) (g o : Nat) (u : Value), Below X.heap.size X X' → (∃ o' t, W.cell? ⟨g, o', none⟩ = some (.string t)) → W.cell? ⟨g, o, none⟩ = some u → X'.cell? ⟨g, o, none⟩ = some u := fun X' g o u hX hs hc => by
    have hne : some g ≠ some b := fun e => by
      obtain rfl := Option.some.inj e
      obtain ⟨o', t, h⟩ := hs
      exact hb o' t h
    have hlt := World.block_lt_of_cell? W _ hc
    have e1 : X'.heap[g]? = W.heap[g]? := (hX.block g (Nat.lt_of_lt_of_le hlt hg.size)).trans (hg.block g hlt hne)
    rw [World.cell?_of_block (a := ⟨g, o, none⟩) e1]
    exact hc
  obtain ⟨Z, p, cp, h1, h2, h3, h4⟩ := h
  refine ⟨Z, p, cp, h1, h2, fun X' hX k z hz => ?_, fun z hz X' hX k t ht => ?_⟩
  · obtain ⟨g, o0, e, c0, c1⟩ := h3 W (Below.refl _ _) k z hz
    exact ⟨g, o0, e, far X' g _ _ hX ⟨_, _, c0⟩ c0, far X' g _ _ hX ⟨_, _, c0⟩ c1⟩
  · obtain ⟨g, o0, e, c0⟩ := h4 z hz W (Below.refl _ _) k t ht
    exact ⟨g, o0, e, far X' g _ _ hX ⟨_, _, c0⟩ c0⟩
theorem no_str3 {W : World} {b : Nat} {i : Int} {q : Option Addr} {n c : Nat} {f : Bool} {T : TypeId} {fr : Nat × Nat} (hb : W.heap[b]? = some (.cells #[.int .i64 i, .slice q n c, .bool f] T fr)) : ∀ o t, W.cell? ⟨b, o, none⟩ ≠ some (.string t) := fun o t h => by
  unfold World.cell? at h
  rw [hb] at h
  match o, h with
  | 0, h => simp at h
  | 1, h => simp at h
  | 2, h => simp at h
  | k + 3, h => simp at h
theorem no_str2 {W : World} {b : Nat} {i : Int} {q : Option Addr} {n c : Nat} {T : TypeId} {fr : Nat × Nat} (hb : W.heap[b]? = some (.cells #[.int .i64 i, .slice q n c] T fr)) : ∀ o t, W.cell? ⟨b, o, none⟩ ≠ some (.string t) := fun o t h => by
  unfold World.cell? at h
  rw [hb] at h
  match o, h with
  | 0, h => simp at h
  | 1, h => simp at h
  | k + 2, h => simp at h
set_option maxRecDepth 100000 in
set_option maxHeartbeats 4000000 in
theorem like_any (b : Int) (V V2 : Value) (Ts : List (List UInt8 × List (List UInt8))) (B1 : Nat) (w : World) (h : SPL w B1 V Ts) (h2 : RSR w V2 Ts) (ho : szC Ts ≤ 128) (hg : gdC Ts) : Calls Tryz.prog 51 #[.agg #[.int .i64 b, V, .bool false], .agg #[.int .i64 b, V2]] w fun e w' => e = .returned (.bool true) ∧ Below w.heap.size w w' := by
  obtain ⟨p, cp, rfl⟩ := h.shape
  obtain ⟨p2, cp2, rfl⟩ := h2.shape
  obtain ⟨w0, hw0⟩ : ∃ w0, (w.alloc (.cells #[.int .i64 b, .slice p (Ts.length) cp, .bool false] 24 (0, 0))).alloc (.cells #[.int .i64 b, .slice p2 (Ts.length) cp2] 27 (0, 0)) = w0 := ⟨_, rfl⟩
  have ha : w0.heap[w.heap.size]? = some (.cells #[.int .i64 b, .slice p (Ts.length) cp, .bool false] 24 (0, 0)) := by rw [← hw0]; exact alw_0 _ _ _
  have hb : w0.heap[w.heap.size + 1]? = some (.cells #[.int .i64 b, .slice p2 (Ts.length) cp2] 27 (0, 0)) := by rw [← hw0]; exact alw_1 _ _ _
  have hB0 : Below w.heap.size w w0 := by rw [← hw0]; exact belA (belA (Below.refl _ _) _) _
  have HSz : Hid (∀ W, Below w0.heap.size w0 W → Calls Tryz.prog 27 #[.agg #[.int .i64 b, .slice p (Ts.length) cp, .bool false]] W fun e w' => e = .returned (.int .i64 (szC Ts : Int)) ∧ Below W.heap.size W w') := fun W hW => spSize_any b _ Ts B1 W (h.below (bel0 hB0 hW)) ho
  have HSx : Hid (∀ W, Below w0.heap.size w0 W → Calls Tryz.prog 26 #[.agg #[.int .i64 b, .slice p (Ts.length) cp, .bool false]] W fun e w' => e = .returned (.string ⟨(txC Ts).toArray⟩) ∧ Below W.heap.size W w') := fun W hW => spText_any b _ Ts B1 W (h.below (bel0 hB0 hW)) ho hg
  have HDz : Hid (∀ W, Below w0.heap.size w0 W → Calls Tryz.prog 72 #[.agg #[.int .i64 b, .slice p2 (Ts.length) cp2]] W fun e w' => e = .returned (.int .i64 (szC Ts : Int)) ∧ Below W.heap.size W w') := fun W hW => dSizeL_any b _ Ts W (h2.later (bel0 hB0 hW)) (by omega)
  have HDx : Hid (∀ W, Below w0.heap.size w0 W → Calls Tryz.prog 73 #[.agg #[.int .i64 b, .slice p2 (Ts.length) cp2]] W fun e w' => e = .returned (.string ⟨(txC Ts).toArray⟩) ∧ Below W.heap.size W w') := fun W hW => dTextL_any b _ Ts W (h2.later (bel0 hB0 hW)) ho hg
  obtain ⟨n, hn⟩ : ∃ n, Ts.length = n := ⟨_, rfl⟩
  rw [hn] at ha hb HSz HSx HDz HDx hw0 ⊢
  obtain ⟨n2, hn2⟩ : ∃ n2, n = n2 := ⟨_, rfl⟩
  have HBi : Hid (∀ W, Calls Tryz.prog 28 #[.agg #[.int .i64 b, .slice p n cp, .bool false]] W fun e w' => e = .returned (.int .i64 b) ∧ Below W.heap.size W w') := fun W => bits_any b p n cp W
  have HX : Hid (∀ W, Below w0.heap.size w0 W → W.cell? ⟨w.heap.size, 0, none⟩ = some (.int .i64 b) ∧ W.cell? ⟨w.heap.size, 1, none⟩ = some (.slice p n cp) ∧ W.cell? ⟨w.heap.size, 2, none⟩ = some (.bool false) ∧ W.cell? ⟨w.heap.size + 1, 0, none⟩ = some (.int .i64 b) ∧ W.cell? ⟨w.heap.size + 1, 1, none⟩ = some (.slice p2 n cp2)) := fun W hW => by
    obtain ⟨c1, -⟩ := cells_block (keepblk3 hW ha)
    obtain ⟨c2, -⟩ := cells_block (keepblk3 hW hb)
    exact ⟨c1 0, c1 1, c1 2, c2 0, c2 1⟩
  clear ha hb h h2 hn hn2 n2
  go_enter Tryz.func51, Tryz.ntmps51
  go_wp2_with fail
  clear hw0
  refine quiet_lit3 (C := fun W => Below w0.heap.size w0 W) (by kernel_rfl) (by kernel_rfl) (show Below _ _ _ from (Below.refl _ _).drew) ?_
  go_big_quiet_want
  refine ⟨.agg #[.int .i64 b, .slice p n cp, .bool false], fun W hW => ?_, ?_⟩
  · obtain ⟨x0, x1, x2, y0, y1⟩ := HX.out W hW
    go_simp
  go_big_quiet_on
  simp only [Act.put, List.setIfInBounds_toArray, List.set_cons_zero, List.set_cons_succ]
  go_big_quiet_want
  refine ⟨.int .i64 b, fun W hW => ?_, ?_⟩
  · go_simp
    refine (HBi.out W).mono ?_
    rintro e w7 ⟨rfl, hb⟩
    exact ⟨rfl, bel0 hW hb⟩
  go_big_quiet_on
  simp only [Act.put, List.setIfInBounds_toArray, List.set_cons_zero, List.set_cons_succ]
  go_big_quiet_want
  refine ⟨.pointer (some ⟨w.heap.size + 1, 0, none⟩), fun W hW => ?_, ?_⟩
  · go_simp
  go_big_quiet_on
  simp only [Act.put, List.setIfInBounds_toArray, List.set_cons_zero, List.set_cons_succ]
  go_big_quiet_want
  refine ⟨.int .i64 b, fun W hW => ?_, ?_⟩
  · obtain ⟨x0, x1, x2, y0, y1⟩ := HX.out W hW
    go_simp
  go_big_quiet_on
  simp only [Act.put, List.setIfInBounds_toArray, List.set_cons_zero, List.set_cons_succ]
  go_big_quiet_want
  refine ⟨.bool true, fun W hW => ?_, ?_⟩
  · go_simp
  go_big_quiet_on
  simp only [Act.put, List.setIfInBounds_toArray, List.set_cons_zero, List.set_cons_succ]
  go_big_quiet_want
  go_big_quiet_op
  go_big_quiet_on
  go_big_quiet_want
  refine ⟨.agg #[.int .i64 b, .slice p n cp, .bool false], fun W hW => ?_, ?_⟩
  · obtain ⟨x0, x1, x2, y0, y1⟩ := HX.out W hW
    go_simp
  go_big_quiet_on
  simp only [Act.put, List.setIfInBounds_toArray, List.set_cons_zero, List.set_cons_succ]
  go_big_quiet_want
  refine ⟨.int .i64 (szC Ts : Int), fun W hW => ?_, ?_⟩
  · go_simp
    refine (HSz.out W hW).mono ?_
    rintro e w7 ⟨rfl, hb⟩
    exact ⟨rfl, bel0 hW hb⟩
  go_big_quiet_on
  simp only [Act.put, List.setIfInBounds_toArray, List.set_cons_zero, List.set_cons_succ]
  go_big_quiet_want
  refine ⟨.agg #[.int .i64 b, .slice p2 n cp2], fun W hW => ?_, ?_⟩
  · obtain ⟨x0, x1, x2, y0, y1⟩ := HX.out W hW
    go_simp
  go_big_quiet_on
  simp only [Act.put, List.setIfInBounds_toArray, List.set_cons_zero, List.set_cons_succ]
  go_big_quiet_want
  refine ⟨.int .i64 (szC Ts : Int), fun W hW => ?_, ?_⟩
  · go_simp
    refine (HDz.out W hW).mono ?_
    rintro e w7 ⟨rfl, hb⟩
    exact ⟨rfl, bel0 hW hb⟩
  go_big_quiet_on
  simp only [Act.put, List.setIfInBounds_toArray, List.set_cons_zero, List.set_cons_succ]
  go_big_quiet_want
  refine ⟨.bool true, fun W hW => ?_, ?_⟩
  · go_simp
  go_big_quiet_on
  simp only [Act.put, List.setIfInBounds_toArray, List.set_cons_zero, List.set_cons_succ]
  go_big_quiet_want
  refine ⟨.bool true, fun W hW => ?_, ?_⟩
  · go_simp
  go_big_quiet_on
  simp only [Act.put, List.setIfInBounds_toArray, List.set_cons_zero, List.set_cons_succ]
  go_big_quiet_want
  go_big_quiet_op
  go_big_quiet_on
  go_big_quiet_want
  refine ⟨.agg #[.int .i64 b, .slice p n cp, .bool false], fun W hW => ?_, ?_⟩
  · obtain ⟨x0, x1, x2, y0, y1⟩ := HX.out W hW
    go_simp
  go_big_quiet_on
  simp only [Act.put, List.setIfInBounds_toArray, List.set_cons_zero, List.set_cons_succ]
  go_big_quiet_want
  refine ⟨.string ⟨(txC Ts).toArray⟩, fun W hW => ?_, ?_⟩
  · go_simp
    refine (HSx.out W hW).mono ?_
    rintro e w7 ⟨rfl, hb⟩
    exact ⟨rfl, bel0 hW hb⟩
  go_big_quiet_on
  simp only [Act.put, List.setIfInBounds_toArray, List.set_cons_zero, List.set_cons_succ]
  go_big_quiet_want
  refine ⟨.agg #[.int .i64 b, .slice p2 n cp2], fun W hW => ?_, ?_⟩
  · obtain ⟨x0, x1, x2, y0, y1⟩ := HX.out W hW
    go_simp
  go_big_quiet_on
  simp only [Act.put, List.setIfInBounds_toArray, List.set_cons_zero, List.set_cons_succ]
  go_big_quiet_want
  refine ⟨.string ⟨(txC Ts).toArray⟩, fun W hW => ?_, ?_⟩
  · go_simp
    refine (HDx.out W hW).mono ?_
    rintro e w7 ⟨rfl, hb⟩
    exact ⟨rfl, bel0 hW hb⟩
  go_big_quiet_on
  simp only [Act.put, List.setIfInBounds_toArray, List.set_cons_zero, List.set_cons_succ]
  go_big_quiet_want
  refine ⟨.bool true, fun W hW => ?_, ?_⟩
  · go_simp
  go_big_quiet_on
  simp only [Act.put, List.setIfInBounds_toArray, List.set_cons_zero, List.set_cons_succ]
  go_big_quiet_want
  refine ⟨.bool true, fun W hW => ?_, ?_⟩
  · go_simp
  go_big_quiet_on
  simp only [Act.put, List.setIfInBounds_toArray, List.set_cons_zero, List.set_cons_succ]
  go_big_quiet_want
  go_big_quiet_op
  go_big_quiet_on
  refine wpQuiet_nil ?_
  intro W hW
  go_wp2_with fail
  go_ret
  exact ⟨rfl, bel0 hB0 hW⟩
set_option maxRecDepth 100000 in
theorem same_any (b e : Int) (V V2 : Value) (Ts : List (List UInt8 × List (List UInt8))) (B1 : Nat) (w : World) (h : SPL w B1 V Ts) (h2 : RSR w V2 Ts) (ho : szC Ts ≤ 128) (hg : gdC Ts) : Calls Tryz.prog 22 #[.agg #[.int .i64 b, V, .bool false], .int .i64 e, .agg #[.int .i64 b, V2], .int .i64 e] w fun r w' => r = .returned (.bool true) ∧ Below w.heap.size w w' := by
  obtain ⟨p, cp, rfl⟩ := h.shape
  obtain ⟨p2, cp2, rfl⟩ := h2.shape
  obtain ⟨w0, hw0⟩ : ∃ w0, (w.alloc (.cells #[.int .i64 b, .slice p (Ts.length) cp, .bool false] 24 (0, 0))).alloc (.cells #[.int .i64 b, .slice p2 (Ts.length) cp2] 27 (0, 0)) = w0 := ⟨_, rfl⟩
  have ha : w0.heap[w.heap.size]? = some (.cells #[.int .i64 b, .slice p (Ts.length) cp, .bool false] 24 (0, 0)) := by rw [← hw0]; exact alw_0 _ _ _
  have hb : w0.heap[w.heap.size + 1]? = some (.cells #[.int .i64 b, .slice p2 (Ts.length) cp2] 27 (0, 0)) := by rw [← hw0]; exact alw_1 _ _ _
  have hB0 : Below w.heap.size w w0 := by rw [← hw0]; exact belA (belA (Below.refl _ _) _) _
  have HL : Hid (∀ W, Below w0.heap.size w0 W → Calls Tryz.prog 51 #[.agg #[.int .i64 b, .slice p (Ts.length) cp, .bool false], .agg #[.int .i64 b, .slice p2 (Ts.length) cp2]] W fun e w' => e = .returned (.bool true) ∧ Below W.heap.size W w') := fun W hW => like_any b _ _ Ts B1 W (h.below (bel0 hB0 hW)) (h2.later (bel0 hB0 hW)) ho hg
  have HA : Hid (w0.heap[w.heap.size]? = some (.cells #[.int .i64 b, .slice p (Ts.length) cp, .bool false] 24 (0, 0)) ∧ w0.heap[w.heap.size + 1]? = some (.cells #[.int .i64 b, .slice p2 (Ts.length) cp2] 27 (0, 0))) := ⟨ha, hb⟩
  clear ha hb h h2
  go_enter Tryz.func22, Tryz.ntmps22
  go_wp2_with fail
  refine (num_any e _).mono ?_
  rintro r W1 ⟨rfl, hb1⟩
  obtain ⟨c1, -⟩ := cells_block (keepblk3 hb1 HA.out.1)
  obtain ⟨c2, -⟩ := cells_block (keepblk3 hb1 HA.out.2)
  clear hw0
  go_wp2_with fail
  refine (HL.out W1 hb1).mono ?_
  rintro r W2 ⟨rfl, hb2⟩
  go_wp2_with fail
  go_ret
  exact ⟨rfl, bel0 hB0 (bel0 hb1 hb2)⟩
end Go.Proofs.YtmdnapognaddbaaGreatDoor

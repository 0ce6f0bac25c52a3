import Derived.Test.YtcmajlianphoaaaGreatDoorXAX
import Derived.Test.YtcmajlianphoaaaGreatDoorXAK
import Derived.Deep.RegionHeld3
import Derived.Test.YtcmajlianphoaaaGreatDoorXAH
import Derived.Test.YtcmajlianphoaaaGreatDoorXAJ
import Derived.Test.YtcmajlianphoaaaGreatDoorXAQ
import Derived.Test.YtcmajlianphoaaaGreatDoorXAS
namespace Go.Proofs.YtcmajlianphoaaaGreatDoor
open Go.RowKit Go.Shelf
theorem ordT_perm (X : List (List UInt8 × List (List UInt8))) : (ordT X).Perm (X.map sof) := by
  unfold ordT
  refine ((srtLn_perm _).map _).trans ?_
  rw [List.map_map]
  exact List.Perm.refl _
theorem szC_perm {A B : List (List UInt8 × List (List UInt8))} (h : A.Perm B) : szC A = szC B := by
  induction h with
  | nil => rfl
  | cons x _ ih => rw [szC, szC, ih]
  | swap x y l => simp only [szC]; omega
  | trans _ _ h1 h2 => exact h1.trans h2
theorem szC_sof (X : List (List UInt8 × List (List UInt8))) : szC (X.map sof) = szC X := by
  induction X with
  | nil => rfl
  | cons x l ih =>
    rw [List.map_cons, szC, szC, ih]
    show 1 + (srtT x.2).length + _ = _
    rw [srtT_len]
theorem szC_ord (X : List (List UInt8 × List (List UInt8))) : szC (ordT X) = szC X := (szC_perm (ordT_perm X)).trans (szC_sof X)
theorem topCF_mem (L : List (List UInt8 × List (List UInt8))) : ∀ (T : List (List UInt8 × List (List UInt8))) (t : List UInt8 × List (List UInt8)), t ∈ L.foldl topCS T → t ∈ T ∨ t ∈ L := by
  induction L with
  | nil => intro T t h; exact .inl h
  | cons x l ih =>
    intro T t h
    rw [List.foldl_cons] at h
    rcases ih _ t h with h | h
    · unfold topCS at h
      split at h
      · exact .inl h
      · rcases List.mem_append.1 h with h | h
        · exact .inl (List.mem_filter.1 h).1
        · obtain rfl := List.mem_singleton.1 h
          exact .inr List.mem_cons_self
    · exact .inr (List.mem_cons_of_mem _ h)
theorem gdC_top {L : List (List UInt8 × List (List UInt8))} (h : gdC L) : gdC (topC L) := fun t ht => by
  rcases topCF_mem L [] t ht with h1 | h1
  · cases h1
  · exact h t h1
theorem gdC_sof {L : List (List UInt8 × List (List UInt8))} (h : gdC L) : gdC (L.map sof) := fun t ht => by
  obtain ⟨x, hx, rfl⟩ := List.mem_map.1 ht
  exact ⟨(h x hx).1, fun y hy => (h x hx).2 y ((srtT_perm x.2).mem_iff.1 hy)⟩
theorem gdC_ord {L : List (List UInt8 × List (List UInt8))} (h : gdC L) : gdC (ordT L) := fun t ht => gdC_sof h t ((ordT_perm L).mem_iff.1 ht)
theorem gdC_stl {L : List (List UInt8 × List (List UInt8))} (h : gdC L) : gdC (stl L) := fun t ht => by
  unfold stl at ht
  obtain ⟨x, hx, he⟩ := List.mem_filterMap.1 ht
  cases hs : setO x.1 x.2 with
  | none => rw [hs] at he; cases he
  | some R =>
    rw [hs] at he
    obtain rfl := Option.some.inj he
    refine ⟨(h x hx).1, fun y hy => ?_⟩
    have h2 := (put_some hs).1
    have h3 : y ∈ putL (lesL x.1 x.2) := by rw [h2]; exact (srtT_perm R).mem_iff.2 hy
    exact lesL_good (h x hx).1 (h x hx).2 y (putL_mem h3)
theorem gdC_tcon {b : Nat} {P : List (List UInt8)} (h : P.all (okT b) = true) : gdC (P.map tcon) := fun t ht => by
  obtain ⟨p, hp, rfl⟩ := List.mem_map.1 ht
  have h1 := List.all_eq_true.1 h p hp
  have hq : ∀ q ∈ prts 45 p, good q = true := fun q hq => by
    have h2 := List.all_eq_true.1 h1 q hq
    rw [okP_cub] at h2
    exact ((cubB_iff q).1 (Bool.and_eq_true_iff.1 h2).1).2
  have hne := prts_ne 45 p
  unfold tcon
  cases hc : prts 45 p with
  | nil => rw [hc] at hne; exact absurd hne (by simp)
  | cons c r =>
    rw [hc] at hq
    exact ⟨hq c List.mem_cons_self, fun x hx => hq x (List.mem_cons_of_mem _ hx)⟩
/-- what Parse gives has good cubes, and not too many -/
theorem prT_ok (b : Int) (l : List UInt8) : gdC (prT b l) ∧ szC (prT b l) ≤ 128 := by
  unfold prT
  split
  · rename_i h0
    split
    · exact ⟨(fun t h => by cases h), Nat.zero_le _⟩
    · rename_i hn
      unfold prE at h0
      split at h0
      · cases h0
      · split at h0
        · cases h0
        · try rw [if_neg hn] at h0
          split at h0
          · cases h0
          · rename_i hall
            split at h0
            · cases h0
            · rename_i hsz
              have hall' : (prts 43 l).all (okT b.toNat) = true := by
                cases h : (prts 43 l).all (okT b.toNat)
                · exact absurd h hall
                · rfl
              refine ⟨gdC_ord (gdC_top (gdC_stl (gdC_tcon hall'))), ?_⟩
              rw [szC_ord]
              have := szC_top ((prts 43 l).map tcon)
              omega
  · exact ⟨(fun t h => by cases h), Nat.zero_le _⟩
end Go.Proofs.YtcmajlianphoaaaGreatDoor
namespace Go.Proofs.YtcmajlianphoaaaGreatDoor
open Go.RowKit Go.Shelf
/-- no two of a list are within one another -/
def apL (L : List (List UInt8)) : Prop := L.Pairwise (fun a b => wiB a b = false ∧ wiB b a = false)
theorem topS_ap {T : List (List UInt8)} {x : List UInt8} (h : apL T) : apL (topS T x) := by
  unfold topS
  split
  · exact h
  · rename_i hn
    refine List.pairwise_append.2 ⟨List.Pairwise.filter _ h, List.pairwise_singleton _ _, fun a ha b hb => ?_⟩
    obtain rfl := List.mem_singleton.1 hb
    have h1 := List.mem_filter.1 ha
    have h2 : wiB a b = false := by simpa using h1.2
    have h3 : wiB b a = false := by
      cases h4 : wiB b a
      · rfl
      · exact absurd (List.any_eq_true.2 ⟨a, h1.1, h4⟩) hn
    exact ⟨h2, h3⟩
theorem topF_ap (L : List (List UInt8)) : ∀ T : List (List UInt8), apL T → apL (L.foldl topS T) := by
  induction L with
  | nil => intro T h; exact h
  | cons x l ih => intro T h; rw [List.foldl_cons]; exact ih _ (topS_ap h)
theorem topL_ap (L : List (List UInt8)) : apL (topL L) := topF_ap L [] List.Pairwise.nil
theorem topF_id (L : List (List UInt8)) : ∀ T : List (List UInt8), apL (T ++ L) → L.foldl topS T = T ++ L := by
  induction L with
  | nil => intro T _; simp
  | cons x l ih =>
    intro T h
    have e : topS T x = T ++ [x] := by
      unfold topS
      have h1 := (List.pairwise_append.1 h).2.2
      have hn : ¬ T.any (fun y => wiB x y) = true := fun hc => by
        obtain ⟨y, hy, hw⟩ := List.any_eq_true.1 hc
        rw [(h1 y hy x List.mem_cons_self).2] at hw
        cases hw
      rw [if_neg hn]
      congr 1
      exact List.filter_eq_self.2 (fun y hy => by rw [(h1 y hy x List.mem_cons_self).1]; rfl)
    rw [List.foldl_cons, e, ih (T ++ [x]) (by simpa using h)]
    simp
theorem topL_id {L : List (List UInt8)} (h : apL L) : topL L = L := topF_id L [] h
/-- no two of a list of terms cover one another -/
def apC (L : List (List UInt8 × List (List UInt8))) : Prop := L.Pairwise (fun a b => cvC a b = false ∧ cvC b a = false)
theorem topCS_ap {T : List (List UInt8 × List (List UInt8))} {x : List UInt8 × List (List UInt8)} (h : apC T) : apC (topCS T x) := by
  unfold topCS
  split
  · exact h
  · rename_i hn
    refine List.pairwise_append.2 ⟨List.Pairwise.filter _ h, List.pairwise_singleton _ _, fun a ha b hb => ?_⟩
    obtain rfl := List.mem_singleton.1 hb
    have h1 := List.mem_filter.1 ha
    have h2 : cvC a b = false := by simpa using h1.2
    have h3 : cvC b a = false := by
      cases h4 : cvC b a
      · rfl
      · exact absurd (List.any_eq_true.2 ⟨a, h1.1, h4⟩) hn
    exact ⟨h2, h3⟩
theorem topCF_ap (L : List (List UInt8 × List (List UInt8))) : ∀ T : List (List UInt8 × List (List UInt8)), apC T → apC (L.foldl topCS T) := by
  induction L with
  | nil => intro T h; exact h
  | cons x l ih => intro T h; rw [List.foldl_cons]; exact ih _ (topCS_ap h)
theorem topC_ap (L : List (List UInt8 × List (List UInt8))) : apC (topC L) := topCF_ap L [] List.Pairwise.nil
theorem topCF_id (L : List (List UInt8 × List (List UInt8))) : ∀ T : List (List UInt8 × List (List UInt8)), apC (T ++ L) → L.foldl topCS T = T ++ L := by
  induction L with
  | nil => intro T _; simp
  | cons x l ih =>
    intro T h
    have e : topCS T x = T ++ [x] := by
      unfold topCS
      have h1 := (List.pairwise_append.1 h).2.2
      have hn : ¬ T.any (fun y => cvC x y) = true := fun hc => by
        obtain ⟨y, hy, hw⟩ := List.any_eq_true.1 hc
        rw [(h1 y hy x List.mem_cons_self).2] at hw
        cases hw
      rw [if_neg hn]
      congr 1
      exact List.filter_eq_self.2 (fun y hy => by rw [(h1 y hy x List.mem_cons_self).1]; rfl)
    rw [List.foldl_cons, e, ih (T ++ [x]) (by simpa using h)]
    simp
theorem topC_id {L : List (List UInt8 × List (List UInt8))} (h : apC L) : topC L = L := topCF_id L [] h
theorem apC_ord (L : List (List UInt8 × List (List UInt8))) (h : apC L) : apC (ordT L) := by
  have h1 : apC (L.map sof) := by
    refine List.pairwise_map.2 (List.Pairwise.imp (fun {a b} hab => ?_) h)
    rw [cvC_sof, cvC_sof]
    exact hab
  exact List.Perm.pairwise (ordT_perm L).symm h1 (fun {x y} hxy => ⟨hxy.2, hxy.1⟩)
theorem les_id {c : List UInt8} (gc : good c = true) : ∀ R : List (List UInt8), (∀ m ∈ R, good m = true) → (∀ m ∈ R, wiB m c = true) → lesL c R = R
  | [], _, _ => rfl
  | m :: l, gR, h => by
    have h1 := wi_eq m c (gR m List.mem_cons_self) gc
    rw [h m List.mem_cons_self] at h1
    obtain ⟨h2, h3⟩ := Bool.and_eq_true_iff.1 h1
    have h4 : mtT m c = m := by simpa using h3
    have ih := les_id gc l (fun x hx => gR x (List.mem_cons_of_mem _ hx)) (fun x hx => h x (List.mem_cons_of_mem _ hx))
    unfold lesL at ih ⊢
    rw [List.filterMap_cons, if_pos h2, h4, ih]
/-- a term in its form -/
structure FTm (t : List UInt8 × List (List UInt8)) : Prop where
  gc : good t.1 = true
  gl : ∀ m ∈ t.2, good m = true
  wi : ∀ m ∈ t.2, wiB m t.1 = true
  ne : t.1 ∉ t.2
  ap : apL t.2
  so : t.2.Pairwise (fun a b => leB a b = true)
theorem FTm.set {t : List UInt8 × List (List UInt8)} (h : FTm t) : setO t.1 t.2 = some t.2 := by
  unfold setO
  rw [les_id h.gc t.2 h.gl h.wi, topL_id h.ap]
  refine if_neg (fun hc => ?_)
  obtain ⟨y, hy, he⟩ := List.any_eq_true.1 hc
  obtain rfl : y = t.1 := by simpa using he
  exact h.ne hy
theorem stl_id : ∀ X : List (List UInt8 × List (List UInt8)), (∀ t ∈ X, FTm t) → stl X = X
  | [], _ => rfl
  | t :: l, h => by
    have ih := stl_id l (fun x hx => h x (List.mem_cons_of_mem _ hx))
    unfold stl at ih ⊢
    rw [List.filterMap_cons, (h t List.mem_cons_self).set, ih]
    rfl
theorem FTm_stl {Y : List (List UInt8 × List (List UInt8))} (g : gdC Y) : ∀ t ∈ (stl Y).map sof, FTm t ∧ ∃ y ∈ Y, y.1 = t.1 := fun t ht => by
  obtain ⟨u, hu, rfl⟩ := List.mem_map.1 ht
  have hgu := gdC_stl g u hu
  unfold stl at hu
  obtain ⟨x, hx, he⟩ := List.mem_filterMap.1 hu
  cases hs : setO x.1 x.2 with
  | none => rw [hs] at he; cases he
  | some R =>
    rw [hs] at he
    obtain rfl := Option.some.inj he
    have h2 := put_some hs
    have hR : R = topL (lesL x.1 x.2) := by
      unfold setO at hs
      split at hs
      · cases hs
      · exact (Option.some.inj hs).symm
    refine ⟨⟨hgu.1, fun m hm => hgu.2 m ((srtT_perm R).mem_iff.1 hm), fun m hm => ?_, h2.2, ?_, srtT_sorted R⟩, x, hx, rfl⟩
    · have h3 : m ∈ putL (lesL x.1 x.2) := by rw [h2.1]; exact hm
      exact lesL_within (g x hx).1 (g x hx).2 m (putL_mem h3)
    · exact List.Perm.pairwise (srtT_perm R).symm (hR ▸ topL_ap _) (fun {x y} hxy => ⟨hxy.2, hxy.1⟩)
theorem FTm_form {Y : List (List UInt8 × List (List UInt8))} (g : gdC Y) : ∀ t ∈ ordT (topC (stl Y)), FTm t ∧ ∃ y ∈ Y, y.1 = t.1 := fun t ht => by
  have h1 := (ordT_perm (topC (stl Y))).mem_iff.1 ht
  obtain ⟨u, hu, rfl⟩ := List.mem_map.1 h1
  rcases topCF_mem (stl Y) [] u hu with h2 | h2
  · cases h2
  · exact FTm_stl g _ (List.mem_map_of_mem h2)
theorem srtT_id {l : List (List UInt8)} (h : l.Pairwise (fun a b => leB a b = true)) : srtT l = l := (srt_eq (List.Perm.refl l) h).symm
theorem ordT_id (Z : List (List UInt8 × List (List UInt8))) : ordT (ordT Z) = ordT Z := by
  have hL : ∀ S ∈ srtLn (Z.map (fun t => t.1 :: srtT t.2)), S.headD [] :: srtT S.tail = S := fun S hS => by
    obtain ⟨t, _, rfl⟩ := List.mem_map.1 ((srtLn_perm _).mem_iff.1 hS)
    show t.1 :: srtT (srtT t.2) = _
    rw [srtT_id (srtT_sorted _)]
  have hs : (srtLn (Z.map (fun t => t.1 :: srtT t.2))).Pairwise (fun a b => leLn a b = true) := List.pairwise_mergeSort leLn_trans leLn_total _
  have e : (ordT Z).map (fun t => t.1 :: srtT t.2) = srtLn (Z.map (fun t => t.1 :: srtT t.2)) := by
    unfold ordT
    rw [List.map_map]
    exact (List.map_congr_left (fun S hS => hL S hS)).trans (List.map_id _)
  have e2 : ordT (ordT Z) = (srtLn ((ordT Z).map (fun t => t.1 :: srtT t.2))).map (fun S => (S.headD [], S.tail)) := rfl
  rw [e2, e, ← srtLn_eq (List.Perm.refl _) hs]
  rfl
/-- the form of a form is itself -/
theorem form_id {Y : List (List UInt8 × List (List UInt8))} (g : gdC Y) : ordT (topC (stl (ordT (topC (stl Y))))) = ordT (topC (stl Y)) := by
  rw [stl_id _ (fun t ht => (FTm_form g t ht).1), topC_id (apC_ord _ (topC_ap _)), ordT_id]
theorem idxM_no {s : UInt8} : ∀ {r : List UInt8}, s ∉ r → Lib.indexByte r s = -1
  | [], _ => rfl
  | x :: l, h => by
    have h1 : x ≠ s := fun e => h (by rw [e]; exact List.mem_cons_self)
    have h2 := idxM_no (r := l) (fun hc => h (List.mem_cons_of_mem _ hc))
    simp [Lib.indexByte, h1, h2]
theorem idxM_mid {s : UInt8} (r : List UInt8) : ∀ {p : List UInt8}, s ∉ p → Lib.indexByte (p ++ s :: r) s = (p.length : Int)
  | [], _ => by simp [Lib.indexByte]
  | x :: l, h => by
    have h1 : x ≠ s := fun e => h (by rw [e]; exact List.mem_cons_self)
    have h2 := idxM_mid r (p := l) (fun hc => h (List.mem_cons_of_mem _ hc))
    rw [List.cons_append, Lib.indexByte, h2, if_neg (by simpa using h1), if_neg (by simp)]
    rw [List.length_cons]
    omega
theorem prts_join (s : UInt8) : ∀ (L : List (List UInt8)) (c : List UInt8), s ∉ c → (∀ x ∈ L, s ∉ x) → prts s (c ++ L.flatMap (fun x => s :: x)) = c :: L
  | [], c, hc, _ => by
    rw [List.flatMap_nil, List.append_nil]
    exact prts_neg (by rw [idxM_no hc]; decide)
  | x :: l, c, hc, h => by
    have ih := prts_join s l x (h x List.mem_cons_self) (fun y hy => h y (List.mem_cons_of_mem _ hy))
    have e : c ++ (x :: l).flatMap (fun x => s :: x) = c ++ s :: (x ++ l.flatMap (fun x => s :: x)) := by rw [List.flatMap_cons]; rfl
    rw [e, prts_pos (idxM_mid _ hc), List.take_left, List.drop_append, List.drop_eq_nil_of_le (by omega)]
    rw [show c.length + 1 - c.length = 1 by omega]
    show c :: prts s (x ++ l.flatMap (fun x => s :: x)) = _
    rw [ih]
theorem tri_no {x : UInt8} (h : tri x = true) : x ≠ 43 ∧ x ≠ 45 ∧ x ≠ 110 := by
  refine ⟨fun e => ?_, fun e => ?_, fun e => ?_⟩ <;> subst e <;> revert h <;> decide
theorem good_no {t : List UInt8} (h : good t = true) : (43 : UInt8) ∉ t ∧ (45 : UInt8) ∉ t ∧ (110 : UInt8) ∉ t := by
  have h1 := List.all_eq_true.1 (Bool.and_eq_true_iff.1 h).2
  exact ⟨fun hc => (tri_no (h1 _ hc)).1 rfl, fun hc => (tri_no (h1 _ hc)).2.1 rfl, fun hc => (tri_no (h1 _ hc)).2.2 rfl⟩
theorem prts_txT {t : List UInt8 × List (List UInt8)} (gc : good t.1 = true) (gl : ∀ m ∈ t.2, good m = true) : prts 45 (txT t) = t.1 :: t.2 :=
  prts_join 45 t.2 t.1 (good_no gc).2.1 (fun x hx => (good_no (gl x hx)).2.1)
theorem tcon_txT {t : List UInt8 × List (List UInt8)} (gc : good t.1 = true) (gl : ∀ m ∈ t.2, good m = true) : tcon (txT t) = t := by
  unfold tcon; rw [prts_txT gc gl]; rfl
theorem txT_no43 {t : List UInt8 × List (List UInt8)} (gc : good t.1 = true) (gl : ∀ m ∈ t.2, good m = true) : (43 : UInt8) ∉ txT t := by
  unfold txT txL
  intro hc
  rcases List.mem_append.1 hc with h | h
  · exact (good_no gc).1 h
  · obtain ⟨m, hm, h⟩ := List.mem_flatMap.1 h
    rcases List.mem_cons.1 h with h | h
    · revert h; decide
    · exact (good_no (gl m hm)).1 h
theorem prts_txC {X : List (List UInt8 × List (List UInt8))} (g : gdC X) (hn : X ≠ []) : prts 43 (txC X) = X.map txT := by
  unfold txC
  rw [if_neg hn]
  cases X with
  | nil => exact absurd rfl hn
  | cons t l =>
    have e : jn ((t :: l).map txT) = txT t ++ (l.map txT).flatMap (fun x => 43 :: x) := by simp [jn]
    rw [e, prts_join 43 (l.map txT) (txT t) (txT_no43 (g t List.mem_cons_self).1 (g t List.mem_cons_self).2) (fun x hx => by
      obtain ⟨u, hu, rfl⟩ := List.mem_map.1 hx
      exact txT_no43 (g u (List.mem_cons_of_mem _ hu)).1 (g u (List.mem_cons_of_mem _ hu)).2)]
    rfl
theorem tcon_all {X : List (List UInt8 × List (List UInt8))} (g : gdC X) : (X.map txT).map tcon = X := by
  rw [List.map_map]
  exact (List.map_congr_left (fun t ht => tcon_txT (g t ht).1 (g t ht).2)).trans (List.map_id _)
theorem txM_len : ∀ {L : List (List UInt8)}, (∀ m ∈ L, m.length ≤ 256) → (txL L).length ≤ 257 * L.length
  | [], _ => by simp [txL]
  | x :: l, h => by
    have ih := txM_len (L := l) (fun m hm => h m (List.mem_cons_of_mem _ hm))
    have h1 := h x List.mem_cons_self
    unfold txL at ih ⊢
    rw [List.flatMap_cons, List.length_append, List.length_cons, List.length_cons]
    omega
theorem flatM_len : ∀ {X : List (List UInt8 × List (List UInt8))}, (∀ t ∈ X, t.1.length ≤ 256 ∧ ∀ m ∈ t.2, m.length ≤ 256) → ((X.map txT).flatMap (fun x => 43 :: x)).length ≤ 257 * szC X
  | [], _ => by simp [szC]
  | t :: l, h => by
    have ih := flatM_len (X := l) (fun m hm => h m (List.mem_cons_of_mem _ hm))
    have h1 := (h t List.mem_cons_self).1
    have h2 := txM_len (h t List.mem_cons_self).2
    rw [List.map_cons, List.flatMap_cons, List.length_append, List.length_cons, szC]
    unfold txT at ih ⊢
    rw [List.length_append]
    omega
theorem good_le {t : List UInt8} (h : good t = true) : t.length ≤ 256 := by
  have := (Bool.and_eq_true_iff.1 h).1
  simpa using this
theorem txC_len {X : List (List UInt8 × List (List UInt8))} (g : gdC X) (hs : szC X ≤ 128) : (txC X).length ≤ 33024 := by
  unfold txC
  split
  · simp
  · have h1 := flatM_len (X := X) (fun t ht => ⟨good_le (g t ht).1, fun m hm => good_le ((g t ht).2 m hm)⟩)
    unfold jn
    rw [List.length_drop]
    omega
theorem txC_none {X : List (List UInt8 × List (List UInt8))} (g : gdC X) (hn : X ≠ []) (hl : ∀ t ∈ X, t.1 ≠ []) : txC X ≠ [110, 111, 110, 101] := by
  unfold txC
  rw [if_neg hn]
  cases X with
  | nil => exact absurd rfl hn
  | cons t l =>
    have e : jn ((t :: l).map txT) = txT t ++ (l.map txT).flatMap (fun x => 43 :: x) := by simp [jn]
    rw [e]
    unfold txT
    intro hc
    have h1 := hl t List.mem_cons_self
    have h2 := (good_no (g t List.mem_cons_self).1).2.2
    cases hx : t.1 with
    | nil => exact h1 hx
    | cons x r =>
      rw [hx] at hc h2
      have h3 := congrArg (fun l => l.headD 0) hc
      have h4 : x = 110 := h3
      exact h2 (by rw [h4]; exact List.mem_cons_self)
theorem prE_zero {b : Int} {l : List UInt8} (h0 : prE b l = 0) : 1 ≤ b ∧ b ≤ 256 ∧ (l = [110, 111, 110, 101] ∨ (prts 43 l).all (okT b.toNat) = true) := by
  unfold prE at h0
  by_cases h1 : 33024 < l.length
  · rw [if_pos h1] at h0; exact absurd h0 (by decide)
  · rw [if_neg h1] at h0
    by_cases hb : b < 1 ∨ 256 < b
    · rw [if_pos hb] at h0; exact absurd h0 (by decide)
    · rw [if_neg hb] at h0
      refine ⟨by omega, by omega, ?_⟩
      by_cases hn : l = [110, 111, 110, 101]
      · exact .inl hn
      · rw [if_neg hn] at h0
        cases h : (prts 43 l).all (okT b.toNat)
        · rw [if_pos h] at h0; exact absurd h0 (by decide)
        · exact .inr rfl
/-- the text of what was read is read as the same -/
theorem pr_back (b : Int) (l : List UInt8) (h0 : prE b l = 0) : prE b (txC (prT b l)) = 0 ∧ prT b (txC (prT b l)) = prT b l := by
  have hok := prT_ok b l
  have hlen := txC_len hok.1 hok.2
  obtain ⟨hb1, hb2, hb3⟩ := prE_zero h0
  have hb : ¬ (b < 1 ∨ 256 < b) := by omega
  by_cases hX : prT b l = []
  · rw [hX] at hlen ⊢
    have e : txC [] = [110, 111, 110, 101] := rfl
    have h1 : prE b (txC []) = 0 := by
      unfold prE
      rw [if_neg (by omega), if_neg hb, e, if_pos rfl]
    refine ⟨h1, ?_⟩
    unfold prT
    rw [if_pos h1, e, if_pos rfl]
  · have hn : ¬ l = [110, 111, 110, 101] := fun hc => hX (by unfold prT; rw [if_pos h0, if_pos hc])
    have hT : prT b l = ordT (topC (stl ((prts 43 l).map tcon))) := by unfold prT; rw [if_pos h0, if_neg hn]
    have hall : (prts 43 l).all (okT b.toNat) = true := hb3.resolve_left hn
    have hg := gdC_tcon hall
    have hF : ∀ t ∈ prT b l, FTm t ∧ t.1.length = b.toNat := fun t ht => by
      rw [hT] at ht
      obtain ⟨h1, y, hy, he⟩ := FTm_form hg t ht
      refine ⟨h1, ?_⟩
      obtain ⟨p, hp, rfl⟩ := List.mem_map.1 hy
      have h2 := List.all_eq_true.1 hall p hp
      have hne := prts_ne 45 p
      rw [← he]
      unfold tcon
      unfold okT at h2
      cases hc : prts 45 p with
      | nil => rw [hc] at hne; exact absurd hne (by simp)
      | cons c r =>
        rw [hc] at h2
        have h3 := List.all_eq_true.1 h2 c List.mem_cons_self
        unfold okP at h3
        simpa using (Bool.and_eq_true_iff.1 h3).2
    have hne : ∀ t ∈ prT b l, t.1 ≠ [] := fun t ht hc => by
      have := (hF t ht).2
      rw [hc] at this
      simp at this
      omega
    have hp := prts_txC hok.1 hX
    have hoP : ∀ c : List UInt8, good c = true → c.length = b.toNat → okP b.toNat c = true := fun c gc hc => by
      unfold okP
      rw [hc]
      have h1 : refP c = 0 := by
        unfold refP
        rw [if_neg (by have := good_le gc; omega), if_neg (fun e => by rw [e] at hc; simp at hc; omega), if_pos (Bool.and_eq_true_iff.1 gc).2]
      rw [h1]
      simp
    have hall2 : ((prT b l).map txT).all (okT b.toNat) = true := List.all_eq_true.2 (fun p hp => by
      obtain ⟨t, ht, rfl⟩ := List.mem_map.1 hp
      obtain ⟨hf, hl⟩ := hF t ht
      unfold okT
      rw [prts_txT hf.gc hf.gl]
      refine List.all_eq_true.2 (fun c hc => ?_)
      rcases List.mem_cons.1 hc with rfl | hc
      · exact hoP _ hf.gc hl
      · refine hoP _ (hf.gl c hc) ?_
        have h1 := hf.wi c hc
        unfold wiB at h1
        rw [fitB_len (Bool.and_eq_true_iff.1 h1).1, hl])
    have h1 : prE b (txC (prT b l)) = 0 := by
      unfold prE
      rw [if_neg (by omega), if_neg hb, if_neg (txC_none hok.1 hX hne), hp, tcon_all hok.1, if_neg (by rw [hall2]; simp), if_neg (by omega)]
    refine ⟨h1, ?_⟩
    have e1 : prT b (txC (prT b l)) = ordT (topC (stl ((prts 43 (txC (prT b l))).map tcon))) := by
      rw [prT, if_pos h1, if_neg (txC_none hok.1 hX hne)]
    rw [e1, hp, tcon_all hok.1, hT]
    exact form_id hg
end Go.Proofs.YtcmajlianphoaaaGreatDoor
namespace Go.Proofs.YtcmajlianphoaaaGreatDoor
open Go.RowKit Go.Shelf
/-- one step of a list of the greatest -/
def gS {α : Type} (r : α → α → Bool) (T : List α) (x : α) : List α := if T.any (fun y => r x y) = true then T else T.filter (fun y => !r y x) ++ [x]
structure GI {α : Type} (r : α → α → Bool) (T D : List α) : Prop where
  sub : ∀ t ∈ T, t ∈ D
  ap : T.Pairwise (fun a b => r a b = false ∧ r b a = false)
  cov : ∀ d ∈ D, ∃ t ∈ T, r d t = true
theorem gi_step {α : Type} {r : α → α → Bool} {P : α → Prop} (hre : ∀ a, P a → r a a = true) (htr : ∀ a b c, P a → P b → P c → r a b = true → r b c = true → r a c = true) {T D : List α} {x : α} (h : GI r T D) (hP : ∀ d ∈ D, P d) (hx : P x) : GI r (gS r T x) (D ++ [x]) := by
  unfold gS
  split
  · rename_i ha
    obtain ⟨y, hy, hr⟩ := List.any_eq_true.1 ha
    refine ⟨fun t ht => List.mem_append_left _ (h.sub t ht), h.ap, fun d hd => ?_⟩
    rcases List.mem_append.1 hd with hd | hd
    · exact h.cov d hd
    · obtain rfl := List.mem_singleton.1 hd
      exact ⟨y, hy, hr⟩
  · rename_i ha
    refine ⟨fun t ht => ?_, List.pairwise_append.2 ⟨List.Pairwise.filter _ h.ap, List.pairwise_singleton _ _, fun a haT b hb => ?_⟩, fun d hd => ?_⟩
    · rcases List.mem_append.1 ht with ht | ht
      · exact List.mem_append_left _ (h.sub t (List.mem_filter.1 ht).1)
      · exact List.mem_append_right _ ht
    · obtain rfl := List.mem_singleton.1 hb
      have h1 := List.mem_filter.1 haT
      have h2 : r a b = false := by simpa using h1.2
      refine ⟨h2, ?_⟩
      cases h4 : r b a
      · rfl
      · exact absurd (List.any_eq_true.2 ⟨a, h1.1, h4⟩) ha
    · have hxx : ∃ t ∈ T.filter (fun y => !r y x) ++ [x], r x t = true := ⟨x, List.mem_append_right _ (List.mem_singleton.2 rfl), hre x hx⟩
      rcases List.mem_append.1 hd with hd | hd
      · obtain ⟨t, ht, hr⟩ := h.cov d hd
        cases hq : r t x
        · exact ⟨t, List.mem_append_left _ (List.mem_filter.2 ⟨ht, by rw [hq]; rfl⟩), hr⟩
        · exact ⟨x, List.mem_append_right _ (List.mem_singleton.2 rfl), htr d t x (hP d hd) (hP t (h.sub t ht)) hx hr hq⟩
      · obtain rfl := List.mem_singleton.1 hd
        exact hxx
theorem gi_fold {α : Type} {r : α → α → Bool} {P : α → Prop} (hre : ∀ a, P a → r a a = true) (htr : ∀ a b c, P a → P b → P c → r a b = true → r b c = true → r a c = true) : ∀ (L T D : List α), GI r T D → (∀ d ∈ D, P d) → (∀ x ∈ L, P x) → GI r (L.foldl (gS r) T) (D ++ L)
  | [], T, D, h, _, _ => by simpa using h
  | x :: L, T, D, h, hD, hL => by
    have h1 := gi_step hre htr h hD (hL x List.mem_cons_self)
    have h2 := gi_fold hre htr L _ (D ++ [x]) h1 (fun d hd => by
      rcases List.mem_append.1 hd with hd | hd
      · exact hD d hd
      · obtain rfl := List.mem_singleton.1 hd
        exact hL _ List.mem_cons_self) (fun y hy => hL y (List.mem_cons_of_mem _ hy))
    simpa using h2
theorem gi_all {α : Type} {r : α → α → Bool} {P : α → Prop} (hre : ∀ a, P a → r a a = true) (htr : ∀ a b c, P a → P b → P c → r a b = true → r b c = true → r a c = true) {L : List α} (hL : ∀ x ∈ L, P x) : GI r (L.foldl (gS r) []) L := by
  have h := gi_fold hre htr L [] [] ⟨fun t ht => (by cases ht), List.Pairwise.nil, fun d hd => (by cases hd)⟩ (fun d hd => (by cases hd)) hL
  simpa using h
theorem gi_mem {α : Type} {r : α → α → Bool} {P : α → Prop} (htr : ∀ a b c, P a → P b → P c → r a b = true → r b c = true → r a c = true) (han : ∀ a b, P a → P b → r a b = true → r b a = true → a = b) {L T : List α} (hL : ∀ x ∈ L, P x) (h : GI r T L) (y : α) : y ∈ T ↔ y ∈ L ∧ ∀ z ∈ L, r y z = true → z = y := by
  have key : ∀ a ∈ T, ∀ b ∈ T, r a b = true → a = b := fun a ha b hb hr => by
    obtain ⟨i, hi, rfl⟩ := List.getElem_of_mem ha
    obtain ⟨j, hj, rfl⟩ := List.getElem_of_mem hb
    rcases Nat.lt_trichotomy i j with hlt | rfl | hlt
    · have := (List.pairwise_iff_getElem.1 h.ap i j hi hj hlt).1
      rw [hr] at this
      cases this
    · rfl
    · have := (List.pairwise_iff_getElem.1 h.ap j i hj hi hlt).2
      rw [hr] at this
      cases this
  constructor
  · intro hy
    refine ⟨h.sub y hy, fun z hz hr => ?_⟩
    obtain ⟨t, ht, hzt⟩ := h.cov z hz
    have e : y = t := key y hy t ht (htr y z t (hL y (h.sub y hy)) (hL z hz) (hL t (h.sub t ht)) hr hzt)
    subst e
    exact han z y (hL z hz) (hL y (h.sub y hy)) hzt hr
  · rintro ⟨hy, hm⟩
    obtain ⟨t, ht, hr⟩ := h.cov y hy
    have e := hm t (h.sub t ht) hr
    subst e
    exact ht
theorem gi_nodup {α : Type} {r : α → α → Bool} {P : α → Prop} (hre : ∀ a, P a → r a a = true) {L T : List α} (hL : ∀ x ∈ L, P x) (h : GI r T L) : T.Nodup := by
  refine List.pairwise_iff_getElem.2 (fun i j hi hj hlt e => ?_)
  have h1 := (List.pairwise_iff_getElem.1 h.ap i j hi hj hlt).1
  rw [← e, hre _ (hL _ (h.sub _ (List.getElem_mem hi)))] at h1
  cases h1
theorem perm_mem {α : Type} [DecidableEq α] : ∀ (A B : List α), A.Nodup → B.Nodup → (∀ x, x ∈ A ↔ x ∈ B) → A.Perm B
  | [], B, _, _, h => by
    have : B = [] := by
      cases hB : B with
      | nil => rfl
      | cons b l => rw [hB] at h; exact absurd ((h b).2 List.mem_cons_self) (by simp)
    rw [this]
  | a :: A, B, hA, hB, h => by
    have ha : a ∈ B := (h a).1 List.mem_cons_self
    have h1 := perm_mem A (B.erase a) (List.nodup_cons.1 hA).2 (hB.erase a) (fun x => by
      rw [hB.mem_erase_iff]
      constructor
      · intro hx
        exact ⟨fun e => (List.nodup_cons.1 hA).1 (e ▸ hx), (h x).1 (List.mem_cons_of_mem _ hx)⟩
      · rintro ⟨hne, hx⟩
        rcases List.mem_cons.1 ((h x).2 hx) with e | hx
        · exact absurd e hne
        · exact hx)
    exact (List.Perm.cons a h1).trans (List.perm_cons_erase ha).symm
/-- the greatest of two lists of the same members are the same, but for the order -/
theorem g_perm {α : Type} [DecidableEq α] {r : α → α → Bool} {P : α → Prop} (hre : ∀ a, P a → r a a = true) (htr : ∀ a b c, P a → P b → P c → r a b = true → r b c = true → r a c = true) (han : ∀ a b, P a → P b → r a b = true → r b a = true → a = b) {L M : List α} (hL : ∀ x ∈ L, P x) (hm : ∀ x, x ∈ L ↔ x ∈ M) : (L.foldl (gS r) []).Perm (M.foldl (gS r) []) := by
  have hM : ∀ x ∈ M, P x := fun x hx => hL x ((hm x).2 hx)
  have h1 := gi_all hre htr hL
  have h2 := gi_all hre htr hM
  refine perm_mem _ _ (gi_nodup hre hL h1) (gi_nodup hre hM h2) (fun y => ?_)
  rw [gi_mem htr han hL h1 y, gi_mem htr han hM h2 y, hm y]
  constructor
  · rintro ⟨a, b⟩
    exact ⟨a, fun z hz => b z ((hm z).2 hz)⟩
  · rintro ⟨a, b⟩
    exact ⟨a, fun z hz => b z ((hm z).1 hz)⟩
theorem wi_rf {a : List UInt8} (h : a ≠ []) : wiB a a = true := by
  unfold wiB
  rw [Bool.and_eq_true, allTo_iff]
  refine ⟨?_, fun k hk => ?_⟩
  · cases a with
    | nil => exact absurd rfl h
    | cons x l => simp [fitB]
  · rw [List.getElem?_eq_getElem hk]
    simp
theorem wi_pos {a b : List UInt8} (h : wiB a b = true) : fitB a b = true ∧ ∀ k (k1 : k < a.length) (k2 : k < b.length), b[k] = 120 ∨ a[k] = b[k] := by
  unfold wiB at h
  rw [Bool.and_eq_true, allTo_iff] at h
  refine ⟨h.1, fun k k1 k2 => ?_⟩
  have e1 := h.2 k k1
  simp only [List.getElem?_eq_getElem k1, List.getElem?_eq_getElem k2, Bool.or_eq_true, beq_iff_eq] at e1
  exact e1
theorem wi_mk {a b : List UInt8} (hf : fitB a b = true) (h : ∀ k (k1 : k < a.length) (k2 : k < b.length), b[k] = 120 ∨ a[k] = b[k]) : wiB a b = true := by
  unfold wiB
  rw [Bool.and_eq_true, allTo_iff]
  refine ⟨hf, fun k k1 => ?_⟩
  have k2 : k < b.length := by rw [← fitB_len hf]; exact k1
  simp only [List.getElem?_eq_getElem k1, List.getElem?_eq_getElem k2, Bool.or_eq_true, beq_iff_eq]
  exact h k k1 k2
theorem fit_mk {a b : List UInt8} (hl : a.length = b.length) (hn : a ≠ []) : fitB a b = true := by
  unfold fitB
  cases a with
  | nil => exact absurd rfl hn
  | cons x l => simp_all
theorem fit_ne {a b : List UInt8} (h : fitB a b = true) : a ≠ [] ∧ b ≠ [] := by
  have hl := fitB_len h
  constructor
  · rintro rfl
    simp [fitB] at h
  · rintro rfl
    have : a = [] := by simpa using hl
    rw [this] at h
    simp [fitB] at h
theorem wi_trans {a b c : List UInt8} (h1 : wiB a b = true) (h2 : wiB b c = true) : wiB a c = true := by
  obtain ⟨f1, p1⟩ := wi_pos h1
  obtain ⟨f2, p2⟩ := wi_pos h2
  have l1 := fitB_len f1
  have l2 := fitB_len f2
  refine wi_mk (fit_mk (l1.trans l2) (fit_ne f1).1) (fun k k1 k3 => ?_)
  have k2 : k < b.length := by omega
  rcases p2 k k2 k3 with e | e
  · exact .inl e
  · rcases p1 k k1 k2 with e2 | e2
    · exact .inl (by rw [← e]; exact e2)
    · exact .inr (e2.trans e)
/-- what lies in both lies in what they have in common -/
theorem wi_glb {x m c : List UInt8} (gm : good m = true) (gc : good c = true) (h1 : wiB x m = true) (h2 : wiB x c = true) : agB m c = true ∧ wiB x (mtT m c) = true := by
  obtain ⟨f1, p1⟩ := wi_pos h1
  obtain ⟨f2, p2⟩ := wi_pos h2
  have l1 := fitB_len f1
  have l2 := fitB_len f2
  have hl : m.length = c.length := by omega
  have hag : agB m c = true := by
    unfold agB
    rw [Bool.and_eq_true, allTo_iff]
    refine ⟨fit_mk hl (fit_ne f1).2, fun k k1 => ?_⟩
    have k0 : k < x.length := by omega
    have k2 : k < c.length := by omega
    have e1 := p1 k k0 k1
    have e2 := p2 k k0 k2
    have ta := good_tri gm k k1
    have tb := good_tri gc k k2
    unfold cfl fx on
    rw [List.getElem?_eq_getElem k1, List.getElem?_eq_getElem k2]
    generalize m[k] = u at *
    generalize c[k] = v at *
    generalize x[k] = z at *
    simp [tri] at ta tb
    rcases ta with (rfl | rfl) | rfl <;> rcases tb with (rfl | rfl) | rfl <;> simp_all
  refine ⟨hag, ?_⟩
  unfold mtT
  rw [if_pos hag]
  have hml := meetT_len m c hl
  refine wi_mk (fit_mk (by omega) (fit_ne f1).1) (fun k k1 k3 => ?_)
  have k2 : k < m.length := by omega
  have k4 : k < c.length := by omega
  have hg := meetT_get m c hl k k2
  rw [List.getElem?_eq_getElem k3] at hg
  have e1 := p1 k k1 k2
  have e2 := p2 k k1 k4
  have ta := good_tri gm k k2
  have tb := good_tri gc k k4
  have hg2 := Option.some.inj hg
  rw [hg2]
  generalize m[k] = u at *
  generalize c[k] = v at *
  generalize x[k] = z at *
  simp [tri] at ta tb
  rcases ta with (rfl | rfl) | rfl <;> rcases tb with (rfl | rfl) | rfl <;> simp_all
end Go.Proofs.YtcmajlianphoaaaGreatDoor
namespace Go.Proofs.YtcmajlianphoaaaGreatDoor
open Go.RowKit Go.Shelf
theorem mt_ne {m c : List UInt8} (h : agB m c = true) : mtT m c ≠ [] := by
  have hf := agB_fit h
  have hl := fitB_len hf
  unfold mtT
  rw [if_pos h]
  intro e
  have h1 := meetT_len m c hl
  rw [e] at h1
  exact (fit_ne hf).1 (List.eq_nil_of_length_eq_zero h1.symm)
theorem mt_first {m c : List UInt8} (gm : good m = true) (gc : good c = true) (h : agB m c = true) : wiB (mtT m c) m = true := by
  have hn := mt_ne h
  have hf := agB_fit h
  have hl := fitB_len hf
  have hcf := agB_cfl h
  unfold mtT at hn ⊢
  rw [if_pos h] at hn ⊢
  have hml := meetT_len m c hl
  refine wi_mk (fit_mk (by omega) hn) (fun k k1 k2 => ?_)
  have k4 : k < c.length := by omega
  have hg := meetT_get m c hl k k2
  rw [List.getElem?_eq_getElem k1] at hg
  rw [Option.some.inj hg]
  have ta := good_tri gm k k2
  have tb := good_tri gc k k4
  generalize m[k] = u at *
  generalize c[k] = v at *
  simp [tri] at ta tb
  rcases ta with (rfl | rfl) | rfl <;> rcases tb with (rfl | rfl) | rfl <;> simp_all
theorem cv_iff (a b : List UInt8 × List (List UInt8)) : cvC a b = true ↔ wiB a.1 b.1 = true ∧ ∀ n ∈ b.2, agB n a.1 = true → ∃ y ∈ a.2, wiB (mtT n a.1) y = true := by
  unfold cvC
  rw [Bool.and_eq_true, List.all_eq_true]
  constructor
  · rintro ⟨h1, h2⟩
    refine ⟨h1, fun n hn ha => ?_⟩
    have h3 := h2 n hn
    rw [ha] at h3
    have h4 : a.2.any (fun y => wiB (mtT n a.1) y) = true := by simpa using h3
    obtain ⟨y, hy, hw⟩ := List.any_eq_true.1 h4
    exact ⟨y, hy, hw⟩
  · rintro ⟨h1, h2⟩
    refine ⟨h1, fun n hn => ?_⟩
    cases ha : agB n a.1
    · rfl
    · obtain ⟨y, hy, hw⟩ := h2 n hn ha
      have h4 : a.2.any (fun y => wiB (mtT n a.1) y) = true := List.any_eq_true.2 ⟨y, hy, hw⟩
      rw [h4]
      rfl
def gdT (t : List UInt8 × List (List UInt8)) : Prop := good t.1 = true ∧ ∀ x ∈ t.2, good x = true
theorem cv_refl {a : List UInt8 × List (List UInt8)} (g : gdT a) (hn : a.1 ≠ []) : cvC a a = true := (cv_iff a a).2 ⟨wi_rf hn, fun n hn ha => ⟨n, hn, mt_first (g.2 n hn) g.1 ha⟩⟩
theorem cv_trans {a b c : List UInt8 × List (List UInt8)} (ga : gdT a) (gb : gdT b) (gc : gdT c) (h1 : cvC a b = true) (h2 : cvC b c = true) : cvC a c = true := by
  obtain ⟨w1, c1⟩ := (cv_iff a b).1 h1
  obtain ⟨w2, c2⟩ := (cv_iff b c).1 h2
  refine (cv_iff a c).2 ⟨wi_trans w1 w2, fun n hn ha => ?_⟩
  have p1 := mt_first (gc.2 n hn) ga.1 ha
  have p2 := mt_within (gc.2 n hn) ga.1 ha
  obtain ⟨hb, p3⟩ := wi_glb (gc.2 n hn) gb.1 p1 (wi_trans p2 w1)
  obtain ⟨y, hy, q1⟩ := c2 n hn hb
  obtain ⟨hya, p4⟩ := wi_glb (gb.2 y hy) ga.1 (wi_trans p3 q1) p2
  obtain ⟨z, hz, q2⟩ := c1 y hy hya
  exact ⟨z, hz, wi_trans p4 q2⟩
theorem ap_key {L : List (List UInt8)} (h : apL L) {a b : List UInt8} (ha : a ∈ L) (hb : b ∈ L) (hr : wiB a b = true) : a = b := by
  obtain ⟨i, hi, rfl⟩ := List.getElem_of_mem ha
  obtain ⟨j, hj, rfl⟩ := List.getElem_of_mem hb
  rcases Nat.lt_trichotomy i j with hlt | rfl | hlt
  · have := (List.pairwise_iff_getElem.1 h i j hi hj hlt).1
    rw [hr] at this
    cases this
  · rfl
  · have := (List.pairwise_iff_getElem.1 h j i hj hi hlt).2
    rw [hr] at this
    cases this
theorem wi_ne {a b : List UInt8} (h : wiB a b = true) : a ≠ [] := (fit_ne (wi_pos h).1).1
theorem ap_nodup {L : List (List UInt8)} (h : apL L) (hn : ∀ x ∈ L, x ≠ []) : L.Nodup := by
  refine List.pairwise_iff_getElem.2 (fun i j hi hj hlt e => ?_)
  have h1 := (List.pairwise_iff_getElem.1 h i j hi hj hlt).1
  rw [← e, wi_rf (hn _ (List.getElem_mem hi))] at h1
  cases h1
theorem cv_anti {a b : List UInt8 × List (List UInt8)} (fa : FTm a) (fb : FTm b) (h1 : cvC a b = true) (h2 : cvC b a = true) : a = b := by
  obtain ⟨w1, c1⟩ := (cv_iff a b).1 h1
  obtain ⟨w2, c2⟩ := (cv_iff b a).1 h2
  have e1 := wi_anti2 w1 w2
  have half : ∀ (x y : List UInt8 × List (List UInt8)), FTm x → FTm y → x.1 = y.1 → (∀ n ∈ y.2, agB n x.1 = true → ∃ z ∈ x.2, wiB (mtT n x.1) z = true) → ∀ n ∈ y.2, ∃ z ∈ x.2, wiB n z = true := fun x y fx fy e hc n hn => by
    have h3 := wi_eq n x.1 (fy.gl n hn) fx.gc
    rw [e, fy.wi n hn, ← e] at h3
    obtain ⟨h4, h5⟩ := Bool.and_eq_true_iff.1 h3
    have h6 : mtT n x.1 = n := by simpa using h5
    obtain ⟨z, hz, hw⟩ := hc n hn h4
    rw [h6] at hw
    exact ⟨z, hz, hw⟩
  have A1 := half a b fa fb e1 c1
  have A2 := half b a fb fa e1.symm c2
  have sub : ∀ (x y : List UInt8 × List (List UInt8)), FTm y → (∀ n ∈ y.2, ∃ z ∈ x.2, wiB n z = true) → (∀ n ∈ x.2, ∃ z ∈ y.2, wiB n z = true) → ∀ n ∈ y.2, n ∈ x.2 := fun x y fy hx hy n hn => by
    obtain ⟨z, hz, hw⟩ := hx n hn
    obtain ⟨n2, hn2, hw2⟩ := hy z hz
    have e := ap_key fy.ap hn hn2 (wi_trans hw hw2)
    subst e
    have e2 := wi_anti2 hw hw2
    rw [e2]
    exact hz
  have hp : a.2.Perm b.2 := perm_mem _ _ (ap_nodup fa.ap (fun x hx => wi_ne (fa.wi x hx))) (ap_nodup fb.ap (fun x hx => wi_ne (fb.wi x hx))) (fun x => ⟨sub b a fa A2 A1 x, sub a b fb A1 A2 x⟩)
  have e2 : a.2 = b.2 := (srt_eq hp fa.so).trans (srt_eq (List.Perm.refl _) fb.so).symm
  exact Prod.ext e1 e2
theorem topL_perm {L M : List (List UInt8)} (hL : ∀ x ∈ L, x ≠ []) (hm : ∀ x, x ∈ L ↔ x ∈ M) : (topL L).Perm (topL M) := g_perm (r := wiB) (P := fun x => x ≠ []) (fun _ h => wi_rf h) (fun _ _ _ _ _ _ h1 h2 => wi_trans h1 h2) (fun _ _ _ _ h1 h2 => wi_anti2 h1 h2) hL hm
theorem topC_perm {L M : List (List UInt8 × List (List UInt8))} (hL : ∀ x ∈ L, FTm x ∧ x.1 ≠ []) (hm : ∀ x, x ∈ L ↔ x ∈ M) : (topC L).Perm (topC M) := g_perm (r := cvC) (P := fun x => FTm x ∧ x.1 ≠ []) (fun _ h => cv_refl ⟨h.1.gc, h.1.gl⟩ h.2) (fun _ _ _ ha hb hc h1 h2 => cv_trans ⟨ha.1.gc, ha.1.gl⟩ ⟨hb.1.gc, hb.1.gl⟩ ⟨hc.1.gc, hc.1.gl⟩ h1 h2) (fun _ _ ha hb h1 h2 => cv_anti ha.1 hb.1 h1 h2) hL hm
theorem ordT_cong {X Y : List (List UInt8 × List (List UInt8))} (h : (X.map sof).Perm (Y.map sof)) : ordT X = ordT Y := by
  have h1 : (X.map (fun t => t.1 :: srtT t.2)).Perm (Y.map (fun t => t.1 :: srtT t.2)) := by
    have e : ∀ Z : List (List UInt8 × List (List UInt8)), Z.map (fun t => t.1 :: srtT t.2) = (Z.map sof).map (fun t => t.1 :: t.2) := fun Z => by rw [List.map_map]; rfl
    rw [e, e]
    exact h.map _
  have hs : ∀ Z : List (List (List UInt8)), (srtLn Z).Pairwise (fun a b => leLn a b = true) := fun Z => List.pairwise_mergeSort leLn_trans leLn_total _
  unfold ordT
  rw [srtLn_eq ((srtLn_perm _).trans h1) (hs (X.map (fun t => t.1 :: srtT t.2)))]
/-- the form hangs on the terms alone, not on their order -/
theorem form_cong {L M : List (List UInt8 × List (List UInt8))} (hL : ∀ x ∈ L.map sof, FTm x ∧ x.1 ≠ []) (hm : ∀ x, x ∈ L.map sof ↔ x ∈ M.map sof) : ordT (topC L) = ordT (topC M) := by
  refine ordT_cong ?_
  rw [← topC_sof, ← topC_sof]
  exact topC_perm hL hm
theorem set_cong {c : List UInt8} {M N : List (List UInt8)} (hm : ∀ x, x ∈ M ↔ x ∈ N) : (setO c M).map srtT = (setO c N).map srtT := by
  have hl : ∀ x, x ∈ lesL c M ↔ x ∈ lesL c N := fun x => by
    unfold lesL
    rw [List.mem_filterMap, List.mem_filterMap]
    constructor
    · rintro ⟨m, h1, h2⟩
      exact ⟨m, (hm m).1 h1, h2⟩
    · rintro ⟨m, h1, h2⟩
      exact ⟨m, (hm m).2 h1, h2⟩
  have ha : (lesL c M).any (fun t => t == c) = (lesL c N).any (fun t => t == c) := by
    rw [Bool.eq_iff_iff, List.any_eq_true, List.any_eq_true]
    constructor
    · rintro ⟨m, h1, h2⟩
      exact ⟨m, (hl m).1 h1, h2⟩
    · rintro ⟨m, h1, h2⟩
      exact ⟨m, (hl m).2 h1, h2⟩
  unfold setO
  rw [ha]
  split
  · rfl
  · have hp := topL_perm (L := lesL c M) (M := lesL c N) (fun x hx => by
      unfold lesL at hx
      obtain ⟨m, h1, h2⟩ := List.mem_filterMap.1 hx
      split at h2
      · rename_i h3
        cases h2
        exact mt_ne h3
      · cases h2) hl
    show some (srtT (topL (lesL c M))) = some (srtT (topL (lesL c N)))
    exact congrArg some (srt_eq ((srtT_perm _).trans hp) (srtT_sorted (topL (lesL c M))))
end Go.Proofs.YtcmajlianphoaaaGreatDoor
namespace Go.Proofs.YtcmajlianphoaaaGreatDoor
open Go.RowKit

/-- place k of a header suits a cube's -/
def okH (t h : List UInt8) (k : Nat) : Bool := match t[k]?, h[k]? with | some x, some d => (d == 48 || d == 49) && (x == 120 || x == d) | _, _ => true
/-- P1.4 -/
def hasB (t h : List UInt8) : Bool := !t.isEmpty && (t.length == h.length) && allTo (okH t h) t.length

theorem byteH_bne (x : UInt8) (n : Nat) (hn : n < 256) : ((x.toNat : Int) != (n : Int)) = !(x == UInt8.ofNat n) := by
  unfold bne
  congr 1
  rw [Bool.eq_iff_iff, beq_iff_eq, beq_iff_eq]
  constructor
  · intro e
    have : x.toNat = n := by omega
    rw [← this]; simp
  · intro e; subst e
    simp [UInt8.toNat_ofNat', Nat.mod_eq_of_lt hn]

theorem byteH_bne2 (x y : UInt8) : ((x.toNat : Int) != (y.toNat : Int)) = !(x == y) := by
  unfold bne
  congr 1
  rw [Bool.eq_iff_iff, beq_iff_eq, beq_iff_eq]
  constructor
  · intro e; exact UInt8.toNat_inj.1 (by omega)
  · intro e; subst e; rfl

theorem okH_eq (t : List UInt8) (s : ByteArray) (k : Nat) (hk : k < t.length) (hks : k < s.size) (p1 p2 p3 p4 : Bool) (n1 : ((s[k].toNat : Int) != 48) = p1) (n2 : ((s[k].toNat : Int) != 49) = p2) (n3 : ((t[k].toNat : Int) != 120) = p3) (n4 : ((t[k].toNat : Int) != (s[k].toNat : Int)) = p4) :
    okH t s.data.toList k = !((p1 && p2) || (p3 && p4)) := by
  have e1 := byteH_bne s[k] 48 (by decide)
  have e2 := byteH_bne s[k] 49 (by decide)
  have e3 := byteH_bne t[k] 120 (by decide)
  have e4 := byteH_bne2 t[k] s[k]
  have hs : s.data.toList[k]? = some s[k] := by rw [List.getElem?_eq_getElem (by simpa using hks)]; rfl
  simp only [okH, hs, List.getElem?_eq_getElem hk]
  subst n1 n2 n3 n4
  have f1 : ((s[k].toNat : Int) != 48) = !(s[k] == 48) := e1
  have f2 : ((s[k].toNat : Int) != 49) = !(s[k] == 49) := e2
  have f3 : ((t[k].toNat : Int) != 120) = !(t[k] == 120) := e3
  rw [f1, f2, f3, e4]
  cases (s[k] == 48) <;> cases (s[k] == 49) <;> cases (t[k] == 120) <;> cases (t[k] == s[k]) <;> rfl

theorem okH_succ {p : Nat → Bool} {k : Nat} {q : Bool} (h : ∀ j, j < k → p j = true) (hk : p k = q) (hq : q = true := by rfl) : ∀ j, j < k + 1 → p j = true := by
  intro j hj
  by_cases e : j = k
  · subst e; rw [hk, hq]
  · exact h j (by omega)

end Go.Proofs.YtcmajlianphoaaaGreatDoor
namespace Go.Proofs.YtcmajlianphoaaaGreatDoor
open Go.RowKit
/-- a header is in a term -/
def thB (c : List UInt8) (L : List (List UInt8)) (h : List UInt8) : Bool := hasB c h && L.all (fun m => !hasB m h)
end Go.Proofs.YtcmajlianphoaaaGreatDoor
namespace Go.Proofs.YtcmajlianphoaaaGreatDoor
open Go.RowKit
/-- a header is in one of the terms -/
def hsB (Ts : List (List UInt8 × List (List UInt8))) (h : List UInt8) : Bool := Ts.any (fun t => thB t.1 t.2 h)
theorem any_noV {α : Type} {L : List α} {p : α → Bool} {n : Nat} (hn : L.length ≤ n) (h : ∀ j t, j < n → L[j]? = some t → p t = false) : L.any p = false := by
  rw [List.any_eq_false]
  intro t ht
  obtain ⟨j, hj, he⟩ := List.getElem_of_mem ht
  rw [h j t (by omega) (by rw [List.getElem?_eq_getElem hj, he])]
  simp
end Go.Proofs.YtcmajlianphoaaaGreatDoor
namespace Go.Proofs.YtcmajlianphoaaaGreatDoor
open Go.RowKit Go.Shelf
def digB (d : UInt8) : Bool := d == 48 || d == 49
/-- a header of that width -/
def hdB (b : Int) (l : List UInt8) : Bool := ((l.length : Int) == b) && !(b == 0) && l.all digB
theorem dig_succ {s : ByteArray} {k : Nat} (hk : k < s.size) (h : ∀ j (h : j < s.data.toList.length), j < k → digB s.data.toList[j] = true) (c : s[k] = 48 ∨ s[k] = 49) : ∀ j (h : j < s.data.toList.length), j < k + 1 → digB s.data.toList[j] = true := by
  intro j hj hlt
  by_cases e : j < k
  · exact h j hj e
  · obtain rfl : j = k := by omega
    have e2 : s.data.toList[j] = s[j] := rfl
    rw [e2]
    unfold digB
    rcases c with c | c <;> rw [c] <;> rfl
end Go.Proofs.YtcmajlianphoaaaGreatDoor
namespace Go.Proofs.YtcmajlianphoaaaGreatDoor
open Go.RowKit Go.Shelf
/-- the document's: a header is in a term -/
def tdB (c : List UInt8) (L : List (List UInt8)) (h : List UInt8) : Bool := wiB h c && L.all (fun m => !wiB h m)
theorem good_hd {b : Int} {l : List UInt8} (h : hdB b l = true) (hb : b ≤ 256) : good l = true := by
  unfold hdB at h
  obtain ⟨h1, h2⟩ := Bool.and_eq_true_iff.1 h
  have h3 : (l.length : Int) = b := by simpa using (Bool.and_eq_true_iff.1 h1).1
  have h4 := List.all_eq_true.1 h2
  unfold good
  rw [Bool.and_eq_true, List.all_eq_true]
  refine ⟨by simp; omega, fun x hx => ?_⟩
  have h5 := h4 x hx
  unfold digB at h5
  unfold tri
  rcases Bool.or_eq_true_iff.1 h5 with h5 | h5 <;> rw [h5] <;> simp
end Go.Proofs.YtcmajlianphoaaaGreatDoor

import Derived.Test.YtfcdaljhbeogeaaRU
namespace Go.Proofs.Ytfcdaljhbeogeaa
open Go.RowKit
set_option maxRecDepth 100000 in
set_option maxHeartbeats 2000000 in
theorem edgesOf_any (L : List IRt) (o : Option Addr) (c : Nat) (w : World) (hL : L.length ≤ 270) (hr : IRR w o L) :
    Calls Try.prog 9 #[.slice o L.length c] w fun e w' => ∃ g c' : Nat, e = .returned (.slice (some ⟨g, 0, none⟩) L.length c') ∧ L.length + 1 ≤ c' ∧ w'.ownsRow w.heap.size 34 4 (.slice (some ⟨g, 0, none⟩) (L.length + 1) c') (L.length + 1) (rels (L ++ [(91, 0, 0, 0)])) ∧ Below w.heap.size w w' := by
  obtain ⟨i0, hi, hz0, hz1, hz2⟩ := info_parts info_ed
  have hlr := rels_len L
  cases o with
  | none =>
    have h0 : L = [] := by
      cases L with
      | nil => rfl
      | cons r L =>
        obtain ⟨g, o0, e, -⟩ := hr w (Below.refl _ _) 0 r rfl
        cases e
    subst h0
    show Calls Try.prog 9 #[.slice none 0 c] w _
    go_enter Try.func9, Try.ntmps9
    go_wp2_with (at_builtin; refine wpList_append_own _ rfl _ _ 22 rfl w.heap.size 34 i0 _ 4 32 Try.underlying22 hi hz0 hz1 hz2 rfl (by decide) _ _ _ rfl (World.ownsRow_nil _ _ _ _) ⟨_, 0, none⟩ 1 1 [.int .i64 91, .int .i64 0, .int .i64 0, .int .i64 0] rfl rfl (World.news_of_block (cs := #[.int .i64 91, .int .i64 0, .int .i64 0, .int .i64 0]) (t := 34) (fr := (0, 0)) (alloc_get _ _)) (by simp [Value.oneCell']) (by unfold maxLen; omega) (by omega) (by simp) ?_; intro v6 w6 oB hg6 _; obtain ⟨p6, c6, rfl⟩ := shapeP oB; obtain ⟨g6, rfl⟩ := rown_at oB (by omega); have hc6 := rown_cap oB; have k1 : (0 : Int) ≤ (c6 : Int) := by omega)
    go_ret
    refine ⟨g6, c6, rfl, by simpa using hc6, ?_, ?_⟩
    · exact oB
    · exact ((Below.refl w.heap.size w).alloc (Nat.le_refl _) _).grown hg6 (by simp) (fun k e => by cases e)
  | some ad =>
    have HNW : Hid (∀ (j : Nat) (u : Value), (rels L)[j]? = some u → w.cell? (ad.add j) = some u) := fun j u h => by
      cases L with
      | nil => simp [rels] at h
      | cons r L =>
        obtain ⟨g, o0, e, -⟩ := hr w (Below.refl _ _) 0 r rfl
        injection e with e
        subst e
        have := rels_news hr j u h
        unfold Addr.add
        split
        · rename_i e
          subst e
          simpa using this
        · exact this
    have HON : Hid (∀ u ∈ rels L, u.oneCell' = true) := rels_one
    obtain ⟨n, hn⟩ : ∃ n, L.length = n := ⟨_, rfl⟩
    rw [hn] at hlr hL ⊢
    clear hr hn
    obtain ⟨v0, hv0⟩ : ∃ v0, Value.slice none 0 0 = v0 := ⟨_, rfl⟩
    have oZ : w.ownsRow w.heap.size 34 4 v0 0 [] := by rw [← hv0]; exact World.ownsRow_nil _ _ _ _
    go_enter Try.func9, Try.ntmps9
    go_upto_region 2 with fail
    simp only [hv0]
    clear hv0
    go_wp2_with (at_builtin; first | (have chk := oA; refine wpList_append_own _ rfl _ _ 22 rfl w.heap.size 34 i0 _ 4 32 Try.underlying22 hi hz0 hz1 hz2 rfl (by decide) _ _ _ rfl (oA.alloc _) ⟨_, 0, none⟩ 1 1 [.int .i64 91, .int .i64 0, .int .i64 0, .int .i64 0] rfl rfl (World.news_of_block (cs := #[.int .i64 91, .int .i64 0, .int .i64 0, .int .i64 0]) (t := 34) (fr := (0, 0)) (alloc_get _ _)) (by simp [Value.oneCell']) (by unfold maxLen; omega) (by omega) (by have := hg5.size; simp; omega) ?_; intro v6 w6 oB hg6 _; obtain ⟨p6, c6, rfl⟩ := shapeP oB; obtain ⟨g6, rfl⟩ := rown_at oB (by omega); have hc6 := rown_cap oB; have k1 : (n : Int) ≤ (c6 : Int) := by omega) | (refine wpList_append_own _ rfl _ _ 22 rfl w.heap.size 34 i0 _ 4 32 Try.underlying22 hi hz0 hz1 hz2 rfl (by decide) _ 0 [] rfl oZ ad n c (rels L) rfl hlr HNW.out HON.out (by unfold maxLen; omega) (by omega) (Nat.le_refl _) ?_; intro v5 w5 oA hg5 _))
    have hB5 : Below w.heap.size w w5 := (Below.refl _ _).grown hg5 (Nat.le_refl _) (fun k e => (oZ.lt k e).1)
    go_ret
    rw [List.nil_append, Nat.zero_add] at oB
    refine ⟨g6, c6, rfl, by omega, ?_, ?_⟩
    · rw [rels_app]
      exact oB
    · exact (hB5.alloc hB5.size _).grown hg6 (by have := hg5.size; simp; omega) (fun k e => (oA.lt k e).1)
theorem rels_upd2 (K : List IRt) (i : Nat) (t : IRt) (z : Int) (ht : K[i]? = some t) : (rels K).set (i * 4 + 2) (.int .i64 z) = rels (K.set i (t.1, t.2.1, z, t.2.2.2)) := by
  have hl := rels_len K
  have hi := (List.getElem?_eq_some_iff.1 ht).1
  apply List.ext_getElem?
  intro j
  obtain ⟨q, m, rfl, hm⟩ : ∃ q m, j = q * 4 + m ∧ m < 4 := ⟨j / 4, j % 4, by omega, by omega⟩
  rw [rels_get _ q m hm]
  by_cases hq : q = i
  · subst hq
    rw [List.getElem?_set_self hi]
    rcases (show m = 0 ∨ m = 1 ∨ m = 2 ∨ m = 3 by omega) with rfl | rfl | rfl | rfl
    · rw [List.getElem?_set_ne (by omega), rels_get K q 0 hm, ht]; rfl
    · rw [List.getElem?_set_ne (by omega), rels_get K q 1 hm, ht]; rfl
    · rw [List.getElem?_set_self (by omega)]; rfl
    · rw [List.getElem?_set_ne (by omega), rels_get K q 3 hm, ht]; rfl
  · rw [List.getElem?_set_ne (by omega), List.getElem?_set_ne (fun e => hq e.symm), rels_get K q m hm]
/-- the first i have the costs of those from the end -/
def chc (L : List IRt) : Nat → List IRt
  | 0 => L
  | i + 1 => (chc L i).set i ((L.getD i (0, 0, 0, 0)).1, (L.getD i (0, 0, 0, 0)).2.1, (L.getD (L.length - 1 - i) (0, 0, 0, 0)).2.2.1, (L.getD i (0, 0, 0, 0)).2.2.2)
theorem chc_len (L : List IRt) : ∀ i, (chc L i).length = L.length
  | 0 => rfl
  | i + 1 => by rw [chc, List.length_set, chc_len L i]
theorem chc_at (L : List IRt) : ∀ i j, i ≤ j → (chc L i)[j]? = L[j]?
  | 0, _, _ => rfl
  | i + 1, j, h => by rw [chc, List.getElem?_set_ne (by omega), chc_at L i j (by omega)]
theorem shortR_len {N : Int} {E : List IRt} {D A B : List Int} (h : shortR N E D A B) : A.length ≤ 16 ∧ B.length ≤ 16 := by
  unfold shortR at h
  split at h
  · rename_i h0
    obtain ⟨_, hg, _⟩ := gfit_ok h0
    have := hg.nn
    rw [h.2.2.1.1, h.2.1]
    exact ⟨this, this⟩
  · rw [h.1, h.2]
    exact ⟨Nat.zero_le _, Nat.zero_le _⟩
theorem ints_own {W : World} {Ba Bb : Nat} {va vb : Value} {V : List Int} (hl : V.length ≤ 16) (ha : W.ownsRow Ba 3 1 va V.length (iv V)) (hb : W.ownsRow Bb 3 1 vb V.length (iv V)) : Calls Try.prog 13 #[va, vb] W fun e w' => e = .returned (.bool true) ∧ Below W.heap.size W w' := by
  obtain ⟨qa, ca, rfl⟩ := shapeP ha
  obtain ⟨qb, cb, rfl⟩ := shapeP hb
  exact ints_any V qa qb ca cb V.length W rfl (by omega) (IRI_of ha) (IRI_of hb)
end Go.Proofs.Ytfcdaljhbeogeaa

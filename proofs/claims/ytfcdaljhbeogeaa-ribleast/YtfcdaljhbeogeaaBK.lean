import Derived.Test.YtfcdaljhbeogeaaBJ
import Derived.Deep.AppendLies
namespace Go.Proofs.Ytfcdaljhbeogeaa
open Go.RowKit
theorem info_rt : (Try.prog.info? 59).map (fun i => (i.zero, i.size, i.bytes)) = some (some (.agg #[.int .i64 0, .int .i64 0, .int .i64 0, .int .i64 0]), 4, 32) := by kernel_rfl
def rels (L : List IRt) : List Value := L.flatMap rcel
theorem rels_len (L : List IRt) : (rels L).length = L.length * 4 := by
  unfold rels
  induction L with
  | nil => rfl
  | cons t L ih => rw [List.flatMap_cons, List.length_append, ih, List.length_cons]; show 4 + _ = _; omega
theorem rels_app (L M : List IRt) : rels (L ++ M) = rels L ++ rels M := by simp [rels]
theorem rels_get (L : List IRt) : ∀ (k m : Nat), m < 4 → (rels L)[k * 4 + m]? = L[k]?.bind fun t => (rcel t)[m]? := by
  induction L with
  | nil => intro k m _; simp [rels]
  | cons t L ih =>
    intro k m hm
    have e : rels (t :: L) = rcel t ++ rels L := rfl
    rw [e]
    cases k with
    | zero =>
      rw [List.getElem?_append_left (by show 0 * 4 + m < 4; omega)]
      simp
    | succ k =>
      rw [List.getElem?_append_right (by show 4 ≤ _; omega), show (k + 1) * 4 + m - (rcel t).length = k * 4 + m by show _ - 4 = _; omega, ih k m hm]
      simp
theorem rels_news {W : World} {g o0 : Nat} {L : List IRt} (h : IRR W (some ⟨g, o0, none⟩) L) : ∀ (k : Nat) (v : Value), (rels L)[k]? = some v → W.cell? ⟨g, o0 + k, none⟩ = some v := fun k v hk => by
  obtain ⟨q, m, rfl, hm⟩ : ∃ q m, k = q * 4 + m ∧ m < 4 := ⟨k / 4, k % 4, by omega, by omega⟩
  rw [rels_get L q m hm] at hk
  cases hq : L[q]? with
  | none => rw [hq] at hk; simp at hk
  | some t =>
    rw [hq] at hk
    obtain ⟨g3, o3, e, a0, a1, a2, a3⟩ := h W (Below.refl _ _) q t hq
    injection e with e
    injection e with e1 e2
    subst e1 e2
    simp only [Option.bind_some, rcel] at hk
    rcases (show m = 0 ∨ m = 1 ∨ m = 2 ∨ m = 3 by omega) with rfl | rfl | rfl | rfl
    · obtain rfl := Option.some.inj hk; exact a0
    · obtain rfl := Option.some.inj hk; exact a1
    · obtain rfl := Option.some.inj hk; exact a2
    · obtain rfl := Option.some.inj hk; exact a3
theorem rels_one {L : List IRt} : ∀ u ∈ rels L, u.oneCell' = true := fun u hu => by
  unfold rels at hu
  obtain ⟨t, -, ht⟩ := List.mem_flatMap.1 hu
  unfold rcel at ht
  simp only [List.mem_cons, List.not_mem_nil, or_false] at ht
  rcases ht with rfl | rfl | rfl | rfl <;> rfl
theorem IRR_own {W : World} {B g n c : Nat} {L : List IRt} (h : W.ownsRow B 59 4 (.slice (some ⟨g, 0, none⟩) n c) n (rels L)) : IRR W (some ⟨g, 0, none⟩) L := fun W' hW k t ht => by
  have h' := owns_below h hW
  have hl : L.length = n := by
    have := h.1
    rw [rels_len] at this
    omega
  have hk := (List.getElem?_eq_some_iff.1 ht).1
  have r := fun m hm => (rels_get L k m hm)
  have c := fun m (hm : m < 4) => (h'.cellAt (k * 4 + m) (by omega)).trans (r m hm)
  simp only [ht, Option.bind_some] at c
  exact ⟨g, 0, rfl, by rw [Nat.zero_add]; exact c 0 (by decide), by rw [Nat.zero_add]; exact c 1 (by decide), by rw [Nat.zero_add]; exact c 2 (by decide), by rw [Nat.zero_add]; exact c 3 (by decide)⟩
theorem rown_form {w : World} {B e sz n : Nat} {v : Value} {xs : List Value} (h : w.ownsRow B e sz v n xs) (hn : 0 < n) : ∃ g cap, v = .slice (some ⟨g, 0, none⟩) n cap := by
  rcases h.2 with hh | ⟨g, c, cur, h1, h2, h3, h4⟩
  · omega
  · exact ⟨g, c, h1⟩
theorem rown_at {w : World} {B e sz n c : Nat} {o : Option Addr} {xs : List Value} (h : w.ownsRow B e sz (.slice o n c) n xs) (hn : 0 < n) : ∃ g, o = some ⟨g, 0, none⟩ := by
  obtain ⟨g, cap, e⟩ := rown_form h hn
  cases e
  exact ⟨g, rfl⟩
theorem rown_cap {W : World} {B n c e sz : Nat} {o : Option Addr} {xs : List Value} (h : W.ownsRow B e sz (.slice o n c) n xs) : n ≤ c := by
  rcases h.2 with ⟨h', hn⟩ | ⟨g, cap, cur, h', _, _, hnc, _⟩
  · injection h' with _ h2 h3
    omega
  · injection h' with _ _ h3
    omega
set_option maxRecDepth 100000 in
set_option maxHeartbeats 2000000 in
theorem copied_any (L : List IRt) (o : Option Addr) (c : Nat) (w : World) (hL : L.length ≤ 270) (hr : IRR w o L) :
    Calls Try.prog 15 #[.slice o L.length c] w fun e w' => ∃ g c' : Nat, e = .returned (.slice (some ⟨g, 0, none⟩) L.length c') ∧ L.length + 2 ≤ c' ∧ IRR w' (some ⟨g, 0, none⟩) (L ++ [(91, 0, 0, 0), (92, 0, 0, 0)]) ∧ Below w.heap.size w w' := by
  obtain ⟨i0, hi, hz0, hz1, hz2⟩ := info_parts info_rt
  have hlr := rels_len L
  cases o with
  | none =>
    have h0 : L = [] := by
      cases L with
      | nil => rfl
      | cons r L =>
        obtain ⟨g, o0, e, -⟩ := hr w (Below.refl _ _) 0 r rfl
        cases e
    subst h0
    show Calls Try.prog 15 #[.slice none 0 c] w _
    go_enter Try.func15, Try.ntmps15
    go_wp2_with (at_builtin; refine wpList_append_own _ rfl _ _ 36 rfl w.heap.size 59 i0 _ 4 32 Try.underlying36 hi hz0 hz1 hz2 rfl (by decide) _ _ _ rfl (World.ownsRow_nil _ _ _ _) ⟨_, 0, none⟩ 2 2 [.int .i64 91, .int .i64 0, .int .i64 0, .int .i64 0, .int .i64 92, .int .i64 0, .int .i64 0, .int .i64 0] rfl rfl (World.news_of_block (cs := #[.int .i64 91, .int .i64 0, .int .i64 0, .int .i64 0, .int .i64 92, .int .i64 0, .int .i64 0, .int .i64 0]) (t := 59) (fr := (0, 0)) (alloc_get _ _)) (by simp [Value.oneCell']) (by unfold maxLen; omega) (by omega) (by simp) ?_; intro v6 w6 oB hg6 _; obtain ⟨p6, c6, rfl⟩ := shapeP oB; obtain ⟨g6, rfl⟩ := rown_at oB (by omega); have hc6 := rown_cap oB; have k1 : (0 : Int) ≤ (c6 : Int) := by omega)
    go_ret
    refine ⟨g6, c6, rfl, by simpa using hc6, ?_, ?_⟩
    · exact IRR_own (B := w.heap.size) (n := 2) (c := c6) oB
    · exact ((Below.refl w.heap.size w).alloc (Nat.le_refl _) _).grown hg6 (by simp) (fun k e => by cases e)
  | some ad =>
    have HNW : Hid (∀ (j : Nat) (u : Value), (rels L)[j]? = some u → w.cell? (ad.add j) = some u) := fun j u h => by
      cases L with
      | nil => simp [rels] at h
      | cons r L =>
        obtain ⟨g, o0, e, -⟩ := hr w (Below.refl _ _) 0 r rfl
        injection e with e
        subst e
        have := rels_news hr j u h
        unfold Addr.add
        split
        · rename_i e
          subst e
          simpa using this
        · exact this
    have HON : Hid (∀ u ∈ rels L, u.oneCell' = true) := rels_one
    obtain ⟨n, hn⟩ : ∃ n, L.length = n := ⟨_, rfl⟩
    rw [hn] at hlr hL ⊢
    clear hr hn
    obtain ⟨v0, hv0⟩ : ∃ v0, Value.slice none 0 0 = v0 := ⟨_, rfl⟩
    have oZ : w.ownsRow w.heap.size 59 4 v0 0 [] := by rw [← hv0]; exact World.ownsRow_nil _ _ _ _
    go_enter Try.func15, Try.ntmps15
    go_upto_region 2 with fail
    simp only [hv0]
    clear hv0
    go_wp2_with (at_builtin; first | (have chk := oA; refine wpList_append_own _ rfl _ _ 36 rfl w.heap.size 59 i0 _ 4 32 Try.underlying36 hi hz0 hz1 hz2 rfl (by decide) _ _ _ rfl (oA.alloc _) ⟨_, 0, none⟩ 2 2 [.int .i64 91, .int .i64 0, .int .i64 0, .int .i64 0, .int .i64 92, .int .i64 0, .int .i64 0, .int .i64 0] rfl rfl (World.news_of_block (cs := #[.int .i64 91, .int .i64 0, .int .i64 0, .int .i64 0, .int .i64 92, .int .i64 0, .int .i64 0, .int .i64 0]) (t := 59) (fr := (0, 0)) (alloc_get _ _)) (by simp [Value.oneCell']) (by unfold maxLen; omega) (by omega) (by have := hg5.size; simp; omega) ?_; intro v6 w6 oB hg6 _; obtain ⟨p6, c6, rfl⟩ := shapeP oB; obtain ⟨g6, rfl⟩ := rown_at oB (by omega); have hc6 := rown_cap oB; have k1 : (n : Int) ≤ (c6 : Int) := by omega) | (refine wpList_append_own _ rfl _ _ 36 rfl w.heap.size 59 i0 _ 4 32 Try.underlying36 hi hz0 hz1 hz2 rfl (by decide) _ 0 [] rfl oZ ad n c (rels L) rfl hlr HNW.out HON.out (by unfold maxLen; omega) (by omega) (Nat.le_refl _) ?_; intro v5 w5 oA hg5 _))
    have hB5 : Below w.heap.size w w5 := (Below.refl _ _).grown hg5 (Nat.le_refl _) (fun k e => (oZ.lt k e).1)
    go_ret
    rw [List.nil_append, Nat.zero_add] at oB
    refine ⟨g6, c6, rfl, by omega, ?_, ?_⟩
    · refine IRR_own (B := w.heap.size) (n := n + 2) (c := c6) ?_
      rw [rels_app]
      exact oB
    · exact (hB5.alloc hB5.size _).grown hg6 (by have := hg5.size; simp; omega) (fun k e => (oA.lt k e).1)
/-- a row of numbers lies there, now and later -/
def IRI (w : World) (o : Option Addr) (V : List Int) : Prop := ∀ W : World, Below w.heap.size w W → ∀ (k : Nat) (v : Int), V[k]? = some v → ∃ g o0, o = some ⟨g, o0, none⟩ ∧ W.cell? ⟨g, o0 + k, none⟩ = some (.int .i64 v)
end Go.Proofs.Ytfcdaljhbeogeaa

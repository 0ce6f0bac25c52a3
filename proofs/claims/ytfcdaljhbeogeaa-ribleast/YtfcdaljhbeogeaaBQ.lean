import Derived.Test.YtfcdaljhbeogeaaBP
namespace Go.Proofs.Ytfcdaljhbeogeaa
open Go.RowKit
theorem rown_capL {W : World} {B n c e sz : Nat} {o : Option Addr} {xs : List Value} (h : W.ownsRow B e sz (.slice o n c) n xs) : n ≤ c := by
  rcases h.2 with ⟨h', hn⟩ | ⟨g, cap, cur, h', _, _, hnc, _⟩
  · injection h' with _ h2 h3
    omega
  · injection h' with _ _ h3
    omega
set_option maxRecDepth 100000 in
set_option maxHeartbeats 1000000 in
theorem htake_any {X : HX} (C : HC X) {lt : Nat → Nat → Bool} (S : SWO lt) {N : Nat} (F : FA X lt N) {W : World} {v : Value} {V : List Nat} (h : HS X W v V) (hh : hp lt V) (hV : ∀ x ∈ V, x < N) (hl : V.length ≤ 65536) {x : Nat} (hx : V[0]? = some x) : Calls Try.prog 49 #[.pointer (some ⟨X.hb, X.ho, none⟩)] W fun e w' => e = .returned (.int .i64 (x : Int)) ∧ ∃ v' V', V.Perm (x :: V') ∧ hp lt V' ∧ HS X w' v' V' := by
  have l0 := (List.getElem?_eq_some_iff.1 hx).1
  obtain ⟨n, hn⟩ : ∃ n, V.length = n + 1 := ⟨V.length - 1, by omega⟩
  obtain ⟨y, hy⟩ : ∃ y, V[n]? = some y := ⟨_, List.getElem?_eq_getElem (by omega)⟩
  obtain ⟨g, c, rfl⟩ : ∃ g c, v = .slice (some ⟨g, 0, none⟩) V.length c := by
    rcases shapeO h.own with ⟨_, e⟩ | e
    · omega
    · exact e
  have hc := h.c0 C
  rw [hn] at h hc
  have HSW : Hid (Calls Try.prog 59 #[.pointer (some ⟨X.hb, X.ho, none⟩), .int .i64 0, .int .i64 (n : Int)] W fun e w' => e = .returned (.tuple #[]) ∧ HS X w' (.slice (some ⟨g, 0, none⟩) (n + 1) c) (sw V 0 n)) := hswap_any C h hx hy
  have hsl : (sw V 0 n).length = n + 1 := by rw [sw_len, hn]
  have hgn : (sw V 0 n)[n]? = some x := by rw [sw_get hx hy, if_pos rfl]
  have etk : tk V = (sw V 0 n).take n := by unfold tk; rw [hn]; rfl
  have HP : Hid (V.Perm (x :: tk V)) := tk_perm hx
  have HSK : Hid (∀ (W2 : World) (v2 : Value), HS X W2 v2 (tk V) → Calls Try.prog 60 #[.pointer (some ⟨X.hb, X.ho, none⟩)] W2 fun e w' => e = .returned (.tuple #[]) ∧ ∃ V', V'.Perm (tk V) ∧ hp lt V' ∧ HS X w' v2 V') := fun W2 v2 h2 => by
    refine hsink_any C S F h2 (fun z hz => hV z (HP.out.symm.subset (List.mem_cons_of_mem _ hz))) (by rw [tk_len]; omega) (HD_tk hh)
  have HST : Hid (∀ W1 : World, HS X W1 (.slice (some ⟨g, 0, none⟩) (n + 1) c) (sw V 0 n) → HS X (W1.setCell ⟨X.hb, X.ho, none⟩ (.slice (some ⟨g, 0, none⟩) n c)) (.slice (some ⟨g, 0, none⟩) n c) (tk V)) := fun W1 h1 => by
    refine h1.set C (grown_of_below (Below.refl _ _) _) ?_
    have ho := h1.own
    rw [hsl] at ho
    have := own_take ho (m := n) (by omega)
    rw [tk_len, hn, etk, List.map_take]
    exact this
  have HC1 : Hid (∀ W1 : World, HS X W1 (.slice (some ⟨g, 0, none⟩) (n + 1) c) (sw V 0 n) → W1.cell? ⟨X.hb, X.ho, none⟩ = some (.slice (some ⟨g, 0, none⟩) (n + 1) c) ∧ W1.frozen? ⟨X.hb, X.ho, none⟩ = false ∧ W1.cell? ⟨g, n, none⟩ = some (.int .i64 (x : Int)) ∧ n ≤ c) := fun W1 h1 => ⟨h1.c0 C, h1.fz _, h1.at hsl hgn, by have ho := h1.own; rw [hsl] at ho; have := rown_capL ho; omega⟩
  have k1 : (n : Int) < (n : Int) + 1 := by omega
  have k0 : (0 : Int) ≤ (n : Int) := by omega
  clear h F S C hV hx hy hh hsl hgn etk l0
  go_enter Try.func49, Try.ntmps49
  go_wp2_with fail
  refine HSW.out.mono ?_
  rintro e W1 ⟨rfl, h1⟩
  obtain ⟨p0, p1, p2, p3⟩ := HC1.out W1 h1
  have k2 : (n : Int) ≤ (c : Int) := by omega
  have HK : Hid (Calls Try.prog 60 #[.pointer (some ⟨X.hb, X.ho, none⟩)] (W1.setCell ⟨X.hb, X.ho, none⟩ (.slice (some ⟨g, 0, none⟩) n c)) fun e w' => e = .returned (.tuple #[]) ∧ ∃ V', V'.Perm (tk V) ∧ hp lt V' ∧ HS X w' (.slice (some ⟨g, 0, none⟩) n c) V') := HSK.out _ _ (HST.out _ h1)
  clear h1
  go_wp2_with fail
  refine HK.out.mono ?_
  rintro e W3 ⟨rfl, V3, a1, a2, a3⟩
  go_wp2_with fail
  go_ret
  exact ⟨rfl, _, V3, HP.out.trans (List.Perm.cons _ a1.symm), a2, a3⟩
end Go.Proofs.Ytfcdaljhbeogeaa

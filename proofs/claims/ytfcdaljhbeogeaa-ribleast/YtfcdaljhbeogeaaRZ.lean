import Derived.Test.YtfcdaljhbeogeaaRY
namespace Go.Proofs.Ytfcdaljhbeogeaa
open Go.RowKit
/-- what is told of node k is so -/
def wayP (E : List IRt) (D A B : List Int) (k : Nat) : Prop := (((k : Int) ∈ D ∨ gF A k < 0) ∧ gF B k = -1 ∧ gF A k ≤ 0) ∨ (¬ (k : Int) ∈ D ∧ 0 ≤ gF A k ∧ ∃ j : Nat, gF B k = (j : Int) ∧ (∃ e, E[j]? = some e ∧ e.1 = (k : Int) ∧ tgh A e = true) ∧ ∀ i e, i < j → E[i]? = some e → e.1 = (k : Int) → tgh A e = false)
theorem tgh_pos {E : List IRt} {A : List Int} {e : IRt} (hE : ∀ e ∈ E, 1 ≤ e.2.2.1) (he : e ∈ E) (h : tgh A e = true) : 1 ≤ gF A e.1.toNat := by
  unfold tgh at h
  simp only [Bool.and_eq_true, decide_eq_true_eq] at h
  have := hE e he
  omega
theorem way_ok {N : Int} {E : List IRt} {D A B : List Int} (h : shortR N E D A B) (h0 : gfit N E D = 0) :
    ((A.length : Int) = N ∧ (B.length : Int) = N) ∧ N ≤ 16 ∧ (∀ e ∈ E, 0 ≤ e.1 ∧ e.1 < N ∧ 0 ≤ e.2.1 ∧ e.2.1 < N ∧ 1 ≤ e.2.2.1 ∧ e.2.2.1 ≤ 9999) ∧ (∀ d ∈ D, 0 ≤ d ∧ d < N ∧ gF A d.toNat = 0) ∧ (∀ u, -1 ≤ gF A u ∧ gF A u ≤ 159984) ∧ (∀ e ∈ E, 0 ≤ gF A e.2.1.toNat → 0 ≤ gF A e.1.toNat ∧ gF A e.1.toNat ≤ gF A e.2.1.toNat + e.2.2.1) ∧ ∀ k : Nat, (k : Int) < N → wayP E D A B k := by
  obtain ⟨hN1, hg, hD⟩ := gfit_ok h0
  unfold shortR at h
  rw [if_pos h0] at h
  obtain ⟨hc, hl, hf, hb⟩ := h
  have hnn := hg.nn
  have hE : ∀ e ∈ E, 0 ≤ e.1 ∧ e.1 < N ∧ 0 ≤ e.2.1 ∧ e.2.1 < N ∧ 1 ≤ e.2.2.1 ∧ e.2.2.1 ≤ 9999 := fun e he => by
    have := hg.ed e he
    omega
  have hE1 : ∀ e ∈ E, 1 ≤ e.2.2.1 := fun e he => (hE e he).2.2.2.2.1
  have hD0 : ∀ d ∈ D, 0 ≤ d := fun d hd => by
    rw [hD] at hd
    obtain ⟨x, -, rfl⟩ := List.mem_map.1 hd
    exact Int.natCast_nonneg x
  refine ⟨⟨by omega, by rw [hf.1]; omega⟩, by omega, hE, fun d hd => ?_, fun u => ⟨?_, hb u⟩, hc.rel, fun k hk => ?_⟩
  · have hm : d.toNat ∈ D.map Int.toNat := List.mem_map.2 ⟨d, hd, rfl⟩
    have h1 := hg.ds _ hm
    have h2 := hD0 d hd
    exact ⟨h2, by omega, hc.dst _ hm⟩
  · rcases hc.dom u with h | h <;> omega
  · have hF := hf.2 k (by rw [hl]; omega)
    have no : ∀ {i : Nat} {e : IRt}, E[i]? = some e → e.1.toNat = k → tgh A e = true → 1 ≤ gF A k := fun hi ek ht => by
      rw [← ek]
      exact tgh_pos hE1 (List.mem_of_getElem? hi) ht
    by_cases hd : (k : Int) ∈ D
    · have a0 : gF A k = 0 := hc.dst k (List.mem_map.2 ⟨k, hd, rfl⟩)
      rcases hF with ⟨a, -⟩ | ⟨i, -, -, -, ⟨e, d1, d2, d3⟩, -⟩
      · exact .inl ⟨.inl hd, a, by omega⟩
      · have := no d1 d2 d3
        omega
    · by_cases hn : gF A k < 0
      · rcases hF with ⟨a, -⟩ | ⟨i, -, -, -, ⟨e, d1, d2, d3⟩, -⟩
        · exact .inl ⟨.inr hn, a, by omega⟩
        · have := no d1 d2 d3
          omega
      · refine .inr ⟨hd, by omega, ?_⟩
        rcases hF with ⟨-, b⟩ | ⟨i, a, -, -, ⟨e, d1, d2, d3⟩, f⟩
        · rcases hc.tgt k (by omega) with ⟨-, hm⟩ | ⟨e, he, h1, h2, h3⟩
          · obtain ⟨d, hdm, hdk⟩ := List.mem_map.1 hm
            have := hD0 d hdm
            exact absurd (by rw [show (k : Int) = d by omega]; exact hdm) hd
          · obtain ⟨i, hi⟩ := List.mem_iff_getElem?.1 he
            have hil := (List.getElem?_eq_some_iff.1 hi).1
            have := b i e (Nat.zero_le _) hil hi h1
            unfold tgh at this
            rw [h1, decide_eq_true h2, decide_eq_true h3] at this
            simp at this
        · refine ⟨i, a, ⟨e, d1, ?_, d3⟩, fun j x hj hx hk2 => f j x (Nat.zero_le _) hj hx (by omega)⟩
          have := (hE e (List.mem_of_getElem? d1)).1
          omega
set_option maxRecDepth 100000 in
set_option maxHeartbeats 1000000 in
theorem below_any (N : Int) (E : List IRt) (D : List Int) (oe od : Option Addr) (ce cd ne nd : Nat) (w : World) (hne : E.length = ne) (hnd : D.length = nd) (ln : ne ≤ 60) (ld : nd ≤ 60) (hE : IRR w oe E) (hD : IRI w od D) (he : ∀ e ∈ E, 0 ≤ e.1 ∧ e.1 < N ∧ 0 ≤ e.2.1 ∧ e.2.1 < N) (hd : ∀ d ∈ D, 0 ≤ d ∧ d < N) :
    Calls Try.prog 23 #[.int .i64 N, .slice oe ne ce, .slice od nd cd] w fun e w' => e = .returned (.bool true) ∧ Below w.heap.size w w' := by
  have HE : Hid (IRR w oe E) := hE
  have HD : Hid (IRI w od D) := hD
  have HN : Hid (E.length = ne ∧ D.length = nd) := ⟨hne, hnd⟩
  have HM : Hid ((∀ e ∈ E, 0 ≤ e.1 ∧ e.1 < N ∧ 0 ≤ e.2.1 ∧ e.2.1 < N) ∧ ∀ d ∈ D, 0 ≤ d ∧ d < N) := ⟨he, hd⟩
  clear hE hD hne hnd he hd
  go_enter Try.func23, Try.ntmps23
  go_wp2_with fail
  go_loopw [7] (fun vi wr => ∃ i : Nat, vi = .int .i64 (i : Int) ∧ i ≤ nd ∧ Below w.heap.size w wr) (fun vi _ => nd - (intOf vi).toNat)
  case atStart => exact ⟨0, rfl, Nat.zero_le _, Below.refl _ _⟩
  case round =>
    obtain ⟨i, rfl, hin, hB⟩ := hrel
    by_cases hlt : i < nd
    · have j1 : (i : Int) < (nd : Int) := by omega
      have j0 : (0 : Int) ≤ (i : Int) := by omega
      obtain ⟨d, hdi⟩ : ∃ d, D[i]? = some d := ⟨_, List.getElem?_eq_getElem (by rw [HN.out.2]; omega)⟩
      obtain ⟨gd, oo, rfl, p0⟩ := HD.out _ hB i d hdi
      obtain ⟨m1, m2⟩ := HM.out.2 d (List.mem_of_getElem? hdi)
      have m3 : ¬ d < 0 := by omega
      have m4 : ¬ N ≤ d := by omega
      clear hdi
      go_wp2_with fail
      go_roundw
      case rel => exact ⟨i + 1, by go_num, by omega, hB⟩
      case measure => simp [intOf]; omega
    · have j1 : ¬ (i : Int) < (nd : Int) := by omega
      go_wp2_with fail
      go_loopw [8] (fun vi wr => ∃ i : Nat, vi = .int .i64 (i : Int) ∧ i ≤ ne ∧ Below w.heap.size w wr) (fun vi _ => ne - (intOf vi).toNat)
      case atStart => exact ⟨0, rfl, Nat.zero_le _, hB⟩
      case round =>
        obtain ⟨i, rfl, hin, hB⟩ := hrel
        by_cases hlt : i < ne
        · have j1 : (i : Int) < (ne : Int) := by omega
          have j0 : (0 : Int) ≤ (i : Int) := by omega
          obtain ⟨x, hxi⟩ : ∃ x, E[i]? = some x := ⟨_, List.getElem?_eq_getElem (by rw [HN.out.1]; omega)⟩
          obtain ⟨ge, oo, rfl, p0, p1, -, -⟩ := HE.out _ hB i x hxi
          obtain ⟨m1, m2, m3, m4⟩ := HM.out.1 x (List.mem_of_getElem? hxi)
          obtain ⟨x0, x1, x2, x3⟩ := x
          simp only at p0 p1 m1 m2 m3 m4
          have m5 : ¬ x0 < 0 := by omega
          have m6 : ¬ N ≤ x0 := by omega
          have m7 : ¬ x1 < 0 := by omega
          have m8 : ¬ N ≤ x1 := by omega
          clear hxi
          go_wp2_with fail
          go_roundw
          case rel => exact ⟨i + 1, by go_num, by omega, hB⟩
          case measure => simp [intOf]; omega
        · have j1 : ¬ (i : Int) < (ne : Int) := by omega
          go_wp2_with fail
          go_ret
          exact ⟨rfl, hB⟩
end Go.Proofs.Ytfcdaljhbeogeaa

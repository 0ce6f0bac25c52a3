import Derived.Test.YtfcdaljhbeogeaaBK
import Derived.Lib.LaidTab
import Derived.Lib.SmallJoins
import Derived.ChangeSame
import Derived.Deep.Slices
import Derived.SizedLaws
namespace Go.Proofs.Ytfcdaljhbeogeaa
open Go.RowKit
/-- a route, as read -/
def rtData {H : Type} (f : IRt) : DataW H := .agg [.lit (.int .i64 f.1), .lit (.int .i64 f.2.1), .lit (.int .i64 f.2.2.1), .lit (.int .i64 f.2.2.2)]
def intData {H : Type} (v : Int) : DataW H := .lit (.int .i64 v)
theorem cF0 : Try.prog.cellsOf 3 = 1 := by kernel_rfl
theorem cR4 : Try.prog.cellsOf 59 = 4 := by kernel_rfl
section
variable {H : Type} {enc : TypeId × Value → H} {w : World} {base : Nat} {sp : Nat → Bool} {held : Bool}
theorem rt_open {fuel : Nat} {cs : List Value} {x : DataW H × List MemPlace} (h : DataW.trod enc Try.prog w base sp held fuel 59 cs = some x) : ∃ f : IRt, cs = rcel f ∧ x.1 = rtData f := by
  obtain ⟨y0, y1, y2, y3, m, rfl, hlen, g0, g1, g2, g3⟩ := Joins.trod_struct4 Try.underlying59 h
  obtain ⟨z0, a0, b0, _⟩ := DataW.trod_int Try.underlying3 g0
  obtain ⟨z1, a1, b1, _⟩ := DataW.trod_int Try.underlying3 g1
  obtain ⟨z2, a2, b2, _⟩ := DataW.trod_int Try.underlying3 g2
  obtain ⟨z3, a3, b3, _⟩ := DataW.trod_int Try.underlying3 g3
  refine ⟨(z0, z1, z2, z3), ?_, by rw [b0, b1, b2, b3]; rfl⟩
  rw [cF0] at a0 a1 a2 a3
  rw [cR4] at hlen
  clear g0 g1 g2 g3 h
  match cs, hlen with
  | [c0, c1, c2, c3], _ =>
    have e0 : c0 = .int .i64 z0 := by simpa using a0
    have e1 : c1 = .int .i64 z1 := by simpa using a1
    have e2 : c2 = .int .i64 z2 := by simpa using a2
    have e3 : c3 = .int .i64 z3 := by simpa using a3
    unfold rcel
    rw [e0, e1, e2, e3]
theorem int_open {fuel : Nat} {cs : List Value} {x : DataW H × List MemPlace} (h : DataW.trod enc Try.prog w base sp held fuel 3 cs = some x) : ∃ v : Int, cs = [.int .i64 v] ∧ x.1 = intData v := by
  obtain ⟨z, a, b, _⟩ := DataW.trod_int Try.underlying3 h
  exact ⟨z, a, by rw [b]; rfl⟩
theorem add_spotF {a : Addr} (h : a.spot = none) (m : Nat) : a.add m = ⟨a.block, a.off + m, none⟩ := by
  unfold Addr.add
  split
  · rename_i h0
    subst h0
    obtain ⟨b, o, s⟩ := a
    simp only at h
    subst h
    rfl
  · rfl
theorem cell_spotF {a : Addr} {v : Value} (h : w.cell? a = some v) : a.spot = none := by
  unfold World.cell? at h
  split at h
  · split at h
    · cases h
    · rename_i hs
      cases hh : a.spot with
      | none => rfl
      | some s => rw [hh] at hs; simp at hs
  · cases h
theorem open_rts {fuel : Nat} {cs : List Value} {x : DataW H × List MemPlace} (hf : DataW.trod enc Try.prog w 0 sp held fuel 36 cs = some x) :
    (cs = [.slice none 0 0] ∧ x = (.nil, [])) ∨ ∃ (a : Addr) (len cap : Nat) (L : List IRt) (spare : List (DataW H)), cs = [.slice (some a) len cap] ∧ L.length = len ∧ len ≤ cap ∧ x.1 = .slice (L.map rtData) spare ∧
      ∀ (k : Nat) (f : IRt), L[k]? = some f → ∃ g o0, a = ⟨g, o0, none⟩ ∧ w.cell? ⟨g, o0 + k * 4, none⟩ = some (.int .i64 f.1) ∧ w.cell? ⟨g, o0 + k * 4 + 1, none⟩ = some (.int .i64 f.2.1) ∧ w.cell? ⟨g, o0 + k * 4 + 2, none⟩ = some (.int .i64 f.2.2.1) ∧ w.cell? ⟨g, o0 + k * 4 + 3, none⟩ = some (.int .i64 f.2.2.2) := by
  rcases Deep.open_slice Try.underlying36 hf with h | ⟨a, len, cap, m, n, D, Pl, hcs, _, hlc, hcm, hm, hx, hD⟩
  · exact .inl h
  · right
    rw [cR4] at hD
    have hlm : len ≤ m := by rw [hm]; split <;> omega
    have hex : ∀ i, ∃ t : IRt, i < m → w.cells? 0 (a.add (i * 4))  4 = some (rcel t) ∧ D i = rtData t := fun i => by
      by_cases hi : i < m
      · obtain ⟨cs', h1, h2⟩ := hD i hi
        obtain ⟨t, e1, e2⟩ := rt_open h2
        exact ⟨t, fun _ => ⟨by rw [h1, e1], e2⟩⟩
      · exact ⟨(0, 0, 0, 0), fun h => absurd h hi⟩
    obtain ⟨F, hF⟩ := Classical.axiomOfChoice hex
    refine ⟨a, len, cap, (List.range len).map F, (List.range (m - len)).map fun j => D (len + j), hcs, by simp, hlc, ?_, fun k t ht => ?_⟩
    · rw [hx]
      simp only [List.map_map]
      congr 1
      refine List.map_congr_left (fun i hi => ?_)
      exact (hF i (by have := List.mem_range.1 hi; omega)).2
    · rw [List.getElem?_map] at ht
      by_cases hk : k < len
      · rw [List.getElem?_range hk] at ht
        obtain rfl := Option.some.inj ht
        have cell : ∀ i j v, i < m → (rcel (F i))[j]? = some v → j < 4 → w.cell? ((a.add (i * 4)).add j) = some v := fun i j v hi hv hj => by
          have h1 := (hF i hi).1
          unfold World.cells? at h1
          rw [if_pos (Nat.zero_le _)] at h1
          obtain ⟨b, hb, hc⟩ := Lib.mapM_at h1 j j (by simp [hj])
          rw [hv] at hb
          rw [Option.some.inj hb]
          exact hc
        have h00 := cell 0 0 _ (by omega) rfl (by decide)
        have hs : a.spot = none := by
          have e : (a.add (0 * 4)).add 0 = a := rfl
          rw [e] at h00
          exact cell_spotF h00
        obtain ⟨g, o0, s⟩ := a
        simp only at hs
        subst hs
        have ea : ∀ j, ((⟨g, o0, none⟩ : Addr).add (k * 4)).add j = ⟨g, o0 + k * 4 + j, none⟩ := fun j => by
          rw [add_spotF rfl (k * 4), add_spotF rfl j]
        have c0 := cell k 0 _ (by omega) rfl (by decide)
        have c1 := cell k 1 _ (by omega) rfl (by decide)
        have c2 := cell k 2 _ (by omega) rfl (by decide)
        have c3 := cell k 3 _ (by omega) rfl (by decide)
        rw [ea] at c0 c1 c2 c3
        exact ⟨g, o0, rfl, c0, c1, c2, c3⟩
      · rw [List.getElem?_eq_none (by simp; omega)] at ht
        cases ht
theorem open_ints {fuel : Nat} {cs : List Value} {x : DataW H × List MemPlace} (hf : DataW.trod enc Try.prog w 0 sp held fuel 23 cs = some x) :
    (cs = [.slice none 0 0] ∧ x = (.nil, [])) ∨ ∃ (a : Addr) (len cap : Nat) (L : List Int) (spare : List (DataW H)), cs = [.slice (some a) len cap] ∧ L.length = len ∧ len ≤ cap ∧ x.1 = .slice (L.map intData) spare ∧
      ∀ (k : Nat) (f : Int), L[k]? = some f → ∃ g o0, a = ⟨g, o0, none⟩ ∧ w.cell? ⟨g, o0 + k, none⟩ = some (.int .i64 f) := by
  rcases Deep.open_slice Try.underlying23 hf with h | ⟨a, len, cap, m, n, D, Pl, hcs, _, hlc, hcm, hm, hx, hD⟩
  · exact .inl h
  · right
    rw [cF0] at hD
    have hlm : len ≤ m := by rw [hm]; split <;> omega
    have hex : ∀ i, ∃ t : Int, i < m → w.cells? 0 (a.add (i * 1)) 1 = some [.int .i64 t] ∧ D i = intData t := fun i => by
      by_cases hi : i < m
      · obtain ⟨cs', h1, h2⟩ := hD i hi
        obtain ⟨t, e1, e2⟩ := int_open h2
        exact ⟨t, fun _ => ⟨by rw [h1, e1], e2⟩⟩
      · exact ⟨0, fun h => absurd h hi⟩
    obtain ⟨F, hF⟩ := Classical.axiomOfChoice hex
    refine ⟨a, len, cap, (List.range len).map F, (List.range (m - len)).map fun j => D (len + j), hcs, by simp, hlc, ?_, fun k t ht => ?_⟩
    · rw [hx]
      simp only [List.map_map]
      congr 1
      refine List.map_congr_left (fun i hi => ?_)
      exact (hF i (by have := List.mem_range.1 hi; omega)).2
    · rw [List.getElem?_map] at ht
      by_cases hk : k < len
      · rw [List.getElem?_range hk] at ht
        obtain rfl := Option.some.inj ht
        have cell : ∀ i j v, i < m → ([.int .i64 (F i)] : List Value)[j]? = some v → j < 1 → w.cell? ((a.add (i * 1)).add j) = some v := fun i j v hi hv hj => by
          have h1 := (hF i hi).1
          unfold World.cells? at h1
          rw [if_pos (Nat.zero_le _)] at h1
          have hj0 : j = 0 := by omega
          obtain ⟨b, hb, hc⟩ := Lib.mapM_at h1 j j (by rw [hj0]; rfl)
          rw [hv] at hb
          rw [Option.some.inj hb]
          exact hc
        have h00 := cell 0 0 _ (by omega) rfl (by decide)
        have hs : a.spot = none := by
          have e : (a.add (0 * 1)).add 0 = a := rfl
          rw [e] at h00
          exact cell_spotF h00
        obtain ⟨g, o0, s⟩ := a
        simp only at hs
        subst hs
        have ea : ∀ j, ((⟨g, o0, none⟩ : Addr).add (k * 1)).add j = ⟨g, o0 + k * 1 + j, none⟩ := fun j => by
          rw [add_spotF rfl (k * 1), add_spotF rfl j]
        have c0 := cell k 0 _ (by omega) rfl (by decide)
        rw [ea, Nat.mul_one, Nat.add_zero] at c0
        exact ⟨g, o0, rfl, c0⟩
      · rw [List.getElem?_eq_none (by simp; omega)] at ht
        cases ht
end
end Go.Proofs.Ytfcdaljhbeogeaa

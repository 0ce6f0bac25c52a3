import Derived.Test.YtnfhhdjgjonbaaaDB
import Derived.Test.YtnfhhdjgjonbaaaLV
namespace Go.Proofs.Ytnfhhdjgjonbaaa
open Go.RowKit Go.WideShapes
theorem cE2 : Try.prog.cellsOf 27 = 2 := by kernel_rfl
def ecel (f : Int × List UInt8) : List Value := [.int .i64 f.1, .string ⟨f.2.toArray⟩]
def entData {H : Type} (f : Int × List UInt8) : DataW H := .agg [.lit (.int .i64 f.1), .lit (.string f.2)]
section
variable {H : Type} {enc : TypeId × Value → H} {w : World} {base : Nat} {sp : Nat → Bool} {held : Bool}
theorem ent_open {fuel : Nat} {cs : List Value} {x : DataW H × List MemPlace} (h : DataW.trod enc Try.prog w base sp held fuel 27 cs = some x) : ∃ f : Int × List UInt8, cs = ecel f ∧ x.1 = entData f := by
  obtain ⟨xs, n, _, rfl, hl, hlen, hf⟩ := DataW.trod_struct Try.underlying27 h
  rw [cE2] at hl
  match xs, hlen with
  | [y0, y1], _ =>
    have g0 := hf 0 _ rfl
    have g1 := hf 1 _ rfl
    obtain ⟨z0, a0, b0, w0⟩ := DataW.trod_int Try.underlying3 g0
    obtain ⟨z1, a1, b1, _⟩ := DataW.trod_string Try.underlying9 g1
    replace a0 : (cs.drop 0).take (Try.prog.cellsOf 3) = [.int .i64 z0] := a0
    rw [cI1] at a0
    replace a1 : (cs.drop 1).take (Try.prog.cellsOf 9) = [.string z1] := a1
    rw [cS1] at a1
    clear g0 g1 h hf
    refine ⟨(z0, z1.data.toList), ?_, ?_⟩
    · match cs, hl with
      | [d0, d1], _ =>
        have e0 : d0 = .int .i64 z0 := by simpa using a0
        have e1 : d1 = .string z1 := by simpa using a1
        rw [e0, e1]
        rfl
    · rw [b0, b1]
      rfl
theorem open_ents {fuel : Nat} {cs : List Value} {x : DataW H × List MemPlace} (hf : DataW.trod enc Try.prog w 0 sp held fuel 22 cs = some x) :
    (cs = [.slice none 0 0] ∧ x = (.nil, [])) ∨ ∃ (a : Addr) (len cap : Nat) (L : List (Int × List UInt8)) (spare : List (DataW H)), cs = [.slice (some a) len cap] ∧ L.length = len ∧ len ≤ cap ∧ x.1 = .slice (L.map entData) spare ∧
      ∀ (k : Nat) (f : (Int × List UInt8)), L[k]? = some f → ∃ g o0, a = ⟨g, o0, none⟩ ∧ w.cell? ⟨g, o0 + k * 2, none⟩ = some (.int .i64 f.1) ∧ w.cell? ⟨g, o0 + k * 2 + 1, none⟩ = some (.string ⟨f.2.toArray⟩) := by
  rcases Deep.open_slice Try.underlying22 hf with h | ⟨a, len, cap, m, n, D, Pl, hcs, _, hlc, hcm, hm, hx, hD⟩
  · exact .inl h
  · right
    rw [cE2] at hD
    have hlm : len ≤ m := by rw [hm]; split <;> omega
    have hex : ∀ i, ∃ t : (Int × List UInt8), i < m → w.cells? 0 (a.add (i * 2)) 2 = some (ecel t) ∧ D i = entData t := fun i => by
      by_cases hi : i < m
      · obtain ⟨cs', h1, h2⟩ := hD i hi
        obtain ⟨t, e1, e2⟩ := ent_open h2
        exact ⟨t, fun _ => ⟨by rw [h1, e1], e2⟩⟩
      · exact ⟨(0, []), fun h => absurd h hi⟩
    obtain ⟨F, hF⟩ := Classical.axiomOfChoice hex
    refine ⟨a, len, cap, (List.range len).map F, (List.range (m - len)).map fun j => D (len + j), hcs, by simp, hlc, ?_, fun k t ht => ?_⟩
    · rw [hx]
      simp only [List.map_map]
      congr 1
      refine List.map_congr_left (fun i hi => ?_)
      exact (hF i (by have := List.mem_range.1 hi; omega)).2
    · rw [List.getElem?_map] at ht
      by_cases hk : k < len
      · rw [List.getElem?_range hk] at ht
        obtain rfl := Option.some.inj ht
        have cell : ∀ i j v, i < m → (ecel (F i))[j]? = some v → j < 2 → w.cell? ((a.add (i * 2)).add j) = some v := fun i j v hi hv hj => by
          have h1 := (hF i hi).1
          unfold World.cells? at h1
          rw [if_pos (Nat.zero_le _)] at h1
          obtain ⟨b, hb, hc⟩ := Lib.mapM_at h1 j j (by simp [hj])
          rw [hv] at hb
          rw [Option.some.inj hb]
          exact hc
        have h00 := cell 0 0 _ (by omega) rfl (by decide)
        have hs : a.spot = none := by
          have e : (a.add (0 * 2)).add 0 = a := rfl
          rw [e] at h00
          exact cell_spotF h00
        obtain ⟨g, o0, s⟩ := a
        simp only at hs
        subst hs
        have ea : ∀ j, ((⟨g, o0, none⟩ : Addr).add (k * 2)).add j = ⟨g, o0 + k * 2 + j, none⟩ := fun j => by
          rw [add_spotF rfl (k * 2), add_spotF rfl j]
        have c0 := cell k 0 _ (by omega) rfl (by decide)
        have c1 := cell k 1 _ (by omega) rfl (by decide)
        rw [ea] at c0 c1
        exact ⟨g, o0, rfl, c0, c1⟩
      · rw [List.getElem?_eq_none (by simp; omega)] at ht
        cases ht
/-- entries that are handed in -/
theorem entries_arg {fuel len cap : Nat} {ad : Option Addr} {x : DataW H × List MemPlace} (hf : DataW.trod enc Try.prog w 0 sp held fuel 22 (Value.slice ad len cap).cells.toList = some x) : ∃ l : List (Int × List UInt8), l.length = len ∧ len ≤ cap ∧ ER w ad l := by
  rcases open_ents hf with ⟨hcs, hx⟩ | ⟨a, l, c, V, spare, hcs, hl, hlc, hx, hc⟩
  · simp [Value.cells] at hcs
    obtain ⟨rfl, rfl, rfl⟩ := hcs
    exact ⟨[], rfl, Nat.le_refl _, fun k t ht => by simp at ht⟩
  · simp [Value.cells] at hcs
    obtain ⟨rfl, rfl, rfl⟩ := hcs
    refine ⟨V, hl, hlc, fun k t ht => ?_⟩
    obtain ⟨g, o0, rfl, c0, c1⟩ := hc k t ht
    exact ⟨g, o0, rfl, c0, c1⟩
end
end Go.Proofs.Ytnfhhdjgjonbaaa

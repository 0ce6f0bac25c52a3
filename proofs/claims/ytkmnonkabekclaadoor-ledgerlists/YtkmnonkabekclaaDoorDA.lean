import Derived.Test.YtkmnonkabekclaaDoorLF
import Derived.Lib.LaidTab
import Derived.Lib.SmallJoins
import Derived.ChangeSame
import Derived.Deep.Slices
import Derived.SizedLaws
namespace Go.Proofs.YtkmnonkabekclaaDoor
open Go.RowKit
def byteData {H : Type} (v : UInt8) : DataW H := .lit (.int .u8 (v.toNat : Int))
theorem cB1 : Tryd.prog.cellsOf 5 = 1 := by kernel_rfl
theorem byte_of {z : Int} (h : (Lit.int .u8 z).wf = true) : z = ((UInt8.ofNat z.toNat).toNat : Int) := by
  simp [Lit.wf, IntKind.min, IntKind.max, IntKind.signed, IntKind.bits] at h
  rw [UInt8.toNat_ofNat']
  omega
section
variable {H : Type} {enc : TypeId × Value → H} {w : World} {base : Nat} {sp : Nat → Bool} {held : Bool}
theorem byte_open {fuel : Nat} {cs : List Value} {x : DataW H × List MemPlace} (h : DataW.trod enc Tryd.prog w base sp held fuel 5 cs = some x) : ∃ v : UInt8, cs = [.int .u8 (v.toNat : Int)] ∧ x.1 = byteData v := by
  obtain ⟨z, a, b, hw⟩ := DataW.trod_int Tryd.underlying5 h
  have e := byte_of hw
  refine ⟨UInt8.ofNat z.toNat, ?_, ?_⟩
  · rw [a, ← e]
  · rw [b]
    unfold byteData
    rw [← e]
theorem add_spotF {a : Addr} (h : a.spot = none) (m : Nat) : a.add m = ⟨a.block, a.off + m, none⟩ := by
  unfold Addr.add
  split
  · rename_i h0
    subst h0
    obtain ⟨b, o, s⟩ := a
    simp only at h
    subst h
    rfl
  · rfl
theorem cell_spotF {a : Addr} {v : Value} (h : w.cell? a = some v) : a.spot = none := by
  unfold World.cell? at h
  split at h
  · split at h
    · cases h
    · rename_i hs
      cases hh : a.spot with
      | none => rfl
      | some s => rw [hh] at hs; simp at hs
  · cases h
theorem open_bytes {fuel : Nat} {cs : List Value} {x : DataW H × List MemPlace} (hf : DataW.trod enc Tryd.prog w 0 sp held fuel 31 cs = some x) :
    (cs = [.slice none 0 0] ∧ x = (.nil, [])) ∨ ∃ (a : Addr) (len cap : Nat) (L : List UInt8) (spare : List (DataW H)), cs = [.slice (some a) len cap] ∧ L.length = len ∧ len ≤ cap ∧ x.1 = .slice (L.map byteData) spare ∧
      ∀ (k : Nat) (f : UInt8), L[k]? = some f → ∃ g o0, a = ⟨g, o0, none⟩ ∧ w.cell? ⟨g, o0 + k, none⟩ = some (.int .u8 (f.toNat : Int)) := by
  rcases Deep.open_slice Tryd.underlying31 hf with h | ⟨a, len, cap, m, n, D, Pl, hcs, _, hlc, hcm, hm, hx, hD⟩
  · exact .inl h
  · right
    rw [cB1] at hD
    have hlm : len ≤ m := by rw [hm]; split <;> omega
    have hex : ∀ i, ∃ t : UInt8, i < m → w.cells? 0 (a.add (i * 1)) 1 = some [.int .u8 (t.toNat : Int)] ∧ D i = byteData t := fun i => by
      by_cases hi : i < m
      · obtain ⟨cs', h1, h2⟩ := hD i hi
        obtain ⟨t, e1, e2⟩ := byte_open h2
        exact ⟨t, fun _ => ⟨by rw [h1, e1], e2⟩⟩
      · exact ⟨0, fun h => absurd h hi⟩
    obtain ⟨F, hF⟩ := Classical.axiomOfChoice hex
    refine ⟨a, len, cap, (List.range len).map F, (List.range (m - len)).map fun j => D (len + j), hcs, by simp, hlc, ?_, fun k t ht => ?_⟩
    · rw [hx]
      simp only [List.map_map]
      congr 1
      refine List.map_congr_left (fun i hi => ?_)
      exact (hF i (by have := List.mem_range.1 hi; omega)).2
    · rw [List.getElem?_map] at ht
      by_cases hk : k < len
      · rw [List.getElem?_range hk] at ht
        obtain rfl := Option.some.inj ht
        have cell : ∀ i j v, i < m → ([.int .u8 ((F i).toNat : Int)] : List Value)[j]? = some v → j < 1 → w.cell? ((a.add (i * 1)).add j) = some v := fun i j v hi hv hj => by
          have h1 := (hF i hi).1
          unfold World.cells? at h1
          rw [if_pos (Nat.zero_le _)] at h1
          have hj0 : j = 0 := by omega
          obtain ⟨b, hb, hc⟩ := Lib.mapM_at h1 j j (by rw [hj0]; rfl)
          rw [hv] at hb
          rw [Option.some.inj hb]
          exact hc
        have h00 := cell 0 0 _ (by omega) rfl (by decide)
        have hs : a.spot = none := by
          have e : (a.add (0 * 1)).add 0 = a := rfl
          rw [e] at h00
          exact cell_spotF h00
        obtain ⟨g, o0, s⟩ := a
        simp only at hs
        subst hs
        have ea : ∀ j, ((⟨g, o0, none⟩ : Addr).add (k * 1)).add j = ⟨g, o0 + k * 1 + j, none⟩ := fun j => by
          rw [add_spotF rfl (k * 1), add_spotF rfl j]
        have c0 := cell k 0 _ (by omega) rfl (by decide)
        rw [ea, Nat.mul_one, Nat.add_zero] at c0
        exact ⟨g, o0, rfl, c0⟩
      · rw [List.getElem?_eq_none (by simp; omega)] at ht
        cases ht
/-- bytes that are handed in -/
theorem bytes_arg {fuel len cap : Nat} {ad : Option Addr} {x : DataW H × List MemPlace} (hf : DataW.trod enc Tryd.prog w 0 sp held fuel 31 (Value.slice ad len cap).cells.toList = some x) : ∃ l : List UInt8, l.length = len ∧ len ≤ cap ∧ BR w ad l := by
  rcases open_bytes hf with ⟨hcs, hx⟩ | ⟨a, l, c, V, spare, hcs, hl, hlc, hx, hc⟩
  · simp [Value.cells] at hcs
    obtain ⟨rfl, rfl, rfl⟩ := hcs
    exact ⟨[], rfl, Nat.le_refl _, fun k t ht => by simp at ht⟩
  · simp [Value.cells] at hcs
    obtain ⟨rfl, rfl, rfl⟩ := hcs
    refine ⟨V, hl, hlc, fun k t ht => ?_⟩
    obtain ⟨g, o0, rfl, c0⟩ := hc k t ht
    exact ⟨g, o0, rfl, c0⟩
end
end Go.Proofs.YtkmnonkabekclaaDoor

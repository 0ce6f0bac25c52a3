import Derived.Test.YtnboehlbcjfndaaGreatDoorChecked
import Derived.WalkKit
import Derived.Lib.LaidTab
import Derived.Lib.SmallJoins
import Derived.ChangeSame
import Derived.Deep.Slices
import Derived.SizedLaws
namespace Go.Proofs.YtnboehlbcjfndaaGreatDoor
open Go.RowKit
abbrev IStp := Int × Int × Int × Int × List UInt8
def scelZ (f : IStp) : List Value := [.int .i64 f.1, .int .i64 f.2.1, .int .i64 f.2.2.1, .int .i64 f.2.2.2.1, .string ⟨f.2.2.2.2.toArray⟩]
def stpData {H : Type} (f : IStp) : DataW H := .agg [.lit (.int .i64 f.1), .lit (.int .i64 f.2.1), .lit (.int .i64 f.2.2.1), .lit (.int .i64 f.2.2.2.1), .lit (.string f.2.2.2.2)]
theorem cS0Z : Tryz.prog.cellsOf 3 = 1 := by kernel_rfl
theorem cS1Z : Tryz.prog.cellsOf 9 = 1 := by kernel_rfl
theorem cS5Z : Tryz.prog.cellsOf 45 = 5 := by kernel_rfl
section
variable {H : Type} {enc : TypeId × Value → H} {w : World} {base : Nat} {sp : Nat → Bool} {held : Bool}
theorem stp_open {fuel : Nat} {cs : List Value} {x : DataW H × List MemPlace} (h : DataW.trod enc Tryz.prog w base sp held fuel 45 cs = some x) : ∃ t : IStp, cs = scelZ t ∧ x.1 = stpData t := by
  obtain ⟨xs, n, _, rfl, hl, hlen, hf⟩ := DataW.trod_struct Tryz.underlying45 h
  rw [cS5Z] at hl
  match xs, hlen with
  | [y0, y1, y2, y3, y4], _ =>
    have g0 := hf 0 _ rfl
    have g1 := hf 1 _ rfl
    have g2 := hf 2 _ rfl
    have g3 := hf 3 _ rfl
    have g4 := hf 4 _ rfl
    obtain ⟨z0, a0, b0, _⟩ := DataW.trod_int Tryz.underlying3 g0
    obtain ⟨z1, a1, b1, _⟩ := DataW.trod_int Tryz.underlying3 g1
    obtain ⟨z2, a2, b2, _⟩ := DataW.trod_int Tryz.underlying3 g2
    obtain ⟨z3, a3, b3, _⟩ := DataW.trod_int Tryz.underlying3 g3
    obtain ⟨z4, a4, b4, _⟩ := DataW.trod_string Tryz.underlying9 g4
    replace a0 : (cs.drop 0).take (Tryz.prog.cellsOf 3) = [.int .i64 z0] := a0
    replace a1 : (cs.drop 1).take (Tryz.prog.cellsOf 3) = [.int .i64 z1] := a1
    replace a2 : (cs.drop 2).take (Tryz.prog.cellsOf 3) = [.int .i64 z2] := a2
    replace a3 : (cs.drop 3).take (Tryz.prog.cellsOf 3) = [.int .i64 z3] := a3
    replace a4 : (cs.drop 4).take (Tryz.prog.cellsOf 9) = [.string z4] := a4
    rw [cS1Z] at a4
    rw [cS0Z] at a0 a1 a2 a3
    clear g0 g1 g2 g3 g4 h hf
    refine ⟨(z0, z1, z2, z3, z4.data.toList), ?_, ?_⟩
    · match cs, hl with
      | [c0, c1, c2, c3, c4], _ =>
        have e0 : c0 = .int .i64 z0 := by simpa using a0
        have e1 : c1 = .int .i64 z1 := by simpa using a1
        have e2 : c2 = .int .i64 z2 := by simpa using a2
        have e3 : c3 = .int .i64 z3 := by simpa using a3
        have e4 : c4 = .string z4 := by simpa using a4
        unfold scelZ
        rw [e0, e1, e2, e3, e4]
    · have d0 := congrArg Prod.fst b0
      have d1 := congrArg Prod.fst b1
      have d2 := congrArg Prod.fst b2
      have d3 := congrArg Prod.fst b3
      have d4 := congrArg Prod.fst b4
      simp only at d0 d1 d2 d3 d4
      simp only [List.map_cons, List.map_nil, d0, d1, d2, d3, d4]
      rfl
theorem add_spotZ {a : Addr} (h : a.spot = none) (m : Nat) : a.add m = ⟨a.block, a.off + m, none⟩ := by
  unfold Addr.add
  split
  · rename_i h0
    subst h0
    obtain ⟨b, o, s⟩ := a
    simp only at h
    subst h
    rfl
  · rfl
theorem cell_spotZ {a : Addr} {v : Value} (h : w.cell? a = some v) : a.spot = none := by
  unfold World.cell? at h
  split at h
  · split at h
    · cases h
    · rename_i hs
      cases hh : a.spot with
      | none => rfl
      | some s => rw [hh] at hs; simp at hs
  · cases h
theorem open_stps {fuel : Nat} {cs : List Value} {x : DataW H × List MemPlace} (hf : DataW.trod enc Tryz.prog w 0 sp held fuel 42 cs = some x) :
    (cs = [.slice none 0 0] ∧ x = (.nil, [])) ∨ ∃ (a : Addr) (len cap : Nat) (L : List IStp) (spare : List (DataW H)), cs = [.slice (some a) len cap] ∧ L.length = len ∧ x.1 = .slice (L.map stpData) spare ∧
      ∀ (k : Nat) (t : IStp), L[k]? = some t → ∃ g o0, a = ⟨g, o0, none⟩ ∧ w.cell? ⟨g, o0 + k * 5, none⟩ = some (.int .i64 t.1) ∧ w.cell? ⟨g, o0 + k * 5 + 1, none⟩ = some (.int .i64 t.2.1) ∧ w.cell? ⟨g, o0 + k * 5 + 2, none⟩ = some (.int .i64 t.2.2.1) ∧ w.cell? ⟨g, o0 + k * 5 + 3, none⟩ = some (.int .i64 t.2.2.2.1) ∧ w.cell? ⟨g, o0 + k * 5 + 4, none⟩ = some (.string ⟨t.2.2.2.2.toArray⟩) := by
  rcases Deep.open_slice Tryz.underlying42 hf with h | ⟨a, len, cap, m, n, D, Pl, hcs, _, hlc, hcm, hm, hx, hD⟩
  · exact .inl h
  · right
    rw [cS5Z] at hD
    have hlm : len ≤ m := by rw [hm]; split <;> omega
    have hex : ∀ i, ∃ t : IStp, i < m → w.cells? 0 (a.add (i * 5)) 5 = some (scelZ t) ∧ D i = stpData t := fun i => by
      by_cases hi : i < m
      · obtain ⟨cs', h1, h2⟩ := hD i hi
        obtain ⟨t, e1, e2⟩ := stp_open h2
        exact ⟨t, fun _ => ⟨by rw [h1, e1], e2⟩⟩
      · exact ⟨(0, 0, 0, 0, []), fun h => absurd h hi⟩
    obtain ⟨F, hF⟩ := Classical.axiomOfChoice hex
    refine ⟨a, len, cap, (List.range len).map F, (List.range (m - len)).map fun j => D (len + j), hcs, by simp, ?_, fun k t ht => ?_⟩
    · rw [hx]
      simp only [List.map_map]
      congr 1
      refine List.map_congr_left (fun i hi => ?_)
      exact (hF i (by have := List.mem_range.1 hi; omega)).2
    · rw [List.getElem?_map] at ht
      by_cases hk : k < len
      · rw [List.getElem?_range hk] at ht
        obtain rfl := Option.some.inj ht
        have cell : ∀ i j v, i < m → (scelZ (F i))[j]? = some v → j < 5 → w.cell? ((a.add (i * 5)).add j) = some v := fun i j v hi hv hj => by
          have h1 := (hF i hi).1
          unfold World.cells? at h1
          rw [if_pos (Nat.zero_le _)] at h1
          obtain ⟨b, hb, hc⟩ := Lib.mapM_at h1 j j (by simp [hj])
          rw [hv] at hb
          rw [Option.some.inj hb]
          exact hc
        have h00 := cell 0 0 _ (by omega) rfl (by decide)
        have hs : a.spot = none := by
          have e : (a.add (0 * 5)).add 0 = a := rfl
          rw [e] at h00
          exact cell_spotZ h00
        obtain ⟨g, o0, s⟩ := a
        simp only at hs
        subst hs
        have ea : ∀ j, ((⟨g, o0, none⟩ : Addr).add (k * 5)).add j = ⟨g, o0 + k * 5 + j, none⟩ := fun j => by
          rw [add_spotZ rfl (k * 5), add_spotZ rfl j]
        have c0 := cell k 0 _ (by omega) rfl (by decide)
        have c1 := cell k 1 _ (by omega) rfl (by decide)
        have c2 := cell k 2 _ (by omega) rfl (by decide)
        have c3 := cell k 3 _ (by omega) rfl (by decide)
        have c4 := cell k 4 _ (by omega) rfl (by decide)
        rw [ea] at c0 c1 c2 c3 c4
        exact ⟨g, o0, rfl, c0, c1, c2, c3, c4⟩
      · rw [List.getElem?_eq_none (by simp; omega)] at ht
        cases ht
theorem w_stp (t : IStp) : t.2.2.2.2.length ∈ DataW.weights Tryz.prog 45 (stpData t : DataW H) := by
  unfold stpData
  simp [DataW.weights, Tryz.underlying45, DataW.weightsEach]
theorem w_stps {t : IStp} : ∀ {L : List IStp}, t ∈ L → t.2.2.2.2.length ∈ DataW.weightsAll Tryz.prog 45 (L.map (stpData : IStp → DataW H))
  | u :: L, h => by
    rw [List.map_cons, DataW.weightsAll]
    rcases List.mem_cons.1 h with rfl | h
    · exact List.mem_append_left _ (w_stp t)
    · exact List.mem_append_right _ (w_stps h)
theorem sized_stps {ts : List TypeId} {ds : List (DataW H)} (h : (DataW.weightsEach Tryz.prog ts ds).all (· ≤ reachBytes) = true) {L : List IStp} {spare : List (DataW H)} {j : Nat} (ht : ts[j]? = some 42) (hd : ds[j]? = some (.slice (L.map stpData) spare)) : L.length * 48 ≤ reachBytes ∧ ∀ t ∈ L, t.2.2.2.2.length ≤ reachBytes := by
  have hb : Tryz.prog.bytesOf 45 = 48 := by kernel_rfl
  have h1 := sized_slice h ht hd Tryz.underlying42
  rw [hb, List.length_map] at h1
  refine ⟨by omega, fun t hm => ?_⟩
  have := List.all_eq_true.1 h _ (DataW.weights_mem_each ht hd t.2.2.2.2.length (by
    simp only [DataW.weights, Tryz.underlying42]
    exact List.mem_cons_of_mem _ (List.mem_append_left _ (w_stps hm))))
  simpa using this
end
end Go.Proofs.YtnboehlbcjfndaaGreatDoor

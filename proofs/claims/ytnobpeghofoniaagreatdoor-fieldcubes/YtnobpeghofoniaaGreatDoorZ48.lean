import Derived.Test.YtnobpeghofoniaaGreatDoorZ6
import Derived.Test.YtnobpeghofoniaaGreatDoorZ8
import Derived.Test.YtnobpeghofoniaaGreatDoorZ34
import Derived.Deep.Slices
import Derived.SizedLaws
import Derived.ChangeSame
import Derived.Test.YtnobpeghofoniaaGreatDoorZ37
namespace Go.Proofs.YtnobpeghofoniaaGreatDoor
open Go.RowKit
/-- an array of texts, as laid -/
def strData {H : Type} (zs : List (List UInt8)) : DataW H := .agg (zs.map fun z => .lit (.string z))
theorem cells_of_strs {H : Type} {enc : TypeId × Value → H} {P : Program} {w : World} {base : Nat} {sp : Nat → Bool} {held : Bool} {fuel : Nat} {t e : TypeId} {n : Nat} {cs : List Value} {zs : List (List UInt8)} {p : List MemPlace}
    (ht : P.underlying t = some (.array n e)) (he : P.underlying e = some .string) (hce : P.cellsOf e = 1) (hct : P.cellsOf t = n)
    (h : DataW.trod enc P w base sp held fuel t cs = some (strData zs, p)) : cs = zs.map fun z => Value.string ⟨z.toArray⟩ := by
  cases fuel with
  | zero => simp [DataW.trod] at h
  | succ fuel =>
    simp only [DataW.trod, ht, hce, hct, Nat.mul_one] at h
    split at h
    · rename_i hl
      obtain ⟨xs, hm, hx⟩ := Option.map_eq_some_iff.1 h
      have hxs : xs.map (·.1) = zs.map fun z => (DataW.lit (.string z) : DataW H) := by
        have := congrArg Prod.fst hx
        simpa [strData] using this
      have hxl : xs.length = n := by simpa using Lib.mapM_length hm
      have hzl : zs.length = n := by
        have := congrArg List.length hxs
        simp at this
        omega
      apply List.ext_getElem?
      intro i
      by_cases hi : i < n
      · obtain ⟨b, hb, hf⟩ := Lib.mapM_at hm i i (by simp [hi])
        obtain ⟨z, hc, rfl, _⟩ := DataW.trod_string he hf
        have h1 : cs[i]? = some (.string z) := by
          have := congrArg (·[0]?) hc
          simpa [List.getElem?_take, List.getElem?_drop] using this
        have h2 : (xs.map (·.1))[i]? = some (DataW.lit (.string z.data.toList) : DataW H) := by simp [hb]
        rw [hxs] at h2
        simp only [List.getElem?_map, Option.map_eq_some_iff, DataW.lit.injEq, Lit.string.injEq] at h2
        obtain ⟨z', hz', rfl⟩ := h2
        simp [h1, hz']
      · rw [List.getElem?_eq_none (by omega), List.getElem?_eq_none (by simp; omega)]
    · cases h
theorem strs_of_head {P : Program} {W : World} {name : String} {zs : List (List UInt8)} {rest : List (String × DataW Unit)} {g : Nat} {t e : TypeId} {n : Nat}
    (hg : P.globalNamed name = some g) (hty : (P.globals[g]?).map (·.type) = some t) (ht : P.underlying t = some (.array n e)) (he : P.underlying e = some .string) (hce : P.cellsOf e = 1) (hct : P.cellsOf t = n)
    (h : laidMet P ((name, strData zs) :: rest) W) : W.var? P name = some (zs.map fun z => Value.string ⟨z.toArray⟩).toArray := by
  obtain ⟨ps, ⟨g', t', cs, fuel, p, q, hg', ht', hvar, hd, _, _⟩, _⟩ := h
  obtain rfl := Option.some.inj (hg.symm.trans hg')
  obtain rfl := Option.some.inj (hty.symm.trans ht')
  rw [hvar, ← cells_of_strs ht he hce hct hd]
end Go.Proofs.YtnobpeghofoniaaGreatDoor
namespace Go.Proofs.YtnobpeghofoniaaGreatDoor
open Go.RowKit
/-- a field, as read -/
def fldData {H : Type} (f : IFld) : DataW H := .agg [.lit (.string f.1), .lit (.int .i64 f.2)]
theorem cF0 : Tryz.prog.cellsOf 3 = 1 := by kernel_rfl
theorem cF1 : Tryz.prog.cellsOf 9 = 1 := by kernel_rfl
theorem cF2 : Tryz.prog.cellsOf 39 = 2 := by kernel_rfl
section
variable {H : Type} {enc : TypeId × Value → H} {w : World} {base : Nat} {sp : Nat → Bool} {held : Bool}
theorem fld_open {fuel : Nat} {cs : List Value} {x : DataW H × List MemPlace} (h : DataW.trod enc Tryz.prog w base sp held fuel 39 cs = some x) : ∃ f : IFld, cs = fcel f ∧ x.1 = fldData f := by
  obtain ⟨y0, y1, m, rfl, hlen, g0, g1⟩ := ChangeShapes.trod_struct2 Tryz.underlying39 h
  obtain ⟨z0, a0, b0, _⟩ := DataW.trod_string Tryz.underlying9 g0
  obtain ⟨z1, a1, b1, _⟩ := DataW.trod_int Tryz.underlying3 g1
  refine ⟨(z0.data.toList, z1), ?_, by rw [b0, b1]; rfl⟩
  rw [cF1] at a0
  rw [cF0] at a1
  rw [cF2] at hlen
  clear g0 g1 h
  match cs, hlen with
  | [c0, c1], _ =>
    have e0 : c0 = .string z0 := by simpa using a0
    have e1 : c1 = .int .i64 z1 := by simpa using a1
    unfold fcel
    rw [e0, e1]
theorem add_spotF {a : Addr} (h : a.spot = none) (m : Nat) : a.add m = ⟨a.block, a.off + m, none⟩ := by
  unfold Addr.add
  split
  · rename_i h0
    subst h0
    obtain ⟨b, o, s⟩ := a
    simp only at h
    subst h
    rfl
  · rfl
theorem cell_spotF {a : Addr} {v : Value} (h : w.cell? a = some v) : a.spot = none := by
  unfold World.cell? at h
  split at h
  · split at h
    · cases h
    · rename_i hs
      cases hh : a.spot with
      | none => rfl
      | some s => rw [hh] at hs; simp at hs
  · cases h
theorem open_flds {fuel : Nat} {cs : List Value} {x : DataW H × List MemPlace} (hf : DataW.trod enc Tryz.prog w 0 sp held fuel 23 cs = some x) :
    (cs = [.slice none 0 0] ∧ x = (.nil, [])) ∨ ∃ (a : Addr) (len cap : Nat) (L : List IFld) (spare : List (DataW H)), cs = [.slice (some a) len cap] ∧ L.length = len ∧ len ≤ cap ∧ x.1 = .slice (L.map fldData) spare ∧
      ∀ (k : Nat) (f : IFld), L[k]? = some f → ∃ g o0, a = ⟨g, o0, none⟩ ∧ w.cell? ⟨g, o0 + k * 2, none⟩ = some (.string ⟨f.1.toArray⟩) ∧ w.cell? ⟨g, o0 + k * 2 + 1, none⟩ = some (.int .i64 f.2) := by
  rcases Deep.open_slice Tryz.underlying23 hf with h | ⟨a, len, cap, m, n, D, Pl, hcs, _, hlc, hcm, hm, hx, hD⟩
  · exact .inl h
  · right
    rw [cF2] at hD
    have hlm : len ≤ m := by rw [hm]; split <;> omega
    have hex : ∀ i, ∃ t : IFld, i < m → w.cells? 0 (a.add (i * 2)) 2 = some (fcel t) ∧ D i = fldData t := fun i => by
      by_cases hi : i < m
      · obtain ⟨cs', h1, h2⟩ := hD i hi
        obtain ⟨t, e1, e2⟩ := fld_open h2
        exact ⟨t, fun _ => ⟨by rw [h1, e1], e2⟩⟩
      · exact ⟨([], 0), fun h => absurd h hi⟩
    obtain ⟨F, hF⟩ := Classical.axiomOfChoice hex
    refine ⟨a, len, cap, (List.range len).map F, (List.range (m - len)).map fun j => D (len + j), hcs, by simp, hlc, ?_, fun k t ht => ?_⟩
    · rw [hx]
      simp only [List.map_map]
      congr 1
      refine List.map_congr_left (fun i hi => ?_)
      exact (hF i (by have := List.mem_range.1 hi; omega)).2
    · rw [List.getElem?_map] at ht
      by_cases hk : k < len
      · rw [List.getElem?_range hk] at ht
        obtain rfl := Option.some.inj ht
        have cell : ∀ i j v, i < m → (fcel (F i))[j]? = some v → j < 2 → w.cell? ((a.add (i * 2)).add j) = some v := fun i j v hi hv hj => by
          have h1 := (hF i hi).1
          unfold World.cells? at h1
          rw [if_pos (Nat.zero_le _)] at h1
          obtain ⟨b, hb, hc⟩ := Lib.mapM_at h1 j j (by simp [hj])
          rw [hv] at hb
          rw [Option.some.inj hb]
          exact hc
        have h00 := cell 0 0 _ (by omega) rfl (by decide)
        have hs : a.spot = none := by
          have e : (a.add (0 * 2)).add 0 = a := rfl
          rw [e] at h00
          exact cell_spotF h00
        obtain ⟨g, o0, s⟩ := a
        simp only at hs
        subst hs
        have ea : ∀ j, ((⟨g, o0, none⟩ : Addr).add (k * 2)).add j = ⟨g, o0 + k * 2 + j, none⟩ := fun j => by
          rw [add_spotF rfl (k * 2), add_spotF rfl j]
        have c0 := cell k 0 _ (by omega) rfl (by decide)
        have c1 := cell k 1 _ (by omega) rfl (by decide)
        rw [ea] at c0 c1
        exact ⟨g, o0, rfl, c0, c1⟩
      · rw [List.getElem?_eq_none (by simp; omega)] at ht
        cases ht
theorem w_fld (f : IFld) : f.1.length ∈ DataW.weights Tryz.prog 39 (fldData f : DataW H) := by
  unfold fldData
  simp [DataW.weights, Tryz.underlying39, DataW.weightsEach]
theorem w_flds {f : IFld} : ∀ {L : List IFld}, f ∈ L → f.1.length ∈ DataW.weightsAll Tryz.prog 39 (L.map (fldData : IFld → DataW H))
  | u :: L, h => by
    rw [List.map_cons, DataW.weightsAll]
    rcases List.mem_cons.1 h with rfl | h
    · exact List.mem_append_left _ (w_fld f)
    · exact List.mem_append_right _ (w_flds h)
theorem sized_flds {ts : List TypeId} {ds : List (DataW H)} (h : (DataW.weightsEach Tryz.prog ts ds).all (· ≤ reachBytes) = true) {L : List IFld} {spare : List (DataW H)} {j : Nat} (ht : ts[j]? = some 23) (hd : ds[j]? = some (.slice (L.map fldData) spare)) : L.length * 24 ≤ reachBytes ∧ ∀ f ∈ L, f.1.length ≤ reachBytes := by
  have hb : Tryz.prog.bytesOf 39 = 24 := by kernel_rfl
  have h1 := sized_slice h ht hd Tryz.underlying23
  rw [hb, List.length_map] at h1
  refine ⟨by omega, fun f hm => ?_⟩
  have := List.all_eq_true.1 h _ (DataW.weights_mem_each ht hd f.1.length (by
    simp only [DataW.weights, Tryz.underlying23]
    exact List.mem_cons_of_mem _ (List.mem_append_left _ (w_flds hm))))
  simpa using this
end
end Go.Proofs.YtnobpeghofoniaaGreatDoor
namespace Go.Proofs.YtnobpeghofoniaaGreatDoor
open Go.RowKit
def intData {H : Type} (v : Int) : DataW H := .lit (.int .i64 v)
section
variable {H : Type} {enc : TypeId × Value → H} {w : World} {base : Nat} {sp : Nat → Bool} {held : Bool}
theorem int_open {fuel : Nat} {cs : List Value} {x : DataW H × List MemPlace} (h : DataW.trod enc Tryz.prog w base sp held fuel 3 cs = some x) : ∃ v : Int, cs = [.int .i64 v] ∧ x.1 = intData v := by
  obtain ⟨z, a, b, _⟩ := DataW.trod_int Tryz.underlying3 h
  exact ⟨z, a, by rw [b]; rfl⟩
theorem open_ints {fuel : Nat} {cs : List Value} {x : DataW H × List MemPlace} (hf : DataW.trod enc Tryz.prog w 0 sp held fuel 22 cs = some x) :
    (cs = [.slice none 0 0] ∧ x = (.nil, [])) ∨ ∃ (a : Addr) (len cap : Nat) (L : List Int) (spare : List (DataW H)), cs = [.slice (some a) len cap] ∧ L.length = len ∧ len ≤ cap ∧ x.1 = .slice (L.map intData) spare ∧
      ∀ (k : Nat) (f : Int), L[k]? = some f → ∃ g o0, a = ⟨g, o0, none⟩ ∧ w.cell? ⟨g, o0 + k, none⟩ = some (.int .i64 f) := by
  rcases Deep.open_slice Tryz.underlying22 hf with h | ⟨a, len, cap, m, n, D, Pl, hcs, _, hlc, hcm, hm, hx, hD⟩
  · exact .inl h
  · right
    rw [cF0] at hD
    have hlm : len ≤ m := by rw [hm]; split <;> omega
    have hex : ∀ i, ∃ t : Int, i < m → w.cells? 0 (a.add (i * 1)) 1 = some [.int .i64 t] ∧ D i = intData t := fun i => by
      by_cases hi : i < m
      · obtain ⟨cs', h1, h2⟩ := hD i hi
        obtain ⟨t, e1, e2⟩ := int_open h2
        exact ⟨t, fun _ => ⟨by rw [h1, e1], e2⟩⟩
      · exact ⟨0, fun h => absurd h hi⟩
    obtain ⟨F, hF⟩ := Classical.axiomOfChoice hex
    refine ⟨a, len, cap, (List.range len).map F, (List.range (m - len)).map fun j => D (len + j), hcs, by simp, hlc, ?_, fun k t ht => ?_⟩
    · rw [hx]
      simp only [List.map_map]
      congr 1
      refine List.map_congr_left (fun i hi => ?_)
      exact (hF i (by have := List.mem_range.1 hi; omega)).2
    · rw [List.getElem?_map] at ht
      by_cases hk : k < len
      · rw [List.getElem?_range hk] at ht
        obtain rfl := Option.some.inj ht
        have cell : ∀ i j v, i < m → ([.int .i64 (F i)] : List Value)[j]? = some v → j < 1 → w.cell? ((a.add (i * 1)).add j) = some v := fun i j v hi hv hj => by
          have h1 := (hF i hi).1
          unfold World.cells? at h1
          rw [if_pos (Nat.zero_le _)] at h1
          have hj0 : j = 0 := by omega
          obtain ⟨b, hb, hc⟩ := Lib.mapM_at h1 j j (by rw [hj0]; rfl)
          rw [hv] at hb
          rw [Option.some.inj hb]
          exact hc
        have h00 := cell 0 0 _ (by omega) rfl (by decide)
        have hs : a.spot = none := by
          have e : (a.add (0 * 1)).add 0 = a := rfl
          rw [e] at h00
          exact cell_spotF h00
        obtain ⟨g, o0, s⟩ := a
        simp only at hs
        subst hs
        have ea : ∀ j, ((⟨g, o0, none⟩ : Addr).add (k * 1)).add j = ⟨g, o0 + k * 1 + j, none⟩ := fun j => by
          rw [add_spotF rfl (k * 1), add_spotF rfl j]
        have c0 := cell k 0 _ (by omega) rfl (by decide)
        rw [ea, Nat.mul_one, Nat.add_zero] at c0
        exact ⟨g, o0, rfl, c0⟩
      · rw [List.getElem?_eq_none (by simp; omega)] at ht
        cases ht
theorem sized_ints {ts : List TypeId} {ds : List (DataW H)} (h : (DataW.weightsEach Tryz.prog ts ds).all (· ≤ reachBytes) = true) {L : List Int} {spare : List (DataW H)} {j : Nat} (ht : ts[j]? = some 22) (hd : ds[j]? = some (.slice (L.map intData) spare)) : L.length * 8 ≤ reachBytes := by
  have hb : Tryz.prog.bytesOf 3 = 8 := by kernel_rfl
  have h1 := sized_slice h ht hd Tryz.underlying22
  rw [hb, List.length_map] at h1
  omega
end
end Go.Proofs.YtnobpeghofoniaaGreatDoor

import Derived.Test.YtnboehlbcjfndaaGreatDoorYAC
import Derived.Test.YtnboehlbcjfndaaGreatDoorYAE
import Derived.Test.YtnboehlbcjfndaaGreatDoorYAW
import Derived.Deep.Slices
import Derived.SizedLaws
import Derived.ChangeSame
import Derived.Test.YtnboehlbcjfndaaGreatDoorYBA
import Derived.Test.YtnboehlbcjfndaaGreatDoorYBL
import Derived.Lib.LaidTab
import Derived.Lib.SmallJoins
namespace Go.Proofs.YtnboehlbcjfndaaGreatDoor
open Go.RowKit
def strData {H : Type} (zs : List (List UInt8)) : DataW H := .agg (zs.map fun z => .lit (.string z))
theorem cells_of_strs {H : Type} {enc : TypeId × Value → H} {P : Program} {w : World} {base : Nat} {sp : Nat → Bool} {held : Bool} {fuel : Nat} {t e : TypeId} {n : Nat} {cs : List Value} {zs : List (List UInt8)} {p : List MemPlace}
    (ht : P.underlying t = some (.array n e)) (he : P.underlying e = some .string) (hce : P.cellsOf e = 1) (hct : P.cellsOf t = n)
    (h : DataW.trod enc P w base sp held fuel t cs = some (strData zs, p)) : cs = zs.map fun z => Value.string ⟨z.toArray⟩ := by
  cases fuel with
  | zero => simp [DataW.trod] at h
  | succ fuel =>
    simp only [DataW.trod, ht, hce, hct, Nat.mul_one] at h
    split at h
    · rename_i hl
      obtain ⟨xs, hm, hx⟩ := Option.map_eq_some_iff.1 h
      have hxs : xs.map (·.1) = zs.map fun z => (DataW.lit (.string z) : DataW H) := by
        have := congrArg Prod.fst hx
        simpa [strData] using this
      have hxl : xs.length = n := by simpa using Lib.mapM_length hm
      have hzl : zs.length = n := by
        have := congrArg List.length hxs
        simp at this
        omega
      apply List.ext_getElem?
      intro i
      by_cases hi : i < n
      · obtain ⟨b, hb, hf⟩ := Lib.mapM_at hm i i (by simp [hi])
        obtain ⟨z, hc, rfl, _⟩ := DataW.trod_string he hf
        have h1 : cs[i]? = some (.string z) := by
          have := congrArg (·[0]?) hc
          simpa [List.getElem?_take, List.getElem?_drop] using this
        have h2 : (xs.map (·.1))[i]? = some (DataW.lit (.string z.data.toList) : DataW H) := by simp [hb]
        rw [hxs] at h2
        simp only [List.getElem?_map, Option.map_eq_some_iff, DataW.lit.injEq, Lit.string.injEq] at h2
        obtain ⟨z', hz', rfl⟩ := h2
        simp [h1, hz']
      · rw [List.getElem?_eq_none (by omega), List.getElem?_eq_none (by simp; omega)]
    · cases h
theorem strs_of_head {P : Program} {W : World} {name : String} {zs : List (List UInt8)} {rest : List (String × DataW Unit)} {g : Nat} {t e : TypeId} {n : Nat}
    (hg : P.globalNamed name = some g) (hty : (P.globals[g]?).map (·.type) = some t) (ht : P.underlying t = some (.array n e)) (he : P.underlying e = some .string) (hce : P.cellsOf e = 1) (hct : P.cellsOf t = n)
    (h : laidMet P ((name, strData zs) :: rest) W) : W.var? P name = some (zs.map fun z => Value.string ⟨z.toArray⟩).toArray := by
  obtain ⟨ps, ⟨g', t', cs, fuel, p, q, hg', ht', hvar, hd, _, _⟩, _⟩ := h
  obtain rfl := Option.some.inj (hg.symm.trans hg')
  obtain rfl := Option.some.inj (hty.symm.trans ht')
  rw [hvar, ← cells_of_strs ht he hce hct hd]
theorem cF0 : Tryz.prog.cellsOf 3 = 1 := by kernel_rfl
theorem cF1 : Tryz.prog.cellsOf 9 = 1 := by kernel_rfl
section
variable {H : Type} {enc : TypeId × Value → H} {w : World} {base : Nat} {sp : Nat → Bool} {held : Bool}
theorem add_spotF {a : Addr} (h : a.spot = none) (m : Nat) : a.add m = ⟨a.block, a.off + m, none⟩ := by
  unfold Addr.add
  split
  · rename_i h0
    subst h0
    obtain ⟨b, o, s⟩ := a
    simp only at h
    subst h
    rfl
  · rfl
theorem cell_spotF {a : Addr} {v : Value} (h : w.cell? a = some v) : a.spot = none := by
  unfold World.cell? at h
  split at h
  · split at h
    · cases h
    · rename_i hs
      cases hh : a.spot with
      | none => rfl
      | some s => rw [hh] at hs; simp at hs
  · cases h
end
def intData {H : Type} (v : Int) : DataW H := .lit (.int .i64 v)
section
variable {H : Type} {enc : TypeId × Value → H} {w : World} {base : Nat} {sp : Nat → Bool} {held : Bool}
theorem int_open {fuel : Nat} {cs : List Value} {x : DataW H × List MemPlace} (h : DataW.trod enc Tryz.prog w base sp held fuel 3 cs = some x) : ∃ v : Int, cs = [.int .i64 v] ∧ x.1 = intData v := by
  obtain ⟨z, a, b, _⟩ := DataW.trod_int Tryz.underlying3 h
  exact ⟨z, a, by rw [b]; rfl⟩
theorem open_ints {fuel : Nat} {cs : List Value} {x : DataW H × List MemPlace} (hf : DataW.trod enc Tryz.prog w 0 sp held fuel 22 cs = some x) :
    (cs = [.slice none 0 0] ∧ x = (.nil, [])) ∨ ∃ (a : Addr) (len cap : Nat) (L : List Int) (spare : List (DataW H)), cs = [.slice (some a) len cap] ∧ L.length = len ∧ len ≤ cap ∧ x.1 = .slice (L.map intData) spare ∧
      ∀ (k : Nat) (f : Int), L[k]? = some f → ∃ g o0, a = ⟨g, o0, none⟩ ∧ w.cell? ⟨g, o0 + k, none⟩ = some (.int .i64 f) := by
  rcases Deep.open_slice Tryz.underlying22 hf with h | ⟨a, len, cap, m, n, D, Pl, hcs, _, hlc, hcm, hm, hx, hD⟩
  · exact .inl h
  · right
    rw [cF0] at hD
    have hlm : len ≤ m := by rw [hm]; split <;> omega
    have hex : ∀ i, ∃ t : Int, i < m → w.cells? 0 (a.add (i * 1)) 1 = some [.int .i64 t] ∧ D i = intData t := fun i => by
      by_cases hi : i < m
      · obtain ⟨cs', h1, h2⟩ := hD i hi
        obtain ⟨t, e1, e2⟩ := int_open h2
        exact ⟨t, fun _ => ⟨by rw [h1, e1], e2⟩⟩
      · exact ⟨0, fun h => absurd h hi⟩
    obtain ⟨F, hF⟩ := Classical.axiomOfChoice hex
    refine ⟨a, len, cap, (List.range len).map F, (List.range (m - len)).map fun j => D (len + j), hcs, by simp, hlc, ?_, fun k t ht => ?_⟩
    · rw [hx]
      simp only [List.map_map]
      congr 1
      refine List.map_congr_left (fun i hi => ?_)
      exact (hF i (by have := List.mem_range.1 hi; omega)).2
    · rw [List.getElem?_map] at ht
      by_cases hk : k < len
      · rw [List.getElem?_range hk] at ht
        obtain rfl := Option.some.inj ht
        have cell : ∀ i j v, i < m → ([.int .i64 (F i)] : List Value)[j]? = some v → j < 1 → w.cell? ((a.add (i * 1)).add j) = some v := fun i j v hi hv hj => by
          have h1 := (hF i hi).1
          unfold World.cells? at h1
          rw [if_pos (Nat.zero_le _)] at h1
          have hj0 : j = 0 := by omega
          obtain ⟨b, hb, hc⟩ := Lib.mapM_at h1 j j (by rw [hj0]; rfl)
          rw [hv] at hb
          rw [Option.some.inj hb]
          exact hc
        have h00 := cell 0 0 _ (by omega) rfl (by decide)
        have hs : a.spot = none := by
          have e : (a.add (0 * 1)).add 0 = a := rfl
          rw [e] at h00
          exact cell_spotF h00
        obtain ⟨g, o0, s⟩ := a
        simp only at hs
        subst hs
        have ea : ∀ j, ((⟨g, o0, none⟩ : Addr).add (k * 1)).add j = ⟨g, o0 + k * 1 + j, none⟩ := fun j => by
          rw [add_spotF rfl (k * 1), add_spotF rfl j]
        have c0 := cell k 0 _ (by omega) rfl (by decide)
        rw [ea, Nat.mul_one, Nat.add_zero] at c0
        exact ⟨g, o0, rfl, c0⟩
      · rw [List.getElem?_eq_none (by simp; omega)] at ht
        cases ht
theorem sized_ints {ts : List TypeId} {ds : List (DataW H)} (h : (DataW.weightsEach Tryz.prog ts ds).all (· ≤ reachBytes) = true) {L : List Int} {spare : List (DataW H)} {j : Nat} (ht : ts[j]? = some 22) (hd : ds[j]? = some (.slice (L.map intData) spare)) : L.length * 8 ≤ reachBytes := by
  have hb : Tryz.prog.bytesOf 3 = 8 := by kernel_rfl
  have h1 := sized_slice h ht hd Tryz.underlying22
  rw [hb, List.length_map] at h1
  omega
end
def fourData {H : Type} (zs : List (Bool × Bool × Bool × Bool)) : DataW H := .agg (zs.map fun z => .agg [.lit (.bool z.1), .lit (.bool z.2.1), .lit (.bool z.2.2.1), .lit (.bool z.2.2.2)])
def fourCel (z : Bool × Bool × Bool × Bool) : List Value := [.bool z.1, .bool z.2.1, .bool z.2.2.1, .bool z.2.2.2]
def fourCells (zs : List (Bool × Bool × Bool × Bool)) : List Value := zs.flatMap fourCel
theorem fourCells_at : ∀ (zs : List (Bool × Bool × Bool × Bool)) (i m : Nat) (z : Bool × Bool × Bool × Bool), zs[i]? = some z → m < 4 → (fourCells zs)[i * 4 + m]? = (fourCel z)[m]?
  | [], i, m, z, h, _ => by simp at h
  | y :: zs, 0, m, z, h, hm => by
    simp at h
    subst h
    show (fourCel y ++ fourCells zs)[0 * 4 + m]? = _
    rw [List.getElem?_append_left (by show 0 * 4 + m < 4; omega), Nat.zero_mul, Nat.zero_add]
  | y :: zs, i + 1, m, z, h, hm => by
    show (fourCel y ++ fourCells zs)[(i + 1) * 4 + m]? = _
    rw [List.getElem?_append_right (by show 4 ≤ _; omega), show (i + 1) * 4 + m - (fourCel y).length = i * 4 + m by show _ - 4 = _; omega]
    exact fourCells_at zs i m z (by simpa using h) hm
theorem fourCells_len : ∀ zs : List (Bool × Bool × Bool × Bool), (fourCells zs).length = zs.length * 4
  | [] => rfl
  | y :: zs => by
    show (fourCel y ++ fourCells zs).length = _
    rw [List.length_append, fourCells_len zs, List.length_cons]
    show 4 + _ = _
    omega
theorem cells_of_fours {H : Type} {enc : TypeId × Value → H} {P : Program} {w : World} {base : Nat} {sp : Nat → Bool} {held : Bool} {fuel : Nat} {t e i : TypeId} {n : Nat} {f0 f1 f2 f3 : Field} {cs : List Value} {zs : List (Bool × Bool × Bool × Bool)} {p : List MemPlace}
    (ht : P.underlying t = some (.array n e)) (he : P.underlying e = some (.struct #[f0, f1, f2, f3])) (h0 : f0.offset = 0) (h1 : f1.offset = 1) (h2 : f2.offset = 2) (h3 : f3.offset = 3) (k0 : f0.type = i) (k1 : f1.type = i) (k2 : f2.type = i) (k3 : f3.type = i) (hi : P.underlying i = some .bool) (hci : P.cellsOf i = 1) (hce : P.cellsOf e = 4) (hct : P.cellsOf t = n * 4)
    (h : DataW.trod enc P w base sp held fuel t cs = some (fourData zs, p)) : cs = fourCells zs := by
  cases fuel with
  | zero => simp [DataW.trod] at h
  | succ fuel =>
    simp only [DataW.trod, ht, hce, hct] at h
    split at h
    · rename_i hl
      obtain ⟨xs, hm, hx⟩ := Option.map_eq_some_iff.1 h
      have hxs : xs.map (·.1) = zs.map fun z => (DataW.agg [.lit (.bool z.1), .lit (.bool z.2.1), .lit (.bool z.2.2.1), .lit (.bool z.2.2.2)] : DataW H) := by
        have := congrArg Prod.fst hx
        simpa [fourData] using this
      have hxl : xs.length = n := by simpa using Lib.mapM_length hm
      have hzl : zs.length = n := by
        have := congrArg List.length hxs
        simp at this
        omega
      have key : ∀ j z, zs[j]? = some z → cs[j * 4]? = some (.bool z.1) ∧ cs[j * 4 + 1]? = some (.bool z.2.1) ∧ cs[j * 4 + 2]? = some (.bool z.2.2.1) ∧ cs[j * 4 + 3]? = some (.bool z.2.2.2) := by
        intro j z hz
        have hj : j < n := by rw [← hzl]; exact (List.getElem?_eq_some_iff.1 hz).1
        obtain ⟨b, hb, hf⟩ := Lib.mapM_at hm j j (by simp [hj])
        obtain ⟨y0, y1, y2, y3, m, hb2, hlen, g0, g1, g2, g3⟩ := Joins.trod_struct4 he hf
        rw [h0, k0, hci] at g0
        rw [h1, k1, hci] at g1
        rw [h2, k2, hci] at g2
        rw [h3, k3, hci] at g3
        obtain ⟨z0, hc0, hy0⟩ := DataW.trod_bool hi g0
        obtain ⟨z1, hc1, hy1⟩ := DataW.trod_bool hi g1
        obtain ⟨z2, hc2, hy2⟩ := DataW.trod_bool hi g2
        obtain ⟨z3, hc3, hy3⟩ := DataW.trod_bool hi g3
        have e2 : (xs.map (·.1))[j]? = some b.1 := by simp [hb]
        rw [hxs, List.getElem?_map, hz] at e2
        rw [hb2] at e2
        have e3 : (DataW.agg [.lit (.bool z.1), .lit (.bool z.2.1), .lit (.bool z.2.2.1), .lit (.bool z.2.2.2)] : DataW H) = .agg [y0.1, y1.1, y2.1, y3.1] := Option.some.inj e2
        rw [hy0, hy1, hy2, hy3] at e3
        have e4 : z.1 = z0 ∧ z.2.1 = z1 ∧ z.2.2.1 = z2 ∧ z.2.2.2 = z3 := by simpa using e3
        have c0 := congrArg (·[0]?) hc0
        have c1 := congrArg (·[0]?) hc1
        have c2 := congrArg (·[0]?) hc2
        have c3 := congrArg (·[0]?) hc3
        simp [List.getElem?_drop] at c0 c1 c2 c3
        exact ⟨by rw [e4.1]; exact c0, by rw [e4.2.1]; exact c1, by rw [e4.2.2.1]; exact c2, by rw [e4.2.2.2]; exact c3⟩
      apply List.ext_getElem?
      intro j
      by_cases hj : j < n * 4
      · obtain ⟨z, hz⟩ : ∃ z, zs[j / 4]? = some z := ⟨_, List.getElem?_eq_getElem (by omega)⟩
        obtain ⟨a0, a1, a2, a3⟩ := key _ z hz
        have hb := fun m hm => fourCells_at zs (j / 4) m z hz hm
        rcases (show j % 4 = 0 ∨ j % 4 = 1 ∨ j % 4 = 2 ∨ j % 4 = 3 by omega) with hm2 | hm2 | hm2 | hm2
        · have b0 := hb 0 (by omega)
          rw [show j / 4 * 4 + 0 = j by omega] at b0
          rw [show j / 4 * 4 = j by omega] at a0
          rw [a0, b0]
          rfl
        · have b0 := hb 1 (by omega)
          rw [show j / 4 * 4 + 1 = j by omega] at b0 a1
          rw [a1, b0]
          rfl
        · have b0 := hb 2 (by omega)
          rw [show j / 4 * 4 + 2 = j by omega] at b0 a2
          rw [a2, b0]
          rfl
        · have b0 := hb 3 (by omega)
          rw [show j / 4 * 4 + 3 = j by omega] at b0 a3
          rw [a3, b0]
          rfl
      · rw [List.getElem?_eq_none (by omega), List.getElem?_eq_none (by rw [fourCells_len]; omega)]
    · cases h
def usesL : List (Bool × Bool × Bool × Bool) := [(false, false, false, false), (true, false, false, false), (true, false, true, false), (true, true, false, false), (false, false, false, true)]
theorem fours_of_head {P : Program} {W : World} {name : String} {zs : List (Bool × Bool × Bool × Bool)} {rest : List (String × DataW Unit)} {g : Nat} {t e i : TypeId} {n : Nat} {f0 f1 f2 f3 : Field}
    (hg : P.globalNamed name = some g) (hty : (P.globals[g]?).map (·.type) = some t) (ht : P.underlying t = some (.array n e)) (he : P.underlying e = some (.struct #[f0, f1, f2, f3])) (h0 : f0.offset = 0) (h1 : f1.offset = 1) (h2 : f2.offset = 2) (h3 : f3.offset = 3) (k0 : f0.type = i) (k1 : f1.type = i) (k2 : f2.type = i) (k3 : f3.type = i) (hi : P.underlying i = some .bool) (hci : P.cellsOf i = 1) (hce : P.cellsOf e = 4) (hct : P.cellsOf t = n * 4)
    (h : laidMet P ((name, fourData zs) :: rest) W) : W.var? P name = some (fourCells zs).toArray := by
  obtain ⟨ps, ⟨g', t', cs, fuel, p, q, hg', ht', hvar, hd, _, _⟩, _⟩ := h
  obtain rfl := Option.some.inj (hg.symm.trans hg')
  obtain rfl := Option.some.inj (hty.symm.trans ht')
  rw [hvar, ← cells_of_fours ht he h0 h1 h2 h3 k0 k1 k2 k3 hi hci hce hct hd]
def tstData {H : Type} (t : TS) : DataW H := .agg [.lit (.string t.f), .lit (.int .i64 t.op), .lit (.int .i64 t.form), .lit (.int .i64 t.lo), .lit (.int .i64 t.hi), .lit (.int .i64 t.len), .lit (.string t.pat)]
theorem cT7 : Tryz.prog.cellsOf 27 = 7 := by kernel_rfl
section
variable {H : Type} {enc : TypeId × Value → H} {w : World} {base : Nat} {sp : Nat → Bool} {held : Bool}
theorem tst_open {fuel : Nat} {cs : List Value} {x : DataW H × List MemPlace} (h : DataW.trod enc Tryz.prog w base sp held fuel 27 cs = some x) : ∃ t : TS, cs = [.string ⟨t.f.toArray⟩, .int .i64 t.op, .int .i64 t.form, .int .i64 t.lo, .int .i64 t.hi, .int .i64 t.len, .string ⟨t.pat.toArray⟩] ∧ x.1 = tstData t := by
  obtain ⟨xs, n, _, rfl, hl, hlen, hf⟩ := DataW.trod_struct Tryz.underlying27 h
  rw [cT7] at hl
  match xs, hlen with
  | [y0, y1, y2, y3, y4, y5, y6], _ =>
    have g0 := hf 0 _ rfl
    have g1 := hf 1 _ rfl
    have g2 := hf 2 _ rfl
    have g3 := hf 3 _ rfl
    have g4 := hf 4 _ rfl
    have g5 := hf 5 _ rfl
    have g6 := hf 6 _ rfl
    obtain ⟨z0, a0, b0, _⟩ := DataW.trod_string Tryz.underlying9 g0
    obtain ⟨z1, a1, b1, _⟩ := DataW.trod_int Tryz.underlying3 g1
    obtain ⟨z2, a2, b2, _⟩ := DataW.trod_int Tryz.underlying3 g2
    obtain ⟨z3, a3, b3, _⟩ := DataW.trod_int Tryz.underlying3 g3
    obtain ⟨z4, a4, b4, _⟩ := DataW.trod_int Tryz.underlying3 g4
    obtain ⟨z5, a5, b5, _⟩ := DataW.trod_int Tryz.underlying3 g5
    obtain ⟨z6, a6, b6, _⟩ := DataW.trod_string Tryz.underlying9 g6
    replace a0 : (cs.drop 0).take (Tryz.prog.cellsOf 9) = [.string z0] := a0
    replace a1 : (cs.drop 1).take (Tryz.prog.cellsOf 3) = [.int .i64 z1] := a1
    replace a2 : (cs.drop 2).take (Tryz.prog.cellsOf 3) = [.int .i64 z2] := a2
    replace a3 : (cs.drop 3).take (Tryz.prog.cellsOf 3) = [.int .i64 z3] := a3
    replace a4 : (cs.drop 4).take (Tryz.prog.cellsOf 3) = [.int .i64 z4] := a4
    replace a5 : (cs.drop 5).take (Tryz.prog.cellsOf 3) = [.int .i64 z5] := a5
    replace a6 : (cs.drop 6).take (Tryz.prog.cellsOf 9) = [.string z6] := a6
    rw [cF1] at a0 a6
    rw [cF0] at a1 a2 a3 a4 a5
    clear g0 g1 g2 g3 g4 g5 g6 h hf
    refine ⟨⟨z0.data.toList, z1, z2, z3, z4, z5, z6.data.toList⟩, ?_, ?_⟩
    · match cs, hl with
      | [c0, c1, c2, c3, c4, c5, c6], _ =>
        have e0 : c0 = .string z0 := by simpa using a0
        have e1 : c1 = .int .i64 z1 := by simpa using a1
        have e2 : c2 = .int .i64 z2 := by simpa using a2
        have e3 : c3 = .int .i64 z3 := by simpa using a3
        have e4 : c4 = .int .i64 z4 := by simpa using a4
        have e5 : c5 = .int .i64 z5 := by simpa using a5
        have e6 : c6 = .string z6 := by simpa using a6
        rw [e0, e1, e2, e3, e4, e5, e6]
    · have d0 := congrArg Prod.fst b0
      have d1 := congrArg Prod.fst b1
      have d2 := congrArg Prod.fst b2
      have d3 := congrArg Prod.fst b3
      have d4 := congrArg Prod.fst b4
      have d5 := congrArg Prod.fst b5
      have d6 := congrArg Prod.fst b6
      simp only at d0 d1 d2 d3 d4 d5 d6
      simp only [List.map_cons, List.map_nil, d0, d1, d2, d3, d4, d5, d6]
      rfl
theorem w_tst (t : TS) : t.pat.length ∈ DataW.weights Tryz.prog 27 (tstData t : DataW H) := by
  unfold tstData
  simp [DataW.weights, Tryz.underlying27, DataW.weightsEach]
theorem sized_tst {ts : List TypeId} {ds : List (DataW H)} (h : (DataW.weightsEach Tryz.prog ts ds).all (· ≤ reachBytes) = true) {t : TS} {j : Nat} (ht : ts[j]? = some 27) (hd : ds[j]? = some (tstData t)) : t.pat.length ≤ reachBytes := by
  have := List.all_eq_true.1 h _ (DataW.weights_mem_each ht hd t.pat.length (w_tst t))
  simpa using this
end
end Go.Proofs.YtnboehlbcjfndaaGreatDoor

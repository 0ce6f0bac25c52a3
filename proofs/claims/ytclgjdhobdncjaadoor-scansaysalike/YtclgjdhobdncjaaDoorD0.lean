import Derived.Test.YtclgjdhobdncjaaDoorK0
import Derived.Lib.LaidTab
import Derived.ChangeSame
namespace Go.Proofs.YtclgjdhobdncjaaDoor
open Go.RowKit
/-- an array of pairs of numbers, as laid -/
def pairData {H : Type} (k : IntKind) (zs : List (Int × Int)) : DataW H := .agg (zs.map fun z => .agg [.lit (.int k z.1), .lit (.int k z.2)])
def pairCells (k : IntKind) (zs : List (Int × Int)) : List Value := zs.flatMap fun z => [.int k z.1, .int k z.2]
theorem pairCells_at (k : IntKind) (zs : List (Int × Int)) : ∀ (i : Nat) (z : Int × Int), zs[i]? = some z → (pairCells k zs)[i * 2]? = some (.int k z.1) ∧ (pairCells k zs)[i * 2 + 1]? = some (.int k z.2) := by
  induction zs with
  | nil => intro i z h; simp at h
  | cons y zs ih =>
    intro i z h
    cases i with
    | zero =>
      simp at h
      subst h
      exact ⟨rfl, rfl⟩
    | succ i =>
      have := ih i z (by simpa using h)
      rw [show (i + 1) * 2 = i * 2 + 1 + 1 by omega, show i * 2 + 1 + 1 + 1 = i * 2 + 1 + 1 + 1 by omega]
      exact this
theorem pairCells_len (k : IntKind) (zs : List (Int × Int)) : (pairCells k zs).length = zs.length * 2 := by
  induction zs with
  | nil => rfl
  | cons y zs ih =>
    show ([_, _] ++ pairCells k zs).length = _
    simp [ih]
    omega
theorem cells_of_pairs {H : Type} {enc : TypeId × Value → H} {P : Program} {w : World} {base : Nat} {sp : Nat → Bool} {held : Bool} {fuel : Nat} {t e i : TypeId} {n : Nat} {k : IntKind} {f0 f1 : Field} {cs : List Value} {zs : List (Int × Int)} {p : List MemPlace}
    (ht : P.underlying t = some (.array n e)) (he : P.underlying e = some (.struct #[f0, f1])) (h0 : f0.offset = 0) (h1 : f1.offset = 1) (h2 : f0.type = i) (h3 : f1.type = i) (hi : P.underlying i = some (.int k)) (hci : P.cellsOf i = 1) (hce : P.cellsOf e = 2) (hct : P.cellsOf t = n * 2)
    (h : DataW.trod enc P w base sp held fuel t cs = some (pairData k zs, p)) : cs = pairCells k zs := by
  cases fuel with
  | zero => simp [DataW.trod] at h
  | succ fuel =>
    simp only [DataW.trod, ht, hce, hct] at h
    split at h
    · rename_i hl
      obtain ⟨xs, hm, hx⟩ := Option.map_eq_some_iff.1 h
      have hxs : xs.map (·.1) = zs.map fun z => (DataW.agg [.lit (.int k z.1), .lit (.int k z.2)] : DataW H) := by
        have := congrArg Prod.fst hx
        simpa [pairData] using this
      have hxl : xs.length = n := by simpa using Lib.mapM_length hm
      have hzl : zs.length = n := by
        have := congrArg List.length hxs
        simp at this
        omega
      have key : ∀ j z, zs[j]? = some z → cs[j * 2]? = some (.int k z.1) ∧ cs[j * 2 + 1]? = some (.int k z.2) := by
        intro j z hz
        have hj : j < n := by rw [← hzl]; exact (List.getElem?_eq_some_iff.1 hz).1
        obtain ⟨b, hb, hf⟩ := Lib.mapM_at hm j j (by simp [hj])
        obtain ⟨y0, y1, m, hb2, hlen, g0, g1⟩ := ChangeShapes.trod_struct2 he hf
        rw [h0, h2, hci] at g0
        rw [h1, h3, hci] at g1
        obtain ⟨z0, hc0, hy0, _⟩ := DataW.trod_int hi g0
        obtain ⟨z1, hc1, hy1, _⟩ := DataW.trod_int hi g1
        have e2 : (xs.map (·.1))[j]? = some b.1 := by simp [hb]
        rw [hxs, List.getElem?_map, hz] at e2
        rw [hb2] at e2
        have e3 : (DataW.agg [.lit (.int k z.1), .lit (.int k z.2)] : DataW H) = .agg [y0.1, y1.1] := Option.some.inj e2
        rw [hy0, hy1] at e3
        have e4 : z.1 = z0 ∧ z.2 = z1 := by simpa using e3
        have c0 := congrArg (·[0]?) hc0
        have c1 := congrArg (·[0]?) hc1
        simp [List.getElem?_drop] at c0 c1
        exact ⟨by rw [e4.1]; exact c0, by rw [e4.2]; exact c1⟩
      apply List.ext_getElem?
      intro j
      by_cases hj : j < n * 2
      · obtain ⟨z, hz⟩ : ∃ z, zs[j / 2]? = some z := ⟨_, List.getElem?_eq_getElem (by omega)⟩
        obtain ⟨a0, a1⟩ := key _ z hz
        obtain ⟨b0, b1⟩ := pairCells_at k zs _ z hz
        rcases Nat.mod_two_eq_zero_or_one j with hm2 | hm2
        · rw [show j / 2 * 2 = j by omega] at a0 b0
          rw [a0, b0]
        · rw [show j / 2 * 2 + 1 = j by omega] at a1 b1
          rw [a1, b1]
      · rw [List.getElem?_eq_none (by omega), List.getElem?_eq_none (by rw [pairCells_len]; omega)]
    · cases h
def PairIs (P : Program) (w : World) (name : String) (k : IntKind) (zs : List (Int × Int)) : Prop := w.var? P name = some (pairCells k zs).toArray
theorem pairIs_of_head {P : Program} {W : World} {name : String} {k : IntKind} {zs : List (Int × Int)} {rest : List (String × DataW Unit)} {g : Nat} {t e i : TypeId} {n : Nat} {f0 f1 : Field}
    (hg : P.globalNamed name = some g) (hty : (P.globals[g]?).map (·.type) = some t) (ht : P.underlying t = some (.array n e)) (he : P.underlying e = some (.struct #[f0, f1])) (h0 : f0.offset = 0) (h1 : f1.offset = 1) (h2 : f0.type = i) (h3 : f1.type = i) (hi : P.underlying i = some (.int k)) (hci : P.cellsOf i = 1) (hce : P.cellsOf e = 2) (hct : P.cellsOf t = n * 2)
    (h : laidMet P ((name, pairData k zs) :: rest) W) : PairIs P W name k zs := by
  obtain ⟨ps, ⟨g', t', cs, fuel, p, q, hg', ht', hvar, hd, _, _⟩, _⟩ := h
  obtain rfl := Option.some.inj (hg.symm.trans hg')
  obtain rfl := Option.some.inj (hty.symm.trans ht')
  unfold PairIs
  rw [hvar, ← cells_of_pairs ht he h0 h1 h2 h3 hi hci hce hct hd]
theorem PairIs.cell {P : Program} {W : World} {name : String} {k : IntKind} {zs : List (Int × Int)} {g : Nat} (h : PairIs P W name k zs) (hg : P.globalNamed name = some g) (i : Nat) (z : Int × Int) (hz : zs[i]? = some z) :
    W.cell? ⟨g, i * 2, none⟩ = some (.int k z.1) ∧ W.cell? ⟨g, i * 2 + 1, none⟩ = some (.int k z.2) := by
  obtain ⟨a, b⟩ := pairCells_at k zs i z hz
  have c := World.var?_cell hg h (i * 2)
  have d := World.var?_cell hg h (i * 2 + 1)
  rw [List.getElem?_toArray] at c d
  exact ⟨c.trans a, d.trans b⟩
end Go.Proofs.YtclgjdhobdncjaaDoor

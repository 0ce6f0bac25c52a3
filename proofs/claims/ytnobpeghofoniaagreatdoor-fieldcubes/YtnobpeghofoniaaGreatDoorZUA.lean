import Derived.Test.YtnobpeghofoniaaGreatDoorZHA
import Derived.Test.YtnobpeghofoniaaGreatDoorZ48
import Derived.Lib.LaidTab
import Derived.Lib.SmallJoins
import Derived.ChangeSame
import Derived.SizedLaws
import Derived.Test.YtnobpeghofoniaaGreatDoorZSB
import Derived.Test.YtnobpeghofoniaaGreatDoorZ39
namespace Go.Proofs.YtnobpeghofoniaaGreatDoor
open Go.RowKit
/-- an array of fours of truth values, as laid -/
def fourData {H : Type} (zs : List (Bool × Bool × Bool × Bool)) : DataW H := .agg (zs.map fun z => .agg [.lit (.bool z.1), .lit (.bool z.2.1), .lit (.bool z.2.2.1), .lit (.bool z.2.2.2)])
def fourCel (z : Bool × Bool × Bool × Bool) : List Value := [.bool z.1, .bool z.2.1, .bool z.2.2.1, .bool z.2.2.2]
def fourCells (zs : List (Bool × Bool × Bool × Bool)) : List Value := zs.flatMap fourCel
theorem fourCells_at : ∀ (zs : List (Bool × Bool × Bool × Bool)) (i m : Nat) (z : Bool × Bool × Bool × Bool), zs[i]? = some z → m < 4 → (fourCells zs)[i * 4 + m]? = (fourCel z)[m]?
  | [], i, m, z, h, _ => by simp at h
  | y :: zs, 0, m, z, h, hm => by
    simp at h
    subst h
    show (fourCel y ++ fourCells zs)[0 * 4 + m]? = _
    rw [List.getElem?_append_left (by show 0 * 4 + m < 4; omega), Nat.zero_mul, Nat.zero_add]
  | y :: zs, i + 1, m, z, h, hm => by
    show (fourCel y ++ fourCells zs)[(i + 1) * 4 + m]? = _
    rw [List.getElem?_append_right (by show 4 ≤ _; omega), show (i + 1) * 4 + m - (fourCel y).length = i * 4 + m by show _ - 4 = _; omega]
    exact fourCells_at zs i m z (by simpa using h) hm
theorem fourCells_len : ∀ zs : List (Bool × Bool × Bool × Bool), (fourCells zs).length = zs.length * 4
  | [] => rfl
  | y :: zs => by
    show (fourCel y ++ fourCells zs).length = _
    rw [List.length_append, fourCells_len zs, List.length_cons]
    show 4 + _ = _
    omega
theorem cells_of_fours {H : Type} {enc : TypeId × Value → H} {P : Program} {w : World} {base : Nat} {sp : Nat → Bool} {held : Bool} {fuel : Nat} {t e i : TypeId} {n : Nat} {f0 f1 f2 f3 : Field} {cs : List Value} {zs : List (Bool × Bool × Bool × Bool)} {p : List MemPlace}
    (ht : P.underlying t = some (.array n e)) (he : P.underlying e = some (.struct #[f0, f1, f2, f3])) (h0 : f0.offset = 0) (h1 : f1.offset = 1) (h2 : f2.offset = 2) (h3 : f3.offset = 3) (k0 : f0.type = i) (k1 : f1.type = i) (k2 : f2.type = i) (k3 : f3.type = i) (hi : P.underlying i = some .bool) (hci : P.cellsOf i = 1) (hce : P.cellsOf e = 4) (hct : P.cellsOf t = n * 4)
    (h : DataW.trod enc P w base sp held fuel t cs = some (fourData zs, p)) : cs = fourCells zs := by
  cases fuel with
  | zero => simp [DataW.trod] at h
  | succ fuel =>
    simp only [DataW.trod, ht, hce, hct] at h
    split at h
    · rename_i hl
      obtain ⟨xs, hm, hx⟩ := Option.map_eq_some_iff.1 h
      have hxs : xs.map (·.1) = zs.map fun z => (DataW.agg [.lit (.bool z.1), .lit (.bool z.2.1), .lit (.bool z.2.2.1), .lit (.bool z.2.2.2)] : DataW H) := by
        have := congrArg Prod.fst hx
        simpa [fourData] using this
      have hxl : xs.length = n := by simpa using Lib.mapM_length hm
      have hzl : zs.length = n := by
        have := congrArg List.length hxs
        simp at this
        omega
      have key : ∀ j z, zs[j]? = some z → cs[j * 4]? = some (.bool z.1) ∧ cs[j * 4 + 1]? = some (.bool z.2.1) ∧ cs[j * 4 + 2]? = some (.bool z.2.2.1) ∧ cs[j * 4 + 3]? = some (.bool z.2.2.2) := by
        intro j z hz
        have hj : j < n := by rw [← hzl]; exact (List.getElem?_eq_some_iff.1 hz).1
        obtain ⟨b, hb, hf⟩ := Lib.mapM_at hm j j (by simp [hj])
        obtain ⟨y0, y1, y2, y3, m, hb2, hlen, g0, g1, g2, g3⟩ := Joins.trod_struct4 he hf
        rw [h0, k0, hci] at g0
        rw [h1, k1, hci] at g1
        rw [h2, k2, hci] at g2
        rw [h3, k3, hci] at g3
        obtain ⟨z0, hc0, hy0⟩ := DataW.trod_bool hi g0
        obtain ⟨z1, hc1, hy1⟩ := DataW.trod_bool hi g1
        obtain ⟨z2, hc2, hy2⟩ := DataW.trod_bool hi g2
        obtain ⟨z3, hc3, hy3⟩ := DataW.trod_bool hi g3
        have e2 : (xs.map (·.1))[j]? = some b.1 := by simp [hb]
        rw [hxs, List.getElem?_map, hz] at e2
        rw [hb2] at e2
        have e3 : (DataW.agg [.lit (.bool z.1), .lit (.bool z.2.1), .lit (.bool z.2.2.1), .lit (.bool z.2.2.2)] : DataW H) = .agg [y0.1, y1.1, y2.1, y3.1] := Option.some.inj e2
        rw [hy0, hy1, hy2, hy3] at e3
        have e4 : z.1 = z0 ∧ z.2.1 = z1 ∧ z.2.2.1 = z2 ∧ z.2.2.2 = z3 := by simpa using e3
        have c0 := congrArg (·[0]?) hc0
        have c1 := congrArg (·[0]?) hc1
        have c2 := congrArg (·[0]?) hc2
        have c3 := congrArg (·[0]?) hc3
        simp [List.getElem?_drop] at c0 c1 c2 c3
        exact ⟨by rw [e4.1]; exact c0, by rw [e4.2.1]; exact c1, by rw [e4.2.2.1]; exact c2, by rw [e4.2.2.2]; exact c3⟩
      apply List.ext_getElem?
      intro j
      by_cases hj : j < n * 4
      · obtain ⟨z, hz⟩ : ∃ z, zs[j / 4]? = some z := ⟨_, List.getElem?_eq_getElem (by omega)⟩
        obtain ⟨a0, a1, a2, a3⟩ := key _ z hz
        have hb := fun m hm => fourCells_at zs (j / 4) m z hz hm
        rcases (show j % 4 = 0 ∨ j % 4 = 1 ∨ j % 4 = 2 ∨ j % 4 = 3 by omega) with hm2 | hm2 | hm2 | hm2
        · have b0 := hb 0 (by omega)
          rw [show j / 4 * 4 + 0 = j by omega] at b0
          rw [show j / 4 * 4 = j by omega] at a0
          rw [a0, b0]
          rfl
        · have b0 := hb 1 (by omega)
          rw [show j / 4 * 4 + 1 = j by omega] at b0 a1
          rw [a1, b0]
          rfl
        · have b0 := hb 2 (by omega)
          rw [show j / 4 * 4 + 2 = j by omega] at b0 a2
          rw [a2, b0]
          rfl
        · have b0 := hb 3 (by omega)
          rw [show j / 4 * 4 + 3 = j by omega] at b0 a3
          rw [a3, b0]
          rfl
      · rw [List.getElem?_eq_none (by omega), List.getElem?_eq_none (by rw [fourCells_len]; omega)]
    · cases h
def usesL : List (Bool × Bool × Bool × Bool) := [(false, false, false, false), (true, false, false, false), (true, false, true, false), (true, true, false, false), (false, false, false, true)]
theorem fours_of_head {P : Program} {W : World} {name : String} {zs : List (Bool × Bool × Bool × Bool)} {rest : List (String × DataW Unit)} {g : Nat} {t e i : TypeId} {n : Nat} {f0 f1 f2 f3 : Field}
    (hg : P.globalNamed name = some g) (hty : (P.globals[g]?).map (·.type) = some t) (ht : P.underlying t = some (.array n e)) (he : P.underlying e = some (.struct #[f0, f1, f2, f3])) (h0 : f0.offset = 0) (h1 : f1.offset = 1) (h2 : f2.offset = 2) (h3 : f3.offset = 3) (k0 : f0.type = i) (k1 : f1.type = i) (k2 : f2.type = i) (k3 : f3.type = i) (hi : P.underlying i = some .bool) (hci : P.cellsOf i = 1) (hce : P.cellsOf e = 4) (hct : P.cellsOf t = n * 4)
    (h : laidMet P ((name, fourData zs) :: rest) W) : W.var? P name = some (fourCells zs).toArray := by
  obtain ⟨ps, ⟨g', t', cs, fuel, p, q, hg', ht', hvar, hd, _, _⟩, _⟩ := h
  obtain rfl := Option.some.inj (hg.symm.trans hg')
  obtain rfl := Option.some.inj (hty.symm.trans ht')
  rw [hvar, ← cells_of_fours ht he h0 h1 h2 h3 k0 k1 k2 k3 hi hci hce hct hd]
/-- a test, as read -/
def tstData {H : Type} (t : TS) : DataW H := .agg [.lit (.string t.f), .lit (.int .i64 t.op), .lit (.int .i64 t.form), .lit (.int .i64 t.lo), .lit (.int .i64 t.hi), .lit (.int .i64 t.len), .lit (.string t.pat)]
theorem cT7 : Tryz.prog.cellsOf 43 = 7 := by kernel_rfl
section
variable {H : Type} {enc : TypeId × Value → H} {w : World} {base : Nat} {sp : Nat → Bool} {held : Bool}
theorem tst_open {fuel : Nat} {cs : List Value} {x : DataW H × List MemPlace} (h : DataW.trod enc Tryz.prog w base sp held fuel 43 cs = some x) : ∃ t : TS, cs = [.string ⟨t.f.toArray⟩, .int .i64 t.op, .int .i64 t.form, .int .i64 t.lo, .int .i64 t.hi, .int .i64 t.len, .string ⟨t.pat.toArray⟩] ∧ x.1 = tstData t := by
  obtain ⟨xs, n, _, rfl, hl, hlen, hf⟩ := DataW.trod_struct Tryz.underlying43 h
  rw [cT7] at hl
  match xs, hlen with
  | [y0, y1, y2, y3, y4, y5, y6], _ =>
    have g0 := hf 0 _ rfl
    have g1 := hf 1 _ rfl
    have g2 := hf 2 _ rfl
    have g3 := hf 3 _ rfl
    have g4 := hf 4 _ rfl
    have g5 := hf 5 _ rfl
    have g6 := hf 6 _ rfl
    obtain ⟨z0, a0, b0, _⟩ := DataW.trod_string Tryz.underlying9 g0
    obtain ⟨z1, a1, b1, _⟩ := DataW.trod_int Tryz.underlying3 g1
    obtain ⟨z2, a2, b2, _⟩ := DataW.trod_int Tryz.underlying3 g2
    obtain ⟨z3, a3, b3, _⟩ := DataW.trod_int Tryz.underlying3 g3
    obtain ⟨z4, a4, b4, _⟩ := DataW.trod_int Tryz.underlying3 g4
    obtain ⟨z5, a5, b5, _⟩ := DataW.trod_int Tryz.underlying3 g5
    obtain ⟨z6, a6, b6, _⟩ := DataW.trod_string Tryz.underlying9 g6
    replace a0 : (cs.drop 0).take (Tryz.prog.cellsOf 9) = [.string z0] := a0
    replace a1 : (cs.drop 1).take (Tryz.prog.cellsOf 3) = [.int .i64 z1] := a1
    replace a2 : (cs.drop 2).take (Tryz.prog.cellsOf 3) = [.int .i64 z2] := a2
    replace a3 : (cs.drop 3).take (Tryz.prog.cellsOf 3) = [.int .i64 z3] := a3
    replace a4 : (cs.drop 4).take (Tryz.prog.cellsOf 3) = [.int .i64 z4] := a4
    replace a5 : (cs.drop 5).take (Tryz.prog.cellsOf 3) = [.int .i64 z5] := a5
    replace a6 : (cs.drop 6).take (Tryz.prog.cellsOf 9) = [.string z6] := a6
    rw [cF1] at a0 a6
    rw [cF0] at a1 a2 a3 a4 a5
    clear g0 g1 g2 g3 g4 g5 g6 h hf
    refine ⟨⟨z0.data.toList, z1, z2, z3, z4, z5, z6.data.toList⟩, ?_, ?_⟩
    · match cs, hl with
      | [c0, c1, c2, c3, c4, c5, c6], _ =>
        have e0 : c0 = .string z0 := by simpa using a0
        have e1 : c1 = .int .i64 z1 := by simpa using a1
        have e2 : c2 = .int .i64 z2 := by simpa using a2
        have e3 : c3 = .int .i64 z3 := by simpa using a3
        have e4 : c4 = .int .i64 z4 := by simpa using a4
        have e5 : c5 = .int .i64 z5 := by simpa using a5
        have e6 : c6 = .string z6 := by simpa using a6
        rw [e0, e1, e2, e3, e4, e5, e6]
    · have d0 := congrArg Prod.fst b0
      have d1 := congrArg Prod.fst b1
      have d2 := congrArg Prod.fst b2
      have d3 := congrArg Prod.fst b3
      have d4 := congrArg Prod.fst b4
      have d5 := congrArg Prod.fst b5
      have d6 := congrArg Prod.fst b6
      simp only at d0 d1 d2 d3 d4 d5 d6
      simp only [List.map_cons, List.map_nil, d0, d1, d2, d3, d4, d5, d6]
      rfl
theorem w_tst (t : TS) : t.pat.length ∈ DataW.weights Tryz.prog 43 (tstData t : DataW H) := by
  unfold tstData
  simp [DataW.weights, Tryz.underlying43, DataW.weightsEach]
theorem sized_tst {ts : List TypeId} {ds : List (DataW H)} (h : (DataW.weightsEach Tryz.prog ts ds).all (· ≤ reachBytes) = true) {t : TS} {j : Nat} (ht : ts[j]? = some 43) (hd : ds[j]? = some (tstData t)) : t.pat.length ≤ reachBytes := by
  have := List.all_eq_true.1 h _ (DataW.weights_mem_each ht hd t.pat.length (w_tst t))
  simpa using this
end
end Go.Proofs.YtnobpeghofoniaaGreatDoor
namespace Go.Proofs.YtnobpeghofoniaaGreatDoor
open Go.RowKit Go.Shelf
theorem covI_len2 {b : Nat} {lo hi : Int} (h0 : 0 ≤ lo) : (covI b lo hi).length ≤ (hi + 1 - lo).toNat := by
  unfold covI
  split
  · simp
  · unfold cov
    rw [List.length_map]
    have := grl_len hi.toNat (hi.toNat + 1 - lo.toNat) lo.toNat (Nat.le_refl _)
    omega
theorem pie_len2 {b : Nat} {t : TS} (hb : b ≤ 32) (h : TOK b t) : (pieM b t).length ≤ 4294967296 := by
  have hp0 : 0 < 2 ^ b := Nat.pow_pos (by decide)
  have hp : 2 ^ b ≤ 2 ^ 32 := Nat.pow_le_pow_right (by decide) hb
  obtain ⟨-, k2, k3, k4, k5, -, -, -, k8, -⟩ := h
  unfold pieM othM
  split
  · have := covI_len (b := b) (lo := 0) (hi := t.lo) hb (by omega) (by omega); omega
  · split
    · have := covI_len (b := b) (lo := 0) (hi := t.lo - 1) hb (by omega) (by omega); omega
    · split
      · have := covI_len (b := b) (lo := t.lo) (hi := ((2 ^ b - 1 : Nat) : Int)) hb (by omega) (by omega); omega
      · split
        · have := covI_len (b := b) (lo := t.lo + 1) (hi := ((2 ^ b - 1 : Nat) : Int)) hb (by omega) (by omega); omega
        · split
          · split
            · rename_i h3
              have h4 := k8 h3
              have h1 := covI_len2 (b := b) (lo := 0) (hi := t.lo - 1) (by omega)
              have h2 := covI_len2 (b := b) (lo := t.hi + 1) (hi := ((2 ^ b - 1 : Nat) : Int)) (by omega)
              rw [List.length_append]
              omega
            · have := splX_len b (oneM b t); omega
          · split
            · have := covI_len (b := b) (lo := t.lo) (hi := t.hi) hb (by omega) (by omega); omega
            · simp
theorem cbM_len (L : List IFld) (t : TS) : (cbM L t).1.length ≤ 4294967296 := by
  unfold cbM
  split
  · simp
  · rename_i h0
    split
    · simp
    · rename_i h1
      split
      · simp
      · rename_i h2
        have h0 : (chkM L).1 = 0 := Classical.not_not.1 h0
        have h2 := Classical.not_not.1 h2
        obtain ⟨k, hk⟩ : ∃ k : Nat, idxF L t.f = k := ⟨(idxF L t.f).toNat, by omega⟩
        obtain ⟨fk, hfk, -⟩ := idx_at hk
        have hgd : L.getD k ([], 0) = fk := by simp [List.getD, hfk]
        obtain ⟨-, -, k3, -⟩ := chk_ok h0
        have hkb := k3 fk (List.mem_of_getElem? hfk)
        rw [hk, Int.toNat_natCast, hgd] at h2 ⊢
        rw [List.length_map]
        exact pie_len2 (by omega) (flt_ok h2)
set_option maxRecDepth 100000 in
set_option maxHeartbeats 8000000 in
theorem fieldCubes_walk (L : List IFld) (n : Nat) (ad : Option Addr) (cap : Nat) (t : TS) (w : World) (hLn : L.length = n) (hcap : n ≤ cap) (hlb : n * 24 ≤ 140737488355328) (hstr : ∀ f ∈ L, f.1.length ≤ 281474976710656) (hcell : IRF w ad L) (hpl : t.pat.length ≤ 281474976710656) (hv1 : SH w) (hdb : DB w) (hv4 : SG w) (hv5 : VW w) (hu : US w) :
    Calls Tryz.prog 5 #[.slice ad n cap, t.v] w fun e w' => e = .returned (.bool true) ∧ Below w.heap.size w w' := by
  obtain ⟨r, hr⟩ : ∃ r, cbM L t = r := ⟨_, rfl⟩
  have hrl := cbM_len L t
  rw [hr] at hrl
  have HRC0 : ∀ W : World, Below w.heap.size w W → Calls Tryz.prog 20 #[.slice ad n cap, t.v] W fun e w' => cuR W r e w' := fun W hW => by
    rw [← hLn, ← hr]
    exact refCubes_any L ad cap t W (by omega) hstr hpl (hcell.later hW)
  have HCP : Hid (∀ W : World, Below w.heap.size w W → Calls Tryz.prog 21 #[.slice ad n cap] W fun e w' => ∃ v, e = .returned v ∧ w'.ownsRow W.heap.size 39 2 v n (fels L) ∧ Below W.heap.size W w') := fun W hW => by
    rw [← hLn]
    exact copyFields_any L ad cap W (by omega) (hcell.later hW)
  have HCK0 : ∀ W : World, Below w.heap.size w W → Calls Tryz.prog 16 #[.slice ad n cap, t.v] W fun e w' => cuR W r e w' := fun W hW => by
    rw [← hLn, ← hr]
    exact fcubes_any L ad cap t W (by omega) (by omega) hstr hpl (hcell.later hW) (hv1.below hW) (hv4.below hW) (hv5.below hW) (hu.below hW) (hdb.below hW)
  have HUN : Hid (∀ (W : World) (o2 : Option Addr) (c2 : Nat), IRF W ad L → IRF W o2 L → Calls Tryz.prog 23 #[.slice ad n cap, .slice o2 n c2] W fun e w' => e = .returned (.bool false) ∧ Below W.heap.size W w') := fun W o2 c2 i1 i2 => by
    rw [← hLn]
    exact unlike_any L ad o2 cap c2 W (by omega) i1 i2
  have HKN : Hid (∀ W : World, Below w.heap.size w W → Calls Tryz.prog 19 #[] W fun e w' => e = .returned (.bool true) ∧ Below W.heap.size W w') := fun W hW => known_any W (hdb.below hW)
  have HLN : Hid (L.length = n) := hLn
  have HR : Hid (∀ W : World, Below w.heap.size w W → IRF W ad L) := fun W hW => hcell.later hW
  obtain ⟨S, a0⟩ := r
  simp only at hrl
  have HSM : Hid (∀ (va vb : Value) (W : World) (B1 B2 : Nat), W.ownsRow B1 9 1 va S.length (stx S) → W.ownsRow B2 9 1 vb S.length (stx S) → Calls Tryz.prog 22 #[va, vb] W fun e w' => e = .returned (.bool true) ∧ Below W.heap.size W w') := fun va vb W B1 B2 h1 h2 => same_any S B1 B2 va vb W (by omega) h1 h2
  have y1 : (a0 == a0) = true := beq_self_eq_true a0
  obtain ⟨f, op, form, lo, hi, len, pat⟩ := t
  have HRC : Hid (∀ W : World, Below w.heap.size w W → Calls Tryz.prog 20 #[.slice ad n cap, .agg #[.string ⟨f.toArray⟩, .int .i64 op, .int .i64 form, .int .i64 lo, .int .i64 hi, .int .i64 len, .string ⟨pat.toArray⟩]] W fun e w' => cuR W (S, a0) e w') := HRC0
  have HCK : Hid (∀ W : World, Below w.heap.size w W → Calls Tryz.prog 16 #[.slice ad n cap, .agg #[.string ⟨f.toArray⟩, .int .i64 op, .int .i64 form, .int .i64 lo, .int .i64 hi, .int .i64 len, .string ⟨pat.toArray⟩]] W fun e w' => cuR W (S, a0) e w') := HCK0
  show Calls Tryz.prog 5 #[.slice ad n cap, .agg #[.string ⟨f.toArray⟩, .int .i64 op, .int .i64 form, .int .i64 lo, .int .i64 hi, .int .i64 len, .string ⟨pat.toArray⟩]] w _
  obtain ⟨O, hO⟩ : ∃ O : Obj, Obj.cells #[.string ⟨f.toArray⟩, .int .i64 op, .int .i64 form, .int .i64 lo, .int .i64 hi, .int .i64 len, .string ⟨pat.toArray⟩] 43 = O := ⟨_, rfl⟩
  have hB1 : Below w.heap.size w (w.alloc O) := (Below.refl _ _).alloc (Nat.le_refl _) _
  have hbx : (w.alloc O).heap[w.heap.size]? = some (.cells #[.string ⟨f.toArray⟩, .int .i64 op, .int .i64 form, .int .i64 lo, .int .i64 hi, .int .i64 len, .string ⟨pat.toArray⟩] 43) := by rw [hO]; exact alloc_get _ _
  have HX : Hid (∀ W : World, Below (w.alloc O).heap.size (w.alloc O) W → W.cell? ⟨w.heap.size, 0, none⟩ = some (.string ⟨f.toArray⟩) ∧ W.cell? ⟨w.heap.size, 1, none⟩ = some (.int .i64 op) ∧ W.cell? ⟨w.heap.size, 2, none⟩ = some (.int .i64 form) ∧ W.cell? ⟨w.heap.size, 3, none⟩ = some (.int .i64 lo) ∧ W.cell? ⟨w.heap.size, 4, none⟩ = some (.int .i64 hi) ∧ W.cell? ⟨w.heap.size, 5, none⟩ = some (.int .i64 len) ∧ W.cell? ⟨w.heap.size, 6, none⟩ = some (.string ⟨pat.toArray⟩)) := fun W hW => ⟨cell_of_row _ _ 0 _ _ _ (keepblk hW hbx), cell_of_row _ _ 1 _ _ _ (keepblk hW hbx), cell_of_row _ _ 2 _ _ _ (keepblk hW hbx), cell_of_row _ _ 3 _ _ _ (keepblk hW hbx), cell_of_row _ _ 4 _ _ _ (keepblk hW hbx), cell_of_row _ _ 5 _ _ _ (keepblk hW hbx), cell_of_row _ _ 6 _ _ _ (keepblk hW hbx)⟩
  obtain ⟨t0, t1, t2, t3, t4, t5, t6⟩ := HX.out _ (Below.refl _ _)
  clear hbx hr hLn hcell hstr hv1 hv4 hv5 hdb HRC0 HCK0 hrl
  go_enter Tryz.func5, Tryz.ntmps5
  go_wp2_with fail
  try simp only [hO]
  refine (HRC.out _ hB1).mono ?_
  rintro e W1 ⟨v1, rfl, hown1, hb1⟩
  simp only at hown1
  have hB1' := bel0 hB1 hb1
  obtain ⟨x0, x1, x2, x3, x4, x5, x6⟩ := HX.out W1 hb1
  go_wp2_with fail
  refine (HCP.out _ hB1').mono ?_
  rintro e W2 ⟨v, rfl, hown, hb2⟩
  have hB2 := bel0 hB1' hb2
  have hX2 := bel0 hb1 hb2
  obtain ⟨y0, y1', y2, y3, y4, y5, y6⟩ := HX.out W2 hX2
  obtain ⟨pv, cv, rfl⟩ := shapeP hown
  have HO : Hid (∀ W : World, Below W2.heap.size W2 W → IRF W pv L) := fun W hW => (IRF_own hown HLN.out).later hW
  clear hown
  go_wp2_with fail
  refine (HCK.out _ hB2).mono ?_
  rintro e W3 ⟨v3, rfl, hown3, hb3⟩
  simp only at hown3
  have hB3 := bel0 hB2 hb3
  have hown1' := owns_below hown1 (bel0 hb2 hb3)
  go_wp2_with fail
  refine (num_any a0 _).mono ?_
  rintro e W5 ⟨rfl, rfl⟩
  go_wp2_with fail
  refine (HSM.out v3 v1 _ _ _ hown3 hown1').mono ?_
  rintro e W6 ⟨rfl, hb6⟩
  have hB6 := bel0 hB3 hb6
  have hE6 := bel0 hb3 hb6
  go_wp2_with fail
  refine (HUN.out _ pv cv (HR.out _ hB6) (HO.out _ hE6)).mono ?_
  rintro e W7 ⟨rfl, hb7⟩
  have hB7 := bel0 hB6 hb7
  go_wp2_with fail
  refine (HKN.out _ hB7).mono ?_
  rintro e W8 ⟨rfl, hb8⟩
  go_wp2_with fail
  go_ret
  exact ⟨rfl, bel0 hB7 hb8⟩
end Go.Proofs.YtnobpeghofoniaaGreatDoor

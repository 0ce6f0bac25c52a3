import Derived.Test.YtfhlgncpleleaaaDoorUP
import Derived.Test.YtfhlgncpleleaaaDoorRows
import Derived.WalkKit
import Derived.Lib.LaidTab
import Derived.Lib.SmallJoins
import Derived.ChangeSame
import Derived.Deep.Slices
import Derived.SizedLaws
namespace Go.Proofs.YtfhlgncpleleaaaDoor
open Go.RowKit
theorem cR0 : Tryd.prog.cellsOf 3 = 1 := by kernel_rfl
theorem cR1 : Tryd.prog.cellsOf 9 = 1 := by kernel_rfl
theorem cR2 : Tryd.prog.cellsOf 4 = 1 := by kernel_rfl
theorem cR3 : Tryd.prog.cellsOf 28 = 1 := by kernel_rfl
theorem cR4 : Tryd.prog.cellsOf 23 = 1 := by kernel_rfl
theorem cR5 : Tryd.prog.cellsOf 22 = 1 := by kernel_rfl
theorem cR9 : Tryd.prog.cellsOf 30 = 9 := by kernel_rfl
theorem cR8 : Tryd.prog.cellsOf 25 = 5 := by kernel_rfl
theorem wf_i64 {n : Int} (h : (Lit.int .i64 n).wf = true) : -9223372036854775808 ≤ n ∧ n ≤ 9223372036854775807 := by
  simp only [Lit.wf, Bool.and_eq_true, decide_eq_true_eq] at h
  exact h
theorem bulk_one {H : Type} (d : DataW H) : 1 ≤ Rows.uptoBulk d := by
  cases d with
  | lit l => cases l <;> simp [Rows.uptoBulk]
  | nil => simp [Rows.uptoBulk]
  | ptr d => simp [Rows.uptoBulk]
  | slice elems spare => simp [Rows.uptoBulk]
  | agg parts => simp [Rows.uptoBulk]
  | iface t d => simp [Rows.uptoBulk]
  | map entries => simp [Rows.uptoBulk]
  | held h => simp [Rows.uptoBulk]
theorem bulk_app {H : Type} (l r : List (DataW H)) : Rows.uptoBulkAll (l ++ r) = Rows.uptoBulkAll l + Rows.uptoBulkAll r := by
  induction l with
  | nil => simp [Rows.uptoBulkAll]
  | cons x l ih => simp only [List.cons_append, Rows.uptoBulkAll, ih]; omega
theorem bulk_sum {H α : Type} (F : Nat → α) (g : α → Nat) (D : Nat → DataW H) : ∀ len : Nat, (∀ i, i < len → g (F i) ≤ 7 * Rows.uptoBulk (D i)) → (((List.range len).map F).map g).sum ≤ 7 * Rows.uptoBulkAll ((List.range len).map D)
  | 0, _ => by simp
  | len + 1, h => by
    have ih := bulk_sum F g D len (fun i hi => h i (by omega))
    have h1 := h len (by omega)
    rw [List.range_succ, List.map_append, List.map_append, List.map_append, List.sum_append, bulk_app]
    simp only [List.map_cons, List.map_nil, List.sum_cons, List.sum_nil, Rows.uptoBulkAll]
    omega
theorem cell_spotR {w : World} {a : Addr} {v : Value} (h : w.cell? a = some v) : a.spot = none := by
  unfold World.cell? at h
  split at h
  · split at h
    · cases h
    · rename_i hs
      cases hh : a.spot with
      | none => rfl
      | some s => rw [hh] at hs; simp at hs
  · cases h
theorem bel_cellR {w X : World} {a : Addr} {v : Value} (hX : Below w.heap.size w X) (h : w.cell? a = some v) : X.cell? a = some v := (hX.cell (World.block_lt_of_cell? w _ h)).trans h
theorem at_mapR {α : Type} {F : Nat → α} {len k : Nat} {x : α} (h : ((List.range len).map F)[k]? = some x) : k < len ∧ F k = x := by
  rw [List.getElem?_map] at h
  by_cases hk : k < len
  · rw [List.getElem?_range hk] at h
    exact ⟨hk, Option.some.inj h⟩
  · rw [List.getElem?_eq_none (by rw [List.length_range]; omega)] at h
    cases h
section
variable {H : Type} {enc : TypeId × Value → H} {w : World} {sp : Nat → Bool} {held : Bool}
theorem open_txtsR {fuel : Nat} {cs : List Value} {x : DataW H × List MemPlace} (hf : DataW.trod enc Tryd.prog w 0 sp held fuel 28 cs = some x) :
    ∃ (p : Option Addr) (c : Nat) (L : List (List UInt8)), cs = [.slice p L.length c] ∧ L.length ≤ c ∧ LSR w p L ∧ wgL L ≤ 7 * Rows.uptoBulk x.1 := by
  rcases Deep.open_slice1 Tryd.underlying28 cR1 hf with ⟨rfl, rfl⟩ | ⟨a, len, cap, m, n, V, D, Pl, hcs, _, hlc, _, hm, hx, hD⟩
  · exact ⟨none, 0, [], rfl, Nat.le_refl _, fun X hX k x hx => by simp at hx, by simp [wgL]⟩
  · have hlm : len ≤ m := by rw [hm]; split <;> omega
    have hex : ∀ i, ∃ t : List UInt8, i < m → w.cell? (a.add i) = some (.string ⟨t.toArray⟩) ∧ D i = .lit (.string t) := fun i => by
      by_cases hi : i < m
      · obtain ⟨h1, h2⟩ := hD i hi
        obtain ⟨s, e1, e2, _⟩ := DataW.trod_string Tryd.underlying9 h2
        refine ⟨s.data.toList, fun _ => ⟨?_, congrArg Prod.fst e2⟩⟩
        have e3 : V i = .string s := by simpa using e1
        rw [h1, e3]
      · exact ⟨[], fun h => absurd h hi⟩
    obtain ⟨F, hF⟩ := Classical.axiomOfChoice hex
    refine ⟨some a, cap, (List.range len).map F, by rw [hcs]; simp, by simpa using hlc, ?_, ?_⟩
    · intro X hX k x hk
      obtain ⟨hkl, rfl⟩ := at_mapR hk
      have h0 : w.cell? a = _ := (hF 0 (by omega)).1
      have hs := cell_spotR h0
      have h1 := (hF k (by omega)).1
      rw [add_spotZ hs] at h1
      obtain ⟨b, o, s⟩ := a
      simp only at hs
      subst hs
      exact ⟨b, o, rfl, bel_cellR hX h1⟩
    · rw [hx]
      have h2 := bulk_sum F wgT D len (fun i hi => by
        rw [(hF i (by omega)).2]
        have := wgT_le (F i)
        simp only [Rows.uptoBulk]
        omega)
      simp only [Rows.uptoBulk]
      unfold wgL
      omega
theorem open_rpR {fuel : Nat} {cs : List Value} {x : DataW H × List MemPlace} (h : DataW.trod enc Tryd.prog w 0 sp held fuel 30 cs = some x) : ∃ e : VR, cs = e.vs ∧ VOK w e ∧ wgR e.r ≤ 7 * Rows.uptoBulk x.1 := by
  obtain ⟨xs, n, _, rfl, hl, hlen, hf⟩ := DataW.trod_struct Tryd.underlying30 h
  rw [cR9] at hl
  match xs, hlen with
  | [y0, y1, y2, y3, y4, y5, y6, y7, y8], _ =>
    have g0 := hf 0 _ rfl
    have g1 := hf 1 _ rfl
    have g2 := hf 2 _ rfl
    have g3 := hf 3 _ rfl
    have g4 := hf 4 _ rfl
    have g5 := hf 5 _ rfl
    have g6 := hf 6 _ rfl
    have g7 := hf 7 _ rfl
    have g8 := hf 8 _ rfl
    obtain ⟨z0, a0, b0, w0⟩ := DataW.trod_int Tryd.underlying3 g0
    obtain ⟨z1, a1, b1⟩ := DataW.trod_bool Tryd.underlying4 g1
    obtain ⟨z2, a2, b2, _⟩ := DataW.trod_string Tryd.underlying9 g2
    obtain ⟨z3, a3, b3, _⟩ := DataW.trod_string Tryd.underlying9 g3
    obtain ⟨p4, c4, L4, a4, k4, r4, q4⟩ := open_txtsR g4
    obtain ⟨p5, c5, L5, a5, k5, r5, q5⟩ := open_txtsR g5
    obtain ⟨z6, a6, b6, _⟩ := DataW.trod_string Tryd.underlying9 g6
    obtain ⟨p7, c7, L7, a7, k7, r7, q7⟩ := open_txtsR g7
    obtain ⟨z8, a8, b8⟩ := DataW.trod_bool Tryd.underlying4 g8
    replace a0 : (cs.drop 0).take (Tryd.prog.cellsOf 3) = [.int .i64 z0] := a0
    rw [cR0] at a0
    replace a1 : (cs.drop 1).take (Tryd.prog.cellsOf 4) = [.bool z1] := a1
    rw [cR2] at a1
    replace a2 : (cs.drop 2).take (Tryd.prog.cellsOf 9) = [.string z2] := a2
    rw [cR1] at a2
    replace a3 : (cs.drop 3).take (Tryd.prog.cellsOf 9) = [.string z3] := a3
    rw [cR1] at a3
    replace a4 : (cs.drop 4).take (Tryd.prog.cellsOf 28) = [.slice p4 L4.length c4] := a4
    rw [cR3] at a4
    replace a5 : (cs.drop 5).take (Tryd.prog.cellsOf 28) = [.slice p5 L5.length c5] := a5
    rw [cR3] at a5
    replace a6 : (cs.drop 6).take (Tryd.prog.cellsOf 9) = [.string z6] := a6
    rw [cR1] at a6
    replace a7 : (cs.drop 7).take (Tryd.prog.cellsOf 28) = [.slice p7 L7.length c7] := a7
    rw [cR3] at a7
    replace a8 : (cs.drop 8).take (Tryd.prog.cellsOf 4) = [.bool z8] := a8
    rw [cR2] at a8
    clear g0 g1 g2 g3 g4 g5 g6 g7 g8 h hf
    refine ⟨⟨⟨z0, z1, z2.data.toList, z3.data.toList, L4, L5, z6.data.toList, L7, z8⟩, p4, c4, p5, c5, p7, c7⟩, ?_, ⟨r4, r5, r7, k4, k5, k7⟩, ?_⟩
    · match cs, hl with
      | [d0, d1, d2, d3, d4, d5, d6, d7, d8], _ =>
        have e0 : d0 = .int .i64 z0 := by simpa using a0
        have e1 : d1 = .bool z1 := by simpa using a1
        have e2 : d2 = .string z2 := by simpa using a2
        have e3 : d3 = .string z3 := by simpa using a3
        have e4 : d4 = .slice p4 L4.length c4 := by simpa using a4
        have e5 : d5 = .slice p5 L5.length c5 := by simpa using a5
        have e6 : d6 = .string z6 := by simpa using a6
        have e7 : d7 = .slice p7 L7.length c7 := by simpa using a7
        have e8 : d8 = .bool z8 := by simpa using a8
        unfold VR.vs
        rw [e0, e1, e2, e3, e4, e5, e6, e7, e8]
    · have m2 := congrArg Prod.fst b2
      have m3 := congrArg Prod.fst b3
      have m6 := congrArg Prod.fst b6
      simp only at m2 m3 m6
      have s2 := wgT_le z2.data.toList
      have s3 := wgT_le z3.data.toList
      have s6 := wgT_le z6.data.toList
      have o0 := bulk_one y0.1
      have o1 := bulk_one y1.1
      have o8 := bulk_one y8.1
      have t2 : Rows.uptoBulk y2.1 = z2.data.toList.length + 1 := by rw [m2]; simp [Rows.uptoBulk]
      have t3 : Rows.uptoBulk y3.1 = z3.data.toList.length + 1 := by rw [m3]; simp [Rows.uptoBulk]
      have t6 : Rows.uptoBulk y6.1 = z6.data.toList.length + 1 := by rw [m6]; simp [Rows.uptoBulk]
      simp only [List.map_cons, List.map_nil, Rows.uptoBulk, Rows.uptoBulkAll]
      unfold wgR
      simp only
      omega
theorem open_rpsR {fuel : Nat} {cs : List Value} {x : DataW H × List MemPlace} (hf : DataW.trod enc Tryd.prog w 0 sp held fuel 23 cs = some x) :
    ∃ (p : Option Addr) (c : Nat) (Es : List VR), cs = [.slice p Es.length c] ∧ RDR w p Es ∧ wgA (rps Es) ≤ 7 * Rows.uptoBulk x.1 := by
  rcases Deep.open_slice Tryd.underlying23 hf with ⟨rfl, rfl⟩ | ⟨a, len, cap, m, n, D, Pl, hcs, _, hlc, _, hm, hx, hD⟩
  · exact ⟨none, 0, [], rfl, fun X hX i e he => by simp at he, by simp [wgA, rps]⟩
  · rw [cR9] at hD
    have hlm : len ≤ m := by rw [hm]; split <;> omega
    have hex : ∀ i, ∃ e : VR, i < m → w.cells? 0 (a.add (i * 9)) 9 = some e.vs ∧ VOK w e ∧ wgR e.r ≤ 7 * Rows.uptoBulk (D i) := fun i => by
      by_cases hi : i < m
      · obtain ⟨cs', h1, h2⟩ := hD i hi
        obtain ⟨e, e1, e2, e3⟩ := open_rpR h2
        exact ⟨e, fun _ => ⟨by rw [h1, e1], e2, e3⟩⟩
      · exact ⟨⟨⟨0, false, [], [], [], [], [], [], false⟩, none, 0, none, 0, none, 0⟩, fun h => absurd h hi⟩
    obtain ⟨F, hF⟩ := Classical.axiomOfChoice hex
    refine ⟨some a, cap, (List.range len).map F, by rw [hcs]; simp, ?_, ?_⟩
    · intro X hX i e he
      obtain ⟨hil, rfl⟩ := at_mapR he
      have cell : ∀ i j v, i < m → (F i).vs[j]? = some v → w.cell? ((a.add (i * 9)).add j) = some v := fun i j v hi hv => by
        have h1 := (hF i hi).1
        have hj : j < 9 := (List.getElem?_eq_some_iff.1 hv).1
        unfold World.cells? at h1
        rw [if_pos (Nat.zero_le _)] at h1
        obtain ⟨b, hb, hc⟩ := Lib.mapM_at h1 j j (by simp [hj])
        rw [hv] at hb
        rw [Option.some.inj hb]
        exact hc
      have h00 := cell 0 0 _ (by omega) rfl
      have hs : a.spot = none := by
        have e : (a.add (0 * 9)).add 0 = a := rfl
        rw [e] at h00
        exact cell_spotR h00
      obtain ⟨g, o0, s⟩ := a
      simp only at hs
      subst hs
      refine ⟨⟨g, o0, rfl, fun j v hv => ?_⟩, (hF i (by omega)).2.1.later hX⟩
      have h1 := cell i j v (by omega) hv
      have e1 := add_spotZ (a := ⟨g, o0, none⟩) rfl (i * 9)
      rw [e1, add_spotZ rfl] at h1
      exact bel_cellR hX h1
    · rw [hx]
      have h2 := bulk_sum F (fun e => wgR e.r) D len (fun i hi => (hF i (by omega)).2.2)
      simp only [Rows.uptoBulk]
      unfold wgA rps
      rw [List.map_map]
      have e3 : (wgR ∘ fun e : VR => e.r) = fun e => wgR e.r := rfl
      rw [e3]
      omega
theorem open_rsR {fuel : Nat} {cs : List Value} {x : DataW H × List MemPlace} (h : DataW.trod enc Tryd.prog w 0 sp held fuel 25 cs = some x) : ∃ (s : RS) (q : Option Addr) (c : Nat) (Es : List VR), cs = [.int .i64 s.k, .int .i64 s.c, .int .i64 s.t, .int .i64 s.l, .slice q Es.length c] ∧ RDR w q Es ∧ (-9223372036854775808 ≤ s.c ∧ s.c ≤ 9223372036854775807) ∧ (-9223372036854775808 ≤ s.l ∧ s.l ≤ 9223372036854775807) ∧ wgA (rps Es) ≤ 7 * Rows.uptoBulk x.1 := by
  obtain ⟨xs, n, _, rfl, hl, hlen, hf⟩ := DataW.trod_struct Tryd.underlying25 h
  rw [cR8] at hl
  match xs, hlen with
  | [y0, y1, y2, y3, y4], _ =>
    have g0 := hf 0 _ rfl
    have g1 := hf 1 _ rfl
    have g2 := hf 2 _ rfl
    have g3 := hf 3 _ rfl
    have g4 := hf 4 _ rfl
    obtain ⟨z0, a0, b0, w0⟩ := DataW.trod_int Tryd.underlying3 g0
    obtain ⟨z1, a1, b1, w1⟩ := DataW.trod_int Tryd.underlying22 g1
    obtain ⟨z2, a2, b2, w2⟩ := DataW.trod_int Tryd.underlying3 g2
    obtain ⟨z3, a3, b3, w3⟩ := DataW.trod_int Tryd.underlying3 g3
    obtain ⟨p4, c4, Es, a4, r4, q4⟩ := open_rpsR g4
    replace a0 : (cs.drop 0).take (Tryd.prog.cellsOf 3) = [.int .i64 z0] := a0
    replace a1 : (cs.drop 1).take (Tryd.prog.cellsOf 22) = [.int .i64 z1] := a1
    replace a2 : (cs.drop 2).take (Tryd.prog.cellsOf 3) = [.int .i64 z2] := a2
    replace a3 : (cs.drop 3).take (Tryd.prog.cellsOf 3) = [.int .i64 z3] := a3
    replace a4 : (cs.drop 4).take (Tryd.prog.cellsOf 23) = [.slice p4 Es.length c4] := a4
    rw [cR0] at a0 a2 a3
    rw [cR5] at a1
    rw [cR4] at a4
    clear g0 g1 g2 g3 g4 h hf
    refine ⟨⟨z0, z1, z2, z3⟩, p4, c4, Es, ?_, r4, wf_i64 w1, wf_i64 w3, ?_⟩
    · match cs, hl with
      | [d0, d1, d2, d3, d4], _ =>
        have e0 : d0 = .int .i64 z0 := by simpa using a0
        have e1 : d1 = .int .i64 z1 := by simpa using a1
        have e2 : d2 = .int .i64 z2 := by simpa using a2
        have e3 : d3 = .int .i64 z3 := by simpa using a3
        have e4 : d4 = .slice p4 Es.length c4 := by simpa using a4
        rw [e0, e1, e2, e3, e4]
    · simp only [List.map_cons, List.map_nil, Rows.uptoBulk, Rows.uptoBulkAll]
      omega
end
/-- an array of texts, as laid -/
def strData {H : Type} (zs : List (List UInt8)) : DataW H := .agg (zs.map fun z => .lit (.string z))
theorem cells_of_strs {H : Type} {enc : TypeId × Value → H} {P : Program} {w : World} {base : Nat} {sp : Nat → Bool} {held : Bool} {fuel : Nat} {t e : TypeId} {n : Nat} {cs : List Value} {zs : List (List UInt8)} {p : List MemPlace}
    (ht : P.underlying t = some (.array n e)) (he : P.underlying e = some .string) (hce : P.cellsOf e = 1) (hct : P.cellsOf t = n)
    (h : DataW.trod enc P w base sp held fuel t cs = some (strData zs, p)) : cs = zs.map fun z => Value.string ⟨z.toArray⟩ := by
  cases fuel with
  | zero => simp [DataW.trod] at h
  | succ fuel =>
    simp only [DataW.trod, ht, hce, hct, Nat.mul_one] at h
    split at h
    · rename_i hl
      obtain ⟨xs, hm, hx⟩ := Option.map_eq_some_iff.1 h
      have hxs : xs.map (·.1) = zs.map fun z => (DataW.lit (.string z) : DataW H) := by
        have := congrArg Prod.fst hx
        simpa [strData] using this
      have hxl : xs.length = n := by simpa using Lib.mapM_length hm
      have hzl : zs.length = n := by
        have := congrArg List.length hxs
        simp at this
        omega
      apply List.ext_getElem?
      intro i
      by_cases hi : i < n
      · obtain ⟨b, hb, hf⟩ := Lib.mapM_at hm i i (by simp [hi])
        obtain ⟨z, hc, rfl, _⟩ := DataW.trod_string he hf
        have h1 : cs[i]? = some (.string z) := by
          have := congrArg (·[0]?) hc
          simpa [List.getElem?_take, List.getElem?_drop] using this
        have h2 : (xs.map (·.1))[i]? = some (DataW.lit (.string z.data.toList) : DataW H) := by simp [hb]
        rw [hxs] at h2
        simp only [List.getElem?_map, Option.map_eq_some_iff, DataW.lit.injEq, Lit.string.injEq] at h2
        obtain ⟨z', hz', rfl⟩ := h2
        simp [h1, hz']
      · rw [List.getElem?_eq_none (by omega), List.getElem?_eq_none (by simp; omega)]
    · cases h
theorem strs_of_head {P : Program} {W : World} {name : String} {zs : List (List UInt8)} {rest : List (String × DataW Unit)} {g : Nat} {t e : TypeId} {n : Nat}
    (hg : P.globalNamed name = some g) (hty : (P.globals[g]?).map (·.type) = some t) (ht : P.underlying t = some (.array n e)) (he : P.underlying e = some .string) (hce : P.cellsOf e = 1) (hct : P.cellsOf t = n)
    (h : laidMet P ((name, strData zs) :: rest) W) : W.var? P name = some (zs.map fun z => Value.string ⟨z.toArray⟩).toArray := by
  obtain ⟨ps, ⟨g', t', cs, fuel, p, q, hg', ht', hvar, hd, _, _⟩, _⟩ := h
  obtain rfl := Option.some.inj (hg.symm.trans hg')
  obtain rfl := Option.some.inj (hty.symm.trans ht')
  rw [hvar, ← cells_of_strs ht he hce hct hd]
end Go.Proofs.YtfhlgncpleleaaaDoor

import Derived.Test.YtggifkdgkjmljaaGreatDoorZ5
import Derived.Test.YtggifkdgkjmljaaGreatDoorZ7
import Derived.Test.YtggifkdgkjmljaaGreatDoorZ17
import Derived.Lib.SmallJoins
import Derived.Test.YtggifkdgkjmljaaGreatDoorZ31
import Derived.Deep.Slices
import Derived.SizedLaws
namespace Go.Proofs.YtggifkdgkjmljaaGreatDoor
open Go.RowKit
/-- an array of texts, as laid -/
def strData {H : Type} (zs : List (List UInt8)) : DataW H := .agg (zs.map fun z => .lit (.string z))
theorem cells_of_strs {H : Type} {enc : TypeId × Value → H} {P : Program} {w : World} {base : Nat} {sp : Nat → Bool} {held : Bool} {fuel : Nat} {t e : TypeId} {n : Nat} {cs : List Value} {zs : List (List UInt8)} {p : List MemPlace}
    (ht : P.underlying t = some (.array n e)) (he : P.underlying e = some .string) (hce : P.cellsOf e = 1) (hct : P.cellsOf t = n)
    (h : DataW.trod enc P w base sp held fuel t cs = some (strData zs, p)) : cs = zs.map fun z => Value.string ⟨z.toArray⟩ := by
  cases fuel with
  | zero => simp [DataW.trod] at h
  | succ fuel =>
    simp only [DataW.trod, ht, hce, hct, Nat.mul_one] at h
    split at h
    · rename_i hl
      obtain ⟨xs, hm, hx⟩ := Option.map_eq_some_iff.1 h
      have hxs : xs.map (·.1) = zs.map fun z => (DataW.lit (.string z) : DataW H) := by
        have := congrArg Prod.fst hx
        simpa [strData] using this
      have hxl : xs.length = n := by simpa using Lib.mapM_length hm
      have hzl : zs.length = n := by
        have := congrArg List.length hxs
        simp at this
        omega
      apply List.ext_getElem?
      intro i
      by_cases hi : i < n
      · obtain ⟨b, hb, hf⟩ := Lib.mapM_at hm i i (by simp [hi])
        obtain ⟨z, hc, rfl, _⟩ := DataW.trod_string he hf
        have h1 : cs[i]? = some (.string z) := by
          have := congrArg (·[0]?) hc
          simpa [List.getElem?_take, List.getElem?_drop] using this
        have h2 : (xs.map (·.1))[i]? = some (DataW.lit (.string z.data.toList) : DataW H) := by simp [hb]
        rw [hxs] at h2
        simp only [List.getElem?_map, Option.map_eq_some_iff, DataW.lit.injEq, Lit.string.injEq] at h2
        obtain ⟨z', hz', rfl⟩ := h2
        simp [h1, hz']
      · rw [List.getElem?_eq_none (by omega), List.getElem?_eq_none (by simp; omega)]
    · cases h
theorem strs_of_head {P : Program} {W : World} {name : String} {zs : List (List UInt8)} {rest : List (String × DataW Unit)} {g : Nat} {t e : TypeId} {n : Nat}
    (hg : P.globalNamed name = some g) (hty : (P.globals[g]?).map (·.type) = some t) (ht : P.underlying t = some (.array n e)) (he : P.underlying e = some .string) (hce : P.cellsOf e = 1) (hct : P.cellsOf t = n)
    (h : laidMet P ((name, strData zs) :: rest) W) : W.var? P name = some (zs.map fun z => Value.string ⟨z.toArray⟩).toArray := by
  obtain ⟨ps, ⟨g', t', cs, fuel, p, q, hg', ht', hvar, hd, _, _⟩, _⟩ := h
  obtain rfl := Option.some.inj (hg.symm.trans hg')
  obtain rfl := Option.some.inj (hty.symm.trans ht')
  rw [hvar, ← cells_of_strs ht he hce hct hd]
end Go.Proofs.YtggifkdgkjmljaaGreatDoor
namespace Go.Proofs.YtggifkdgkjmljaaGreatDoor
open Go.RowKit
/-- a token, as laid -/
def tokData {H : Type} (t : ITok) : DataW H := .agg [.lit (.int .i64 t.1), .lit (.string t.2.1), .lit (.int .i64 t.2.2.1), .lit (.int .i64 t.2.2.2)]
theorem chunks {α β : Type} (f : α → List β) (hf : ∀ z, (f z).length = 8) : ∀ (zs : List α) (cs : List β), cs.length = zs.length * 8 → (∀ j z, zs[j]? = some z → (cs.drop (j * 8)).take 8 = f z) → cs = zs.flatMap f
  | [], cs, hl, _ => by
    have : cs = [] := List.length_eq_zero_iff.1 (by simpa using hl)
    rw [this]
    rfl
  | z :: zs, cs, hl, h => by
    have h0 := h 0 z rfl
    rw [Nat.zero_mul, List.drop_zero] at h0
    rw [List.flatMap_cons, ← h0, ← chunks f hf zs (cs.drop 8) (by rw [List.length_drop, hl]; simp; omega) (fun j y hy => by
      have := h (j + 1) y (by simpa using hy)
      rw [List.drop_drop, show 8 + j * 8 = (j + 1) * 8 by omega]
      exact this), List.take_append_drop]
section
variable {H : Type} {enc : TypeId × Value → H} {P : Program} {w : World} {base : Nat} {sp : Nat → Bool} {held : Bool}
theorem cells_of_tok {fuel : Nat} {e i s : TypeId} {f0 f1 f2 f3 : Field} {cs : List Value} {t : ITok} {x : DataW H × List MemPlace}
    (he : P.underlying e = some (.struct #[f0, f1, f2, f3])) (o0 : f0.offset = 0) (o1 : f1.offset = 1) (o2 : f2.offset = 2) (o3 : f3.offset = 3) (t0 : f0.type = i) (t1 : f1.type = s) (t2 : f2.type = i) (t3 : f3.type = i)
    (hi : P.underlying i = some (.int .i64)) (hs : P.underlying s = some .string) (ci : P.cellsOf i = 1) (cs1 : P.cellsOf s = 1) (ce : P.cellsOf e = 4)
    (h : DataW.trod enc P w base sp held fuel e cs = some x) (hx : x.1 = tokData t) : cs = icel t := by
  obtain ⟨y0, y1, y2, y3, m, rfl, hlen, g0, g1, g2, g3⟩ := Joins.trod_struct4 he h
  rw [o0, t0, ci] at g0
  rw [o1, t1, cs1] at g1
  rw [o2, t2, ci] at g2
  rw [o3, t3, ci] at g3
  rw [ce] at hlen
  obtain ⟨z0, a0, b0, _⟩ := DataW.trod_int hi g0
  obtain ⟨z1, a1, b1, _⟩ := DataW.trod_string hs g1
  obtain ⟨z2, a2, b2, _⟩ := DataW.trod_int hi g2
  obtain ⟨z3, a3, b3, _⟩ := DataW.trod_int hi g3
  match cs, hlen with
  | [c0, c1, c2, c3], _ =>
    have e0 : c0 = .int .i64 z0 := by simpa using a0
    have e1 : c1 = .string z1 := by simpa using a1
    have e2 : c2 = .int .i64 z2 := by simpa using a2
    have e3 : c3 = .int .i64 z3 := by simpa using a3
    unfold tokData at hx
    rw [b0, b1, b2, b3] at hx
    have hx2 : z0 = t.1 ∧ z1.data.toList = t.2.1 ∧ z2 = t.2.2.1 ∧ z3 = t.2.2.2 := by simpa using hx
    obtain ⟨r0, r1, r2, r3⟩ := hx2
    unfold icel
    rw [e0, e1, e2, e3, r0, r2, r3, ← r1]
theorem cells_of_joins {fuel : Nat} {t e k i s : TypeId} {n : Nat} {g0 g1 f0 f1 f2 f3 : Field} {cs : List Value} {zs : List (ITok × ITok)} {p : List MemPlace}
    (ht : P.underlying t = some (.array n e)) (he : P.underlying e = some (.struct #[g0, g1])) (q0 : g0.offset = 0) (q1 : g1.offset = 4) (r0 : g0.type = k) (r1 : g1.type = k)
    (hk : P.underlying k = some (.struct #[f0, f1, f2, f3])) (o0 : f0.offset = 0) (o1 : f1.offset = 1) (o2 : f2.offset = 2) (o3 : f3.offset = 3) (t0 : f0.type = i) (t1 : f1.type = s) (t2 : f2.type = i) (t3 : f3.type = i)
    (hi : P.underlying i = some (.int .i64)) (hs : P.underlying s = some .string) (ci : P.cellsOf i = 1) (cs1 : P.cellsOf s = 1) (ck : P.cellsOf k = 4) (ce : P.cellsOf e = 8) (ct : P.cellsOf t = n * 8)
    (h : DataW.trod enc P w base sp held fuel t cs = some (.agg (zs.map fun z => .agg [tokData z.1, tokData z.2]), p)) : cs = zs.flatMap fun z => icel z.1 ++ icel z.2 := by
  cases fuel with
  | zero => simp [DataW.trod] at h
  | succ fuel =>
    simp only [DataW.trod, ht, ce, ct] at h
    split at h
    · rename_i hl
      obtain ⟨xs, hm, hx⟩ := Option.map_eq_some_iff.1 h
      have hxs : xs.map (·.1) = zs.map fun z => (DataW.agg [tokData z.1, tokData z.2] : DataW H) := by
        have := congrArg Prod.fst hx
        simpa using this
      have hxl : xs.length = n := by simpa using Lib.mapM_length hm
      have hzl : zs.length = n := by
        have := congrArg List.length hxs
        simp at this
        omega
      refine chunks _ (fun z => by simp [icel]) zs cs (by rw [hzl]; omega) (fun j z hz => ?_)
      have hj : j < n := by rw [← hzl]; exact (List.getElem?_eq_some_iff.1 hz).1
      obtain ⟨b, hb, hf⟩ := Lib.mapM_at hm j j (by simp [hj])
      obtain ⟨y0, y1, m, hb2, hlen, h0, h1⟩ := ChangeShapes.trod_struct2 he hf
      rw [q0, r0, ck] at h0
      rw [q1, r1, ck] at h1
      rw [ce] at hlen
      have e2 : (xs.map (·.1))[j]? = some b.1 := by simp [hb]
      rw [hxs, List.getElem?_map, hz, hb2] at e2
      have e3 : (DataW.agg [tokData z.1, tokData z.2] : DataW H) = .agg [y0.1, y1.1] := Option.some.inj e2
      have e4 : tokData z.1 = y0.1 ∧ tokData z.2 = y1.1 := by simpa using e3
      have d0 := cells_of_tok hk o0 o1 o2 o3 t0 t1 t2 t3 hi hs ci cs1 ck h0 e4.1.symm
      have d1 := cells_of_tok hk o0 o1 o2 o3 t0 t1 t2 t3 hi hs ci cs1 ck h1 e4.2.symm
      rw [← d0, ← d1, List.drop_zero]
      conv => rhs; rhs; rw [List.take_of_length_le (by rw [List.length_drop, hlen]; decide)]
      rw [List.take_append_drop]
    · cases h
end
theorem joins_of_head {P : Program} {W : World} {name : String} {zs : List (ITok × ITok)} {rest : List (String × DataW Unit)} {g : Nat} {t e k i s : TypeId} {n : Nat} {g0 g1 f0 f1 f2 f3 : Field}
    (hg : P.globalNamed name = some g) (hty : (P.globals[g]?).map (·.type) = some t)
    (ht : P.underlying t = some (.array n e)) (he : P.underlying e = some (.struct #[g0, g1])) (q0 : g0.offset = 0) (q1 : g1.offset = 4) (r0 : g0.type = k) (r1 : g1.type = k)
    (hk : P.underlying k = some (.struct #[f0, f1, f2, f3])) (o0 : f0.offset = 0) (o1 : f1.offset = 1) (o2 : f2.offset = 2) (o3 : f3.offset = 3) (t0 : f0.type = i) (t1 : f1.type = s) (t2 : f2.type = i) (t3 : f3.type = i)
    (hi : P.underlying i = some (.int .i64)) (hs : P.underlying s = some .string) (ci : P.cellsOf i = 1) (cs1 : P.cellsOf s = 1) (ck : P.cellsOf k = 4) (ce : P.cellsOf e = 8) (ct : P.cellsOf t = n * 8)
    (h : laidMet P ((name, .agg (zs.map fun z => .agg [tokData z.1, tokData z.2])) :: rest) W) : W.var? P name = some (zs.flatMap fun z => icel z.1 ++ icel z.2).toArray := by
  obtain ⟨ps, ⟨g', t', cs, fuel, p, q, hg', ht', hvar, hd, _, _⟩, _⟩ := h
  obtain rfl := Option.some.inj (hg.symm.trans hg')
  obtain rfl := Option.some.inj (hty.symm.trans ht')
  rw [hvar, ← cells_of_joins ht he q0 q1 r0 r1 hk o0 o1 o2 o3 t0 t1 t2 t3 hi hs ci cs1 ck ce ct hd]
theorem gJ : Tryz.prog.globalNamed "reach/scan.joined" = some 0 := by kernel_rfl
theorem gtJ : (Tryz.prog.globals[0]?).map (·.type) = some 37 := by kernel_rfl
theorem cJ0 : Tryz.prog.cellsOf 3 = 1 := by kernel_rfl
theorem cJ1 : Tryz.prog.cellsOf 9 = 1 := by kernel_rfl
theorem cJ4 : Tryz.prog.cellsOf 24 = 4 := by kernel_rfl
theorem cJ8 : Tryz.prog.cellsOf 36 = 8 := by kernel_rfl
theorem cJ112 : Tryz.prog.cellsOf 37 = 14 * 8 := by kernel_rfl
end Go.Proofs.YtggifkdgkjmljaaGreatDoor
namespace Go.Proofs.YtggifkdgkjmljaaGreatDoor
open Go.RowKit
section
variable {H : Type} {enc : TypeId × Value → H} {w : World} {base : Nat} {sp : Nat → Bool} {held : Bool}
theorem tok_open {fuel : Nat} {cs : List Value} {x : DataW H × List MemPlace} (h : DataW.trod enc Tryz.prog w base sp held fuel 24 cs = some x) : ∃ t : ITok, cs = icel t ∧ x.1 = tokData t := by
  obtain ⟨y0, y1, y2, y3, m, rfl, hlen, g0, g1, g2, g3⟩ := Joins.trod_struct4 Tryz.underlying24 h
  obtain ⟨z1, a1, b1, _⟩ := DataW.trod_string Tryz.underlying9 g1
  obtain ⟨z0, a0, b0, _⟩ := DataW.trod_int Tryz.underlying3 g0
  obtain ⟨z2, a2, b2, _⟩ := DataW.trod_int Tryz.underlying3 g2
  obtain ⟨z3, a3, b3, _⟩ := DataW.trod_int Tryz.underlying3 g3
  refine ⟨(z0, z1.data.toList, z2, z3), ?_, by rw [b0, b1, b2, b3]; rfl⟩
  rw [cJ0] at a0 a2 a3
  rw [cJ1] at a1
  rw [cJ4] at hlen
  clear g0 g1 g2 g3 h
  match cs, hlen with
  | [c0, c1, c2, c3], _ =>
    have e0 : c0 = .int .i64 z0 := by simpa using a0
    have e1 : c1 = .string z1 := by simpa using a1
    have e2 : c2 = .int .i64 z2 := by simpa using a2
    have e3 : c3 = .int .i64 z3 := by simpa using a3
    unfold icel
    rw [e0, e1, e2, e3]
theorem add_spot {a : Addr} (h : a.spot = none) (m : Nat) : a.add m = ⟨a.block, a.off + m, none⟩ := by
  unfold Addr.add
  split
  · rename_i h0
    subst h0
    obtain ⟨b, o, s⟩ := a
    simp only at h
    subst h
    rfl
  · rfl
theorem cell_spot {a : Addr} {v : Value} (h : w.cell? a = some v) : a.spot = none := by
  unfold World.cell? at h
  split at h
  · split at h
    · cases h
    · rename_i hs
      cases hh : a.spot with
      | none => rfl
      | some s => rw [hh] at hs; simp at hs
  · cases h
theorem open_toks {fuel : Nat} {cs : List Value} {x : DataW H × List MemPlace} (hf : DataW.trod enc Tryz.prog w 0 sp held fuel 22 cs = some x) :
    (cs = [.slice none 0 0] ∧ x = (.nil, [])) ∨ ∃ (a : Addr) (len cap : Nat) (L : List ITok) (spare : List (DataW H)), cs = [.slice (some a) len cap] ∧ L.length = len ∧ x.1 = .slice (L.map tokData) spare ∧
      ∀ k t, L[k]? = some t → ∃ g o0, a = ⟨g, o0, none⟩ ∧ w.cell? ⟨g, o0 + k * 4, none⟩ = some (.int .i64 t.1) ∧ w.cell? ⟨g, o0 + k * 4 + 1, none⟩ = some (.string ⟨t.2.1.toArray⟩) ∧ w.cell? ⟨g, o0 + k * 4 + 2, none⟩ = some (.int .i64 t.2.2.1) ∧ w.cell? ⟨g, o0 + k * 4 + 3, none⟩ = some (.int .i64 t.2.2.2) := by
  rcases Deep.open_slice Tryz.underlying22 hf with h | ⟨a, len, cap, m, n, D, Pl, hcs, _, hlc, hcm, hm, hx, hD⟩
  · exact .inl h
  · right
    rw [cJ4] at hD
    have hlm : len ≤ m := by rw [hm]; split <;> omega
    have hex : ∀ i, ∃ t : ITok, i < m → w.cells? 0 (a.add (i * 4)) 4 = some (icel t) ∧ D i = tokData t := fun i => by
      by_cases hi : i < m
      · obtain ⟨cs', h1, h2⟩ := hD i hi
        obtain ⟨t, e1, e2⟩ := tok_open h2
        exact ⟨t, fun _ => ⟨by rw [h1, e1], e2⟩⟩
      · exact ⟨(0, [], 0, 0), fun h => absurd h hi⟩
    obtain ⟨F, hF⟩ := Classical.axiomOfChoice hex
    refine ⟨a, len, cap, (List.range len).map F, (List.range (m - len)).map fun j => D (len + j), hcs, by simp, ?_, fun k t ht => ?_⟩
    · rw [hx]
      simp only [List.map_map]
      congr 1
      refine List.map_congr_left (fun i hi => ?_)
      exact (hF i (by have := List.mem_range.1 hi; omega)).2
    · rw [List.getElem?_map] at ht
      by_cases hk : k < len
      · rw [List.getElem?_range hk] at ht
        obtain rfl := Option.some.inj ht
        have cell : ∀ i j v, i < m → (icel (F i))[j]? = some v → j < 4 → w.cell? ((a.add (i * 4)).add j) = some v := fun i j v hi hv hj => by
          have h1 := (hF i hi).1
          unfold World.cells? at h1
          rw [if_pos (Nat.zero_le _)] at h1
          obtain ⟨b, hb, hc⟩ := Lib.mapM_at h1 j j (by simp [hj])
          rw [hv] at hb
          rw [Option.some.inj hb]
          exact hc
        have h00 := cell 0 0 _ (by omega) rfl (by decide)
        have hs : a.spot = none := by
          have e : (a.add (0 * 4)).add 0 = a := rfl
          rw [e] at h00
          exact cell_spot h00
        obtain ⟨g, o0, s⟩ := a
        simp only at hs
        subst hs
        have ea : ∀ j, ((⟨g, o0, none⟩ : Addr).add (k * 4)).add j = ⟨g, o0 + k * 4 + j, none⟩ := fun j => by
          rw [add_spot rfl (k * 4), add_spot rfl j]
        have c0 := cell k 0 _ (by omega) rfl (by decide)
        have c1 := cell k 1 _ (by omega) rfl (by decide)
        have c2 := cell k 2 _ (by omega) rfl (by decide)
        have c3 := cell k 3 _ (by omega) rfl (by decide)
        rw [ea] at c0 c1 c2 c3
        exact ⟨g, o0, rfl, c0, c1, c2, c3⟩
      · rw [List.getElem?_eq_none (by simp; omega)] at ht
        cases ht
theorem w_tok (t : ITok) : t.2.1.length ∈ DataW.weights Tryz.prog 24 (tokData t : DataW H) := by
  unfold tokData
  simp [DataW.weights, Tryz.underlying24, DataW.weightsEach]
theorem w_toks {t : ITok} : ∀ {L : List ITok}, t ∈ L → t.2.1.length ∈ DataW.weightsAll Tryz.prog 24 (L.map (tokData : ITok → DataW H))
  | u :: L, h => by
    rw [List.map_cons, DataW.weightsAll]
    rcases List.mem_cons.1 h with rfl | h
    · exact List.mem_append_left _ (w_tok t)
    · exact List.mem_append_right _ (w_toks h)
theorem sized_toks {ts : List TypeId} {ds : List (DataW H)} (h : (DataW.weightsEach Tryz.prog ts ds).all (· ≤ reachBytes) = true) {L : List ITok} {spare : List (DataW H)} (ht : ts[0]? = some 22) (hd : ds[0]? = some (.slice (L.map tokData) spare)) : L.length ≤ reachBytes ∧ ∀ t ∈ L, t.2.1.length ≤ reachBytes := by
  have hb : Tryz.prog.bytesOf 24 = 40 := by kernel_rfl
  have h1 := sized_slice h ht hd Tryz.underlying22
  rw [hb, List.length_map] at h1
  refine ⟨by omega, fun t hm => ?_⟩
  have := List.all_eq_true.1 h _ (DataW.weights_mem_each ht hd t.2.1.length (by
    simp only [DataW.weights, Tryz.underlying22]
    exact List.mem_cons_of_mem _ (List.mem_append_left _ (w_toks hm))))
  simpa using this
theorem sized_toks40 {ts : List TypeId} {ds : List (DataW H)} (h : (DataW.weightsEach Tryz.prog ts ds).all (· ≤ reachBytes) = true) {L : List ITok} {spare : List (DataW H)} (ht : ts[0]? = some 22) (hd : ds[0]? = some (.slice (L.map tokData) spare)) : L.length * 40 ≤ reachBytes ∧ ∀ t ∈ L, t.2.1.length ≤ reachBytes := by
  have hb : Tryz.prog.bytesOf 24 = 40 := by kernel_rfl
  have h1 := sized_slice h ht hd Tryz.underlying22
  rw [hb, List.length_map] at h1
  exact ⟨by omega, (sized_toks h ht hd).2⟩
end
end Go.Proofs.YtggifkdgkjmljaaGreatDoor

import Derived.Test.YtfhlgncpleleaaaDoorUL
import Derived.Deep.DeepCutAuto
namespace Go.Proofs.YtfhlgncpleleaaaDoor
open Go.RowKit Go.Shelf
theorem off_boxU {W : World} {B b n : Nat} {v : Value} {xs : List Value} {cs : Array Value} {m : Nat × Nat} (h : W.ownsRow B 9 1 v n xs) (hb : W.heap[b]? = some (.cells cs 30 m)) : v.ownBlock ≠ some b := by
  intro e
  rcases h.2 with ⟨rfl, _⟩ | ⟨g, c, cur, rfl, _, hg, _⟩
  · cases e
  · have : g = b := by injection e
    subst this
    rw [hb] at hg
    injection hg with hg
    injection hg with _ hg _
    exact absurd hg.symm (by decide)
theorem tw_app1 {wt U : World} {y ge n : Nat} (c : Nat) {p : Option Addr} {L : List (List UInt8)} {Y : Array Value} (own : U.ownsRow wt.heap.size 9 1 (.slice (some ⟨ge, 0, none⟩) 0 0) 0 []) (gr : wt.grownBy U (some y)) (hy : U.heap[y]? = some (.cells Y 30 (0, 0))) (hl : LSR U p L) (hn : L.length = n) (hN : n ≤ 1000000000) :
    ∃ p' c' U', (Builtin.append_ #[28, 28] 28 #[.slice (some ⟨ge, 0, none⟩) 0 0, .slice p n c]).run Tryd.prog U = .ok (.slice p' n c') U' ∧ U'.ownsRow wt.heap.size 9 1 (.slice p' n c') n (stZ L) ∧ wt.grownBy U' (some y) ∧ U'.heap[y]? = some (.cells Y 30 (0, 0)) ∧ (∀ b o, U.heap[b]? = some o → b ≠ ge → U'.heap[b]? = some o) := by
  obtain ⟨v', U', hr, o2, g2, -⟩ := appL (c := c) own gr.size hn hl (by omega)
  rw [Nat.zero_add, List.nil_append] at o2
  obtain ⟨p', c', rfl⟩ := shapeZ o2
  have hne : ge ≠ y := fun e => off_boxU own hy (by show some ge = some y; rw [e])
  refine ⟨p', c', U', hr, o2, gr_newZ gr g2 (fun k e => .inr (own.lt k e).1), (g2.block y (lt_getZ hy) (fun e => hne (by injection e with e; exact e.symm))).trans hy, fun b o hb hbe => (g2.block b (lt_getZ hb) (fun e => hbe (by injection e))).trans hb⟩
theorem tw_app2 {wt U : World} {y gb n c' : Nat} {p' : Option Addr} {L : List (List UInt8)} {Y : Array Value} (own : U.ownsRow wt.heap.size 9 1 (.slice p' n c') n (stZ L)) (gr : wt.grownBy U (some y)) (hy : U.heap[y]? = some (.cells Y 30 (0, 0))) (hb : U.heap[gb]? = some (.cells #[.string ⟨#[98, 101, 104, 105, 110, 100]⟩] 9 (0, 0))) (hn : L.length = n) (hN : n ≤ 1000000000) :
    ∃ g' d' U', (Builtin.append_ #[28, 28] 28 #[.slice p' n c', .slice (some ⟨gb, 0, none⟩) 1 1]).run Tryd.prog U = .ok (.slice (some ⟨g', 0, none⟩) (n + 1) d') U' ∧ n + 1 ≤ d' ∧ U'.ownsRow wt.heap.size 9 1 (.slice (some ⟨g', 0, none⟩) (n + 1) d') (n + 1) (stZ (L ++ [BEH])) ∧ wt.grownBy U' (some y) ∧ U'.heap[y]? = some (.cells Y 30 (0, 0)) := by
  have hl : LSR U (some ⟨gb, 0, none⟩) [BEH] := fun X hX k x hx => by
    have hk : k = 0 := by have := (List.getElem?_eq_some_iff.1 hx).1; simp at this; omega
    subst hk
    obtain rfl : BEH = x := by simpa using hx
    refine ⟨gb, 0, rfl, ?_⟩
    rw [(cellsZ (keepZ hX hb)).1]
    rfl
  obtain ⟨v', U', hr, o2, g2, -⟩ := appL (m := 1) (c := 1) own gr.size (show [BEH].length = 1 from rfl) hl (by omega)
  rw [show stZ L ++ stZ [BEH] = stZ (L ++ [BEH]) by simp [stZ]] at o2
  obtain ⟨p2, c2, rfl⟩ := shapeZ o2
  obtain ⟨g', rfl⟩ := own_someZ o2 (by omega)
  have hne : (Value.slice p' n c').ownBlock ≠ some y := off_boxU own hy
  refine ⟨g', c2, U', hr, cap_own o2 (by omega), o2, gr_newZ gr g2 (fun k e => .inr (own.lt k e).1), (g2.block y (lt_getZ hy) (fun e => hne e.symm)).trans hy⟩
theorem res_two {fn : Func} {p : Tmp} {mm : Nat × Nat} (tmps : Array Value) (W : World) (b : Nat) (k cd tx ln : Int) (v : Value) (pv : Option Addr) (nv cv : Nat) (hv : v = .slice pv nv cv) (hr : fn.results = #[.cell p 25]) (hp : tmps.getD p undef = .pointer (some ⟨b, 0, none⟩)) (h : W.heap[b]? = some (.cells #[.int .i64 k, .int .i64 cd, .int .i64 tx, .int .i64 ln, v] 25 mm)) :
    (results fn tmps).run Tryd.prog W = .ok (.agg #[.int .i64 k, .int .i64 cd, .int .i64 tx, .int .i64 ln, v]) W := by
  subst hv
  have hc : ∀ j, W.cell? ⟨b, j, none⟩ = (#[.int .i64 k, .int .i64 cd, .int .i64 tx, .int .i64 ln, .slice pv nv cv] : Array Value)[j]? := by
    intro j; unfold World.cell?; rw [h]; simp
  have hp' : tmps[p]?.getD undef = .pointer (some ⟨b, 0, none⟩) := by simpa using hp
  simp [results, hr, hp', go_sem, hc]
theorem put5U {W : World} {b T : Nat} {m : Nat × Nat} {x0 x1 x2 x3 x4 : Value} (v0 v1 v2 v3 v4 : Value) (h : W.heap[b]? = some (.cells #[x0, x1, x2, x3, x4] T m)) : (((((W.setCell ⟨b, 0, none⟩ v0).setCell ⟨b, 1, none⟩ v1).setCell ⟨b, 2, none⟩ v2).setCell ⟨b, 3, none⟩ v3).setCell ⟨b, 4, none⟩ v4).heap[b]? = some (.cells #[v0, v1, v2, v3, v4] T m) := by
  have h0 := set_getZ (j := 0) v0 h
  have h1 := set_getZ (j := 1) v1 h0
  have h2 := set_getZ (j := 2) v2 h1
  have h3 := set_getZ (j := 3) v3 h2
  have h4 := set_getZ (j := 4) v4 h3
  simpa using h4
theorem gr_put5U (W : World) (b : Nat) (v0 v1 v2 v3 v4 : Value) : W.grownBy (((((W.setCell ⟨b, 0, none⟩ v0).setCell ⟨b, 1, none⟩ v1).setCell ⟨b, 2, none⟩ v2).setCell ⟨b, 3, none⟩ v3).setCell ⟨b, 4, none⟩ v4) (some b) := gr_transZ (gr_setZ W b 0 v0) (gr_transZ (gr_setZ _ b 1 v1) (gr_transZ (gr_setZ _ b 2 v2) (gr_transZ (gr_setZ _ b 3 v3) (gr_setZ _ b 4 v4))))
theorem info_rpU : (Tryd.prog.info? 30).map (fun i => (i.zero, i.size, i.bytes)) = some (some (.agg #[.int .i64 0, .bool false, .string ⟨#[]⟩, .string ⟨#[]⟩, .slice none 0 0, .slice none 0 0, .string ⟨#[]⟩, .slice none 0 0, .bool false]), 9, 144) := by kernel_rfl
end Go.Proofs.YtfhlgncpleleaaaDoor

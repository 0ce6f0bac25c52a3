import Derived.Test.YthlgjdadkmpbbaaDoorXBN
import Derived.Test.YthlgjdadkmpbbaaDoorXBM
import Derived.SliceStrings
import Derived.SizedLaws
import Derived.ChangeSame
namespace Go.Proofs.YthlgjdadkmpbbaaDoor
open Go.RowKit
/-- the cells of a row of tokens lie there -/
def CRW (W : World) (h : Value × List ITok) : Prop := ∃ p c, h.1 = .slice p h.2.length c ∧ (∀ b, h.1.ownBlock = some b → b < W.heap.size) ∧ ∀ k t, h.2[k]? = some t → ∃ g, p = some ⟨g, 0, none⟩ ∧ g < W.heap.size ∧ W.cell? ⟨g, k * 4, none⟩ = some (.int .i64 t.1) ∧ W.cell? ⟨g, k * 4 + 1, none⟩ = some (.string ⟨t.2.1.toArray⟩) ∧ W.cell? ⟨g, k * 4 + 2, none⟩ = some (.int .i64 t.2.2.1) ∧ W.cell? ⟨g, k * 4 + 3, none⟩ = some (.int .i64 t.2.2.2)
theorem cell_of_block {W X : World} {g k : Nat} {v : Value} (h : X.heap[g]? = W.heap[g]?) (hc : W.cell? ⟨g, k, none⟩ = some v) : X.cell? ⟨g, k, none⟩ = some v := by
  unfold World.cell? at hc ⊢
  simp only at hc ⊢
  rw [h]
  exact hc
theorem CRW.kept {W X : World} {row : Option Nat} {h : Value × List ITok} (k : CRW W h) (hg : W.grownBy X row) (ho : offN row h.1) : CRW X h := by
  obtain ⟨p, c, e, hl, hc⟩ := k
  refine ⟨p, c, e, fun b hb => Nat.lt_of_lt_of_le (hl b hb) hg.size, fun j t ht => ?_⟩
  obtain ⟨g, rfl, hlt, c0, c1, c2, c3⟩ := hc j t ht
  have hb : X.heap[g]? = W.heap[g]? := hg.block g hlt (by
    rw [e] at ho
    rcases ho with h1 | h1
    · cases h1
    · exact fun e2 => h1 e2)
  exact ⟨g, rfl, Nat.lt_of_lt_of_le hlt hg.size, cell_of_block hb c0, cell_of_block hb c1, cell_of_block hb c2, cell_of_block hb c3⟩
theorem CRW.below {W X : World} {h : Value × List ITok} (k : CRW W h) (hb : Below W.heap.size W X) : CRW X h := by
  obtain ⟨p, c, e, hl, hc⟩ := k
  refine ⟨p, c, e, fun b hbb => Nat.lt_of_lt_of_le (hl b hbb) hb.size, fun j t ht => ?_⟩
  obtain ⟨g, rfl, hlt, c0, c1, c2, c3⟩ := hc j t ht
  have hb2 : X.heap[g]? = W.heap[g]? := hb.block g hlt
  exact ⟨g, rfl, Nat.lt_of_lt_of_le hlt hb.size, cell_of_block hb2 c0, cell_of_block hb2 c1, cell_of_block hb2 c2, cell_of_block hb2 c3⟩
theorem TR.crw {W : World} {h : Value × List ITok} (k : TR W h) : CRW W h := by
  obtain ⟨v, T⟩ := h
  obtain ⟨B, o⟩ := k
  simp only at o
  obtain ⟨p, c, rfl⟩ := shapeP o
  refine ⟨p, c, rfl, fun b hb => (o.lt b hb).2, fun j t ht => ?_⟩
  rcases o.2 with ⟨e, hn⟩ | ⟨g, cap, cur, e, _⟩
  · rw [List.eq_nil_of_length_eq_zero hn] at ht
    simp at ht
  · injection e with e1 e2 e3
    subst e1
    obtain ⟨a0, a1, a2, a3⟩ := itok_cell o ht
    exact ⟨g, rfl, (o.lt g rfl).2, a0, a1, a2, a3⟩
/-- a list in the block of what is gone on from it -/
theorem TR.pre {W : World} {p : Option Addr} {n c c2 : Nat} {T S : List ITok} (k : TR W (.slice p n c, T ++ S)) : CRW W (.slice p T.length c2, T) := by
  obtain ⟨q, c3, e, hl, hc⟩ := k.crw
  injection e with e1 e2 e3
  subst e1
  refine ⟨p, c2, rfl, fun b hb => hl b (by cases p with
    | none => cases hb
    | some a => exact hb), fun j t ht => hc j t ?_⟩
  rw [List.getElem?_append_left (List.getElem?_eq_some_iff.1 ht).1]
  exact ht
/-- what stands while the lists from i on are still owned, those ahead of n gone on from -/
structure JD (w W : World) (i : Nat) (H Q G : List (Value × List ITok)) (lv wv gv : Value) : Prop where
  lo : W.ownsRow w.heap.size 23 1 lv H.length (H.map (·.1))
  wo : W.ownsRow w.heap.size 23 1 wv Q.length (Q.map (·.1))
  go : W.ownsRow w.heap.size 23 1 gv G.length (G.map (·.1))
  lw : disN lv wv
  gl : disN gv lv
  gw : disN gv wv
  hk : ∀ (j : Nat) (h : Value × List ITok), i ≤ j → H[j]? = some h → TR W h
  fk : ∀ (j : Nat) (h g : Value × List ITok), H[j]? = some h → G[j]? = some g → CRW W h ∧ CRW W g
  fo : ∀ (j : Nat) (h g : Value × List ITok), H[j]? = some h → G[j]? = some g → disN gv h.1 ∧ disN gv g.1
  qk : ∀ q ∈ Q, TR W q
  be : Below w.heap.size w W
/-- the blocks that are not written -/
structure JO (row : Option Nat) (i : Nat) (H Q G : List (Value × List ITok)) : Prop where
  hk : ∀ (j : Nat) (h : Value × List ITok), i ≤ j → H[j]? = some h → offN row h.1
  fk : ∀ (j : Nat) (h g : Value × List ITok), H[j]? = some h → G[j]? = some g → offN row h.1 ∧ offN row g.1
  qk : ∀ q ∈ Q, offN row q.1
theorem JD.below {w W X : World} {i : Nat} {H Q G : List (Value × List ITok)} {lv wv gv : Value} (h : JD w W i H Q G lv wv gv) (hb : Below W.heap.size W X) : JD w X i H Q G lv wv gv :=
  ⟨owns_below h.lo hb, owns_below h.wo hb, owns_below h.go hb, h.lw, h.gl, h.gw, fun j x a b => (h.hk j x a b).below hb, fun j x g a b => ⟨(h.fk j x g a b).1.below hb, (h.fk j x g a b).2.below hb⟩, h.fo, fun q hq => (h.qk q hq).below hb, bel0 h.be hb⟩
/-- a row of tokens is written that is none of these -/
theorem JD.kept {w W X : World} {i : Nat} {H Q G : List (Value × List ITok)} {lv wv gv : Value} (h : JD w W i H Q G lv wv gv) {B n : Nat} {v : Value} {xs : List Value} (hv : W.ownsRow B 29 4 v n xs) (hg : W.grownBy X v.ownBlock) (ho : JO v.ownBlock i H Q G) (hB : ∀ k, v.ownBlock = some k → w.heap.size ≤ k) : JD w X i H Q G lv wv gv :=
  ⟨h.lo.kept hg (own_neN h.lo hv (by decide)), h.wo.kept hg (own_neN h.wo hv (by decide)), h.go.kept hg (own_neN h.go hv (by decide)), h.lw, h.gl, h.gw, fun j x a b => (h.hk j x a b).kept hg (ho.hk j x a b), fun j x g a b => ⟨(h.fk j x g a b).1.kept hg (ho.fk j x g a b).1, (h.fk j x g a b).2.kept hg (ho.fk j x g a b).2⟩, h.fo, fun q hq => (h.qk q hq).kept hg (ho.qk q hq), bel_grownN h.be hg hB⟩
/-- nothing old is written -/
theorem below_of_none {W X : World} (hg : W.grownBy X none) : Below W.heap.size W X := (Below.refl _ _).grown hg (Nat.le_refl _) (fun k e => by cases e)
theorem dis_off {x v : Value} (h : offN x.ownBlock v) : disN x v := fun b hb e => by
  rcases h with h | h
  · rw [h] at e; cases e
  · exact h (by rw [e, hb])
/-- grown gets one more -/
theorem JD.more {w W X : World} {i : Nat} {H Q G : List (Value × List ITok)} {lv wv gv : Value} {N : Value × List ITok} {g c : Nat} (h : JD w W (i + 1) H Q G lv wv gv) (hi : G.length = i)
    (ho : X.ownsRow w.heap.size 23 1 (.slice (some ⟨g, 0, none⟩) (G.length + 1) c) (G.length + 1) (G.map (·.1) ++ [N.1])) (hg : W.grownBy X gv.ownBlock) (hl : gv.ownBlock = some g ∨ W.heap.size ≤ g)
    {x : Value × List ITok} (hx : H[i]? = some x) (cx : CRW W x) (cN : TR W N) (ox : disN gv x.1) :
    JD w X (i + 1) H Q (G ++ [N]) lv wv (.slice (some ⟨g, 0, none⟩) (G.length + 1) c) := by
  have hgo := h.go
  have off : ∀ {q : Value × List ITok}, TR W q → offN gv.ownBlock q.1 := fun t => by
    obtain ⟨B, o⟩ := t
    exact own_neN o hgo (by decide)
  have new : ∀ {y : Value}, disN gv y → (∀ b, y.ownBlock = some b → b < W.heap.size) → disN (.slice (some ⟨g, 0, none⟩) (G.length + 1) c) y := fun hd hb b e1 e2 => by
    have e3 : g = b := by injection e1
    subst e3
    rcases hl with hl | hl
    · exact hd g hl e2
    · have := hb g e2
      omega
  have at_ : ∀ (j : Nat) (k : Value × List ITok), (G ++ [N])[j]? = some k → G[j]? = some k ∨ (j = i ∧ k = N) := fun j k hk => by
    by_cases hj : j < G.length
    · rw [List.getElem?_append_left hj] at hk
      exact .inl hk
    · rw [List.getElem?_append_right (by omega)] at hk
      have hj0 : j - G.length = 0 := by
        have := (List.getElem?_eq_some_iff.1 hk).1
        simp at this
        omega
      rw [hj0] at hk
      exact .inr ⟨by omega, by simpa using hk.symm⟩
  refine ⟨h.lo.kept hg (offN_dis h.gl), h.wo.kept hg (offN_dis h.gw), by rw [List.length_append, List.map_append]; exact ho, h.lw, new h.gl (fun b e => (h.lo.lt b e).2), new h.gw (fun b e => (h.wo.lt b e).2), fun j y a b => (h.hk j y a b).kept hg (off (h.hk j y a b)), ?_, ?_, fun q hq => (h.qk q hq).kept hg (off (h.qk q hq)), bel_grownN h.be hg (fun k e => (h.go.lt k e).1)⟩
  · intro j y k hy hk
    rcases at_ j k hk with hk | ⟨rfl, rfl⟩
    · obtain ⟨a, b⟩ := h.fk j y k hy hk
      obtain ⟨d, e⟩ := h.fo j y k hy hk
      exact ⟨a.kept hg (offN_dis d), b.kept hg (offN_dis e)⟩
    · rw [hx] at hy
      cases hy
      exact ⟨cx.kept hg (offN_dis ox), cN.crw.kept hg (off cN)⟩
  · intro j y k hy hk
    rcases at_ j k hk with hk | ⟨rfl, rfl⟩
    · obtain ⟨a, b⟩ := h.fk j y k hy hk
      obtain ⟨d, e⟩ := h.fo j y k hy hk
      obtain ⟨_, _, _, la, _⟩ := a
      obtain ⟨_, _, _, lb, _⟩ := b
      exact ⟨new d la, new e lb⟩
    · rw [hx] at hy
      cases hy
      obtain ⟨_, _, _, la, _⟩ := cx
      exact ⟨new ox la, new (dis_off (off cN)) cN.lt⟩
/-- the lists, marked, before any is gone on from -/
theorem JD.start {w W : World} {H Q : List (Value × List ITok)} {lv wv : Value} (h : ISt w W H Q lv wv) : JD w W 0 H Q [] lv wv (.slice none 0 0) :=
  ⟨h.lo, h.wo, World.ownsRow_nil _ _ _ _, h.lw, fun b e => (by cases e), fun b e => (by cases e), fun j y _ hy => h.hk y (List.mem_of_getElem? hy), fun j y g _ hg => (by simp at hg), fun j y g _ hg => (by simp at hg), h.qk, h.be⟩
theorem JD.next {w W : World} {i : Nat} {H Q G : List (Value × List ITok)} {lv wv gv : Value} (h : JD w W i H Q G lv wv gv) : JD w W (i + 1) H Q G lv wv gv :=
  ⟨h.lo, h.wo, h.go, h.lw, h.gl, h.gw, fun j y a b => h.hk j y (by omega) b, h.fk, h.fo, h.qk, h.be⟩
end Go.Proofs.YthlgjdadkmpbbaaDoor
namespace Go.Proofs.YthlgjdadkmpbbaaDoor
open Go.RowKit Go.ChangeShapes
/-- a row of texts lies there -/
def IRS (w : World) (o : Option Addr) (L : List (List UInt8)) : Prop := ∀ W : World, Below w.heap.size w W → ∀ k t, L[k]? = some t → ∃ g o0, o = some ⟨g, o0, none⟩ ∧ W.cell? ⟨g, o0 + k, none⟩ = some (.string ⟨t.toArray⟩)
theorem add_spotN {a : Addr} (h : a.spot = none) (m : Nat) : a.add m = ⟨a.block, a.off + m, none⟩ := by
  unfold Addr.add
  split
  · rename_i h0
    subst h0
    obtain ⟨b, o, s⟩ := a
    simp only at h
    subst h
    rfl
  · rfl
theorem cell_spotN {w : World} {a : Addr} {v : Value} (h : w.cell? a = some v) : a.spot = none := by
  unfold World.cell? at h
  split at h
  · split at h
    · cases h
    · rename_i hs
      cases hh : a.spot with
      | none => rfl
      | some s => rw [hh] at hs; simp at hs
  · cases h
section
variable {H : Type}
theorem w_strsN {s : ByteArray} : ∀ {L : List ByteArray}, s ∈ L → s.data.toList.length ∈ DataW.weightsAll Tryd.prog 9 (strs L : List (DataW H))
  | u :: L, h => by
    show _ ∈ DataW.weightsAll Tryd.prog 9 (.lit (.string u.data.toList) :: (strs L : List (DataW H)))
    rw [DataW.weightsAll]
    rcases List.mem_cons.1 h with rfl | h
    · exact List.mem_append_left _ (by simp [DataW.weights])
    · exact List.mem_append_right _ (w_strsN h)
theorem sized_strsN {ts : List TypeId} {ds : List (DataW H)} (h : (DataW.weightsEach Tryd.prog ts ds).all (· ≤ reachBytes) = true) {L : List ByteArray} {spare : List (DataW H)} {j : Nat} (ht : ts[j]? = some 22) (hd : ds[j]? = some (.slice (strs L) spare)) : ∀ s ∈ L, s.data.toList.length ≤ reachBytes := fun s hm => by
  have := List.all_eq_true.1 h _ (DataW.weights_mem_each ht hd s.data.toList.length (by
    simp only [DataW.weights, Tryd.underlying22]
    exact List.mem_cons_of_mem _ (List.mem_append_left _ (w_strsN hm))))
  simpa using this
end
theorem irs_of {w : World} {a : Addr} {len : Nat} {ss : List ByteArray} (hl : len ≤ ss.length) (h : ∀ i, i < ss.length → w.cell? (a.add i) = some (.string (ss.getD i ByteArray.empty))) : IRS w (some a) ((ss.take len).map (·.data.toList)) := fun W hW k t ht => by
  rw [List.getElem?_map] at ht
  by_cases hk : k < len
  · rw [List.getElem?_take_of_lt hk] at ht
    obtain ⟨s, hs⟩ : ∃ s, ss[k]? = some s := ⟨_, List.getElem?_eq_getElem (by omega)⟩
    rw [hs] at ht
    obtain rfl := Option.some.inj ht
    have h0 := h 0 (by omega)
    have e0 : a.add 0 = a := rfl
    rw [e0] at h0
    have sp := cell_spotN h0
    have hc := h k (by omega)
    rw [add_spotN sp, show ss.getD k ByteArray.empty = s by simp [List.getD, hs]] at hc
    obtain ⟨g, o0, q⟩ := a
    simp only at sp hc
    subst sp
    exact ⟨g, o0, rfl, (hW.cell (World.block_lt_of_cell? w _ hc)).trans hc⟩
  · rw [List.getElem?_eq_none (by simp; omega)] at ht
    cases ht
end Go.Proofs.YthlgjdadkmpbbaaDoor

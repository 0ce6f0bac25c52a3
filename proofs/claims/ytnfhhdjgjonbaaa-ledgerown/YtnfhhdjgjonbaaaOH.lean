import Derived.Test.YtnfhhdjgjonbaaaOE
namespace Go.Proofs.Ytnfhhdjgjonbaaa
open Go.RowKit
variable {W : World} {B : Nat} {f : Nat × Nat → Reg} {K : List EO}
theorem rc_get (K : List EO) : ∀ (k : Nat) (e : EO) (m : Nat), K[k]? = some e → m < 3 → (K.flatMap EO.rc)[k * 3 + m]? = e.rc[m]? := by
  induction K with
  | nil => intro k e m h; simp at h
  | cons x K ih =>
    intro k e m h hm
    have e1 : (x :: K).flatMap EO.rc = x.rc ++ K.flatMap EO.rc := List.flatMap_cons
    have l3 : x.rc.length = 3 := rfl
    rw [e1]
    cases k with
    | zero =>
      obtain rfl : x = e := Option.some.inj h
      rw [List.getElem?_append_left (by rw [l3]; omega), Nat.zero_mul, Nat.zero_add]
    | succ k =>
      rw [List.getElem?_append_right (by rw [l3]; omega), l3, show (k + 1) * 3 + m - 3 = k * 3 + m by omega]
      exact ih k e m h hm
/-- a row's block -/
theorem row_some {T s n c m : Nat} {p : Option Addr} {xs : List Value} {k : Nat × Nat} (hs : SEP W B f) (hk : f k = ⟨T, s, .slice p n c, m, xs⟩) (hm : m ≠ 0) : ∃ g, p = some ⟨g, 0, none⟩ := by
  have o := hs.own k
  rw [hk] at o
  exact own_someZ o hm
theorem row_at {T s n c m g : Nat} {xs : List Value} {k : Nat × Nat} (hs : SEP W B f) (hk : f k = ⟨T, s, .slice (some ⟨g, 0, none⟩) n c, m, xs⟩) {j : Nat} {u : Value} (hu : xs[j]? = some u) : W.cell? ⟨g, j, none⟩ = some u := by
  have o := hs.own k
  rw [hk] at o
  exact own_atZ o hu
theorem row_rec {n c g : Nat} {k : Nat × Nat} (hs : SEP W B f) (hk : f k = ⟨29, 3, .slice (some ⟨g, 0, none⟩) n c, K.length, K.flatMap EO.rc⟩) {i : Nat} {e : EO} (he : K[i]? = some e) : W.cell? ⟨g, i * 3, none⟩ = some (.int .i64 (e.q : Int)) ∧ W.cell? ⟨g, i * 3 + 1, none⟩ = some (.int .i64 1) ∧ W.cell? ⟨g, i * 3 + 2, none⟩ = some (.string ⟨e.t.toArray⟩) :=
  ⟨row_at hs hk ((rc_get K i e 0 he (by decide)).trans rfl), row_at hs hk ((rc_get K i e 1 he (by decide)).trans rfl), row_at hs hk ((rc_get K i e 2 he (by decide)).trans rfl)⟩
theorem row_v {T n c g : Nat} {k : Nat × Nat} (hs : SEP W B f) (hk : f k = ⟨T, 1, .slice (some ⟨g, 0, none⟩) n c, K.length, K.map EO.v⟩) {i : Nat} {e : EO} (he : K[i]? = some e) : W.cell? ⟨g, i, none⟩ = some e.v := row_at hs hk (by rw [List.getElem?_map, he]; rfl)
theorem GA.vs {va vw vr vs : Value} (h : GA f va vw vr vs K) {i : Nat} {e : EO} (he : K[i]? = some e) : f (1, i) = regV e ∧ f (2, i) = regU e := by
  constructor
  · rw [h.v i, List.getD_eq_getElem?_getD, List.getElem?_map, he]; rfl
  · rw [h.u i, List.getD_eq_getElem?_getD, List.getElem?_map, he]; rfl
/-- what is read of an entry when all is gathered -/
theorem GA.at {pa pw pr ps : Option Addr} {nk ca cw cr cs : Nat} (hs : SEP W B f) (h : GA f (.slice pa nk ca) (.slice pw nk cw) (.slice pr nk cr) (.slice ps nk cs) K) {i : Nat} {e : EO} (he : K[i]? = some e) :
    ∃ ga gw gr gs pu cu, pa = some ⟨ga, 0, none⟩ ∧ pw = some ⟨gw, 0, none⟩ ∧ pr = some ⟨gr, 0, none⟩ ∧ ps = some ⟨gs, 0, none⟩ ∧ e.u = .slice pu e.l.length cu ∧
      ∀ U, Below W.heap.size W U → (U.cell? ⟨ga, i, none⟩ = some e.v ∧ U.cell? ⟨gw, i, none⟩ = some (.slice pu e.l.length cu) ∧ (U.cell? ⟨gr, i * 3, none⟩ = some (.int .i64 (e.q : Int)) ∧ U.cell? ⟨gr, i * 3 + 1, none⟩ = some (.int .i64 1) ∧ U.cell? ⟨gr, i * 3 + 2, none⟩ = some (.string ⟨e.t.toArray⟩)) ∧ (U.cell? ⟨gs, i * 3, none⟩ = some (.int .i64 (e.q : Int)) ∧ U.cell? ⟨gs, i * 3 + 1, none⟩ = some (.int .i64 1) ∧ U.cell? ⟨gs, i * 3 + 2, none⟩ = some (.string ⟨e.t.toArray⟩)) ∧ BR U e.p e.l ∧ BR U pu e.l) := by
  have hl : K.length ≠ 0 := by have := (List.getElem?_eq_some_iff.1 he).1; omega
  have ha := h.a
  have hw := h.w
  rw [List.length_map] at ha hw
  obtain ⟨ga, rfl⟩ := row_some hs ha hl
  obtain ⟨gw, rfl⟩ := row_some hs hw hl
  obtain ⟨gr, rfl⟩ := row_some hs h.r hl
  obtain ⟨gs, rfl⟩ := row_some hs h.s hl
  obtain ⟨h1, h2⟩ := h.vs he
  have o2 := hs.own (2, i)
  rw [h2] at o2
  obtain ⟨pu, cu, hu⟩ : ∃ pu cu, e.u = .slice pu e.l.length cu := shapeZ (v := e.u) o2
  refine ⟨ga, gw, gr, gs, pu, cu, rfl, rfl, rfl, rfl, hu, fun U hU => ?_⟩
  have hsU := hs.below hU
  refine ⟨row_v hsU ha he, ?_, row_rec hsU h.r he, row_rec hsU h.s he, ?_, ?_⟩
  · rw [← hu]
    exact row_at hsU hw (by rw [List.getElem?_map, he]; rfl)
  · have o1 := hsU.own (1, i)
    rw [h1] at o1
    exact OB.br (n := e.l.length) (c := e.c) o1
  · have o3 := hsU.own (2, i)
    rw [h2] at o3
    unfold regU at o3
    rw [hu] at o3
    exact OB.br (n := e.l.length) (c := cu) o3
/-- an entry while it is marked -/
theorem DOC.at {pa pr ps : Option Addr} {nk ca cr cs i k : Nat} (hs : SEP W B f) (h : DOC f (.slice pa nk ca) (.slice pr nk cr) (.slice ps nk cs) K i k) {e : EO} (he : K[i]? = some e) (h0 : 0 < e.l.length) :
    ∃ ga g, pa = some ⟨ga, 0, none⟩ ∧ e.p = some ⟨g, 0, none⟩ ∧ W.cell? ⟨ga, i, none⟩ = some (.slice (some ⟨g, 0, none⟩) e.l.length e.c) ∧ (∀ m, W.frozen? ⟨g, m, none⟩ = false) ∧ ∀ m, m < e.l.length → ∃ u, W.cell? ⟨g, m, none⟩ = some u := by
  have hl : K.length ≠ 0 := by have := (List.getElem?_eq_some_iff.1 he).1; omega
  obtain ⟨ga, rfl⟩ := row_some hs h.a hl
  have hv := h.v i e he
  unfold EO.v at hv
  obtain ⟨g, hg⟩ := row_some hs hv (by omega)
  have hc := row_v hs h.a he
  unfold EO.v at hc
  rw [hg] at hc hv
  have o := hs.own (1, i)
  rw [hv] at o
  have hlen : (CM i k i e).length = e.l.length * 1 := o.1
  refine ⟨ga, g, rfl, hg, hc, fun m => World.ownsRow.frozenAt o m, fun m hm => ⟨_, row_at hs hv (List.getElem?_eq_getElem (i := m) (by omega))⟩⟩
theorem DOD.at {pa pr ps pm : Option Addr} {nk ca cr cs cm : Nat} {Gs : List Value} (hs : SEP W B f) (h : DOD f (.slice pa nk ca) (.slice pr nk cr) (.slice ps nk cs) (.slice pm Gs.length cm) K Gs) {i : Nat} {e : EO} (he : K[i]? = some e) :
    ∃ ga, pa = some ⟨ga, 0, none⟩ ∧ W.cell? ⟨ga, i, none⟩ = some e.v := by
  have hl : K.length ≠ 0 := by have := (List.getElem?_eq_some_iff.1 he).1; omega
  obtain ⟨ga, rfl⟩ := row_some hs h.a hl
  exact ⟨ga, rfl, row_v hs h.a he⟩
theorem DOG.shape {va vr vs vm G0 : Value} {Gs : List Value} {e0 : EO} {m0 : Nat} (hs : SEP W B f) (h : DOG f va vr vs vm K Gs e0 G0 m0) : ∃ p c, G0 = .slice p (e0.l.length + m0) c := shapeZ (GST.own hs h.at_ (by unfold MV; simp)).2
/-- all is read in the end -/
theorem DOD.fin {pa pr ps pm : Option Addr} {nk ca cr cs cm nm : Nat} {Gs : List Value} (hs : SEP W B f) (h : DOD f (.slice pa nk ca) (.slice pr nk cr) (.slice ps nk cs) (.slice pm nm cm) K Gs) (hG : Gs.length = K.length) {i : Nat} {e : EO} (he : K[i]? = some e) (h0 : 0 < e.l.length) :
    ∃ ga gm gr gs g gg cg, pa = some ⟨ga, 0, none⟩ ∧ pm = some ⟨gm, 0, none⟩ ∧ pr = some ⟨gr, 0, none⟩ ∧ ps = some ⟨gs, 0, none⟩ ∧ e.p = some ⟨g, 0, none⟩ ∧
      ∀ U, Below W.heap.size W U → (U.cell? ⟨ga, i, none⟩ = some (.slice (some ⟨g, 0, none⟩) e.l.length e.c) ∧ U.cell? ⟨gm, i, none⟩ = some (.slice (some ⟨gg, 0, none⟩) (e.l.length + 64) cg) ∧ (U.cell? ⟨gr, i * 3, none⟩ = some (.int .i64 (e.q : Int)) ∧ U.cell? ⟨gr, i * 3 + 1, none⟩ = some (.int .i64 1) ∧ U.cell? ⟨gr, i * 3 + 2, none⟩ = some (.string ⟨e.t.toArray⟩)) ∧ (U.cell? ⟨gs, i * 3, none⟩ = some (.int .i64 (e.q : Int)) ∧ U.cell? ⟨gs, i * 3 + 1, none⟩ = some (.int .i64 1) ∧ U.cell? ⟨gs, i * 3 + 2, none⟩ = some (.string ⟨e.t.toArray⟩)) ∧ (∀ k, k < e.l.length → U.cell? ⟨g, k, none⟩ = some (mkV i) ∧ U.cell? ⟨gg, k, none⟩ = some (mkV i)) ∧ (∀ k, e.l.length ≤ k → k < e.l.length + 64 → U.cell? ⟨gg, k, none⟩ = some (gkV i))) := by
  have hi := (List.getElem?_eq_some_iff.1 he).1
  have hl : K.length ≠ 0 := by omega
  obtain ⟨ga, rfl⟩ := row_some hs h.a hl
  obtain ⟨gm, rfl⟩ := row_some hs h.m (by omega)
  obtain ⟨gr, rfl⟩ := row_some hs h.r hl
  obtain ⟨gs, rfl⟩ := row_some hs h.s hl
  obtain ⟨G, hGi⟩ : ∃ G, Gs[i]? = some G := ⟨_, List.getElem?_eq_getElem (by omega)⟩
  have hg := h.lo i e G he hGi
  obtain ⟨o1, o2⟩ := GST.own hs hg (by unfold MV; simp)
  unfold EO.v at o1
  obtain ⟨g, hgp⟩ := own_someZ o1 (by omega)
  obtain ⟨pg, cg, rfl⟩ := shapeZ o2
  obtain ⟨gg, rfl⟩ := own_someZ o2 (by omega)
  rw [hgp] at o1
  refine ⟨ga, gm, gr, gs, g, gg, cg, rfl, rfl, rfl, rfl, hgp, fun U hU => ?_⟩
  have hsU := hs.below hU
  refine ⟨?_, row_at hsU h.m hGi, row_rec hsU h.r he, row_rec hsU h.s he, fun k hk => ⟨?_, ?_⟩, fun k hk hk2 => ?_⟩
  · have := row_v hsU h.a he
    unfold EO.v at this
    rw [hgp] at this
    exact this
  · exact own_atZ (own_belZ o1 hU) (by unfold MV; rw [List.getElem?_replicate, if_pos hk])
  · exact own_atZ (own_belZ o2 hU) (by unfold MV; rw [List.getElem?_append_left (by rw [List.length_replicate]; exact hk), List.getElem?_replicate, if_pos hk])
  · exact own_atZ (own_belZ o2 hU) (by unfold MV; rw [List.getElem?_append_right (by rw [List.length_replicate]; exact hk), List.length_replicate, List.getElem?_replicate, if_pos (by omega)])
end Go.Proofs.Ytnfhhdjgjonbaaa

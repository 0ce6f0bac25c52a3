import Derived.Test.YtmblloddhpcdeacY4
namespace Go.Proofs.Ytmblloddhpcdeac
open Go.RowKit Go.Shelf

attribute [local go_sem] Oper.semAt_some

theorem own_shapeY {W : World} {B n : Nat} {e : TypeId} {v : Value} {xs : List Value} (h : W.ownsRow B e 1 v n xs) : ∃ q g c, v = .slice q n c ∧ (∀ j, j < n → q = some ⟨g, 0, none⟩) ∧ ∀ i, i < n → ∃ cs, W.heap[g]? = some (.cells cs e (0, 0)) ∧ W.cell? ⟨g, i, none⟩ = xs[i]? := by
  rcases h.2 with ⟨rfl, rfl⟩ | ⟨g, c, cur, rfl, _, hg, hn, _, hs, hx⟩
  · exact ⟨none, 0, 0, rfl, fun j hj => by omega, fun i hi => by omega⟩
  · refine ⟨_, g, c, rfl, fun _ _ => rfl, fun i hi => ⟨cur, hg, ?_⟩⟩
    rw [cell_of_row W g i _ _ _ hg, ← hx]
    simp [hi]
theorem grow_put {w W : World} {row : Option Nat} {k : Nat} (h : w.grownBy W row) (hk : w.heap.size ≤ k) (o : Obj) : w.grownBy (W.putObj k o) row :=
  ⟨h.os, h.tape, h.output, by simp [h.size], fun j hj hne => (World.putObj_heap_other (by omega)).trans (h.block j hj hne)⟩
theorem grow_alloc {w W : World} {row : Option Nat} (h : w.grownBy W row) (o : Obj) : w.grownBy (W.alloc o) row := by
  refine ⟨h.os, h.tape, h.output, by have := h.size; simp; omega, fun j hj hne => ?_⟩
  rw [Below.heap_alloc _ _ _ (by have := h.size; omega)]
  exact h.block j hj hne
theorem grow_set {w W : World} {g p : Nat} {v : Value} (h : w.grownBy W (some g)) : w.grownBy (W.setCell ⟨g, p, none⟩ v) (some g) :=
  ⟨h.os, h.tape, h.output, by have := h.size; simpa [World.setCell] using this, fun j hj hne => (Below.heap_setCell _ _ _ _ (fun e => hne (by rw [e]))).trans (h.block j hj hne)⟩
theorem grow_set2 {w W : World} {row : Option Nat} {b p : Nat} {v : Value} (h : w.grownBy W row) (hb : w.heap.size ≤ b) : w.grownBy (W.setCell ⟨b, p, none⟩ v) row :=
  ⟨h.os, h.tape, h.output, by have := h.size; simpa [World.setCell] using this, fun j hj hne => (Below.heap_setCell _ _ _ _ (fun e => by have e' : j = b := e; omega)).trans (h.block j hj hne)⟩
theorem set_other {W : World} {b c p : Nat} {v : Value} {o : Obj} (h : W.heap[c]? = some o) (hne : c ≠ b) : (W.setCell ⟨b, p, none⟩ v).heap[c]? = some o := (Below.heap_setCell _ _ _ _ (by exact hne)).trans h
theorem put_other {W : World} {b c : Nat} {o o' : Obj} (h : W.heap[c]? = some o) (hne : c ≠ b) : (W.putObj b o').heap[c]? = some o := (World.putObj_heap_other hne).trans h

theorem res_bool1 {fn : Func} {p : Tmp} {m : Nat × Nat} (tmps : Array Value) (W : World) (b : Nat) (v : Bool) (hr : fn.results = #[.cell p 4]) (hp : tmps.getD p undef = .pointer (some ⟨b, 0, none⟩)) (h : W.heap[b]? = some (.cells #[.bool v] 4 m)) :
    (results fn tmps).run Try.prog W = .ok (.bool v) W := by
  have hc : ∀ j, W.cell? ⟨b, j, none⟩ = (#[.bool v] : Array Value)[j]? := by
    intro j; unfold World.cell?; rw [h]; simp
  have hp' : tmps[p]?.getD undef = .pointer (some ⟨b, 0, none⟩) := by simpa using hp
  simp [results, hr, hp', go_sem, hc]
theorem set_one {W : World} {b T : Nat} {m : Nat × Nat} {x : Value} (v : Value) (h : W.heap[b]? = some (.cells #[x] T m)) : (W.setCell ⟨b, 0, none⟩ v).heap[b]? = some (.cells #[v] T m) := by
  have := set_get (j := 0) v h
  simpa using this

set_option maxRecDepth 100000 in
set_option maxHeartbeats 2000000 in
theorem advance_any (t h : List UInt8) (gh ch B : Nat) (z : List Value) (v : Value) (w : World) (hl0 : t.length = h.length) (h256 : t.length ≤ 256) (hH : hdr w gh z h) (hown : w.ownsRow B 3 1 v (fr t t.length).length (ints (fr t t.length))) :
    Calls Try.prog 50 #[.slice (some ⟨gh, 0, none⟩) h.length ch, v] w fun e w' => e = .returned (.bool (nx t h).2) ∧ w.grownBy w' (some gh) ∧ ((nx t h).2 = true → hdr w' gh z (nx t h).1) := by
  have hl : Hid (t.length = h.length) := hl0
  clear hl0
  obtain ⟨q, gF, cF, rfl, hq, hcells0⟩ := own_shapeY hown
  have hcells : Hid (∀ i, i < (fr t t.length).length → ∃ cs, w.heap[gF]? = some (.cells cs 3 (0, 0)) ∧ w.cell? ⟨gF, i, none⟩ = (ints (fr t t.length))[i]?) := hcells0
  clear hcells0
  have hgl : gh < w.heap.size := lt_of_get hH
  have hfl : (fr t t.length).length ≤ 256 := Nat.le_trans (fr_len t t.length) h256
  refine (callsIn_wide (n := 4)).1 ?_
  refine callsIn_of_wp_marks Try.func50 rfl trivial ?_ rfl
  simp only [Try.ntmps50, List.size_toArray, List.length_cons, List.length_nil, Nat.reduceAdd, Nat.reduceSub, Array.replicate_succ, Array.replicate_zero, List.push_toArray, List.append_toArray, List.nil_append, List.cons_append]
  gi_wp2_with (refine ⟨trivial, ?_⟩; gi_at_call 55; refine (callsIn_wide.2 (backward_in q _ cF _)).mono ?_; rintro e w' ⟨rfl, rfl⟩)
  refine range_by rfl (by omega) (gf := 58) (lb := #[.pointer (some ⟨w.heap.size + 1 + 1, 0, none⟩)]) rfl trivial (enters_of Try.func58 (by kernel_rfl) rfl) ?_
  intro fn hfn
  obtain ⟨S, hS⟩ : ∃ S, w.heap.size = S := ⟨_, rfl⟩
  simp only [World.size_alloc, hS]
  generalize hR : recOf fn _ _ _ _ _ = R
  have rs : R.state = .ready := by rw [← hR]; rfl
  have rp : R.pending = none := by rw [← hR]; rfl
  have rf : R.fn = fn := by rw [← hR]; rfl
  have rq : R.params = #[9, 10] := by rw [← hR]; rfl
  refine (back_in Fence.wide (4 - 1) trivial rfl (by omega) (S + 1 + 1 + 1 + 1) (S + 1 + 1) gF cF q (fr t t.length) hfl hq
    (fun j W => ∃ p, p ≤ t.length ∧ (fr t p).length = j ∧ flg t h p = false ∧ hdr W gh z (cur t h p) ∧ w.grownBy W (some gh) ∧ W.heap[S]? = some (.cells #[.slice (some ⟨gh, 0, none⟩) h.length ch] 39 (0, 0)) ∧ W.heap[S + 1]? = some (.cells #[.bool false] 4 (0, 0)) ∧ W.heap[S + 1 + 1]? = some (.cells #[.slice q (fr t t.length).length cF] 78 (0, 0)) ∧ W.heap[S + 1 + 1 + 1]? = some (.deferred (some [])) ∧ W.heap[S + 1 + 1 + 1 + 1]? = some (.loop R))
    (fun W => (nx t h).2 = true ∧ hdr W gh z (nx t h).1 ∧ w.grownBy W (some gh) ∧ W.heap[S + 1]? = some (.cells #[.bool true] 4 (0, 0)) ∧ W.heap[S + 1 + 1 + 1]? = some (.deferred (some [])) ∧ ∃ r, W.heap[S + 1 + 1 + 1 + 1]? = some (.loop r) ∧ r.state = .done ∧ r.pending = some .ret)
    ?hbox ?hY _ ?h0).mono ?post
  case hbox =>
    rintro j W ⟨p, hp, _, _, _, hg, _, _, k3, _, _⟩
    refine ⟨by have := (cells_block k3).1 0; simpa using this, fun i hi => ?_⟩
    obtain ⟨cs, hF, hc⟩ := hcells.out i hi
    have hne : gF ≠ gh := fun e => by
      rw [e] at hF
      unfold hdr at hH
      rw [hH] at hF
      cases hF
    have := World.cell?_of_block (a := ⟨gF, i, none⟩) (hg.block gF (lt_of_get hF) (fun e => hne (by injection e)))
    rw [this, hc]
    simp [ints, List.getElem?_eq_getElem hi]
  case h0 =>
    obtain ⟨e1, e2⟩ := cur_end t h hl.out
    have a0 : w.grownBy w (some gh) := ⟨rfl, rfl, rfl, Nat.le_refl _, fun _ _ _ => rfl⟩
    refine ⟨t.length, Nat.le_refl _, rfl, e2, by rw [e1]; exact hdr_alloc (hdr_alloc (hdr_alloc (hdr_alloc (hdr_alloc hH _) _) _) _) _, grow_alloc (grow_alloc (grow_alloc (grow_alloc (grow_alloc a0 _) _) _) _) _, ?_, ?_, ?_, ?_, ?_⟩
    · rw [← hS]; exact allocblk (allocblk (allocblk (allocblk (alloc_get _ _) _) _) _) _
    · rw [← hS, ← World.size_alloc w (.cells #[.slice (some ⟨gh, 0, none⟩) h.length ch] 39)]; exact allocblk (allocblk (allocblk (alloc_get _ _) _) _) _
    · have := alloc_get ((w.alloc (.cells #[.slice (some ⟨gh, 0, none⟩) h.length ch] 39)).alloc (.cells #[.bool false] 4)) (.cells #[.slice q (fr t t.length).length cF] 78)
      simp only [World.size_alloc, hS] at this
      exact allocblk (allocblk this _) _
    · have := alloc_get (((w.alloc (.cells #[.slice (some ⟨gh, 0, none⟩) h.length ch] 39)).alloc (.cells #[.bool false] 4)).alloc (.cells #[.slice q (fr t t.length).length cF] 78)) (.deferred (some []))
      simp only [World.size_alloc, hS] at this
      exact allocblk this _
    · have := alloc_get ((((w.alloc (.cells #[.slice (some ⟨gh, 0, none⟩) h.length ch] 39)).alloc (.cells #[.bool false] 4)).alloc (.cells #[.slice q (fr t t.length).length cF] 78)).alloc (.deferred (some []))) (.loop R)
      simp only [World.size_alloc, hS] at this
      exact this
  case post =>
    rintro e W ⟨hv, hJ⟩
    refine ⟨hv, ?_⟩
    rcases hJ with ⟨p, hp, hlen, hf, _, hg, k1, k2, k3, k4, kL⟩ | ⟨hn, hH', hg, k2, k4, r, kL, hrs, hrp⟩
    · refine ⟨R, kL, (fun e => by rw [rs] at e; cases e), .inl ⟨rp, ?_⟩⟩
      have hn : Hid ((nx t h).2 = false) := fr_none t h p hl.out hp (List.eq_nil_of_length_eq_zero hlen) hf
      have hg2 := grow_put hg (k := S + 1 + 1 + 1 + 1) (by omega) (.loop { R with state := .exhausted })
      have k2' := put_other (o' := .loop { R with state := .exhausted }) k2 (show S + 1 ≠ S + 1 + 1 + 1 + 1 by omega)
      have k4' := put_other (o' := .loop { R with state := .exhausted }) k4 (show S + 1 + 1 + 1 ≠ S + 1 + 1 + 1 + 1 by omega)
      obtain ⟨V, hV⟩ : ∃ V, W.putObj (S + 1 + 1 + 1 + 1) (.loop { R with state := .exhausted }) = V := ⟨_, rfl⟩
      rw [hV] at hg2 k2' k4' ⊢
      clear hV hg k1 k2 k3 k4 kL hH
      have c2 := (cells_block k2').1
      have f2 := (cells_block k2').2
      gi_wp2
      have kD := set_other (b := S + 1) (p := 0) (v := .bool false) k4' (by omega)
      have kR := put_other (b := S + 1 + 1 + 1) (o' := .deferred none) (set_one (.bool false) k2') (by omega)
      refine ⟨by simp, .inl ⟨_, _, rfl, run_takeDeferred kD, ?_⟩⟩
      exact ⟨_, res_bool1 _ _ (S + 1) false rfl rfl kR, by rw [hn.out], grow_put (grow_set2 hg2 (by omega)) (by omega) _, fun e => by rw [hn.out] at e; cases e⟩
    · refine ⟨r, kL, (fun e => by rw [hrs] at e; cases e), .inr ⟨_, hrp, ?_⟩⟩
      have Hn : Hid ((nx t h).2 = true) := hn
      have hg2 := grow_put hg (k := S + 1 + 1 + 1 + 1) (by omega) (.loop { r with state := .exhausted })
      have k2' := put_other (o' := .loop { r with state := .exhausted }) k2 (show S + 1 ≠ S + 1 + 1 + 1 + 1 by omega)
      have k4' := put_other (o' := .loop { r with state := .exhausted }) k4 (show S + 1 + 1 + 1 ≠ S + 1 + 1 + 1 + 1 by omega)
      have hH2 : hdr (W.putObj (S + 1 + 1 + 1 + 1) (.loop { r with state := .exhausted })) gh z (nx t h).1 := put_other hH' (by omega)
      obtain ⟨V, hV⟩ : ∃ V, W.putObj (S + 1 + 1 + 1 + 1) (.loop { r with state := .exhausted }) = V := ⟨_, rfl⟩
      rw [hV] at hg2 k2' k4' hH2 ⊢
      clear hV hg k2 k4 kL hH hH' hn
      gi_wp2
      have kR := put_other (b := S + 1 + 1 + 1) (o' := .deferred none) k2' (by omega)
      refine ⟨by simp, .inl ⟨_, _, rfl, run_takeDeferred k4', ?_⟩⟩
      exact ⟨_, res_bool1 _ _ (S + 1) true rfl rfl kR, by rw [Hn.out], grow_put hg2 (by omega) _, fun _ => put_other hH2 (by omega)⟩
  case hY =>
    rintro j W hj ⟨p, hp, hlen, hf, hHp, hg, k1, k2, k3, k4, kL⟩
    obtain ⟨x, hxl, hxp, hx, hfr, hgap⟩ := fr_last t p hp (fun e => by rw [e] at hlen; simp at hlen)
    have hj2 : (fr t x).length = j := by rw [hfr] at hlen; simpa using hlen
    have hat := fr_at t p x t.length hp hfr
    rw [hj2, List.getElem?_eq_getElem hj] at hat
    rw [Option.some.inj hat]
    obtain ⟨c1, f1⟩ := st_gap t h (x + 1) p hl.out hp (by omega) (fun k hk h1 h2 => hgap k hk (by omega) h2) hf
    rw [← c1] at hHp
    have hxh : x < h.length := by rw [← hl.out]; exact hxl
    have hcl : x < (cur t h (x + 1)).length := by rw [cur_len t h (x + 1) (by omega)]; exact hxh
    have hcx : (cur t h (x + 1))[x] = h[x] := by have := cur_get t h x hxh; rw [List.getElem?_eq_getElem hcl] at this; exact Option.some.inj this
    have hput := grow_put hg (k := S + 1 + 1 + 1 + 1) (by omega) (.loop { R with state := .busy })
    have p1 := put_other (o' := .loop { R with state := .busy }) k1 (show S ≠ S + 1 + 1 + 1 + 1 by omega)
    have p2 := put_other (o' := .loop { R with state := .busy }) k2 (show S + 1 ≠ S + 1 + 1 + 1 + 1 by omega)
    have p3 := put_other (o' := .loop { R with state := .busy }) k3 (show S + 1 + 1 ≠ S + 1 + 1 + 1 + 1 by omega)
    have p4 := put_other (o' := .loop { R with state := .busy }) k4 (show S + 1 + 1 + 1 ≠ S + 1 + 1 + 1 + 1 by omega)
    have pL : (W.putObj (S + 1 + 1 + 1 + 1) (.loop { R with state := .busy })).heap[S + 1 + 1 + 1 + 1]? = some (.loop { R with state := .busy }) := World.putObj_heap_same (lt_of_get kL)
    have pH : hdr (W.putObj (S + 1 + 1 + 1 + 1) (.loop { R with state := .busy })) gh z (cur t h (x + 1)) := put_other hHp (by omega)
    refine (round_by (F := Fence.wide) (m := 4 - 1 - 1) (In := fun W' => ∃ p, p ≤ t.length ∧ (fr t p).length = j ∧ flg t h p = false ∧ hdr W' gh z (cur t h p) ∧ w.grownBy W' (some gh) ∧ W'.heap[S]? = some (.cells #[.slice (some ⟨gh, 0, none⟩) h.length ch] 39 (0, 0)) ∧ W'.heap[S + 1]? = some (.cells #[.bool false] 4 (0, 0)) ∧ W'.heap[S + 1 + 1]? = some (.cells #[.slice q (fr t t.length).length cF] 78 (0, 0)) ∧ W'.heap[S + 1 + 1 + 1]? = some (.deferred (some [])) ∧ W'.heap[S + 1 + 1 + 1 + 1]? = some (.loop R))
      (Out := fun c W' => (nx t h).2 = true ∧ hdr W' gh z (nx t h).1 ∧ w.grownBy W' (some gh) ∧ W'.heap[S + 1]? = some (.cells #[.bool true] 4 (0, 0)) ∧ W'.heap[S + 1 + 1 + 1]? = some (.deferred (some [])) ∧ c = .ret ∧ ∃ r, W'.heap[S + 1 + 1 + 1 + 1]? = some (.loop r) ∧ r.state = .done ∧ r.pending = some c)
      (by rw [rf]; exact hfn) kL rs rp (by rw [rq]; rfl) ?a1 ?has ?hb).mono ?_
    case has =>
      intro K hK
      rw [congrArg Loop.assign hR.symm, rq, congrArg Loop.tmps hR.symm]
      simp only [recOf]
      gi_wp2
      exact hK
    case hb =>
      obtain ⟨V, hV⟩ : ∃ V, W.putObj (S + 1 + 1 + 1 + 1) (.loop { R with state := .busy }) = V := ⟨_, rfl⟩
      rw [hV] at hput p1 p2 p3 p4 pL pH ⊢
      rw [congrArg Loop.body hR.symm]
      simp only [recOf]
      clear hV hg k1 k2 k3 k4 kL hHp hH
      have c1' := (cells_block p1).1
      have cH := hdr_cell pH hcl
      have fH := hdr_frozen pH hcl
      have c2' := (cells_block p2).1
      have f2' := (cells_block p2).2
      rw [hcx] at cH
      have i0 : (0 : Int) ≤ (x : Int) := by omega
      have i1 : (x : Int) < (h.length : Int) := by omega
      by_cases h48 : h[x] = 48
      · have e48 : ((h[x].toNat : Int) == 48) = true := by rw [h48]; rfl
        have hS1 : Hid ((nx t h).1 = (cur t h (x + 1)).set x 49 ∧ (nx t h).2 = true) := by
          obtain ⟨a, b⟩ := st_hit t h x hxl hxh hx h48 f1
          obtain ⟨c, d⟩ := st_ups t h x hl.out (by omega) b
          exact ⟨c.trans a, d⟩
        have hne1 : gh ≠ S + 1 := by omega
        gi_wp2
        exact ⟨set_other (set_other pL (by omega)) (by omega), hS1.out.2, by rw [hS1.out.1]; exact put_other (set_other (hdr_set 49 pH hcl) hne1) (by omega), grow_put (grow_set2 (grow_set hput) (by omega)) (by omega) _, put_other (set_one (.bool true) (set_other p2 (by omega))) (by omega), put_other (set_other (set_other p4 (by omega)) (by omega)) (by omega), rfl, _, World.putObj_heap_same (lt_of_get (set_other (set_other pL (by omega)) (by omega))), rfl, rfl⟩
      · have e48 : ((h[x].toNat : Int) == 48) = false := ne_byte (n := 48) h48
        have hS1 : Hid (cur t h x = (cur t h (x + 1)).set x 48 ∧ flg t h x = false) := st_carry t h x hxl hxh hx h48 f1
        gi_wp2
        exact ⟨set_other pL (by omega), x, by omega, hj2, hS1.out.2, by rw [hS1.out.1]; exact put_other (hdr_set 48 pH hcl) (by omega), grow_put (grow_set hput) (by omega) _, put_other (set_other p1 (by omega)) (by omega), put_other (set_other p2 (by omega)) (by omega), put_other (set_other p3 (by omega)) (by omega), put_other (set_other p4 (by omega)) (by omega), World.putObj_heap_same (lt_of_get (set_other pL (by omega)))⟩
    · rintro e W' (⟨rfl, hIn⟩ | ⟨rfl, c, a1, a2, a3, a4, a5, rfl, a6⟩)
      · exact .inl ⟨rfl, hIn⟩
      · exact .inr ⟨rfl, a1, a2, a3, a4, a5, a6⟩
end Go.Proofs.Ytmblloddhpcdeac

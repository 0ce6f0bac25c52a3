import Derived.Test.YtffgkjmfeannoaaGreatDoorXBE
import Derived.Test.YtffgkjmfeannoaaGreatDoorXAN
import Derived.Test.YtffgkjmfeannoaaGreatDoorXBF
import Derived.Shelf.RegionOpen
import Derived.Deep.RegionHeld3
namespace Go.Proofs.YtffgkjmfeannoaaGreatDoor.Ex
open Go.RowKit
abbrev XTok := Int × List UInt8 × Int × Int
def tokV (t : XTok) : Value := .agg #[.int .i64 t.1, .string ⟨t.2.1.toArray⟩, .int .i64 t.2.2.1, .int .i64 t.2.2.2]
def tok0 : XTok := (0, [], 0, 0)
def tokAt (L : List XTok) (i : Nat) : XTok := L.getD i tok0
def XR (w : World) (p : Option Addr) (L : List XTok) : Prop := ∀ (k : Nat) (t : XTok), L[k]? = some t → ∃ g o, p = some ⟨g, o, none⟩ ∧ w.cell? ⟨g, o + k * 4, none⟩ = some (.int .i64 t.1) ∧ w.cell? ⟨g, o + k * 4 + 1, none⟩ = some (.string ⟨t.2.1.toArray⟩) ∧ w.cell? ⟨g, o + k * 4 + 2, none⟩ = some (.int .i64 t.2.2.1) ∧ w.cell? ⟨g, o + k * 4 + 3, none⟩ = some (.int .i64 t.2.2.2)
theorem XR.below {w w' : World} {p : Option Addr} {L : List XTok} (h : XR w p L) (hb : Below w.heap.size w w') : XR w' p L := fun k x hx => by
  obtain ⟨g, o, rfl, h0, h1, h2, h3⟩ := h k x hx
  exact ⟨g, o, rfl, (hb.cell (World.block_lt_of_cell? w _ h0)).trans h0, (hb.cell (World.block_lt_of_cell? w _ h1)).trans h1, (hb.cell (World.block_lt_of_cell? w _ h2)).trans h2, (hb.cell (World.block_lt_of_cell? w _ h3)).trans h3⟩
def ndC (x : Nd) : List Value := [.int .i64 (x.k : Int), .string ⟨x.t.f.toArray⟩, .int .i64 (x.t.o : Int), .int .i64 (x.t.fm : Int), .int .i64 x.t.lo, .int .i64 x.t.hi, .int .i64 x.t.ln, .string ⟨x.t.p.toArray⟩]
def nds (l : List Nd) : List Value := l.flatMap ndC
def OWN (W : World) (B : Nat) (v : Value) (l : List Nd) : Prop := W.ownsRow B 50 8 v l.length (nds l)
theorem OWN.below {W X : World} {B : Nat} {v : Value} {l : List Nd} (h : OWN W B v l) (hb : Below W.heap.size W X) : OWN X B v l := own_belZ h hb
def ST (w0 : World) (b : Nat) (pt : Option Addr) (ct : Nat) (L : List XTok) (W : World) (i o m : Nat) (out : List Nd) : Prop :=
  (∃ vn, W.heap[b]? = some (.cells #[.slice pt L.length ct, .int .i64 (i : Int), .int .i64 (o : Int), .int .i64 (m : Int), vn] 39 (0, 0)) ∧ OWN W w0.heap.size vn out) ∧ Below w0.heap.size w0 W ∧ i ≤ L.length
variable {w0 W X : World} {b : Nat} {pt : Option Addr} {ct : Nat} {L : List XTok} {i o m : Nat} {out : List Nd}
theorem ST.below (h : ST w0 b pt ct L W i o m out) (hb : Below W.heap.size W X) : ST w0 b pt ct L X i o m out := by
  obtain ⟨⟨vn, h1, h2⟩, h3, h4⟩ := h
  exact ⟨⟨vn, keepZ hb h1, h2.below hb⟩, bel0Z h3 hb, h4⟩
theorem ST.cells (h : ST w0 b pt ct L W i o m out) : W.cell? ⟨b, 0, none⟩ = some (.slice pt L.length ct) ∧ W.cell? ⟨b, 1, none⟩ = some (.int .i64 (i : Int)) ∧ W.cell? ⟨b, 2, none⟩ = some (.int .i64 (o : Int)) ∧ W.cell? ⟨b, 3, none⟩ = some (.int .i64 (m : Int)) ∧ ∀ j, W.frozen? ⟨b, j, none⟩ = false := by
  obtain ⟨⟨vn, h1, h2⟩, h3, h4⟩ := h
  have := (cellsZ h1).1
  exact ⟨by rw [this]; rfl, by rw [this]; rfl, by rw [this]; rfl, by rw [this]; rfl, (cellsZ h1).2⟩
theorem wpOp_goE {P : Program} {ops : Array Oper} {Q : Exit → Act → World → Prop} {n : Nat} {K : Act → World → Prop} {a : Act} {w : World} {o : Oper} (ho : ops[n]? = some o) (hg : o.guard = none) (h : o.wp P a w K Q) : wpOp P ops Q n K a w := by
  unfold wpOp
  rw [ho]
  have hw : Region.wanted o (yielded ops a.tmps) = true := by simp [Region.wanted, hg]
  simp only [hw, if_true]
  exact .inl h
theorem res_tok (tmps : Array Value) (W : World) (b : Nat) (k : Int) (x : List UInt8) (l c : Int) (h : tmps[2]?.getD undef = .pointer (some ⟨b, 0, none⟩)) (hb : W.heap[b]? = some (.cells #[.int .i64 k, .string ⟨x.toArray⟩, .int .i64 l, .int .i64 c] 24 (0, 0))) : (results Tryz.f50 tmps).run Tryz.prog W = .ok (tokV (k, x, l, c)) W := by
  have h1 := (cellsZ hb).1
  have c0 := h1 0
  have c1 := h1 1
  have c2 := h1 2
  have c3 := h1 3
  simp at c0 c1 c2 c3
  simp [results, h, c0, c1, c2, c3, go_sem, tokV]
theorem put4w {W : World} {b T : Nat} {m : Nat × Nat} {x0 x1 x2 x3 : Value} (v0 v1 v2 v3 : Value) (h : W.heap[b]? = some (.cells #[x0, x1, x2, x3] T m)) : ((((W.setCell ⟨b, 0, none⟩ v0).setCell ⟨b, 1, none⟩ v1).setCell ⟨b, 2, none⟩ v2).setCell ⟨b, 3, none⟩ v3).heap[b]? = some (.cells #[v0, v1, v2, v3] T m) := by
  have h0 := set_getZ (j := 0) v0 h
  have h1 := set_getZ (j := 1) v1 h0
  have h2 := set_getZ (j := 2) v2 h1
  have h3 := set_getZ (j := 3) v3 h2
  rw [h3]
  simp
theorem bel4 {B b : Nat} {w W : World} (h : Below B w W) (hb : B ≤ b) (v0 v1 v2 v3 : Value) : Below B w ((((W.setCell ⟨b, 0, none⟩ v0).setCell ⟨b, 1, none⟩ v1).setCell ⟨b, 2, none⟩ v2).setCell ⟨b, 3, none⟩ v3) :=
  (((h.setCell hb _).setCell hb _).setCell hb _).setCell hb _
set_option maxRecDepth 100000 in
set_option maxHeartbeats 4000000 in
theorem token_any (hX : XR w0 pt L) (_hlen : L.length ≤ 100000) (h : ST w0 b pt ct L W i o m out) :
    Calls Tryz.prog 50 #[.pointer (some ⟨b, 0, none⟩)] W fun e W' => e = .returned (tokV (tokAt L i)) ∧ Below W.heap.size W W' := by
  have hi := h.2.2
  have HC : Hid (∀ U, Below W.heap.size W U → U.cell? ⟨b, 0, none⟩ = some (.slice pt L.length ct) ∧ U.cell? ⟨b, 1, none⟩ = some (.int .i64 (i : Int))) := fun U hU => ⟨(h.below hU).cells.1, (h.below hU).cells.2.1⟩
  have HX : Hid (∀ U, Below W.heap.size W U → XR U pt L) := fun U hU => hX.below (bel0Z h.2.1 hU)
  clear h hX
  by_cases he : i = L.length
  · have y1 : ((i : Int) == (L.length : Int)) = true := beq_iff_eq.2 (by omega)
    have HT : Hid (tokV (tokAt L i) = .agg #[.int .i64 0, .string ⟨#[]⟩, .int .i64 0, .int .i64 0]) := by
      show tokV (tokAt L i) = _
      unfold tokAt
      rw [List.getD_eq_getElem?_getD, List.getElem?_eq_none (by omega)]
      rfl
    rw [HT.out]
    clear HT HX he
    go_enter Tryz.func50, Tryz.ntmps50
    go_wp2_with fail
    refine quiet_lit3 (C := fun U => Below (W.alloc (.cells #[.int .i64 0, .string ⟨#[]⟩, .int .i64 0, .int .i64 0] 24 (0, 0))).heap.size (W.alloc (.cells #[.int .i64 0, .string ⟨#[]⟩, .int .i64 0, .int .i64 0] 24 (0, 0))) U) (by kernel_rfl) (by kernel_rfl) (show Below _ _ _ from (Below.refl _ _).drew) ?_
    go_big_quiet_want
    go_big_quiet_op
    go_big_quiet_on
    go_big_quiet_want
    refine ⟨.pointer (some ⟨b, 0, none⟩), fun W hW => ?_, ?_⟩
    · go_simp
    go_big_quiet_on
    simp only [Act.put, List.setIfInBounds_toArray, List.set_cons_zero, List.set_cons_succ]
    go_big_quiet_want
    refine ⟨.pointer (some ⟨b, 1, none⟩), fun W hW => ?_, ?_⟩
    · go_simp
    go_big_quiet_on
    simp only [Act.put, List.setIfInBounds_toArray, List.set_cons_zero, List.set_cons_succ]
    go_big_quiet_want
    refine ⟨.int .i64 (i : Int), fun W hW => ?_, ?_⟩
    · have kc := HC.out _ (bel0Z (belAZ (Below.refl _ _) _) hW)
      obtain ⟨k0, k1⟩ := kc
      go_simp
    go_big_quiet_on
    simp only [Act.put, List.setIfInBounds_toArray, List.set_cons_zero, List.set_cons_succ]
    go_big_quiet_want
    go_big_quiet_op
    go_big_quiet_on
    go_big_quiet_want
    refine ⟨.pointer (some ⟨b, 0, none⟩), fun W hW => ?_, ?_⟩
    · go_simp
    go_big_quiet_on
    simp only [Act.put, List.setIfInBounds_toArray, List.set_cons_zero, List.set_cons_succ]
    go_big_quiet_want
    refine ⟨.pointer (some ⟨b, 0, none⟩), fun W hW => ?_, ?_⟩
    · go_simp
    go_big_quiet_on
    simp only [Act.put, List.setIfInBounds_toArray, List.set_cons_zero, List.set_cons_succ]
    go_big_quiet_want
    refine ⟨.slice pt L.length ct, fun W hW => ?_, ?_⟩
    · have kc := HC.out _ (bel0Z (belAZ (Below.refl _ _) _) hW)
      obtain ⟨k0, k1⟩ := kc
      go_simp
    go_big_quiet_on
    simp only [Act.put, List.setIfInBounds_toArray, List.set_cons_zero, List.set_cons_succ]
    go_big_quiet_want
    refine ⟨.int .i64 (L.length : Int), fun W hW => ?_, ?_⟩
    · go_simp
    go_big_quiet_on
    simp only [Act.put, List.setIfInBounds_toArray, List.set_cons_zero, List.set_cons_succ]
    go_big_quiet_want
    refine ⟨.bool true, fun W hW => ?_, ?_⟩
    · go_simp
    go_big_quiet_on
    simp only [Act.put, List.setIfInBounds_toArray, List.set_cons_zero, List.set_cons_succ]
    refine wpQuiet_nil ?_
    intro W5 hW5
    have HB5 : Hid (Below W.heap.size W W5) := bel0Z (belAZ (Below.refl _ _) _) hW5
    have HZ5 : Hid (W5.heap[W.heap.size]? = some (.cells #[.int .i64 0, .string ⟨#[]⟩, .int .i64 0, .int .i64 0] 24 (0, 0))) := keepZ hW5 (alloc_getZ _ _)
    have f1 := (cellsZ HZ5.out).1
    have fz := (cellsZ HZ5.out).2
    clear hW5
    go_wp2_with fail
    refine bodyPost_ret (res_tok _ _ W.heap.size 0 [] 0 0 rfl (put4w _ _ _ _ HZ5.out)) rfl ?_
    exact ⟨rfl, bel4 HB5.out (Nat.le_refl _) _ _ _ _⟩
  · have y1 : ((i : Int) == (L.length : Int)) = false := beq_eq_false_iff_ne.2 (by omega)
    obtain ⟨t, ht⟩ : ∃ t, L[i]? = some t := ⟨_, List.getElem?_eq_getElem (by omega)⟩
    have HT : Hid (tokAt L i = t) := by
      show tokAt L i = t
      unfold tokAt
      rw [List.getD_eq_getElem?_getD, ht]
      rfl
    rw [HT.out]
    obtain ⟨g, o0, rfl, -⟩ := HX.out W (Below.refl _ _) i t ht
    obtain ⟨tk, tx, tl, tc⟩ := t
    have HY : Hid (∀ U, Below W.heap.size W U → U.cell? ⟨g, o0 + i * 4, none⟩ = some (.int .i64 tk) ∧ U.cell? ⟨g, o0 + i * 4 + 1, none⟩ = some (.string ⟨tx.toArray⟩) ∧ U.cell? ⟨g, o0 + i * 4 + 2, none⟩ = some (.int .i64 tl) ∧ U.cell? ⟨g, o0 + i * 4 + 3, none⟩ = some (.int .i64 tc)) := fun U hU => by
      obtain ⟨g', o', e, h⟩ := HX.out U hU i _ ht
      cases e
      exact h
    have j0 : (0 : Int) ≤ (i : Int) := by omega
    have j1 : (i : Int) < (L.length : Int) := by omega
    clear HT HX he ht
    go_enter Tryz.func50, Tryz.ntmps50
    go_wp2_with fail
    refine quiet_lit3 (C := fun U => Below (W.alloc (.cells #[.int .i64 0, .string ⟨#[]⟩, .int .i64 0, .int .i64 0] 24 (0, 0))).heap.size (W.alloc (.cells #[.int .i64 0, .string ⟨#[]⟩, .int .i64 0, .int .i64 0] 24 (0, 0))) U) (by kernel_rfl) (by kernel_rfl) (show Below _ _ _ from (Below.refl _ _).drew) ?_
    go_big_quiet_want
    go_big_quiet_op
    go_big_quiet_on
    go_big_quiet_want
    refine ⟨.pointer (some ⟨b, 0, none⟩), fun W hW => ?_, ?_⟩
    · go_simp
    go_big_quiet_on
    simp only [Act.put, List.setIfInBounds_toArray, List.set_cons_zero, List.set_cons_succ]
    go_big_quiet_want
    refine ⟨.pointer (some ⟨b, 1, none⟩), fun W hW => ?_, ?_⟩
    · go_simp
    go_big_quiet_on
    simp only [Act.put, List.setIfInBounds_toArray, List.set_cons_zero, List.set_cons_succ]
    go_big_quiet_want
    refine ⟨.int .i64 (i : Int), fun W hW => ?_, ?_⟩
    · have kc := HC.out _ (bel0Z (belAZ (Below.refl _ _) _) hW)
      obtain ⟨k0, k1⟩ := kc
      go_simp
    go_big_quiet_on
    simp only [Act.put, List.setIfInBounds_toArray, List.set_cons_zero, List.set_cons_succ]
    go_big_quiet_want
    go_big_quiet_op
    go_big_quiet_on
    go_big_quiet_want
    refine ⟨.pointer (some ⟨b, 0, none⟩), fun W hW => ?_, ?_⟩
    · go_simp
    go_big_quiet_on
    simp only [Act.put, List.setIfInBounds_toArray, List.set_cons_zero, List.set_cons_succ]
    go_big_quiet_want
    refine ⟨.pointer (some ⟨b, 0, none⟩), fun W hW => ?_, ?_⟩
    · go_simp
    go_big_quiet_on
    simp only [Act.put, List.setIfInBounds_toArray, List.set_cons_zero, List.set_cons_succ]
    go_big_quiet_want
    refine ⟨.slice (some ⟨g, o0, none⟩) L.length ct, fun W hW => ?_, ?_⟩
    · have kc := HC.out _ (bel0Z (belAZ (Below.refl _ _) _) hW)
      obtain ⟨k0, k1⟩ := kc
      go_simp
    go_big_quiet_on
    simp only [Act.put, List.setIfInBounds_toArray, List.set_cons_zero, List.set_cons_succ]
    go_big_quiet_want
    refine ⟨.int .i64 (L.length : Int), fun W hW => ?_, ?_⟩
    · go_simp
    go_big_quiet_on
    simp only [Act.put, List.setIfInBounds_toArray, List.set_cons_zero, List.set_cons_succ]
    go_big_quiet_want
    refine ⟨.bool false, fun W hW => ?_, ?_⟩
    · go_simp
    go_big_quiet_on
    simp only [Act.put, List.setIfInBounds_toArray, List.set_cons_zero, List.set_cons_succ]
    refine wpQuiet_nil ?_
    intro W5 hW5
    have HB5 : Hid (Below W.heap.size W W5) := bel0Z (belAZ (Below.refl _ _) _) hW5
    have HZ5 : Hid (W5.heap[W.heap.size]? = some (.cells #[.int .i64 0, .string ⟨#[]⟩, .int .i64 0, .int .i64 0] 24 (0, 0))) := keepZ hW5 (alloc_getZ _ _)
    clear hW5
    go_wp2_with fail
    refine quiet_last (C := fun U => Below W5.heap.size W5 U) (by kernel_rfl) (by kernel_rfl) (by kernel_rfl) (by kernel_rfl) (show Below _ _ _ from (Below.refl _ _).drew) ?_
    simp only [List.dropLast_cons_cons, List.dropLast_singleton]
    go_big_quiet_want
    go_big_quiet_op
    go_big_quiet_on
    go_big_quiet_want
    refine ⟨.pointer (some ⟨b, 0, none⟩), fun W hW => ?_, ?_⟩
    · go_simp
    go_big_quiet_on
    simp only [Act.put, List.setIfInBounds_toArray, List.set_cons_zero, List.set_cons_succ]
    go_big_quiet_want
    refine ⟨.pointer (some ⟨b, 0, none⟩), fun W hW => ?_, ?_⟩
    · go_simp
    go_big_quiet_on
    simp only [Act.put, List.setIfInBounds_toArray, List.set_cons_zero, List.set_cons_succ]
    go_big_quiet_want
    refine ⟨.slice (some ⟨g, o0, none⟩) L.length ct, fun W hW => ?_, ?_⟩
    · obtain ⟨k0, k1⟩ := HC.out _ (bel0Z HB5.out hW)
      go_simp
    go_big_quiet_on
    simp only [Act.put, List.setIfInBounds_toArray, List.set_cons_zero, List.set_cons_succ]
    go_big_quiet_want
    go_big_quiet_op
    go_big_quiet_on
    go_big_quiet_want
    refine ⟨.pointer (some ⟨b, 0, none⟩), fun W hW => ?_, ?_⟩
    · go_simp
    go_big_quiet_on
    simp only [Act.put, List.setIfInBounds_toArray, List.set_cons_zero, List.set_cons_succ]
    go_big_quiet_want
    refine ⟨.pointer (some ⟨b, 1, none⟩), fun W hW => ?_, ?_⟩
    · go_simp
    go_big_quiet_on
    simp only [Act.put, List.setIfInBounds_toArray, List.set_cons_zero, List.set_cons_succ]
    go_big_quiet_want
    refine ⟨.int .i64 (i : Int), fun W hW => ?_, ?_⟩
    · obtain ⟨k0, k1⟩ := HC.out _ (bel0Z HB5.out hW)
      go_simp
    go_big_quiet_on
    simp only [Act.put, List.setIfInBounds_toArray, List.set_cons_zero, List.set_cons_succ]
    go_big_quiet_want
    refine ⟨.pointer (some ⟨g, o0 + i * 4, none⟩), fun W hW => ?_, ?_⟩
    · go_simp
    go_big_quiet_on
    simp only [Act.put, List.setIfInBounds_toArray, List.set_cons_zero, List.set_cons_succ]
    go_big_quiet_want
    refine ⟨.agg #[.int .i64 tk, .string ⟨tx.toArray⟩, .int .i64 tl, .int .i64 tc], fun W hW => ?_, ?_⟩
    · obtain ⟨t0, t1, t2, t3⟩ := HY.out _ (bel0Z HB5.out hW)
      go_simp
    go_big_quiet_on
    simp only [Act.put, List.setIfInBounds_toArray, List.set_cons_zero, List.set_cons_succ]
    refine wpQuiet_nil ?_
    intro W6 hW6
    refine wpOp_goE rfl rfl ?_
    have HB6 : Hid (Below W.heap.size W W6) := bel0Z HB5.out hW6
    have HZ6 : Hid (W6.heap[W.heap.size]? = some (.cells #[.int .i64 0, .string ⟨#[]⟩, .int .i64 0, .int .i64 0] 24 (0, 0))) := keepZ hW6 HZ5.out
    have f1 := (cellsZ HZ6.out).1
    have fz := (cellsZ HZ6.out).2
    clear hW6 HZ5 HB5
    go_simp
    go_wp2_with fail
    refine bodyPost_ret (res_tok _ _ W.heap.size tk tx tl tc rfl (put4w _ _ _ _ HZ6.out)) rfl ?_
    exact ⟨rfl, bel4 HB6.out (Nat.le_refl _) _ _ _ _⟩
end Go.Proofs.YtffgkjmfeannoaaGreatDoor.Ex
namespace Go.Proofs.YtffgkjmfeannoaaGreatDoor.Ex
open Go.RowKit
variable {w0 W X : World} {b : Nat} {pt : Option Addr} {ct : Nat} {L : List XTok} {i o m : Nat} {out : List Nd}
def isS (t : XTok) (s : List UInt8) : Bool := t.1 == 7 && t.2.1 == s
set_option maxRecDepth 100000 in
set_option maxHeartbeats 4000000 in
theorem isAt_any (sg : List UInt8) (hX : XR w0 pt L) (hlen : L.length ≤ 100000) (h : ST w0 b pt ct L W i o m out) :
    Calls Tryz.prog 35 #[.pointer (some ⟨b, 0, none⟩), .string ⟨sg.toArray⟩] W fun e W' => e = .returned (.bool (isS (tokAt L i) sg)) ∧ Below W.heap.size W W' := by
  have HT := token_any hX hlen h
  obtain ⟨⟨tk, tx, tl, tc⟩, ht⟩ : ∃ t, tokAt L i = t := ⟨_, rfl⟩
  rw [ht] at HT ⊢
  clear h hX ht
  unfold tokV at HT
  simp only at HT
  by_cases h7 : tk = 7
  · have y1 : (tk == 7) = true := beq_iff_eq.2 h7
    have HR : Hid (isS (tk, tx, tl, tc) sg = (tx == sg)) := by show isS _ _ = _; unfold isS; simp [h7]
    rw [HR.out]
    subst h7
    go_enter Tryz.func35, Tryz.ntmps35
    go_wp2_with fail
    refine HT.mono ?_
    rintro e W1 ⟨rfl, b1⟩
    clear HT
    by_cases hs : tx = sg
    · have y2 : (tx == sg) = true := beq_iff_eq.2 hs
      subst hs
      go_wp2_with fail
      go_ret
      exact ⟨by rw [y2]; rfl, belAZ b1 _⟩
    · have y2 : (tx == sg) = false := beq_eq_false_iff_ne.2 hs
      go_wp2_with fail
      go_ret
      exact ⟨by rw [y2]; rfl, belAZ b1 _⟩
  · have y1 : (tk == 7) = false := beq_eq_false_iff_ne.2 h7
    have HR : Hid (isS (tk, tx, tl, tc) sg = false) := by show isS _ _ = _; unfold isS; simp [h7]
    rw [HR.out]
    go_enter Tryz.func35, Tryz.ntmps35
    go_wp2_with fail
    refine HT.mono ?_
    rintro e W1 ⟨rfl, b1⟩
    clear HT
    go_wp2_with fail
    go_ret
    exact ⟨rfl, belAZ b1 _⟩
theorem own_box_ne {W : World} {B b s n T2 e : Nat} {v : Value} {xs : List Value} {cs : Array Value} {mm : Nat × Nat} (h : W.ownsRow B e s v n xs) (hb : W.heap[b]? = some (.cells cs T2 mm)) (hne : e ≠ T2) : v.ownBlock ≠ some b := by
  intro e1
  rcases h.2 with ⟨rfl, _⟩ | ⟨g, c, cur, rfl, _, hg, _⟩
  · cases e1
  · have : g = b := by injection e1
    subst this
    rw [hb] at hg
    injection hg with hg
    injection hg with _ hg _
    exact hne hg.symm
theorem ST.set (h : ST w0 b pt ct L W i o m out) (hb : w0.heap.size ≤ b) {i' o' m' : Nat} (j : Nat) (u : Value) (hi : i' ≤ L.length)
    (hj : ∀ vn : Value, (#[.slice pt L.length ct, .int .i64 (i : Int), .int .i64 (o : Int), .int .i64 (m : Int), vn] : Array Value).setIfInBounds j u = #[.slice pt L.length ct, .int .i64 (i' : Int), .int .i64 (o' : Int), .int .i64 (m' : Int), vn]) : ST w0 b pt ct L (W.setCell ⟨b, j, none⟩ u) i' o' m' out := by
  obtain ⟨⟨vn, h1, h2⟩, h3, h4⟩ := h
  refine ⟨⟨vn, ?_, World.ownsRow.kept h2 (gr_setZ _ _ _ _) (.inr (own_box_ne h2 h1 (by decide)))⟩, h3.setCell hb _, hi⟩
  rw [set_getZ u h1, hj]
set_option maxRecDepth 100000 in
set_option maxHeartbeats 4000000 in
theorem count_any (h : ST w0 b pt ct L W i o m out) (hb : w0.heap.size ≤ b) (hi : i < L.length) (hlen : L.length ≤ 100000) (hm : m ≤ 64) :
    Calls Tryz.prog 51 #[.pointer (some ⟨b, 0, none⟩)] W fun e W' => (m = 64 ∧ e = .returned (.int .i64 51) ∧ ST w0 b pt ct L W' i o m out) ∨ (m ≠ 64 ∧ e = .returned (.int .i64 0) ∧ ST w0 b pt ct L W' (i + 1) o (m + 1) out) := by
  obtain ⟨c0, c1, c2, c3, cf⟩ := h.cells
  by_cases h64 : m = 64
  · have y1 : ((m : Int) == 64) = true := beq_iff_eq.2 (by omega)
    have HS : Hid (m = 64 ∧ ST w0 b pt ct L W i o m out) := ⟨h64, h⟩
    clear h h64
    go_enter Tryz.func51, Tryz.ntmps51
    go_wp2_with fail
    go_ret
    exact .inl ⟨HS.out.1, rfl, HS.out.2⟩
  · have y1 : ((m : Int) == 64) = false := beq_eq_false_iff_ne.2 (by omega)
    have y2 : IntKind.i64.wrap ((m : Int) + 1) = (m : Int) + 1 := by rw [IntKind.wrap_i64]; omega
    have y3 : IntKind.i64.wrap ((i : Int) + 1) = (i : Int) + 1 := by rw [IntKind.wrap_i64]; omega
    have h1 := h.set hb (i' := i) (o' := o) (m' := m + 1) 3 (.int .i64 ((m : Int) + 1)) (by omega) (fun vn => by simp)
    have h2 := h1.set hb (i' := i + 1) (o' := o) (m' := m + 1) 1 (.int .i64 ((i : Int) + 1)) (by omega) (fun vn => by simp)
    have f3 := cf 3
    obtain ⟨d0, d1, d2, d3, df⟩ := h1.cells
    have f1 := df 1
    have HS : Hid (m ≠ 64 ∧ ST w0 b pt ct L ((W.setCell ⟨b, 3, none⟩ (.int .i64 ((m : Int) + 1))).setCell ⟨b, 1, none⟩ (.int .i64 ((i : Int) + 1))) (i + 1) o (m + 1) out) := ⟨h64, h2⟩
    clear h h1 h2 h64 cf df d2 d3 d0
    go_enter Tryz.func51, Tryz.ntmps51
    go_wp2_with fail
    go_ret
    exact .inr ⟨HS.out.1, rfl, HS.out.2⟩
end Go.Proofs.YtffgkjmfeannoaaGreatDoor.Ex
namespace Go.Proofs.YtffgkjmfeannoaaGreatDoor.Ex
open Go.RowKit
theorem step_run {P : Program} {ops : Array Oper} {o : Oper} {a : Act} {w w' : World} {K : Act → World → Prop} {Q : Exit → Act → World → Prop} {E : Prop} {v u v' : Value} (hgd : o.guard = none) (s x : Operand) (t : TypeId) (ho : o.op = .call { callee := .builtin .append, args := #[s, x], argTypes := #[t, t] }) (hs : a.eval s = v) (hx : a.eval x = u) (hr : (Builtin.append_ #[t, t] o.type #[v, u]).run P w = .ok v' w') (h : K (a.put o.dst v') w') : if Region.wanted o (yielded ops a.tmps) = true then Oper.wp P o a w K Q else E := by
  have hw : Region.wanted o (yielded ops a.tmps) = true := by simp [Region.wanted, hgd]
  rw [if_pos hw]
  unfold Oper.wp execOp
  simp only [ho, resolve, invoke, builtin, Sem.run_bind, Sem.run_pure, Result.andThen_ok, List.map_toArray, List.map_cons, List.map_nil, hs, hx, hr]
  exact h
variable {w0 W X : World} {b : Nat} {pt : Option Addr} {ct : Nat} {L : List XTok} {i o m : Nat} {out : List Nd}
theorem info_nd : (Tryz.prog.info? 50).map (fun i => (i.zero, i.size, i.bytes)) = some (some (.agg #[.int .i64 0, .string ⟨#[]⟩, .int .i64 0, .int .i64 0, .int .i64 0, .int .i64 0, .int .i64 0, .string ⟨#[]⟩]), 8, 80) := by kernel_rfl
theorem nds_snoc (l : List Nd) (x : Nd) : nds (l ++ [x]) = nds l ++ ndC x := by simp [nds]
set_option maxRecDepth 100000 in
set_option maxHeartbeats 8000000 in
theorem add_any (x : Nd) (h : ST w0 b pt ct L W i o m out) (hb : w0.heap.size ≤ b) (hout : out.length ≤ 1000) :
    Calls Tryz.prog 52 #[.pointer (some ⟨b, 0, none⟩), .agg #[.int .i64 (x.k : Int), .string ⟨x.t.f.toArray⟩, .int .i64 (x.t.o : Int), .int .i64 (x.t.fm : Int), .int .i64 x.t.lo, .int .i64 x.t.hi, .int .i64 x.t.ln, .string ⟨x.t.p.toArray⟩]] W fun e W' => e = .returned (.tuple #[]) ∧ ST w0 b pt ct L W' i o m (out ++ [x]) := by
  obtain ⟨bn, hbn⟩ : ∃ bn, W.heap.size = bn := ⟨_, rfl⟩
  obtain ⟨W1, hW1⟩ : ∃ W1, W.alloc (.cells #[.int .i64 (x.k : Int), .string ⟨x.t.f.toArray⟩, .int .i64 (x.t.o : Int), .int .i64 (x.t.fm : Int), .int .i64 x.t.lo, .int .i64 x.t.hi, .int .i64 x.t.ln, .string ⟨x.t.p.toArray⟩] 50 (0, 0)) = W1 := ⟨_, rfl⟩
  have b1 : Below W.heap.size W W1.drew := by rw [← hW1]; exact (belAZ (Below.refl _ _) _).drew
  have hbx : W1.heap[bn]? = some (.cells #[.int .i64 (x.k : Int), .string ⟨x.t.f.toArray⟩, .int .i64 (x.t.o : Int), .int .i64 (x.t.fm : Int), .int .i64 x.t.lo, .int .i64 x.t.hi, .int .i64 x.t.ln, .string ⟨x.t.p.toArray⟩] 50 (0, 0)) := by rw [← hW1, ← hbn]; exact alloc_getZ _ _
  obtain ⟨⟨vn, h1, h2⟩, h3, h4⟩ := h
  have hvb : vn.ownBlock ≠ some bn := fun e => by
    have := (World.ownsRow.lt h2 bn e).2
    omega
  replace h1 := keepZ b1 h1
  replace h2 := h2.below b1
  replace h3 := bel0Z h3 b1
  have hc4 : W1.drew.cell? ⟨b, 4, none⟩ = some vn := by rw [(cellsZ h1).1]; rfl
  obtain ⟨W2, hW2⟩ : ∃ W2, W1.drew.alloc (.cells #[.int .i64 (x.k : Int), .string ⟨x.t.f.toArray⟩, .int .i64 (x.t.o : Int), .int .i64 (x.t.fm : Int), .int .i64 x.t.lo, .int .i64 x.t.hi, .int .i64 x.t.ln, .string ⟨x.t.p.toArray⟩] 50 (0, 0)) = W2 := ⟨_, rfl⟩
  have b2 : Below W1.drew.heap.size W1.drew W2 := by rw [← hW2]; exact belAZ (Below.refl _ _) _
  have hnb : W2.heap[W1.drew.heap.size]? = some (.cells #[.int .i64 (x.k : Int), .string ⟨x.t.f.toArray⟩, .int .i64 (x.t.o : Int), .int .i64 (x.t.fm : Int), .int .i64 x.t.lo, .int .i64 x.t.hi, .int .i64 x.t.ln, .string ⟨x.t.p.toArray⟩] 50 (0, 0)) := by rw [← hW2]; exact alloc_getZ _ _
  have k1 := keepZ b2 h1
  obtain ⟨i0, hi, hz0, hz1, hz2⟩ := info_parts info_nd
  obtain ⟨v', W3, hr, o3, g3, n3⟩ := appZ (TS := 25) (nb := W1.drew.heap.size) 25 Tryz.underlying25 hi hz0 hz1 hz2 rfl (by decide) (h2.below b2) (Nat.le_trans h3.size b2.size) (news := ndC x) rfl (World.news_of_block hnb) (fun u hu => by simp only [ndC, List.mem_cons, List.not_mem_nil, or_false] at hu; rcases hu with rfl | rfl | rfl | rfl | rfl | rfl | rfl | rfl <;> rfl) (by omega) (by decide)
  obtain ⟨q9, c9, hv9⟩ : ∃ q9 c9, v' = .slice q9 (out.length + 1) c9 := shapeZ o3
  subst hv9
  obtain ⟨n9, hn9⟩ : ∃ n9, out.length + 1 = n9 := ⟨_, rfl⟩
  rw [hn9] at hr o3 n3
  have hbk : W3.heap[b]? = W2.heap[b]? := g3.block b (lt_getZ k1) (fun e => own_box_ne (h2.below b2) k1 (by decide) e.symm)
  have k3 := hbk.trans k1
  have hc3 := (cellsZ k3).1
  have hf3 := (cellsZ k3).2 4
  have HFIN : Hid (ST w0 b pt ct L (W3.setCell ⟨b, 4, none⟩ (.slice q9 n9 c9)) i o m (out ++ [x])) := by
    refine ⟨⟨.slice q9 n9 c9, by rw [set_getZ _ k3]; simp, ?_⟩, (bel_grZ (bel0Z h3 b2) g3 (fun k e => (World.ownsRow.lt (h2.below b2) k e).1)).setCell hb _, h4⟩
    have o3' : OWN W3 w0.heap.size (.slice q9 n9 c9) (out ++ [x]) := by
      unfold OWN
      rw [nds_snoc, List.length_append, List.length_singleton, hn9]
      exact o3
    exact World.ownsRow.kept o3' (gr_setZ _ _ _ _) (.inr (own_box_ne o3' k3 (by decide)))
  have hs0 : W1.drew.heap[bn]? = some (.cells #[.int .i64 (x.k : Int), .string ⟨x.t.f.toArray⟩, .int .i64 (x.t.o : Int), .int .i64 (x.t.fm : Int), .int .i64 x.t.lo, .int .i64 x.t.hi, .int .i64 x.t.ln, .string ⟨x.t.p.toArray⟩] 50 (0, 0)) := hbx
  have hs2 : W2.heap[bn]? = some (.cells #[.int .i64 (x.k : Int), .string ⟨x.t.f.toArray⟩, .int .i64 (x.t.o : Int), .int .i64 (x.t.fm : Int), .int .i64 x.t.lo, .int .i64 x.t.hi, .int .i64 x.t.ln, .string ⟨x.t.p.toArray⟩] 50 (0, 0)) := keepZ b2 hbx
  have hc24 : W2.cell? ⟨b, 4, none⟩ = some vn := by rw [(cellsZ k1).1]; rfl
  have HR : Hid ((Builtin.append_ #[25, 25] 25 #[vn, .slice (some ⟨W1.drew.heap.size, 0, none⟩) 1 1]).run Tryz.prog W2 = .ok (.slice q9 n9 c9) W3) := hr
  have hs3 : W3.heap[bn]? = some (.cells #[.int .i64 (x.k : Int), .string ⟨x.t.f.toArray⟩, .int .i64 (x.t.o : Int), .int .i64 (x.t.fm : Int), .int .i64 x.t.lo, .int .i64 x.t.hi, .int .i64 x.t.ln, .string ⟨x.t.p.toArray⟩] 50 (0, 0)) := (g3.block bn (lt_getZ hs2) (fun e => hvb e.symm)).trans hs2
  have hs4 : (W3.setCell ⟨b, 4, none⟩ (.slice q9 n9 c9)).heap[bn]? = some (.cells #[.int .i64 (x.k : Int), .string ⟨x.t.f.toArray⟩, .int .i64 (x.t.o : Int), .int .i64 (x.t.fm : Int), .int .i64 x.t.lo, .int .i64 x.t.hi, .int .i64 x.t.ln, .string ⟨x.t.p.toArray⟩] 50 (0, 0)) := (heap_setCell_other W3 ⟨b, 4, none⟩ bn _ (fun e => by subst e; rw [k3] at hs3; injection hs3 with hs3; injection hs3 with _ hs3 _; cases hs3)).trans hs3
  have hc34 : W3.cell? ⟨b, 4, none⟩ = some vn := by rw [hc3]; rfl
  clear hn9 h1 h2 h3 h4 hr o3 g3 n3 hbk k1 k3 hnb b2 hi hz0 hz1 hz2 hc3
  go_enter Tryz.func52, Tryz.ntmps52
  go_wp2_with fail
  refine wp_region_held_drew (S := fun U => U.heap[bn]? = some (.cells #[.int .i64 (x.k : Int), .string ⟨x.t.f.toArray⟩, .int .i64 (x.t.o : Int), .int .i64 (x.t.fm : Int), .int .i64 x.t.lo, .int .i64 x.t.hi, .int .i64 x.t.ln, .string ⟨x.t.p.toArray⟩] 50 (0, 0))) (by kernel_rfl) hs0 (fun _ => ?_)
  refine wpAnyH_take (i := 0) (v := .pointer (some ⟨b, 0, none⟩)) rfl (by kernel_rfl) (by kernel_rfl) (by kernel_rfl) (fun _ _ _ h => h) (Or.inl ⟨by rfl, ?_⟩) hs0 ?_
  · rintro w s1; have q2 := s1; go_simp
  refine wpAnyH_take (i := 1) (v := .pointer (some ⟨b, 0, none⟩)) rfl (by kernel_rfl) (by kernel_rfl) (by kernel_rfl) (fun _ _ _ h => h) (Or.inl ⟨by rfl, ?_⟩) hs0 ?_
  · rintro w s1; have q2 := s1; go_simp
  refine wpAnyH_take (i := 2) (v := .pointer (some ⟨b, 0, none⟩)) rfl (by kernel_rfl) (by kernel_rfl) (by kernel_rfl) (fun _ _ _ h => h) (Or.inl ⟨by rfl, ?_⟩) hs0 ?_
  · rintro w s1; have q2 := s1; go_simp
  refine wpAnyH_take (i := 3) (v := .pointer (some ⟨b, 4, none⟩)) rfl (by kernel_rfl) (by kernel_rfl) (by kernel_rfl) (fun _ _ _ h => h) (Or.inl ⟨by rfl, ?_⟩) hs0 ?_
  · rintro w s1; have q2 := s1; go_simp
  refine wpAnyH_take (i := 5) (v := .agg #[.int .i64 (x.k : Int), .string ⟨x.t.f.toArray⟩, .int .i64 (x.t.o : Int), .int .i64 (x.t.fm : Int), .int .i64 x.t.lo, .int .i64 x.t.hi, .int .i64 x.t.ln, .string ⟨x.t.p.toArray⟩]) rfl (by kernel_rfl) (by kernel_rfl) (by kernel_rfl) (fun _ _ _ h => h) (Or.inl ⟨by rfl, ?_⟩) hs0 ?_
  · rintro w s1; have q2 := s1; have q3 := (cellsZ q2).1; go_simp
  refine wpAnyH_ready (rs := [4, 6]) (by kernel_rfl) (by simp) ?_
  refine AllReadyH.cons rfl (fun KK hKK => ?_) (AllReadyH.cons rfl (fun KK hKK => ?_) AllReadyH.nil)
  · go_simp
    refine hKK.out _ _ hs0 (fun _ => ?_)
    clear hKK KK
    refine wpAnyH_ready (rs := [6]) (by kernel_rfl) (by simp) ?_
    refine AllReadyH.cons rfl (fun KK hKK => ?_) AllReadyH.nil
    go_simp
    refine hKK.out _ _ hs2 (fun _ => ?_)
    clear hKK KK
    refine wpAnyH_ready (rs := [7]) (by kernel_rfl) (by simp) ?_
    refine AllReadyH.cons rfl (fun KK hKK => ?_) AllReadyH.nil
    refine step_run (by rfl) _ _ _ (by rfl) (by rfl) (by rfl) HR.out ?_
    refine hKK.out _ _ hs3 (fun _ => ?_)
    clear hKK KK
    refine wpAnyH_take (i := 8) (v := .pointer (some ⟨b, 0, none⟩)) rfl (by kernel_rfl) (by kernel_rfl) (by kernel_rfl) (fun _ _ _ h => h) (Or.inl ⟨by rfl, ?_⟩) hs3 ?_
    · rintro w s1; have q2 := s1; go_simp
    refine wpAnyH_take (i := 9) (v := .pointer (some ⟨b, 4, none⟩)) rfl (by kernel_rfl) (by kernel_rfl) (by kernel_rfl) (fun _ _ _ h => h) (Or.inl ⟨by rfl, ?_⟩) hs3 ?_
    · rintro w s1; have q2 := s1; go_simp
    refine wpAnyH_ready (rs := [10]) (by kernel_rfl) (by simp) ?_
    refine AllReadyH.cons rfl (fun KK hKK => ?_) AllReadyH.nil
    go_simp
    refine hKK.out _ _ hs4 (fun _ => ?_)
    clear hKK KK
    refine wpAnyH_done (by kernel_rfl) ?_ _
    go_wp2_with fail
    go_end0
    exact ⟨rfl, HFIN.out⟩
  · go_simp
    refine hKK.out _ _ hs2 (fun _ => ?_)
    clear hKK KK
    refine wpAnyH_ready (rs := [4]) (by kernel_rfl) (by simp) ?_
    refine AllReadyH.cons rfl (fun KK hKK => ?_) AllReadyH.nil
    go_simp
    refine hKK.out _ _ hs2 (fun _ => ?_)
    clear hKK KK
    refine wpAnyH_ready (rs := [7]) (by kernel_rfl) (by simp) ?_
    refine AllReadyH.cons rfl (fun KK hKK => ?_) AllReadyH.nil
    refine step_run (by rfl) _ _ _ (by rfl) (by rfl) (by rfl) HR.out ?_
    refine hKK.out _ _ hs3 (fun _ => ?_)
    clear hKK KK
    refine wpAnyH_take (i := 8) (v := .pointer (some ⟨b, 0, none⟩)) rfl (by kernel_rfl) (by kernel_rfl) (by kernel_rfl) (fun _ _ _ h => h) (Or.inl ⟨by rfl, ?_⟩) hs3 ?_
    · rintro w s1; have q2 := s1; go_simp
    refine wpAnyH_take (i := 9) (v := .pointer (some ⟨b, 4, none⟩)) rfl (by kernel_rfl) (by kernel_rfl) (by kernel_rfl) (fun _ _ _ h => h) (Or.inl ⟨by rfl, ?_⟩) hs3 ?_
    · rintro w s1; have q2 := s1; go_simp
    refine wpAnyH_ready (rs := [10]) (by kernel_rfl) (by simp) ?_
    refine AllReadyH.cons rfl (fun KK hKK => ?_) AllReadyH.nil
    go_simp
    refine hKK.out _ _ hs4 (fun _ => ?_)
    clear hKK KK
    refine wpAnyH_done (by kernel_rfl) ?_ _
    go_wp2_with fail
    go_end0
    exact ⟨rfl, HFIN.out⟩
end Go.Proofs.YtffgkjmfeannoaaGreatDoor.Ex

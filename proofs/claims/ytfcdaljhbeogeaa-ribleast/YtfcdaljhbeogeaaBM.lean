import Derived.Test.YtfcdaljhbeogeaaBL
import Derived.Deep.DeepCutAuto
import Derived.Deep.RegionLaw
import Derived.Deep.RegionHeld3
import Derived.OneCell
import Derived.Laws.Rows
import Derived.Laws.OwnMore
import Derived.Deep.AppendLies
namespace Go.Proofs.Ytfcdaljhbeogeaa
open Go.RowKit
def nv (x : Nat) : Value := .int .i64 (x : Int)
theorem rown_not {W : World} {B g n : Nat} {e e2 : TypeId} {sz : Nat} {v : Value} {xs : List Value} {cs : Array Value} {m : Nat × Nat} (h : W.ownsRow B e sz v n xs) (hk : W.heap[g]? = some (.cells cs e2 m)) (hne : e2 ≠ e) : v.ownBlock ≠ some g := by
  intro hb
  rcases h.2 with ⟨rfl, _⟩ | ⟨g2, c2, cur2, rfl, _, hg2, _⟩
  · cases hb
  · have : g2 = g := by injection hb
    subst this
    rw [hk] at hg2
    exact hne (by injection hg2 with hg2; injection hg2 with _ h2 _)
theorem own_take {W : World} {B g n c m : Nat} {e : TypeId} {xs : List Value} (h : W.ownsRow B e 1 (.slice (some ⟨g, 0, none⟩) n c) n xs) (hm : m ≤ n) : W.ownsRow B e 1 (.slice (some ⟨g, 0, none⟩) m c) m (xs.take m) := by
  rcases h.2 with ⟨h', _⟩ | ⟨g', cap', cur, h', hb, hg, hnc, hcm, hcs, htake⟩
  · cases h'
  · simp only [Value.slice.injEq, Option.some.injEq, Addr.mk.injEq, and_true, true_and] at h'
    obtain ⟨rfl, rfl⟩ := h'
    refine ⟨by rw [List.length_take, h.1]; omega, .inr ⟨g, c, cur, rfl, hb, hg, by omega, hcm, hcs, ?_⟩⟩
    rw [← htake, List.take_take]
    congr 1
    omega
/-- all but one block and the rows of numbers is as it was -/
def KP (hb : Nat) (W W' : World) : Prop := ∀ k cs t m, W.heap[k]? = some (.cells cs t m) → t ≠ 3 → k ≠ hb → W'.heap[k]? = W.heap[k]?
theorem KP.own {hb : Nat} {W W' : World} (h : KP hb W W') {B n : Nat} {e : TypeId} {sz : Nat} {v : Value} {xs : List Value} (ho : W.ownsRow B e sz v n xs) (he : e ≠ 3) (hn : v.ownBlock ≠ some hb) : W'.ownsRow B e sz v n xs := by
  refine ⟨ho.1, ?_⟩
  rcases ho.2 with hh | ⟨g, c, cur, rfl, hbg, hg, r⟩
  · exact .inl hh
  · exact .inr ⟨g, c, cur, rfl, hbg, (h g cur e _ hg he (fun x => hn (by rw [x]; rfl))).trans hg, r⟩
/-- where a heap lies -/
structure HX where
  w0 : World
  B : Nat
  hb : Nat
  ho : Nat
  cs : Array Value
  t : Nat
  K : Nat
  rv : Value
  I : World → Prop
/-- what does not change while it is used -/
structure HC (X : HX) : Prop where
  bs : X.B ≤ X.w0.heap.size
  bB : X.B ≤ X.hb
  i0 : X.ho < X.cs.size
  f1 : X.cs[X.ho + 1]? = some (.func (.func X.K) #[X.rv] #[])
  ty : X.t ≠ 3
  cf : ∀ (args : Array Value) (W : World), (callFunc X.K args).run Try.prog W = .ok (.enter X.K args) W
  iK : ∀ W W', X.I W → KP X.hb W W' → X.I W'
def hcel (X : HX) (v : Value) : Array Value := X.cs.setIfInBounds X.ho v
/-- its state -/
structure HS (X : HX) (W : World) (v : Value) (V : List Nat) : Prop where
  blk : W.heap[X.hb]? = some (.cells (hcel X v) X.t (0, 0))
  own : W.ownsRow X.B 3 1 v V.length (V.map nv)
  bel : Below X.B X.w0 W
  inv : X.I W
theorem HS.c0 {X : HX} (C : HC X) {W : World} {v : Value} {V : List Nat} (h : HS X W v V) : W.cell? ⟨X.hb, X.ho, none⟩ = some v := by
  rw [cell_of_row W X.hb _ _ _ _ h.blk]
  unfold hcel
  rw [Array.getElem?_setIfInBounds_self_of_lt C.i0]
theorem HS.c1 {X : HX} (C : HC X) {W : World} {v : Value} {V : List Nat} (h : HS X W v V) : W.cell? ⟨X.hb, X.ho + 1, none⟩ = some (.func (.func X.K) #[X.rv] #[]) := by
  rw [cell_of_row W X.hb _ _ _ _ h.blk]
  unfold hcel
  rw [Array.getElem?_setIfInBounds_ne (by omega)]
  exact C.f1
theorem HS.fz {X : HX} {W : World} {v : Value} {V : List Nat} (h : HS X W v V) (i : Nat) : W.frozen? ⟨X.hb, i, none⟩ = false := by
  have := h.blk
  simp [World.frozen?, this]
theorem HS.nb {X : HX} (C : HC X) {W : World} {v : Value} {V : List Nat} (h : HS X W v V) : v.ownBlock ≠ some X.hb := rown_not h.own h.blk C.ty
theorem HS.bw {X : HX} (C : HC X) {W : World} {v : Value} {V : List Nat} (h : HS X W v V) : X.B ≤ W.heap.size := Nat.le_trans C.bs h.bel.size
theorem HS.below {X : HX} (C : HC X) {W W' : World} {v : Value} {V : List Nat} (h : HS X W v V) (hb : Below W.heap.size W W') : HS X W' v V :=
  ⟨keepblk hb h.blk, owns_below h.own hb, h.bel.trans (hb.mono (h.bw C)), C.iK _ _ h.inv (fun k _ _ _ hk _ _ => hb.block k (lt_of_get hk))⟩
theorem HS.set {X : HX} (C : HC X) {W W1 : World} {v v' : Value} {V V' : List Nat} (h : HS X W v V) (hg : W.grownBy W1 v.ownBlock) (ho : W1.ownsRow X.B 3 1 v' V'.length (V'.map nv)) : HS X (W1.setCell ⟨X.hb, X.ho, none⟩ v') v' V' := by
  have hb1 : W1.heap[X.hb]? = some (.cells (hcel X v) X.t (0, 0)) := (hg.block _ (lt_of_get h.blk) (fun e => h.nb C e.symm)).trans h.blk
  refine ⟨?_, ownsRow_setCell_other ho (a := ⟨X.hb, X.ho, none⟩) (rown_not ho hb1 C.ty) v', ?_, ?_⟩
  · rw [heap_setCell_same W1 X.hb X.ho _ _ v' hb1]
    unfold hcel
    congr 2
    apply Array.ext_getElem?
    intro i
    simp only [Array.getElem?_setIfInBounds, Array.size_setIfInBounds]
    split <;> rfl
  · refine (h.bel.grown hg (h.bw C) (fun k e => (h.own.lt k e).1)).setCell (p := ⟨X.hb, X.ho, none⟩) C.bB v'
  · exact C.iK _ _ h.inv (fun k cs t m hk ht hne => (heap_setCell_other W1 ⟨X.hb, X.ho, none⟩ k v' hne).trans (hg.block k (lt_of_get hk) (fun e => rown_not h.own hk ht e.symm)))
theorem HS.put {X : HX} (C : HC X) {W : World} {g n c : Nat} {V V' : List Nat} (h : HS X W (.slice (some ⟨g, 0, none⟩) n c) V) (hn : V.length = n) (hn' : V'.length = n) (j : Nat) (u : Value) (hV : (V.map nv).set j u = V'.map nv) : HS X (W.setCell ⟨g, j, none⟩ u) (.slice (some ⟨g, 0, none⟩) n c) V' := by
  have ho := h.own
  rw [hn] at ho
  have hs := ho.stored j u
  have hne : X.hb ≠ g := fun e => h.nb C (by rw [e]; rfl)
  refine ⟨(heap_setCell_other W ⟨g, j, none⟩ X.hb u hne).trans h.blk, ?_, h.bel.grown hs.2 (h.bw C) (fun k e => (h.own.lt k e).1), C.iK _ _ h.inv (fun k cs t m hk ht _ => heap_setCell_other W ⟨g, j, none⟩ k u (fun e => rown_not h.own hk ht (by rw [e]; rfl)))⟩
  rw [hn', ← hV]
  exact hs.1
theorem nv_get {V : List Nat} {i x : Nat} (h : V[i]? = some x) : (V.map nv)[i]? = some (.int .i64 (x : Int)) := by rw [List.getElem?_map, h]; rfl
theorem HS.at {X : HX} {W : World} {g n c : Nat} {V : List Nat} (h : HS X W (.slice (some ⟨g, 0, none⟩) n c) V) (hn : V.length = n) {i x : Nat} (hi : V[i]? = some x) : W.cell? ⟨g, i, none⟩ = some (.int .i64 (x : Int)) := by
  have ho := h.own
  rw [hn] at ho
  have := (List.getElem?_eq_some_iff.1 hi).1
  exact (ho.cellAt i (by omega)).trans (nv_get hi)
theorem HS.gz {X : HX} {W : World} {g n c : Nat} {V : List Nat} (h : HS X W (.slice (some ⟨g, 0, none⟩) n c) V) (hn : V.length = n) (i : Nat) : W.frozen? ⟨g, i, none⟩ = false := by
  have ho := h.own
  rw [hn] at ho
  exact ho.frozenAt i
/-- the function that it holds tells the order -/
def FA (X : HX) (lt : Nat → Nat → Bool) (N : Nat) : Prop := ∀ (a b : Nat) (W : World), Below X.B X.w0 W → a < N → b < N → Calls Try.prog X.K #[X.rv, .int .i64 (a : Int), .int .i64 (b : Int)] W fun e w' => e = .returned (.bool (lt a b)) ∧ Below W.heap.size W w'
set_option maxRecDepth 100000 in
theorem hempty_any {X : HX} (C : HC X) {W : World} {v : Value} {V : List Nat} (h : HS X W v V) : Calls Try.prog 48 #[.pointer (some ⟨X.hb, X.ho, none⟩)] W fun e w' => e = .returned (.bool (decide (V.length = 0))) ∧ w' = W := by
  have hc := h.c0 C
  obtain ⟨q, c, rfl⟩ := shapeP h.own
  clear h
  by_cases h0 : V.length = 0
  · rw [decide_eq_true h0]
    rw [h0] at hc
    go_enter Try.func48, Try.ntmps48
    go_wp2_with fail
    go_ret
    exact ⟨rfl, rfl⟩
  · rw [decide_eq_false h0]
    have e1 : ((V.length : Int) == 0) = false := beq_eq_false_iff_ne.2 (by omega)
    go_enter Try.func48, Try.ntmps48
    go_wp2_with fail
    go_ret
    exact ⟨rfl, rfl⟩
end Go.Proofs.Ytfcdaljhbeogeaa

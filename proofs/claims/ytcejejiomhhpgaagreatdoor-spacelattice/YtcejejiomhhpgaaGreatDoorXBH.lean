import Derived.Test.YtcejejiomhhpgaaGreatDoorXBF
import Derived.Test.YtcejejiomhhpgaaGreatDoorXBG
namespace Go.Proofs.YtcejejiomhhpgaaGreatDoor
open Go.RowKit Go.Shelf
def DPS (w w' : World) (b : Int) (l : List UInt8) (e : Ending) : Prop := ∃ V, e = .returned (.tuple #[.agg #[.int .i64 (prB b l), V], .int .i64 (prE b l)]) ∧ RSR w' V (prT b l) ∧ Below w.heap.size w w'
theorem DPS_no {w w' : World} {b : Int} {l : List UInt8} {c : Int} (h : prE b l = c) (hc : c ≠ 0) (hb : Below w.heap.size w w') : DPS w w' b l (.returned (.tuple #[.agg #[.int .i64 0, .slice none 0 0], .int .i64 c])) := by
  have h1 : prE b l ≠ 0 := by rw [h]; exact hc
  refine ⟨.slice none 0 0, ?_, ?_, hb⟩
  · unfold prB
    rw [if_neg h1, h]
  · unfold prT
    rw [if_neg h1]
    exact RSR_nil _
theorem tcon_len (p : List UInt8) : (prts 45 p).length = 1 + (tcon p).2.length := by
  have := prts_ne 45 p
  unfold tcon
  rw [List.length_tail]
  omega
theorem tcon_step {P : List (List UInt8)} {i : Nat} {p : List UInt8} (h : P[i]? = some p) : szC ((P.take (i + 1)).map tcon) = szC ((P.take i).map tcon) + (prts 45 p).length := by
  rw [List.take_add_one, h, List.map_append, szC_append, tcon_len]
  simp [szC]
theorem okP_cub (b : Nat) (q : List UInt8) : okP b q = (cubB q && (q.length == b)) := by
  unfold okP
  congr 1
  rw [Bool.eq_iff_iff, cubB_iff, decide_eq_true_eq, refP_zero]
theorem all_upto {α : Type} {L : List α} {p : α → Bool} {n : Nat} (hn : L.length ≤ n) (h : ∀ j t, j < n → L[j]? = some t → p t = true) : L.all p = true := by
  rw [List.all_eq_true]
  intro t ht
  obtain ⟨j, hj, he⟩ := List.getElem_of_mem ht
  exact h j t (by omega) (by rw [List.getElem?_eq_getElem hj, he])
theorem far_cell {W X : World} {b : Nat} {x y u : Value} {i : Int} {q : Option Addr} {n c : Nat} {T : TypeId} {fr : Nat × Nat} {g o : Nat} {t : ByteArray} (hb : W.heap[b]? = some (.cells #[.int .i64 i, .slice q n c] T fr)) (hs : ∃ o', W.cell? ⟨g, o', none⟩ = some (.string t)) (hX : Below ((W.setCell ⟨b, 0, none⟩ x).setCell ⟨b, 1, none⟩ y).heap.size ((W.setCell ⟨b, 0, none⟩ x).setCell ⟨b, 1, none⟩ y) X) (hc : W.cell? ⟨g, o, none⟩ = some u) : X.cell? ⟨g, o, none⟩ = some u := by
  have hne : g ≠ b := fun e => by
    subst e
    obtain ⟨o', h⟩ := hs
    unfold World.cell? at h
    rw [hb] at h
    match o', h with
    | 0, h => simp at h
    | 1, h => simp at h
    | k + 2, h => simp at h
  have hg := World.block_lt_of_cell? W _ hc
  have e0 : ((W.setCell ⟨b, 0, none⟩ x).setCell ⟨b, 1, none⟩ y).heap[g]? = W.heap[g]? := (heap_setCell_other _ ⟨b, 1, none⟩ g y (fun e => hne e)).trans (heap_setCell_other _ ⟨b, 0, none⟩ g x (fun e => hne e))
  have e1 : X.heap[g]? = W.heap[g]? := (hX.block g (by simp; exact hg)).trans e0
  rw [World.cell?_of_block (a := ⟨g, o, none⟩) e1]
  exact hc
theorem RSR_store {W : World} {b : Nat} {x y V : Value} {i : Int} {q : Option Addr} {n c : Nat} {T : TypeId} {fr : Nat × Nat} {Ts : List (List UInt8 × List (List UInt8))} (hb : W.heap[b]? = some (.cells #[.int .i64 i, .slice q n c] T fr)) (h : RSR W V Ts) : RSR ((W.setCell ⟨b, 0, none⟩ x).setCell ⟨b, 1, none⟩ y) V Ts := by
  obtain ⟨Z, p, cp, h1, h2, h3, h4⟩ := h
  refine ⟨Z, p, cp, h1, h2, fun X hX k z hz => ?_, fun z hz X hX k t ht => ?_⟩
  · obtain ⟨g, o0, e, c0, c1⟩ := h3 W (Below.refl _ _) k z hz
    exact ⟨g, o0, e, far_cell hb ⟨_, c0⟩ hX c0, far_cell hb ⟨_, c0⟩ hX c1⟩
  · obtain ⟨g, o0, e, c0⟩ := h4 z hz W (Below.refl _ _) k t ht
    exact ⟨g, o0, e, far_cell hb ⟨_, c0⟩ hX c0⟩
theorem own_other {W X : World} {B n sz B' n' sz' : Nat} {e e' : TypeId} {v v' : Value} {xs xs' : List Value} (h : W.ownsRow B e sz v n xs) (h' : W.ownsRow B' e' sz' v' n' xs') (hne : e ≠ e') (hg : W.grownBy X v'.ownBlock) : X.ownsRow B e sz v n xs := by
  refine ⟨h.1, ?_⟩
  rcases h.2 with h1 | ⟨g, cap, cur, h1, h2, h3, h4⟩
  · exact .inl h1
  · refine .inr ⟨g, cap, cur, h1, h2, (hg.block g (lt_of_get3 h3) (fun e2 => ?_)).trans h3, h4⟩
    rcases own_shapeQ h' with ⟨rfl, -⟩ | ⟨g', c', rfl, -, -, cur', h5⟩
    · cases e2
    · have e3 : g = g' := Option.some.inj e2
      subst e3
      rw [h3] at h5
      injection h5 with h5
      injection h5 with _ h6 _
      exact hne h6
end Go.Proofs.YtcejejiomhhpgaaGreatDoor

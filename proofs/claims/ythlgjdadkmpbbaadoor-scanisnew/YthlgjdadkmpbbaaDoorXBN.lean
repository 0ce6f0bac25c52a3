import Derived.Test.YthlgjdadkmpbbaaDoorXBM
namespace Go.Proofs.YthlgjdadkmpbbaaDoor
open Go.RowKit
/-- a token as numbers -/
def tI (t : Tok) : ITok := ((t.1 : Int), t.2.1, (t.2.2.1 : Int), (t.2.2.2 : Int))
theorem tcels_i (D : List Tok) : tcels D = iels (D.map tI) := by
  induction D with
  | nil => rfl
  | cons t D ih =>
    show tcel t ++ tcels D = icel (tI t) ++ iels (D.map tI)
    rw [ih]
    rfl
/-- a value's block is not the one that is written -/
def offN (row : Option Nat) (v : Value) : Prop := v.ownBlock = none ∨ v.ownBlock ≠ row
/-- two values have no block in common -/
def disN (x y : Value) : Prop := ∀ b, x.ownBlock = some b → y.ownBlock ≠ some b
theorem disN.symm {x y : Value} (h : disN x y) : disN y x := fun b hb e => h b e hb
theorem offN_dis {x y : Value} (h : disN x y) : offN x.ownBlock y := by
  cases hx : x.ownBlock with
  | none => cases hy : y.ownBlock with
    | none => exact .inl hy
    | some b => exact .inr (by rw [hy]; intro e; cases e)
  | some b => exact .inr (h b hx)
theorem own_neN {W : World} {B1 B2 : Nat} {e1 e2 : TypeId} {s1 s2 n1 n2 : Nat} {a v : Value} {xs ys : List Value} (h1 : W.ownsRow B1 e1 s1 a n1 xs) (h2 : W.ownsRow B2 e2 s2 v n2 ys) (hne : e1 ≠ e2) : offN v.ownBlock a := by
  rcases h1.2 with ⟨rfl, _⟩ | ⟨g, c, cur, rfl, _, hg, _⟩
  · exact .inl rfl
  · refine .inr (fun e => ?_)
    rcases h2.2 with ⟨rfl, _⟩ | ⟨g2, c2, cur2, rfl, _, hg2, _⟩
    · cases e
    · have : g = g2 := by injection e
      subst this
      rw [hg] at hg2
      injection hg2 with h
      injection h with _ h _
      exact hne h
theorem disN_new {W X : World} {B n m B2 : Nat} {e1 e2 : TypeId} {s1 s2 : Nat} {x y : Value} {xs ys : List Value} (hy : X.ownsRow B e1 s1 y n xs) (hx : W.ownsRow B2 e2 s2 x m ys) (hB : W.heap.size ≤ B) : disN x y := by
  intro b hb e
  have h1 := (hx.lt b hb).2
  have h2 := (hy.lt b e).1
  omega
/-- a row of tokens that is owned -/
def TR (W : World) (h : Value × List ITok) : Prop := ∃ B, W.ownsRow B 29 4 h.1 h.2.length (iels h.2)
theorem TR.below {W X : World} {h : Value × List ITok} (k : TR W h) (hb : Below W.heap.size W X) : TR X h := by
  obtain ⟨B, o⟩ := k
  exact ⟨B, owns_below o hb⟩
theorem TR.kept {W X : World} {row : Option Nat} {h : Value × List ITok} (k : TR W h) (hg : W.grownBy X row) (ho : offN row h.1) : TR X h := by
  obtain ⟨B, o⟩ := k
  exact ⟨B, o.kept hg ho⟩
theorem TR.lt {W : World} {h : Value × List ITok} (k : TR W h) : ∀ b, h.1.ownBlock = some b → b < W.heap.size := fun b e => by
  obtain ⟨B, o⟩ := k
  exact (o.lt b e).2
theorem bel_grownN {w W X : World} {row : Option Nat} (h : Below w.heap.size w W) (hg : W.grownBy X row) (hr : ∀ k, row = some k → w.heap.size ≤ k) : Below w.heap.size w X :=
  h.grown hg h.size hr
/-- what stands: the lists, their copies, and where they lie -/
structure ISt (w W : World) (H Q : List (Value × List ITok)) (lv wv : Value) : Prop where
  lo : W.ownsRow w.heap.size 23 1 lv H.length (H.map (·.1))
  wo : W.ownsRow w.heap.size 23 1 wv Q.length (Q.map (·.1))
  lw : disN lv wv
  hk : ∀ h ∈ H, TR W h
  hb : ∀ h ∈ H, ∀ k, h.1.ownBlock = some k → w.heap.size ≤ k
  qk : ∀ q ∈ Q, TR W q
  pw : (H.map (·.1)).Pairwise disN
  hq : ∀ h ∈ H, ∀ q ∈ Q, disN h.1 q.1
  be : Below w.heap.size w W
theorem ISt.start (w W : World) (h : Below w.heap.size w W) : ISt w W [] [] (.slice none 0 0) (.slice none 0 0) :=
  ⟨World.ownsRow_nil _ _ _ _, World.ownsRow_nil _ _ _ _, fun b hb => (by cases hb), fun y hy => (by cases hy), fun y hy => (by cases hy), fun y hy => (by cases hy), List.Pairwise.nil, fun y hy => (by cases hy), h⟩
theorem ISt.below {w W X : World} {H Q : List (Value × List ITok)} {lv wv : Value} (h : ISt w W H Q lv wv) (hb : Below W.heap.size W X) : ISt w X H Q lv wv :=
  ⟨owns_below h.lo hb, owns_below h.wo hb, h.lw, fun x hx => (h.hk x hx).below hb, h.hb, fun x hx => (h.qk x hx).below hb, h.pw, h.hq, bel0 h.be hb⟩
/-- a row of another type than the tokens' is written: the rows of tokens stand -/
theorem ISt.rows {w W X : World} {H Q : List (Value × List ITok)} {lv wv : Value} (h : ISt w W H Q lv wv) {B n s : Nat} {e : TypeId} {v : Value} {xs : List Value} (hv : W.ownsRow B e s v n xs) (he : 29 ≠ e) (hg : W.grownBy X v.ownBlock) : (∀ x ∈ H, TR X x) ∧ ∀ x ∈ Q, TR X x := by
  refine ⟨fun x hx => ?_, fun x hx => ?_⟩
  · obtain ⟨B, o⟩ := h.hk x hx
    exact ⟨B, o.kept hg (own_neN o hv he)⟩
  · obtain ⟨B, o⟩ := h.qk x hx
    exact ⟨B, o.kept hg (own_neN o hv he)⟩
/-- the lists get one more -/
theorem ISt.list {w W X : World} {H Q : List (Value × List ITok)} {lv wv : Value} {N : Value × List ITok} {g c : Nat} (h : ISt w W H Q lv wv)
    (ho : X.ownsRow w.heap.size 23 1 (.slice (some ⟨g, 0, none⟩) (H.length + 1) c) (H.length + 1) (H.map (·.1) ++ [N.1])) (hg : W.grownBy X lv.ownBlock) (hl : lv.ownBlock = some g ∨ W.heap.size ≤ g)
    (hN : TR W N) (hB : ∀ k, N.1.ownBlock = some k → w.heap.size ≤ k) (hx : ∀ x ∈ H, disN x.1 N.1) (hy : ∀ q ∈ Q, disN N.1 q.1) :
    ISt w X (H ++ [N]) Q (.slice (some ⟨g, 0, none⟩) (H.length + 1) c) wv := by
  obtain ⟨l1, l2⟩ := h.rows h.lo (by decide) hg
  refine ⟨by rw [List.length_append, List.map_append]; exact ho, h.wo.kept hg (offN_dis h.lw), ?_, ?_, ?_, l2, ?_, ?_, bel_grownN h.be hg (fun k e => (h.lo.lt k e).1)⟩
  · intro b hb e
    have hb' : g = b := by injection hb
    subst hb'
    rcases hl with hl | hl
    · exact h.lw g hl e
    · have := (h.wo.lt g e).2; omega
  · intro x hx'
    rcases List.mem_append.1 hx' with hx' | hx'
    · exact l1 x hx'
    · obtain rfl := List.mem_singleton.1 hx'
      obtain ⟨B, o⟩ := hN
      exact ⟨B, o.kept hg (own_neN o h.lo (by decide))⟩
  · intro x hx'
    rcases List.mem_append.1 hx' with hx' | hx'
    · exact h.hb x hx'
    · obtain rfl := List.mem_singleton.1 hx'
      exact hB
  · rw [List.map_append, List.pairwise_append]
    refine ⟨h.pw, by simp, fun a ha b hb => ?_⟩
    obtain ⟨x, hx', rfl⟩ := List.mem_map.1 ha
    have : b = N.1 := by simpa using hb
    subst this
    exact hx x hx'
  · intro x hx' q hq
    rcases List.mem_append.1 hx' with hx' | hx'
    · exact h.hq x hx' q hq
    · obtain rfl := List.mem_singleton.1 hx'
      exact hy q hq
/-- the copies get one more -/
theorem ISt.was {w W X : World} {H Q : List (Value × List ITok)} {lv wv : Value} {N : Value × List ITok} {g c : Nat} (h : ISt w W H Q lv wv)
    (ho : X.ownsRow w.heap.size 23 1 (.slice (some ⟨g, 0, none⟩) (Q.length + 1) c) (Q.length + 1) (Q.map (·.1) ++ [N.1])) (hg : W.grownBy X wv.ownBlock) (hl : wv.ownBlock = some g ∨ W.heap.size ≤ g)
    (hN : TR W N) (hx : ∀ x ∈ H, disN x.1 N.1) :
    ISt w X H (Q ++ [N]) lv (.slice (some ⟨g, 0, none⟩) (Q.length + 1) c) := by
  obtain ⟨l1, l2⟩ := h.rows h.wo (by decide) hg
  refine ⟨h.lo.kept hg (offN_dis h.lw.symm), by rw [List.length_append, List.map_append]; exact ho, ?_, l1, h.hb, ?_, h.pw, ?_, bel_grownN h.be hg (fun k e => (h.wo.lt k e).1)⟩
  · intro b hb e
    have hb' : g = b := by injection e
    subst hb'
    rcases hl with hl | hl
    · exact h.lw g hb hl
    · have := (h.lo.lt g hb).2; omega
  · intro x hx'
    rcases List.mem_append.1 hx' with hx' | hx'
    · exact l2 x hx'
    · obtain rfl := List.mem_singleton.1 hx'
      obtain ⟨B, o⟩ := hN
      exact ⟨B, o.kept hg (own_neN o h.wo (by decide))⟩
  · intro x hx' q hq
    rcases List.mem_append.1 hq with hq | hq
    · exact h.hq x hx' q hq
    · obtain rfl := List.mem_singleton.1 hq
      exact hx x hx'
theorem pw_at {H : List (Value × List ITok)} (h : (H.map (·.1)).Pairwise disN) {i j : Nat} {x y : Value × List ITok} (hi : H[i]? = some x) (hj : H[j]? = some y) (hne : i ≠ j) : disN x.1 y.1 := by
  have e1 : (H.map (·.1))[i]? = some x.1 := by rw [List.getElem?_map, hi]; rfl
  have e2 : (H.map (·.1))[j]? = some y.1 := by rw [List.getElem?_map, hj]; rfl
  obtain ⟨l1, e1⟩ := List.getElem?_eq_some_iff.1 e1
  obtain ⟨l2, e2⟩ := List.getElem?_eq_some_iff.1 e2
  rcases Nat.lt_or_gt_of_ne hne with g | g
  · have := List.pairwise_iff_getElem.1 h i j l1 l2 g
    rw [e1, e2] at this
    exact this
  · have := List.pairwise_iff_getElem.1 h j i l2 l1 g
    rw [e1, e2] at this
    exact this.symm
theorem map_set_same {H : List (Value × List ITok)} {i : Nat} {v : Value} {T T' : List ITok} (hi : H[i]? = some (v, T)) : (H.set i (v, T')).map (·.1) = H.map (·.1) := by
  apply List.ext_getElem?
  intro j
  rw [List.getElem?_map, List.getElem?_map, List.getElem?_set]
  split
  · rename_i e
    subst e
    rw [hi]
    split
    · rfl
    · rename_i hl
      exact absurd (List.getElem?_eq_some_iff.1 hi).1 hl
  · rfl
/-- one of the lists is written -/
theorem ISt.write {w W X : World} {H Q : List (Value × List ITok)} {lv wv : Value} {i : Nat} {v : Value} {T T' : List ITok} (h : ISt w W H Q lv wv) (hi : H[i]? = some (v, T)) (hg : W.grownBy X v.ownBlock) (ho : TR X (v, T')) :
    ISt w X (H.set i (v, T')) Q lv wv := by
  have hm := List.mem_of_getElem? hi
  obtain ⟨Bv, ov⟩ := h.hk _ hm
  have e1 := map_set_same (T' := T') hi
  refine ⟨by rw [List.length_set, e1]; exact h.lo.kept hg (own_neN h.lo ov (by decide)), h.wo.kept hg (own_neN h.wo ov (by decide)), h.lw, ?_, ?_, fun q hq => (h.qk q hq).kept hg (offN_dis (h.hq _ hm q hq)), by rw [e1]; exact h.pw, ?_, bel_grownN h.be hg (h.hb _ hm)⟩
  · intro x hx
    obtain ⟨j, hj⟩ := List.getElem?_of_mem hx
    rw [List.getElem?_set] at hj
    split at hj
    · split at hj
      · cases hj; exact ho
      · cases hj
    · rename_i hne
      exact (h.hk x (List.mem_of_getElem? hj)).kept hg (offN_dis (pw_at h.pw hi hj hne))
  · intro x hx k hk
    obtain ⟨j, hj⟩ := List.getElem?_of_mem hx
    rw [List.getElem?_set] at hj
    split at hj
    · split at hj
      · cases hj; exact h.hb _ hm k hk
      · cases hj
    · exact h.hb x (List.mem_of_getElem? hj) k hk
  · intro x hx q hq
    obtain ⟨j, hj⟩ := List.getElem?_of_mem hx
    rw [List.getElem?_set] at hj
    split at hj
    · split at hj
      · cases hj; exact h.hq _ hm q hq
      · cases hj
    · exact h.hq x (List.mem_of_getElem? hj) q hq
end Go.Proofs.YthlgjdadkmpbbaaDoor

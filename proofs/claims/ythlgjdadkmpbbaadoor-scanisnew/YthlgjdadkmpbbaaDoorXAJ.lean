import Derived.Test.YthlgjdadkmpbbaaDoorXAI
import Derived.OneCell
import Derived.Laws.Rows
namespace Go.Proofs.YthlgjdadkmpbbaaDoor
open Go.RowKit Go.Shelf
theorem own_not {W : World} {B g n : Nat} {e e2 : TypeId} {sz : Nat} {v : Value} {xs : List Value} {cs : Array Value} {m : Nat × Nat} (h : W.ownsRow B e sz v n xs) (hk : W.heap[g]? = some (.cells cs e2 m)) (hne : e ≠ e2) : v.ownBlock ≠ some g := by
  intro hb
  rcases h.2 with ⟨rfl, _⟩ | ⟨g2, c2, cur2, rfl, _, hg2, _⟩
  · cases hb
  · have : g2 = g := by injection hb
    subst this
    rw [hk] at hg2
    exact hne (by injection hg2 with hg2; injection hg2 with _ h2 _; exact h2.symm)
/-- a token: its kind, text, line, column -/
abbrev Tok := Nat × List UInt8 × Nat × Nat
def tcel (t : Tok) : List Value := [.int .i64 (t.1 : Int), .string ⟨t.2.1.toArray⟩, .int .i64 (t.2.2.1 : Int), .int .i64 (t.2.2.2 : Int)]
def tcels (L : List Tok) : List Value := L.flatMap tcel
theorem tcels_snoc (L : List Tok) (t : Tok) : tcels (L ++ [t]) = tcels L ++ tcel t := by simp [tcels]
theorem info_tok : (Tryd.prog.info? 29).map (fun i => (i.zero, i.size, i.bytes)) = some (some (.agg #[.int .i64 0, .string ⟨#[]⟩, .int .i64 0, .int .i64 0]), 4, 40) := by kernel_rfl
/-- the signs, the longer ones first -/
abbrev signsL : List (List UInt8) := [[33, 61], [60, 61], [62, 61], [46, 46], [45, 62], [40], [41], [33], [61], [60], [62], [38], [124], [44], [58], [47]]
abbrev signsC : Array Value := #[.string ⟨#[33, 61]⟩, .string ⟨#[60, 61]⟩, .string ⟨#[62, 61]⟩, .string ⟨#[46, 46]⟩, .string ⟨#[45, 62]⟩, .string ⟨#[40]⟩, .string ⟨#[41]⟩, .string ⟨#[33]⟩, .string ⟨#[61]⟩, .string ⟨#[60]⟩, .string ⟨#[62]⟩, .string ⟨#[38]⟩, .string ⟨#[124]⟩, .string ⟨#[44]⟩, .string ⟨#[58]⟩, .string ⟨#[47]⟩]
/-- the table of the signs lies there -/
def SG (w : World) : Prop := ∃ t fr, w.heap[0]? = some (.cells signsC t fr)
theorem SG.below {w W : World} (h : SG w) (hb : Below w.heap.size w W) : SG W := by
  obtain ⟨t, fr, h⟩ := h
  exact ⟨t, fr, (hb.block _ (lt_of_get h)).trans h⟩
theorem SG.cell {w : World} (h : SG w) (j : Nat) : w.cell? ⟨0, j, none⟩ = signsC[j]? := by
  obtain ⟨t, fr, h⟩ := h
  exact cell_of_row w _ j _ _ _ h
/-- where the machine lies -/
structure MX where
  w0 : World
  l : List UInt8
  b : Nat
  g : Nat
  cap : Nat
  gc : Array Value
  gf : Nat × Nat
/-- what does not change while it runs -/
structure MC (X : MX) : Prop where
  gcc : ∀ k c, (chars X.l 0)[k]? = some c → X.gc[k * 2]? = some (.int .i32 c.1) ∧ X.gc[k * 2 + 1]? = some (.int .i64 (c.2 : Int))
  bB : X.w0.heap.size ≤ X.b
  capN : (chars X.l 0).length ≤ X.cap
  len : X.l.length ≤ 16384
  sh : SH X.w0
  sg : SG X.w0
def mcells (X : MX) (now fst line head : Nat) (v : Value) : Array Value := #[.string ⟨X.l.toArray⟩, .slice (some ⟨X.g, 0, none⟩) (chars X.l 0).length X.cap, .int .i64 (now : Int), .int .i64 (fst : Int), .int .i64 (line : Int), .int .i64 (head : Int), v]
/-- the machine's state -/
structure MS (X : MX) (W : World) (now fst line head : Nat) (v : Value) (D : List Tok) : Prop where
  blk : W.heap[X.b]? = some (.cells (mcells X now fst line head v) 38 (0, 0))
  gk : W.heap[X.g]? = some (.cells X.gc 43 X.gf)
  own : W.ownsRow X.w0.heap.size 29 4 v D.length (tcels D)
  bel : Below X.w0.heap.size X.w0 W
theorem MS.bg {X : MX} {W : World} {now fst line head : Nat} {v : Value} {D : List Tok} (h : MS X W now fst line head v D) : X.g ≠ X.b := fun e => by
  have h1 := h.blk
  have h2 := h.gk
  rw [e] at h2
  rw [h1] at h2
  injection h2 with h2
  injection h2 with _ h3 _
  exact absurd h3 (by decide)
theorem MS.below {X : MX} {W W' : World} {now fst line head : Nat} {v : Value} {D : List Tok} (h : MS X W now fst line head v D) (hb : Below W.heap.size W W') : MS X W' now fst line head v D :=
  ⟨keepblk hb h.blk, keepblk hb h.gk, own_below h.own hb, bel0 h.bel hb⟩
theorem MS.drewN {X : MX} {W : World} {now fst line head : Nat} {v : Value} {D : List Tok} (h : MS X W now fst line head v D) (n : Nat) : MS X (W.drewN n) now fst line head v D :=
  h.below (bel_drewN n (Below.refl _ _))
theorem MS.drew {X : MX} {W : World} {now fst line head : Nat} {v : Value} {D : List Tok} (h : MS X W now fst line head v D) : MS X W.drew now fst line head v D :=
  h.below (Below.refl _ _).drew
theorem MS.alloc {X : MX} {W : World} {now fst line head : Nat} {v : Value} {D : List Tok} (h : MS X W now fst line head v D) (o : Obj) : MS X (W.alloc o) now fst line head v D :=
  h.below ((Below.refl _ _).alloc (Nat.le_refl _) _)
theorem MS.set {X : MX} (hC : MC X) {W : World} {now fst line head now' fst' line' head' : Nat} {v : Value} {D : List Tok} (h : MS X W now fst line head v D) (i : Nat) (u : Value) (hc : (mcells X now fst line head v).setIfInBounds i u = mcells X now' fst' line' head' v) : MS X (W.setCell ⟨X.b, i, none⟩ u) now' fst' line' head' v D :=
  ⟨by rw [heap_setCell_same W X.b i _ _ u h.blk, hc], (heap_setCell_other W ⟨X.b, i, none⟩ X.g u h.bg).trans h.gk, ownsRow_setCell_other h.own (a := ⟨X.b, i, none⟩) (own_not h.own h.blk (by decide)) u, h.bel.setCell (p := ⟨X.b, i, none⟩) hC.bB u⟩
theorem MS.setNow {X : MX} (hC : MC X) {W : World} {now fst line head : Nat} {v : Value} {D : List Tok} (h : MS X W now fst line head v D) (n : Nat) {z : Int} (hz : z = (n : Int)) : MS X (W.setCell ⟨X.b, 2, none⟩ (.int .i64 z)) n fst line head v D := h.set hC 2 _ (by rw [hz]; rfl)
theorem MS.setFst {X : MX} (hC : MC X) {W : World} {now fst line head : Nat} {v : Value} {D : List Tok} (h : MS X W now fst line head v D) (n : Nat) {z : Int} (hz : z = (n : Int)) : MS X (W.setCell ⟨X.b, 3, none⟩ (.int .i64 z)) now n line head v D := h.set hC 3 _ (by rw [hz]; rfl)
theorem MS.setLine {X : MX} (hC : MC X) {W : World} {now fst line head : Nat} {v : Value} {D : List Tok} (h : MS X W now fst line head v D) (n : Nat) {z : Int} (hz : z = (n : Int)) : MS X (W.setCell ⟨X.b, 4, none⟩ (.int .i64 z)) now fst n head v D := h.set hC 4 _ (by rw [hz]; rfl)
theorem MS.setHead {X : MX} (hC : MC X) {W : World} {now fst line head : Nat} {v : Value} {D : List Tok} (h : MS X W now fst line head v D) (n : Nat) {z : Int} (hz : z = (n : Int)) : MS X (W.setCell ⟨X.b, 5, none⟩ (.int .i64 z)) now fst line n v D := h.set hC 5 _ (by rw [hz]; rfl)
theorem MS.c {X : MX} {W : World} {now fst line head : Nat} {v : Value} {D : List Tok} (h : MS X W now fst line head v D) (i : Nat) : W.cell? ⟨X.b, i, none⟩ = (mcells X now fst line head v)[i]? := cell_of_row W X.b i _ _ _ h.blk
theorem MS.c0 {X : MX} {W : World} {now fst line head : Nat} {v : Value} {D : List Tok} (h : MS X W now fst line head v D) : W.cell? ⟨X.b, 0, none⟩ = some (.string ⟨X.l.toArray⟩) := h.c 0
theorem MS.c1 {X : MX} {W : World} {now fst line head : Nat} {v : Value} {D : List Tok} (h : MS X W now fst line head v D) : W.cell? ⟨X.b, 1, none⟩ = some (.slice (some ⟨X.g, 0, none⟩) (chars X.l 0).length X.cap) := h.c 1
theorem MS.c2 {X : MX} {W : World} {now fst line head : Nat} {v : Value} {D : List Tok} (h : MS X W now fst line head v D) : W.cell? ⟨X.b, 2, none⟩ = some (.int .i64 (now : Int)) := h.c 2
theorem MS.c3 {X : MX} {W : World} {now fst line head : Nat} {v : Value} {D : List Tok} (h : MS X W now fst line head v D) : W.cell? ⟨X.b, 3, none⟩ = some (.int .i64 (fst : Int)) := h.c 3
theorem MS.c4 {X : MX} {W : World} {now fst line head : Nat} {v : Value} {D : List Tok} (h : MS X W now fst line head v D) : W.cell? ⟨X.b, 4, none⟩ = some (.int .i64 (line : Int)) := h.c 4
theorem MS.c5 {X : MX} {W : World} {now fst line head : Nat} {v : Value} {D : List Tok} (h : MS X W now fst line head v D) : W.cell? ⟨X.b, 5, none⟩ = some (.int .i64 (head : Int)) := h.c 5
theorem MS.c6 {X : MX} {W : World} {now fst line head : Nat} {v : Value} {D : List Tok} (h : MS X W now fst line head v D) : W.cell? ⟨X.b, 6, none⟩ = some v := h.c 6
theorem MS.fz {X : MX} {W : World} {now fst line head : Nat} {v : Value} {D : List Tok} (h : MS X W now fst line head v D) (i : Nat) : W.frozen? ⟨X.b, i, none⟩ = false := by
  have := h.blk
  simp [World.frozen?, this]
/-- the machine looks at the byte j -/
def AT (l : List UInt8) (now j : Nat) : Prop := (chars l 0).drop now = chars l j
theorem MS.cr {X : MX} (hC : MC X) {W : World} {now fst line head : Nat} {v : Value} {D : List Tok} (h : MS X W now fst line head v D) {k j : Nat} (hj : AT X.l k j) : W.cell? ⟨X.g, k * 2, none⟩ = some (.int .i32 (chr X.l j)) :=
  (cell_of_row W X.g _ _ _ _ h.gk).trans (hC.gcc k _ (drop_get hj)).1
theorem MS.ca {X : MX} (hC : MC X) {W : World} {now fst line head : Nat} {v : Value} {D : List Tok} (h : MS X W now fst line head v D) {k j : Nat} (hj : AT X.l k j) (hl : j ≤ X.l.length) : W.cell? ⟨X.g, k * 2 + 1, none⟩ = some (.int .i64 (j : Int)) := by
  have := (cell_of_row W X.g (k * 2 + 1) _ _ _ h.gk).trans (hC.gcc k _ (drop_get hj)).2
  rw [this]
  simp only
  split
  · rfl
  · have : j = X.l.length := by omega
    rw [this]
theorem AT.lt {l : List UInt8} {now j : Nat} (h : AT l now j) : now < (chars l 0).length := drop_lt h
theorem AT.le {l : List UInt8} {now j : Nat} (h : AT l now j) : now ≤ 16384 ∨ 16384 < l.length := by
  have := h.lt
  have := chars_len l _ 0 (Nat.le_refl _)
  omega
theorem AT.asc {l : List UInt8} {now j : Nat} (h : AT l now j) (hj : j < l.length) (hb : bt l j < 128) : AT l (now + 1) (j + 1) := by
  have := drop_next h hj
  rw [dc_asc hb] at this
  exact this
theorem AT.next {l : List UInt8} {now j : Nat} (h : AT l now j) (hj : j < l.length) : AT l (now + 1) (j + (dc l j).2) := drop_next h hj
/-- the number of a character that begins there -/
def ci (l : List UInt8) (j : Nat) : Nat := (chars l 0).length - (chars l j).length
theorem AT.ci {l : List UInt8} {now j : Nat} (h : AT l now j) : now = ci l j := by
  have h1 := h.lt
  have h2 := congrArg List.length h
  rw [List.length_drop] at h2
  unfold Proofs.YthlgjdadkmpbbaaDoor.ci
  omega
/-- the class of a character -/
def cls (r : Int) : Nat :=
  if r = -2 then 0 else if r = 10 then 1 else if r = 32 then 2 else if r = 9 then 2 else if r = 13 then 2 else if r = 46 then 5 else if r = 37 then 6 else if r = 34 then 7 else if r = 35 then 8
  else if (97 ≤ r ∧ r ≤ 122) ∨ (65 ≤ r ∧ r ≤ 90) ∨ r = 95 then 3 else if 48 ≤ r ∧ r ≤ 57 then 4 else 9
def kl (l : List UInt8) (j : Nat) : Nat := cls (chr l j)
end Go.Proofs.YthlgjdadkmpbbaaDoor

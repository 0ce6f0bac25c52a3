import Derived.Test.YtkmnonkabekclaaDoorUA
namespace Go.Proofs.YtkmnonkabekclaaDoor
open Go.RowKit
/-- a row that is one's own -/
structure Reg where
  T : TypeId
  s : Nat
  v : Value
  n : Nat
  xs : List Value
def Reg.owns (r : Reg) (W : World) (B : Nat) : Prop := W.ownsRow B r.T r.s r.v r.n r.xs
def nilR (T : TypeId) (s : Nat) : Reg := ⟨T, s, .slice none 0 0, 0, []⟩
theorem nilR_owns (T : TypeId) (s : Nat) (W : World) (B : Nat) : (nilR T s).owns W B := World.ownsRow_nil _ _ _ _
def disZ (x y : Value) : Prop := ∀ b, x.ownBlock = some b → y.ownBlock ≠ some b
theorem disZ.symm {x y : Value} (h : disZ x y) : disZ y x := fun b h1 h2 => h b h2 h1
theorem disZ.off {x y : Value} (h : disZ x y) : offZ x.ownBlock y := by
  cases hx : x.ownBlock with
  | none => cases hy : y.ownBlock with
    | none => exact .inl hy
    | some b => exact .inr (by rw [hy]; intro e; cases e)
  | some b => exact .inr (h b hx)
theorem gr_reflZ (W : World) (row : Option Nat) : W.grownBy W row := gr_belZ (Below.refl _ _) row
/-- rows that are one's own, each in a block of its own -/
structure SEP (W : World) (B : Nat) (f : Nat × Nat → Reg) : Prop where
  own : ∀ k, (f k).owns W B
  dis : ∀ k k', k ≠ k' → disZ (f k).v (f k').v
def updS (f : Nat × Nat → Reg) (k : Nat × Nat) (r : Reg) : Nat × Nat → Reg := fun j => if j = k then r else f j
theorem updS_self (f : Nat × Nat → Reg) (k : Nat × Nat) (r : Reg) : updS f k r k = r := by unfold updS; rw [if_pos rfl]
theorem updS_ne (f : Nat × Nat → Reg) {k j : Nat × Nat} (r : Reg) (h : j ≠ k) : updS f k r j = f j := by unfold updS; rw [if_neg h]
theorem SEP.below {W X : World} {B : Nat} {f : Nat × Nat → Reg} (h : SEP W B f) (hb : Below W.heap.size W X) : SEP X B f := ⟨fun k => own_belZ (h.own k) hb, h.dis⟩
theorem SEP.lt {W : World} {B : Nat} {f : Nat × Nat → Reg} (h : SEP W B f) (k : Nat × Nat) : ∀ b, (f k).v.ownBlock = some b → B ≤ b ∧ b < W.heap.size := World.ownsRow.lt (h.own k)
theorem SEP.upd {W X : World} {B : Nat} {f : Nat × Nat → Reg} (h : SEP W B f) (k : Nat × Nat) {r : Reg} (ho : r.owns X B) (hg : W.grownBy X (f k).v.ownBlock) (hn : r.v.ownBlock = (f k).v.ownBlock ∨ ∀ b, r.v.ownBlock = some b → W.heap.size ≤ b) : SEP X B (updS f k r) := by
  have dk : ∀ j, j ≠ k → disZ r.v (f j).v := fun j hj b h1 h2 => by
    rcases hn with hn | hn
    · exact h.dis k j (fun e => hj e.symm) b (hn.symm.trans h1) h2
    · have := hn b h1
      have := (h.lt j b h2).2
      omega
  refine ⟨fun j => ?_, fun j j' hjj => ?_⟩
  · by_cases hj : j = k
    · subst hj; rw [updS_self]; exact ho
    · rw [updS_ne f r hj]
      exact World.ownsRow.kept (h.own j) hg (h.dis k j (fun e => hj e.symm)).off
  · by_cases hj : j = k
    · subst hj
      rw [updS_self, updS_ne f r (fun e => hjj e.symm)]
      exact dk j' (fun e => hjj e.symm)
    · by_cases hj' : j' = k
      · subst hj'
        rw [updS_self, updS_ne f r hj]
        exact (dk j hj).symm
      · rw [updS_ne f r hj, updS_ne f r hj']
        exact h.dis j j' hjj
/-- an answer that is new -/
theorem SEP.new {W X : World} {B : Nat} {f : Nat × Nat → Reg} (h : SEP W B f) (hb : Below W.heap.size W X) (hB : B ≤ W.heap.size) (k : Nat × Nat) {r : Reg} (ho : r.owns X W.heap.size) : SEP X B (updS f k r) :=
  h.upd k (own_baseZ ho hB) (gr_belZ hb _) (.inr fun b e => (World.ownsRow.lt ho b e).1)
/-- a row and what goes on from it: in one block, or in two -/
def GST (f : Nat × Nat → Reg) (k k3 : Nat × Nat) (T : TypeId) (s : Nat) (v : Value) (n : Nat) (A : List Value) (G : Value) (m : Nat) (S : List Value) : Prop :=
  (∃ g c, v = .slice (some ⟨g, 0, none⟩) n c ∧ G = .slice (some ⟨g, 0, none⟩) (n + m) c ∧ f k = ⟨T, s, G, n + m, A ++ S⟩ ∧ f k3 = nilR T s) ∨ (f k = ⟨T, s, v, n, A⟩ ∧ f k3 = ⟨T, s, G, n + m, A ++ S⟩)
theorem GST.start {W : World} {B : Nat} {f : Nat × Nat → Reg} {k k3 : Nat × Nat} {T : TypeId} {s : Nat} {v : Value} {n : Nat} {A : List Value} (h : SEP W B f) (h1 : f k = ⟨T, s, v, n, A⟩) (h3 : f k3 = nilR T s) : GST f k k3 T s v n A v 0 [] := by
  have ho := h.own k
  rw [h1] at ho
  rcases ho.2 with ⟨e, hn⟩ | ⟨g, c, _, e, _⟩
  · have e' : v = .slice none 0 0 := e
    have hn' : n = 0 := hn
    have hl : A.length = n * s := ho.1
    subst e' hn'
    have : A = [] := List.eq_nil_of_length_eq_zero (by omega)
    subst this
    exact .inr ⟨h1, h3⟩
  · have e' : v = .slice (some ⟨g, 0, none⟩) n c := e
    exact .inl ⟨g, c, e', e', by rw [List.append_nil]; exact h1, h3⟩
theorem GST.own {W : World} {B : Nat} {f : Nat × Nat → Reg} {k k3 : Nat × Nat} {T : TypeId} {s : Nat} {v : Value} {n : Nat} {A : List Value} {G : Value} {m : Nat} {S : List Value} (h : SEP W B f) (hg : GST f k k3 T s v n A G m S) (hA : A.length = n * s) : W.ownsRow B T s v n A ∧ W.ownsRow B T s G (n + m) (A ++ S) := by
  rcases hg with ⟨g, c, rfl, rfl, e1, e3⟩ | ⟨e1, e3⟩
  · have o := h.own k
    rw [e1] at o
    have o' : W.ownsRow B T s (.slice (some ⟨g, 0, none⟩) (n + m) c) (n + m) (A ++ S) := o
    refine ⟨?_, o'⟩
    have := own_cutZ (i := n) (by omega) o'
    rw [← hA, List.take_left] at this
    exact this
  · have o := h.own k
    have o3 := h.own k3
    rw [e1] at o
    rw [e3] at o3
    exact ⟨o, o3⟩
theorem GST.grow {TS T : TypeId} {i0 : TypeInfo} {z : Value} {s by_ : Nat} {W : World} {B nb : Nat} {f : Nat × Nat → Reg} {k k3 : Nat × Nat} {v : Value} {n : Nat} {A : List Value} {G : Value} {m : Nat} {S : List Value} (x : List Value) (ty : TypeId)
    (hu : Tryd.prog.underlying TS = some (.slice T)) (hi : Tryd.prog.info? T = some i0) (hz0 : i0.zero = some z) (hz1 : i0.size = s) (hz2 : i0.bytes = by_) (hzc : z.cells.size = s) (hs : 0 < s) (hby : by_ ≤ 1000) (hxl : x.length = 1 * s) (hx : ∀ u ∈ x, u.oneCell' = true) (hk : k ≠ k3)
    (h : SEP W B f) (hg : GST f k k3 T s v n A G m S) (hA : A.length = n * s) (hB : B ≤ W.heap.size) (hnews : ∀ (j : Nat) (u : Value), x[j]? = some u → W.cell? ((⟨nb, 0, none⟩ : Addr).add j) = some u) (hlen : n + m ≤ 100000) :
    ∃ G' W' f', (Builtin.append_ #[TS, TS] ty #[G, .slice (some ⟨nb, 0, none⟩) 1 1]).run Tryd.prog W = .ok G' W' ∧ SEP W' B f' ∧ GST f' k k3 T s v n A G' (m + 1) (S ++ x) ∧ (∀ j, j ≠ k → j ≠ k3 → f' j = f j) ∧ W.grownBy W' G.ownBlock ∧ (∀ b, G.ownBlock = some b → B ≤ b) := by
  have hb1 : (n + m + 1) * by_ ≤ 140737488355328 := Nat.le_trans (Nat.mul_le_mul (show _ ≤ 100001 by omega) hby) (by decide)
  have hml : n + m + 1 ≤ maxLen := by unfold maxLen; omega
  have eA : A ++ (S ++ x) = (A ++ S) ++ x := (List.append_assoc _ _ _).symm
  rcases hg with ⟨g, c, rfl, rfl, e1, e3⟩ | ⟨e1, e3⟩
  · have o0 := h.own k
    rw [e1] at o0
    have o : W.ownsRow B T s (.slice (some ⟨g, 0, none⟩) (n + m) c) (n + m) (A ++ S) := o0
    have hbl : ∀ b, (Value.slice (some ⟨g, 0, none⟩) (n + m) c).ownBlock = some b → B ≤ b := fun b e => (World.ownsRow.lt o b e).1
    by_cases room : n + m + 1 ≤ c
    · obtain ⟨W', hr, o2, g2⟩ := run_append_fits (P := Tryd.prog) W B TS ty T i0 s hu hi hz1 g _ c _ o ⟨nb, 0, none⟩ 1 1 x hxl hnews hx room
      refine ⟨_, W', updS f k ⟨T, s, .slice (some ⟨g, 0, none⟩) (n + (m + 1)) c, n + (m + 1), A ++ (S ++ x)⟩, hr, h.upd k (by rw [eA]; exact o2) (by rw [e1]; exact g2) (.inl (by rw [e1]; rfl)), .inl ⟨g, c, rfl, rfl, updS_self _ _ _, ?_⟩, fun j h1 _ => updS_ne _ _ h1, g2, hbl⟩
      rw [updS_ne _ _ (fun e => hk e.symm)]
      exact e3
    · obtain ⟨v', W', hr, o2, g2⟩ := run_append_arg_grows (P := Tryd.prog) W TS ty T i0 z s by_ hu hi hz0 hz1 hz2 hzc hs ⟨g, 0, none⟩ (n + m) c (A ++ S) o.1 (World.ownsRow.cells o rfl) ⟨nb, 0, none⟩ 1 1 x hxl hnews (by omega) hml hb1
      have oc : W.ownsRow B T s (.slice (some ⟨g, 0, none⟩) n c) n A := by
        have := own_cutZ (i := n) (by omega) o
        rw [← hA, List.take_left] at this
        exact this
      have s1 : SEP W B (updS f k ⟨T, s, .slice (some ⟨g, 0, none⟩) n c, n, A⟩) := h.upd k oc (gr_reflZ _ _) (.inl (by rw [e1]; rfl))
      have e3' : updS f k ⟨T, s, .slice (some ⟨g, 0, none⟩) n c, n, A⟩ k3 = nilR T s := by rw [updS_ne _ _ (fun e => hk e.symm)]; exact e3
      refine ⟨v', W', updS (updS f k ⟨T, s, .slice (some ⟨g, 0, none⟩) n c, n, A⟩) k3 ⟨T, s, v', n + (m + 1), A ++ (S ++ x)⟩, hr, s1.upd k3 (by rw [eA]; exact own_baseZ o2 hB) (by rw [e3']; exact g2) (.inr fun b e => (World.ownsRow.lt o2 b e).1), .inr ⟨?_, updS_self _ _ _⟩, fun j h1 h2 => ?_, ⟨g2.1, g2.2, g2.3, g2.4, fun k hk _ => g2.5 k hk (by simp)⟩, hbl⟩
      · rw [updS_ne _ _ hk, updS_self]
      · rw [updS_ne _ _ h2, updS_ne _ _ h1]
  · have o0 := h.own k3
    rw [e3] at o0
    have o : W.ownsRow B T s G (n + m) (A ++ S) := o0
    obtain ⟨v', W', hr, o2, g2, n2⟩ := appZ ty hu hi hz0 hz1 hz2 hzc hs o hB hxl hnews hx hlen hby
    refine ⟨v', W', updS f k3 ⟨T, s, v', n + (m + 1), A ++ (S ++ x)⟩, hr, h.upd k3 (by rw [eA]; exact o2) (by rw [e3]; exact g2) (by rw [e3]; exact n2), .inr ⟨?_, updS_self _ _ _⟩, fun j _ h2 => updS_ne _ _ h2, g2, fun b e => (World.ownsRow.lt o b e).1⟩
    rw [updS_ne _ _ hk]
    exact e1
/-- one cell written over -/
theorem SEP.store {W : World} {B : Nat} {f : Nat × Nat → Reg} (h : SEP W B f) (k : Nat × Nat) {T s g n c : Nat} {xs : List Value} (e : f k = ⟨T, s, .slice (some ⟨g, 0, none⟩) n c, n, xs⟩) (i : Nat) (u : Value) : SEP (W.setCell ⟨g, i, none⟩ u) B (updS f k ⟨T, s, .slice (some ⟨g, 0, none⟩) n c, n, xs.set i u⟩) ∧ B ≤ g := by
  have o0 := h.own k
  rw [e] at o0
  have o : W.ownsRow B T s (.slice (some ⟨g, 0, none⟩) n c) n xs := o0
  obtain ⟨s1, s2⟩ := World.ownsRow.stored o i u
  exact ⟨h.upd k s1 (by rw [e]; exact s2) (.inl (by rw [e])), (World.ownsRow.lt o g rfl).1⟩
end Go.Proofs.YtkmnonkabekclaaDoor

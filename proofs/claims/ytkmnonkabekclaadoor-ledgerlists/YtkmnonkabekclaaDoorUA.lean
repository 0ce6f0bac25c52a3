import Derived.Test.YtkmnonkabekclaaDoorChecked
import Derived.WalkKit
import Derived.Below
import Derived.BigQuiet
import Derived.OwnWalk
import Derived.Laws.OwnMore
import Derived.Deep.AppendLies
namespace Go.Proofs.YtkmnonkabekclaaDoor
open Go.RowKit
theorem gr_belZ {W X : World} (h : Below W.heap.size W X) (row : Option Nat) : W.grownBy X row := ⟨h.os, h.tape, h.output, h.size, fun k hk _ => h.block k hk⟩
theorem gr_transZ {a b c : World} {row : Option Nat} (h1 : a.grownBy b row) (h2 : b.grownBy c row) : a.grownBy c row :=
  ⟨h2.os.trans h1.os, h2.tape.trans h1.tape, h2.output.trans h1.output, Nat.le_trans h1.size h2.size, fun k hk hne => (h2.block k (Nat.lt_of_lt_of_le hk h1.size) hne).trans (h1.block k hk hne)⟩
theorem gr_newZ {W X Y : World} {row row2 : Option Nat} (h : W.grownBy X row) (g : X.grownBy Y row2) (hr : ∀ k, row2 = some k → row = some k ∨ W.heap.size ≤ k) : W.grownBy Y row :=
  ⟨g.1.trans h.1, g.2.trans h.2, g.3.trans h.3, Nat.le_trans h.4 g.4, fun k hk hne => (g.5 k (Nat.lt_of_lt_of_le hk h.4) (fun e => by rcases hr k e.symm with h1 | h1; exact hne h1.symm; omega)).trans (h.5 k hk hne)⟩
theorem bel_grZ {w W X : World} {row : Option Nat} (h : Below w.heap.size w W) (hg : W.grownBy X row) (hr : ∀ k, row = some k → w.heap.size ≤ k) : Below w.heap.size w X := h.grown hg h.size hr
theorem own_belZ {W X : World} {B n : Nat} {e : TypeId} {sz : Nat} {v : Value} {xs : List Value} (h : W.ownsRow B e sz v n xs) (hb : Below W.heap.size W X) : X.ownsRow B e sz v n xs := by
  refine h.kept (gr_belZ hb none) ?_
  generalize v.ownBlock = b
  cases b with
  | none => exact .inl rfl
  | some b => exact .inr (by intro e; cases e)
theorem own_baseZ {W : World} {A B n : Nat} {e : TypeId} {sz : Nat} {v : Value} {xs : List Value} (h : W.ownsRow B e sz v n xs) (hA : A ≤ B) : W.ownsRow A e sz v n xs := by
  rcases h.2 with h' | ⟨g, cap, cur, h', hb, r⟩
  · exact ⟨h.1, .inl h'⟩
  · exact ⟨h.1, .inr ⟨g, cap, cur, h', Nat.le_trans hA hb, r⟩⟩
/-- a row of one-celled things that is one's own -/
def OWZ (T : TypeId) (W : World) (B : Nat) (v : Value) (L : List Value) : Prop := W.ownsRow B T 1 v L.length L
def offZ (row : Option Nat) (v : Value) : Prop := v.ownBlock = none ∨ v.ownBlock ≠ row
theorem OWZ.kept {T : TypeId} {W X : World} {B : Nat} {v : Value} {L : List Value} {row : Option Nat} (h : OWZ T W B v L) (hg : W.grownBy X row) (ho : offZ row v) : OWZ T X B v L := World.ownsRow.kept h hg ho
theorem OWZ.below {T : TypeId} {W X : World} {B : Nat} {v : Value} {L : List Value} (h : OWZ T W B v L) (hb : Below W.heap.size W X) : OWZ T X B v L := own_belZ h hb
theorem OWZ.lt {T : TypeId} {W : World} {B : Nat} {v : Value} {L : List Value} (h : OWZ T W B v L) : ∀ b, v.ownBlock = some b → B ≤ b ∧ b < W.heap.size := World.ownsRow.lt h
theorem OWZ.base {T : TypeId} {W : World} {A B : Nat} {v : Value} {L : List Value} (h : OWZ T W B v L) (hA : A ≤ B) : OWZ T W A v L := own_baseZ h hA
theorem OWZ.shape {T : TypeId} {W : World} {B : Nat} {v : Value} {L : List Value} (h : OWZ T W B v L) : ∃ p c, v = .slice p L.length c := by
  rcases h.2 with ⟨e, h0⟩ | ⟨g, c, _, e, _⟩
  · exact ⟨none, 0, by rw [h0]; exact e⟩
  · exact ⟨_, _, e⟩
theorem OWZ.cell {T : TypeId} {W : World} {B n c : Nat} {p : Option Addr} {L : List Value} {j : Nat} {u : Value} (h : OWZ T W B (.slice p n c) L) (hu : L[j]? = some u) : ∃ g, p = some ⟨g, 0, none⟩ ∧ W.cell? ⟨g, j, none⟩ = some u ∧ W.frozen? ⟨g, j, none⟩ = false := by
  have hl : n = L.length := by
    obtain ⟨p', c', e⟩ := h.shape
    injection e
  rcases h.2 with ⟨e, h0⟩ | ⟨g, c2, cur, e, _⟩
  · have := (List.getElem?_eq_some_iff.1 hu).1
    omega
  · injection e with e1 _ _
    subst e1
    have h1 := World.ownsRow.cells h (g := g) rfl j u hu
    have hadd : (⟨g, 0, none⟩ : Addr).add j = ⟨g, j, none⟩ := by unfold Addr.add; split <;> simp_all
    rw [hadd] at h1
    subst hl
    exact ⟨g, rfl, h1, World.ownsRow.frozenAt h j⟩
theorem own_neZ {W : World} {B1 B2 : Nat} {e1 e2 : TypeId} {s1 s2 n1 n2 : Nat} {a v : Value} {xs ys : List Value} (h1 : W.ownsRow B1 e1 s1 a n1 xs) (h2 : W.ownsRow B2 e2 s2 v n2 ys) (hne : e1 ≠ e2) : offZ v.ownBlock a := by
  rcases h1.2 with ⟨rfl, _⟩ | ⟨g, c, cur, rfl, _, hg, _⟩
  · exact .inl rfl
  · refine .inr (fun e => ?_)
    rcases h2.2 with ⟨rfl, _⟩ | ⟨g2, c2, cur2, rfl, _, hg2, _⟩
    · cases e
    · have : g = g2 := by injection e
      subst this
      rw [hg] at hg2
      injection hg2 with h
      injection h with _ h _
      exact hne h
theorem off_boxZ {T T2 : TypeId} {W : World} {B b : Nat} {v : Value} {L : List Value} {cs : Array Value} {m : Nat × Nat} (h : OWZ T W B v L) (hb : W.heap[b]? = some (.cells cs T2 m)) (hne : T ≠ T2) : v.ownBlock ≠ some b := by
  intro e
  rcases h.2 with ⟨rfl, _⟩ | ⟨g, c, cur, rfl, _, hg, _⟩
  · cases e
  · have : g = b := by injection e
    subst this
    rw [hb] at hg
    injection hg with hg
    injection hg with _ hg _
    exact hne hg.symm
theorem own_cutZ {W : World} {B sz g n c i : Nat} {e : TypeId} {xs : List Value} (hi : i ≤ n) (h : W.ownsRow B e sz (.slice (some ⟨g, 0, none⟩) n c) n xs) : W.ownsRow B e sz (.slice (some ⟨g, 0, none⟩) i c) i (xs.take (i * sz)) := by
  have hm : i * sz ≤ n * sz := Nat.mul_le_mul_right _ hi
  rcases h.2 with ⟨h', _⟩ | ⟨g', cap', cur, h', hb, hg, hnc, hcm, hcs, htake⟩
  · cases h'
  · injection h' with a1 _ a3
    injection a1 with a1
    injection a1 with a1
    subst a1 a3
    refine ⟨by rw [List.length_take, h.1, Nat.min_eq_left hm], .inr ⟨g, c, cur, rfl, hb, hg, by omega, hcm, hcs, ?_⟩⟩
    rw [← htake, List.take_take, Nat.min_eq_left hm]
/-- a row, and what goes on from it: in its own block, or in a block of its own -/
def GRZ (T : TypeId) (W : World) (B N2 : Nat) (v : Value) (A : List Value) (G : Value) (S : List Value) : Prop :=
  (∃ g c, v = .slice (some ⟨g, 0, none⟩) A.length c ∧ G = .slice (some ⟨g, 0, none⟩) (A ++ S).length c ∧ OWZ T W B G (A ++ S)) ∨ (OWZ T W N2 G (A ++ S) ∧ OWZ T W B v A)
theorem GRZ.start {T : TypeId} {W : World} {B N2 : Nat} {v : Value} {A : List Value} (h : OWZ T W B v A) : GRZ T W B N2 v A v [] := by
  have h0 := h
  rcases h0.2 with ⟨e, hn⟩ | ⟨g, c, _, e, _⟩
  · have hL := List.eq_nil_of_length_eq_zero hn
    subst hL e
    exact .inr ⟨World.ownsRow_nil _ _ _ _, h⟩
  · refine .inl ⟨g, c, e, ?_, ?_⟩
    · rw [List.append_nil]; exact e
    · rw [List.append_nil]; exact h
theorem GRZ.blk {T : TypeId} {W : World} {B N2 : Nat} {v G : Value} {A S : List Value} (h : GRZ T W B N2 v A G S) : G.ownBlock = v.ownBlock ∨ ∀ b, G.ownBlock = some b → N2 ≤ b := by
  rcases h with ⟨g, c, rfl, rfl, -⟩ | ⟨h, -⟩
  · exact .inl rfl
  · exact .inr (fun b e => (h.lt b e).1)
theorem GRZ.lt {T : TypeId} {W : World} {B N2 : Nat} {v G : Value} {A S : List Value} (h : GRZ T W B N2 v A G S) : (∀ b, G.ownBlock = some b → b < W.heap.size) ∧ (∀ b, v.ownBlock = some b → B ≤ b ∧ b < W.heap.size) := by
  rcases h with ⟨g, c, rfl, rfl, o⟩ | ⟨h, h2⟩
  · exact ⟨fun b e => (o.lt b e).2, fun b e => o.lt b e⟩
  · exact ⟨fun b e => (h.lt b e).2, fun b e => h2.lt b e⟩
theorem GRZ.shape {T : TypeId} {W : World} {B N2 : Nat} {v G : Value} {A S : List Value} (h : GRZ T W B N2 v A G S) : ∃ q c, G = .slice q (A ++ S).length c := by
  rcases h with ⟨g, c, rfl, rfl, o⟩ | ⟨h, h2⟩
  · exact ⟨_, _, rfl⟩
  · exact h.shape
theorem GRZ.kept {T : TypeId} {W X : World} {B N2 : Nat} {v G : Value} {A S : List Value} {row : Option Nat} (h : GRZ T W B N2 v A G S) (hg : W.grownBy X row) (h1 : offZ row v) (h2 : offZ row G) : GRZ T X B N2 v A G S := by
  rcases h with ⟨g, c, e1, e2, o⟩ | ⟨a, b⟩
  · exact .inl ⟨g, c, e1, e2, o.kept hg h2⟩
  · exact .inr ⟨a.kept hg h2, b.kept hg h1⟩
theorem GRZ.below {T : TypeId} {W X : World} {B N2 : Nat} {v G : Value} {A S : List Value} (h : GRZ T W B N2 v A G S) (hb : Below W.heap.size W X) : GRZ T X B N2 v A G S := by
  rcases h with ⟨g, c, e1, e2, o⟩ | ⟨a, b⟩
  · exact .inl ⟨g, c, e1, e2, o.below hb⟩
  · exact .inr ⟨a.below hb, b.below hb⟩
theorem OWZ.pre {T : TypeId} {W : World} {B g c : Nat} {A S : List Value} (o : OWZ T W B (.slice (some ⟨g, 0, none⟩) (A ++ S).length c) (A ++ S)) : OWZ T W B (.slice (some ⟨g, 0, none⟩) A.length c) A := by
  have h := own_cutZ (i := A.length) (by rw [List.length_append]; omega) o
  rw [Nat.mul_one, List.take_left] at h
  exact h
/-- both are read -/
theorem GRZ.own {T : TypeId} {W : World} {B N2 : Nat} {v G : Value} {A S : List Value} (h : GRZ T W B N2 v A G S) (hN : B ≤ N2) : OWZ T W B v A ∧ OWZ T W B G (A ++ S) := by
  rcases h with ⟨g, c, rfl, rfl, o⟩ | ⟨a, b⟩
  · exact ⟨o.pre, o⟩
  · exact ⟨b, a.base hN⟩
/-- one more -/
theorem growZ {T TS : TypeId} {i0 : TypeInfo} {z : Value} {by_ : Nat} {W : World} {B N2 nb : Nat} {v G : Value} {A S : List Value} (x : Value) (ty : TypeId) (hu : Tryd.prog.underlying TS = some (.slice T)) (hi : Tryd.prog.info? T = some i0) (hz0 : i0.zero = some z) (hz1 : i0.size = 1) (hz2 : i0.bytes = by_) (hzc : z.cells.size = 1) (hx : x.oneCell' = true) (hby : by_ ≤ 16) (h : GRZ T W B N2 v A G S) (hnb : W.heap[nb]? = some (.cells #[x] T (0, 0))) (hN : N2 ≤ W.heap.size) (hv : ∀ b, v.ownBlock = some b → b < N2) (hlen : (A ++ S).length ≤ 8600000000) :
    ∃ G' W', (Builtin.append_ #[TS, TS] ty #[G, .slice (some ⟨nb, 0, none⟩) 1 1]).run Tryd.prog W = .ok G' W' ∧ GRZ T W' B N2 v A G' (S ++ [x]) ∧ W.grownBy W' G.ownBlock := by
  have hnews := World.news_of_block hnb
  have hone : ∀ u ∈ [x], u.oneCell' = true := fun u hu => by rw [List.mem_singleton.1 hu]; exact hx
  have eA : A ++ (S ++ [x]) = (A ++ S) ++ [x] := (List.append_assoc _ _ _).symm
  have eL : (A ++ (S ++ [x])).length = (A ++ S).length + 1 := by rw [eA, List.length_append]; rfl
  have hb1 : ((A ++ S).length + 1) * by_ ≤ 140737488355328 := Nat.le_trans (Nat.mul_le_mul (show _ ≤ 8600000001 by omega) hby) (by decide)
  rcases h with ⟨g, c, rfl, rfl, o⟩ | ⟨a, b⟩
  · by_cases room : (A ++ S).length + 1 ≤ c
    · obtain ⟨W', hr, o2, g2⟩ := run_append_fits (P := Tryd.prog) W B TS ty T i0 1 hu hi hz1 g _ c _ o ⟨nb, 0, none⟩ 1 1 [x] rfl hnews hone room
      refine ⟨_, W', hr, .inl ⟨g, c, rfl, by rw [eL], ?_⟩, g2⟩
      unfold OWZ
      rw [eL, eA]
      exact o2
    · obtain ⟨v', W', hr, o2, g2⟩ := run_append_arg_grows (P := Tryd.prog) W TS ty T i0 z 1 by_ hu hi hz0 hz1 hz2 hzc (by decide) ⟨g, 0, none⟩ (A ++ S).length c (A ++ S) (Nat.mul_one _).symm (World.ownsRow.cells o rfl) ⟨nb, 0, none⟩ 1 1 [x] rfl hnews (by omega) (by unfold maxLen; omega) hb1
      have o3 : OWZ T W' N2 v' (A ++ (S ++ [x])) := by
        unfold OWZ
        rw [eL, eA]
        exact own_baseZ o2 hN
      refine ⟨v', W', hr, .inr ⟨o3, o.pre.kept g2 (.inr (by simp [Value.ownBlock]))⟩, ⟨g2.1, g2.2, g2.3, g2.4, fun k hk _ => g2.5 k hk (by simp)⟩⟩
  · obtain ⟨v', W', hr, o2, g2, -⟩ := run_append_own_at (P := Tryd.prog) W N2 TS ty T i0 z 1 by_ hu hi hz0 hz1 hz2 hzc (by decide) G _ _ a ⟨nb, 0, none⟩ 1 1 [x] rfl hnews hone (by unfold maxLen; omega) hb1 hN
    have o3 : OWZ T W' N2 v' (A ++ (S ++ [x])) := by
      unfold OWZ
      rw [eL, eA]
      exact o2
    refine ⟨v', W', hr, .inr ⟨o3, b.kept g2 ?_⟩, g2⟩
    cases hvb : v.ownBlock with
    | none => exact .inl hvb
    | some b1 =>
      refine .inr (fun e => ?_)
      rw [hvb] at e
      have := (a.lt b1 e.symm).1
      have := hv b1 hvb
      omega
/-- an append in a plain region, by its run -/
theorem wpList_runZ {P : Program} {ops : Array Oper} {rest : List Oper} {o : Oper} {a : Act} {w w' : World} {Q : Exit → Act → World → Prop} {v u v' : Value} (hgd : o.guard = none) (s x : Operand) (t : TypeId) (ho : o.op = .call { callee := .builtin .append, args := #[s, x], argTypes := #[t, t] }) (hs : a.eval s = v) (hx : a.eval x = u) (hr : (Builtin.append_ #[t, t] o.type #[v, u]).run P w = .ok v' w') (h : wpList P ops Q rest (a.put o.dst v') w') : wpList P ops Q (o :: rest) a w :=
  wpList_plain hgd fun K hK => by
    unfold Oper.wp execOp
    simp only [ho, resolve, invoke, builtin, Sem.run_bind, Sem.run_pure, Result.andThen_ok, List.map_toArray, List.map_cons, List.map_nil, hs, hx, hr]
    exact hK _ _ h
def stZ (L : List (List UInt8)) : List Value := L.map (fun x => Value.string ⟨x.toArray⟩)
def inZ (V : List Int) : List Value := V.map (fun x => Value.int .i64 x)
theorem info_stZ : (Tryd.prog.info? 9).map (fun i => (i.zero, i.size, i.bytes)) = some (some (.string ⟨#[]⟩), 1, 16) := by kernel_rfl
theorem info_inZ : (Tryd.prog.info? 3).map (fun i => (i.zero, i.size, i.bytes)) = some (some (.int .i64 0), 1, 8) := by kernel_rfl
theorem bel0Z {w w1 w2 : World} (h : Below w.heap.size w w1) (h2 : Below w1.heap.size w1 w2) : Below w.heap.size w w2 := h.trans (h2.mono h.size)
theorem belAZ {w w1 : World} (h : Below w.heap.size w w1) (o : Obj) : Below w.heap.size w (w1.alloc o) := h.alloc h.size o
theorem alloc_getZ (w : World) (o : Obj) : (w.alloc o).heap[w.heap.size]? = some o := by
  show (w.heap.push o)[w.heap.size]? = _
  simp
theorem shapeZ {W : World} {B n : Nat} {e : TypeId} {sz : Nat} {v : Value} {xs : List Value} (h : W.ownsRow B e sz v n xs) : ∃ p c, v = .slice p n c := by
  rcases h.2 with ⟨rfl, rfl⟩ | ⟨g, c, _, rfl, _⟩
  · exact ⟨_, _, rfl⟩
  · exact ⟨_, _, rfl⟩
theorem keepZ {W w' : World} {b : Nat} {o : Obj} (hb : Below W.heap.size W w') (h : W.heap[b]? = some o) : w'.heap[b]? = some o := (hb.block b (by
  rcases Nat.lt_or_ge b W.heap.size with h1 | h1
  · exact h1
  · rw [Array.getElem?_eq_none h1] at h; cases h)).trans h
theorem stZ_len (L : List (List UInt8)) : (stZ L).length = L.length := by simp [stZ]
theorem stZ_at {L : List (List UInt8)} {i : Nat} {x : List UInt8} (h : L[i]? = some x) : (stZ L)[i]? = some (.string ⟨x.toArray⟩) := by simp [stZ, h]
theorem stZ_succ {L : List (List UInt8)} {i : Nat} {x : List UInt8} (h : L[i]? = some x) : stZ (L.take (i + 1)) = stZ (L.take i) ++ [.string ⟨x.toArray⟩] := by simp [stZ, List.take_add_one, h]
theorem own_keep2 {W X : World} {B n : Nat} {e : TypeId} {sz : Nat} {v : Value} {xs : List Value} (h : W.ownsRow B e sz v n xs) (hk : ∀ g, v.ownBlock = some g → X.heap[g]? = W.heap[g]?) : X.ownsRow B e sz v n xs := by
  rcases h.2 with h' | ⟨g, cap, cur, h', hb, hg, r⟩
  · exact ⟨h.1, .inl h'⟩
  · exact ⟨h.1, .inr ⟨g, cap, cur, h', hb, (hk g (by rw [h']; rfl)).trans hg, r⟩⟩
theorem offZ_ne {r : Option Nat} {v : Value} {k : Nat} (h : offZ r v) (hk : v.ownBlock = some k) : some k ≠ r := fun e => by
  rcases h with h | h
  · rw [hk] at h; cases h
  · exact h (hk.trans e)
theorem set_getZ {W : World} {b j T : Nat} {cs : Array Value} {m : Nat × Nat} (u : Value) (h : W.heap[b]? = some (.cells cs T m)) : (W.setCell ⟨b, j, none⟩ u).heap[b]? = some (.cells (cs.setIfInBounds j u) T m) := by
  simp only [World.setCell, Array.getElem?_modify, if_pos, h, Option.map_some]
  simp
theorem gr_setZ (W : World) (b j : Nat) (u : Value) : W.grownBy (W.setCell ⟨b, j, none⟩ u) (some b) := ⟨rfl, rfl, rfl, by simp, fun k _ hk => heap_setCell_other W ⟨b, j, none⟩ k u (fun e => hk (by simp [e]))⟩
theorem cellsZ {W : World} {b T : Nat} {cs : Array Value} (h : W.heap[b]? = some (.cells cs T (0, 0))) : (∀ j, W.cell? ⟨b, j, none⟩ = cs[j]?) ∧ (∀ j, W.frozen? ⟨b, j, none⟩ = false) := by
  constructor
  · intro j; unfold World.cell?; rw [h]; simp
  · intro j; unfold World.frozen?; rw [h]; simp
theorem lt_getZ {W : World} {b : Nat} {o : Obj} (h : W.heap[b]? = some o) : b < W.heap.size := by
  rcases Nat.lt_or_ge b W.heap.size with h1 | h1
  · exact h1
  · rw [Array.getElem?_eq_none h1] at h; cases h
theorem own_atZ {W : World} {B : Nat} {e : TypeId} {s g n c m : Nat} {xs : List Value} {j : Nat} {u : Value} (h : W.ownsRow B e s (.slice (some ⟨g, 0, none⟩) n c) m xs) (hu : xs[j]? = some u) : W.cell? ⟨g, j, none⟩ = some u := by
  have := World.ownsRow.cells h (g := g) rfl j u hu
  have hadd : (⟨g, 0, none⟩ : Addr).add j = ⟨g, j, none⟩ := by unfold Addr.add; split <;> simp_all
  rw [hadd] at this
  exact this
theorem own_someZ {W : World} {B : Nat} {e : TypeId} {s n c : Nat} {p : Option Addr} {m : Nat} {xs : List Value} (h : W.ownsRow B e s (.slice p n c) m xs) (hm : m ≠ 0) : ∃ g, p = some ⟨g, 0, none⟩ := by
  rcases h.2 with ⟨e, h2⟩ | ⟨g, c2, cur, e, _⟩
  · exact absurd h2 hm
  · injection e with e _ _
    exact ⟨g, e⟩
theorem own_capZ {W : World} {B n m g c : Nat} {e : TypeId} {sz : Nat} {xs : List Value} (h : W.ownsRow B e sz (.slice (some ⟨g, 0, none⟩) n c) m xs) : m ≤ c := by
  rcases h.2 with ⟨e, _⟩ | ⟨g2, c2, cur, e, _, _, h3, _⟩
  · cases e
  · injection e with _ _ e3
    omega
theorem appZ {T TS : TypeId} {i0 : TypeInfo} {z : Value} {s by_ : Nat} {W : World} {B nb : Nat} {v : Value} {n : Nat} {xs news : List Value} (ty : TypeId) (hu : Tryd.prog.underlying TS = some (.slice T)) (hi : Tryd.prog.info? T = some i0) (hz0 : i0.zero = some z) (hz1 : i0.size = s) (hz2 : i0.bytes = by_) (hzc : z.cells.size = s) (hs : 0 < s) (h : W.ownsRow B T s v n xs) (hB : B ≤ W.heap.size) (hl : news.length = 1 * s) (hnews : ∀ (j : Nat) (u : Value), news[j]? = some u → W.cell? ((⟨nb, 0, none⟩ : Addr).add j) = some u) (hone : ∀ u ∈ news, u.oneCell' = true) (hlen : n ≤ 100000) (hby : by_ ≤ 1000) :
    ∃ v' W', (Builtin.append_ #[TS, TS] ty #[v, .slice (some ⟨nb, 0, none⟩) 1 1]).run Tryd.prog W = .ok v' W' ∧ W'.ownsRow B T s v' (n + 1) (xs ++ news) ∧ W.grownBy W' v.ownBlock ∧ (v'.ownBlock = v.ownBlock ∨ ∀ b, v'.ownBlock = some b → W.heap.size ≤ b) := by
  have hb1 : (n + 1) * by_ ≤ 140737488355328 := Nat.le_trans (Nat.mul_le_mul (show _ ≤ 100001 by omega) hby) (by decide)
  have hml : n + 1 ≤ maxLen := by unfold maxLen; omega
  have h0 := h
  rcases h0.2 with ⟨rfl, rfl⟩ | ⟨g, c, cur, rfl, _⟩
  · have hx : xs = [] := List.eq_nil_of_length_eq_zero (by rw [h.1]; omega)
    subst hx
    obtain ⟨v', W', hr, o2, g2, -⟩ := run_append_own_at (P := Tryd.prog) W W.heap.size TS ty T i0 z s by_ hu hi hz0 hz1 hz2 hzc hs (.slice none 0 0) 0 [] (World.ownsRow_nil _ _ _ _) ⟨nb, 0, none⟩ 1 1 news hl hnews hone hml hb1 (Nat.le_refl _)
    exact ⟨v', W', hr, own_baseZ o2 hB, g2, .inr (fun b e => (World.ownsRow.lt o2 b e).1)⟩
  · by_cases room : n + 1 ≤ c
    · obtain ⟨W', hr, o2, g2⟩ := run_append_fits (P := Tryd.prog) W B TS ty T i0 s hu hi hz1 g _ c _ h ⟨nb, 0, none⟩ 1 1 news hl hnews hone room
      exact ⟨_, W', hr, o2, g2, .inl rfl⟩
    · obtain ⟨v', W', hr, o2, g2⟩ := run_append_arg_grows (P := Tryd.prog) W TS ty T i0 z s by_ hu hi hz0 hz1 hz2 hzc hs ⟨g, 0, none⟩ n c xs h.1 (World.ownsRow.cells h rfl) ⟨nb, 0, none⟩ 1 1 news hl hnews (by omega) hml hb1
      exact ⟨v', W', hr, own_baseZ o2 hB, ⟨g2.1, g2.2, g2.3, g2.4, fun k hk _ => g2.5 k hk (by simp)⟩, .inr (fun b e => (World.ownsRow.lt o2 b e).1)⟩
def BLZ (A U : World) : Prop := Below A.heap.size A U
theorem BLZ.trans {A U X : World} (h : BLZ A U) (h2 : Below U.heap.size U X) : BLZ A X := bel0Z h h2
theorem bel_drewZ {B : Nat} {w W : World} (n : Nat) (h : Below B w W) : Below B w (W.drewN n) := ⟨h.os, h.tape, h.output, h.size, h.block⟩
theorem quiet_lit3 {P : Program} {id : Nat} {Q : Exit → Act → World → Prop} {a : Act} {w : World} {l : List Oper} {C : World → Prop} (hm : P.follows .mixedOrders = true) (hB : Region.lexB .any l.toArray = true) (hC : C w.drew)
    (h : wpQuiet P l.toArray C (fun a' => ∀ w', C w' → Q .normal a' w') l a) : (Code.region id l.toArray true).wp P Q a w :=
  wp_region_quiet (C := C) hm hB hC (by simpa using h)
end Go.Proofs.YtkmnonkabekclaaDoor

import Derived.Test.YtnboehlbcjfndaaGreatDoorChecked
import Derived.WalkKit
import Derived.Below
import Derived.BigQuiet
import Derived.OwnWalk
import Derived.Laws.OwnMore
import Derived.Deep.AppendLies
import Derived.Deep.CutBlock
namespace Go.Proofs.YtnboehlbcjfndaaGreatDoor
open Go.RowKit
theorem gr_belZ {W X : World} (h : Below W.heap.size W X) (row : Option Nat) : W.grownBy X row := ⟨h.os, h.tape, h.output, h.size, fun k hk _ => h.block k hk⟩
theorem gr_transZ {a b c : World} {row : Option Nat} (h1 : a.grownBy b row) (h2 : b.grownBy c row) : a.grownBy c row :=
  ⟨h2.os.trans h1.os, h2.tape.trans h1.tape, h2.output.trans h1.output, Nat.le_trans h1.size h2.size, fun k hk hne => (h2.block k (Nat.lt_of_lt_of_le hk h1.size) hne).trans (h1.block k hk hne)⟩
theorem gr_newZ {W X Y : World} {row row2 : Option Nat} (h : W.grownBy X row) (g : X.grownBy Y row2) (hr : ∀ k, row2 = some k → row = some k ∨ W.heap.size ≤ k) : W.grownBy Y row :=
  ⟨g.1.trans h.1, g.2.trans h.2, g.3.trans h.3, Nat.le_trans h.4 g.4, fun k hk hne => (g.5 k (Nat.lt_of_lt_of_le hk h.4) (fun e => by rcases hr k e.symm with h1 | h1; exact hne h1.symm; omega)).trans (h.5 k hk hne)⟩
theorem bel_grZ {w W X : World} {row : Option Nat} (h : Below w.heap.size w W) (hg : W.grownBy X row) (hr : ∀ k, row = some k → w.heap.size ≤ k) : Below w.heap.size w X := h.grown hg h.size hr
theorem own_belZ {W X : World} {B n : Nat} {e : TypeId} {sz : Nat} {v : Value} {xs : List Value} (h : W.ownsRow B e sz v n xs) (hb : Below W.heap.size W X) : X.ownsRow B e sz v n xs := by
  refine h.kept (gr_belZ hb none) ?_
  generalize v.ownBlock = b
  cases b with
  | none => exact .inl rfl
  | some b => exact .inr (by intro e; cases e)
theorem own_baseZ {W : World} {A B n : Nat} {e : TypeId} {sz : Nat} {v : Value} {xs : List Value} (h : W.ownsRow B e sz v n xs) (hA : A ≤ B) : W.ownsRow A e sz v n xs := by
  rcases h.2 with h' | ⟨g, cap, cur, h', hb, r⟩
  · exact ⟨h.1, .inl h'⟩
  · exact ⟨h.1, .inr ⟨g, cap, cur, h', Nat.le_trans hA hb, r⟩⟩
/-- a row of one-celled things that is one's own -/
def OWZ (T : TypeId) (W : World) (B : Nat) (v : Value) (L : List Value) : Prop := W.ownsRow B T 1 v L.length L
def offZ (row : Option Nat) (v : Value) : Prop := v.ownBlock = none ∨ v.ownBlock ≠ row
theorem OWZ.kept {T : TypeId} {W X : World} {B : Nat} {v : Value} {L : List Value} {row : Option Nat} (h : OWZ T W B v L) (hg : W.grownBy X row) (ho : offZ row v) : OWZ T X B v L := World.ownsRow.kept h hg ho
theorem OWZ.below {T : TypeId} {W X : World} {B : Nat} {v : Value} {L : List Value} (h : OWZ T W B v L) (hb : Below W.heap.size W X) : OWZ T X B v L := own_belZ h hb
theorem OWZ.lt {T : TypeId} {W : World} {B : Nat} {v : Value} {L : List Value} (h : OWZ T W B v L) : ∀ b, v.ownBlock = some b → B ≤ b ∧ b < W.heap.size := World.ownsRow.lt h
theorem OWZ.base {T : TypeId} {W : World} {A B : Nat} {v : Value} {L : List Value} (h : OWZ T W B v L) (hA : A ≤ B) : OWZ T W A v L := own_baseZ h hA
theorem OWZ.shape {T : TypeId} {W : World} {B : Nat} {v : Value} {L : List Value} (h : OWZ T W B v L) : ∃ p c, v = .slice p L.length c := by
  rcases h.2 with ⟨e, h0⟩ | ⟨g, c, _, e, _⟩
  · exact ⟨none, 0, by rw [h0]; exact e⟩
  · exact ⟨_, _, e⟩
theorem OWZ.cell {T : TypeId} {W : World} {B n c : Nat} {p : Option Addr} {L : List Value} {j : Nat} {u : Value} (h : OWZ T W B (.slice p n c) L) (hu : L[j]? = some u) : ∃ g, p = some ⟨g, 0, none⟩ ∧ W.cell? ⟨g, j, none⟩ = some u ∧ W.frozen? ⟨g, j, none⟩ = false := by
  have hl : n = L.length := by
    obtain ⟨p', c', e⟩ := h.shape
    injection e
  rcases h.2 with ⟨e, h0⟩ | ⟨g, c2, cur, e, _⟩
  · have := (List.getElem?_eq_some_iff.1 hu).1
    omega
  · injection e with e1 _ _
    subst e1
    have h1 := World.ownsRow.cells h (g := g) rfl j u hu
    have hadd : (⟨g, 0, none⟩ : Addr).add j = ⟨g, j, none⟩ := by unfold Addr.add; split <;> simp_all
    rw [hadd] at h1
    subst hl
    exact ⟨g, rfl, h1, World.ownsRow.frozenAt h j⟩
theorem own_neZ {W : World} {B1 B2 : Nat} {e1 e2 : TypeId} {s1 s2 n1 n2 : Nat} {a v : Value} {xs ys : List Value} (h1 : W.ownsRow B1 e1 s1 a n1 xs) (h2 : W.ownsRow B2 e2 s2 v n2 ys) (hne : e1 ≠ e2) : offZ v.ownBlock a := by
  rcases h1.2 with ⟨rfl, _⟩ | ⟨g, c, cur, rfl, _, hg, _⟩
  · exact .inl rfl
  · refine .inr (fun e => ?_)
    rcases h2.2 with ⟨rfl, _⟩ | ⟨g2, c2, cur2, rfl, _, hg2, _⟩
    · cases e
    · have : g = g2 := by injection e
      subst this
      rw [hg] at hg2
      injection hg2 with h
      injection h with _ h _
      exact hne h
theorem off_boxZ {T T2 : TypeId} {W : World} {B b : Nat} {v : Value} {L : List Value} {cs : Array Value} {m : Nat × Nat} (h : OWZ T W B v L) (hb : W.heap[b]? = some (.cells cs T2 m)) (hne : T ≠ T2) : v.ownBlock ≠ some b := by
  intro e
  rcases h.2 with ⟨rfl, _⟩ | ⟨g, c, cur, rfl, _, hg, _⟩
  · cases e
  · have : g = b := by injection e
    subst this
    rw [hb] at hg
    injection hg with hg
    injection hg with _ hg _
    exact hne hg.symm
theorem own_cutZ {W : World} {B sz g n c i : Nat} {e : TypeId} {xs : List Value} (hi : i ≤ n) (h : W.ownsRow B e sz (.slice (some ⟨g, 0, none⟩) n c) n xs) : W.ownsRow B e sz (.slice (some ⟨g, 0, none⟩) i c) i (xs.take (i * sz)) := by
  have hm : i * sz ≤ n * sz := Nat.mul_le_mul_right _ hi
  rcases h.2 with ⟨h', _⟩ | ⟨g', cap', cur, h', hb, hg, hnc, hcm, hcs, htake⟩
  · cases h'
  · injection h' with a1 _ a3
    injection a1 with a1
    injection a1 with a1
    subst a1 a3
    refine ⟨by rw [List.length_take, h.1, Nat.min_eq_left hm], .inr ⟨g, c, cur, rfl, hb, hg, by omega, hcm, hcs, ?_⟩⟩
    rw [← htake, List.take_take, Nat.min_eq_left hm]
/-- a row, and what goes on from it: in its own block, or in a block of its own -/
def GRZ (T : TypeId) (W : World) (B N2 : Nat) (v : Value) (A : List Value) (G : Value) (S : List Value) : Prop :=
  (∃ g c, v = .slice (some ⟨g, 0, none⟩) A.length c ∧ G = .slice (some ⟨g, 0, none⟩) (A ++ S).length c ∧ OWZ T W B G (A ++ S)) ∨ (OWZ T W N2 G (A ++ S) ∧ OWZ T W B v A)
theorem GRZ.start {T : TypeId} {W : World} {B N2 : Nat} {v : Value} {A : List Value} (h : OWZ T W B v A) : GRZ T W B N2 v A v [] := by
  have h0 := h
  rcases h0.2 with ⟨e, hn⟩ | ⟨g, c, _, e, _⟩
  · have hL := List.eq_nil_of_length_eq_zero hn
    subst hL e
    exact .inr ⟨World.ownsRow_nil _ _ _ _, h⟩
  · refine .inl ⟨g, c, e, ?_, ?_⟩
    · rw [List.append_nil]; exact e
    · rw [List.append_nil]; exact h
theorem GRZ.blk {T : TypeId} {W : World} {B N2 : Nat} {v G : Value} {A S : List Value} (h : GRZ T W B N2 v A G S) : G.ownBlock = v.ownBlock ∨ ∀ b, G.ownBlock = some b → N2 ≤ b := by
  rcases h with ⟨g, c, rfl, rfl, -⟩ | ⟨h, -⟩
  · exact .inl rfl
  · exact .inr (fun b e => (h.lt b e).1)
theorem GRZ.lt {T : TypeId} {W : World} {B N2 : Nat} {v G : Value} {A S : List Value} (h : GRZ T W B N2 v A G S) : (∀ b, G.ownBlock = some b → b < W.heap.size) ∧ (∀ b, v.ownBlock = some b → B ≤ b ∧ b < W.heap.size) := by
  rcases h with ⟨g, c, rfl, rfl, o⟩ | ⟨h, h2⟩
  · exact ⟨fun b e => (o.lt b e).2, fun b e => o.lt b e⟩
  · exact ⟨fun b e => (h.lt b e).2, fun b e => h2.lt b e⟩
theorem GRZ.shape {T : TypeId} {W : World} {B N2 : Nat} {v G : Value} {A S : List Value} (h : GRZ T W B N2 v A G S) : ∃ q c, G = .slice q (A ++ S).length c := by
  rcases h with ⟨g, c, rfl, rfl, o⟩ | ⟨h, h2⟩
  · exact ⟨_, _, rfl⟩
  · exact h.shape
theorem GRZ.kept {T : TypeId} {W X : World} {B N2 : Nat} {v G : Value} {A S : List Value} {row : Option Nat} (h : GRZ T W B N2 v A G S) (hg : W.grownBy X row) (h1 : offZ row v) (h2 : offZ row G) : GRZ T X B N2 v A G S := by
  rcases h with ⟨g, c, e1, e2, o⟩ | ⟨a, b⟩
  · exact .inl ⟨g, c, e1, e2, o.kept hg h2⟩
  · exact .inr ⟨a.kept hg h2, b.kept hg h1⟩
theorem GRZ.below {T : TypeId} {W X : World} {B N2 : Nat} {v G : Value} {A S : List Value} (h : GRZ T W B N2 v A G S) (hb : Below W.heap.size W X) : GRZ T X B N2 v A G S := by
  rcases h with ⟨g, c, e1, e2, o⟩ | ⟨a, b⟩
  · exact .inl ⟨g, c, e1, e2, o.below hb⟩
  · exact .inr ⟨a.below hb, b.below hb⟩
theorem OWZ.pre {T : TypeId} {W : World} {B g c : Nat} {A S : List Value} (o : OWZ T W B (.slice (some ⟨g, 0, none⟩) (A ++ S).length c) (A ++ S)) : OWZ T W B (.slice (some ⟨g, 0, none⟩) A.length c) A := by
  have h := own_cutZ (i := A.length) (by rw [List.length_append]; omega) o
  rw [Nat.mul_one, List.take_left] at h
  exact h
/-- both are read -/
theorem GRZ.own {T : TypeId} {W : World} {B N2 : Nat} {v G : Value} {A S : List Value} (h : GRZ T W B N2 v A G S) (hN : B ≤ N2) : OWZ T W B v A ∧ OWZ T W B G (A ++ S) := by
  rcases h with ⟨g, c, rfl, rfl, o⟩ | ⟨a, b⟩
  · exact ⟨o.pre, o⟩
  · exact ⟨b, a.base hN⟩
/-- one more -/
theorem growZ {T TS : TypeId} {i0 : TypeInfo} {z : Value} {by_ : Nat} {W : World} {B N2 nb : Nat} {v G : Value} {A S : List Value} (x : Value) (ty : TypeId) (hu : Tryz.prog.underlying TS = some (.slice T)) (hi : Tryz.prog.info? T = some i0) (hz0 : i0.zero = some z) (hz1 : i0.size = 1) (hz2 : i0.bytes = by_) (hzc : z.cells.size = 1) (hx : x.oneCell' = true) (hby : by_ ≤ 16) (h : GRZ T W B N2 v A G S) (hnb : W.heap[nb]? = some (.cells #[x] T (0, 0))) (hN : N2 ≤ W.heap.size) (hv : ∀ b, v.ownBlock = some b → b < N2) (hlen : (A ++ S).length ≤ 8600000000) :
    ∃ G' W', (Builtin.append_ #[TS, TS] ty #[G, .slice (some ⟨nb, 0, none⟩) 1 1]).run Tryz.prog W = .ok G' W' ∧ GRZ T W' B N2 v A G' (S ++ [x]) ∧ W.grownBy W' G.ownBlock := by
  have hnews := World.news_of_block hnb
  have hone : ∀ u ∈ [x], u.oneCell' = true := fun u hu => by rw [List.mem_singleton.1 hu]; exact hx
  have eA : A ++ (S ++ [x]) = (A ++ S) ++ [x] := (List.append_assoc _ _ _).symm
  have eL : (A ++ (S ++ [x])).length = (A ++ S).length + 1 := by rw [eA, List.length_append]; rfl
  have hb1 : ((A ++ S).length + 1) * by_ ≤ 140737488355328 := Nat.le_trans (Nat.mul_le_mul (show _ ≤ 8600000001 by omega) hby) (by decide)
  rcases h with ⟨g, c, rfl, rfl, o⟩ | ⟨a, b⟩
  · by_cases room : (A ++ S).length + 1 ≤ c
    · obtain ⟨W', hr, o2, g2⟩ := run_append_fits (P := Tryz.prog) W B TS ty T i0 1 hu hi hz1 g _ c _ o ⟨nb, 0, none⟩ 1 1 [x] rfl hnews hone room
      refine ⟨_, W', hr, .inl ⟨g, c, rfl, by rw [eL], ?_⟩, g2⟩
      unfold OWZ
      rw [eL, eA]
      exact o2
    · obtain ⟨v', W', hr, o2, g2⟩ := run_append_arg_grows (P := Tryz.prog) W TS ty T i0 z 1 by_ hu hi hz0 hz1 hz2 hzc (by decide) ⟨g, 0, none⟩ (A ++ S).length c (A ++ S) (Nat.mul_one _).symm (World.ownsRow.cells o rfl) ⟨nb, 0, none⟩ 1 1 [x] rfl hnews (by omega) (by unfold maxLen; omega) hb1
      have o3 : OWZ T W' N2 v' (A ++ (S ++ [x])) := by
        unfold OWZ
        rw [eL, eA]
        exact own_baseZ o2 hN
      refine ⟨v', W', hr, .inr ⟨o3, o.pre.kept g2 (.inr (by simp [Value.ownBlock]))⟩, ⟨g2.1, g2.2, g2.3, g2.4, fun k hk _ => g2.5 k hk (by simp)⟩⟩
  · obtain ⟨v', W', hr, o2, g2, -⟩ := run_append_own_at (P := Tryz.prog) W N2 TS ty T i0 z 1 by_ hu hi hz0 hz1 hz2 hzc (by decide) G _ _ a ⟨nb, 0, none⟩ 1 1 [x] rfl hnews hone (by unfold maxLen; omega) hb1 hN
    have o3 : OWZ T W' N2 v' (A ++ (S ++ [x])) := by
      unfold OWZ
      rw [eL, eA]
      exact o2
    refine ⟨v', W', hr, .inr ⟨o3, b.kept g2 ?_⟩, g2⟩
    cases hvb : v.ownBlock with
    | none => exact .inl hvb
    | some b1 =>
      refine .inr (fun e => ?_)
      rw [hvb] at e
      have := (a.lt b1 e.symm).1
      have := hv b1 hvb
      omega
end Go.Proofs.YtnboehlbcjfndaaGreatDoor
namespace Go.Proofs.YtnboehlbcjfndaaGreatDoor
open Go.RowKit
/-- an append in a plain region, by its run -/
theorem wpList_runZ {P : Program} {ops : Array Oper} {rest : List Oper} {o : Oper} {a : Act} {w w' : World} {Q : Exit → Act → World → Prop} {v u v' : Value} (hgd : o.guard = none) (s x : Operand) (t : TypeId) (ho : o.op = .call { callee := .builtin .append, args := #[s, x], argTypes := #[t, t] }) (hs : a.eval s = v) (hx : a.eval x = u) (hr : (Builtin.append_ #[t, t] o.type #[v, u]).run P w = .ok v' w') (h : wpList P ops Q rest (a.put o.dst v') w') : wpList P ops Q (o :: rest) a w :=
  wpList_plain hgd fun K hK => by
    unfold Oper.wp execOp
    simp only [ho, resolve, invoke, builtin, Sem.run_bind, Sem.run_pure, Result.andThen_ok, List.map_toArray, List.map_cons, List.map_nil, hs, hx, hr]
    exact hK _ _ h
def stZ (L : List (List UInt8)) : List Value := L.map (fun x => Value.string ⟨x.toArray⟩)
def inZ (V : List Int) : List Value := V.map (fun x => Value.int .i64 x)
theorem info_stZ : (Tryz.prog.info? 9).map (fun i => (i.zero, i.size, i.bytes)) = some (some (.string ⟨#[]⟩), 1, 16) := by kernel_rfl
theorem info_inZ : (Tryz.prog.info? 3).map (fun i => (i.zero, i.size, i.bytes)) = some (some (.int .i64 0), 1, 8) := by kernel_rfl
theorem bel0Z {w w1 w2 : World} (h : Below w.heap.size w w1) (h2 : Below w1.heap.size w1 w2) : Below w.heap.size w w2 := h.trans (h2.mono h.size)
theorem belAZ {w w1 : World} (h : Below w.heap.size w w1) (o : Obj) : Below w.heap.size w (w1.alloc o) := h.alloc h.size o
theorem alloc_getZ (w : World) (o : Obj) : (w.alloc o).heap[w.heap.size]? = some o := by
  show (w.heap.push o)[w.heap.size]? = _
  simp
theorem shapeZ {W : World} {B n : Nat} {e : TypeId} {sz : Nat} {v : Value} {xs : List Value} (h : W.ownsRow B e sz v n xs) : ∃ p c, v = .slice p n c := by
  rcases h.2 with ⟨rfl, rfl⟩ | ⟨g, c, _, rfl, _⟩
  · exact ⟨_, _, rfl⟩
  · exact ⟨_, _, rfl⟩
theorem keepZ {W w' : World} {b : Nat} {o : Obj} (hb : Below W.heap.size W w') (h : W.heap[b]? = some o) : w'.heap[b]? = some o := (hb.block b (by
  rcases Nat.lt_or_ge b W.heap.size with h1 | h1
  · exact h1
  · rw [Array.getElem?_eq_none h1] at h; cases h)).trans h
theorem stZ_len (L : List (List UInt8)) : (stZ L).length = L.length := by simp [stZ]
theorem stZ_at {L : List (List UInt8)} {i : Nat} {x : List UInt8} (h : L[i]? = some x) : (stZ L)[i]? = some (.string ⟨x.toArray⟩) := by simp [stZ, h]
theorem stZ_succ {L : List (List UInt8)} {i : Nat} {x : List UInt8} (h : L[i]? = some x) : stZ (L.take (i + 1)) = stZ (L.take i) ++ [.string ⟨x.toArray⟩] := by simp [stZ, List.take_add_one, h]
set_option maxRecDepth 100000 in
set_option maxHeartbeats 4000000 in
theorem copied_any (L : List (List UInt8)) (p : Option Addr) (n c B : Nat) (w : World) (hn : L.length = n) (hN : n ≤ 8600000000) (h : OWZ 9 w B (.slice p n c) (stZ L)) : Calls Tryz.prog 17 #[.slice p n c] w fun e w' => ∃ v, e = .returned v ∧ OWZ 9 w' w.heap.size v (stZ L) ∧ Below w.heap.size w w' := by
  obtain ⟨iS, hiS, hzS0, hzS1, hzS2⟩ := info_parts info_stZ
  have HH : Hid (OWZ 9 w B (.slice p n c) (stZ L) ∧ L.length = n) := ⟨h, hn⟩
  clear h hn
  go_enter Tryz.func17, Tryz.ntmps17
  go_wp2_with fail
  go_loopw [3, 4] (fun v3 v4 wr => ∃ (i : Nat) (pv : Option Addr) (cv : Nat), v4 = .int .i64 (i : Int) ∧ v3 = .slice pv i cv ∧ i ≤ n ∧ Hid (wr.ownsRow w.heap.size 9 1 (.slice pv i cv) i (stZ (L.take i)) ∧ Below w.heap.size w wr)) (fun _ v4 _ => n - (intOf v4).toNat)
  case atStart => exact ⟨0, none, 0, rfl, rfl, Nat.zero_le _, World.ownsRow_nil _ _ _ _, Below.refl _ _⟩
  case round =>
    obtain ⟨i, pv, cv, rfl, rfl, hi, HR⟩ := hrel
    by_cases hlt : i < n
    · have i0 : (0 : Int) ≤ (i : Int) := by omega
      have i1 : (i : Int) < (n : Int) := by omega
      obtain ⟨x, hx⟩ : ∃ x, L[i]? = some x := ⟨_, List.getElem?_eq_getElem (by rw [HH.out.2]; exact hlt)⟩
      obtain ⟨g, rfl, hc, -⟩ := (HH.out.1.below HR.out.2).cell (stZ_at hx)
      have HX0 : Hid (L[i]? = some x) := hx
      have oF : (wr.alloc (.cells #[.string ⟨x.toArray⟩] 9 (0, 0))).ownsRow w.heap.size 9 1 (.slice pv i cv) i (stZ (L.take i)) := own_belZ HR.out.1 (belAZ (Below.refl _ _) _)
      have hbs : w.heap.size ≤ (wr.alloc (.cells #[.string ⟨x.toArray⟩] 9 (0, 0))).heap.size := (belAZ HR.out.2 _).size
      clear hx
      go_wp2_with (at_builtin; refine wpList_append_own _ rfl _ _ 30 rfl w.heap.size 9 iS _ 1 16 Tryz.underlying30 hiS hzS0 hzS1 hzS2 rfl (by decide) _ _ _ rfl oF ⟨_, 0, none⟩ 1 1 [.string ⟨x.toArray⟩] rfl rfl (World.news_of_block (cs := #[.string ⟨x.toArray⟩]) (t := 9) (fr := (0, 0)) (alloc_getZ _ _)) (by simp [Value.oneCell']) (by unfold maxLen; omega) (by omega) hbs ?_; intro v9 w9 o9 g9 _)
      obtain ⟨p9, c9, rfl⟩ := shapeZ o9
      have HX : Hid (w9.ownsRow w.heap.size 9 1 (.slice p9 (i + 1) c9) (i + 1) (stZ (L.take (i + 1))) ∧ Below w.heap.size w w9) := ⟨by rw [stZ_succ HX0.out]; exact o9, bel_grZ (belAZ HR.out.2 _) g9 (fun k e => (oF.lt k e).1)⟩
      clear o9 g9 oF hbs hc
      go_wp2_with fail
      go_roundw
      case rel => exact ⟨i + 1, p9, c9, by go_num, rfl, by omega, HX⟩
      case measure => simp [intOf]; omega
    · have i1 : ¬ (i : Int) < (n : Int) := by omega
      obtain rfl : n = i := by omega
      have HZ : Hid (OWZ 9 wr w.heap.size (.slice pv n cv) (stZ L) ∧ Below w.heap.size w wr) := by
        obtain ⟨a, b⟩ := HR.out
        rw [List.take_of_length_le (by rw [HH.out.2]; exact Nat.le_refl _)] at a
        refine ⟨?_, b⟩
        unfold OWZ
        rw [stZ_len, HH.out.2]
        exact a
      go_wp2_with fail
      go_ret
      exact ⟨_, rfl, HZ.out⟩
theorem inZ_len (L : List Int) : (inZ L).length = L.length := by simp [inZ]
theorem inZ_at {L : List Int} {i : Nat} {x : Int} (h : L[i]? = some x) : (inZ L)[i]? = some (.int .i64 x) := by simp [inZ, h]
theorem inZ_succ {L : List Int} {i : Nat} {x : Int} (h : L[i]? = some x) : inZ (L.take (i + 1)) = inZ (L.take i) ++ [.int .i64 x] := by simp [inZ, List.take_add_one, h]
set_option maxRecDepth 100000 in
set_option maxHeartbeats 4000000 in
theorem ints_any (L : List Int) (p : Option Addr) (n c B : Nat) (w : World) (hn : L.length = n) (hN : n ≤ 8600000000) (h : OWZ 3 w B (.slice p n c) (inZ L)) : Calls Tryz.prog 18 #[.slice p n c] w fun e w' => ∃ v, e = .returned v ∧ OWZ 3 w' w.heap.size v (inZ L) ∧ Below w.heap.size w w' := by
  obtain ⟨iS, hiS, hzS0, hzS1, hzS2⟩ := info_parts info_inZ
  have HH : Hid (OWZ 3 w B (.slice p n c) (inZ L) ∧ L.length = n) := ⟨h, hn⟩
  clear h hn
  go_enter Tryz.func18, Tryz.ntmps18
  go_wp2_with fail
  go_loopw [3, 4] (fun v3 v4 wr => ∃ (i : Nat) (pv : Option Addr) (cv : Nat), v4 = .int .i64 (i : Int) ∧ v3 = .slice pv i cv ∧ i ≤ n ∧ Hid (wr.ownsRow w.heap.size 3 1 (.slice pv i cv) i (inZ (L.take i)) ∧ Below w.heap.size w wr)) (fun _ v4 _ => n - (intOf v4).toNat)
  case atStart => exact ⟨0, none, 0, rfl, rfl, Nat.zero_le _, World.ownsRow_nil _ _ _ _, Below.refl _ _⟩
  case round =>
    obtain ⟨i, pv, cv, rfl, rfl, hi, HR⟩ := hrel
    by_cases hlt : i < n
    · have i0 : (0 : Int) ≤ (i : Int) := by omega
      have i1 : (i : Int) < (n : Int) := by omega
      obtain ⟨x, hx⟩ : ∃ x, L[i]? = some x := ⟨_, List.getElem?_eq_getElem (by rw [HH.out.2]; exact hlt)⟩
      obtain ⟨g, rfl, hc, -⟩ := (HH.out.1.below HR.out.2).cell (inZ_at hx)
      have HX0 : Hid (L[i]? = some x) := hx
      have oF : (wr.alloc (.cells #[.int .i64 x] 3 (0, 0))).ownsRow w.heap.size 3 1 (.slice pv i cv) i (inZ (L.take i)) := own_belZ HR.out.1 (belAZ (Below.refl _ _) _)
      have hbs : w.heap.size ≤ (wr.alloc (.cells #[.int .i64 x] 3 (0, 0))).heap.size := (belAZ HR.out.2 _).size
      clear hx
      go_wp2_with (at_builtin; refine wpList_append_own _ rfl _ _ 22 rfl w.heap.size 3 iS _ 1 8 Tryz.underlying22 hiS hzS0 hzS1 hzS2 rfl (by decide) _ _ _ rfl oF ⟨_, 0, none⟩ 1 1 [.int .i64 x] rfl rfl (World.news_of_block (cs := #[.int .i64 x]) (t := 3) (fr := (0, 0)) (alloc_getZ _ _)) (by simp [Value.oneCell']) (by unfold maxLen; omega) (by omega) hbs ?_; intro v9 w9 o9 g9 _)
      obtain ⟨p9, c9, rfl⟩ := shapeZ o9
      have HX : Hid (w9.ownsRow w.heap.size 3 1 (.slice p9 (i + 1) c9) (i + 1) (inZ (L.take (i + 1))) ∧ Below w.heap.size w w9) := ⟨by rw [inZ_succ HX0.out]; exact o9, bel_grZ (belAZ HR.out.2 _) g9 (fun k e => (oF.lt k e).1)⟩
      clear o9 g9 oF hbs hc
      go_wp2_with fail
      go_roundw
      case rel => exact ⟨i + 1, p9, c9, by go_num, rfl, by omega, HX⟩
      case measure => simp [intOf]; omega
    · have i1 : ¬ (i : Int) < (n : Int) := by omega
      obtain rfl : n = i := by omega
      have HZ : Hid (OWZ 3 wr w.heap.size (.slice pv n cv) (inZ L) ∧ Below w.heap.size w wr) := by
        obtain ⟨a, b⟩ := HR.out
        rw [List.take_of_length_le (by rw [HH.out.2]; exact Nat.le_refl _)] at a
        refine ⟨?_, b⟩
        unfold OWZ
        rw [inZ_len, HH.out.2]
        exact a
      go_wp2_with fail
      go_ret
      exact ⟨_, rfl, HZ.out⟩
end Go.Proofs.YtnboehlbcjfndaaGreatDoor
namespace Go.Proofs.YtnboehlbcjfndaaGreatDoor
open Go.RowKit
/-- old blocks but two stand -/
structure G2 (w X : World) (r1 r2 : Option Nat) : Prop where
  os : X.os = w.os
  tape : X.tape = w.tape
  output : X.output = w.output
  size : w.heap.size ≤ X.heap.size
  block : ∀ k, k < w.heap.size → some k ≠ r1 → some k ≠ r2 → X.heap[k]? = w.heap[k]?
theorem G2.ofBelow {w X : World} {r1 r2 : Option Nat} (h : Below w.heap.size w X) : G2 w X r1 r2 := ⟨h.os, h.tape, h.output, h.size, fun k hk _ _ => h.block k hk⟩
theorem G2.step {w X Y : World} {r1 r2 row : Option Nat} (h : G2 w X r1 r2) (g : X.grownBy Y row) (hr : ∀ k, row = some k → row = r1 ∨ row = r2 ∨ w.heap.size ≤ k) : G2 w Y r1 r2 :=
  ⟨g.os.trans h.os, g.tape.trans h.tape, g.output.trans h.output, Nat.le_trans h.size g.size, fun k hk h1 h2 => (g.block k (Nat.lt_of_lt_of_le hk h.size) (fun e => by
    rcases hr k e.symm with e1 | e1 | e1
    · exact h1 (e.trans e1)
    · exact h2 (e.trans e1)
    · omega)).trans (h.block k hk h1 h2)⟩
theorem G2.below {w X Y : World} {r1 r2 : Option Nat} (h : G2 w X r1 r2) (g : Below X.heap.size X Y) : G2 w Y r1 r2 := h.step (gr_belZ g none) (fun k e => by cases e)
theorem G2.belowTo {w0 w X : World} {r1 r2 : Option Nat} (h : G2 w X r1 r2) (hb : Below w0.heap.size w0 w) (h1 : ∀ k, r1 = some k → w0.heap.size ≤ k) (h2 : ∀ k, r2 = some k → w0.heap.size ≤ k) : Below w0.heap.size w0 X :=
  ⟨h.os.trans hb.os, h.tape.trans hb.tape, h.output.trans hb.output, Nat.le_trans hb.size h.size, fun k hk => (h.block k (Nat.lt_of_lt_of_le hk hb.size) (fun e => by have := h1 k e.symm; omega) (fun e => by have := h2 k e.symm; omega)).trans (hb.block k hk)⟩
theorem own_keep2 {W X : World} {B n : Nat} {e : TypeId} {sz : Nat} {v : Value} {xs : List Value} (h : W.ownsRow B e sz v n xs) (hk : ∀ g, v.ownBlock = some g → X.heap[g]? = W.heap[g]?) : X.ownsRow B e sz v n xs := by
  rcases h.2 with h' | ⟨g, cap, cur, h', hb, hg, r⟩
  · exact ⟨h.1, .inl h'⟩
  · exact ⟨h.1, .inr ⟨g, cap, cur, h', hb, (hk g (by rw [h']; rfl)).trans hg, r⟩⟩
theorem offZ_ne {r : Option Nat} {v : Value} {k : Nat} (h : offZ r v) (hk : v.ownBlock = some k) : some k ≠ r := fun e => by
  rcases h with h | h
  · rw [hk] at h; cases h
  · exact h (hk.trans e)
theorem OWZ.keep2 {T : TypeId} {w X : World} {r1 r2 : Option Nat} {B : Nat} {v : Value} {L : List Value} (h : OWZ T w B v L) (g : G2 w X r1 r2) (h1 : offZ r1 v) (h2 : offZ r2 v) : OWZ T X B v L :=
  own_keep2 h (fun k hk => g.block k (h.lt k hk).2 (offZ_ne h1 hk) (offZ_ne h2 hk))
theorem GRZ.keep2 {T : TypeId} {w X : World} {r1 r2 : Option Nat} {B N2 : Nat} {v G : Value} {A S : List Value} (h : GRZ T w B N2 v A G S) (g : G2 w X r1 r2) (h1 : offZ r1 v ∧ offZ r2 v) (h2 : offZ r1 G ∧ offZ r2 G) : GRZ T X B N2 v A G S := by
  rcases h with ⟨g0, c, e1, e2, o⟩ | ⟨a, b⟩
  · exact .inl ⟨g0, c, e1, e2, o.keep2 g h2.1 h2.2⟩
  · exact .inr ⟨a.keep2 g h2.1 h2.2, b.keep2 g h1.1 h1.2⟩
theorem GRZ.off {T T2 : TypeId} {W : World} {B N2 b : Nat} {v G : Value} {A S : List Value} {cs : Array Value} {m : Nat × Nat} (h : GRZ T W B N2 v A G S) (hb : W.heap[b]? = some (.cells cs T2 m)) (hne : T ≠ T2) : v.ownBlock ≠ some b ∧ G.ownBlock ≠ some b := by
  rcases h with ⟨g, c, rfl, rfl, o⟩ | ⟨o, o2⟩
  · exact ⟨off_boxZ o.pre hb hne, off_boxZ o hb hne⟩
  · exact ⟨off_boxZ o2 hb hne, off_boxZ o hb hne⟩
theorem GRZ.ne {T T2 : TypeId} {W : World} {B N2 B2 N3 : Nat} {v G u H : Value} {A S A2 S2 : List Value} (h : GRZ T W B N2 v A G S) (k : GRZ T2 W B2 N3 u A2 H S2) (hne : T ≠ T2) : offZ H.ownBlock v ∧ offZ H.ownBlock G := by
  have hk : ∃ B' L, OWZ T2 W B' H L := by
    rcases k with ⟨g, c, rfl, rfl, o⟩ | ⟨o, -⟩
    · exact ⟨_, _, o⟩
    · exact ⟨_, _, o⟩
  obtain ⟨B', L, oh⟩ := hk
  rcases h with ⟨g, c, rfl, rfl, o⟩ | ⟨o, o2⟩
  · exact ⟨own_neZ o.pre oh hne, own_neZ o oh hne⟩
  · exact ⟨own_neZ o2 oh hne, own_neZ o oh hne⟩
theorem set_getZ {W : World} {b j T : Nat} {cs : Array Value} {m : Nat × Nat} (u : Value) (h : W.heap[b]? = some (.cells cs T m)) : (W.setCell ⟨b, j, none⟩ u).heap[b]? = some (.cells (cs.setIfInBounds j u) T m) := by
  simp only [World.setCell, Array.getElem?_modify, if_pos, h, Option.map_some]
  simp
theorem gr_setZ (W : World) (b j : Nat) (u : Value) : W.grownBy (W.setCell ⟨b, j, none⟩ u) (some b) := ⟨rfl, rfl, rfl, by simp, fun k _ hk => heap_setCell_other W ⟨b, j, none⟩ k u (fun e => hk (by simp [e]))⟩
theorem cellsZ {W : World} {b T : Nat} {cs : Array Value} (h : W.heap[b]? = some (.cells cs T (0, 0))) : (∀ j, W.cell? ⟨b, j, none⟩ = cs[j]?) ∧ (∀ j, W.frozen? ⟨b, j, none⟩ = false) := by
  constructor
  · intro j; unfold World.cell?; rw [h]; simp
  · intro j; unfold World.frozen?; rw [h]; simp
theorem lt_getZ {W : World} {b : Nat} {o : Obj} (h : W.heap[b]? = some o) : b < W.heap.size := by
  rcases Nat.lt_or_ge b W.heap.size with h1 | h1
  · exact h1
  · rw [Array.getElem?_eq_none h1] at h; cases h
theorem rep_setZ {α : Type} {L : List α} {i n : Nat} (b : α) (hn : L.length = n) (hi : i < n) : (List.replicate i b ++ L.drop i).set i b = List.replicate (i + 1) b ++ L.drop (i + 1) := by
  have e : L.drop i = L[i]'(by omega) :: L.drop (i + 1) := List.drop_eq_getElem_cons (by omega)
  rw [e, List.set_append_right _ _ (by rw [List.length_replicate]; exact Nat.le_refl _), List.length_replicate, Nat.sub_self, List.replicate_succ', List.append_assoc]
  rfl
theorem stZ_rep (n : Nat) (b : List UInt8) : stZ (List.replicate n b) = List.replicate n (.string ⟨b.toArray⟩) := by simp [stZ]
theorem inZ_rep (n : Nat) (b : Int) : inZ (List.replicate n b) = List.replicate n (.int .i64 b) := by simp [inZ]
theorem put5Z {W : World} {b T : Nat} {m : Nat × Nat} {x0 x1 x2 x3 x4 : Value} (v0 v1 v2 v3 v4 : Value) (h : W.heap[b]? = some (.cells #[x0, x1, x2, x3, x4] T m)) : (((((W.setCell ⟨b, 0, none⟩ v0).setCell ⟨b, 1, none⟩ v1).setCell ⟨b, 2, none⟩ v2).setCell ⟨b, 3, none⟩ v3).setCell ⟨b, 4, none⟩ v4).heap[b]? = some (.cells #[v0, v1, v2, v3, v4] T m) := by
  have h0 := set_getZ (j := 0) v0 h
  have h1 := set_getZ (j := 1) v1 h0
  have h2 := set_getZ (j := 2) v2 h1
  have h3 := set_getZ (j := 3) v3 h2
  have h4 := set_getZ (j := 4) v4 h3
  simpa using h4
theorem gr_put5Z (W : World) (b : Nat) (v0 v1 v2 v3 v4 : Value) : W.grownBy (((((W.setCell ⟨b, 0, none⟩ v0).setCell ⟨b, 1, none⟩ v1).setCell ⟨b, 2, none⟩ v2).setCell ⟨b, 3, none⟩ v3).setCell ⟨b, 4, none⟩ v4) (some b) := gr_transZ (gr_setZ W b 0 v0) (gr_transZ (gr_setZ _ b 1 v1) (gr_transZ (gr_setZ _ b 2 v2) (gr_transZ (gr_setZ _ b 3 v3) (gr_setZ _ b 4 v4))))
theorem res_keptZ {fn : Func} {p : Tmp} {mm : Nat × Nat} (tmps : Array Value) (W : World) (b : Nat) (p1 p2 p3 p4 : Option Addr) (l1 c1 l2 c2 l3 c3 l4 c4 : Nat) (z : Int) (hr : fn.results = #[.cell p 49]) (hp : tmps.getD p undef = .pointer (some ⟨b, 0, none⟩)) (h : W.heap[b]? = some (.cells #[.slice p1 l1 c1, .slice p2 l2 c2, .slice p3 l3 c3, .slice p4 l4 c4, .int .i64 z] 49 mm)) :
    (results fn tmps).run Tryz.prog W = .ok (.agg #[.slice p1 l1 c1, .slice p2 l2 c2, .slice p3 l3 c3, .slice p4 l4 c4, .int .i64 z]) W := by
  have hc : ∀ j, W.cell? ⟨b, j, none⟩ = (#[.slice p1 l1 c1, .slice p2 l2 c2, .slice p3 l3 c3, .slice p4 l4 c4, .int .i64 z] : Array Value)[j]? := by
    intro j; unfold World.cell?; rw [h]; simp
  have hp' : tmps[p]?.getD undef = .pointer (some ⟨b, 0, none⟩) := by simpa using hp
  simp [results, hr, hp', go_sem, hc]
theorem GRZ.later {T T2 : TypeId} {W X : World} {B N2 b : Nat} {v G : Value} {A S : List Value} {cs : Array Value} {m : Nat × Nat} (h : GRZ T W B N2 v A G S) (hb : W.heap[b]? = some (.cells cs T2 m)) (hne : T ≠ T2) (hg : W.grownBy X (some b)) : GRZ T X B N2 v A G S := h.kept hg (.inr (h.off hb hne).1) (.inr (h.off hb hne).2)
/-- what kept leaves -/
def KPZ (bt : List UInt8) (mk : Int) (B n1 n2 : Nat) (v1 G1 v2 G2' : Value) (w X : World) : Prop := GRZ 9 X B w.heap.size v1 (List.replicate n1 (.string ⟨bt.toArray⟩)) G1 (List.replicate 64 (.string ⟨bt.toArray⟩)) ∧ GRZ 3 X B w.heap.size v2 (List.replicate n2 (.int .i64 mk)) G2' (List.replicate 64 (.int .i64 mk)) ∧ G2 w X v1.ownBlock v2.ownBlock
set_option maxRecDepth 100000 in
set_option maxHeartbeats 16000000 in
theorem kept_any (bt : List UInt8) (L1 L2 : List Value) (p1 p2 : Option Addr) (n1 c1 n2 c2 B mark : Nat) (mk : Int) (w : World) (hl1 : L1.length = n1) (hl2 : L2.length = n2) (h1 : OWZ 9 w B (.slice p1 n1 c1) L1) (h2 : OWZ 3 w B (.slice p2 n2 c2) L2) (hN1 : n1 ≤ 8589934592) (hN2 : n2 ≤ 8589934592) (hm : mark ≤ 100000) (hmk : mk = -1 - (mark : Int))
    (hB : ∀ W, Calls Tryz.prog 37 #[.int .i64 (mark : Int), .int .i64 12] W fun e w' => e = .returned (.string ⟨bt.toArray⟩) ∧ Below W.heap.size W w') :
    Calls Tryz.prog 20 #[.slice p1 n1 c1, .slice p2 n2 c2, .int .i64 (mark : Int)] w fun e w' => ∃ q1 d1 q2 d2, e = .returned (.agg #[.slice p1 n1 c1, .slice q1 (n1 + 64) d1, .slice p2 n2 c2, .slice q2 (n2 + 64) d2, .int .i64 (mark : Int)]) ∧ KPZ bt mk B n1 n2 (.slice p1 n1 c1) (.slice q1 (n1 + 64) d1) (.slice p2 n2 c2) (.slice q2 (n2 + 64) d2) w w' := by
  obtain ⟨iS, hiS, hzS0, hzS1, hzS2⟩ := info_parts info_stZ
  obtain ⟨iI, hiI, hzI0, hzI1, hzI2⟩ := info_parts info_inZ
  obtain ⟨b, hb⟩ : ∃ b, w.heap.size = b := ⟨_, rfl⟩
  have hmk1 : IntKind.i64.wrap (-1 - (mark : Int)) = mk := by rw [IntKind.wrap_i64]; omega
  have HB := hB (w.alloc (.cells #[.slice none 0 0, .slice none 0 0, .slice none 0 0, .slice none 0 0, .int .i64 0] 49 (0, 0)))
  have HH : Hid (OWZ 9 w B (.slice p1 n1 c1) L1 ∧ OWZ 3 w B (.slice p2 n2 c2) L2 ∧ L1.length = n1 ∧ L2.length = n2) := ⟨h1, h2, hl1, hl2⟩
  clear h1 h2 hl1 hl2 hB hmk
  go_enter Tryz.func20, Tryz.ntmps20
  go_wp2_with fail
  refine HB.mono ?_
  rintro e w1 ⟨rfl, hb1⟩
  have H0 : Hid (∃ K1, K1.length = n1 ∧ K1 = List.replicate 0 (Value.string ⟨bt.toArray⟩) ++ L1.drop 0 ∧ OWZ 9 w1 B (.slice p1 n1 c1) K1 ∧ OWZ 3 w1 B (.slice p2 n2 c2) L2 ∧ w1.heap[b]? = some (.cells #[.slice none 0 0, .slice none 0 0, .slice none 0 0, .slice none 0 0, .int .i64 0] 49 (0, 0)) ∧ G2 w w1 (Value.slice p1 n1 c1).ownBlock (Value.slice p2 n2 c2).ownBlock) := by
    have hba : Below w.heap.size w w1 := bel0Z (belAZ (Below.refl _ _) _) hb1
    exact ⟨L1, HH.out.2.2.1, rfl, HH.out.1.below hba, HH.out.2.1.below hba, by rw [← hb]; exact keepZ hb1 (alloc_getZ _ _), G2.ofBelow hba⟩
  clear HB hb1
  go_wp2_with fail
  go_loopw [8] (fun v8 wr => ∃ i : Nat, v8 = .int .i64 (i : Int) ∧ i ≤ n1 ∧ Hid (∃ K1, K1.length = n1 ∧ K1 = List.replicate i (Value.string ⟨bt.toArray⟩) ++ L1.drop i ∧ OWZ 9 wr B (.slice p1 n1 c1) K1 ∧ OWZ 3 wr B (.slice p2 n2 c2) L2 ∧ wr.heap[b]? = some (.cells #[.slice none 0 0, .slice none 0 0, .slice none 0 0, .slice none 0 0, .int .i64 0] 49 (0, 0)) ∧ G2 w wr (Value.slice p1 n1 c1).ownBlock (Value.slice p2 n2 c2).ownBlock)) (fun v8 _ => n1 - (intOf v8).toNat)
  case atStart => exact ⟨0, rfl, Nat.zero_le _, H0⟩
  case round =>
    clear H0
    obtain ⟨i, rfl, hi, HR0⟩ := hrel
    obtain ⟨K1, hr0⟩ := HR0.out
    have HR : Hid (K1.length = n1 ∧ K1 = List.replicate i (Value.string ⟨bt.toArray⟩) ++ L1.drop i ∧ OWZ 9 wr B (.slice p1 n1 c1) K1 ∧ OWZ 3 wr B (.slice p2 n2 c2) L2 ∧ wr.heap[b]? = some (.cells #[.slice none 0 0, .slice none 0 0, .slice none 0 0, .slice none 0 0, .int .i64 0] 49 (0, 0)) ∧ G2 w wr (Value.slice p1 n1 c1).ownBlock (Value.slice p2 n2 c2).ownBlock) := hr0
    clear HR0 hr0
    by_cases hlt : i < n1
    · have i0 : (0 : Int) ≤ (i : Int) := by omega
      have i1 : (i : Int) < (n1 : Int) := by omega
      obtain ⟨u, hu⟩ : ∃ u, K1[i]? = some u := ⟨_, List.getElem?_eq_getElem (by rw [HR.out.1]; exact hlt)⟩
      obtain ⟨g, rfl, hc, hf⟩ := HR.out.2.2.1.cell hu
      have HX : Hid (∃ K1, K1.length = n1 ∧ K1 = List.replicate (i + 1) (Value.string ⟨bt.toArray⟩) ++ L1.drop (i + 1) ∧ OWZ 9 (wr.setCell ⟨g, i, none⟩ (.string ⟨bt.toArray⟩)) B (.slice (some ⟨g, 0, none⟩) n1 c1) K1 ∧ OWZ 3 (wr.setCell ⟨g, i, none⟩ (.string ⟨bt.toArray⟩)) B (.slice p2 n2 c2) L2 ∧ (wr.setCell ⟨g, i, none⟩ (.string ⟨bt.toArray⟩)).heap[b]? = some (.cells #[.slice none 0 0, .slice none 0 0, .slice none 0 0, .slice none 0 0, .int .i64 0] 49 (0, 0)) ∧ G2 w (wr.setCell ⟨g, i, none⟩ (.string ⟨bt.toArray⟩)) (Value.slice (some ⟨g, 0, none⟩) n1 c1).ownBlock (Value.slice p2 n2 c2).ownBlock) := by
        obtain ⟨a1, a2, a3, a4, a5, a6⟩ := HR.out
        have a3' : wr.ownsRow B 9 1 (.slice (some ⟨g, 0, none⟩) n1 c1) n1 K1 := by have h := a3; unfold OWZ at h; rw [a1] at h; exact h
        obtain ⟨s1, s2⟩ := World.ownsRow.stored a3' i (.string ⟨bt.toArray⟩)
        have el : (K1.set i (Value.string ⟨bt.toArray⟩)).length = n1 := by rw [List.length_set]; exact a1
        refine ⟨K1.set i (.string ⟨bt.toArray⟩), el, by rw [a2]; exact rep_setZ _ HH.out.2.2.1 hlt, ?_, a4.kept s2 (own_neZ a4 a3' (by decide)), (s2.block b (by have := a6.size; have := lt_getZ a5; omega) (fun e => off_boxZ a3 a5 (by decide) e.symm)).trans a5, a6.step s2 (fun k e => .inl rfl)⟩
        unfold OWZ
        rw [el]
        exact s1
      clear hu
      go_wp2_with fail
      go_roundw
      case rel => exact ⟨i + 1, by go_num, by omega, HX⟩
      case measure => simp [intOf]; omega
    · have i1 : ¬ (i : Int) < (n1 : Int) := by omega
      obtain rfl : n1 = i := by omega
      have H1 : Hid (∃ K2, K2.length = n2 ∧ K2 = List.replicate 0 (Value.int .i64 mk) ++ L2.drop 0 ∧ OWZ 3 wr B (.slice p2 n2 c2) K2 ∧ OWZ 9 wr B (.slice p1 n1 c1) (List.replicate n1 (Value.string ⟨bt.toArray⟩)) ∧ wr.heap[b]? = some (.cells #[.slice none 0 0, .slice none 0 0, .slice none 0 0, .slice none 0 0, .int .i64 0] 49 (0, 0)) ∧ G2 w wr (Value.slice p1 n1 c1).ownBlock (Value.slice p2 n2 c2).ownBlock) := by
        obtain ⟨a1, a2, a3, a4, a5, a6⟩ := HR.out
        rw [List.drop_of_length_le (by rw [HH.out.2.2.1]; exact Nat.le_refl _), List.append_nil] at a2
        exact ⟨L2, HH.out.2.2.2, rfl, a4, by rw [← a2]; exact a3, a5, a6⟩
      clear HR hi hlt
      go_wp2_with fail
      go_loopw [9] (fun v9 ws => ∃ i : Nat, v9 = .int .i64 (i : Int) ∧ i ≤ n2 ∧ Hid (∃ K2, K2.length = n2 ∧ K2 = List.replicate i (Value.int .i64 mk) ++ L2.drop i ∧ OWZ 3 ws B (.slice p2 n2 c2) K2 ∧ OWZ 9 ws B (.slice p1 n1 c1) (List.replicate n1 (Value.string ⟨bt.toArray⟩)) ∧ ws.heap[b]? = some (.cells #[.slice none 0 0, .slice none 0 0, .slice none 0 0, .slice none 0 0, .int .i64 0] 49 (0, 0)) ∧ G2 w ws (Value.slice p1 n1 c1).ownBlock (Value.slice p2 n2 c2).ownBlock)) (fun v9 _ => n2 - (intOf v9).toNat)
      case atStart => exact ⟨0, rfl, Nat.zero_le _, H1⟩
      case round =>
        clear H1
        rename World => ws
        obtain ⟨i, rfl, hi, HR0⟩ := hrel
        obtain ⟨K2, hr0⟩ := HR0.out
        have HR : Hid (K2.length = n2 ∧ K2 = List.replicate i (Value.int .i64 mk) ++ L2.drop i ∧ OWZ 3 ws B (.slice p2 n2 c2) K2 ∧ OWZ 9 ws B (.slice p1 n1 c1) (List.replicate n1 (Value.string ⟨bt.toArray⟩)) ∧ ws.heap[b]? = some (.cells #[.slice none 0 0, .slice none 0 0, .slice none 0 0, .slice none 0 0, .int .i64 0] 49 (0, 0)) ∧ G2 w ws (Value.slice p1 n1 c1).ownBlock (Value.slice p2 n2 c2).ownBlock) := hr0
        clear HR0 hr0
        by_cases hlt : i < n2
        · have i0 : (0 : Int) ≤ (i : Int) := by omega
          have i1 : (i : Int) < (n2 : Int) := by omega
          obtain ⟨u, hu⟩ : ∃ u, K2[i]? = some u := ⟨_, List.getElem?_eq_getElem (by rw [HR.out.1]; exact hlt)⟩
          obtain ⟨g, rfl, hc, hf⟩ := HR.out.2.2.1.cell hu
          have HX : Hid (∃ K2, K2.length = n2 ∧ K2 = List.replicate (i + 1) (Value.int .i64 mk) ++ L2.drop (i + 1) ∧ OWZ 3 (ws.setCell ⟨g, i, none⟩ (.int .i64 mk)) B (.slice (some ⟨g, 0, none⟩) n2 c2) K2 ∧ OWZ 9 (ws.setCell ⟨g, i, none⟩ (.int .i64 mk)) B (.slice p1 n1 c1) (List.replicate n1 (Value.string ⟨bt.toArray⟩)) ∧ (ws.setCell ⟨g, i, none⟩ (.int .i64 mk)).heap[b]? = some (.cells #[.slice none 0 0, .slice none 0 0, .slice none 0 0, .slice none 0 0, .int .i64 0] 49 (0, 0)) ∧ G2 w (ws.setCell ⟨g, i, none⟩ (.int .i64 mk)) (Value.slice p1 n1 c1).ownBlock (Value.slice (some ⟨g, 0, none⟩) n2 c2).ownBlock) := by
            obtain ⟨a1, a2, a3, a4, a5, a6⟩ := HR.out
            have a3' : ws.ownsRow B 3 1 (.slice (some ⟨g, 0, none⟩) n2 c2) n2 K2 := by have h := a3; unfold OWZ at h; rw [a1] at h; exact h
            obtain ⟨s1, s2⟩ := World.ownsRow.stored a3' i (.int .i64 mk)
            have el : (K2.set i (Value.int .i64 mk)).length = n2 := by rw [List.length_set]; exact a1
            refine ⟨K2.set i (.int .i64 mk), el, by rw [a2]; exact rep_setZ _ HH.out.2.2.2 hlt, ?_, a4.kept s2 (own_neZ a4 a3' (by decide)), (s2.block b (by have := a6.size; have := lt_getZ a5; omega) (fun e => off_boxZ a3 a5 (by decide) e.symm)).trans a5, a6.step s2 (fun k e => .inr (.inl rfl))⟩
            unfold OWZ
            rw [el]
            exact s1
          clear hu
          go_wp2_with fail
          go_roundw
          case rel => exact ⟨i + 1, by go_num, by omega, HX⟩
          case measure => simp [intOf]; omega
        · have i1 : ¬ (i : Int) < (n2 : Int) := by omega
          obtain rfl : n2 = i := by omega
          obtain ⟨b2, hb2⟩ : ∃ b2, ws.heap.size = b2 := ⟨_, rfl⟩
          have H2 : Hid ((ws.alloc (.cells #[.slice p1 n1 c1, .slice p1 n1 c1, .slice p2 n2 c2, .slice p2 n2 c2, .int .i64 (mark : Int)] 49 (0, 0))).heap[b2]? = some (.cells #[.slice p1 n1 c1, .slice p1 n1 c1, .slice p2 n2 c2, .slice p2 n2 c2, .int .i64 (mark : Int)] 49 (0, 0)) ∧ (ws.alloc (.cells #[.slice p1 n1 c1, .slice p1 n1 c1, .slice p2 n2 c2, .slice p2 n2 c2, .int .i64 (mark : Int)] 49 (0, 0))).heap[b]? = some (.cells #[.slice none 0 0, .slice none 0 0, .slice none 0 0, .slice none 0 0, .int .i64 0] 49 (0, 0)) ∧ GRZ 9 (ws.alloc (.cells #[.slice p1 n1 c1, .slice p1 n1 c1, .slice p2 n2 c2, .slice p2 n2 c2, .int .i64 (mark : Int)] 49 (0, 0))) B w.heap.size (.slice p1 n1 c1) (List.replicate n1 (.string ⟨bt.toArray⟩)) (.slice p1 n1 c1) [] ∧ GRZ 3 (ws.alloc (.cells #[.slice p1 n1 c1, .slice p1 n1 c1, .slice p2 n2 c2, .slice p2 n2 c2, .int .i64 (mark : Int)] 49 (0, 0))) B w.heap.size (.slice p2 n2 c2) (List.replicate n2 (.int .i64 mk)) (.slice p2 n2 c2) [] ∧ G2 w (ws.alloc (.cells #[.slice p1 n1 c1, .slice p1 n1 c1, .slice p2 n2 c2, .slice p2 n2 c2, .int .i64 (mark : Int)] 49 (0, 0))) (Value.slice p1 n1 c1).ownBlock (Value.slice p2 n2 c2).ownBlock) := by
            obtain ⟨a1, a2, a3, a4, a5, a6⟩ := HR.out
            rw [List.drop_of_length_le (by rw [HH.out.2.2.2]; exact Nat.le_refl _), List.append_nil] at a2
            rw [a2] at a3
            have hbl : Below ws.heap.size ws (ws.alloc (.cells #[.slice p1 n1 c1, .slice p1 n1 c1, .slice p2 n2 c2, .slice p2 n2 c2, .int .i64 (mark : Int)] 49 (0, 0))) := belAZ (Below.refl _ _) _
            exact ⟨by rw [← hb2]; exact alloc_getZ _ _, keepZ hbl a5, GRZ.start (a4.below hbl), GRZ.start (a3.below hbl), a6.below hbl⟩
          have HLT : Hid ((∀ k, (Value.slice p1 n1 c1).ownBlock = some k → k < w.heap.size) ∧ (∀ k, (Value.slice p2 n2 c2).ownBlock = some k → k < w.heap.size) ∧ w.heap.size ≤ b2 ∧ b < b2 ∧ w.heap.size = b) := ⟨fun k e => (HH.out.1.lt k e).2, fun k e => (HH.out.2.1.lt k e).2, by rw [← hb2]; exact HR.out.2.2.2.2.2.size, by rw [← hb2]; exact lt_getZ HR.out.2.2.2.2.1, hb⟩
          clear HR hi hlt HH
          go_wp2_with fail
          go_loopw [11] (fun v11 wz => ∃ (j : Nat) (q1 q2 : Option Addr) (d1 d2 : Nat), v11 = .int .i64 (j : Int) ∧ j ≤ 64 ∧ Hid (wz.heap[b2]? = some (.cells #[.slice p1 n1 c1, .slice q1 (n1 + j) d1, .slice p2 n2 c2, .slice q2 (n2 + j) d2, .int .i64 (mark : Int)] 49 (0, 0)) ∧ wz.heap[b]? = some (.cells #[.slice none 0 0, .slice none 0 0, .slice none 0 0, .slice none 0 0, .int .i64 0] 49 (0, 0)) ∧ GRZ 9 wz B w.heap.size (.slice p1 n1 c1) (List.replicate n1 (.string ⟨bt.toArray⟩)) (.slice q1 (n1 + j) d1) (List.replicate j (.string ⟨bt.toArray⟩)) ∧ GRZ 3 wz B w.heap.size (.slice p2 n2 c2) (List.replicate n2 (.int .i64 mk)) (.slice q2 (n2 + j) d2) (List.replicate j (.int .i64 mk)) ∧ G2 w wz (Value.slice p1 n1 c1).ownBlock (Value.slice p2 n2 c2).ownBlock)) (fun v11 _ => 64 - (intOf v11).toNat)
          case atStart => exact ⟨0, p1, p2, c1, c2, rfl, by omega, H2⟩
          case round =>
            clear H2 hb2
            rename World => wz
            obtain ⟨j, q1, q2, d1, d2, rfl, hj, HR⟩ := hrel
            by_cases hlt : j < 64
            · have j1 : (j : Int) < 64 := by omega
              obtain ⟨k2, k0, g1, g2, gg⟩ := HR.out
              have bz : Below wz.heap.size wz (wz.alloc (.cells #[.string ⟨bt.toArray⟩] 9 (0, 0))) := belAZ (Below.refl _ _) _
              obtain ⟨G1, X1, hr1, hG1, hg1⟩ := growZ (T := 9) (TS := 30) (.string ⟨bt.toArray⟩) 30 Tryz.underlying30 hiS hzS0 hzS1 hzS2 rfl rfl (by decide) (g1.below bz) (alloc_getZ _ _) (Nat.le_trans gg.size bz.size) HLT.out.1 (by rw [List.length_append, List.length_replicate, List.length_replicate]; omega)
              obtain ⟨q3, d3, rfl⟩ := hG1.shape
              have el1 : (List.replicate n1 (Value.string ⟨bt.toArray⟩) ++ (List.replicate j (Value.string ⟨bt.toArray⟩) ++ [Value.string ⟨bt.toArray⟩])).length = n1 + (j + 1) := by rw [List.length_append, List.length_append, List.length_replicate, List.length_replicate]; rfl
              rw [el1] at hr1 hG1
              rw [← List.replicate_succ'] at hG1
              have kz2 := keepZ bz k2
              have kz0 := keepZ bz k0
              have g2z := g2.below bz
              have g1z := g1.below bz
              have x2 : X1.heap[b2]? = some (.cells #[.slice p1 n1 c1, .slice q1 (n1 + j) d1, .slice p2 n2 c2, .slice q2 (n2 + j) d2, .int .i64 (mark : Int)] 49 (0, 0)) := (hg1.block b2 (lt_getZ kz2) (fun e => (g1z.off kz2 (by decide)).2 e.symm)).trans kz2
              have x0 : X1.heap[b]? = some (.cells #[.slice none 0 0, .slice none 0 0, .slice none 0 0, .slice none 0 0, .int .i64 0] 49 (0, 0)) := (hg1.block b (lt_getZ kz0) (fun e => (g1z.off kz0 (by decide)).2 e.symm)).trans kz0
              have y2 : (X1.setCell ⟨b2, 1, none⟩ (.slice q3 (n1 + (j + 1)) d3)).heap[b2]? = some (.cells #[.slice p1 n1 c1, .slice q3 (n1 + (j + 1)) d3, .slice p2 n2 c2, .slice q2 (n2 + j) d2, .int .i64 (mark : Int)] 49 (0, 0)) := by simpa using set_getZ (j := 1) (.slice q3 (n1 + (j + 1)) d3) x2
              have hs1 := gr_setZ X1 b2 1 (.slice q3 (n1 + (j + 1)) d3)
              have y0 : b ≠ b2 → (X1.setCell ⟨b2, 1, none⟩ (.slice q3 (n1 + (j + 1)) d3)).heap[b]? = some (.cells #[.slice none 0 0, .slice none 0 0, .slice none 0 0, .slice none 0 0, .int .i64 0] 49 (0, 0)) := fun hne => (hs1.block b (lt_getZ x0) (fun e => hne (by injection e))).trans x0
              have gA1 := hG1.later x2 (by decide) hs1
              have gA2 := (g2z.kept hg1 (g2z.ne g1z (by decide)).1 (g2z.ne g1z (by decide)).2).later x2 (by decide) hs1
              have ggA : G2 w (X1.setCell ⟨b2, 1, none⟩ (.slice q3 (n1 + (j + 1)) d3)) (Value.slice p1 n1 c1).ownBlock (Value.slice p2 n2 c2).ownBlock := ((gg.below bz).step hg1 (fun k e => by
                rcases g1z.blk with e1 | e1
                · exact .inl e1
                · exact .inr (.inr (e1 k e)))).step hs1 (fun k e => by injection e with e; have := HLT.out.2.2.1; exact .inr (.inr (by omega)))
              obtain ⟨W2, hW2⟩ : ∃ W2, X1.setCell ⟨b2, 1, none⟩ (.slice q3 (n1 + (j + 1)) d3) = W2 := ⟨_, rfl⟩
              rw [hW2] at y2 y0 hs1 gA1 gA2 ggA
              have HW2 : Hid (X1.setCell ⟨b2, 1, none⟩ (.slice q3 (n1 + (j + 1)) d3) = W2) := hW2
              clear hW2
              have by_ : Below W2.heap.size W2 (W2.alloc (.cells #[.int .i64 mk] 3 (0, 0))) := belAZ (Below.refl _ _) _
              obtain ⟨H1', X2, hr2, hG2, hg2⟩ := growZ (T := 3) (TS := 22) (.int .i64 mk) 22 Tryz.underlying22 hiI hzI0 hzI1 hzI2 rfl rfl (by decide) (gA2.below by_) (alloc_getZ _ _) (Nat.le_trans ggA.size by_.size) HLT.out.2.1 (by rw [List.length_append, List.length_replicate, List.length_replicate]; omega)
              obtain ⟨q4, d4, rfl⟩ := hG2.shape
              have el2 : (List.replicate n2 (Value.int .i64 mk) ++ (List.replicate j (Value.int .i64 mk) ++ [Value.int .i64 mk])).length = n2 + (j + 1) := by rw [List.length_append, List.length_append, List.length_replicate, List.length_replicate]; rfl
              rw [el2] at hr2 hG2
              rw [← List.replicate_succ'] at hG2
              have zA2 := keepZ by_ y2
              have zA0 := keepZ by_ (y0 (by have := HLT.out.2.2.2.1; omega))
              have gB1 := gA1.below by_
              have gB2 := gA2.below by_
              have z2 : X2.heap[b2]? = some (.cells #[.slice p1 n1 c1, .slice q3 (n1 + (j + 1)) d3, .slice p2 n2 c2, .slice q2 (n2 + j) d2, .int .i64 (mark : Int)] 49 (0, 0)) := (hg2.block b2 (lt_getZ zA2) (fun e => (gB2.off zA2 (by decide)).2 e.symm)).trans zA2
              have z0 : X2.heap[b]? = some (.cells #[.slice none 0 0, .slice none 0 0, .slice none 0 0, .slice none 0 0, .int .i64 0] 49 (0, 0)) := (hg2.block b (lt_getZ zA0) (fun e => (gB2.off zA0 (by decide)).2 e.symm)).trans zA0
              have hs2 := gr_setZ X2 b2 3 (.slice q4 (n2 + (j + 1)) d4)
              have HX : Hid ((X2.setCell ⟨b2, 3, none⟩ (.slice q4 (n2 + (j + 1)) d4)).heap[b2]? = some (.cells #[.slice p1 n1 c1, .slice q3 (n1 + (j + 1)) d3, .slice p2 n2 c2, .slice q4 (n2 + (j + 1)) d4, .int .i64 (mark : Int)] 49 (0, 0)) ∧ (X2.setCell ⟨b2, 3, none⟩ (.slice q4 (n2 + (j + 1)) d4)).heap[b]? = some (.cells #[.slice none 0 0, .slice none 0 0, .slice none 0 0, .slice none 0 0, .int .i64 0] 49 (0, 0)) ∧ GRZ 9 (X2.setCell ⟨b2, 3, none⟩ (.slice q4 (n2 + (j + 1)) d4)) B w.heap.size (.slice p1 n1 c1) (List.replicate n1 (.string ⟨bt.toArray⟩)) (.slice q3 (n1 + (j + 1)) d3) (List.replicate (j + 1) (.string ⟨bt.toArray⟩)) ∧ GRZ 3 (X2.setCell ⟨b2, 3, none⟩ (.slice q4 (n2 + (j + 1)) d4)) B w.heap.size (.slice p2 n2 c2) (List.replicate n2 (.int .i64 mk)) (.slice q4 (n2 + (j + 1)) d4) (List.replicate (j + 1) (.int .i64 mk)) ∧ G2 w (X2.setCell ⟨b2, 3, none⟩ (.slice q4 (n2 + (j + 1)) d4)) (Value.slice p1 n1 c1).ownBlock (Value.slice p2 n2 c2).ownBlock) := by
                refine ⟨by simpa using set_getZ (j := 3) (.slice q4 (n2 + (j + 1)) d4) z2, (hs2.block b (lt_getZ z0) (fun e => by have := HLT.out.2.2.2.1; injection e; omega)).trans z0, (gB1.kept hg2 (gB1.ne gB2 (by decide)).1 (gB1.ne gB2 (by decide)).2).later z2 (by decide) hs2, hG2.later z2 (by decide) hs2, ((ggA.below by_).step hg2 (fun k e => ?_)).step hs2 (fun k e => ?_)⟩
                · rcases gB2.blk with e1 | e1
                  · exact .inr (.inl e1)
                  · exact .inr (.inr (e1 k e))
                · injection e with e
                  have := HLT.out.2.2.1
                  exact .inr (.inr (by omega))
              have HR1 : Hid _ := hr1
              have HR2 : Hid _ := hr2
              obtain ⟨u1, -⟩ := cellsZ k2
              obtain ⟨u2, u3⟩ := cellsZ x2
              obtain ⟨u4, -⟩ := cellsZ y2
              obtain ⟨u5, u6⟩ := cellsZ z2
              clear hr1 hr2 k2 k0 g1 g2 gg bz hG1 hg1 el1 kz2 kz0 g2z g1z x2 x0 y2 hs1 y0 gA1 gA2 ggA by_ hG2 hg2 el2 zA2 zA0 gB1 gB2 z2 z0 hs2
              go_upto_region 15 with (at_builtin; refine wpList_runZ rfl _ _ 30 rfl rfl rfl HR1.out ?_; clear HR1)
              rw [HW2.out]
              clear u1 u2 u3 HW2
              go_upto_region 13 with (at_builtin; refine wpList_runZ rfl _ _ 22 rfl rfl rfl HR2.out ?_; clear HR2)
              clear u4 u5 u6
              go_wp2_with fail
              go_roundw
              case rel => exact ⟨j + 1, q3, q4, d3, d4, by go_num, by omega, HX⟩
              case measure => simp [intOf]; omega
            · have j1 : ¬ (j : Int) < 64 := by omega
              obtain rfl : j = 64 := by omega
              obtain ⟨k2, k0, g1, g2, gg⟩ := HR.out
              obtain ⟨u1, -⟩ := cellsZ k2
              obtain ⟨u2, u3⟩ := cellsZ k0
              have hp := put5Z (.slice p1 n1 c1) (.slice q1 (n1 + 64) d1) (.slice p2 n2 c2) (.slice q2 (n2 + 64) d2) (.int .i64 (mark : Int)) k0
              have hgp := gr_put5Z wz b (.slice p1 n1 c1) (.slice q1 (n1 + 64) d1) (.slice p2 n2 c2) (.slice q2 (n2 + 64) d2) (.int .i64 (mark : Int))
              have HE := g1.later k0 (by decide) hgp
              have HF := g2.later k0 (by decide) hgp
              have HG := gg.step hgp (fun k e => by injection e with e; have := HLT.out.2.2.2.2; exact .inr (.inr (by omega)))
              have HK : KPZ bt mk B n1 n2 (.slice p1 n1 c1) (.slice q1 (n1 + 64) d1) (.slice p2 n2 c2) (.slice q2 (n2 + 64) d2) w _ := ⟨HE, HF, HG⟩
              clear HE HF HG
              clear k2 k0 g1 g2 gg hgp HR
              go_wp2_with fail
              refine bodyPost_ret (v := .agg #[.slice p1 n1 c1, .slice q1 (n1 + 64) d1, .slice p2 n2 c2, .slice q2 (n2 + 64) d2, .int .i64 (mark : Int)]) (res_keptZ _ _ b _ _ _ _ _ _ _ _ _ _ _ _ _ Tryz.results20 rfl hp) rfl ⟨q1, d1, q2, d2, rfl, HK⟩
end Go.Proofs.YtnboehlbcjfndaaGreatDoor

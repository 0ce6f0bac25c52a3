import Derived.Test.YtfhlgncpleleaaaDoorUM
import Derived.Deep.CutRange
namespace Go.Proofs.YtfhlgncpleleaaaDoor
open Go.RowKit Go.Shelf
/-- an append in a region that draws, by its run -/
theorem step_runU {P : Program} {ops : Array Oper} {o : Oper} {a : Act} {w w' : World} {K : Act → World → Prop} {Q : Exit → Act → World → Prop} {E : Prop} {v u v' : Value} (hgd : o.guard = none) (s x : Operand) (t : TypeId) (ho : o.op = .call { callee := .builtin .append, args := #[s, x], argTypes := #[t, t] }) (hs : a.eval s = v) (hx : a.eval x = u) (hr : (Builtin.append_ #[t, t] o.type #[v, u]).run P w = .ok v' w') (h : K (a.put o.dst v') w') : if Region.wanted o (yielded ops a.tmps) = true then Oper.wp P o a w K Q else E := by
  have hw : Region.wanted o (yielded ops a.tmps) = true := by simp [Region.wanted, hgd]
  rw [if_pos hw]
  unfold Oper.wp execOp
  simp only [ho, resolve, invoke, builtin, Sem.run_bind, Sem.run_pure, Result.andThen_ok, List.map_toArray, List.map_cons, List.map_nil, hs, hx, hr]
  exact h
theorem keepG {W X : World} {B n b : Nat} {T T2 : TypeId} {sz : Nat} {v : Value} {xs : List Value} {cs : Array Value} {m : Nat × Nat} (hg : W.grownBy X v.ownBlock) (h : W.ownsRow B T sz v n xs) (hb : W.heap[b]? = some (.cells cs T2 m)) (hne : T ≠ T2) : X.heap[b]? = some (.cells cs T2 m) := by
  refine (hg.block b (lt_getZ hb) (fun e => ?_)).trans hb
  rcases h.2 with ⟨rfl, _⟩ | ⟨g, c, cur, rfl, _, hg2, _⟩
  · cases e
  · have : g = b := by injection e with e; exact e.symm
    subst this
    rw [hb] at hg2
    injection hg2 with hg2
    injection hg2 with _ hg2 _
    exact hne hg2.symm
theorem off_boxV {W : World} {B b n T T2 sz : Nat} {v : Value} {xs : List Value} {cs : Array Value} {m : Nat × Nat} (h : W.ownsRow B T sz v n xs) (hb : W.heap[b]? = some (.cells cs T2 m)) (hne : T ≠ T2) : v.ownBlock ≠ some b := by
  intro e
  rcases h.2 with ⟨rfl, _⟩ | ⟨g, c, cur, rfl, _, hg, _⟩
  · cases e
  · have : g = b := by injection e
    subst this
    rw [hb] at hg
    injection hg with hg
    injection hg with _ hg _
    exact absurd hg.symm hne
theorem off_rowsV {W : World} {B B2 n n2 T T2 sz sz2 : Nat} {v v2 : Value} {xs xs2 : List Value} (h : W.ownsRow B T sz v n xs) (h2 : W.ownsRow B2 T2 sz2 v2 n2 xs2) (hne : T ≠ T2) : v.ownBlock = none ∨ v.ownBlock ≠ v2.ownBlock := by
  rcases h2.2 with ⟨rfl, _⟩ | ⟨g, c, cur, rfl, _, hg, _⟩
  · rcases h.2 with ⟨rfl, _⟩ | ⟨g, c, cur, rfl, _, hg, _⟩
    · exact .inl rfl
    · exact .inr (fun e => by cases e)
  · exact .inr (off_boxV h hg hne)
theorem GOK.rowV {W X : World} {B B2 n2 T2 sz2 : Nat} {e : GE} {v2 : Value} {xs2 : List Value} (h : GOK W B e) (h2 : W.ownsRow B2 T2 sz2 v2 n2 xs2) (hne : 9 ≠ T2) (hg : W.grownBy X v2.ownBlock) : GOK X B e := ⟨h.o1.kept hg (off_rowsV h.o1 h2 hne), h.o2.kept hg (off_rowsV h.o2 h2 hne), h.o3.kept hg (off_rowsV h.o3 h2 hne)⟩
theorem GOK.boxV {W X : World} {B b T2 : Nat} {e : GE} {cs : Array Value} {m : Nat × Nat} (h : GOK W B e) (hb : W.heap[b]? = some (.cells cs T2 m)) (hne : 9 ≠ T2) (hg : W.grownBy X (some b)) : GOK X B e := ⟨h.o1.kept hg (.inr (off_boxV h.o1 hb hne)), h.o2.kept hg (.inr (off_boxV h.o2 hb hne)), h.o3.kept hg (.inr (off_boxV h.o3 hb hne))⟩
theorem GOK.base {W : World} {A B : Nat} {e : GE} (h : GOK W B e) (hA : A ≤ B) : GOK W A e := ⟨own_baseZ h.o1 hA, own_baseZ h.o2 hA, own_baseZ h.o3 hA⟩
theorem GRW.base {W : World} {A B : Nat} {Gs : List GE} {v : Value} (h : GRW W B Gs v) (hA : A ≤ B) : GRW W A Gs v := ⟨own_baseZ h.row hA, fun i e he => (h.each i e he).base hA, h.nd⟩
theorem GRW.boxV {W X : World} {B b T2 : Nat} {Gs : List GE} {v : Value} {cs : Array Value} {m : Nat × Nat} (h : GRW W B Gs v) (hb : W.heap[b]? = some (.cells cs T2 m)) (hne : 9 ≠ T2) (hne2 : 30 ≠ T2) (hg : W.grownBy X (some b)) : GRW X B Gs v := ⟨h.row.kept hg (.inr (off_boxV h.row hb hne2)), fun i e he => (h.each i e he).boxV hb hne hg, h.nd⟩
theorem GRW.lt {W : World} {B : Nat} {Gs : List GE} {v : Value} (h : GRW W B Gs v) : ∀ g, g ∈ gbs Gs → g < W.heap.size := by
  intro g hg
  unfold gbs at hg
  obtain ⟨e, he, hm⟩ := List.mem_flatMap.1 hg
  obtain ⟨i, hi⟩ := List.getElem?_of_mem he
  have o := h.each i e hi
  rcases List.mem_cons.1 hm with rfl | hm
  · exact (o.o1.lt _ rfl).2
  rcases List.mem_cons.1 hm with rfl | hm
  · exact (o.o2.lt _ rfl).2
  rcases List.mem_cons.1 hm with rfl | hm
  · exact (o.o3.lt _ rfl).2
  · cases hm
theorem gvs_snoc (Gs : List GE) (e : GE) : gvs (Gs ++ [e]) = gvs Gs ++ e.v.vs := by
  unfold gvs
  rw [List.flatMap_append, List.flatMap_cons, List.flatMap_nil, List.append_nil]
theorem gbs_snoc (Gs : List GE) (e : GE) : gbs (Gs ++ [e]) = gbs Gs ++ [e.g1, e.g2, e.g3] := by
  unfold gbs
  rw [List.flatMap_append, List.flatMap_cons, List.flatMap_nil, List.append_nil]
/-- one reply more -/
theorem gr_roundV {W0 wt W9 : World} {B Y i x j : Nat} {Gs : List GE} {e : GE} {v v9 u : Value} {O : Obj} {cs : Array Value} {m : Nat × Nat} (h0 : GRW W0 B Gs v) (hY : W0.heap.size ≤ Y) (hBY : B ≤ Y) (h : GRW wt B Gs v) (hn : Gs.length = i) (he : GOK wt Y e) (h12 : e.g1 ≠ e.g2) (h13 : e.g1 ≠ e.g3) (h23 : e.g2 ≠ e.g3) (o9 : W9.ownsRow B 30 9 v9 (i + 1) (gvs Gs ++ e.v.vs)) (g9 : (wt.alloc O).grownBy W9 v.ownBlock) (hx : W9.heap[x]? = some (.cells cs 25 m)) : GRW (W9.setCell ⟨x, j, none⟩ u) B (Gs ++ [e]) v9 := by
  have hs := gr_setZ W9 x j u
  have ba := belAZ (Below.refl wt.heap.size wt) O
  have hr := own_belZ h.row ba
  have up : ∀ d : GE, GOK wt B d → GOK (W9.setCell ⟨x, j, none⟩ u) B d := fun d hd => ((hd.below ba).rowV hr (by decide) g9).boxV hx (by decide) hs
  refine ⟨?_, ?_, ?_⟩
  · rw [List.length_append, hn, gvs_snoc]
    exact o9.kept hs (.inr (off_boxV o9 hx (by decide)))
  · intro k d hd
    by_cases hk : k < Gs.length
    · rw [List.getElem?_append_left hk] at hd
      exact up d (h.each k d hd)
    · rw [List.getElem?_append_right (by omega)] at hd
      have hk0 : k - Gs.length = 0 := by have := (List.getElem?_eq_some_iff.1 hd).1; simp at this; omega
      rw [hk0] at hd
      obtain rfl : e = d := by simpa using hd
      exact up e (he.base hBY)
  · rw [gbs_snoc, List.nodup_append]
    have l1 : Y ≤ e.g1 := (he.o1.lt e.g1 rfl).1
    have l2 : Y ≤ e.g2 := (he.o2.lt e.g2 rfl).1
    have l3 : Y ≤ e.g3 := (he.o3.lt e.g3 rfl).1
    refine ⟨h.nd, by simp [h12, h13, h23], fun a ha b hb => ?_⟩
    have la := h0.lt a ha
    simp only [List.mem_cons, List.not_mem_nil, or_false] at hb
    rcases hb with rfl | rfl | rfl <;> omega
theorem QN_go {P : Program} {ops : Array Oper} {n : Nat} {Q : Exit → Act → World → Prop} {a : Act} {w : World} {o : Oper} (ho : ops[n]? = some o) (hg : o.guard = none) (h : o.wp P a w (Q .normal) Q) : QN P ops n Q .normal a w := wpOp_go ho hg h
set_option maxRecDepth 100000 in
set_option maxHeartbeats 16000000 in
theorem twice_any (s : RS) (Es : List VR) (q : Option Addr) (n c : Nat) (w : World) (hn : Es.length = n) (hr : RDR w q Es) (hB : BND s Es) :
    Calls Tryd.prog 4 #[.agg #[.int .i64 s.k, .int .i64 s.c, .int .i64 s.t, .int .i64 s.l, .slice q n c]] w fun e w' => ∃ pv cv Gs, e = .returned (.agg #[.int .i64 s.k, .int .i64 s.c, .int .i64 s.t, .int .i64 s.l, .slice pv n cv]) ∧ GRW w' w.heap.size Gs (.slice pv n cv) ∧ Gs.map (fun e : GE => e.r) = rps Es ∧ Below w.heap.size w w' := by
  obtain ⟨iR, hiR, hzR0, hzR1, hzR2⟩ := info_parts info_rpU
  obtain ⟨k, cd, tx, ln⟩ := s
  simp only
  obtain ⟨bb, hbb⟩ : ∃ bb, w.heap.size = bb := ⟨_, rfl⟩
  obtain ⟨AA, hAA⟩ : ∃ AA, (((w.alloc (.cells #[.int .i64 k, .int .i64 cd, .int .i64 tx, .int .i64 ln, .slice q n c] 25 (0, 0))).alloc (.cells #[.int .i64 0, .int .i64 0, .int .i64 0, .int .i64 0, .slice none 0 0] 25 (0, 0))).alloc (.cells #[.int .i64 k, .int .i64 cd, .int .i64 tx, .int .i64 ln, .slice none 0 0] 25 (0, 0))) = AA := ⟨_, rfl⟩
  have HAA : Hid ((((w.alloc (.cells #[.int .i64 k, .int .i64 cd, .int .i64 tx, .int .i64 ln, .slice q n c] 25 (0, 0))).alloc (.cells #[.int .i64 0, .int .i64 0, .int .i64 0, .int .i64 0, .slice none 0 0] 25 (0, 0))).alloc (.cells #[.int .i64 k, .int .i64 cd, .int .i64 tx, .int .i64 ln, .slice none 0 0] 25 (0, 0))) = AA) := hAA
  have hbA : Below w.heap.size w AA := by rw [← hAA]; exact belAZ (belAZ (belAZ (Below.refl _ _) _) _) _
  have HBA : Hid (Below w.heap.size w AA) := hbA
  have hnn : n ≤ 1000000000 := by rw [← hn]; exact hB.cnt
  have H0 : Hid (∃ Gs pv cv, Gs.map (fun e : GE => e.r) = (rps Es).take 0 ∧ Gs.length = 0 ∧ AA.heap[bb + 1 + 1]? = some (.cells #[.int .i64 k, .int .i64 cd, .int .i64 tx, .int .i64 ln, .slice pv 0 cv] 25 (0, 0)) ∧ AA.heap[bb]? = some (.cells #[.int .i64 k, .int .i64 cd, .int .i64 tx, .int .i64 ln, .slice q n c] 25 (0, 0)) ∧ AA.heap[bb + 1]? = some (.cells #[.int .i64 0, .int .i64 0, .int .i64 0, .int .i64 0, .slice none 0 0] 25 (0, 0)) ∧ GRW AA AA.heap.size Gs (.slice pv 0 cv) ∧ Below w.heap.size w AA ∧ AA.heap.size ≤ AA.heap.size) := by
    refine ⟨[], none, 0, rfl, rfl, ?_, ?_, ?_, ⟨World.ownsRow_nil _ _ _ _, fun i e h => by simp at h, List.nodup_nil⟩, HBA.out, Nat.le_refl _⟩
    · rw [← hAA, show bb + 1 + 1 = ((w.alloc (.cells #[.int .i64 k, .int .i64 cd, .int .i64 tx, .int .i64 ln, .slice q n c] 25 (0, 0))).alloc (.cells #[.int .i64 0, .int .i64 0, .int .i64 0, .int .i64 0, .slice none 0 0] 25 (0, 0))).heap.size by rw [← hbb]; simp]
      exact alloc_getZ _ _
    · rw [← hAA, ← hbb]
      exact keepZ (belAZ (belAZ (Below.refl _ _) _) _) (alloc_getZ _ _)
    · rw [← hAA, show bb + 1 = (w.alloc (.cells #[.int .i64 k, .int .i64 cd, .int .i64 tx, .int .i64 ln, .slice q n c] 25 (0, 0))).heap.size by rw [← hbb]; simp]
      exact keepZ (belAZ (Below.refl _ _) _) (alloc_getZ _ _)
  have HSZ : Hid (bb ≤ AA.heap.size ∧ bb + 1 + 1 < AA.heap.size ∧ bb = w.heap.size) := ⟨by rw [← hAA, ← hbb]; exact (belAZ (belAZ (belAZ (Below.refl w.heap.size w) _) _) _).size, by rw [← hAA, ← hbb]; simp, hbb.symm⟩
  have HR : Hid (RDR w q Es ∧ BND ⟨k, cd, tx, ln⟩ Es ∧ Es.length = n) := ⟨hr, hB, hn⟩
  clear hr hB hn hAA hbA
  go_enter Tryd.func4, Tryd.ntmps4
  go_upto_region 3 with fail
  rw [HAA.out]
  go_wp2_with fail
  go_loopw [4] (fun v4 wr => ∃ i : Nat, v4 = .int .i64 (i : Int) ∧ i ≤ n ∧ Hid (∃ Gs pv cv, Gs.map (fun e : GE => e.r) = (rps Es).take i ∧ Gs.length = i ∧ wr.heap[bb + 1 + 1]? = some (.cells #[.int .i64 k, .int .i64 cd, .int .i64 tx, .int .i64 ln, .slice pv i cv] 25 (0, 0)) ∧ wr.heap[bb]? = some (.cells #[.int .i64 k, .int .i64 cd, .int .i64 tx, .int .i64 ln, .slice q n c] 25 (0, 0)) ∧ wr.heap[bb + 1]? = some (.cells #[.int .i64 0, .int .i64 0, .int .i64 0, .int .i64 0, .slice none 0 0] 25 (0, 0)) ∧ GRW wr AA.heap.size Gs (.slice pv i cv) ∧ Below w.heap.size w wr ∧ AA.heap.size ≤ wr.heap.size)) (fun v4 _ => n - (intOf v4).toNat)
  case atStart => exact ⟨0, rfl, Nat.zero_le _, H0⟩
  case round =>
    clear H0
    obtain ⟨i, rfl, hi, HL⟩ := hrel
    obtain ⟨Gs, pv, cv, hG1, hG2, ho, hbx, hzr, hgw, hbe⟩ := HL.out
    have HG : Hid (Gs.map (fun e : GE => e.r) = (rps Es).take i ∧ Gs.length = i ∧ wr.heap[bb + 1 + 1]? = some (.cells #[.int .i64 k, .int .i64 cd, .int .i64 tx, .int .i64 ln, .slice pv i cv] 25 (0, 0)) ∧ wr.heap[bb]? = some (.cells #[.int .i64 k, .int .i64 cd, .int .i64 tx, .int .i64 ln, .slice q n c] 25 (0, 0)) ∧ wr.heap[bb + 1]? = some (.cells #[.int .i64 0, .int .i64 0, .int .i64 0, .int .i64 0, .slice none 0 0] 25 (0, 0)) ∧ GRW wr AA.heap.size Gs (.slice pv i cv) ∧ Below w.heap.size w wr ∧ AA.heap.size ≤ wr.heap.size) := ⟨hG1, hG2, ho, hbx, hzr, hgw, hbe⟩
    have cb := (cellsZ hbx).1
    clear HL hG1 hG2 ho hbx hzr hgw hbe
    by_cases hlt : i < n
    · have i0 : (0 : Int) ≤ (i : Int) := by omega
      have i1 : (i : Int) < (n : Int) := by omega
      obtain ⟨e, he⟩ : ∃ e, Es[i]? = some e := ⟨_, List.getElem?_eq_getElem (by rw [HR.out.2.2]; exact hlt)⟩
      obtain ⟨⟨g, o0, rfl, hcs⟩, hvo⟩ := HR.out.1 wr HG.out.2.2.2.2.2.2.1 i e he
      have hcn := HR.out.2.1.each e (List.mem_of_getElem? he)
      have HTK : Hid ((rps Es).take (i + 1) = (rps Es).take i ++ [e.r]) := by
        unfold Hid rps
        rw [← List.map_take, ← List.map_take, List.take_add_one, he, Option.toList_some, List.map_append]
        rfl
      clear he
      obtain ⟨⟨k1, fd, sp, wi, po, en, fi, li, mo⟩, p1, c1, p2, c2, p3, c3⟩ := e
      unfold VR.vs at hcs
      simp only at hcs hcn
      obtain ⟨n1, hn1⟩ : ∃ n, po.length = n := ⟨_, rfl⟩
      obtain ⟨n2, hn2⟩ : ∃ n, en.length = n := ⟨_, rfl⟩
      obtain ⟨n3, hn3⟩ : ∃ n, li.length = n := ⟨_, rfl⟩
      rw [hn1, hn2, hn3] at hcn
      simp only [hn1, hn2, hn3] at hcs
      have HV : Hid ((∀ X, Below wr.heap.size wr X → LSR X p1 po ∧ LSR X p2 en ∧ LSR X p3 li) ∧ (po.length = n1 ∧ n1 ≤ 1000000000) ∧ (en.length = n2 ∧ n2 ≤ 1000000000) ∧ (li.length = n3 ∧ n3 ≤ 1000000000)) := ⟨fun X hX => ⟨hvo.l1.later hX, hvo.l2.later hX, hvo.l3.later hX⟩, ⟨hn1, hcn.1⟩, ⟨hn2, hcn.2.1⟩, ⟨hn3, hcn.2.2⟩⟩
      have hc1 : n1 ≤ 1000000000 := hcn.1
      have hc2 : n2 ≤ 1000000000 := hcn.2.1
      have hc3 : n3 ≤ 1000000000 := hcn.2.2
      have x0 := hcs 0 _ rfl
      have x1 := hcs 1 _ rfl
      have x2 := hcs 2 _ rfl
      have x3 := hcs 3 _ rfl
      have x4 := hcs 4 _ rfl
      have x5 := hcs 5 _ rfl
      have x6 := hcs 6 _ rfl
      have x7 := hcs 7 _ rfl
      have x8 := hcs 8 _ rfl
      rw [Nat.add_zero] at x0
      obtain ⟨y, hy⟩ : ∃ y, wr.heap.size = y := ⟨_, rfl⟩
      obtain ⟨Wy, hWy⟩ : ∃ Wy, wr.alloc (.cells #[.int .i64 k1, .bool fd, .string ⟨sp.toArray⟩, .string ⟨wi.toArray⟩, .slice p1 n1 c1, .slice p2 n2 c2, .string ⟨fi.toArray⟩, .slice p3 n3 c3, .bool mo] 30 (0, 0)) = Wy := ⟨_, rfl⟩
      have HWy : Hid (wr.alloc (.cells #[.int .i64 k1, .bool fd, .string ⟨sp.toArray⟩, .string ⟨wi.toArray⟩, .slice p1 n1 c1, .slice p2 n2 c2, .string ⟨fi.toArray⟩, .slice p3 n3 c3, .bool mo] 30 (0, 0)) = Wy ∧ wr.heap.size = y) := ⟨hWy, hy⟩
      have HY0 : Hid (Wy.heap[y]? = some (.cells #[.int .i64 k1, .bool fd, .string ⟨sp.toArray⟩, .string ⟨wi.toArray⟩, .slice p1 n1 c1, .slice p2 n2 c2, .string ⟨fi.toArray⟩, .slice p3 n3 c3, .bool mo] 30 (0, 0)) ∧ Wy.grownBy Wy (some y) ∧ Wy.heap.size ≤ Wy.heap.size ∧ True) := ⟨by rw [← hWy, ← hy]; exact alloc_getZ _ _, gr_belZ (Below.refl _ _) _, Nat.le_refl _, trivial⟩
      have BL : Hid (∀ X, Wy.grownBy X (some y) → Below wr.heap.size wr X) := fun X h => bel_grZ (show Below wr.heap.size wr Wy by rw [← hWy]; exact belAZ (Below.refl _ _) _) h (fun k e => by injection e with e; omega)
      clear hcs hvo hcn hn1 hn2 hn3 hWy
      have cly := (cellsZ HY0.out.1).1
      go_upto_region 7 with fail
      rw [HWy.out.1]
      clear x0 x1 x2 x3 x4 x5 x6 x7 x8 cb hy
      obtain ⟨z, hz⟩ : ∃ z, Wy.heap.size = z := ⟨_, rfl⟩
      have HZ : Hid (Wy.heap.size = z) := hz
      go_cut [5] from 15 to 58 (fun v5 wc => ∃ (g1 d1 : Nat), v5 = .pointer (some ⟨y, 0, none⟩) ∧ Hid (wc.heap[y]? = some (.cells #[.int .i64 k1, .bool fd, .string ⟨sp.toArray⟩, .string ⟨wi.toArray⟩, .slice (some ⟨g1, 0, none⟩) n1 d1, .slice p2 n2 c2, .string ⟨fi.toArray⟩, .slice p3 n3 c3, .bool mo] 30 (0, 0)) ∧ Wy.grownBy wc (some y) ∧ Wy.heap.size ≤ wc.heap.size ∧ wc.ownsRow Wy.heap.size 9 1 (.slice (some ⟨g1, 0, none⟩) (n1 + 1) d1) (n1 + 1) (stZ (po ++ [BEH]))))
      case first =>
        have hs0 : Wy.drew.heap[y]? = some (.cells #[.int .i64 k1, .bool fd, .string ⟨sp.toArray⟩, .string ⟨wi.toArray⟩, .slice p1 n1 c1, .slice p2 n2 c2, .string ⟨fi.toArray⟩, .slice p3 n3 c3, .bool mo] 30 (0, 0)) := HY0.out.1
        clear cly
        refine held_last (S := fun U => U.heap[y]? = some (.cells #[.int .i64 k1, .bool fd, .string ⟨sp.toArray⟩, .string ⟨wi.toArray⟩, .slice p1 n1 c1, .slice p2 n2 c2, .string ⟨fi.toArray⟩, .slice p3 n3 c3, .bool mo] 30 (0, 0))) 11 (by kernel_rfl) (by kernel_rfl) hs0 (fun _ => ?_)
        refine wpAnyH_take (i := 1) (v := .pointer (some ⟨y, 4, none⟩)) rfl (by kernel_rfl) (by kernel_rfl) (by kernel_rfl) (fun _ _ _ h => h) (Or.inl ⟨by rfl, ?_⟩) hs0 ?_
        · rintro w s0; go_simp
        refine wpAnyH_take (i := 2) (v := .slice p1 n1 c1) rfl (by kernel_rfl) (by kernel_rfl) (by kernel_rfl) (fun _ _ _ h => h) (Or.inl ⟨by rfl, ?_⟩) hs0 ?_
        · rintro w s0; have s1 := (cellsZ s0).1; go_simp
        refine wpAnyH_take (i := 6) (v := .pointer (some ⟨y, 4, none⟩)) rfl (by kernel_rfl) (by kernel_rfl) (by kernel_rfl) (fun _ _ _ h => h) (Or.inl ⟨by rfl, ?_⟩) hs0 ?_
        · rintro w s0; go_simp
        refine wpAnyH_take (i := 7) (v := .slice p1 n1 c1) rfl (by kernel_rfl) (by kernel_rfl) (by kernel_rfl) (fun _ _ _ h => h) (Or.inl ⟨by rfl, ?_⟩) hs0 ?_
        · rintro w s0; have s1 := (cellsZ s0).1; go_simp
        refine wpAnyH_take (i := 8) (v := .int .i64 (n1 : Int)) rfl (by kernel_rfl) (by kernel_rfl) (by kernel_rfl) (fun _ _ _ h => h) (Or.inl ⟨by rfl, ?_⟩) hs0 ?_
        · rintro w s0; go_simp
        refine wpAnyH_ready (rs := [0, 4]) (by kernel_rfl) (by simp) ?_
        refine AllReadyH.cons rfl (fun KK hKK => ?_) (AllReadyH.cons rfl (fun KK hKK => ?_) AllReadyH.nil)
        · go_simp
          have b1 := belAZ (Below.drew (Below.refl Wy.heap.size Wy)) (.cells #[] 9 (0, 0))
          have y1 := keepZ b1 HY0.out.1
          have r1 : Wy.grownBy _ (some y) := gr_belZ b1 _
          refine hKK.out _ _ y1 (fun _ => ?_)
          clear hKK KK
          have e1 : (Wy.drew.alloc (.cells #[] 9 (0, 0))).ownsRow Wy.heap.size 9 1 (.slice (some ⟨Wy.heap.size, 0, none⟩) 0 0) 0 [] := World.ownsRow_lit (e := 9) (base := Wy.heap.size) (size := 1) Wy.drew #[] 0 (Nat.le_refl _) (by decide) rfl
          rw [HZ.out] at e1
          refine wpAnyH_ready (rs := [3, 4]) (by kernel_rfl) (by simp) ?_
          refine AllReadyH.cons rfl (fun KK hKK => ?_) (AllReadyH.cons rfl (fun KK hKK => ?_) AllReadyH.nil)
          · rw [← HZ.out] at e1
            obtain ⟨p', c', W2, hr2, o2, r2, y2, -⟩ := tw_app1 c1 e1 r1 y1 (HV.out.1 _ (BL.out _ (gr_transZ HY0.out.2.1 r1))).1 HV.out.2.1.1 HV.out.2.1.2
            rw [HZ.out] at hr2
            refine step_runU (by rfl) _ _ _ (by rfl) (by rfl) (by rfl) hr2 ?_
            refine hKK.out _ _ y2 (fun _ => ?_)
            clear hKK KK hr2 e1 y1 r1 b1
            refine wpAnyH_ready (rs := [4]) (by kernel_rfl) (by simp) ?_
            refine AllReadyH.cons rfl (fun KK hKK => ?_) AllReadyH.nil
            go_simp
            have b3 := belAZ (Below.refl W2.heap.size W2) (.cells #[.string ⟨#[98, 101, 104, 105, 110, 100]⟩] 9 (0, 0))
            have y3 := keepZ b3 y2
            have r3 := gr_newZ r2 (gr_belZ b3 none) (fun k e => by cases e)
            have o3 := own_belZ o2 b3
            have hb3 := alloc_getZ W2 (.cells #[.string ⟨#[98, 101, 104, 105, 110, 100]⟩] 9 (0, 0))
            refine hKK.out _ _ y3 (fun _ => ?_)
            clear hKK KK
            obtain ⟨g1, d1, W6, hr6, cap6, o6, r6, y6⟩ := tw_app2 o3 r3 y3 hb3 HV.out.2.1.1 HV.out.2.1.2
            refine wpAnyH_ready (rs := [5]) (by kernel_rfl) (by simp) ?_
            refine AllReadyH.cons rfl (fun KK hKK => ?_) AllReadyH.nil
            refine step_runU (by rfl) _ _ _ (by rfl) (by rfl) (by rfl) hr6 ?_
            refine hKK.out _ _ y6 (fun _ => ?_)
            clear hKK KK hr6
            have cap1 : (n1 : Int) ≤ (d1 : Int) := by omega
            refine wpAnyH_take (i := 9) (v := .slice (some ⟨g1, 0, none⟩) n1 d1) rfl (by kernel_rfl) (by kernel_rfl) (by kernel_rfl) (fun _ _ _ h => h) (Or.inl ⟨by rfl, ?_⟩) y6 ?_
            · rintro w s0; go_simp
            refine wpAnyH_take (i := 10) (v := .pointer (some ⟨y, 4, none⟩)) rfl (by kernel_rfl) (by kernel_rfl) (by kernel_rfl) (fun _ _ _ h => h) (Or.inl ⟨by rfl, ?_⟩) y6 ?_
            · rintro w s0; go_simp
            refine wpAnyH_done (by kernel_rfl) ?_ _
            have u1 := (cellsZ y6).1
            have u2 := (cellsZ y6).2
            have HX : Hid ((W6.setCell ⟨y, 4, none⟩ (.slice (some ⟨g1, 0, none⟩) n1 d1)).heap[y]? = some (.cells #[.int .i64 k1, .bool fd, .string ⟨sp.toArray⟩, .string ⟨wi.toArray⟩, .slice (some ⟨g1, 0, none⟩) n1 d1, .slice p2 n2 c2, .string ⟨fi.toArray⟩, .slice p3 n3 c3, .bool mo] 30 (0, 0)) ∧ Wy.grownBy (W6.setCell ⟨y, 4, none⟩ (.slice (some ⟨g1, 0, none⟩) n1 d1)) (some y) ∧ Wy.heap.size ≤ (W6.setCell ⟨y, 4, none⟩ (.slice (some ⟨g1, 0, none⟩) n1 d1)).heap.size ∧ (W6.setCell ⟨y, 4, none⟩ (.slice (some ⟨g1, 0, none⟩) n1 d1)).ownsRow Wy.heap.size 9 1 (.slice (some ⟨g1, 0, none⟩) (n1 + 1) d1) (n1 + 1) (stZ (po ++ [BEH]))) := by
              have hz0 : Wy.heap.size = z := HZ.out
              have hset := gr_setZ W6 y 4 (.slice (some ⟨g1, 0, none⟩) n1 d1)
              have hgw := gr_transZ r6 hset
              have hyy : (W6.setCell ⟨y, 4, none⟩ (.slice (some ⟨g1, 0, none⟩) n1 d1)).heap[y]? = some (.cells #[.int .i64 k1, .bool fd, .string ⟨sp.toArray⟩, .string ⟨wi.toArray⟩, .slice (some ⟨g1, 0, none⟩) n1 d1, .slice p2 n2 c2, .string ⟨fi.toArray⟩, .slice p3 n3 c3, .bool mo] 30 (0, 0)) := by simpa using set_getZ (j := 4) (.slice (some ⟨g1, 0, none⟩) n1 d1) y6
              have onew : (W6.setCell ⟨y, 4, none⟩ (.slice (some ⟨g1, 0, none⟩) n1 d1)).ownsRow Wy.heap.size 9 1 (.slice (some ⟨g1, 0, none⟩) (n1 + 1) d1) (n1 + 1) (stZ (po ++ [BEH])) := own_baseZ (o6.kept hset (.inr (fun e => off_boxU o6 y6 e))) HY0.out.2.2.1
              have old : ∀ {v : Value} {m : Nat} {xs : List Value}, Wy.ownsRow Wy.heap.size 9 1 v m xs → (W6.setCell ⟨y, 4, none⟩ (.slice (some ⟨g1, 0, none⟩) n1 d1)).ownsRow Wy.heap.size 9 1 v m xs := fun o => o.kept hgw (.inr (off_boxU o HY0.out.1))
              have lt6 := (o6.lt g1 rfl).1
              exact ⟨hyy, gr_transZ HY0.out.2.1 hgw, Nat.le_trans HY0.out.2.2.1 hgw.size, onew⟩
            clear o6 r6 y6 cap1 cap6
            refine QN_go rfl rfl ?_
            go_simp
            go_wp2_with fail
            go_meet
            exact ⟨g1, d1, rfl, HX⟩
          · go_simp
            have b2 := belAZ b1 (.cells #[.string ⟨#[98, 101, 104, 105, 110, 100]⟩] 9 (0, 0))
            have y2 := keepZ b2 HY0.out.1
            have r2 : Wy.grownBy _ (some y) := gr_belZ b2 _
            refine hKK.out _ _ y2 (fun _ => ?_)
            clear hKK KK
            have e2 := own_belZ e1 (belAZ (Below.refl _ _) (.cells #[.string ⟨#[98, 101, 104, 105, 110, 100]⟩] 9 (0, 0)))
            have hb2 := alloc_getZ (Wy.drew.alloc (.cells #[] 9 (0, 0))) (.cells #[.string ⟨#[98, 101, 104, 105, 110, 100]⟩] 9 (0, 0))
            rw [← HZ.out] at e2
            obtain ⟨p', c', W3, hr3, o3, r3, y3, kp3⟩ := tw_app1 c1 e2 r2 y2 (HV.out.1 _ (BL.out _ (gr_transZ HY0.out.2.1 r2))).1 HV.out.2.1.1 HV.out.2.1.2
            have hb3 := kp3 _ _ hb2 (by simp)
            have hsz1 : (Wy.drew.alloc (.cells #[] 9 (0, 0))).heap.size = z + 1 := by rw [← HZ.out]; exact Array.size_push _
            rw [hsz1] at hb3
            rw [HZ.out] at hr3
            refine wpAnyH_ready (rs := [3]) (by kernel_rfl) (by simp) ?_
            refine AllReadyH.cons rfl (fun KK hKK => ?_) AllReadyH.nil
            refine step_runU (by rfl) _ _ _ (by rfl) (by rfl) (by rfl) hr3 ?_
            refine hKK.out _ _ y3 (fun _ => ?_)
            clear hKK KK hr3 e1 e2 y1 r1 b1 b2 y2 r2 hb2 kp3 hsz1
            obtain ⟨g1, d1, W6, hr6, cap6, o6, r6, y6⟩ := tw_app2 o3 r3 y3 hb3 HV.out.2.1.1 HV.out.2.1.2
            refine wpAnyH_ready (rs := [5]) (by kernel_rfl) (by simp) ?_
            refine AllReadyH.cons rfl (fun KK hKK => ?_) AllReadyH.nil
            refine step_runU (by rfl) _ _ _ (by rfl) (by rfl) (by rfl) hr6 ?_
            refine hKK.out _ _ y6 (fun _ => ?_)
            clear hKK KK hr6
            have cap1 : (n1 : Int) ≤ (d1 : Int) := by omega
            refine wpAnyH_take (i := 9) (v := .slice (some ⟨g1, 0, none⟩) n1 d1) rfl (by kernel_rfl) (by kernel_rfl) (by kernel_rfl) (fun _ _ _ h => h) (Or.inl ⟨by rfl, ?_⟩) y6 ?_
            · rintro w s0; go_simp
            refine wpAnyH_take (i := 10) (v := .pointer (some ⟨y, 4, none⟩)) rfl (by kernel_rfl) (by kernel_rfl) (by kernel_rfl) (fun _ _ _ h => h) (Or.inl ⟨by rfl, ?_⟩) y6 ?_
            · rintro w s0; go_simp
            refine wpAnyH_done (by kernel_rfl) ?_ _
            have u1 := (cellsZ y6).1
            have u2 := (cellsZ y6).2
            have HX : Hid ((W6.setCell ⟨y, 4, none⟩ (.slice (some ⟨g1, 0, none⟩) n1 d1)).heap[y]? = some (.cells #[.int .i64 k1, .bool fd, .string ⟨sp.toArray⟩, .string ⟨wi.toArray⟩, .slice (some ⟨g1, 0, none⟩) n1 d1, .slice p2 n2 c2, .string ⟨fi.toArray⟩, .slice p3 n3 c3, .bool mo] 30 (0, 0)) ∧ Wy.grownBy (W6.setCell ⟨y, 4, none⟩ (.slice (some ⟨g1, 0, none⟩) n1 d1)) (some y) ∧ Wy.heap.size ≤ (W6.setCell ⟨y, 4, none⟩ (.slice (some ⟨g1, 0, none⟩) n1 d1)).heap.size ∧ (W6.setCell ⟨y, 4, none⟩ (.slice (some ⟨g1, 0, none⟩) n1 d1)).ownsRow Wy.heap.size 9 1 (.slice (some ⟨g1, 0, none⟩) (n1 + 1) d1) (n1 + 1) (stZ (po ++ [BEH]))) := by
              have hz0 : Wy.heap.size = z := HZ.out
              have hset := gr_setZ W6 y 4 (.slice (some ⟨g1, 0, none⟩) n1 d1)
              have hgw := gr_transZ r6 hset
              have hyy : (W6.setCell ⟨y, 4, none⟩ (.slice (some ⟨g1, 0, none⟩) n1 d1)).heap[y]? = some (.cells #[.int .i64 k1, .bool fd, .string ⟨sp.toArray⟩, .string ⟨wi.toArray⟩, .slice (some ⟨g1, 0, none⟩) n1 d1, .slice p2 n2 c2, .string ⟨fi.toArray⟩, .slice p3 n3 c3, .bool mo] 30 (0, 0)) := by simpa using set_getZ (j := 4) (.slice (some ⟨g1, 0, none⟩) n1 d1) y6
              have onew : (W6.setCell ⟨y, 4, none⟩ (.slice (some ⟨g1, 0, none⟩) n1 d1)).ownsRow Wy.heap.size 9 1 (.slice (some ⟨g1, 0, none⟩) (n1 + 1) d1) (n1 + 1) (stZ (po ++ [BEH])) := own_baseZ (o6.kept hset (.inr (fun e => off_boxU o6 y6 e))) HY0.out.2.2.1
              have old : ∀ {v : Value} {m : Nat} {xs : List Value}, Wy.ownsRow Wy.heap.size 9 1 v m xs → (W6.setCell ⟨y, 4, none⟩ (.slice (some ⟨g1, 0, none⟩) n1 d1)).ownsRow Wy.heap.size 9 1 v m xs := fun o => o.kept hgw (.inr (off_boxU o HY0.out.1))
              have lt6 := (o6.lt g1 rfl).1
              exact ⟨hyy, gr_transZ HY0.out.2.1 hgw, Nat.le_trans HY0.out.2.2.1 hgw.size, onew⟩
            clear o6 r6 y6 cap1 cap6
            refine QN_go rfl rfl ?_
            go_simp
            go_wp2_with fail
            go_meet
            exact ⟨g1, d1, rfl, HX⟩
        · go_simp
          have b1 := belAZ (Below.drew (Below.refl Wy.heap.size Wy)) (.cells #[.string ⟨#[98, 101, 104, 105, 110, 100]⟩] 9 (0, 0))
          have y1 := keepZ b1 HY0.out.1
          refine hKK.out _ _ y1 (fun _ => ?_)
          clear hKK KK
          have hb1 := alloc_getZ Wy.drew (.cells #[.string ⟨#[98, 101, 104, 105, 110, 100]⟩] 9 (0, 0))
          refine wpAnyH_ready (rs := [0]) (by kernel_rfl) (by simp) ?_
          refine AllReadyH.cons rfl (fun KK hKK => ?_) AllReadyH.nil
          go_simp
          have b2 := belAZ b1 (.cells #[] 9 (0, 0))
          have y2 := keepZ b2 HY0.out.1
          have r2 : Wy.grownBy _ (some y) := gr_belZ b2 _
          refine hKK.out _ _ y2 (fun _ => ?_)
          clear hKK KK
          have e2 : ((Wy.drew.alloc (.cells #[.string ⟨#[98, 101, 104, 105, 110, 100]⟩] 9 (0, 0))).alloc (.cells #[] 9 (0, 0))).ownsRow Wy.heap.size 9 1 (.slice (some ⟨(Wy.drew.alloc (.cells #[.string ⟨#[98, 101, 104, 105, 110, 100]⟩] 9 (0, 0))).heap.size, 0, none⟩) 0 0) 0 [] := World.ownsRow_lit (e := 9) (base := Wy.heap.size) (size := 1) (Wy.drew.alloc (.cells #[.string ⟨#[98, 101, 104, 105, 110, 100]⟩] 9 (0, 0))) #[] 0 b1.size (by decide) rfl
          obtain ⟨p', c', W3, hr3, o3, r3, y3, kp3⟩ := tw_app1 c1 e2 r2 y2 (HV.out.1 _ (BL.out _ (gr_transZ HY0.out.2.1 r2))).1 HV.out.2.1.1 HV.out.2.1.2
          have hb3 := kp3 _ _ (keepZ (belAZ (Below.refl _ _) (.cells #[] 9 (0, 0))) hb1) (by simp)
          have hb3' : W3.heap[z]? = some (.cells #[.string ⟨#[98, 101, 104, 105, 110, 100]⟩] 9 (0, 0)) := by rw [← HZ.out]; exact hb3
          have hsz1 : (Wy.drew.alloc (.cells #[.string ⟨#[98, 101, 104, 105, 110, 100]⟩] 9 (0, 0))).heap.size = z + 1 := by rw [← HZ.out]; exact Array.size_push _
          rw [hsz1] at hr3
          refine wpAnyH_ready (rs := [3]) (by kernel_rfl) (by simp) ?_
          refine AllReadyH.cons rfl (fun KK hKK => ?_) AllReadyH.nil
          refine step_runU (by rfl) _ _ _ (by rfl) (by rfl) (by rfl) hr3 ?_
          refine hKK.out _ _ y3 (fun _ => ?_)
          clear hKK KK hr3 e2 y1 b1 b2 y2 r2 hb1 kp3 hb3 hsz1
          obtain ⟨g1, d1, W6, hr6, cap6, o6, r6, y6⟩ := tw_app2 o3 r3 y3 hb3' HV.out.2.1.1 HV.out.2.1.2
          refine wpAnyH_ready (rs := [5]) (by kernel_rfl) (by simp) ?_
          refine AllReadyH.cons rfl (fun KK hKK => ?_) AllReadyH.nil
          refine step_runU (by rfl) _ _ _ (by rfl) (by rfl) (by rfl) hr6 ?_
          refine hKK.out _ _ y6 (fun _ => ?_)
          clear hKK KK hr6
          have cap1 : (n1 : Int) ≤ (d1 : Int) := by omega
          refine wpAnyH_take (i := 9) (v := .slice (some ⟨g1, 0, none⟩) n1 d1) rfl (by kernel_rfl) (by kernel_rfl) (by kernel_rfl) (fun _ _ _ h => h) (Or.inl ⟨by rfl, ?_⟩) y6 ?_
          · rintro w s0; go_simp
          refine wpAnyH_take (i := 10) (v := .pointer (some ⟨y, 4, none⟩)) rfl (by kernel_rfl) (by kernel_rfl) (by kernel_rfl) (fun _ _ _ h => h) (Or.inl ⟨by rfl, ?_⟩) y6 ?_
          · rintro w s0; go_simp
          refine wpAnyH_done (by kernel_rfl) ?_ _
          have u1 := (cellsZ y6).1
          have u2 := (cellsZ y6).2
          have HX : Hid ((W6.setCell ⟨y, 4, none⟩ (.slice (some ⟨g1, 0, none⟩) n1 d1)).heap[y]? = some (.cells #[.int .i64 k1, .bool fd, .string ⟨sp.toArray⟩, .string ⟨wi.toArray⟩, .slice (some ⟨g1, 0, none⟩) n1 d1, .slice p2 n2 c2, .string ⟨fi.toArray⟩, .slice p3 n3 c3, .bool mo] 30 (0, 0)) ∧ Wy.grownBy (W6.setCell ⟨y, 4, none⟩ (.slice (some ⟨g1, 0, none⟩) n1 d1)) (some y) ∧ Wy.heap.size ≤ (W6.setCell ⟨y, 4, none⟩ (.slice (some ⟨g1, 0, none⟩) n1 d1)).heap.size ∧ (W6.setCell ⟨y, 4, none⟩ (.slice (some ⟨g1, 0, none⟩) n1 d1)).ownsRow Wy.heap.size 9 1 (.slice (some ⟨g1, 0, none⟩) (n1 + 1) d1) (n1 + 1) (stZ (po ++ [BEH]))) := by
            have hz0 : Wy.heap.size = z := HZ.out
            have hset := gr_setZ W6 y 4 (.slice (some ⟨g1, 0, none⟩) n1 d1)
            have hgw := gr_transZ r6 hset
            have hyy : (W6.setCell ⟨y, 4, none⟩ (.slice (some ⟨g1, 0, none⟩) n1 d1)).heap[y]? = some (.cells #[.int .i64 k1, .bool fd, .string ⟨sp.toArray⟩, .string ⟨wi.toArray⟩, .slice (some ⟨g1, 0, none⟩) n1 d1, .slice p2 n2 c2, .string ⟨fi.toArray⟩, .slice p3 n3 c3, .bool mo] 30 (0, 0)) := by simpa using set_getZ (j := 4) (.slice (some ⟨g1, 0, none⟩) n1 d1) y6
            have onew : (W6.setCell ⟨y, 4, none⟩ (.slice (some ⟨g1, 0, none⟩) n1 d1)).ownsRow Wy.heap.size 9 1 (.slice (some ⟨g1, 0, none⟩) (n1 + 1) d1) (n1 + 1) (stZ (po ++ [BEH])) := own_baseZ (o6.kept hset (.inr (fun e => off_boxU o6 y6 e))) HY0.out.2.2.1
            have old : ∀ {v : Value} {m : Nat} {xs : List Value}, Wy.ownsRow Wy.heap.size 9 1 v m xs → (W6.setCell ⟨y, 4, none⟩ (.slice (some ⟨g1, 0, none⟩) n1 d1)).ownsRow Wy.heap.size 9 1 v m xs := fun o => o.kept hgw (.inr (off_boxU o HY0.out.1))
            have lt6 := (o6.lt g1 rfl).1
            exact ⟨hyy, gr_transZ HY0.out.2.1 hgw, Nat.le_trans HY0.out.2.2.1 hgw.size, onew⟩
          clear o6 r6 y6 cap1 cap6
          refine QN_go rfl rfl ?_
          go_simp
          go_wp2_with fail
          go_meet
          exact ⟨g1, d1, rfl, HX⟩
      case rest =>
        clear hz HZ
        clear z
        obtain ⟨g1, d1, rfl, HY1⟩ := hcut
        rename World => wt1
        clear cly
        have cly := (cellsZ HY1.out.1).1
        go_upto_region 8 with fail
        obtain ⟨z, hz⟩ : ∃ z, wt1.heap.size = z := ⟨_, rfl⟩
        have HZ : Hid (wt1.heap.size = z) := hz
        go_cut [5] from 15 to 58 (fun v5 wc => ∃ (g2 d2 : Nat), v5 = .pointer (some ⟨y, 0, none⟩) ∧ Hid (wc.heap[y]? = some (.cells #[.int .i64 k1, .bool fd, .string ⟨sp.toArray⟩, .string ⟨wi.toArray⟩, .slice (some ⟨g1, 0, none⟩) n1 d1, .slice (some ⟨g2, 0, none⟩) n2 d2, .string ⟨fi.toArray⟩, .slice p3 n3 c3, .bool mo] 30 (0, 0)) ∧ Wy.grownBy wc (some y) ∧ Wy.heap.size ≤ wc.heap.size ∧ wc.ownsRow Wy.heap.size 9 1 (.slice (some ⟨g1, 0, none⟩) (n1 + 1) d1) (n1 + 1) (stZ (po ++ [BEH])) ∧ wc.ownsRow Wy.heap.size 9 1 (.slice (some ⟨g2, 0, none⟩) (n2 + 1) d2) (n2 + 1) (stZ (en ++ [BEH])) ∧ g1 ≠ g2))
        case first =>
          have hs0 : wt1.drew.heap[y]? = some (.cells #[.int .i64 k1, .bool fd, .string ⟨sp.toArray⟩, .string ⟨wi.toArray⟩, .slice (some ⟨g1, 0, none⟩) n1 d1, .slice p2 n2 c2, .string ⟨fi.toArray⟩, .slice p3 n3 c3, .bool mo] 30 (0, 0)) := HY1.out.1
          clear cly
          refine held_last (S := fun U => U.heap[y]? = some (.cells #[.int .i64 k1, .bool fd, .string ⟨sp.toArray⟩, .string ⟨wi.toArray⟩, .slice (some ⟨g1, 0, none⟩) n1 d1, .slice p2 n2 c2, .string ⟨fi.toArray⟩, .slice p3 n3 c3, .bool mo] 30 (0, 0))) 11 (by kernel_rfl) (by kernel_rfl) hs0 (fun _ => ?_)
          refine wpAnyH_take (i := 1) (v := .pointer (some ⟨y, 5, none⟩)) rfl (by kernel_rfl) (by kernel_rfl) (by kernel_rfl) (fun _ _ _ h => h) (Or.inl ⟨by rfl, ?_⟩) hs0 ?_
          · rintro w s0; go_simp
          refine wpAnyH_take (i := 2) (v := .slice p2 n2 c2) rfl (by kernel_rfl) (by kernel_rfl) (by kernel_rfl) (fun _ _ _ h => h) (Or.inl ⟨by rfl, ?_⟩) hs0 ?_
          · rintro w s0; have s1 := (cellsZ s0).1; go_simp
          refine wpAnyH_take (i := 6) (v := .pointer (some ⟨y, 5, none⟩)) rfl (by kernel_rfl) (by kernel_rfl) (by kernel_rfl) (fun _ _ _ h => h) (Or.inl ⟨by rfl, ?_⟩) hs0 ?_
          · rintro w s0; go_simp
          refine wpAnyH_take (i := 7) (v := .slice p2 n2 c2) rfl (by kernel_rfl) (by kernel_rfl) (by kernel_rfl) (fun _ _ _ h => h) (Or.inl ⟨by rfl, ?_⟩) hs0 ?_
          · rintro w s0; have s1 := (cellsZ s0).1; go_simp
          refine wpAnyH_take (i := 8) (v := .int .i64 (n2 : Int)) rfl (by kernel_rfl) (by kernel_rfl) (by kernel_rfl) (fun _ _ _ h => h) (Or.inl ⟨by rfl, ?_⟩) hs0 ?_
          · rintro w s0; go_simp
          refine wpAnyH_ready (rs := [0, 4]) (by kernel_rfl) (by simp) ?_
          refine AllReadyH.cons rfl (fun KK hKK => ?_) (AllReadyH.cons rfl (fun KK hKK => ?_) AllReadyH.nil)
          · go_simp
            have b1 := belAZ (Below.drew (Below.refl wt1.heap.size wt1)) (.cells #[] 9 (0, 0))
            have y1 := keepZ b1 HY1.out.1
            have r1 : wt1.grownBy _ (some y) := gr_belZ b1 _
            refine hKK.out _ _ y1 (fun _ => ?_)
            clear hKK KK
            have e1 : (wt1.drew.alloc (.cells #[] 9 (0, 0))).ownsRow wt1.heap.size 9 1 (.slice (some ⟨wt1.heap.size, 0, none⟩) 0 0) 0 [] := World.ownsRow_lit (e := 9) (base := wt1.heap.size) (size := 1) wt1.drew #[] 0 (Nat.le_refl _) (by decide) rfl
            rw [HZ.out] at e1
            refine wpAnyH_ready (rs := [3, 4]) (by kernel_rfl) (by simp) ?_
            refine AllReadyH.cons rfl (fun KK hKK => ?_) (AllReadyH.cons rfl (fun KK hKK => ?_) AllReadyH.nil)
            · rw [← HZ.out] at e1
              obtain ⟨p', c', W2, hr2, o2, r2, y2, -⟩ := tw_app1 c2 e1 r1 y1 (HV.out.1 _ (BL.out _ (gr_transZ HY1.out.2.1 r1))).2.1 HV.out.2.2.1.1 HV.out.2.2.1.2
              rw [HZ.out] at hr2
              refine step_runU (by rfl) _ _ _ (by rfl) (by rfl) (by rfl) hr2 ?_
              refine hKK.out _ _ y2 (fun _ => ?_)
              clear hKK KK hr2 e1 y1 r1 b1
              refine wpAnyH_ready (rs := [4]) (by kernel_rfl) (by simp) ?_
              refine AllReadyH.cons rfl (fun KK hKK => ?_) AllReadyH.nil
              go_simp
              have b3 := belAZ (Below.refl W2.heap.size W2) (.cells #[.string ⟨#[98, 101, 104, 105, 110, 100]⟩] 9 (0, 0))
              have y3 := keepZ b3 y2
              have r3 := gr_newZ r2 (gr_belZ b3 none) (fun k e => by cases e)
              have o3 := own_belZ o2 b3
              have hb3 := alloc_getZ W2 (.cells #[.string ⟨#[98, 101, 104, 105, 110, 100]⟩] 9 (0, 0))
              refine hKK.out _ _ y3 (fun _ => ?_)
              clear hKK KK
              obtain ⟨g2, d2, W6, hr6, cap6, o6, r6, y6⟩ := tw_app2 o3 r3 y3 hb3 HV.out.2.2.1.1 HV.out.2.2.1.2
              refine wpAnyH_ready (rs := [5]) (by kernel_rfl) (by simp) ?_
              refine AllReadyH.cons rfl (fun KK hKK => ?_) AllReadyH.nil
              refine step_runU (by rfl) _ _ _ (by rfl) (by rfl) (by rfl) hr6 ?_
              refine hKK.out _ _ y6 (fun _ => ?_)
              clear hKK KK hr6
              have cap1 : (n2 : Int) ≤ (d2 : Int) := by omega
              refine wpAnyH_take (i := 9) (v := .slice (some ⟨g2, 0, none⟩) n2 d2) rfl (by kernel_rfl) (by kernel_rfl) (by kernel_rfl) (fun _ _ _ h => h) (Or.inl ⟨by rfl, ?_⟩) y6 ?_
              · rintro w s0; go_simp
              refine wpAnyH_take (i := 10) (v := .pointer (some ⟨y, 5, none⟩)) rfl (by kernel_rfl) (by kernel_rfl) (by kernel_rfl) (fun _ _ _ h => h) (Or.inl ⟨by rfl, ?_⟩) y6 ?_
              · rintro w s0; go_simp
              refine wpAnyH_done (by kernel_rfl) ?_ _
              have u1 := (cellsZ y6).1
              have u2 := (cellsZ y6).2
              have HX : Hid ((W6.setCell ⟨y, 5, none⟩ (.slice (some ⟨g2, 0, none⟩) n2 d2)).heap[y]? = some (.cells #[.int .i64 k1, .bool fd, .string ⟨sp.toArray⟩, .string ⟨wi.toArray⟩, .slice (some ⟨g1, 0, none⟩) n1 d1, .slice (some ⟨g2, 0, none⟩) n2 d2, .string ⟨fi.toArray⟩, .slice p3 n3 c3, .bool mo] 30 (0, 0)) ∧ Wy.grownBy (W6.setCell ⟨y, 5, none⟩ (.slice (some ⟨g2, 0, none⟩) n2 d2)) (some y) ∧ Wy.heap.size ≤ (W6.setCell ⟨y, 5, none⟩ (.slice (some ⟨g2, 0, none⟩) n2 d2)).heap.size ∧ (W6.setCell ⟨y, 5, none⟩ (.slice (some ⟨g2, 0, none⟩) n2 d2)).ownsRow Wy.heap.size 9 1 (.slice (some ⟨g1, 0, none⟩) (n1 + 1) d1) (n1 + 1) (stZ (po ++ [BEH])) ∧ (W6.setCell ⟨y, 5, none⟩ (.slice (some ⟨g2, 0, none⟩) n2 d2)).ownsRow Wy.heap.size 9 1 (.slice (some ⟨g2, 0, none⟩) (n2 + 1) d2) (n2 + 1) (stZ (en ++ [BEH])) ∧ g1 ≠ g2) := by
                have hz0 : wt1.heap.size = z := HZ.out
                have hset := gr_setZ W6 y 5 (.slice (some ⟨g2, 0, none⟩) n2 d2)
                have hgw := gr_transZ r6 hset
                have hyy : (W6.setCell ⟨y, 5, none⟩ (.slice (some ⟨g2, 0, none⟩) n2 d2)).heap[y]? = some (.cells #[.int .i64 k1, .bool fd, .string ⟨sp.toArray⟩, .string ⟨wi.toArray⟩, .slice (some ⟨g1, 0, none⟩) n1 d1, .slice (some ⟨g2, 0, none⟩) n2 d2, .string ⟨fi.toArray⟩, .slice p3 n3 c3, .bool mo] 30 (0, 0)) := by simpa using set_getZ (j := 5) (.slice (some ⟨g2, 0, none⟩) n2 d2) y6
                have onew : (W6.setCell ⟨y, 5, none⟩ (.slice (some ⟨g2, 0, none⟩) n2 d2)).ownsRow Wy.heap.size 9 1 (.slice (some ⟨g2, 0, none⟩) (n2 + 1) d2) (n2 + 1) (stZ (en ++ [BEH])) := own_baseZ (o6.kept hset (.inr (fun e => off_boxU o6 y6 e))) HY1.out.2.2.1
                have old : ∀ {v : Value} {m : Nat} {xs : List Value}, wt1.ownsRow Wy.heap.size 9 1 v m xs → (W6.setCell ⟨y, 5, none⟩ (.slice (some ⟨g2, 0, none⟩) n2 d2)).ownsRow Wy.heap.size 9 1 v m xs := fun o => o.kept hgw (.inr (off_boxU o HY1.out.1))
                have lt6 := (o6.lt g2 rfl).1
                have l1 := (HY1.out.2.2.2.lt g1 rfl).2
                exact ⟨hyy, gr_transZ HY1.out.2.1 hgw, Nat.le_trans HY1.out.2.2.1 hgw.size, old HY1.out.2.2.2, onew, by omega⟩
              clear o6 r6 y6 cap1 cap6
              refine QN_go rfl rfl ?_
              go_simp
              go_wp2_with fail
              go_meet
              exact ⟨g2, d2, rfl, HX⟩
            · go_simp
              have b2 := belAZ b1 (.cells #[.string ⟨#[98, 101, 104, 105, 110, 100]⟩] 9 (0, 0))
              have y2 := keepZ b2 HY1.out.1
              have r2 : wt1.grownBy _ (some y) := gr_belZ b2 _
              refine hKK.out _ _ y2 (fun _ => ?_)
              clear hKK KK
              have e2 := own_belZ e1 (belAZ (Below.refl _ _) (.cells #[.string ⟨#[98, 101, 104, 105, 110, 100]⟩] 9 (0, 0)))
              have hb2 := alloc_getZ (wt1.drew.alloc (.cells #[] 9 (0, 0))) (.cells #[.string ⟨#[98, 101, 104, 105, 110, 100]⟩] 9 (0, 0))
              rw [← HZ.out] at e2
              obtain ⟨p', c', W3, hr3, o3, r3, y3, kp3⟩ := tw_app1 c2 e2 r2 y2 (HV.out.1 _ (BL.out _ (gr_transZ HY1.out.2.1 r2))).2.1 HV.out.2.2.1.1 HV.out.2.2.1.2
              have hb3 := kp3 _ _ hb2 (by simp)
              have hsz1 : (wt1.drew.alloc (.cells #[] 9 (0, 0))).heap.size = z + 1 := by rw [← HZ.out]; exact Array.size_push _
              rw [hsz1] at hb3
              rw [HZ.out] at hr3
              refine wpAnyH_ready (rs := [3]) (by kernel_rfl) (by simp) ?_
              refine AllReadyH.cons rfl (fun KK hKK => ?_) AllReadyH.nil
              refine step_runU (by rfl) _ _ _ (by rfl) (by rfl) (by rfl) hr3 ?_
              refine hKK.out _ _ y3 (fun _ => ?_)
              clear hKK KK hr3 e1 e2 y1 r1 b1 b2 y2 r2 hb2 kp3 hsz1
              obtain ⟨g2, d2, W6, hr6, cap6, o6, r6, y6⟩ := tw_app2 o3 r3 y3 hb3 HV.out.2.2.1.1 HV.out.2.2.1.2
              refine wpAnyH_ready (rs := [5]) (by kernel_rfl) (by simp) ?_
              refine AllReadyH.cons rfl (fun KK hKK => ?_) AllReadyH.nil
              refine step_runU (by rfl) _ _ _ (by rfl) (by rfl) (by rfl) hr6 ?_
              refine hKK.out _ _ y6 (fun _ => ?_)
              clear hKK KK hr6
              have cap1 : (n2 : Int) ≤ (d2 : Int) := by omega
              refine wpAnyH_take (i := 9) (v := .slice (some ⟨g2, 0, none⟩) n2 d2) rfl (by kernel_rfl) (by kernel_rfl) (by kernel_rfl) (fun _ _ _ h => h) (Or.inl ⟨by rfl, ?_⟩) y6 ?_
              · rintro w s0; go_simp
              refine wpAnyH_take (i := 10) (v := .pointer (some ⟨y, 5, none⟩)) rfl (by kernel_rfl) (by kernel_rfl) (by kernel_rfl) (fun _ _ _ h => h) (Or.inl ⟨by rfl, ?_⟩) y6 ?_
              · rintro w s0; go_simp
              refine wpAnyH_done (by kernel_rfl) ?_ _
              have u1 := (cellsZ y6).1
              have u2 := (cellsZ y6).2
              have HX : Hid ((W6.setCell ⟨y, 5, none⟩ (.slice (some ⟨g2, 0, none⟩) n2 d2)).heap[y]? = some (.cells #[.int .i64 k1, .bool fd, .string ⟨sp.toArray⟩, .string ⟨wi.toArray⟩, .slice (some ⟨g1, 0, none⟩) n1 d1, .slice (some ⟨g2, 0, none⟩) n2 d2, .string ⟨fi.toArray⟩, .slice p3 n3 c3, .bool mo] 30 (0, 0)) ∧ Wy.grownBy (W6.setCell ⟨y, 5, none⟩ (.slice (some ⟨g2, 0, none⟩) n2 d2)) (some y) ∧ Wy.heap.size ≤ (W6.setCell ⟨y, 5, none⟩ (.slice (some ⟨g2, 0, none⟩) n2 d2)).heap.size ∧ (W6.setCell ⟨y, 5, none⟩ (.slice (some ⟨g2, 0, none⟩) n2 d2)).ownsRow Wy.heap.size 9 1 (.slice (some ⟨g1, 0, none⟩) (n1 + 1) d1) (n1 + 1) (stZ (po ++ [BEH])) ∧ (W6.setCell ⟨y, 5, none⟩ (.slice (some ⟨g2, 0, none⟩) n2 d2)).ownsRow Wy.heap.size 9 1 (.slice (some ⟨g2, 0, none⟩) (n2 + 1) d2) (n2 + 1) (stZ (en ++ [BEH])) ∧ g1 ≠ g2) := by
                have hz0 : wt1.heap.size = z := HZ.out
                have hset := gr_setZ W6 y 5 (.slice (some ⟨g2, 0, none⟩) n2 d2)
                have hgw := gr_transZ r6 hset
                have hyy : (W6.setCell ⟨y, 5, none⟩ (.slice (some ⟨g2, 0, none⟩) n2 d2)).heap[y]? = some (.cells #[.int .i64 k1, .bool fd, .string ⟨sp.toArray⟩, .string ⟨wi.toArray⟩, .slice (some ⟨g1, 0, none⟩) n1 d1, .slice (some ⟨g2, 0, none⟩) n2 d2, .string ⟨fi.toArray⟩, .slice p3 n3 c3, .bool mo] 30 (0, 0)) := by simpa using set_getZ (j := 5) (.slice (some ⟨g2, 0, none⟩) n2 d2) y6
                have onew : (W6.setCell ⟨y, 5, none⟩ (.slice (some ⟨g2, 0, none⟩) n2 d2)).ownsRow Wy.heap.size 9 1 (.slice (some ⟨g2, 0, none⟩) (n2 + 1) d2) (n2 + 1) (stZ (en ++ [BEH])) := own_baseZ (o6.kept hset (.inr (fun e => off_boxU o6 y6 e))) HY1.out.2.2.1
                have old : ∀ {v : Value} {m : Nat} {xs : List Value}, wt1.ownsRow Wy.heap.size 9 1 v m xs → (W6.setCell ⟨y, 5, none⟩ (.slice (some ⟨g2, 0, none⟩) n2 d2)).ownsRow Wy.heap.size 9 1 v m xs := fun o => o.kept hgw (.inr (off_boxU o HY1.out.1))
                have lt6 := (o6.lt g2 rfl).1
                have l1 := (HY1.out.2.2.2.lt g1 rfl).2
                exact ⟨hyy, gr_transZ HY1.out.2.1 hgw, Nat.le_trans HY1.out.2.2.1 hgw.size, old HY1.out.2.2.2, onew, by omega⟩
              clear o6 r6 y6 cap1 cap6
              refine QN_go rfl rfl ?_
              go_simp
              go_wp2_with fail
              go_meet
              exact ⟨g2, d2, rfl, HX⟩
          · go_simp
            have b1 := belAZ (Below.drew (Below.refl wt1.heap.size wt1)) (.cells #[.string ⟨#[98, 101, 104, 105, 110, 100]⟩] 9 (0, 0))
            have y1 := keepZ b1 HY1.out.1
            refine hKK.out _ _ y1 (fun _ => ?_)
            clear hKK KK
            have hb1 := alloc_getZ wt1.drew (.cells #[.string ⟨#[98, 101, 104, 105, 110, 100]⟩] 9 (0, 0))
            refine wpAnyH_ready (rs := [0]) (by kernel_rfl) (by simp) ?_
            refine AllReadyH.cons rfl (fun KK hKK => ?_) AllReadyH.nil
            go_simp
            have b2 := belAZ b1 (.cells #[] 9 (0, 0))
            have y2 := keepZ b2 HY1.out.1
            have r2 : wt1.grownBy _ (some y) := gr_belZ b2 _
            refine hKK.out _ _ y2 (fun _ => ?_)
            clear hKK KK
            have e2 : ((wt1.drew.alloc (.cells #[.string ⟨#[98, 101, 104, 105, 110, 100]⟩] 9 (0, 0))).alloc (.cells #[] 9 (0, 0))).ownsRow wt1.heap.size 9 1 (.slice (some ⟨(wt1.drew.alloc (.cells #[.string ⟨#[98, 101, 104, 105, 110, 100]⟩] 9 (0, 0))).heap.size, 0, none⟩) 0 0) 0 [] := World.ownsRow_lit (e := 9) (base := wt1.heap.size) (size := 1) (wt1.drew.alloc (.cells #[.string ⟨#[98, 101, 104, 105, 110, 100]⟩] 9 (0, 0))) #[] 0 b1.size (by decide) rfl
            obtain ⟨p', c', W3, hr3, o3, r3, y3, kp3⟩ := tw_app1 c2 e2 r2 y2 (HV.out.1 _ (BL.out _ (gr_transZ HY1.out.2.1 r2))).2.1 HV.out.2.2.1.1 HV.out.2.2.1.2
            have hb3 := kp3 _ _ (keepZ (belAZ (Below.refl _ _) (.cells #[] 9 (0, 0))) hb1) (by simp)
            have hb3' : W3.heap[z]? = some (.cells #[.string ⟨#[98, 101, 104, 105, 110, 100]⟩] 9 (0, 0)) := by rw [← HZ.out]; exact hb3
            have hsz1 : (wt1.drew.alloc (.cells #[.string ⟨#[98, 101, 104, 105, 110, 100]⟩] 9 (0, 0))).heap.size = z + 1 := by rw [← HZ.out]; exact Array.size_push _
            rw [hsz1] at hr3
            refine wpAnyH_ready (rs := [3]) (by kernel_rfl) (by simp) ?_
            refine AllReadyH.cons rfl (fun KK hKK => ?_) AllReadyH.nil
            refine step_runU (by rfl) _ _ _ (by rfl) (by rfl) (by rfl) hr3 ?_
            refine hKK.out _ _ y3 (fun _ => ?_)
            clear hKK KK hr3 e2 y1 b1 b2 y2 r2 hb1 kp3 hb3 hsz1
            obtain ⟨g2, d2, W6, hr6, cap6, o6, r6, y6⟩ := tw_app2 o3 r3 y3 hb3' HV.out.2.2.1.1 HV.out.2.2.1.2
            refine wpAnyH_ready (rs := [5]) (by kernel_rfl) (by simp) ?_
            refine AllReadyH.cons rfl (fun KK hKK => ?_) AllReadyH.nil
            refine step_runU (by rfl) _ _ _ (by rfl) (by rfl) (by rfl) hr6 ?_
            refine hKK.out _ _ y6 (fun _ => ?_)
            clear hKK KK hr6
            have cap1 : (n2 : Int) ≤ (d2 : Int) := by omega
            refine wpAnyH_take (i := 9) (v := .slice (some ⟨g2, 0, none⟩) n2 d2) rfl (by kernel_rfl) (by kernel_rfl) (by kernel_rfl) (fun _ _ _ h => h) (Or.inl ⟨by rfl, ?_⟩) y6 ?_
            · rintro w s0; go_simp
            refine wpAnyH_take (i := 10) (v := .pointer (some ⟨y, 5, none⟩)) rfl (by kernel_rfl) (by kernel_rfl) (by kernel_rfl) (fun _ _ _ h => h) (Or.inl ⟨by rfl, ?_⟩) y6 ?_
            · rintro w s0; go_simp
            refine wpAnyH_done (by kernel_rfl) ?_ _
            have u1 := (cellsZ y6).1
            have u2 := (cellsZ y6).2
            have HX : Hid ((W6.setCell ⟨y, 5, none⟩ (.slice (some ⟨g2, 0, none⟩) n2 d2)).heap[y]? = some (.cells #[.int .i64 k1, .bool fd, .string ⟨sp.toArray⟩, .string ⟨wi.toArray⟩, .slice (some ⟨g1, 0, none⟩) n1 d1, .slice (some ⟨g2, 0, none⟩) n2 d2, .string ⟨fi.toArray⟩, .slice p3 n3 c3, .bool mo] 30 (0, 0)) ∧ Wy.grownBy (W6.setCell ⟨y, 5, none⟩ (.slice (some ⟨g2, 0, none⟩) n2 d2)) (some y) ∧ Wy.heap.size ≤ (W6.setCell ⟨y, 5, none⟩ (.slice (some ⟨g2, 0, none⟩) n2 d2)).heap.size ∧ (W6.setCell ⟨y, 5, none⟩ (.slice (some ⟨g2, 0, none⟩) n2 d2)).ownsRow Wy.heap.size 9 1 (.slice (some ⟨g1, 0, none⟩) (n1 + 1) d1) (n1 + 1) (stZ (po ++ [BEH])) ∧ (W6.setCell ⟨y, 5, none⟩ (.slice (some ⟨g2, 0, none⟩) n2 d2)).ownsRow Wy.heap.size 9 1 (.slice (some ⟨g2, 0, none⟩) (n2 + 1) d2) (n2 + 1) (stZ (en ++ [BEH])) ∧ g1 ≠ g2) := by
              have hz0 : wt1.heap.size = z := HZ.out
              have hset := gr_setZ W6 y 5 (.slice (some ⟨g2, 0, none⟩) n2 d2)
              have hgw := gr_transZ r6 hset
              have hyy : (W6.setCell ⟨y, 5, none⟩ (.slice (some ⟨g2, 0, none⟩) n2 d2)).heap[y]? = some (.cells #[.int .i64 k1, .bool fd, .string ⟨sp.toArray⟩, .string ⟨wi.toArray⟩, .slice (some ⟨g1, 0, none⟩) n1 d1, .slice (some ⟨g2, 0, none⟩) n2 d2, .string ⟨fi.toArray⟩, .slice p3 n3 c3, .bool mo] 30 (0, 0)) := by simpa using set_getZ (j := 5) (.slice (some ⟨g2, 0, none⟩) n2 d2) y6
              have onew : (W6.setCell ⟨y, 5, none⟩ (.slice (some ⟨g2, 0, none⟩) n2 d2)).ownsRow Wy.heap.size 9 1 (.slice (some ⟨g2, 0, none⟩) (n2 + 1) d2) (n2 + 1) (stZ (en ++ [BEH])) := own_baseZ (o6.kept hset (.inr (fun e => off_boxU o6 y6 e))) HY1.out.2.2.1
              have old : ∀ {v : Value} {m : Nat} {xs : List Value}, wt1.ownsRow Wy.heap.size 9 1 v m xs → (W6.setCell ⟨y, 5, none⟩ (.slice (some ⟨g2, 0, none⟩) n2 d2)).ownsRow Wy.heap.size 9 1 v m xs := fun o => o.kept hgw (.inr (off_boxU o HY1.out.1))
              have lt6 := (o6.lt g2 rfl).1
              have l1 := (HY1.out.2.2.2.lt g1 rfl).2
              exact ⟨hyy, gr_transZ HY1.out.2.1 hgw, Nat.le_trans HY1.out.2.2.1 hgw.size, old HY1.out.2.2.2, onew, by omega⟩
            clear o6 r6 y6 cap1 cap6
            refine QN_go rfl rfl ?_
            go_simp
            go_wp2_with fail
            go_meet
            exact ⟨g2, d2, rfl, HX⟩
        case rest =>
          clear hz HZ
          clear z
          obtain ⟨g2, d2, rfl, HY2⟩ := hcut
          rename World => wt2
          clear cly
          have cly := (cellsZ HY2.out.1).1
          go_upto_region 9 with fail
          obtain ⟨z, hz⟩ : ∃ z, wt2.heap.size = z := ⟨_, rfl⟩
          have HZ : Hid (wt2.heap.size = z) := hz
          go_cut [5] from 15 to 58 (fun v5 wc => ∃ (g3 d3 : Nat), v5 = .pointer (some ⟨y, 0, none⟩) ∧ Hid (wc.heap[y]? = some (.cells #[.int .i64 k1, .bool fd, .string ⟨sp.toArray⟩, .string ⟨wi.toArray⟩, .slice (some ⟨g1, 0, none⟩) n1 d1, .slice (some ⟨g2, 0, none⟩) n2 d2, .string ⟨fi.toArray⟩, .slice (some ⟨g3, 0, none⟩) n3 d3, .bool mo] 30 (0, 0)) ∧ Wy.grownBy wc (some y) ∧ Wy.heap.size ≤ wc.heap.size ∧ wc.ownsRow Wy.heap.size 9 1 (.slice (some ⟨g1, 0, none⟩) (n1 + 1) d1) (n1 + 1) (stZ (po ++ [BEH])) ∧ wc.ownsRow Wy.heap.size 9 1 (.slice (some ⟨g2, 0, none⟩) (n2 + 1) d2) (n2 + 1) (stZ (en ++ [BEH])) ∧ g1 ≠ g2 ∧ wc.ownsRow Wy.heap.size 9 1 (.slice (some ⟨g3, 0, none⟩) (n3 + 1) d3) (n3 + 1) (stZ (li ++ [BEH])) ∧ g1 ≠ g3 ∧ g2 ≠ g3))
          case first =>
            have hs0 : wt2.drew.heap[y]? = some (.cells #[.int .i64 k1, .bool fd, .string ⟨sp.toArray⟩, .string ⟨wi.toArray⟩, .slice (some ⟨g1, 0, none⟩) n1 d1, .slice (some ⟨g2, 0, none⟩) n2 d2, .string ⟨fi.toArray⟩, .slice p3 n3 c3, .bool mo] 30 (0, 0)) := HY2.out.1
            clear cly
            refine held_last (S := fun U => U.heap[y]? = some (.cells #[.int .i64 k1, .bool fd, .string ⟨sp.toArray⟩, .string ⟨wi.toArray⟩, .slice (some ⟨g1, 0, none⟩) n1 d1, .slice (some ⟨g2, 0, none⟩) n2 d2, .string ⟨fi.toArray⟩, .slice p3 n3 c3, .bool mo] 30 (0, 0))) 11 (by kernel_rfl) (by kernel_rfl) hs0 (fun _ => ?_)
            refine wpAnyH_take (i := 1) (v := .pointer (some ⟨y, 7, none⟩)) rfl (by kernel_rfl) (by kernel_rfl) (by kernel_rfl) (fun _ _ _ h => h) (Or.inl ⟨by rfl, ?_⟩) hs0 ?_
            · rintro w s0; go_simp
            refine wpAnyH_take (i := 2) (v := .slice p3 n3 c3) rfl (by kernel_rfl) (by kernel_rfl) (by kernel_rfl) (fun _ _ _ h => h) (Or.inl ⟨by rfl, ?_⟩) hs0 ?_
            · rintro w s0; have s1 := (cellsZ s0).1; go_simp
            refine wpAnyH_take (i := 6) (v := .pointer (some ⟨y, 7, none⟩)) rfl (by kernel_rfl) (by kernel_rfl) (by kernel_rfl) (fun _ _ _ h => h) (Or.inl ⟨by rfl, ?_⟩) hs0 ?_
            · rintro w s0; go_simp
            refine wpAnyH_take (i := 7) (v := .slice p3 n3 c3) rfl (by kernel_rfl) (by kernel_rfl) (by kernel_rfl) (fun _ _ _ h => h) (Or.inl ⟨by rfl, ?_⟩) hs0 ?_
            · rintro w s0; have s1 := (cellsZ s0).1; go_simp
            refine wpAnyH_take (i := 8) (v := .int .i64 (n3 : Int)) rfl (by kernel_rfl) (by kernel_rfl) (by kernel_rfl) (fun _ _ _ h => h) (Or.inl ⟨by rfl, ?_⟩) hs0 ?_
            · rintro w s0; go_simp
            refine wpAnyH_ready (rs := [0, 4]) (by kernel_rfl) (by simp) ?_
            refine AllReadyH.cons rfl (fun KK hKK => ?_) (AllReadyH.cons rfl (fun KK hKK => ?_) AllReadyH.nil)
            · go_simp
              have b1 := belAZ (Below.drew (Below.refl wt2.heap.size wt2)) (.cells #[] 9 (0, 0))
              have y1 := keepZ b1 HY2.out.1
              have r1 : wt2.grownBy _ (some y) := gr_belZ b1 _
              refine hKK.out _ _ y1 (fun _ => ?_)
              clear hKK KK
              have e1 : (wt2.drew.alloc (.cells #[] 9 (0, 0))).ownsRow wt2.heap.size 9 1 (.slice (some ⟨wt2.heap.size, 0, none⟩) 0 0) 0 [] := World.ownsRow_lit (e := 9) (base := wt2.heap.size) (size := 1) wt2.drew #[] 0 (Nat.le_refl _) (by decide) rfl
              rw [HZ.out] at e1
              refine wpAnyH_ready (rs := [3, 4]) (by kernel_rfl) (by simp) ?_
              refine AllReadyH.cons rfl (fun KK hKK => ?_) (AllReadyH.cons rfl (fun KK hKK => ?_) AllReadyH.nil)
              · rw [← HZ.out] at e1
                obtain ⟨p', c', W2, hr2, o2, r2, y2, -⟩ := tw_app1 c3 e1 r1 y1 (HV.out.1 _ (BL.out _ (gr_transZ HY2.out.2.1 r1))).2.2 HV.out.2.2.2.1 HV.out.2.2.2.2
                rw [HZ.out] at hr2
                refine step_runU (by rfl) _ _ _ (by rfl) (by rfl) (by rfl) hr2 ?_
                refine hKK.out _ _ y2 (fun _ => ?_)
                clear hKK KK hr2 e1 y1 r1 b1
                refine wpAnyH_ready (rs := [4]) (by kernel_rfl) (by simp) ?_
                refine AllReadyH.cons rfl (fun KK hKK => ?_) AllReadyH.nil
                go_simp
                have b3 := belAZ (Below.refl W2.heap.size W2) (.cells #[.string ⟨#[98, 101, 104, 105, 110, 100]⟩] 9 (0, 0))
                have y3 := keepZ b3 y2
                have r3 := gr_newZ r2 (gr_belZ b3 none) (fun k e => by cases e)
                have o3 := own_belZ o2 b3
                have hb3 := alloc_getZ W2 (.cells #[.string ⟨#[98, 101, 104, 105, 110, 100]⟩] 9 (0, 0))
                refine hKK.out _ _ y3 (fun _ => ?_)
                clear hKK KK
                obtain ⟨g3, d3, W6, hr6, cap6, o6, r6, y6⟩ := tw_app2 o3 r3 y3 hb3 HV.out.2.2.2.1 HV.out.2.2.2.2
                refine wpAnyH_ready (rs := [5]) (by kernel_rfl) (by simp) ?_
                refine AllReadyH.cons rfl (fun KK hKK => ?_) AllReadyH.nil
                refine step_runU (by rfl) _ _ _ (by rfl) (by rfl) (by rfl) hr6 ?_
                refine hKK.out _ _ y6 (fun _ => ?_)
                clear hKK KK hr6
                have cap1 : (n3 : Int) ≤ (d3 : Int) := by omega
                refine wpAnyH_take (i := 9) (v := .slice (some ⟨g3, 0, none⟩) n3 d3) rfl (by kernel_rfl) (by kernel_rfl) (by kernel_rfl) (fun _ _ _ h => h) (Or.inl ⟨by rfl, ?_⟩) y6 ?_
                · rintro w s0; go_simp
                refine wpAnyH_take (i := 10) (v := .pointer (some ⟨y, 7, none⟩)) rfl (by kernel_rfl) (by kernel_rfl) (by kernel_rfl) (fun _ _ _ h => h) (Or.inl ⟨by rfl, ?_⟩) y6 ?_
                · rintro w s0; go_simp
                refine wpAnyH_done (by kernel_rfl) ?_ _
                have u1 := (cellsZ y6).1
                have u2 := (cellsZ y6).2
                have HX : Hid ((W6.setCell ⟨y, 7, none⟩ (.slice (some ⟨g3, 0, none⟩) n3 d3)).heap[y]? = some (.cells #[.int .i64 k1, .bool fd, .string ⟨sp.toArray⟩, .string ⟨wi.toArray⟩, .slice (some ⟨g1, 0, none⟩) n1 d1, .slice (some ⟨g2, 0, none⟩) n2 d2, .string ⟨fi.toArray⟩, .slice (some ⟨g3, 0, none⟩) n3 d3, .bool mo] 30 (0, 0)) ∧ Wy.grownBy (W6.setCell ⟨y, 7, none⟩ (.slice (some ⟨g3, 0, none⟩) n3 d3)) (some y) ∧ Wy.heap.size ≤ (W6.setCell ⟨y, 7, none⟩ (.slice (some ⟨g3, 0, none⟩) n3 d3)).heap.size ∧ (W6.setCell ⟨y, 7, none⟩ (.slice (some ⟨g3, 0, none⟩) n3 d3)).ownsRow Wy.heap.size 9 1 (.slice (some ⟨g1, 0, none⟩) (n1 + 1) d1) (n1 + 1) (stZ (po ++ [BEH])) ∧ (W6.setCell ⟨y, 7, none⟩ (.slice (some ⟨g3, 0, none⟩) n3 d3)).ownsRow Wy.heap.size 9 1 (.slice (some ⟨g2, 0, none⟩) (n2 + 1) d2) (n2 + 1) (stZ (en ++ [BEH])) ∧ g1 ≠ g2 ∧ (W6.setCell ⟨y, 7, none⟩ (.slice (some ⟨g3, 0, none⟩) n3 d3)).ownsRow Wy.heap.size 9 1 (.slice (some ⟨g3, 0, none⟩) (n3 + 1) d3) (n3 + 1) (stZ (li ++ [BEH])) ∧ g1 ≠ g3 ∧ g2 ≠ g3) := by
                  have hz0 : wt2.heap.size = z := HZ.out
                  have hset := gr_setZ W6 y 7 (.slice (some ⟨g3, 0, none⟩) n3 d3)
                  have hgw := gr_transZ r6 hset
                  have hyy : (W6.setCell ⟨y, 7, none⟩ (.slice (some ⟨g3, 0, none⟩) n3 d3)).heap[y]? = some (.cells #[.int .i64 k1, .bool fd, .string ⟨sp.toArray⟩, .string ⟨wi.toArray⟩, .slice (some ⟨g1, 0, none⟩) n1 d1, .slice (some ⟨g2, 0, none⟩) n2 d2, .string ⟨fi.toArray⟩, .slice (some ⟨g3, 0, none⟩) n3 d3, .bool mo] 30 (0, 0)) := by simpa using set_getZ (j := 7) (.slice (some ⟨g3, 0, none⟩) n3 d3) y6
                  have onew : (W6.setCell ⟨y, 7, none⟩ (.slice (some ⟨g3, 0, none⟩) n3 d3)).ownsRow Wy.heap.size 9 1 (.slice (some ⟨g3, 0, none⟩) (n3 + 1) d3) (n3 + 1) (stZ (li ++ [BEH])) := own_baseZ (o6.kept hset (.inr (fun e => off_boxU o6 y6 e))) HY2.out.2.2.1
                  have old : ∀ {v : Value} {m : Nat} {xs : List Value}, wt2.ownsRow Wy.heap.size 9 1 v m xs → (W6.setCell ⟨y, 7, none⟩ (.slice (some ⟨g3, 0, none⟩) n3 d3)).ownsRow Wy.heap.size 9 1 v m xs := fun o => o.kept hgw (.inr (off_boxU o HY2.out.1))
                  have lt6 := (o6.lt g3 rfl).1
                  have l1 := (HY2.out.2.2.2.1.lt g1 rfl).2
                  have l2 := (HY2.out.2.2.2.2.1.lt g2 rfl).2
                  exact ⟨hyy, gr_transZ HY2.out.2.1 hgw, Nat.le_trans HY2.out.2.2.1 hgw.size, old HY2.out.2.2.2.1, old HY2.out.2.2.2.2.1, HY2.out.2.2.2.2.2, onew, by omega, by omega⟩
                clear o6 r6 y6 cap1 cap6
                refine QN_go rfl rfl ?_
                go_simp
                go_wp2_with fail
                go_meet
                exact ⟨g3, d3, rfl, HX⟩
              · go_simp
                have b2 := belAZ b1 (.cells #[.string ⟨#[98, 101, 104, 105, 110, 100]⟩] 9 (0, 0))
                have y2 := keepZ b2 HY2.out.1
                have r2 : wt2.grownBy _ (some y) := gr_belZ b2 _
                refine hKK.out _ _ y2 (fun _ => ?_)
                clear hKK KK
                have e2 := own_belZ e1 (belAZ (Below.refl _ _) (.cells #[.string ⟨#[98, 101, 104, 105, 110, 100]⟩] 9 (0, 0)))
                have hb2 := alloc_getZ (wt2.drew.alloc (.cells #[] 9 (0, 0))) (.cells #[.string ⟨#[98, 101, 104, 105, 110, 100]⟩] 9 (0, 0))
                rw [← HZ.out] at e2
                obtain ⟨p', c', W3, hr3, o3, r3, y3, kp3⟩ := tw_app1 c3 e2 r2 y2 (HV.out.1 _ (BL.out _ (gr_transZ HY2.out.2.1 r2))).2.2 HV.out.2.2.2.1 HV.out.2.2.2.2
                have hb3 := kp3 _ _ hb2 (by simp)
                have hsz1 : (wt2.drew.alloc (.cells #[] 9 (0, 0))).heap.size = z + 1 := by rw [← HZ.out]; exact Array.size_push _
                rw [hsz1] at hb3
                rw [HZ.out] at hr3
                refine wpAnyH_ready (rs := [3]) (by kernel_rfl) (by simp) ?_
                refine AllReadyH.cons rfl (fun KK hKK => ?_) AllReadyH.nil
                refine step_runU (by rfl) _ _ _ (by rfl) (by rfl) (by rfl) hr3 ?_
                refine hKK.out _ _ y3 (fun _ => ?_)
                clear hKK KK hr3 e1 e2 y1 r1 b1 b2 y2 r2 hb2 kp3 hsz1
                obtain ⟨g3, d3, W6, hr6, cap6, o6, r6, y6⟩ := tw_app2 o3 r3 y3 hb3 HV.out.2.2.2.1 HV.out.2.2.2.2
                refine wpAnyH_ready (rs := [5]) (by kernel_rfl) (by simp) ?_
                refine AllReadyH.cons rfl (fun KK hKK => ?_) AllReadyH.nil
                refine step_runU (by rfl) _ _ _ (by rfl) (by rfl) (by rfl) hr6 ?_
                refine hKK.out _ _ y6 (fun _ => ?_)
                clear hKK KK hr6
                have cap1 : (n3 : Int) ≤ (d3 : Int) := by omega
                refine wpAnyH_take (i := 9) (v := .slice (some ⟨g3, 0, none⟩) n3 d3) rfl (by kernel_rfl) (by kernel_rfl) (by kernel_rfl) (fun _ _ _ h => h) (Or.inl ⟨by rfl, ?_⟩) y6 ?_
                · rintro w s0; go_simp
                refine wpAnyH_take (i := 10) (v := .pointer (some ⟨y, 7, none⟩)) rfl (by kernel_rfl) (by kernel_rfl) (by kernel_rfl) (fun _ _ _ h => h) (Or.inl ⟨by rfl, ?_⟩) y6 ?_
                · rintro w s0; go_simp
                refine wpAnyH_done (by kernel_rfl) ?_ _
                have u1 := (cellsZ y6).1
                have u2 := (cellsZ y6).2
                have HX : Hid ((W6.setCell ⟨y, 7, none⟩ (.slice (some ⟨g3, 0, none⟩) n3 d3)).heap[y]? = some (.cells #[.int .i64 k1, .bool fd, .string ⟨sp.toArray⟩, .string ⟨wi.toArray⟩, .slice (some ⟨g1, 0, none⟩) n1 d1, .slice (some ⟨g2, 0, none⟩) n2 d2, .string ⟨fi.toArray⟩, .slice (some ⟨g3, 0, none⟩) n3 d3, .bool mo] 30 (0, 0)) ∧ Wy.grownBy (W6.setCell ⟨y, 7, none⟩ (.slice (some ⟨g3, 0, none⟩) n3 d3)) (some y) ∧ Wy.heap.size ≤ (W6.setCell ⟨y, 7, none⟩ (.slice (some ⟨g3, 0, none⟩) n3 d3)).heap.size ∧ (W6.setCell ⟨y, 7, none⟩ (.slice (some ⟨g3, 0, none⟩) n3 d3)).ownsRow Wy.heap.size 9 1 (.slice (some ⟨g1, 0, none⟩) (n1 + 1) d1) (n1 + 1) (stZ (po ++ [BEH])) ∧ (W6.setCell ⟨y, 7, none⟩ (.slice (some ⟨g3, 0, none⟩) n3 d3)).ownsRow Wy.heap.size 9 1 (.slice (some ⟨g2, 0, none⟩) (n2 + 1) d2) (n2 + 1) (stZ (en ++ [BEH])) ∧ g1 ≠ g2 ∧ (W6.setCell ⟨y, 7, none⟩ (.slice (some ⟨g3, 0, none⟩) n3 d3)).ownsRow Wy.heap.size 9 1 (.slice (some ⟨g3, 0, none⟩) (n3 + 1) d3) (n3 + 1) (stZ (li ++ [BEH])) ∧ g1 ≠ g3 ∧ g2 ≠ g3) := by
                  have hz0 : wt2.heap.size = z := HZ.out
                  have hset := gr_setZ W6 y 7 (.slice (some ⟨g3, 0, none⟩) n3 d3)
                  have hgw := gr_transZ r6 hset
                  have hyy : (W6.setCell ⟨y, 7, none⟩ (.slice (some ⟨g3, 0, none⟩) n3 d3)).heap[y]? = some (.cells #[.int .i64 k1, .bool fd, .string ⟨sp.toArray⟩, .string ⟨wi.toArray⟩, .slice (some ⟨g1, 0, none⟩) n1 d1, .slice (some ⟨g2, 0, none⟩) n2 d2, .string ⟨fi.toArray⟩, .slice (some ⟨g3, 0, none⟩) n3 d3, .bool mo] 30 (0, 0)) := by simpa using set_getZ (j := 7) (.slice (some ⟨g3, 0, none⟩) n3 d3) y6
                  have onew : (W6.setCell ⟨y, 7, none⟩ (.slice (some ⟨g3, 0, none⟩) n3 d3)).ownsRow Wy.heap.size 9 1 (.slice (some ⟨g3, 0, none⟩) (n3 + 1) d3) (n3 + 1) (stZ (li ++ [BEH])) := own_baseZ (o6.kept hset (.inr (fun e => off_boxU o6 y6 e))) HY2.out.2.2.1
                  have old : ∀ {v : Value} {m : Nat} {xs : List Value}, wt2.ownsRow Wy.heap.size 9 1 v m xs → (W6.setCell ⟨y, 7, none⟩ (.slice (some ⟨g3, 0, none⟩) n3 d3)).ownsRow Wy.heap.size 9 1 v m xs := fun o => o.kept hgw (.inr (off_boxU o HY2.out.1))
                  have lt6 := (o6.lt g3 rfl).1
                  have l1 := (HY2.out.2.2.2.1.lt g1 rfl).2
                  have l2 := (HY2.out.2.2.2.2.1.lt g2 rfl).2
                  exact ⟨hyy, gr_transZ HY2.out.2.1 hgw, Nat.le_trans HY2.out.2.2.1 hgw.size, old HY2.out.2.2.2.1, old HY2.out.2.2.2.2.1, HY2.out.2.2.2.2.2, onew, by omega, by omega⟩
                clear o6 r6 y6 cap1 cap6
                refine QN_go rfl rfl ?_
                go_simp
                go_wp2_with fail
                go_meet
                exact ⟨g3, d3, rfl, HX⟩
            · go_simp
              have b1 := belAZ (Below.drew (Below.refl wt2.heap.size wt2)) (.cells #[.string ⟨#[98, 101, 104, 105, 110, 100]⟩] 9 (0, 0))
              have y1 := keepZ b1 HY2.out.1
              refine hKK.out _ _ y1 (fun _ => ?_)
              clear hKK KK
              have hb1 := alloc_getZ wt2.drew (.cells #[.string ⟨#[98, 101, 104, 105, 110, 100]⟩] 9 (0, 0))
              refine wpAnyH_ready (rs := [0]) (by kernel_rfl) (by simp) ?_
              refine AllReadyH.cons rfl (fun KK hKK => ?_) AllReadyH.nil
              go_simp
              have b2 := belAZ b1 (.cells #[] 9 (0, 0))
              have y2 := keepZ b2 HY2.out.1
              have r2 : wt2.grownBy _ (some y) := gr_belZ b2 _
              refine hKK.out _ _ y2 (fun _ => ?_)
              clear hKK KK
              have e2 : ((wt2.drew.alloc (.cells #[.string ⟨#[98, 101, 104, 105, 110, 100]⟩] 9 (0, 0))).alloc (.cells #[] 9 (0, 0))).ownsRow wt2.heap.size 9 1 (.slice (some ⟨(wt2.drew.alloc (.cells #[.string ⟨#[98, 101, 104, 105, 110, 100]⟩] 9 (0, 0))).heap.size, 0, none⟩) 0 0) 0 [] := World.ownsRow_lit (e := 9) (base := wt2.heap.size) (size := 1) (wt2.drew.alloc (.cells #[.string ⟨#[98, 101, 104, 105, 110, 100]⟩] 9 (0, 0))) #[] 0 b1.size (by decide) rfl
              obtain ⟨p', c', W3, hr3, o3, r3, y3, kp3⟩ := tw_app1 c3 e2 r2 y2 (HV.out.1 _ (BL.out _ (gr_transZ HY2.out.2.1 r2))).2.2 HV.out.2.2.2.1 HV.out.2.2.2.2
              have hb3 := kp3 _ _ (keepZ (belAZ (Below.refl _ _) (.cells #[] 9 (0, 0))) hb1) (by simp)
              have hb3' : W3.heap[z]? = some (.cells #[.string ⟨#[98, 101, 104, 105, 110, 100]⟩] 9 (0, 0)) := by rw [← HZ.out]; exact hb3
              have hsz1 : (wt2.drew.alloc (.cells #[.string ⟨#[98, 101, 104, 105, 110, 100]⟩] 9 (0, 0))).heap.size = z + 1 := by rw [← HZ.out]; exact Array.size_push _
              rw [hsz1] at hr3
              refine wpAnyH_ready (rs := [3]) (by kernel_rfl) (by simp) ?_
              refine AllReadyH.cons rfl (fun KK hKK => ?_) AllReadyH.nil
              refine step_runU (by rfl) _ _ _ (by rfl) (by rfl) (by rfl) hr3 ?_
              refine hKK.out _ _ y3 (fun _ => ?_)
              clear hKK KK hr3 e2 y1 b1 b2 y2 r2 hb1 kp3 hb3 hsz1
              obtain ⟨g3, d3, W6, hr6, cap6, o6, r6, y6⟩ := tw_app2 o3 r3 y3 hb3' HV.out.2.2.2.1 HV.out.2.2.2.2
              refine wpAnyH_ready (rs := [5]) (by kernel_rfl) (by simp) ?_
              refine AllReadyH.cons rfl (fun KK hKK => ?_) AllReadyH.nil
              refine step_runU (by rfl) _ _ _ (by rfl) (by rfl) (by rfl) hr6 ?_
              refine hKK.out _ _ y6 (fun _ => ?_)
              clear hKK KK hr6
              have cap1 : (n3 : Int) ≤ (d3 : Int) := by omega
              refine wpAnyH_take (i := 9) (v := .slice (some ⟨g3, 0, none⟩) n3 d3) rfl (by kernel_rfl) (by kernel_rfl) (by kernel_rfl) (fun _ _ _ h => h) (Or.inl ⟨by rfl, ?_⟩) y6 ?_
              · rintro w s0; go_simp
              refine wpAnyH_take (i := 10) (v := .pointer (some ⟨y, 7, none⟩)) rfl (by kernel_rfl) (by kernel_rfl) (by kernel_rfl) (fun _ _ _ h => h) (Or.inl ⟨by rfl, ?_⟩) y6 ?_
              · rintro w s0; go_simp
              refine wpAnyH_done (by kernel_rfl) ?_ _
              have u1 := (cellsZ y6).1
              have u2 := (cellsZ y6).2
              have HX : Hid ((W6.setCell ⟨y, 7, none⟩ (.slice (some ⟨g3, 0, none⟩) n3 d3)).heap[y]? = some (.cells #[.int .i64 k1, .bool fd, .string ⟨sp.toArray⟩, .string ⟨wi.toArray⟩, .slice (some ⟨g1, 0, none⟩) n1 d1, .slice (some ⟨g2, 0, none⟩) n2 d2, .string ⟨fi.toArray⟩, .slice (some ⟨g3, 0, none⟩) n3 d3, .bool mo] 30 (0, 0)) ∧ Wy.grownBy (W6.setCell ⟨y, 7, none⟩ (.slice (some ⟨g3, 0, none⟩) n3 d3)) (some y) ∧ Wy.heap.size ≤ (W6.setCell ⟨y, 7, none⟩ (.slice (some ⟨g3, 0, none⟩) n3 d3)).heap.size ∧ (W6.setCell ⟨y, 7, none⟩ (.slice (some ⟨g3, 0, none⟩) n3 d3)).ownsRow Wy.heap.size 9 1 (.slice (some ⟨g1, 0, none⟩) (n1 + 1) d1) (n1 + 1) (stZ (po ++ [BEH])) ∧ (W6.setCell ⟨y, 7, none⟩ (.slice (some ⟨g3, 0, none⟩) n3 d3)).ownsRow Wy.heap.size 9 1 (.slice (some ⟨g2, 0, none⟩) (n2 + 1) d2) (n2 + 1) (stZ (en ++ [BEH])) ∧ g1 ≠ g2 ∧ (W6.setCell ⟨y, 7, none⟩ (.slice (some ⟨g3, 0, none⟩) n3 d3)).ownsRow Wy.heap.size 9 1 (.slice (some ⟨g3, 0, none⟩) (n3 + 1) d3) (n3 + 1) (stZ (li ++ [BEH])) ∧ g1 ≠ g3 ∧ g2 ≠ g3) := by
                have hz0 : wt2.heap.size = z := HZ.out
                have hset := gr_setZ W6 y 7 (.slice (some ⟨g3, 0, none⟩) n3 d3)
                have hgw := gr_transZ r6 hset
                have hyy : (W6.setCell ⟨y, 7, none⟩ (.slice (some ⟨g3, 0, none⟩) n3 d3)).heap[y]? = some (.cells #[.int .i64 k1, .bool fd, .string ⟨sp.toArray⟩, .string ⟨wi.toArray⟩, .slice (some ⟨g1, 0, none⟩) n1 d1, .slice (some ⟨g2, 0, none⟩) n2 d2, .string ⟨fi.toArray⟩, .slice (some ⟨g3, 0, none⟩) n3 d3, .bool mo] 30 (0, 0)) := by simpa using set_getZ (j := 7) (.slice (some ⟨g3, 0, none⟩) n3 d3) y6
                have onew : (W6.setCell ⟨y, 7, none⟩ (.slice (some ⟨g3, 0, none⟩) n3 d3)).ownsRow Wy.heap.size 9 1 (.slice (some ⟨g3, 0, none⟩) (n3 + 1) d3) (n3 + 1) (stZ (li ++ [BEH])) := own_baseZ (o6.kept hset (.inr (fun e => off_boxU o6 y6 e))) HY2.out.2.2.1
                have old : ∀ {v : Value} {m : Nat} {xs : List Value}, wt2.ownsRow Wy.heap.size 9 1 v m xs → (W6.setCell ⟨y, 7, none⟩ (.slice (some ⟨g3, 0, none⟩) n3 d3)).ownsRow Wy.heap.size 9 1 v m xs := fun o => o.kept hgw (.inr (off_boxU o HY2.out.1))
                have lt6 := (o6.lt g3 rfl).1
                have l1 := (HY2.out.2.2.2.1.lt g1 rfl).2
                have l2 := (HY2.out.2.2.2.2.1.lt g2 rfl).2
                exact ⟨hyy, gr_transZ HY2.out.2.1 hgw, Nat.le_trans HY2.out.2.2.1 hgw.size, old HY2.out.2.2.2.1, old HY2.out.2.2.2.2.1, HY2.out.2.2.2.2.2, onew, by omega, by omega⟩
              clear o6 r6 y6 cap1 cap6
              refine QN_go rfl rfl ?_
              go_simp
              go_wp2_with fail
              go_meet
              exact ⟨g3, d3, rfl, HX⟩
          case rest =>
            clear hz HZ
            clear z
            obtain ⟨g3, d3, rfl, HY3⟩ := hcut
            rename World => wt3
            clear cly
            have cly := (cellsZ HY3.out.1).1
            have HY : Hid (wt3.heap[bb + 1 + 1]? = some (.cells #[.int .i64 k, .int .i64 cd, .int .i64 tx, .int .i64 ln, .slice pv i cv] 25 (0, 0)) ∧ wt3.heap[bb]? = some (.cells #[.int .i64 k, .int .i64 cd, .int .i64 tx, .int .i64 ln, .slice (some ⟨g, o0, none⟩) n c] 25 (0, 0)) ∧ wt3.heap[bb + 1]? = some (.cells #[.int .i64 0, .int .i64 0, .int .i64 0, .int .i64 0, .slice none 0 0] 25 (0, 0)) ∧ GRW wt3 AA.heap.size Gs (.slice pv i cv) ∧ Below w.heap.size w wt3 ∧ AA.heap.size ≤ wt3.heap.size) := by
              have hb := BL.out wt3 HY3.out.2.1
              exact ⟨keepZ hb HG.out.2.2.1, keepZ hb HG.out.2.2.2.1, keepZ hb HG.out.2.2.2.2.1, HG.out.2.2.2.2.2.1.below hb, bel0Z HG.out.2.2.2.2.2.2.1 hb, Nat.le_trans HG.out.2.2.2.2.2.2.2 hb.size⟩
            have co := (cellsZ HY.out.1).1
            have cf := (cellsZ HY.out.1).2
            have oF : (wt3.alloc (.cells #[.int .i64 k1, .bool fd, .string ⟨sp.toArray⟩, .string ⟨wi.toArray⟩, .slice (some ⟨g1, 0, none⟩) n1 d1, .slice (some ⟨g2, 0, none⟩) n2 d2, .string ⟨fi.toArray⟩, .slice (some ⟨g3, 0, none⟩) n3 d3, .bool mo] 30 (0, 0))).ownsRow AA.heap.size 30 9 (.slice pv i cv) i (gvs Gs) := by
              have o := own_belZ HY.out.2.2.2.1.row (belAZ (Below.refl wt3.heap.size wt3) (.cells #[.int .i64 k1, .bool fd, .string ⟨sp.toArray⟩, .string ⟨wi.toArray⟩, .slice (some ⟨g1, 0, none⟩) n1 d1, .slice (some ⟨g2, 0, none⟩) n2 d2, .string ⟨fi.toArray⟩, .slice (some ⟨g3, 0, none⟩) n3 d3, .bool mo] 30 (0, 0)))
              rw [HG.out.2.1] at o
              exact o
            have hbs : AA.heap.size ≤ (wt3.alloc (.cells #[.int .i64 k1, .bool fd, .string ⟨sp.toArray⟩, .string ⟨wi.toArray⟩, .slice (some ⟨g1, 0, none⟩) n1 d1, .slice (some ⟨g2, 0, none⟩) n2 d2, .string ⟨fi.toArray⟩, .slice (some ⟨g3, 0, none⟩) n3 d3, .bool mo] 30 (0, 0))).heap.size := Nat.le_trans HY.out.2.2.2.2.2 (belAZ (Below.refl wt3.heap.size wt3) _).size
            go_upto_region 5 with (at_builtin; refine wpList_append_own _ rfl _ _ 23 rfl AA.heap.size 30 iR _ 9 144 Tryd.underlying23 hiR hzR0 hzR1 hzR2 rfl (by decide) _ _ _ rfl oF ⟨_, 0, none⟩ 1 1 [.int .i64 k1, .bool fd, .string ⟨sp.toArray⟩, .string ⟨wi.toArray⟩, .slice (some ⟨g1, 0, none⟩) n1 d1, .slice (some ⟨g2, 0, none⟩) n2 d2, .string ⟨fi.toArray⟩, .slice (some ⟨g3, 0, none⟩) n3 d3, .bool mo] rfl rfl (World.news_of_block (cs := #[.int .i64 k1, .bool fd, .string ⟨sp.toArray⟩, .string ⟨wi.toArray⟩, .slice (some ⟨g1, 0, none⟩) n1 d1, .slice (some ⟨g2, 0, none⟩) n2 d2, .string ⟨fi.toArray⟩, .slice (some ⟨g3, 0, none⟩) n3 d3, .bool mo]) (t := 30) (fr := (0, 0)) (alloc_getZ _ _)) (by simp [Value.oneCell']) (by unfold maxLen; omega) (by omega) hbs ?_; intro v9 w9 o9 g9 _; obtain ⟨p9, c9, rfl⟩ := shapeZ o9; have k9 := keepG g9 oF (keepZ (belAZ (Below.refl wt3.heap.size wt3) (.cells #[.int .i64 k1, .bool fd, .string ⟨sp.toArray⟩, .string ⟨wi.toArray⟩, .slice (some ⟨g1, 0, none⟩) n1 d1, .slice (some ⟨g2, 0, none⟩) n2 d2, .string ⟨fi.toArray⟩, .slice (some ⟨g3, 0, none⟩) n3 d3, .bool mo] 30 (0, 0))) HY.out.1) (by decide); have kc := (cellsZ k9).1; have kf := (cellsZ k9).2)
            have HX : Hid (∃ Gs pv cv, Gs.map (fun e : GE => e.r) = (rps Es).take (i + 1) ∧ Gs.length = i + 1 ∧ (w9.setCell ⟨bb + 1 + 1, 4, none⟩ (.slice p9 (i + 1) c9)).heap[bb + 1 + 1]? = some (.cells #[.int .i64 k, .int .i64 cd, .int .i64 tx, .int .i64 ln, .slice pv (i + 1) cv] 25 (0, 0)) ∧ (w9.setCell ⟨bb + 1 + 1, 4, none⟩ (.slice p9 (i + 1) c9)).heap[bb]? = some (.cells #[.int .i64 k, .int .i64 cd, .int .i64 tx, .int .i64 ln, .slice (some ⟨g, o0, none⟩) n c] 25 (0, 0)) ∧ (w9.setCell ⟨bb + 1 + 1, 4, none⟩ (.slice p9 (i + 1) c9)).heap[bb + 1]? = some (.cells #[.int .i64 0, .int .i64 0, .int .i64 0, .int .i64 0, .slice none 0 0] 25 (0, 0)) ∧ GRW (w9.setCell ⟨bb + 1 + 1, 4, none⟩ (.slice p9 (i + 1) c9)) AA.heap.size Gs (.slice pv (i + 1) cv) ∧ Below w.heap.size w (w9.setCell ⟨bb + 1 + 1, 4, none⟩ (.slice p9 (i + 1) c9)) ∧ AA.heap.size ≤ (w9.setCell ⟨bb + 1 + 1, 4, none⟩ (.slice p9 (i + 1) c9)).heap.size) := by
              have hsz : wr.heap.size ≤ Wy.heap.size := by rw [← HWy.out.1]; exact (belAZ (Below.refl wr.heap.size wr) _).size
              have hbA := HG.out.2.2.2.2.2.2.2
              have hx := k9
              have hset := gr_setZ w9 (bb + 1 + 1) 4 (.slice p9 (i + 1) c9)
              have hna : (bb + 1 + 1) < AA.heap.size := HSZ.out.2.1
              refine ⟨Gs ++ [⟨⟨k1, fd, sp, wi, po, en, fi, li, mo⟩, g1, d1, g2, d2, g3, d3⟩], p9, c9, ?_, ?_, ?_, ?_, ?_, ?_, ?_⟩
              · rw [List.map_append, HG.out.1, HTK.out]
                rfl
              · rw [List.length_append, HG.out.2.1]
                rfl
              · simpa using set_getZ (j := 4) (.slice p9 (i + 1) c9) hx
              · exact (hset.block bb (lt_getZ (keepG g9 oF (keepZ (belAZ (Below.refl wt3.heap.size wt3) _) HY.out.2.1) (by decide))) (fun e => by injection e with e; omega)).trans (keepG g9 oF (keepZ (belAZ (Below.refl wt3.heap.size wt3) _) HY.out.2.1) (by decide))
              · exact (hset.block (bb + 1) (lt_getZ (keepG g9 oF (keepZ (belAZ (Below.refl wt3.heap.size wt3) _) HY.out.2.2.1) (by decide))) (fun e => by injection e with e; omega)).trans (keepG g9 oF (keepZ (belAZ (Below.refl wt3.heap.size wt3) _) HY.out.2.2.1) (by decide))
              · refine gr_roundV (i := i) HG.out.2.2.2.2.2.1 hsz (by omega) HY.out.2.2.2.1 HG.out.2.1 ?_ HY3.out.2.2.2.2.2.1 HY3.out.2.2.2.2.2.2.2.1 HY3.out.2.2.2.2.2.2.2.2 ?_ g9 hx
                · refine ⟨?_, ?_, ?_⟩
                  · show wt3.ownsRow _ _ 1 (.slice _ (po.length + 1) d1) (po.length + 1) _
                    rw [HV.out.2.1.1]; exact HY3.out.2.2.2.1
                  · show wt3.ownsRow _ _ 1 (.slice _ (en.length + 1) d2) (en.length + 1) _
                    rw [HV.out.2.2.1.1]; exact HY3.out.2.2.2.2.1
                  · show wt3.ownsRow _ _ 1 (.slice _ (li.length + 1) d3) (li.length + 1) _
                    rw [HV.out.2.2.2.1]; exact HY3.out.2.2.2.2.2.2.1
                · have e9 : (GE.v ⟨⟨k1, fd, sp, wi, po, en, fi, li, mo⟩, g1, d1, g2, d2, g3, d3⟩).vs = [.int .i64 k1, .bool fd, .string ⟨sp.toArray⟩, .string ⟨wi.toArray⟩, .slice (some ⟨g1, 0, none⟩) n1 d1, .slice (some ⟨g2, 0, none⟩) n2 d2, .string ⟨fi.toArray⟩, .slice (some ⟨g3, 0, none⟩) n3 d3, .bool mo] := by
                    unfold GE.v VR.vs
                    simp only [HV.out.2.1.1, HV.out.2.2.1.1, HV.out.2.2.2.1]
                  rw [e9]
                  exact o9
              · have hw := HSZ.out.2.2
                have l0 := HSZ.out.1
                exact ⟨bel_grZ (bel_grZ (belAZ HY.out.2.2.2.2.1 _) g9 (fun k e => Nat.le_trans (by omega) (oF.lt k e).1)) hset (fun k e => by injection e with e; omega), Nat.le_trans hbs (Nat.le_trans g9.size hset.size)⟩
            clear o9 g9 HY HY3
            go_wp2_with fail
            go_roundw
            case rel => exact ⟨i + 1, by go_num, by omega, HX⟩
            case measure => simp [intOf]; omega
    · have i1 : ¬ (i : Int) < (n : Int) := by omega
      have hin : i = n := by omega
      subst hin
      have co := (cellsZ HG.out.2.2.1).1
      have cz := (cellsZ HG.out.2.2.2.2.1).1
      have fz := (cellsZ HG.out.2.2.2.2.1).2
      go_wp2_with fail
      have hgr := gr_put5U wr (bb + 1) (.int .i64 k) (.int .i64 cd) (.int .i64 tx) (.int .i64 ln) (.slice pv i cv)
      have hw := HSZ.out.2.2
      have l0 := HSZ.out.1
      refine bodyPost_ret (res_two _ _ (bb + 1) k cd tx ln (.slice pv i cv) pv i cv rfl rfl rfl (put5U _ _ _ _ _ HG.out.2.2.2.2.1)) rfl ?_
      refine ⟨pv, cv, rfl, Gs, (HG.out.2.2.2.2.2.1.boxV HG.out.2.2.2.2.1 (by decide) (by decide) hgr).base (by omega), ?_, ?_⟩
      · rw [HG.out.1, List.take_of_length_le]
        unfold rps
        rw [List.length_map, HR.out.2.2]
        exact Nat.le_refl _
      · have := bel_grZ HG.out.2.2.2.2.2.2.1 hgr (fun k e => by injection e with e; omega)
        rw [← hw] at this
        exact this
end Go.Proofs.YtfhlgncpleleaaaDoor

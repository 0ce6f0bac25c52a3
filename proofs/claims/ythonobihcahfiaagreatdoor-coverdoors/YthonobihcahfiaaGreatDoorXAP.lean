import Derived.Test.YthonobihcahfiaaGreatDoorXAO
import Derived.Test.YthonobihcahfiaaGreatDoorXAA
import Derived.Test.YthonobihcahfiaaGreatDoorChecked
import Derived.WalkKit
import Derived.Below
import Derived.BigQuiet
import Derived.OwnWalk
import Derived.Laws.OwnMore
import Derived.Deep.AppendLies
namespace Go.Proofs.YthonobihcahfiaaGreatDoor.Nt
open Go.RowKit Go.Shelf
theorem cls_dot : ∀ x : Fin 256, (cls (x.val : Int) = 5 ↔ x.val = 46) := by decide +kernel
theorem kl_dot {x : List UInt8} {j : Nat} (hj : j < x.length) : kl x j = 5 ↔ bt x j = 46 := by
  rw [kl_bt hj]
  exact cls_dot ⟨bt x j, bt_lt x j⟩
theorem kl_let {x : List UInt8} {j : Nat} (hj : j < x.length) : kl x j = 3 ↔ letX (bt x j) = true := by
  rw [kl_bt hj, letX_cls (bt_lt x j), decide_eq_true_eq]
def dotAt (x : List UInt8) : Nat := (x.takeWhile (· != 46)).length
theorem dotAt_cons (c : UInt8) (x : List UInt8) : dotAt (c :: x) = if c = 46 then 0 else dotAt x + 1 := by
  unfold dotAt
  by_cases h : c = 46
  · subst h; rfl
  · rw [if_neg h, List.takeWhile_cons_of_pos (by simp [h]), List.length_cons]
theorem dotAt_eq : ∀ (x : List UInt8) (i : Nat), (∀ k, k < i → bt x k ≠ 46) → i ≤ x.length → (i < x.length → bt x i = 46) → dotAt x = i
  | [], i, _, h, _ => by
    have : i = 0 := by simpa using h
    subst this
    rfl
  | c :: x, 0, _, _, h => by
    have : bt (c :: x) 0 = 46 := h (by simp)
    have e : c = 46 := UInt8.toNat_inj.1 this
    rw [dotAt_cons, if_pos e]
  | c :: x, i + 1, hk, hl, h => by
    have h0 : c ≠ 46 := fun e => hk 0 (by omega) (by subst e; rfl)
    rw [dotAt_cons, if_neg h0, dotAt_eq x i (fun k hki => by have := hk (k + 1) (by omega); exact this) (by simpa using hl) (fun hi => by have := h (by simpa using hi); exact this)]
theorem dotAt_spec (x : List UInt8) : (∀ k, k < dotAt x → bt x k ≠ 46) ∧ (dotAt x < x.length → bt x (dotAt x) = 46) := by
  induction x with
  | nil => exact ⟨fun k h => by simp [dotAt] at h, fun h => by simp at h⟩
  | cons c x ih =>
    rw [dotAt_cons]
    by_cases h : c = 46
    · rw [if_pos h]
      subst h
      exact ⟨fun k hk => by omega, fun _ => rfl⟩
    · rw [if_neg h]
      refine ⟨fun k hk => ?_, fun hl => ih.2 (by simpa using hl)⟩
      cases k with
      | zero =>
        intro e
        exact h (UInt8.toNat_inj.1 e)
      | succ k => exact ih.1 k (by omega)
def fullN (x : List UInt8) : Bool := decide (dotAt x < x.length) && (nameB (x.take (dotAt x)) && nameB (x.drop (dotAt x + 1)))
theorem bt_take {x : List UInt8} {i k : Nat} (h : k < i) : bt (x.take i) k = bt x k := by
  unfold bt
  rw [List.getD_eq_getElem?_getD, List.getD_eq_getElem?_getD, List.getElem?_take, if_pos h]
theorem bt_drop (x : List UInt8) (i k : Nat) : bt (x.drop i) k = bt x (i + k) := by
  unfold bt
  rw [List.getD_eq_getElem?_getD, List.getD_eq_getElem?_getD, List.getElem?_drop]
theorem nameB_iff (x : List UInt8) : nameB x = true ↔ 0 < x.length ∧ x.length ≤ 24 ∧ letX (bt x 0) = true ∧ ∀ k, k < x.length → (letX (bt x k) || digX (bt x k)) = true := by
  unfold nameB
  simp only [Bool.and_eq_true, decide_eq_true_eq, List.all_eq_true]
  constructor
  · rintro ⟨h0, h1, h2, h3⟩
    refine ⟨h0, h1, h2, fun k hk => ?_⟩
    rw [bt_of (List.getElem?_eq_getElem hk)]
    exact h3 _ (List.getElem_mem hk)
  · rintro ⟨h0, h1, h2, h3⟩
    refine ⟨h0, h1, h2, fun c hc => ?_⟩
    obtain ⟨k, hk, rfl⟩ := List.getElem_of_mem hc
    have := h3 k hk
    rw [bt_of (List.getElem?_eq_getElem hk)] at this
    exact this
theorem wrun_to {x : List UInt8} : ∀ (m j e : Nat), e - j ≤ m → j ≤ e → (∀ k, j ≤ k → k < e → inW x k = true) → inW x e = false → wrun x j = e
  | m, j, e, hm, hj, h, he => by
    rcases Nat.lt_or_ge j e with hlt | hge
    · match m, hm with
      | 0, hm => omega
      | m + 1, hm =>
        rw [wrun_yes (h j (Nat.le_refl _) hlt)]
        exact wrun_to m (j + 1) e (by omega) hlt (fun k h1 h2 => h k (by omega) h2) he
    · have : j = e := by omega
      subst this
      exact wrun_no he
theorem good_port {x : List UInt8} (h : goodT 3 x) : fullN x = true := by
  obtain ⟨h0, h1, h2, h8, hC, hE⟩ := h
  have h3 : kl x 0 = 3 := Classical.byContradiction (fun h3 => by
    unfold tokC endF at hC
    rw [if_neg h3] at hC
    by_cases h4 : kl x 0 = 4
    · rw [if_pos h4, if_neg (by decide), if_neg (by decide), if_pos rfl] at hC
      simp at hC
    · rw [if_neg h4] at hC
      by_cases h6 : kl x 0 = 6
      · rw [if_pos h6, if_neg (by decide), if_neg (by decide), if_neg (by decide), if_pos rfl] at hC
        simp at hC
      · rw [if_neg h6] at hC
        by_cases h7 : kl x 0 = 7
        · rw [if_pos h7, if_neg (by decide), if_neg (by decide), if_neg (by decide), if_neg (by decide)] at hC
          simp at hC
        · rw [if_neg h7] at hC
          simp at hC)
  cases hd : dotA x (wrun x 0) 3 with
  | false =>
    obtain ⟨b1, b2, b3, b4, b5⟩ := tok_name h0 h3 rfl hd
    rw [hC] at b5
    have := (Prod.mk.inj b5).1
    omega
  | true =>
    obtain ⟨p1, p2, p3, p4, p5, p6, p7⟩ := tok_port h0 h3 rfl hd rfl
    rw [hC] at p7
    have hk : x.length = wrun x (wrun x 0 + 1) := (Prod.mk.inj p7).2
    obtain ⟨j, hj⟩ : ∃ j, wrun x 0 = j := ⟨_, rfl⟩
    rw [hj] at p1 p2 p3 p4 p5 hk hd
    have h24 : ¬ (24 < j - 0 ∨ 24 < wrun x (j + 1) - j - 1) := fun hh => by rw [hE, if_pos hh] at p5; cases p5
    unfold dotA at hd
    simp only [Bool.and_eq_true, decide_eq_true_eq] at hd
    have hj46 := (kl_dot (show j < x.length by omega)).1 hd.1
    have hin : ∀ k, k < j → inW x k = true := fun k hk => wrun_in (l := x) _ 0 (Nat.le_refl _) k (Nat.zero_le _) (by omega)
    have hin2 : ∀ k, j + 1 ≤ k → k < x.length → inW x k = true := fun k h1 h2 => wrun_in (l := x) _ (j + 1) (Nat.le_refl _) k h1 (by omega)
    have hda : dotAt x = j := dotAt_eq x j (fun k hk => inW_46 (hin k hk)) (by omega) (fun _ => hj46)
    unfold fullN
    rw [hda, decide_eq_true (show j < x.length by omega), Bool.true_and, Bool.and_eq_true, nameB_iff, nameB_iff]
    have hl1 : (x.take j).length = j := by rw [List.length_take]; omega
    have hl2 : (x.drop (j + 1)).length = x.length - (j + 1) := List.length_drop
    rw [hl1, hl2]
    refine ⟨⟨by omega, by omega, ?_, fun k hk => ?_⟩, ⟨by omega, by omega, ?_, fun k hk => ?_⟩⟩
    · rw [bt_take (by omega)]; exact (kl_let h0).1 h3
    · rw [bt_take hk, ← inW_bt (by omega)]; exact hin k hk
    · rw [bt_drop]; exact (kl_let (by omega)).1 hd.2
    · rw [bt_drop, ← inW_bt (by omega)]; exact hin2 _ (by omega) (by omega)
theorem port_good {x : List UInt8} (h : fullN x = true) : goodT 3 x := by
  unfold fullN at h
  obtain ⟨j, hj⟩ : ∃ j, dotAt x = j := ⟨_, rfl⟩
  have hs := dotAt_spec x
  rw [hj] at h hs
  rw [Bool.and_eq_true, decide_eq_true_eq, Bool.and_eq_true, nameB_iff, nameB_iff] at h
  obtain ⟨hjl, ⟨a0, a1, a2, a3⟩, ⟨c0, c1, c2, c3⟩⟩ := h
  have hl1 : (x.take j).length = j := by rw [List.length_take]; omega
  have hl2 : (x.drop (j + 1)).length = x.length - (j + 1) := List.length_drop
  rw [hl1] at a0 a1 a3
  rw [hl2] at c0 c1 c3
  have h3 : kl x 0 = 3 := by
    rw [bt_take a0] at a2
    exact (kl_let (by omega)).2 a2
  have hin : ∀ k, 0 ≤ k → k < j → inW x k = true := fun k _ hk => by
    rw [inW_bt (by omega), ← bt_take hk]; exact a3 k hk
  have hin2 : ∀ k, j + 1 ≤ k → k < x.length → inW x k = true := fun k h1 h2 => by
    have := c3 (k - (j + 1)) (by omega)
    rw [bt_drop, show j + 1 + (k - (j + 1)) = k by omega] at this
    rw [inW_bt h2]; exact this
  have hk5 : kl x j = 5 := (kl_dot hjl).2 (hs.2 hjl)
  have hno : inW x j = false := by unfold inW; rw [hk5]; rfl
  have hw : wrun x 0 = j := wrun_to _ 0 j (Nat.le_refl _) (Nat.zero_le _) hin hno
  have hw2 : wrun x (j + 1) = x.length := wrun_all _ (j + 1) (Nat.le_refl _) (by omega) hin2
  have hd : dotA x j 3 = true := by
    unfold dotA
    have : kl x (j + 1) = 3 := by
      have := c2
      rw [bt_drop] at this
      exact (kl_let (by omega)).2 this
    rw [hk5, this]
    rfl
  obtain ⟨p1, p2, p3, p4, p5, p6, p7⟩ := tok_port (show 0 < x.length by omega) h3 hw hd hw2
  exact ⟨by omega, by omega, by omega, by omega, p7, by rw [p5, if_neg (by omega)]⟩
theorem ofB_port (x : List UInt8) : ofB 3 x = fullN x := by
  rw [Bool.eq_iff_iff]
  constructor
  · exact fun h => good_port (ofB_good h (by decide))
  · intro h
    refine good_ofB (port_good h) ?_
    unfold fullN at h
    rw [Bool.and_eq_true, decide_eq_true_eq, Bool.and_eq_true, nameB_iff, nameB_iff] at h
    obtain ⟨hjl, ⟨a0, a1, a2, a3⟩, ⟨c0, c1, c2, c3⟩⟩ := h
    rw [List.length_take] at a1
    rw [List.length_drop] at c1
    omega
end Go.Proofs.YthonobihcahfiaaGreatDoor.Nt
namespace Go.Proofs.YthonobihcahfiaaGreatDoor
open Go.RowKit
theorem gr_belZ {W X : World} (h : Below W.heap.size W X) (row : Option Nat) : W.grownBy X row := ⟨h.os, h.tape, h.output, h.size, fun k hk _ => h.block k hk⟩
theorem bel_grZ {w W X : World} {row : Option Nat} (h : Below w.heap.size w W) (hg : W.grownBy X row) (hr : ∀ k, row = some k → w.heap.size ≤ k) : Below w.heap.size w X := h.grown hg h.size hr
theorem own_belZ {W X : World} {B n : Nat} {e : TypeId} {sz : Nat} {v : Value} {xs : List Value} (h : W.ownsRow B e sz v n xs) (hb : Below W.heap.size W X) : X.ownsRow B e sz v n xs := by
  refine h.kept (gr_belZ hb none) ?_
  generalize v.ownBlock = b
  cases b with
  | none => exact .inl rfl
  | some b => exact .inr (by intro e; cases e)
theorem own_baseZ {W : World} {A B n : Nat} {e : TypeId} {sz : Nat} {v : Value} {xs : List Value} (h : W.ownsRow B e sz v n xs) (hA : A ≤ B) : W.ownsRow A e sz v n xs := by
  rcases h.2 with h' | ⟨g, cap, cur, h', hb, r⟩
  · exact ⟨h.1, .inl h'⟩
  · exact ⟨h.1, .inr ⟨g, cap, cur, h', Nat.le_trans hA hb, r⟩⟩
def OWZ (T : TypeId) (W : World) (B : Nat) (v : Value) (L : List Value) : Prop := W.ownsRow B T 1 v L.length L
def offZ (row : Option Nat) (v : Value) : Prop := v.ownBlock = none ∨ v.ownBlock ≠ row
theorem OWZ.kept {T : TypeId} {W X : World} {B : Nat} {v : Value} {L : List Value} {row : Option Nat} (h : OWZ T W B v L) (hg : W.grownBy X row) (ho : offZ row v) : OWZ T X B v L := World.ownsRow.kept h hg ho
theorem OWZ.below {T : TypeId} {W X : World} {B : Nat} {v : Value} {L : List Value} (h : OWZ T W B v L) (hb : Below W.heap.size W X) : OWZ T X B v L := own_belZ h hb
theorem OWZ.lt {T : TypeId} {W : World} {B : Nat} {v : Value} {L : List Value} (h : OWZ T W B v L) : ∀ b, v.ownBlock = some b → B ≤ b ∧ b < W.heap.size := World.ownsRow.lt h
theorem OWZ.base {T : TypeId} {W : World} {A B : Nat} {v : Value} {L : List Value} (h : OWZ T W B v L) (hA : A ≤ B) : OWZ T W A v L := own_baseZ h hA
theorem OWZ.shape {T : TypeId} {W : World} {B : Nat} {v : Value} {L : List Value} (h : OWZ T W B v L) : ∃ p c, v = .slice p L.length c := by
  rcases h.2 with ⟨e, h0⟩ | ⟨g, c, _, e, _⟩
  · exact ⟨none, 0, by rw [h0]; exact e⟩
  · exact ⟨_, _, e⟩
theorem OWZ.cell {T : TypeId} {W : World} {B n c : Nat} {p : Option Addr} {L : List Value} {j : Nat} {u : Value} (h : OWZ T W B (.slice p n c) L) (hu : L[j]? = some u) : ∃ g, p = some ⟨g, 0, none⟩ ∧ W.cell? ⟨g, j, none⟩ = some u ∧ W.frozen? ⟨g, j, none⟩ = false := by
  have hl : n = L.length := by
    obtain ⟨p', c', e⟩ := h.shape
    injection e
  rcases h.2 with ⟨e, h0⟩ | ⟨g, c2, cur, e, _⟩
  · have := (List.getElem?_eq_some_iff.1 hu).1
    omega
  · injection e with e1 _ _
    subst e1
    have h1 := World.ownsRow.cells h (g := g) rfl j u hu
    have hadd : (⟨g, 0, none⟩ : Addr).add j = ⟨g, j, none⟩ := by unfold Addr.add; split <;> simp_all
    rw [hadd] at h1
    subst hl
    exact ⟨g, rfl, h1, World.ownsRow.frozenAt h j⟩
theorem own_cutZ {W : World} {B sz g n c i : Nat} {e : TypeId} {xs : List Value} (hi : i ≤ n) (h : W.ownsRow B e sz (.slice (some ⟨g, 0, none⟩) n c) n xs) : W.ownsRow B e sz (.slice (some ⟨g, 0, none⟩) i c) i (xs.take (i * sz)) := by
  have hm : i * sz ≤ n * sz := Nat.mul_le_mul_right _ hi
  rcases h.2 with ⟨h', _⟩ | ⟨g', cap', cur, h', hb, hg, hnc, hcm, hcs, htake⟩
  · cases h'
  · injection h' with a1 _ a3
    injection a1 with a1
    injection a1 with a1
    subst a1 a3
    refine ⟨by rw [List.length_take, h.1, Nat.min_eq_left hm], .inr ⟨g, c, cur, rfl, hb, hg, by omega, hcm, hcs, ?_⟩⟩
    rw [← htake, List.take_take, Nat.min_eq_left hm]
def GRZ (T : TypeId) (W : World) (B N2 : Nat) (v : Value) (A : List Value) (G : Value) (S : List Value) : Prop :=
  (∃ g c, v = .slice (some ⟨g, 0, none⟩) A.length c ∧ G = .slice (some ⟨g, 0, none⟩) (A ++ S).length c ∧ OWZ T W B G (A ++ S)) ∨ (OWZ T W N2 G (A ++ S) ∧ OWZ T W B v A)
theorem GRZ.start {T : TypeId} {W : World} {B N2 : Nat} {v : Value} {A : List Value} (h : OWZ T W B v A) : GRZ T W B N2 v A v [] := by
  have h0 := h
  rcases h0.2 with ⟨e, hn⟩ | ⟨g, c, _, e, _⟩
  · have hL := List.eq_nil_of_length_eq_zero hn
    subst hL e
    exact .inr ⟨World.ownsRow_nil _ _ _ _, h⟩
  · refine .inl ⟨g, c, e, ?_, ?_⟩
    · rw [List.append_nil]; exact e
    · rw [List.append_nil]; exact h
theorem GRZ.blk {T : TypeId} {W : World} {B N2 : Nat} {v G : Value} {A S : List Value} (h : GRZ T W B N2 v A G S) : G.ownBlock = v.ownBlock ∨ ∀ b, G.ownBlock = some b → N2 ≤ b := by
  rcases h with ⟨g, c, rfl, rfl, -⟩ | ⟨h, -⟩
  · exact .inl rfl
  · exact .inr (fun b e => (h.lt b e).1)
theorem GRZ.lt {T : TypeId} {W : World} {B N2 : Nat} {v G : Value} {A S : List Value} (h : GRZ T W B N2 v A G S) : (∀ b, G.ownBlock = some b → b < W.heap.size) ∧ (∀ b, v.ownBlock = some b → B ≤ b ∧ b < W.heap.size) := by
  rcases h with ⟨g, c, rfl, rfl, o⟩ | ⟨h, h2⟩
  · exact ⟨fun b e => (o.lt b e).2, fun b e => o.lt b e⟩
  · exact ⟨fun b e => (h.lt b e).2, fun b e => h2.lt b e⟩
theorem GRZ.shape {T : TypeId} {W : World} {B N2 : Nat} {v G : Value} {A S : List Value} (h : GRZ T W B N2 v A G S) : ∃ q c, G = .slice q (A ++ S).length c := by
  rcases h with ⟨g, c, rfl, rfl, o⟩ | ⟨h, h2⟩
  · exact ⟨_, _, rfl⟩
  · exact h.shape
theorem GRZ.kept {T : TypeId} {W X : World} {B N2 : Nat} {v G : Value} {A S : List Value} {row : Option Nat} (h : GRZ T W B N2 v A G S) (hg : W.grownBy X row) (h1 : offZ row v) (h2 : offZ row G) : GRZ T X B N2 v A G S := by
  rcases h with ⟨g, c, e1, e2, o⟩ | ⟨a, b⟩
  · exact .inl ⟨g, c, e1, e2, o.kept hg h2⟩
  · exact .inr ⟨a.kept hg h2, b.kept hg h1⟩
theorem GRZ.below {T : TypeId} {W X : World} {B N2 : Nat} {v G : Value} {A S : List Value} (h : GRZ T W B N2 v A G S) (hb : Below W.heap.size W X) : GRZ T X B N2 v A G S := by
  rcases h with ⟨g, c, e1, e2, o⟩ | ⟨a, b⟩
  · exact .inl ⟨g, c, e1, e2, o.below hb⟩
  · exact .inr ⟨a.below hb, b.below hb⟩
theorem OWZ.pre {T : TypeId} {W : World} {B g c : Nat} {A S : List Value} (o : OWZ T W B (.slice (some ⟨g, 0, none⟩) (A ++ S).length c) (A ++ S)) : OWZ T W B (.slice (some ⟨g, 0, none⟩) A.length c) A := by
  have h := own_cutZ (i := A.length) (by rw [List.length_append]; omega) o
  rw [Nat.mul_one, List.take_left] at h
  exact h
theorem GRZ.own {T : TypeId} {W : World} {B N2 : Nat} {v G : Value} {A S : List Value} (h : GRZ T W B N2 v A G S) (hN : B ≤ N2) : OWZ T W B v A ∧ OWZ T W B G (A ++ S) := by
  rcases h with ⟨g, c, rfl, rfl, o⟩ | ⟨a, b⟩
  · exact ⟨o.pre, o⟩
  · exact ⟨b, a.base hN⟩
theorem wpList_runZ {P : Program} {ops : Array Oper} {rest : List Oper} {o : Oper} {a : Act} {w w' : World} {Q : Exit → Act → World → Prop} {v u v' : Value} (hgd : o.guard = none) (s x : Operand) (t : TypeId) (ho : o.op = .call { callee := .builtin .append, args := #[s, x], argTypes := #[t, t] }) (hs : a.eval s = v) (hx : a.eval x = u) (hr : (Builtin.append_ #[t, t] o.type #[v, u]).run P w = .ok v' w') (h : wpList P ops Q rest (a.put o.dst v') w') : wpList P ops Q (o :: rest) a w :=
  wpList_plain hgd fun K hK => by
    unfold Oper.wp execOp
    simp only [ho, resolve, invoke, builtin, Sem.run_bind, Sem.run_pure, Result.andThen_ok, List.map_toArray, List.map_cons, List.map_nil, hs, hx, hr]
    exact hK _ _ h
def inZ (V : List Int) : List Value := V.map (fun x => Value.int .i64 x)
theorem bel0Z {w w1 w2 : World} (h : Below w.heap.size w w1) (h2 : Below w1.heap.size w1 w2) : Below w.heap.size w w2 := h.trans (h2.mono h.size)
theorem belAZ {w w1 : World} (h : Below w.heap.size w w1) (o : Obj) : Below w.heap.size w (w1.alloc o) := h.alloc h.size o
theorem alloc_getZ (w : World) (o : Obj) : (w.alloc o).heap[w.heap.size]? = some o := by
  show (w.heap.push o)[w.heap.size]? = _
  simp
theorem shapeZ {W : World} {B n : Nat} {e : TypeId} {sz : Nat} {v : Value} {xs : List Value} (h : W.ownsRow B e sz v n xs) : ∃ p c, v = .slice p n c := by
  rcases h.2 with ⟨rfl, rfl⟩ | ⟨g, c, _, rfl, _⟩
  · exact ⟨_, _, rfl⟩
  · exact ⟨_, _, rfl⟩
theorem keepZ {W w' : World} {b : Nat} {o : Obj} (hb : Below W.heap.size W w') (h : W.heap[b]? = some o) : w'.heap[b]? = some o := (hb.block b (by
  rcases Nat.lt_or_ge b W.heap.size with h1 | h1
  · exact h1
  · rw [Array.getElem?_eq_none h1] at h; cases h)).trans h
theorem set_getZ {W : World} {b j T : Nat} {cs : Array Value} {m : Nat × Nat} (u : Value) (h : W.heap[b]? = some (.cells cs T m)) : (W.setCell ⟨b, j, none⟩ u).heap[b]? = some (.cells (cs.setIfInBounds j u) T m) := by
  simp only [World.setCell, Array.getElem?_modify, if_pos, h, Option.map_some]
  simp
theorem gr_setZ (W : World) (b j : Nat) (u : Value) : W.grownBy (W.setCell ⟨b, j, none⟩ u) (some b) := ⟨rfl, rfl, rfl, by simp, fun k _ hk => heap_setCell_other W ⟨b, j, none⟩ k u (fun e => hk (by simp [e]))⟩
theorem cellsZ {W : World} {b T : Nat} {cs : Array Value} (h : W.heap[b]? = some (.cells cs T (0, 0))) : (∀ j, W.cell? ⟨b, j, none⟩ = cs[j]?) ∧ (∀ j, W.frozen? ⟨b, j, none⟩ = false) := by
  constructor
  · intro j; unfold World.cell?; rw [h]; simp
  · intro j; unfold World.frozen?; rw [h]; simp
theorem lt_getZ {W : World} {b : Nat} {o : Obj} (h : W.heap[b]? = some o) : b < W.heap.size := by
  rcases Nat.lt_or_ge b W.heap.size with h1 | h1
  · exact h1
  · rw [Array.getElem?_eq_none h1] at h; cases h
theorem own_atZ {W : World} {B : Nat} {e : TypeId} {s g n c m : Nat} {xs : List Value} {j : Nat} {u : Value} (h : W.ownsRow B e s (.slice (some ⟨g, 0, none⟩) n c) m xs) (hu : xs[j]? = some u) : W.cell? ⟨g, j, none⟩ = some u := by
  have := World.ownsRow.cells h (g := g) rfl j u hu
  have hadd : (⟨g, 0, none⟩ : Addr).add j = ⟨g, j, none⟩ := by unfold Addr.add; split <;> simp_all
  rw [hadd] at this
  exact this
theorem own_someZ {W : World} {B : Nat} {e : TypeId} {s n c : Nat} {p : Option Addr} {m : Nat} {xs : List Value} (h : W.ownsRow B e s (.slice p n c) m xs) (hm : m ≠ 0) : ∃ g, p = some ⟨g, 0, none⟩ := by
  rcases h.2 with ⟨e, h2⟩ | ⟨g, c2, cur, e, _⟩
  · exact absurd h2 hm
  · injection e with e _ _
    exact ⟨g, e⟩
theorem own_capZ {W : World} {B n m g c : Nat} {e : TypeId} {sz : Nat} {xs : List Value} (h : W.ownsRow B e sz (.slice (some ⟨g, 0, none⟩) n c) m xs) : m ≤ c := by
  rcases h.2 with ⟨e, _⟩ | ⟨g2, c2, cur, e, _, _, h3, _⟩
  · cases e
  · injection e with _ _ e3
    omega
def BLZ (A U : World) : Prop := Below A.heap.size A U
theorem BLZ.trans {A U X : World} (h : BLZ A U) (h2 : Below U.heap.size U X) : BLZ A X := bel0Z h h2
theorem bel_drewZ {B : Nat} {w W : World} (n : Nat) (h : Below B w W) : Below B w (W.drewN n) := ⟨h.os, h.tape, h.output, h.size, h.block⟩
end Go.Proofs.YthonobihcahfiaaGreatDoor
namespace Go.Proofs.YthonobihcahfiaaGreatDoor.Nt
open Go.RowKit Go.Shelf
theorem hideL {p : Prop} (h : p) : Hid p := h
structure NP where
  nm : List UInt8
  bx : Int
  inn : Bool
  lk : Int
structure NE where
  nm : List UInt8
  ins : List Int
  cubes : List (List UInt8)
  wr : List UInt8
  outs : List Int
structure NG where
  pm : Bool
  cubes : List (List UInt8)
structure NN where
  bits : Int
  ports : List NP
  tabs : List (List NE)
  grds : List (List NG)
def np0 : NP := ⟨[], 0, false, 0⟩
def portAt (n : NN) (k : Int) : NP := n.ports.getD k.toNat np0
def CubeP (bits : Int) (c : List UInt8) : Prop := (c.length : Int) = bits ∧ c.all is01x = true
def CubesP (bits : Int) (L : List (List UInt8)) : Prop := L.length ≤ 64 ∧ ∀ c ∈ L, CubeP bits c
def PortP (n : NN) (p : NP) : Prop := fullN p.nm = true ∧ 0 ≤ p.bx ∧ p.bx < (n.tabs.length : Int) ∧ (p.lk = -1 ∨ (p.inn = false ∧ 0 ≤ p.lk ∧ p.lk < (n.ports.length : Int) ∧ (portAt n p.lk).inn = true))
def PortsP (n : NN) : Prop := (∀ p ∈ n.ports, PortP n p) ∧ (n.ports.map (·.nm)).Nodup
def sumG (g : List NG) : Nat := (g.map (·.cubes.length)).sum
def sumE (t : List NE) : Nat := (t.map (·.cubes.length)).sum
def LinesP (bits : Int) (g : List NG) : Prop := (∀ l ∈ g, CubesP bits l.cubes) ∧ sumG g ≤ 512
def IsOfP (n : NN) (box p : Int) (b : Bool) : Prop := 0 ≤ p ∧ p < (n.ports.length : Int) ∧ (portAt n p).bx = box ∧ (portAt n p).inn = b
def InsP (n : NN) (box : Int) (ins : List Int) : Prop := (∀ p ∈ ins, IsOfP n box p true) ∧ ins.Pairwise (· < ·)
def OutsP (n : NN) (box : Int) (outs : List Int) : Prop := outs.length ≤ 4 ∧ (∀ p ∈ outs, IsOfP n box p false) ∧ outs.Nodup
def EntryP (n : NN) (box : Int) (e : NE) : Prop := e.nm.length ≤ 256 ∧ InsP n box e.ins ∧ CubesP n.bits e.cubes ∧ CubeP n.bits e.wr ∧ OutsP n box e.outs
def TabP (n : NN) (box : Int) (t : List NE) : Prop := (∀ e ∈ t, EntryP n box e) ∧ sumE t ≤ 512
def totT (n : NN) : Nat := (n.tabs.map (·.length)).sum
def totG (n : NN) : Nat := (n.grds.map (·.length)).sum
def SizeP (n : NN) : Prop := 1 ≤ n.bits ∧ n.bits ≤ 256 ∧ n.tabs.length ≤ 16 ∧ n.ports.length ≤ 48 ∧ n.grds.length = n.ports.length
def NetP (n : NN) : Prop := SizeP n ∧ totG n ≤ 64 ∧ totT n ≤ 256 ∧ PortsP n ∧ (∀ g ∈ n.grds, LinesP n.bits g) ∧ ∀ (k : Nat) (t : List NE), n.tabs[k]? = some t → TabP n (k : Int) t
noncomputable def pb (P : Prop) : Bool := @decide P (Classical.propDecidable P)
theorem pb_iff {P : Prop} : pb P = true ↔ P := by unfold pb; exact @decide_eq_true_iff P (Classical.propDecidable P)
theorem pb_yes {P : Prop} (h : P) : pb P = true := pb_iff.2 h
theorem pb_no {P : Prop} (h : ¬ P) : pb P = false := by
  cases hh : pb P with
  | false => rfl
  | true => exact absurd (pb_iff.1 hh) h
theorem pb_not {P : Prop} (h : pb P = false) : ¬ P := fun hp => by rw [pb_yes hp] at h; cases h
def BQ (P : Prop) (w : World) (e : Ending) (w' : World) : Prop := e = .returned (.bool (pb P)) ∧ Below w.heap.size w w'
theorem BQ.yes {P : Prop} {w w' : World} (h : P) (hb : Below w.heap.size w w') : BQ P w (.returned (.bool true)) w' := ⟨by rw [pb_yes h], hb⟩
theorem BQ.no {P : Prop} {w w' : World} (h : ¬ P) (hb : Below w.heap.size w w') : BQ P w (.returned (.bool false)) w' := ⟨by rw [pb_no h], hb⟩
def LI (W : World) (p : Option Addr) (L : List Int) : Prop := ∀ (k : Nat) (x : Int), L[k]? = some x → ∃ g o, p = some ⟨g, o, none⟩ ∧ W.cell? ⟨g, o + k, none⟩ = some (.int .i64 x)
def LS (W : World) (p : Option Addr) (L : List (List UInt8)) : Prop := ∀ (k : Nat) (x : List UInt8), L[k]? = some x → ∃ g o, p = some ⟨g, o, none⟩ ∧ W.cell? ⟨g, o + k, none⟩ = some (.string ⟨x.toArray⟩)
def LP (W : World) (p : Option Addr) (L : List NP) : Prop := ∀ (k : Nat) (x : NP), L[k]? = some x → ∃ g o, p = some ⟨g, o, none⟩ ∧ W.cell? ⟨g, o + k * 4, none⟩ = some (.string ⟨x.nm.toArray⟩) ∧ W.cell? ⟨g, o + k * 4 + 1, none⟩ = some (.int .i64 x.bx) ∧ W.cell? ⟨g, o + k * 4 + 2, none⟩ = some (.bool x.inn) ∧ W.cell? ⟨g, o + k * 4 + 3, none⟩ = some (.int .i64 x.lk)
def LEL (W : World) (x : NE) (pi : Option Addr) (ci : Nat) (pc : Option Addr) (cc : Nat) (po : Option Addr) (co : Nat) : Prop := LI W pi x.ins ∧ x.ins.length ≤ ci ∧ LS W pc x.cubes ∧ x.cubes.length ≤ cc ∧ LI W po x.outs ∧ x.outs.length ≤ co
def LE (W : World) (p : Option Addr) (L : List NE) : Prop := ∀ (k : Nat) (x : NE), L[k]? = some x → ∃ g o pi ci pc cc po co, p = some ⟨g, o, none⟩ ∧ W.cell? ⟨g, o + k * 5, none⟩ = some (.string ⟨x.nm.toArray⟩) ∧ W.cell? ⟨g, o + k * 5 + 1, none⟩ = some (.slice pi x.ins.length ci) ∧ W.cell? ⟨g, o + k * 5 + 2, none⟩ = some (.slice pc x.cubes.length cc) ∧ W.cell? ⟨g, o + k * 5 + 3, none⟩ = some (.string ⟨x.wr.toArray⟩) ∧ W.cell? ⟨g, o + k * 5 + 4, none⟩ = some (.slice po x.outs.length co) ∧ LEL W x pi ci pc cc po co
def LG (W : World) (p : Option Addr) (L : List NG) : Prop := ∀ (k : Nat) (x : NG), L[k]? = some x → ∃ g o pc cc, p = some ⟨g, o, none⟩ ∧ W.cell? ⟨g, o + k * 2, none⟩ = some (.bool x.pm) ∧ W.cell? ⟨g, o + k * 2 + 1, none⟩ = some (.slice pc x.cubes.length cc) ∧ LS W pc x.cubes ∧ x.cubes.length ≤ cc
def LT (W : World) (p : Option Addr) (L : List (List NE)) : Prop := ∀ (k : Nat) (x : List NE), L[k]? = some x → ∃ g o pt ct, p = some ⟨g, o, none⟩ ∧ W.cell? ⟨g, o + k, none⟩ = some (.slice pt x.length ct) ∧ LE W pt x ∧ x.length ≤ ct
def LGS (W : World) (p : Option Addr) (L : List (List NG)) : Prop := ∀ (k : Nat) (x : List NG), L[k]? = some x → ∃ g o pt ct, p = some ⟨g, o, none⟩ ∧ W.cell? ⟨g, o + k, none⟩ = some (.slice pt x.length ct) ∧ LG W pt x ∧ x.length ≤ ct
section
variable {w w' : World} {p : Option Addr}
theorem keepC (hb : Below w.heap.size w w') {a : Addr} {v : Value} (h : w.cell? a = some v) : w'.cell? a = some v := (hb.cell (World.block_lt_of_cell? w _ h)).trans h
theorem LI.below {L : List Int} (h : LI w p L) (hb : Below w.heap.size w w') : LI w' p L := fun k x hx => by
  obtain ⟨g, o, e, c0⟩ := h k x hx
  exact ⟨g, o, e, keepC hb c0⟩
theorem LS.below {L : List (List UInt8)} (h : LS w p L) (hb : Below w.heap.size w w') : LS w' p L := fun k x hx => by
  obtain ⟨g, o, e, c0⟩ := h k x hx
  exact ⟨g, o, e, keepC hb c0⟩
theorem LP.below {L : List NP} (h : LP w p L) (hb : Below w.heap.size w w') : LP w' p L := fun k x hx => by
  obtain ⟨g, o, e, c0, c1, c2, c3⟩ := h k x hx
  exact ⟨g, o, e, keepC hb c0, keepC hb c1, keepC hb c2, keepC hb c3⟩
theorem LEL.below {x : NE} {pi : Option Addr} {ci : Nat} {pc : Option Addr} {cc : Nat} {po : Option Addr} {co : Nat} (h : LEL w x pi ci pc cc po co) (hb : Below w.heap.size w w') : LEL w' x pi ci pc cc po co := ⟨h.1.below hb, h.2.1, h.2.2.1.below hb, h.2.2.2.1, h.2.2.2.2.1.below hb, h.2.2.2.2.2⟩
theorem LE.below {L : List NE} (h : LE w p L) (hb : Below w.heap.size w w') : LE w' p L := fun k x hx => by
  obtain ⟨g, o, pi, ci, pc, cc, po, co, e, c0, c1, c2, c3, c4, hl⟩ := h k x hx
  exact ⟨g, o, pi, ci, pc, cc, po, co, e, keepC hb c0, keepC hb c1, keepC hb c2, keepC hb c3, keepC hb c4, hl.below hb⟩
theorem LG.below {L : List NG} (h : LG w p L) (hb : Below w.heap.size w w') : LG w' p L := fun k x hx => by
  obtain ⟨g, o, pc, cc, e, c0, c1, hl, hc⟩ := h k x hx
  exact ⟨g, o, pc, cc, e, keepC hb c0, keepC hb c1, hl.below hb, hc⟩
theorem LT.below {L : List (List NE)} (h : LT w p L) (hb : Below w.heap.size w w') : LT w' p L := fun k x hx => by
  obtain ⟨g, o, pt, ct, e, c0, hl, hc⟩ := h k x hx
  exact ⟨g, o, pt, ct, e, keepC hb c0, hl.below hb, hc⟩
theorem LGS.below {L : List (List NG)} (h : LGS w p L) (hb : Below w.heap.size w w') : LGS w' p L := fun k x hx => by
  obtain ⟨g, o, pt, ct, e, c0, hl, hc⟩ := h k x hx
  exact ⟨g, o, pt, ct, e, keepC hb c0, hl.below hb, hc⟩
end
structure NV where
  pp : Option Addr
  cp : Nat
  pt : Option Addr
  ct : Nat
  pg : Option Addr
  cg : Nat
def nnA (n : NN) (v : NV) : Array Value := #[.int .i64 n.bits, .slice v.pp n.ports.length v.cp, .slice v.pt n.tabs.length v.ct, .slice v.pg n.grds.length v.cg]
def LN (W : World) (n : NN) (v : NV) : Prop := LP W v.pp n.ports ∧ n.ports.length ≤ v.cp ∧ LT W v.pt n.tabs ∧ n.tabs.length ≤ v.ct ∧ LGS W v.pg n.grds ∧ n.grds.length ≤ v.cg
theorem LN.below {w w' : World} {n : NN} {v : NV} (h : LN w n v) (hb : Below w.heap.size w w') : LN w' n v := ⟨h.1.below hb, h.2.1, h.2.2.1.below hb, h.2.2.2.1, h.2.2.2.2.1.below hb, h.2.2.2.2.2⟩
def okS (x : List UInt8) : Prop := x.length ≤ 140737488351232
def okI (L : List Int) : Prop := L.length * 8 ≤ 140737488351232
def okLs (L : List (List UInt8)) : Prop := L.length * 16 ≤ 140737488351232 ∧ ∀ x ∈ L, okS x
def okE (x : NE) : Prop := okS x.nm ∧ okI x.ins ∧ okLs x.cubes ∧ okS x.wr ∧ okI x.outs
def okTab (t : List NE) : Prop := t.length * 104 ≤ 140737488351232 ∧ ∀ e ∈ t, okE e
def okGl (g : List NG) : Prop := g.length * 32 ≤ 140737488351232 ∧ ∀ l ∈ g, okLs l.cubes
def okN (n : NN) : Prop := n.ports.length * 40 ≤ 140737488351232 ∧ (∀ p ∈ n.ports, okS p.nm) ∧ n.tabs.length * 24 ≤ 140737488351232 ∧ (∀ t ∈ n.tabs, okTab t) ∧ n.grds.length * 24 ≤ 140737488351232 ∧ ∀ g ∈ n.grds, okGl g
theorem portAt_of {n : NN} {k : Nat} {x : NP} (h : n.ports[k]? = some x) : portAt n (k : Int) = x := by
  unfold portAt
  rw [Int.toNat_natCast, List.getD_eq_getElem?_getD, h]
  rfl
end Go.Proofs.YthonobihcahfiaaGreatDoor.Nt

import Derived.Test.YtccbfaembcefjaaGreatDoorXAK
import Derived.Laws.OwnMore
import Derived.Laws.IdiomCopy
import Derived.Deep.AppendLies
import Derived.OwnWalk
import Derived.Deep.DeepCutAuto
namespace Go.Proofs.YtccbfaembcefjaaGreatDoor
open Go.RowKit
def termV (z : ZT) : Value := .agg #[.int .i64 (z.c.length : Int), .int .u64 (FW z.c 0 : Int), .int .u64 (FW z.c 1 : Int), .int .u64 (FW z.c 2 : Int), .int .u64 (FW z.c 3 : Int), .int .u64 (OW z.c 0 : Int), .int .u64 (OW z.c 1 : Int), .int .u64 (OW z.c 2 : Int), .int .u64 (OW z.c 3 : Int), .slice z.q z.L.length z.k]
/-- a term's ten cells lie at a place -/
def CZ (W : World) (g o : Nat) (z : ZT) : Prop := W.cell? ⟨g, o, none⟩ = some (.int .i64 (z.c.length : Int)) ∧ W.cell? ⟨g, o + 1, none⟩ = some (.int .u64 (FW z.c 0 : Int)) ∧ W.cell? ⟨g, o + 2, none⟩ = some (.int .u64 (FW z.c 1 : Int)) ∧ W.cell? ⟨g, o + 3, none⟩ = some (.int .u64 (FW z.c 2 : Int)) ∧ W.cell? ⟨g, o + 4, none⟩ = some (.int .u64 (FW z.c 3 : Int)) ∧ W.cell? ⟨g, o + 5, none⟩ = some (.int .u64 (OW z.c 0 : Int)) ∧ W.cell? ⟨g, o + 6, none⟩ = some (.int .u64 (OW z.c 1 : Int)) ∧ W.cell? ⟨g, o + 7, none⟩ = some (.int .u64 (OW z.c 2 : Int)) ∧ W.cell? ⟨g, o + 8, none⟩ = some (.int .u64 (OW z.c 3 : Int)) ∧ W.cell? ⟨g, o + 9, none⟩ = some (.slice z.q z.L.length z.k)
/-- a row of terms lies there -/
def IRZ (w : World) (p : Option Addr) (L : List ZT) : Prop := ∀ W : World, Below w.heap.size w W → ∀ k t, L[k]? = some t → ∃ g o0, p = some ⟨g, o0, none⟩ ∧ CZ W g (o0 + k * 10) t
theorem IRZ.later {w W : World} {p : Option Addr} {L : List ZT} (h : IRZ w p L) (hb : Below w.heap.size w W) : IRZ W p L := fun X hX k t ht => h X (bel0 hb hX) k t ht
def tes (l : List ZT) : List Value := l.flatMap ZT.cells
theorem tes_snoc (l : List ZT) (t : ZT) : tes (l ++ [t]) = tes l ++ t.cells := by simp [tes]
theorem tes_len (l : List ZT) : (tes l).length = l.length * 10 := by
  induction l with
  | nil => rfl
  | cons x l ih => simp only [tes, List.flatMap_cons, List.length_append, List.length_cons] at ih ⊢; rw [ih]; simp [ZT.cells]; omega
theorem tes_get (L : List ZT) (k m : Nat) (hm : m < 10) : (tes L)[k * 10 + m]? = (L[k]?).bind (fun t => t.cells[m]?) := by
  induction L generalizing k with
  | nil => simp [tes]
  | cons t l ih =>
    have hc : tes (t :: l) = t.cells ++ tes l := rfl
    have hl : t.cells.length = 10 := rfl
    cases k with
    | zero =>
      rw [hc, List.getElem?_append_left (by rw [hl]; omega), Nat.zero_mul, Nat.zero_add]
      rfl
    | succ k =>
      rw [hc, List.getElem?_append_right (by rw [hl]; omega), hl, show (k + 1) * 10 + m - 10 = k * 10 + m by omega, ih k]
      rfl
theorem tz_at {W : World} {B g cap k n : Nat} {L : List ZT} {z : ZT} (hown : W.ownsRow B 84 10 (.slice (some ⟨g, 0, none⟩) n cap) n (tes L)) (hz : L[k]? = some z) : CZ W g (k * 10) z := by
  have hg : ∀ m, m < 10 → W.cell? ⟨g, k * 10 + m, none⟩ = z.cells[m]? := fun m hm => by
    have hc := hown.cells (g := g) rfl (k * 10 + m)
    have h1 := tes_get L k m hm
    rw [hz] at h1
    have h2 : (tes L)[k * 10 + m]? = z.cells[m]? := h1
    have h3 : ∃ v, z.cells[m]? = some v := ⟨_, List.getElem?_eq_getElem (by show m < 10; exact hm)⟩
    obtain ⟨v, hv⟩ := h3
    rw [hv]
    have h4 := hc v (by rw [h2, hv])
    rw [add_plain, Nat.zero_add] at h4
    exact h4
  refine ⟨hg 0 (by omega), hg 1 (by omega), hg 2 (by omega), hg 3 (by omega), hg 4 (by omega), hg 5 (by omega), hg 6 (by omega), hg 7 (by omega), hg 8 (by omega), hg 9 (by omega)⟩
theorem IRZ_own {W : World} {B n c : Nat} {p : Option Addr} {L : List ZT} (h : W.ownsRow B 84 10 (.slice p n c) n (tes L)) (hn : L.length = n) : IRZ W p L := fun X hX k t ht => by
  obtain ⟨hk, he⟩ := List.getElem?_eq_some_iff.1 ht
  have h2 := own_belQ h hX
  rcases h2.2 with ⟨e, h0⟩ | ⟨g, cap, cur, e, _⟩
  · omega
  · injection e with e1 _ _
    subst e1
    refine ⟨g, 0, rfl, ?_⟩
    rw [Nat.zero_add]
    exact tz_at h2 ht
/-- the first place, from k on, at which p holds -/
def ixG {α : Type} (p : α → Bool) (k : Nat) : List α → Int
  | [] => -1
  | t :: r => if p t = true then (k : Int) else ixG p (k + 1) r
theorem ixG_step {α : Type} {p : α → Bool} {L : List α} {k : Nat} {t : α} (h : L[k]? = some t) : ixG p k (L.drop k) = if p t = true then (k : Int) else ixG p (k + 1) (L.drop (k + 1)) := by
  obtain ⟨hk, he⟩ := List.getElem?_eq_some_iff.1 h
  rw [List.drop_eq_getElem_cons hk, he]
  rfl
theorem ixG_any {α : Type} (p : α → Bool) : ∀ (L : List α) (k : Nat), decide ((0 : Int) ≤ ixG p k L) = L.any p
  | [], k => by simp [ixG]
  | t :: r, k => by
    unfold ixG
    cases h : p t with
    | true => simp [h]
    | false => rw [if_neg (by simp), ixG_any p r (k + 1)]; simp [h]
/-- where p holds first -/
theorem ixG_at {α : Type} (p : α → Bool) : ∀ (L : List α) (k : Nat), (ixG p k L = -1 ∧ ∀ t ∈ L, p t = false) ∨ ∃ A t R, L = A ++ t :: R ∧ (∀ x ∈ A, p x = false) ∧ p t = true ∧ ixG p k L = ((k + A.length : Nat) : Int)
  | [], k => .inl ⟨rfl, fun t h => by cases h⟩
  | t :: r, k => by
    unfold ixG
    cases h : p t with
    | true => exact .inr ⟨[], t, r, rfl, fun x hx => (by cases hx), h, by simp⟩
    | false =>
      rw [if_neg (by simp)]
      rcases ixG_at p r (k + 1) with ⟨e, ha⟩ | ⟨A, u, R, e1, e2, e3, e4⟩
      · refine .inl ⟨e, fun x hx => ?_⟩
        rcases List.mem_cons.1 hx with rfl | hx
        · exact h
        · exact ha x hx
      · refine .inr ⟨t :: A, u, R, by rw [e1]; rfl, fun x hx => ?_, e3, by rw [e4, List.length_cons]; congr 1; omega⟩
        rcases List.mem_cons.1 hx with rfl | hx
        · exact h
        · exact e2 x hx
def WZ (W : World) (bw bx : Nat) (x : ZT) : Prop := W.heap[bw]? = some (.cells #[.func (.func 102) #[] #[]] 166 (0, 0)) ∧ W.heap[bx]? = some (.cells #[.int .i64 (x.c.length : Int), .int .u64 (FW x.c 0 : Int), .int .u64 (FW x.c 1 : Int), .int .u64 (FW x.c 2 : Int), .int .u64 (FW x.c 3 : Int), .int .u64 (OW x.c 0 : Int), .int .u64 (OW x.c 1 : Int), .int .u64 (OW x.c 2 : Int), .int .u64 (OW x.c 3 : Int), .slice x.q x.L.length x.k] 84 (0, 0))
theorem WZ.below {W X : World} {bw bx : Nat} {x : ZT} (h : WZ W bw bx x) (hb : Below W.heap.size W X) : WZ X bw bx x := ⟨keepblk3 hb h.1, keepblk3 hb h.2⟩
set_option maxRecDepth 100000 in
set_option maxHeartbeats 1000000 in
theorem greatt1_any (x y : ZT) (bw bx : Nat) (w : World) (gx : ZOK w x) (gy : ZOK w y) (h : WZ w bw bx x) : Calls Tryz.prog 121 #[termV y, .pointer (some ⟨bw, 0, none⟩), .pointer (some ⟨bx, 0, none⟩)] w fun e w' => e = .returned (.bool (cvB x y)) ∧ Below w.heap.size w w' := by
  obtain ⟨hw, hx⟩ := h
  obtain ⟨V, hV⟩ : ∃ V : World, w.alloc (.cells #[.int .i64 (y.c.length : Int), .int .u64 (FW y.c 0 : Int), .int .u64 (FW y.c 1 : Int), .int .u64 (FW y.c 2 : Int), .int .u64 (FW y.c 3 : Int), .int .u64 (OW y.c 0 : Int), .int .u64 (OW y.c 1 : Int), .int .u64 (OW y.c 2 : Int), .int .u64 (OW y.c 3 : Int), .slice y.q y.L.length y.k] 84 (0, 0)) = V := ⟨_, rfl⟩
  have vB : Below w.heap.size w V := by rw [← hV]; exact belA (Below.refl _ _) _
  have w0 := (cells_block (keepblk3 vB hw)).1
  have x0 := (cells_block (keepblk3 vB hx)).1
  have y0 := (cells_block (show V.heap[w.heap.size]? = some (.cells #[.int .i64 (y.c.length : Int), .int .u64 (FW y.c 0 : Int), .int .u64 (FW y.c 1 : Int), .int .u64 (FW y.c 2 : Int), .int .u64 (FW y.c 3 : Int), .int .u64 (OW y.c 0 : Int), .int .u64 (OW y.c 1 : Int), .int .u64 (OW y.c 2 : Int), .int .u64 (OW y.c 3 : Int), .slice y.q y.L.length y.k] 84 (0, 0)) by rw [← hV]; exact alloc_get _ _)).1
  have HC : Hid (Calls Tryz.prog 102 #[.agg #[.int .i64 (x.c.length : Int), .int .u64 (FW x.c 0 : Int), .int .u64 (FW x.c 1 : Int), .int .u64 (FW x.c 2 : Int), .int .u64 (FW x.c 3 : Int), .int .u64 (OW x.c 0 : Int), .int .u64 (OW x.c 1 : Int), .int .u64 (OW x.c 2 : Int), .int .u64 (OW x.c 3 : Int), .slice x.q x.L.length x.k], .agg #[.int .i64 (y.c.length : Int), .int .u64 (FW y.c 0 : Int), .int .u64 (FW y.c 1 : Int), .int .u64 (FW y.c 2 : Int), .int .u64 (FW y.c 3 : Int), .int .u64 (OW y.c 0 : Int), .int .u64 (OW y.c 1 : Int), .int .u64 (OW y.c 2 : Int), .int .u64 (OW y.c 3 : Int), .slice y.q y.L.length y.k]] V fun e w' => e = .returned (.bool (cvB x y)) ∧ Below V.heap.size V w') := covered_any x y V (gx.later (KC_below vB)) (gy.later (KC_below vB))
  clear hw hx gx gy
  unfold termV
  go_enter Tryz.func121, Tryz.ntmps121
  go_wp2_with fail
  refine HC.out.mono ?_
  rintro e W1 ⟨rfl, hb1⟩
  go_wp2_with fail
  go_ret
  exact ⟨rfl, bel0 vB hb1⟩
set_option maxRecDepth 100000 in
set_option maxHeartbeats 1000000 in
theorem greatt2_any (x y : ZT) (bw bx : Nat) (w : World) (gx : ZOK w x) (gy : ZOK w y) (h : WZ w bw bx x) : Calls Tryz.prog 123 #[termV y, .pointer (some ⟨bw, 0, none⟩), .pointer (some ⟨bx, 0, none⟩)] w fun e w' => e = .returned (.bool (cvB y x)) ∧ Below w.heap.size w w' := by
  obtain ⟨hw, hx⟩ := h
  obtain ⟨V, hV⟩ : ∃ V : World, w.alloc (.cells #[.int .i64 (y.c.length : Int), .int .u64 (FW y.c 0 : Int), .int .u64 (FW y.c 1 : Int), .int .u64 (FW y.c 2 : Int), .int .u64 (FW y.c 3 : Int), .int .u64 (OW y.c 0 : Int), .int .u64 (OW y.c 1 : Int), .int .u64 (OW y.c 2 : Int), .int .u64 (OW y.c 3 : Int), .slice y.q y.L.length y.k] 84 (0, 0)) = V := ⟨_, rfl⟩
  have vB : Below w.heap.size w V := by rw [← hV]; exact belA (Below.refl _ _) _
  have w0 := (cells_block (keepblk3 vB hw)).1
  have x0 := (cells_block (keepblk3 vB hx)).1
  have y0 := (cells_block (show V.heap[w.heap.size]? = some (.cells #[.int .i64 (y.c.length : Int), .int .u64 (FW y.c 0 : Int), .int .u64 (FW y.c 1 : Int), .int .u64 (FW y.c 2 : Int), .int .u64 (FW y.c 3 : Int), .int .u64 (OW y.c 0 : Int), .int .u64 (OW y.c 1 : Int), .int .u64 (OW y.c 2 : Int), .int .u64 (OW y.c 3 : Int), .slice y.q y.L.length y.k] 84 (0, 0)) by rw [← hV]; exact alloc_get _ _)).1
  have HC : Hid (Calls Tryz.prog 102 #[.agg #[.int .i64 (y.c.length : Int), .int .u64 (FW y.c 0 : Int), .int .u64 (FW y.c 1 : Int), .int .u64 (FW y.c 2 : Int), .int .u64 (FW y.c 3 : Int), .int .u64 (OW y.c 0 : Int), .int .u64 (OW y.c 1 : Int), .int .u64 (OW y.c 2 : Int), .int .u64 (OW y.c 3 : Int), .slice y.q y.L.length y.k], .agg #[.int .i64 (x.c.length : Int), .int .u64 (FW x.c 0 : Int), .int .u64 (FW x.c 1 : Int), .int .u64 (FW x.c 2 : Int), .int .u64 (FW x.c 3 : Int), .int .u64 (OW x.c 0 : Int), .int .u64 (OW x.c 1 : Int), .int .u64 (OW x.c 2 : Int), .int .u64 (OW x.c 3 : Int), .slice x.q x.L.length x.k]] V fun e w' => e = .returned (.bool (cvB y x)) ∧ Below V.heap.size V w') := covered_any y x V (gy.later (KC_below vB)) (gx.later (KC_below vB))
  clear hw hx gx gy
  unfold termV
  go_enter Tryz.func123, Tryz.ntmps123
  go_wp2_with fail
  refine HC.out.mono ?_
  rintro e W1 ⟨rfl, hb1⟩
  go_wp2_with fail
  go_ret
  exact ⟨rfl, bel0 vB hb1⟩
set_option maxRecDepth 100000 in
set_option maxHeartbeats 2000000 in
theorem idxt1_any (L : List ZT) (n : Nat) (o : Option Addr) (c : Nat) (b1 b2 : Nat) (p : ZT → Bool) (w : World) (hn : L.length = n) (hL : n ≤ 281474976710656) (hr : IRZ w o L) (hp : ∀ W, Below w.heap.size w W → ∀ t ∈ L, Calls Tryz.prog 121 #[termV t, .pointer (some ⟨b1, 0, none⟩), .pointer (some ⟨b2, 0, none⟩)] W fun e w' => e = .returned (.bool (p t)) ∧ Below W.heap.size W w') :
    Calls Tryz.prog 142 #[.slice o n c, .func (.func 121) #[] #[.pointer (some ⟨b1, 0, none⟩), .pointer (some ⟨b2, 0, none⟩)]] w fun e w' => e = .returned (.int .i64 (ixG p 0 L)) ∧ Below w.heap.size w w' := by
  have HR : Hid (IRZ w o L) := hr
  have HPP : Hid (∀ W, Below w.heap.size w W → ∀ t ∈ L, Calls Tryz.prog 121 #[termV t, .pointer (some ⟨b1, 0, none⟩), .pointer (some ⟨b2, 0, none⟩)] W fun e w' => e = .returned (.bool (p t)) ∧ Below W.heap.size W w') := hp
  have HN : Hid (L.length = n) := hn
  obtain ⟨q, hq⟩ : ∃ q, ixG p 0 L = q := ⟨_, rfl⟩
  rw [hq]
  have HQ : Hid (ixG p 0 (L.drop 0) = q) := hq
  clear hr hp hq hn
  go_enter Tryz.func142, Tryz.ntmps142
  go_wp2_with fail
  go_loopw [8] (fun vk wr => ∃ k : Nat, vk = .int .i64 k ∧ k ≤ n ∧ Hid (ixG p k (L.drop k) = q) ∧ Below w.heap.size w wr) (fun vk _ => n - (intOf vk).toNat)
  case atStart => exact ⟨0, rfl, Nat.zero_le _, HQ, Below.refl _ _⟩
  case round =>
    clear HQ
    obtain ⟨k, rfl, hk, hidx, hB⟩ := hrel
    by_cases hlt : k < n
    · have j1 : (k : Int) < (n : Int) := by omega
      have j0 : (0 : Int) ≤ (k : Int) := by omega
      obtain ⟨t, ht⟩ : ∃ t, L[k]? = some t := ⟨_, List.getElem?_eq_getElem (by rw [HN.out]; exact hlt)⟩
      obtain ⟨g, o0, rfl, p0, p1, p2, p3, p4, p5, p6, p7, p8, p9⟩ := HR.out wr hB k t ht
      have hx2 := hidx.out
      rw [ixG_step ht] at hx2
      have H1 := HPP.out wr hB t (List.mem_of_getElem? ht)
      have HH : Hid (Calls Tryz.prog 121 #[termV t, .pointer (some ⟨b1, 0, none⟩), .pointer (some ⟨b2, 0, none⟩)] wr fun e w' => e = .returned (.bool (p t)) ∧ Below wr.heap.size wr w') := H1
      clear ht hidx H1
      cases hy : p t with
      | true =>
        rw [hy, if_pos rfl] at hx2
        have HX2 : Hid ((k : Int) = q) := hx2
        have HY : Hid (p t = true) := hy
        clear hx2 hy
        go_wp2_with fail
        refine HH.out.mono ?_
        rintro e W1 ⟨rfl, hb1⟩
        rw [HY.out]
        go_wp2_with fail
        go_ret
        exact ⟨by rw [← HX2.out]; rfl, bel0 hB hb1⟩
      | false =>
        rw [hy, if_neg (by simp)] at hx2
        have HX : Hid (ixG p (k + 1) (L.drop (k + 1)) = q) := hx2
        have HY : Hid (p t = false) := hy
        clear hx2 hy
        go_wp2_with fail
        refine HH.out.mono ?_
        rintro e W1 ⟨rfl, hb1⟩
        rw [HY.out]
        go_wp2_with fail
        go_roundw
        case rel => exact ⟨k + 1, by go_num, by omega, HX, bel0 hB hb1⟩
        case measure => simp [intOf]; omega
    · have j1 : ¬ (k : Int) < (n : Int) := by omega
      have HX2 : Hid (-1 = q) := by
        unfold Hid
        rw [← hidx.out, List.drop_eq_nil_of_le (by rw [HN.out]; omega)]
        rfl
      clear hidx
      go_wp2_with fail
      go_ret
      exact ⟨by rw [← HX2.out]; rfl, hB⟩
set_option maxRecDepth 100000 in
set_option maxHeartbeats 2000000 in
theorem idxt2_any (L : List ZT) (n : Nat) (o : Option Addr) (c : Nat) (b1 b2 : Nat) (p : ZT → Bool) (w : World) (hn : L.length = n) (hL : n ≤ 281474976710656) (hr : IRZ w o L) (hp : ∀ W, Below w.heap.size w W → ∀ t ∈ L, Calls Tryz.prog 123 #[termV t, .pointer (some ⟨b1, 0, none⟩), .pointer (some ⟨b2, 0, none⟩)] W fun e w' => e = .returned (.bool (p t)) ∧ Below W.heap.size W w') :
    Calls Tryz.prog 142 #[.slice o n c, .func (.func 123) #[] #[.pointer (some ⟨b1, 0, none⟩), .pointer (some ⟨b2, 0, none⟩)]] w fun e w' => e = .returned (.int .i64 (ixG p 0 L)) ∧ Below w.heap.size w w' := by
  have HR : Hid (IRZ w o L) := hr
  have HPP : Hid (∀ W, Below w.heap.size w W → ∀ t ∈ L, Calls Tryz.prog 123 #[termV t, .pointer (some ⟨b1, 0, none⟩), .pointer (some ⟨b2, 0, none⟩)] W fun e w' => e = .returned (.bool (p t)) ∧ Below W.heap.size W w') := hp
  have HN : Hid (L.length = n) := hn
  obtain ⟨q, hq⟩ : ∃ q, ixG p 0 L = q := ⟨_, rfl⟩
  rw [hq]
  have HQ : Hid (ixG p 0 (L.drop 0) = q) := hq
  clear hr hp hq hn
  go_enter Tryz.func142, Tryz.ntmps142
  go_wp2_with fail
  go_loopw [8] (fun vk wr => ∃ k : Nat, vk = .int .i64 k ∧ k ≤ n ∧ Hid (ixG p k (L.drop k) = q) ∧ Below w.heap.size w wr) (fun vk _ => n - (intOf vk).toNat)
  case atStart => exact ⟨0, rfl, Nat.zero_le _, HQ, Below.refl _ _⟩
  case round =>
    clear HQ
    obtain ⟨k, rfl, hk, hidx, hB⟩ := hrel
    by_cases hlt : k < n
    · have j1 : (k : Int) < (n : Int) := by omega
      have j0 : (0 : Int) ≤ (k : Int) := by omega
      obtain ⟨t, ht⟩ : ∃ t, L[k]? = some t := ⟨_, List.getElem?_eq_getElem (by rw [HN.out]; exact hlt)⟩
      obtain ⟨g, o0, rfl, p0, p1, p2, p3, p4, p5, p6, p7, p8, p9⟩ := HR.out wr hB k t ht
      have hx2 := hidx.out
      rw [ixG_step ht] at hx2
      have H1 := HPP.out wr hB t (List.mem_of_getElem? ht)
      have HH : Hid (Calls Tryz.prog 123 #[termV t, .pointer (some ⟨b1, 0, none⟩), .pointer (some ⟨b2, 0, none⟩)] wr fun e w' => e = .returned (.bool (p t)) ∧ Below wr.heap.size wr w') := H1
      clear ht hidx H1
      cases hy : p t with
      | true =>
        rw [hy, if_pos rfl] at hx2
        have HX2 : Hid ((k : Int) = q) := hx2
        have HY : Hid (p t = true) := hy
        clear hx2 hy
        go_wp2_with fail
        refine HH.out.mono ?_
        rintro e W1 ⟨rfl, hb1⟩
        rw [HY.out]
        go_wp2_with fail
        go_ret
        exact ⟨by rw [← HX2.out]; rfl, bel0 hB hb1⟩
      | false =>
        rw [hy, if_neg (by simp)] at hx2
        have HX : Hid (ixG p (k + 1) (L.drop (k + 1)) = q) := hx2
        have HY : Hid (p t = false) := hy
        clear hx2 hy
        go_wp2_with fail
        refine HH.out.mono ?_
        rintro e W1 ⟨rfl, hb1⟩
        rw [HY.out]
        go_wp2_with fail
        go_roundw
        case rel => exact ⟨k + 1, by go_num, by omega, HX, bel0 hB hb1⟩
        case measure => simp [intOf]; omega
    · have j1 : ¬ (k : Int) < (n : Int) := by omega
      have HX2 : Hid (-1 = q) := by
        unfold Hid
        rw [← hidx.out, List.drop_eq_nil_of_le (by rw [HN.out]; omega)]
        rfl
      clear hidx
      go_wp2_with fail
      go_ret
      exact ⟨by rw [← HX2.out]; rfl, hB⟩
set_option maxRecDepth 100000 in
set_option maxHeartbeats 1000000 in
theorem contt_any (L : List ZT) (n : Nat) (o : Option Addr) (c : Nat) (b1 b2 : Nat) (p : ZT → Bool) (w : World) (hn : L.length = n) (hL : n ≤ 281474976710656) (hr : IRZ w o L) (hp : ∀ W, Below w.heap.size w W → ∀ t ∈ L, Calls Tryz.prog 121 #[termV t, .pointer (some ⟨b1, 0, none⟩), .pointer (some ⟨b2, 0, none⟩)] W fun e w' => e = .returned (.bool (p t)) ∧ Below W.heap.size W w') :
    Calls Tryz.prog 120 #[.slice o n c, .func (.func 121) #[] #[.pointer (some ⟨b1, 0, none⟩), .pointer (some ⟨b2, 0, none⟩)]] w fun e w' => e = .returned (.bool (L.any p)) ∧ Below w.heap.size w w' := by
  have H1 := idxt1_any L n o c b1 b2 p w hn hL hr hp
  obtain ⟨b, hb⟩ : ∃ b, L.any p = b := ⟨_, rfl⟩
  obtain ⟨i, hi⟩ : ∃ i, ixG p 0 L = i := ⟨_, rfl⟩
  have HD : Hid (decide ((0 : Int) ≤ i) = b) := by
    unfold Hid
    rw [← hb, ← hi, ixG_any]
  rw [hi] at H1
  rw [hb]
  clear hr hp hb hi hn
  go_enter Tryz.func120, Tryz.ntmps120
  go_wp2_with fail
  refine H1.mono ?_
  rintro e W1 ⟨rfl, hb1⟩
  go_wp2_with fail
  go_ret
  exact ⟨by rw [← HD.out]; rfl, hb1⟩
end Go.Proofs.YtccbfaembcefjaaGreatDoor
namespace Go.Proofs.YtccbfaembcefjaaGreatDoor
open Go.RowKit
theorem CZ_of {W : World} {b : Nat} {z : ZT} (h : W.heap[b]? = some (.cells #[.int .i64 (z.c.length : Int), .int .u64 (FW z.c 0 : Int), .int .u64 (FW z.c 1 : Int), .int .u64 (FW z.c 2 : Int), .int .u64 (FW z.c 3 : Int), .int .u64 (OW z.c 0 : Int), .int .u64 (OW z.c 1 : Int), .int .u64 (OW z.c 2 : Int), .int .u64 (OW z.c 3 : Int), .slice z.q z.L.length z.k] 84 (0, 0))) : CZ W b 0 z := by
  obtain ⟨hc, -⟩ := cells_block h
  exact ⟨hc 0, hc 1, hc 2, hc 3, hc 4, hc 5, hc 6, hc 7, hc 8, hc 9⟩
theorem CZ.below {W X : World} {g o : Nat} {z : ZT} (h : CZ W g o z) (hb : Below W.heap.size W X) : CZ X g o z := by
  have hk : ∀ {p : Addr} {v : Value}, W.cell? p = some v → X.cell? p = some v := fun h => (hb.cell (World.block_lt_of_cell? W _ h)).trans h
  obtain ⟨h0, h1, h2, h3, h4, h5, h6, h7, h8, h9⟩ := h
  exact ⟨hk h0, hk h1, hk h2, hk h3, hk h4, hk h5, hk h6, hk h7, hk h8, hk h9⟩
theorem tes_set (K : List ZT) (k : Nat) (M : ZT) (hk : k < K.length) : (((((((((((tes K).set (k * 10) (.int .i64 (M.c.length : Int))).set (k * 10 + 1) (.int .u64 (FW M.c 0 : Int))).set (k * 10 + 2) (.int .u64 (FW M.c 1 : Int))).set (k * 10 + 3) (.int .u64 (FW M.c 2 : Int))).set (k * 10 + 4) (.int .u64 (FW M.c 3 : Int))).set (k * 10 + 5) (.int .u64 (OW M.c 0 : Int))).set (k * 10 + 6) (.int .u64 (OW M.c 1 : Int))).set (k * 10 + 7) (.int .u64 (OW M.c 2 : Int))).set (k * 10 + 8) (.int .u64 (OW M.c 3 : Int))).set (k * 10 + 9) (.slice M.q M.L.length M.k)) = tes (K.set k M) := by
  have hl := tes_len K
  apply List.ext_getElem?
  intro j
  obtain ⟨q, m, hm, rfl⟩ : ∃ q m, m < 10 ∧ j = q * 10 + m := ⟨j / 10, j % 10, by omega, by omega⟩
  rw [tes_get (K.set k M) q m hm]
  by_cases hq : q = k
  · subst hq
    rw [List.getElem?_set_self hk]
    have hc : m = 0 ∨ m = 1 ∨ m = 2 ∨ m = 3 ∨ m = 4 ∨ m = 5 ∨ m = 6 ∨ m = 7 ∨ m = 8 ∨ m = 9 := by omega
    rcases hc with rfl | rfl | rfl | rfl | rfl | rfl | rfl | rfl | rfl | rfl <;>
      (repeat rw [List.getElem?_set_ne (by omega)]) <;>
      (first | (rw [List.getElem?_set_self (by simp only [List.length_set]; omega)]; rfl) | (show (((tes K).set (q * 10) _))[q * 10]? = _; rw [List.getElem?_set_self (by omega)]; rfl))
  · rw [List.getElem?_set_ne (by omega), List.getElem?_set_ne (by omega), List.getElem?_set_ne (by omega), List.getElem?_set_ne (by omega), List.getElem?_set_ne (by omega), List.getElem?_set_ne (by omega), List.getElem?_set_ne (by omega), List.getElem?_set_ne (by omega), List.getElem?_set_ne (by omega), List.getElem?_set_ne (by omega), tes_get K q m hm, List.getElem?_set_ne (fun e => hq e.symm)]
def put10k (W : World) (g k : Nat) (M : ZT) : World := ((((((((((W.setCell ⟨g, k * 10, none⟩ (.int .i64 (M.c.length : Int))).setCell ⟨g, k * 10 + 1, none⟩ (.int .u64 (FW M.c 0 : Int))).setCell ⟨g, k * 10 + 2, none⟩ (.int .u64 (FW M.c 1 : Int))).setCell ⟨g, k * 10 + 3, none⟩ (.int .u64 (FW M.c 2 : Int))).setCell ⟨g, k * 10 + 4, none⟩ (.int .u64 (FW M.c 3 : Int))).setCell ⟨g, k * 10 + 5, none⟩ (.int .u64 (OW M.c 0 : Int))).setCell ⟨g, k * 10 + 6, none⟩ (.int .u64 (OW M.c 1 : Int))).setCell ⟨g, k * 10 + 7, none⟩ (.int .u64 (OW M.c 2 : Int))).setCell ⟨g, k * 10 + 8, none⟩ (.int .u64 (OW M.c 3 : Int))).setCell ⟨g, k * 10 + 9, none⟩ (.slice M.q M.L.length M.k))
theorem put10k_own {W : World} {B g n c k : Nat} {K : List ZT} (M : ZT) (h : W.ownsRow B 84 10 (.slice (some ⟨g, 0, none⟩) n c) n (tes K)) (hk : k < K.length) :
    (put10k W g k M).ownsRow B 84 10 (.slice (some ⟨g, 0, none⟩) n c) n (tes (K.set k M)) ∧ W.grownBy (put10k W g k M) (some g) := by
  have s0 := h.stored (k * 10) (.int .i64 (M.c.length : Int))
  have s1 := s0.1.stored (k * 10 + 1) (.int .u64 (FW M.c 0 : Int))
  have s2 := s1.1.stored (k * 10 + 2) (.int .u64 (FW M.c 1 : Int))
  have s3 := s2.1.stored (k * 10 + 3) (.int .u64 (FW M.c 2 : Int))
  have s4 := s3.1.stored (k * 10 + 4) (.int .u64 (FW M.c 3 : Int))
  have s5 := s4.1.stored (k * 10 + 5) (.int .u64 (OW M.c 0 : Int))
  have s6 := s5.1.stored (k * 10 + 6) (.int .u64 (OW M.c 1 : Int))
  have s7 := s6.1.stored (k * 10 + 7) (.int .u64 (OW M.c 2 : Int))
  have s8 := s7.1.stored (k * 10 + 8) (.int .u64 (OW M.c 3 : Int))
  have s9 := s8.1.stored (k * 10 + 9) (.slice M.q M.L.length M.k)
  rw [← tes_set K k M hk]
  exact ⟨s9.1, grown_trans s0.2 (grown_trans s1.2 (grown_trans s2.2 (grown_trans s3.2 (grown_trans s4.2 (grown_trans s5.2 (grown_trans s6.2 (grown_trans s7.2 (grown_trans s8.2 (s9.2)))))))))⟩
theorem clear10 (w : World) (ty : TypeId) (b o n c : Nat) (hn : 0 < n) (hc : ∀ j, j < n * 10 → (w.cell? ⟨b, o + j, none⟩).isSome = true) (hf : ∀ j, j < n * 10 → w.frozen? ⟨b, o + j, none⟩ = false) :
    ∃ Z : List Value, (Builtin.clear_ #[22] ty #[.slice (some ⟨b, o, none⟩) n c]).run Tryz.prog w = .ok (.tuple #[]) (w.setCells b o Z) := by
  obtain ⟨A, hA⟩ : ∃ A, Builtin.zeroCells (.agg #[.int .i64 0, .int .u64 0, .int .u64 0, .int .u64 0, .int .u64 0, .int .u64 0, .int .u64 0, .int .u64 0, .int .u64 0, .slice none 0 0] : Value).cells n = A := ⟨_, rfl⟩
  have hl : A.toList.length = n * 10 := by
    rw [← hA]
    simp [Builtin.zeroCells, Value.cells]
  have h1 : ∀ v ∈ A.toList, v.oneCell' = true := by
    intro v hv
    rw [← hA] at hv
    simp only [Builtin.zeroCells, Value.cells] at hv
    simp only [Array.toList_map, List.mem_map] at hv
    obtain ⟨i, -, rfl⟩ := hv
    have hi : i % 10 = 0 ∨ i % 10 = 1 ∨ i % 10 = 2 ∨ i % 10 = 3 ∨ i % 10 = 4 ∨ i % 10 = 5 ∨ i % 10 = 6 ∨ i % 10 = 7 ∨ i % 10 = 8 ∨ i % 10 = 9 := by omega
    rcases hi with e | e | e | e | e | e | e | e | e | e <;> simp [e, Value.oneCell']
  have hst := run_storeCells_cells (P := Tryz.prog) b o A.toList 0 w (by rw [hl]; simpa using hc) (by rw [hl]; simpa using hf) h1
  simp only [Nat.add_zero] at hst
  obtain ⟨m, rfl⟩ : ∃ m, n = m + 1 := ⟨n - 1, by omega⟩
  exact ⟨A.toList, by simp [Builtin.clear_, run_underlying Tryz.underlying22, hA, hst]⟩
theorem tes_take (L : List ZT) (i : Nat) : (tes L).take (i * 10) = tes (L.take i) := by
  induction L generalizing i with
  | nil => simp [tes]
  | cons t l ih =>
    have hc : tes (t :: l) = t.cells ++ tes l := rfl
    have hl : t.cells.length = 10 := rfl
    cases i with
    | zero => simp [tes]
    | succ i =>
      rw [hc, List.take_append, hl, List.take_of_length_le (by rw [hl]; omega), show (i + 1) * 10 - 10 = i * 10 by omega, ih]
      rfl
theorem del_yesT {α : Type} {q : α → Bool} {L K : List α} {i j : Nat} {t : α} (h1 : K.take i = (L.take j).filter q) (h2 : ((L.take j).filter q).length = i) (h3 : K.drop j = L.drop j) (h4 : K.length = L.length) (hij : i < j) (ht : L[j]? = some t) (hq : q t = true) : (K.set i t).take (i + 1) = (L.take (j + 1)).filter q ∧ ((L.take (j + 1)).filter q).length = i + 1 ∧ (K.set i t).drop (j + 1) = L.drop (j + 1) ∧ (K.set i t).length = L.length := by
  have hj : j < L.length := (List.getElem?_eq_some_iff.1 ht).1
  have e : (L.take (j + 1)).filter q = (L.take j).filter q ++ [t] := by
    rw [List.take_add_one, ht, List.filter_append]
    simp [hq]
  refine ⟨?_, by rw [e, List.length_append, h2]; rfl, ?_, by rw [List.length_set, h4]⟩
  · rw [e, List.take_add_one, List.take_set, List.set_eq_of_length_le (by rw [List.length_take]; omega), h1, List.getElem?_set_self (by omega)]
    rfl
  · rw [List.drop_set_of_lt (by omega), ← List.drop_drop, h3, List.drop_drop]
theorem del_noT {α : Type} {q : α → Bool} {L K : List α} {i j : Nat} {t : α} (h1 : K.take i = (L.take j).filter q) (h2 : ((L.take j).filter q).length = i) (h3 : K.drop j = L.drop j) (ht : L[j]? = some t) (hq : q t = false) : K.take i = (L.take (j + 1)).filter q ∧ ((L.take (j + 1)).filter q).length = i ∧ K.drop (j + 1) = L.drop (j + 1) := by
  have e : (L.take (j + 1)).filter q = (L.take j).filter q := by
    rw [List.take_add_one, ht, List.filter_append]
    simp [hq]
  rw [e]
  exact ⟨h1, h2, by rw [← List.drop_drop, h3, List.drop_drop]⟩
set_option maxRecDepth 100000 in
set_option maxHeartbeats 4000000 in
theorem delt_any (L : List ZT) (n c g B : Nat) (x : ZT) (bw bx : Nat) (w : World) (hn : L.length = n) (hc : n ≤ 281474976710656) (h : w.ownsRow B 84 10 (.slice (some ⟨g, 0, none⟩) n c) n (tes L)) (gL : ∀ t ∈ L, ZOK w t) (gx : ZOK w x) (hq : WZ w bw bx x) (h1 : bw ≠ g) (h2 : bx ≠ g) (q : ZT → Bool) (hqd : q = fun t => !cvB t x) :
    Calls Tryz.prog 122 #[.slice (some ⟨g, 0, none⟩) n c, .func (.func 123) #[] #[.pointer (some ⟨bw, 0, none⟩), .pointer (some ⟨bx, 0, none⟩)]] w fun e w' => ∃ m, e = .returned (.slice (some ⟨g, 0, none⟩) m c) ∧ (L.filter q).length = m ∧ w'.ownsRow B 84 10 (.slice (some ⟨g, 0, none⟩) m c) m (tes (L.filter q)) ∧ w.grownBy w' (some g) := by
  have hnc : n ≤ c := by
    rcases h.2 with ⟨h', _⟩ | ⟨g', cap', cur, h', _, _, h9, _⟩
    · cases h'
    · injection h' with _ _ a3
      omega
  have H1 := idxt2_any L n (some ⟨g, 0, none⟩) c bw bx (fun t => cvB t x) w hn (by omega) (IRZ_own h hn) (fun W hW t ht => greatt2_any x t bw bx W (gx.later (KC_below hW)) ((gL t ht).later (KC_below hW)) (hq.below hW))
  obtain ⟨i0, hi0⟩ : ∃ i, ixG (fun t => cvB t x) 0 L = i := ⟨_, rfl⟩
  have HIX := ixG_at (fun t => cvB t x) L 0
  rw [hi0] at H1 HIX
  have HN : Hid (L.length = n) := hn
  have HO : Hid (w.ownsRow B 84 10 (.slice (some ⟨g, 0, none⟩) n c) n (tes L)) := h
  have HG : Hid (∀ t ∈ L, ZOK w t) := gL
  have HQ : Hid (WZ w bw bx x ∧ bw ≠ g ∧ bx ≠ g) := ⟨hq, h1, h2⟩
  have HD : Hid (q = fun t => !cvB t x) := hqd
  have HX : Hid (ZOK w x) := gx
  have HKT : Hid (∃ cur, w.heap[g]? = some (.cells cur 84 (0, 0))) := by
    rcases h.2 with ⟨h', _⟩ | ⟨g', cap', cur, h', _, hg', _⟩
    · cases h'
    · injection h' with a1 _ _
      injection a1 with a1
      injection a1 with a1
      subst a1
      exact ⟨cur, hg'⟩
  have HI : Hid ((i0 = -1 ∧ ∀ t ∈ L, cvB t x = false) ∨ ∃ A t R, L = A ++ t :: R ∧ (∀ x_1 ∈ A, cvB x_1 x = false) ∧ cvB t x = true ∧ i0 = ((0 + A.length : Nat) : Int)) := HIX
  clear hn h gL hq h1 h2 hqd gx HIX hi0
  go_enter Tryz.func122, Tryz.ntmps122
  go_wp2_with fail
  refine H1.mono ?_
  rintro e W0 ⟨rfl, hb0⟩
  clear H1
  rcases HI.out with ⟨rfl, hno⟩ | ⟨A, t0, R, hLA, hA, ht0, rfl⟩
  · have HF : Hid (L.filter q = L) := by
      unfold Hid
      rw [HD.out]
      exact List.filter_eq_self.2 (fun t ht => by simp [hno t ht])
    clear hno HI
    go_wp2_with fail
    go_ret
    refine ⟨n, rfl, ?_, ?_, below_grown hb0 _⟩
    · rw [HF.out, HN.out]
    · rw [HF.out]
      exact (HO.out.kept (below_grown hb0 none) (.inr (by intro e; cases e)))
  · obtain ⟨i, hi⟩ : ∃ i, A.length = i := ⟨_, rfl⟩
    have HS : Hid (∃ K : List ZT, K.take i = (L.take (i + 1)).filter q ∧ ((L.take (i + 1)).filter q).length = i ∧ K.drop (i + 1) = L.drop (i + 1) ∧ K.length = L.length ∧ W0.ownsRow B 84 10 (.slice (some ⟨g, 0, none⟩) n c) n (tes K)) := by
      have e : (L.take (i + 1)).filter q = A := by
        rw [hLA, ← hi, List.take_append, List.take_of_length_le (by omega), Nat.add_sub_cancel_left, List.filter_append, HD.out]
        simp only [List.take_succ_cons, List.take_zero]
        rw [List.filter_eq_self.2 (fun t ht => by simp [hA t ht])]
        simp [ht0]
      refine ⟨L, ?_, by rw [e, hi], rfl, rfl, HO.out.kept (below_grown hb0 none) (.inr (by intro e; cases e))⟩
      rw [e, hLA, ← hi, List.take_left']
      rfl
    have hin : i + 1 ≤ n := by
      rw [← HN.out, hLA, List.length_append, List.length_cons, hi]
      omega
    rw [Nat.zero_add, hi]
    have k0 : ((i : Int) == -1) = false := beq_false_of_ne (by omega)
    clear hLA hA ht0 hi HI
    go_wp2_with fail
    go_loopw [5, 6] (fun v5 v6 wr => ∃ i j : Nat, v5 = .int .i64 (i : Int) ∧ v6 = .int .i64 (j : Int) ∧ i < j ∧ j ≤ n ∧ w.grownBy wr (some g) ∧ ∃ K : List ZT, K.take i = (L.take j).filter q ∧ ((L.take j).filter q).length = i ∧ K.drop j = L.drop j ∧ K.length = L.length ∧ wr.ownsRow B 84 10 (.slice (some ⟨g, 0, none⟩) n c) n (tes K)) (fun _ v6 _ => n - (intOf v6).toNat)
    case atStart => exact ⟨i, i + 1, rfl, by go_num, by omega, hin, below_grown hb0 _, HS.out⟩
    case round =>
      clear HS hb0
      obtain ⟨i, j, rfl, rfl, hij, hjn, hg, K, e1, e2, e3, e4, oK⟩ := hrel
      by_cases hlt : j < n
      · have j1 : (j : Int) < (n : Int) := by omega
        have j0 : (0 : Int) ≤ (j : Int) := by omega
        have i0 : (0 : Int) ≤ (i : Int) := by omega
        have i1 : (i : Int) < (n : Int) := by omega
        obtain ⟨t, ht⟩ : ∃ t, L[j]? = some t := ⟨_, List.getElem?_eq_getElem (by rw [HN.out]; exact hlt)⟩
        have hKt : K[j]? = some t := by
          have := congrArg (fun l => l[0]?) e3
          simpa [ht] using this
        have hjK : j < K.length := by rw [e4, HN.out]; exact hlt
        have ce : CZ wr g (j * 10) t := tz_at oK hKt
        have HST : Hid (K.take i = (L.take j).filter q ∧ ((L.take j).filter q).length = i ∧ K.drop j = L.drop j ∧ K.length = L.length ∧ L[j]? = some t) := ⟨e1, e2, e3, e4, ht⟩
        have HOK : Hid (wr.ownsRow B 84 10 (.slice (some ⟨g, 0, none⟩) n c) n (tes K)) := oK
        have HGR : Hid (w.grownBy wr (some g)) := hg
        have hwq : WZ wr bw bx x := ⟨(hg.block bw (lt_of_get3 HQ.out.1.1) (by intro e; injection e with e; exact HQ.out.2.1 e)).trans HQ.out.1.1, (hg.block bx (lt_of_get3 HQ.out.1.2) (by intro e; injection e with e; exact HQ.out.2.2 e)).trans HQ.out.1.2⟩
        have HW : Hid (WZ wr bw bx x) := hwq
        obtain ⟨p0, p1, p2, p3, p4, p5, p6, p7, p8, p9⟩ := ce
        clear e1 e2 e3 e4 oK hg ht hKt hwq
        have hkc : KC w wr := by
          obtain ⟨cur, hcur⟩ := HKT.out
          exact KC_grown HGR.out hcur (by decide)
        have hgd := (HG.out t (List.mem_of_getElem? HST.out.2.2.2.2)).later hkc
        have hxd := HX.out.later hkc
        have HCL : Hid (∀ W, Below wr.heap.size wr W → Calls Tryz.prog 123 #[.agg #[.int .i64 (t.c.length : Int), .int .u64 (FW t.c 0 : Int), .int .u64 (FW t.c 1 : Int), .int .u64 (FW t.c 2 : Int), .int .u64 (FW t.c 3 : Int), .int .u64 (OW t.c 0 : Int), .int .u64 (OW t.c 1 : Int), .int .u64 (OW t.c 2 : Int), .int .u64 (OW t.c 3 : Int), .slice t.q t.L.length t.k], .pointer (some ⟨bw, 0, none⟩), .pointer (some ⟨bx, 0, none⟩)] W fun e w' => e = .returned (.bool (cvB t x)) ∧ Below W.heap.size W w') := fun W hW => greatt2_any x t bw bx W (hxd.later (KC_below hW)) (hgd.later (KC_below hW)) (HW.out.below hW)
        have hal : Below wr.heap.size wr (wr.alloc (.cells #[.int .i64 (t.c.length : Int), .int .u64 (FW t.c 0 : Int), .int .u64 (FW t.c 1 : Int), .int .u64 (FW t.c 2 : Int), .int .u64 (FW t.c 3 : Int), .int .u64 (OW t.c 0 : Int), .int .u64 (OW t.c 1 : Int), .int .u64 (OW t.c 2 : Int), .int .u64 (OW t.c 3 : Int), .slice t.q t.L.length t.k] 84 (0, 0))) := belA (Below.refl _ _) _
        have hcb : CZ (wr.alloc (.cells #[.int .i64 (t.c.length : Int), .int .u64 (FW t.c 0 : Int), .int .u64 (FW t.c 1 : Int), .int .u64 (FW t.c 2 : Int), .int .u64 (FW t.c 3 : Int), .int .u64 (OW t.c 0 : Int), .int .u64 (OW t.c 1 : Int), .int .u64 (OW t.c 2 : Int), .int .u64 (OW t.c 3 : Int), .slice t.q t.L.length t.k] 84 (0, 0))) wr.heap.size 0 t := CZ_of (alloc_get _ _)
        go_wp2_with fail
        refine (HCL.out _ hal).mono ?_
        rintro e W1 ⟨rfl, hb1⟩
        have hB1 := bel0 hal hb1
        have oK1 : W1.ownsRow B 84 10 (.slice (some ⟨g, 0, none⟩) n c) n (tes K) := HOK.out.kept (below_grown hB1 none) (.inr (by intro e; cases e))
        have HG1 : Hid (w.grownBy W1 (some g)) := grown_trans HGR.out (below_grown hB1 _)
        cases hw : cvB t x with
        | true =>
          have HF : Hid (K.take i = (L.take (j + 1)).filter q ∧ ((L.take (j + 1)).filter q).length = i ∧ K.drop (j + 1) = L.drop (j + 1)) := del_noT HST.out.1 HST.out.2.1 HST.out.2.2.1 HST.out.2.2.2.2 (by rw [HD.out]; simp [hw])
          have HO1 : Hid (W1.ownsRow B 84 10 (.slice (some ⟨g, 0, none⟩) n c) n (tes K)) := oK1
          clear oK1 hw
          go_wp2_with fail
          go_roundw
          case rel => exact ⟨i, j + 1, rfl, by go_num, by omega, by omega, HG1.out, K, HF.out.1, HF.out.2.1, HF.out.2.2, HST.out.2.2.2.1, HO1.out⟩
          case measure => simp [intOf]; omega
        | false =>
          have hiK : i < K.length := by rw [HST.out.2.2.2.1, HN.out]; omega
          have HF : Hid ((K.set i t).take (i + 1) = (L.take (j + 1)).filter q ∧ ((L.take (j + 1)).filter q).length = i + 1 ∧ (K.set i t).drop (j + 1) = L.drop (j + 1) ∧ (K.set i t).length = L.length) := del_yesT HST.out.1 HST.out.2.1 HST.out.2.2.1 HST.out.2.2.2.1 hij HST.out.2.2.2.2 (by rw [HD.out]; simp [hw])
          have hp := put10k_own t oK1 hiK
          have HP : Hid ((put10k W1 g i t).ownsRow B 84 10 (.slice (some ⟨g, 0, none⟩) n c) n (tes (K.set i t)) ∧ w.grownBy (put10k W1 g i t) (some g)) := ⟨hp.1, grown_trans HG1.out hp.2⟩
          obtain ⟨c0, c1, c2, c3, c4, c5, c6, c7, c8, c9⟩ := tz_at oK1 (List.getElem?_eq_getElem hiK)
          have fz := oK1.frozenAt
          obtain ⟨d0, d1, d2, d3, d4, d5, d6, d7, d8, d9⟩ := hcb.below hb1
          clear oK1 hw hp
          go_wp2_with fail
          go_roundw
          case rel => exact ⟨i + 1, j + 1, by go_num, by go_num, by omega, by omega, HP.out.2, K.set i t, HF.out.1, HF.out.2.1, HF.out.2.2.1, HF.out.2.2.2, HP.out.1⟩
          case measure => simp [intOf]; omega
      · obtain rfl : j = n := by omega
        have j1 : ¬ (j : Int) < (j : Int) := by omega
        have i0 : (0 : Int) ≤ (i : Int) := by omega
        have i1 : (i : Int) ≤ (j : Int) := by omega
        have i2 : ¬ c = i := by omega
        have i3 : (j : Int) ≤ (c : Int) := by omega
        have i4 : (i : Int) ≤ (c : Int) := by omega
        obtain ⟨Z, hZ⟩ : ∃ Z : List Value, ∀ ty, (Builtin.clear_ #[22] ty #[.slice (some ⟨g, i * 10, none⟩) (j - i) (c - i)]).run Tryz.prog wr = .ok (.tuple #[]) (wr.setCells g (i * 10) Z) := by
          have hce : ∀ m, m < (j - i) * 10 → (wr.cell? ⟨g, i * 10 + m, none⟩).isSome = true := fun m hm => by
            rw [oK.cellAt (i * 10 + m) (by omega)]
            have hl := oK.1
            rw [List.getElem?_eq_getElem (by omega)]
            rfl
          obtain ⟨Z, hZ⟩ := clear10 wr 0 g (i * 10) (j - i) (c - i) (by omega) hce (fun m _ => oK.frozenAt _)
          exact ⟨Z, fun _ => hZ⟩
        obtain ⟨ys, oy, ey, gy⟩ := setCells_own Z (i * 10) oK
        have HE : Hid (((L.filter q).length = i) ∧ (wr.setCells g (i * 10) Z).ownsRow B 84 10 (.slice (some ⟨g, 0, none⟩) i c) i (tes (L.filter q)) ∧ w.grownBy (wr.setCells g (i * 10) Z) (some g)) := by
          have eL : L.take j = L := List.take_of_length_le (by rw [HN.out]; exact Nat.le_refl _)
          rw [eL] at e1 e2
          refine ⟨e2, ?_, grown_trans hg gy⟩
          have := own_cut (i := i) (by omega) oy
          rw [ey, tes_take, e1] at this
          exact this
        clear oK oy ey gy e1 e2 e3 e4 hg
        go_wp2_with fail
        go_ret
        exact ⟨i, rfl, HE.out.1, HE.out.2.1, HE.out.2.2⟩
end Go.Proofs.YtccbfaembcefjaaGreatDoor

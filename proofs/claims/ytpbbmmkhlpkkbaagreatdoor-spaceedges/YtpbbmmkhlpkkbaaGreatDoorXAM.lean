import Derived.Test.YtpbbmmkhlpkkbaaGreatDoorXAL
import Derived.Test.YtpbbmmkhlpkkbaaGreatDoorXAK
import Derived.Laws.MakeOwn
namespace Go.Proofs.YtpbbmmkhlpkkbaaGreatDoor
open Go.RowKit
def termV (z : ZT) : Value := .agg #[.int .i64 (z.c.length : Int), .int .u64 (FW z.c 0 : Int), .int .u64 (FW z.c 1 : Int), .int .u64 (FW z.c 2 : Int), .int .u64 (FW z.c 3 : Int), .int .u64 (OW z.c 0 : Int), .int .u64 (OW z.c 1 : Int), .int .u64 (OW z.c 2 : Int), .int .u64 (OW z.c 3 : Int), .slice z.q z.L.length z.k]
/-- a term's ten cells lie at a place -/
def CZ (W : World) (g o : Nat) (z : ZT) : Prop := W.cell? ⟨g, o, none⟩ = some (.int .i64 (z.c.length : Int)) ∧ W.cell? ⟨g, o + 1, none⟩ = some (.int .u64 (FW z.c 0 : Int)) ∧ W.cell? ⟨g, o + 2, none⟩ = some (.int .u64 (FW z.c 1 : Int)) ∧ W.cell? ⟨g, o + 3, none⟩ = some (.int .u64 (FW z.c 2 : Int)) ∧ W.cell? ⟨g, o + 4, none⟩ = some (.int .u64 (FW z.c 3 : Int)) ∧ W.cell? ⟨g, o + 5, none⟩ = some (.int .u64 (OW z.c 0 : Int)) ∧ W.cell? ⟨g, o + 6, none⟩ = some (.int .u64 (OW z.c 1 : Int)) ∧ W.cell? ⟨g, o + 7, none⟩ = some (.int .u64 (OW z.c 2 : Int)) ∧ W.cell? ⟨g, o + 8, none⟩ = some (.int .u64 (OW z.c 3 : Int)) ∧ W.cell? ⟨g, o + 9, none⟩ = some (.slice z.q z.L.length z.k)
/-- a row of terms lies there -/
def IRZ (w : World) (p : Option Addr) (L : List ZT) : Prop := ∀ W : World, Below w.heap.size w W → ∀ k t, L[k]? = some t → ∃ g o0, p = some ⟨g, o0, none⟩ ∧ CZ W g (o0 + k * 10) t
theorem IRZ.later {w W : World} {p : Option Addr} {L : List ZT} (h : IRZ w p L) (hb : Below w.heap.size w W) : IRZ W p L := fun X hX k t ht => h X (bel0 hb hX) k t ht
def tes (l : List ZT) : List Value := l.flatMap ZT.cells
theorem tes_snoc (l : List ZT) (t : ZT) : tes (l ++ [t]) = tes l ++ t.cells := by simp [tes]
theorem tes_len (l : List ZT) : (tes l).length = l.length * 10 := by
  induction l with
  | nil => rfl
  | cons x l ih => simp only [tes, List.flatMap_cons, List.length_append, List.length_cons] at ih ⊢; rw [ih]; simp [ZT.cells]; omega
theorem tes_get (L : List ZT) (k m : Nat) (hm : m < 10) : (tes L)[k * 10 + m]? = (L[k]?).bind (fun t => t.cells[m]?) := by
  induction L generalizing k with
  | nil => simp [tes]
  | cons t l ih =>
    have hc : tes (t :: l) = t.cells ++ tes l := rfl
    have hl : t.cells.length = 10 := rfl
    cases k with
    | zero =>
      rw [hc, List.getElem?_append_left (by rw [hl]; omega), Nat.zero_mul, Nat.zero_add]
      rfl
    | succ k =>
      rw [hc, List.getElem?_append_right (by rw [hl]; omega), hl, show (k + 1) * 10 + m - 10 = k * 10 + m by omega, ih k]
      rfl
theorem tz_at {W : World} {B g cap k n : Nat} {L : List ZT} {z : ZT} (hown : W.ownsRow B 60 10 (.slice (some ⟨g, 0, none⟩) n cap) n (tes L)) (hz : L[k]? = some z) : CZ W g (k * 10) z := by
  have hg : ∀ m, m < 10 → W.cell? ⟨g, k * 10 + m, none⟩ = z.cells[m]? := fun m hm => by
    have hc := hown.cells (g := g) rfl (k * 10 + m)
    have h1 := tes_get L k m hm
    rw [hz] at h1
    have h2 : (tes L)[k * 10 + m]? = z.cells[m]? := h1
    have h3 : ∃ v, z.cells[m]? = some v := ⟨_, List.getElem?_eq_getElem (by show m < 10; exact hm)⟩
    obtain ⟨v, hv⟩ := h3
    rw [hv]
    have h4 := hc v (by rw [h2, hv])
    rw [add_plain, Nat.zero_add] at h4
    exact h4
  refine ⟨hg 0 (by omega), hg 1 (by omega), hg 2 (by omega), hg 3 (by omega), hg 4 (by omega), hg 5 (by omega), hg 6 (by omega), hg 7 (by omega), hg 8 (by omega), hg 9 (by omega)⟩
theorem IRZ_own {W : World} {B n c : Nat} {p : Option Addr} {L : List ZT} (h : W.ownsRow B 60 10 (.slice p n c) n (tes L)) (hn : L.length = n) : IRZ W p L := fun X hX k t ht => by
  obtain ⟨hk, he⟩ := List.getElem?_eq_some_iff.1 ht
  have h2 := own_belQ h hX
  rcases h2.2 with ⟨e, h0⟩ | ⟨g, cap, cur, e, _⟩
  · omega
  · injection e with e1 _ _
    subst e1
    refine ⟨g, 0, rfl, ?_⟩
    rw [Nat.zero_add]
    exact tz_at h2 ht
/-- the first place, from k on, at which p holds -/
def ixG {α : Type} (p : α → Bool) (k : Nat) : List α → Int
  | [] => -1
  | t :: r => if p t = true then (k : Int) else ixG p (k + 1) r
theorem ixG_step {α : Type} {p : α → Bool} {L : List α} {k : Nat} {t : α} (h : L[k]? = some t) : ixG p k (L.drop k) = if p t = true then (k : Int) else ixG p (k + 1) (L.drop (k + 1)) := by
  obtain ⟨hk, he⟩ := List.getElem?_eq_some_iff.1 h
  rw [List.drop_eq_getElem_cons hk, he]
  rfl
theorem ixG_any {α : Type} (p : α → Bool) : ∀ (L : List α) (k : Nat), decide ((0 : Int) ≤ ixG p k L) = L.any p
  | [], k => by simp [ixG]
  | t :: r, k => by
    unfold ixG
    cases h : p t with
    | true => simp [h]
    | false => rw [if_neg (by simp), ixG_any p r (k + 1)]; simp [h]
/-- where p holds first -/
theorem ixG_at {α : Type} (p : α → Bool) : ∀ (L : List α) (k : Nat), (ixG p k L = -1 ∧ ∀ t ∈ L, p t = false) ∨ ∃ A t R, L = A ++ t :: R ∧ (∀ x ∈ A, p x = false) ∧ p t = true ∧ ixG p k L = ((k + A.length : Nat) : Int)
  | [], k => .inl ⟨rfl, fun t h => by cases h⟩
  | t :: r, k => by
    unfold ixG
    cases h : p t with
    | true => exact .inr ⟨[], t, r, rfl, fun x hx => (by cases hx), h, by simp⟩
    | false =>
      rw [if_neg (by simp)]
      rcases ixG_at p r (k + 1) with ⟨e, ha⟩ | ⟨A, u, R, e1, e2, e3, e4⟩
      · refine .inl ⟨e, fun x hx => ?_⟩
        rcases List.mem_cons.1 hx with rfl | hx
        · exact h
        · exact ha x hx
      · refine .inr ⟨t :: A, u, R, by rw [e1]; rfl, fun x hx => ?_, e3, by rw [e4, List.length_cons]; congr 1; omega⟩
        rcases List.mem_cons.1 hx with rfl | hx
        · exact h
        · exact e2 x hx
def WZ (W : World) (bw bx : Nat) (x : ZT) : Prop := W.heap[bw]? = some (.cells #[.func (.func 69) #[] #[]] 110 (0, 0)) ∧ W.heap[bx]? = some (.cells #[.int .i64 (x.c.length : Int), .int .u64 (FW x.c 0 : Int), .int .u64 (FW x.c 1 : Int), .int .u64 (FW x.c 2 : Int), .int .u64 (FW x.c 3 : Int), .int .u64 (OW x.c 0 : Int), .int .u64 (OW x.c 1 : Int), .int .u64 (OW x.c 2 : Int), .int .u64 (OW x.c 3 : Int), .slice x.q x.L.length x.k] 60 (0, 0))
theorem WZ.below {W X : World} {bw bx : Nat} {x : ZT} (h : WZ W bw bx x) (hb : Below W.heap.size W X) : WZ X bw bx x := ⟨keepblk3 hb h.1, keepblk3 hb h.2⟩
set_option maxRecDepth 100000 in
set_option maxHeartbeats 1000000 in
theorem greatt1_any (x y : ZT) (bw bx : Nat) (w : World) (gx : ZOK w x) (gy : ZOK w y) (h : WZ w bw bx x) : Calls Tryz.prog 93 #[termV y, .pointer (some ⟨bw, 0, none⟩), .pointer (some ⟨bx, 0, none⟩)] w fun e w' => e = .returned (.bool (cvB x y)) ∧ Below w.heap.size w w' := by
  obtain ⟨hw, hx⟩ := h
  obtain ⟨V, hV⟩ : ∃ V : World, w.alloc (.cells #[.int .i64 (y.c.length : Int), .int .u64 (FW y.c 0 : Int), .int .u64 (FW y.c 1 : Int), .int .u64 (FW y.c 2 : Int), .int .u64 (FW y.c 3 : Int), .int .u64 (OW y.c 0 : Int), .int .u64 (OW y.c 1 : Int), .int .u64 (OW y.c 2 : Int), .int .u64 (OW y.c 3 : Int), .slice y.q y.L.length y.k] 60 (0, 0)) = V := ⟨_, rfl⟩
  have vB : Below w.heap.size w V := by rw [← hV]; exact belA (Below.refl _ _) _
  have w0 := (cells_block (keepblk3 vB hw)).1
  have x0 := (cells_block (keepblk3 vB hx)).1
  have y0 := (cells_block (show V.heap[w.heap.size]? = some (.cells #[.int .i64 (y.c.length : Int), .int .u64 (FW y.c 0 : Int), .int .u64 (FW y.c 1 : Int), .int .u64 (FW y.c 2 : Int), .int .u64 (FW y.c 3 : Int), .int .u64 (OW y.c 0 : Int), .int .u64 (OW y.c 1 : Int), .int .u64 (OW y.c 2 : Int), .int .u64 (OW y.c 3 : Int), .slice y.q y.L.length y.k] 60 (0, 0)) by rw [← hV]; exact alloc_get _ _)).1
  have HC : Hid (Calls Tryz.prog 69 #[.agg #[.int .i64 (x.c.length : Int), .int .u64 (FW x.c 0 : Int), .int .u64 (FW x.c 1 : Int), .int .u64 (FW x.c 2 : Int), .int .u64 (FW x.c 3 : Int), .int .u64 (OW x.c 0 : Int), .int .u64 (OW x.c 1 : Int), .int .u64 (OW x.c 2 : Int), .int .u64 (OW x.c 3 : Int), .slice x.q x.L.length x.k], .agg #[.int .i64 (y.c.length : Int), .int .u64 (FW y.c 0 : Int), .int .u64 (FW y.c 1 : Int), .int .u64 (FW y.c 2 : Int), .int .u64 (FW y.c 3 : Int), .int .u64 (OW y.c 0 : Int), .int .u64 (OW y.c 1 : Int), .int .u64 (OW y.c 2 : Int), .int .u64 (OW y.c 3 : Int), .slice y.q y.L.length y.k]] V fun e w' => e = .returned (.bool (cvB x y)) ∧ Below V.heap.size V w') := covered_any x y V (gx.later (KC_below vB)) (gy.later (KC_below vB))
  clear hw hx gx gy
  unfold termV
  go_enter Tryz.func93, Tryz.ntmps93
  go_wp2_with fail
  refine HC.out.mono ?_
  rintro e W1 ⟨rfl, hb1⟩
  go_wp2_with fail
  go_ret
  exact ⟨rfl, bel0 vB hb1⟩
set_option maxRecDepth 100000 in
set_option maxHeartbeats 1000000 in
theorem greatt2_any (x y : ZT) (bw bx : Nat) (w : World) (gx : ZOK w x) (gy : ZOK w y) (h : WZ w bw bx x) : Calls Tryz.prog 95 #[termV y, .pointer (some ⟨bw, 0, none⟩), .pointer (some ⟨bx, 0, none⟩)] w fun e w' => e = .returned (.bool (cvB y x)) ∧ Below w.heap.size w w' := by
  obtain ⟨hw, hx⟩ := h
  obtain ⟨V, hV⟩ : ∃ V : World, w.alloc (.cells #[.int .i64 (y.c.length : Int), .int .u64 (FW y.c 0 : Int), .int .u64 (FW y.c 1 : Int), .int .u64 (FW y.c 2 : Int), .int .u64 (FW y.c 3 : Int), .int .u64 (OW y.c 0 : Int), .int .u64 (OW y.c 1 : Int), .int .u64 (OW y.c 2 : Int), .int .u64 (OW y.c 3 : Int), .slice y.q y.L.length y.k] 60 (0, 0)) = V := ⟨_, rfl⟩
  have vB : Below w.heap.size w V := by rw [← hV]; exact belA (Below.refl _ _) _
  have w0 := (cells_block (keepblk3 vB hw)).1
  have x0 := (cells_block (keepblk3 vB hx)).1
  have y0 := (cells_block (show V.heap[w.heap.size]? = some (.cells #[.int .i64 (y.c.length : Int), .int .u64 (FW y.c 0 : Int), .int .u64 (FW y.c 1 : Int), .int .u64 (FW y.c 2 : Int), .int .u64 (FW y.c 3 : Int), .int .u64 (OW y.c 0 : Int), .int .u64 (OW y.c 1 : Int), .int .u64 (OW y.c 2 : Int), .int .u64 (OW y.c 3 : Int), .slice y.q y.L.length y.k] 60 (0, 0)) by rw [← hV]; exact alloc_get _ _)).1
  have HC : Hid (Calls Tryz.prog 69 #[.agg #[.int .i64 (y.c.length : Int), .int .u64 (FW y.c 0 : Int), .int .u64 (FW y.c 1 : Int), .int .u64 (FW y.c 2 : Int), .int .u64 (FW y.c 3 : Int), .int .u64 (OW y.c 0 : Int), .int .u64 (OW y.c 1 : Int), .int .u64 (OW y.c 2 : Int), .int .u64 (OW y.c 3 : Int), .slice y.q y.L.length y.k], .agg #[.int .i64 (x.c.length : Int), .int .u64 (FW x.c 0 : Int), .int .u64 (FW x.c 1 : Int), .int .u64 (FW x.c 2 : Int), .int .u64 (FW x.c 3 : Int), .int .u64 (OW x.c 0 : Int), .int .u64 (OW x.c 1 : Int), .int .u64 (OW x.c 2 : Int), .int .u64 (OW x.c 3 : Int), .slice x.q x.L.length x.k]] V fun e w' => e = .returned (.bool (cvB y x)) ∧ Below V.heap.size V w') := covered_any y x V (gy.later (KC_below vB)) (gx.later (KC_below vB))
  clear hw hx gx gy
  unfold termV
  go_enter Tryz.func95, Tryz.ntmps95
  go_wp2_with fail
  refine HC.out.mono ?_
  rintro e W1 ⟨rfl, hb1⟩
  go_wp2_with fail
  go_ret
  exact ⟨rfl, bel0 vB hb1⟩
set_option maxRecDepth 100000 in
set_option maxHeartbeats 2000000 in
theorem idxt1_any (L : List ZT) (n : Nat) (o : Option Addr) (c : Nat) (b1 b2 : Nat) (p : ZT → Bool) (w : World) (hn : L.length = n) (hL : n ≤ 281474976710656) (hr : IRZ w o L) (hp : ∀ W, Below w.heap.size w W → ∀ t ∈ L, Calls Tryz.prog 93 #[termV t, .pointer (some ⟨b1, 0, none⟩), .pointer (some ⟨b2, 0, none⟩)] W fun e w' => e = .returned (.bool (p t)) ∧ Below W.heap.size W w') :
    Calls Tryz.prog 123 #[.slice o n c, .func (.func 93) #[] #[.pointer (some ⟨b1, 0, none⟩), .pointer (some ⟨b2, 0, none⟩)]] w fun e w' => e = .returned (.int .i64 (ixG p 0 L)) ∧ Below w.heap.size w w' := by
  have HR : Hid (IRZ w o L) := hr
  have HPP : Hid (∀ W, Below w.heap.size w W → ∀ t ∈ L, Calls Tryz.prog 93 #[termV t, .pointer (some ⟨b1, 0, none⟩), .pointer (some ⟨b2, 0, none⟩)] W fun e w' => e = .returned (.bool (p t)) ∧ Below W.heap.size W w') := hp
  have HN : Hid (L.length = n) := hn
  obtain ⟨q, hq⟩ : ∃ q, ixG p 0 L = q := ⟨_, rfl⟩
  rw [hq]
  have HQ : Hid (ixG p 0 (L.drop 0) = q) := hq
  clear hr hp hq hn
  go_enter Tryz.func123, Tryz.ntmps123
  go_wp2_with fail
  go_loopw [8] (fun vk wr => ∃ k : Nat, vk = .int .i64 k ∧ k ≤ n ∧ Hid (ixG p k (L.drop k) = q) ∧ Below w.heap.size w wr) (fun vk _ => n - (intOf vk).toNat)
  case atStart => exact ⟨0, rfl, Nat.zero_le _, HQ, Below.refl _ _⟩
  case round =>
    clear HQ
    obtain ⟨k, rfl, hk, hidx, hB⟩ := hrel
    by_cases hlt : k < n
    · have j1 : (k : Int) < (n : Int) := by omega
      have j0 : (0 : Int) ≤ (k : Int) := by omega
      obtain ⟨t, ht⟩ : ∃ t, L[k]? = some t := ⟨_, List.getElem?_eq_getElem (by rw [HN.out]; exact hlt)⟩
      obtain ⟨g, o0, rfl, p0, p1, p2, p3, p4, p5, p6, p7, p8, p9⟩ := HR.out wr hB k t ht
      have hx2 := hidx.out
      rw [ixG_step ht] at hx2
      have H1 := HPP.out wr hB t (List.mem_of_getElem? ht)
      have HH : Hid (Calls Tryz.prog 93 #[termV t, .pointer (some ⟨b1, 0, none⟩), .pointer (some ⟨b2, 0, none⟩)] wr fun e w' => e = .returned (.bool (p t)) ∧ Below wr.heap.size wr w') := H1
      clear ht hidx H1
      cases hy : p t with
      | true =>
        rw [hy, if_pos rfl] at hx2
        have HX2 : Hid ((k : Int) = q) := hx2
        have HY : Hid (p t = true) := hy
        clear hx2 hy
        go_wp2_with fail
        refine HH.out.mono ?_
        rintro e W1 ⟨rfl, hb1⟩
        rw [HY.out]
        go_wp2_with fail
        go_ret
        exact ⟨by rw [← HX2.out]; rfl, bel0 hB hb1⟩
      | false =>
        rw [hy, if_neg (by simp)] at hx2
        have HX : Hid (ixG p (k + 1) (L.drop (k + 1)) = q) := hx2
        have HY : Hid (p t = false) := hy
        clear hx2 hy
        go_wp2_with fail
        refine HH.out.mono ?_
        rintro e W1 ⟨rfl, hb1⟩
        rw [HY.out]
        go_wp2_with fail
        go_roundw
        case rel => exact ⟨k + 1, by go_num, by omega, HX, bel0 hB hb1⟩
        case measure => simp [intOf]; omega
    · have j1 : ¬ (k : Int) < (n : Int) := by omega
      have HX2 : Hid (-1 = q) := by
        unfold Hid
        rw [← hidx.out, List.drop_eq_nil_of_le (by rw [HN.out]; omega)]
        rfl
      clear hidx
      go_wp2_with fail
      go_ret
      exact ⟨by rw [← HX2.out]; rfl, hB⟩
set_option maxRecDepth 100000 in
set_option maxHeartbeats 2000000 in
theorem idxt2_any (L : List ZT) (n : Nat) (o : Option Addr) (c : Nat) (b1 b2 : Nat) (p : ZT → Bool) (w : World) (hn : L.length = n) (hL : n ≤ 281474976710656) (hr : IRZ w o L) (hp : ∀ W, Below w.heap.size w W → ∀ t ∈ L, Calls Tryz.prog 95 #[termV t, .pointer (some ⟨b1, 0, none⟩), .pointer (some ⟨b2, 0, none⟩)] W fun e w' => e = .returned (.bool (p t)) ∧ Below W.heap.size W w') :
    Calls Tryz.prog 123 #[.slice o n c, .func (.func 95) #[] #[.pointer (some ⟨b1, 0, none⟩), .pointer (some ⟨b2, 0, none⟩)]] w fun e w' => e = .returned (.int .i64 (ixG p 0 L)) ∧ Below w.heap.size w w' := by
  have HR : Hid (IRZ w o L) := hr
  have HPP : Hid (∀ W, Below w.heap.size w W → ∀ t ∈ L, Calls Tryz.prog 95 #[termV t, .pointer (some ⟨b1, 0, none⟩), .pointer (some ⟨b2, 0, none⟩)] W fun e w' => e = .returned (.bool (p t)) ∧ Below W.heap.size W w') := hp
  have HN : Hid (L.length = n) := hn
  obtain ⟨q, hq⟩ : ∃ q, ixG p 0 L = q := ⟨_, rfl⟩
  rw [hq]
  have HQ : Hid (ixG p 0 (L.drop 0) = q) := hq
  clear hr hp hq hn
  go_enter Tryz.func123, Tryz.ntmps123
  go_wp2_with fail
  go_loopw [8] (fun vk wr => ∃ k : Nat, vk = .int .i64 k ∧ k ≤ n ∧ Hid (ixG p k (L.drop k) = q) ∧ Below w.heap.size w wr) (fun vk _ => n - (intOf vk).toNat)
  case atStart => exact ⟨0, rfl, Nat.zero_le _, HQ, Below.refl _ _⟩
  case round =>
    clear HQ
    obtain ⟨k, rfl, hk, hidx, hB⟩ := hrel
    by_cases hlt : k < n
    · have j1 : (k : Int) < (n : Int) := by omega
      have j0 : (0 : Int) ≤ (k : Int) := by omega
      obtain ⟨t, ht⟩ : ∃ t, L[k]? = some t := ⟨_, List.getElem?_eq_getElem (by rw [HN.out]; exact hlt)⟩
      obtain ⟨g, o0, rfl, p0, p1, p2, p3, p4, p5, p6, p7, p8, p9⟩ := HR.out wr hB k t ht
      have hx2 := hidx.out
      rw [ixG_step ht] at hx2
      have H1 := HPP.out wr hB t (List.mem_of_getElem? ht)
      have HH : Hid (Calls Tryz.prog 95 #[termV t, .pointer (some ⟨b1, 0, none⟩), .pointer (some ⟨b2, 0, none⟩)] wr fun e w' => e = .returned (.bool (p t)) ∧ Below wr.heap.size wr w') := H1
      clear ht hidx H1
      cases hy : p t with
      | true =>
        rw [hy, if_pos rfl] at hx2
        have HX2 : Hid ((k : Int) = q) := hx2
        have HY : Hid (p t = true) := hy
        clear hx2 hy
        go_wp2_with fail
        refine HH.out.mono ?_
        rintro e W1 ⟨rfl, hb1⟩
        rw [HY.out]
        go_wp2_with fail
        go_ret
        exact ⟨by rw [← HX2.out]; rfl, bel0 hB hb1⟩
      | false =>
        rw [hy, if_neg (by simp)] at hx2
        have HX : Hid (ixG p (k + 1) (L.drop (k + 1)) = q) := hx2
        have HY : Hid (p t = false) := hy
        clear hx2 hy
        go_wp2_with fail
        refine HH.out.mono ?_
        rintro e W1 ⟨rfl, hb1⟩
        rw [HY.out]
        go_wp2_with fail
        go_roundw
        case rel => exact ⟨k + 1, by go_num, by omega, HX, bel0 hB hb1⟩
        case measure => simp [intOf]; omega
    · have j1 : ¬ (k : Int) < (n : Int) := by omega
      have HX2 : Hid (-1 = q) := by
        unfold Hid
        rw [← hidx.out, List.drop_eq_nil_of_le (by rw [HN.out]; omega)]
        rfl
      clear hidx
      go_wp2_with fail
      go_ret
      exact ⟨by rw [← HX2.out]; rfl, hB⟩
set_option maxRecDepth 100000 in
set_option maxHeartbeats 1000000 in
theorem contt_any (L : List ZT) (n : Nat) (o : Option Addr) (c : Nat) (b1 b2 : Nat) (p : ZT → Bool) (w : World) (hn : L.length = n) (hL : n ≤ 281474976710656) (hr : IRZ w o L) (hp : ∀ W, Below w.heap.size w W → ∀ t ∈ L, Calls Tryz.prog 93 #[termV t, .pointer (some ⟨b1, 0, none⟩), .pointer (some ⟨b2, 0, none⟩)] W fun e w' => e = .returned (.bool (p t)) ∧ Below W.heap.size W w') :
    Calls Tryz.prog 92 #[.slice o n c, .func (.func 93) #[] #[.pointer (some ⟨b1, 0, none⟩), .pointer (some ⟨b2, 0, none⟩)]] w fun e w' => e = .returned (.bool (L.any p)) ∧ Below w.heap.size w w' := by
  have H1 := idxt1_any L n o c b1 b2 p w hn hL hr hp
  obtain ⟨b, hb⟩ : ∃ b, L.any p = b := ⟨_, rfl⟩
  obtain ⟨i, hi⟩ : ∃ i, ixG p 0 L = i := ⟨_, rfl⟩
  have HD : Hid (decide ((0 : Int) ≤ i) = b) := by
    unfold Hid
    rw [← hb, ← hi, ixG_any]
  rw [hi] at H1
  rw [hb]
  clear hr hp hb hi hn
  go_enter Tryz.func92, Tryz.ntmps92
  go_wp2_with fail
  refine H1.mono ?_
  rintro e W1 ⟨rfl, hb1⟩
  go_wp2_with fail
  go_ret
  exact ⟨by rw [← HD.out]; rfl, hb1⟩
end Go.Proofs.YtpbbmmkhlpkkbaaGreatDoor
namespace Go.Proofs.YtpbbmmkhlpkkbaaGreatDoor
open Go.RowKit
theorem down_any {X : Nat → Prop} {J : List (List UInt8) → Option Nat → World → Prop} {Jx : World → Prop} {N0 l m nb bm K nf : Nat} {room : Int} (hJ : JY X N0 J) (hY : YLD X J Jx l m nb) (hbm : N0 ≤ bm) (hK : K ≤ 100000) (hnf : nf ≤ 4096) : ∀ (L : List (List UInt8)), gdW nb L → L.length < K → DWN X J Jx nb l bm K nf room L
  | [], _, hl => fun c M o r p k W gc hc h hm hr hMr hrm _ _ hol => down_nil hJ hY hbm hK c M o r p k W gc hc h hm hr hl (few_of hMr hrm 0 (Nat.le_refl _)) (by have := few_of hMr hrm 0 (Nat.le_refl _); omega)
  | d :: L, hg, hl => down_cons hJ hbm hK d L hg hl (down_any hJ hY hbm hK hnf L (fun x hx => hg x (List.mem_cons_of_mem _ hx)) (by rw [List.length_cons] at hl; omega))
theorem YK.fresh {X : Nat → Prop} {r r' : Option Nat} {W W1 W2 : World} {b : Nat} (h1 : YK X r W r W1) (h2 : YK (XB X b) r W1 r' W2) (hb : W.heap.size ≤ b) : YK X r W r' W2 := ⟨Nat.le_trans h1.1 h2.1, fun k hk hx hr => by
  obtain ⟨a1, a2⟩ := h1.2 k hk hx hr
  obtain ⟨b1, b2⟩ := h2.2 k (Nat.lt_of_lt_of_le hk h1.1) (by rintro (h | rfl); exact hx h; omega) a2
  exact ⟨b1.trans a1, b2⟩⟩
/-- a row of terms that is none of the caller's own lies there, their lists too -/
def TRC (W : World) (X : Nat → Prop) (r : Option Nat) (p : Option Addr) (Z : List ZT) : Prop := ∀ (i : Nat) (z : ZT), Z[i]? = some z → ∃ g o0, p = some ⟨g, o0, none⟩ ∧ CZ W g (o0 + i * 10) z ∧ ¬ X g ∧ some g ≠ r ∧ RC W X r z.q z.L ∧ z.L.length ≤ z.k
theorem CZ.same {W X : World} {g o : Nat} {z : ZT} (h : CZ W g o z) (hb : X.heap[g]? = W.heap[g]?) : CZ X g o z := by
  have hk : ∀ j, X.cell? ⟨g, j, none⟩ = W.cell? ⟨g, j, none⟩ := fun j => by unfold World.cell?; rw [hb]
  obtain ⟨a0, a1, a2, a3, a4, a5, a6, a7, a8, a9⟩ := h
  exact ⟨(hk _).trans a0, (hk _).trans a1, (hk _).trans a2, (hk _).trans a3, (hk _).trans a4, (hk _).trans a5, (hk _).trans a6, (hk _).trans a7, (hk _).trans a8, (hk _).trans a9⟩
theorem TRC.keep {W W' : World} {X : Nat → Prop} {r r' : Option Nat} {p : Option Addr} {Z : List ZT} (h : TRC W X r p Z) (hy : YK X r W r' W') : TRC W' X r' p Z := fun i z hz => by
  obtain ⟨g, o0, e, c, h1, h2, h3, h4⟩ := h i z hz
  obtain ⟨k1, k2⟩ := hy.2 g (World.block_lt_of_cell? W _ c.1) h1 h2
  exact ⟨g, o0, e, c.same k1, h1, k2, h3.keep hy, h4⟩
theorem RC.more {W : World} {X : Nat → Prop} {r : Option Nat} {p : Option Addr} {L : List (List UInt8)} {b : Nat} (h : RC W X r p L) (hb : ∀ g, W.heap[g]?.isSome = true → g ≠ b) : RC W (XB X b) r p L := fun i z hz => by
  obtain ⟨g, o0, e, c, h1, h2⟩ := h i z hz
  refine ⟨g, o0, e, c, ?_, h2⟩
  rintro (hx | hx)
  · exact h1 hx
  · refine hb g ?_ hx
    have := World.block_lt_of_cell? W _ c.1
    rw [Array.getElem?_eq_getElem this]
    rfl
theorem RC.ofW {W : World} {X : Nat → Prop} {r : Option Nat} {p : Option Addr} {L : List (List UInt8)} {b : Nat} {W' : World} (h : RC W X r p L) (hy : Below W.heap.size W W') (hb : W.heap.size ≤ b) : RC W' (XB X b) r p L := fun i z hz => by
  obtain ⟨g, o0, e, c, h1, h2⟩ := h i z hz
  have hg := World.block_lt_of_cell? W _ c.1
  refine ⟨g, o0, e, c.below hy, ?_, h2⟩
  rintro (hx | hx)
  · exact h1 hx
  · have : g < W.heap.size := hg
    omega
def ctZ (z : ZT) : List UInt8 × List (List UInt8) := (z.c, z.L)
/-- what going through a space's plain cubes ends with -/
def PP (J : List (List UInt8) → Option Nat → World → Prop) (Jx : World → Prop) (Mx : Nat) (Ts : List (List UInt8 × List (List UInt8))) (e : Ending) (W' : World) : Prop := (∃ v r' R, e = .returned v ∧ exE splT Mx [] Ts = some R ∧ J R r' W') ∨ (∃ v, e = .returned v ∧ Jx W') ∨ (e = .panicked [{ v := .iface 99 (.agg #[]), recovered := false }] ∧ exE splT Mx [] Ts = none ∧ ∃ o' r', J o' r' W')
theorem info_int : (Tryz.prog.info? 3).map (fun i => (i.zero, i.size, i.bytes)) = some (some (.int .i64 0), 1, 8) := by kernel_rfl
theorem made_mt (K : Nat) : madeCells (Value.cells (.int .i64 0)) (K * 1) = mtA K (fun _ => 0) := by
  apply Array.ext
  · simp [madeCells, mtA]
  · intro i h1 h2
    simp [madeCells, mtA, Value.cells, Nat.mod_one]
theorem make_ints (K : Nat) (hK : K ≤ 100000) (w : World) : (Instr.makeSlice 116 (.int .i64 (K : Int)) (.int .i64 (K : Int))).run Tryz.prog w = .ok (.slice (some ⟨w.heap.size, 0, none⟩) K K) (w.alloc (.cells (mtA K (fun _ => 0)) 3)) := by
  obtain ⟨i0, hi, hz0, hz1, hz2⟩ := info_parts info_int
  have h := run_make (P := Tryz.prog) w 116 3 i0 _ Tryz.underlying116 hi hz0 .i64 .i64 (K : Int) (K : Int) (by omega) (Int.le_refl _) (by rw [hz2]; omega) (by omega)
  rw [Int.toNat_natCast, hz1, made_mt] at h
  exact h
theorem put3w {W : World} {b T : Nat} {m : Nat × Nat} {x0 x1 x2 : Value} (v0 v1 v2 : Value) (h : W.heap[b]? = some (.cells #[x0, x1, x2] T m)) : (((W.setCell ⟨b, 0, none⟩ v0).setCell ⟨b, 1, none⟩ v1).setCell ⟨b, 2, none⟩ v2).heap[b]? = some (.cells #[v0, v1, v2] T m) := by
  have h0 := set_get (j := 0) v0 h
  have h1 := set_get (j := 1) v1 h0
  have h2 := set_get (j := 2) v2 h1
  rw [h2]
  simp
theorem far3w {W : World} {b c : Nat} {o : Obj} (v0 v1 v2 : Value) (h : W.heap[c]? = some o) (hne : c ≠ b) : (((W.setCell ⟨b, 0, none⟩ v0).setCell ⟨b, 1, none⟩ v1).setCell ⟨b, 2, none⟩ v2).heap[c]? = some o := by
  have h0 := (Below.heap_setCell W ⟨b, 0, none⟩ v0 c hne).trans h
  have h1 := (Below.heap_setCell _ ⟨b, 1, none⟩ v1 c hne).trans h0
  exact (Below.heap_setCell _ ⟨b, 2, none⟩ v2 c hne).trans h1
theorem dok_up {a b : Int} {M : Nat → Nat} {l L : List (List UInt8)} (h : dok splT a M l L) (hab : a ≤ b) : dok splT b M l L := fun j hj => Int.le_trans (h j hj) hab
end Go.Proofs.YtpbbmmkhlpkkbaaGreatDoor

import Derived.Test.YtcejejiomhhpgaaGreatDoorXAD
import Derived.Test.YtcejejiomhhpgaaGreatDoorXAE
import Derived.Deep.RegionHeld3
namespace Go.Proofs.YtcejejiomhhpgaaGreatDoor
open Go.RowKit
/-- a cube's nine cells lie at a place -/
def CB (W : World) (g o : Nat) (t : List UInt8) : Prop := W.cell? ⟨g, o, none⟩ = some (.int .i64 (t.length : Int)) ∧ W.cell? ⟨g, o + 1, none⟩ = some (.int .u64 (FW t 0 : Int)) ∧ W.cell? ⟨g, o + 2, none⟩ = some (.int .u64 (FW t 1 : Int)) ∧ W.cell? ⟨g, o + 3, none⟩ = some (.int .u64 (FW t 2 : Int)) ∧ W.cell? ⟨g, o + 4, none⟩ = some (.int .u64 (FW t 3 : Int)) ∧ W.cell? ⟨g, o + 5, none⟩ = some (.int .u64 (OW t 0 : Int)) ∧ W.cell? ⟨g, o + 6, none⟩ = some (.int .u64 (OW t 1 : Int)) ∧ W.cell? ⟨g, o + 7, none⟩ = some (.int .u64 (OW t 2 : Int)) ∧ W.cell? ⟨g, o + 8, none⟩ = some (.int .u64 (OW t 3 : Int))
theorem CB.below {W X : World} {g o : Nat} {t : List UInt8} (h : CB W g o t) (hb : Below W.heap.size W X) : CB X g o t := by
  have hk : ∀ {p : Addr} {v : Value}, W.cell? p = some v → X.cell? p = some v := fun h => (hb.cell (World.block_lt_of_cell? W _ h)).trans h
  obtain ⟨a0, a1, a2, a3, a4, a5, a6, a7, a8⟩ := h
  exact ⟨hk a0, hk a1, hk a2, hk a3, hk a4, hk a5, hk a6, hk a7, hk a8⟩
theorem CB_of {W : World} {b : Nat} {t : List UInt8} (h : W.heap[b]? = some (.cells #[.int .i64 (t.length : Int), .int .u64 (FW t 0 : Int), .int .u64 (FW t 1 : Int), .int .u64 (FW t 2 : Int), .int .u64 (FW t 3 : Int), .int .u64 (OW t 0 : Int), .int .u64 (OW t 1 : Int), .int .u64 (OW t 2 : Int), .int .u64 (OW t 3 : Int)] 56 (0, 0))) : CB W b 0 t := by
  obtain ⟨c, -⟩ := cells_block h
  exact ⟨c 0, c 1, c 2, c 3, c 4, c 5, c 6, c 7, c 8⟩
/-- a row of cubes lies there, now and as long as what lay is not written -/
def IRC (w : World) (p : Option Addr) (L : List (List UInt8)) : Prop := ∀ W : World, Below w.heap.size w W → ∀ k t, L[k]? = some t → ∃ g o0, p = some ⟨g, o0, none⟩ ∧ CB W g (o0 + k * 9) t
theorem IRC.later {w W : World} {p : Option Addr} {L : List (List UInt8)} (h : IRC w p L) (hb : Below w.heap.size w W) : IRC W p L := fun X hX k t ht => h X (bel0 hb hX) k t ht
theorem IRC_own {W : World} {B n c : Nat} {p : Option Addr} {L : List (List UInt8)} (h : W.ownsRow B 56 9 (.slice p n c) n (ces L)) (hn : L.length = n) : IRC W p L := fun X hX k t ht => by
  obtain ⟨hk, he⟩ := List.getElem?_eq_some_iff.1 ht
  subst hn
  rcases h.2 with ⟨e, h0⟩ | ⟨g, cap, cur, e, _⟩
  · omega
  · injection e with e1 _ _
    subst e1
    refine ⟨g, 0, rfl, ?_⟩
    rw [Nat.zero_add]
    exact CB.below (ce_at h hk he) hX
/-- the first place, from k on, at which p holds -/
def ixP (p : List UInt8 → Bool) (k : Nat) : List (List UInt8) → Int
  | [] => -1
  | t :: r => if p t = true then (k : Int) else ixP p (k + 1) r
theorem ixP_step {p : List UInt8 → Bool} {L : List (List UInt8)} {k : Nat} {t : List UInt8} (h : L[k]? = some t) : ixP p k (L.drop k) = if p t = true then (k : Int) else ixP p (k + 1) (L.drop (k + 1)) := by
  obtain ⟨hk, he⟩ := List.getElem?_eq_some_iff.1 h
  rw [List.drop_eq_getElem_cons hk, he]
  rfl
theorem ixP_any (p : List UInt8 → Bool) : ∀ (L : List (List UInt8)) (k : Nat), decide ((0 : Int) ≤ ixP p k L) = L.any p
  | [], k => by simp [ixP]
  | t :: r, k => by
    unfold ixP
    cases h : p t with
    | true => simp [h]
    | false => rw [if_neg (by simp), ixP_any p r (k + 1)]; simp [h]
/-- where p holds first -/
theorem ixP_at (p : List UInt8 → Bool) : ∀ (L : List (List UInt8)) (k : Nat), (ixP p k L = -1 ∧ ∀ t ∈ L, p t = false) ∨ ∃ A t R, L = A ++ t :: R ∧ (∀ x ∈ A, p x = false) ∧ p t = true ∧ ixP p k L = ((k + A.length : Nat) : Int)
  | [], k => .inl ⟨rfl, fun t h => by cases h⟩
  | t :: r, k => by
    unfold ixP
    cases h : p t with
    | true => exact .inr ⟨[], t, r, rfl, fun x hx => (by cases hx), h, by simp⟩
    | false =>
      rw [if_neg (by simp)]
      rcases ixP_at p r (k + 1) with ⟨e, ha⟩ | ⟨A, u, R, e1, e2, e3, e4⟩
      · refine .inl ⟨e, fun x hx => ?_⟩
        rcases List.mem_cons.1 hx with rfl | hx
        · exact h
        · exact ha x hx
      · refine .inr ⟨t :: A, u, R, by rw [e1]; rfl, fun x hx => ?_, e3, by rw [e4, List.length_cons]; congr 1; omega⟩
        rcases List.mem_cons.1 hx with rfl | hx
        · exact h
        · exact e2 x hx
/-- greatest's closures: within(x, y), within(y, x) -/
def WQ (W : World) (bw bx : Nat) (x : List UInt8) : Prop := W.heap[bw]? = some (.cells #[.func (.func 63) #[] #[]] 105 (0, 0)) ∧ W.heap[bx]? = some (.cells #[.int .i64 (x.length : Int), .int .u64 (FW x 0 : Int), .int .u64 (FW x 1 : Int), .int .u64 (FW x 2 : Int), .int .u64 (FW x 3 : Int), .int .u64 (OW x 0 : Int), .int .u64 (OW x 1 : Int), .int .u64 (OW x 2 : Int), .int .u64 (OW x 3 : Int)] 56 (0, 0))
theorem WQ.below {W X : World} {bw bx : Nat} {x : List UInt8} (h : WQ W bw bx x) (hb : Below W.heap.size W X) : WQ X bw bx x := ⟨keepblk3 hb h.1, keepblk3 hb h.2⟩
set_option maxRecDepth 100000 in
set_option maxHeartbeats 1000000 in
theorem great1_any (x y : List UInt8) (bw bx : Nat) (w : World) (gx : good x = true) (gy : good y = true) (h : WQ w bw bx x) : Calls Tryz.prog 83 #[cubeV y, .pointer (some ⟨bw, 0, none⟩), .pointer (some ⟨bx, 0, none⟩)] w fun e w' => e = .returned (.bool (wiB x y)) ∧ Below w.heap.size w w' := by
  obtain ⟨hw, hx⟩ := h
  have w0 : (w.alloc (Obj.cells #[.int .i64 (y.length : Int), .int .u64 (FW y 0 : Int), .int .u64 (FW y 1 : Int), .int .u64 (FW y 2 : Int), .int .u64 (FW y 3 : Int), .int .u64 (OW y 0 : Int), .int .u64 (OW y 1 : Int), .int .u64 (OW y 2 : Int), .int .u64 (OW y 3 : Int)] 56)).cell? ⟨bw, 0, none⟩ = some (.func (.func 63) #[] #[]) := (cells_block (allocblk3 hw _)).1 0
  have x0 : CB (w.alloc (Obj.cells #[.int .i64 (y.length : Int), .int .u64 (FW y 0 : Int), .int .u64 (FW y 1 : Int), .int .u64 (FW y 2 : Int), .int .u64 (FW y 3 : Int), .int .u64 (OW y 0 : Int), .int .u64 (OW y 1 : Int), .int .u64 (OW y 2 : Int), .int .u64 (OW y 3 : Int)] 56)) bx 0 x := CB_of (allocblk3 hx _)
  have y0 : CB (w.alloc (Obj.cells #[.int .i64 (y.length : Int), .int .u64 (FW y 0 : Int), .int .u64 (FW y 1 : Int), .int .u64 (FW y 2 : Int), .int .u64 (FW y 3 : Int), .int .u64 (OW y 0 : Int), .int .u64 (OW y 1 : Int), .int .u64 (OW y 2 : Int), .int .u64 (OW y 3 : Int)] 56)) w.heap.size 0 y := CB_of (alloc_get _ _)
  obtain ⟨V, hV⟩ : ∃ V : World, w.alloc (Obj.cells #[.int .i64 (y.length : Int), .int .u64 (FW y 0 : Int), .int .u64 (FW y 1 : Int), .int .u64 (FW y 2 : Int), .int .u64 (FW y 3 : Int), .int .u64 (OW y 0 : Int), .int .u64 (OW y 1 : Int), .int .u64 (OW y 2 : Int), .int .u64 (OW y 3 : Int)] 56) = V := ⟨_, rfl⟩
  have vB : Below w.heap.size w V := by rw [← hV]; exact belA (Below.refl _ _) _
  rw [hV] at w0 x0 y0
  obtain ⟨a0, a1, a2, a3, a4, a5, a6, a7, a8⟩ := x0
  obtain ⟨d0, d1, d2, d3, d4, d5, d6, d7, d8⟩ := y0
  clear hw hx
  unfold cubeV cv
  go_enter Tryz.func83, Tryz.ntmps83
  go_wp2_with fail
  refine (within_any x y _ gx gy).mono ?_
  rintro e W1 ⟨rfl, hb1⟩
  go_wp2_with fail
  go_ret
  exact ⟨rfl, bel0 vB hb1⟩
set_option maxRecDepth 100000 in
set_option maxHeartbeats 1000000 in
theorem great2_any (x y : List UInt8) (bw bx : Nat) (w : World) (gx : good x = true) (gy : good y = true) (h : WQ w bw bx x) : Calls Tryz.prog 84 #[cubeV y, .pointer (some ⟨bw, 0, none⟩), .pointer (some ⟨bx, 0, none⟩)] w fun e w' => e = .returned (.bool (wiB y x)) ∧ Below w.heap.size w w' := by
  obtain ⟨hw, hx⟩ := h
  have w0 : (w.alloc (Obj.cells #[.int .i64 (y.length : Int), .int .u64 (FW y 0 : Int), .int .u64 (FW y 1 : Int), .int .u64 (FW y 2 : Int), .int .u64 (FW y 3 : Int), .int .u64 (OW y 0 : Int), .int .u64 (OW y 1 : Int), .int .u64 (OW y 2 : Int), .int .u64 (OW y 3 : Int)] 56)).cell? ⟨bw, 0, none⟩ = some (.func (.func 63) #[] #[]) := (cells_block (allocblk3 hw _)).1 0
  have x0 : CB (w.alloc (Obj.cells #[.int .i64 (y.length : Int), .int .u64 (FW y 0 : Int), .int .u64 (FW y 1 : Int), .int .u64 (FW y 2 : Int), .int .u64 (FW y 3 : Int), .int .u64 (OW y 0 : Int), .int .u64 (OW y 1 : Int), .int .u64 (OW y 2 : Int), .int .u64 (OW y 3 : Int)] 56)) bx 0 x := CB_of (allocblk3 hx _)
  have y0 : CB (w.alloc (Obj.cells #[.int .i64 (y.length : Int), .int .u64 (FW y 0 : Int), .int .u64 (FW y 1 : Int), .int .u64 (FW y 2 : Int), .int .u64 (FW y 3 : Int), .int .u64 (OW y 0 : Int), .int .u64 (OW y 1 : Int), .int .u64 (OW y 2 : Int), .int .u64 (OW y 3 : Int)] 56)) w.heap.size 0 y := CB_of (alloc_get _ _)
  obtain ⟨V, hV⟩ : ∃ V : World, w.alloc (Obj.cells #[.int .i64 (y.length : Int), .int .u64 (FW y 0 : Int), .int .u64 (FW y 1 : Int), .int .u64 (FW y 2 : Int), .int .u64 (FW y 3 : Int), .int .u64 (OW y 0 : Int), .int .u64 (OW y 1 : Int), .int .u64 (OW y 2 : Int), .int .u64 (OW y 3 : Int)] 56) = V := ⟨_, rfl⟩
  have vB : Below w.heap.size w V := by rw [← hV]; exact belA (Below.refl _ _) _
  rw [hV] at w0 x0 y0
  obtain ⟨a0, a1, a2, a3, a4, a5, a6, a7, a8⟩ := x0
  obtain ⟨d0, d1, d2, d3, d4, d5, d6, d7, d8⟩ := y0
  clear hw hx
  unfold cubeV cv
  go_enter Tryz.func84, Tryz.ntmps84
  go_wp2_with fail
  refine (within_any y x _ gy gx).mono ?_
  rintro e W1 ⟨rfl, hb1⟩
  go_wp2_with fail
  go_ret
  exact ⟨rfl, bel0 vB hb1⟩
set_option maxRecDepth 100000 in
set_option maxHeartbeats 2000000 in
theorem idxc1_any (L : List (List UInt8)) (n : Nat) (o : Option Addr) (c : Nat) (b1 b2 : Nat) (p : List UInt8 → Bool) (w : World) (hn : L.length = n) (hL : n ≤ 281474976710656) (hr : IRC w o L) (hp : ∀ W, Below w.heap.size w W → ∀ t ∈ L, Calls Tryz.prog 83 #[cubeV t, .pointer (some ⟨b1, 0, none⟩), .pointer (some ⟨b2, 0, none⟩)] W fun e w' => e = .returned (.bool (p t)) ∧ Below W.heap.size W w') :
    Calls Tryz.prog 98 #[.slice o n c, .func (.func 83) #[] #[.pointer (some ⟨b1, 0, none⟩), .pointer (some ⟨b2, 0, none⟩)]] w fun e w' => e = .returned (.int .i64 (ixP p 0 L)) ∧ Below w.heap.size w w' := by
  have HR : Hid (IRC w o L) := hr
  have HPP : Hid (∀ W, Below w.heap.size w W → ∀ t ∈ L, Calls Tryz.prog 83 #[cubeV t, .pointer (some ⟨b1, 0, none⟩), .pointer (some ⟨b2, 0, none⟩)] W fun e w' => e = .returned (.bool (p t)) ∧ Below W.heap.size W w') := hp
  have HN : Hid (L.length = n) := hn
  obtain ⟨q, hq⟩ : ∃ q, ixP p 0 L = q := ⟨_, rfl⟩
  rw [hq]
  have HQ : Hid (ixP p 0 (L.drop 0) = q) := hq
  clear hr hp hq hn
  go_enter Tryz.func98, Tryz.ntmps98
  go_wp2_with fail
  go_loopw [8] (fun vk wr => ∃ k : Nat, vk = .int .i64 k ∧ k ≤ n ∧ Hid (ixP p k (L.drop k) = q) ∧ Below w.heap.size w wr) (fun vk _ => n - (intOf vk).toNat)
  case atStart => exact ⟨0, rfl, Nat.zero_le _, HQ, Below.refl _ _⟩
  case round =>
    clear HQ
    obtain ⟨k, rfl, hk, hidx, hB⟩ := hrel
    by_cases hlt : k < n
    · have j1 : (k : Int) < (n : Int) := by omega
      have j0 : (0 : Int) ≤ (k : Int) := by omega
      obtain ⟨t, ht⟩ : ∃ t, L[k]? = some t := ⟨_, List.getElem?_eq_getElem (by rw [HN.out]; exact hlt)⟩
      obtain ⟨g, o0, rfl, p0, p1, p2, p3, p4, p5, p6, p7, p8⟩ := HR.out wr hB k t ht
      have hx2 := hidx.out
      rw [ixP_step ht] at hx2
      have H1 := HPP.out wr hB t (List.mem_of_getElem? ht)
      have HH : Hid (Calls Tryz.prog 83 #[cubeV t, .pointer (some ⟨b1, 0, none⟩), .pointer (some ⟨b2, 0, none⟩)] wr fun e w' => e = .returned (.bool (p t)) ∧ Below wr.heap.size wr w') := H1
      clear ht hidx H1
      cases hy : p t with
      | true =>
        rw [hy, if_pos rfl] at hx2
        have HX2 : Hid ((k : Int) = q) := hx2
        have HY : Hid (p t = true) := hy
        clear hx2 hy
        go_wp2_with fail
        refine HH.out.mono ?_
        rintro e W1 ⟨rfl, hb1⟩
        rw [HY.out]
        go_wp2_with fail
        go_ret
        exact ⟨by rw [← HX2.out]; rfl, bel0 hB hb1⟩
      | false =>
        rw [hy, if_neg (by simp)] at hx2
        have HX : Hid (ixP p (k + 1) (L.drop (k + 1)) = q) := hx2
        have HY : Hid (p t = false) := hy
        clear hx2 hy
        go_wp2_with fail
        refine HH.out.mono ?_
        rintro e W1 ⟨rfl, hb1⟩
        rw [HY.out]
        go_wp2_with fail
        go_roundw
        case rel => exact ⟨k + 1, by go_num, by omega, HX, bel0 hB hb1⟩
        case measure => simp [intOf]; omega
    · have j1 : ¬ (k : Int) < (n : Int) := by omega
      have HX2 : Hid (-1 = q) := by
        unfold Hid
        rw [← hidx.out, List.drop_eq_nil_of_le (by rw [HN.out]; omega)]
        rfl
      clear hidx
      go_wp2_with fail
      go_ret
      exact ⟨by rw [← HX2.out]; rfl, hB⟩
set_option maxRecDepth 100000 in
set_option maxHeartbeats 2000000 in
theorem idxc2_any (L : List (List UInt8)) (n : Nat) (o : Option Addr) (c : Nat) (b1 b2 : Nat) (p : List UInt8 → Bool) (w : World) (hn : L.length = n) (hL : n ≤ 281474976710656) (hr : IRC w o L) (hp : ∀ W, Below w.heap.size w W → ∀ t ∈ L, Calls Tryz.prog 84 #[cubeV t, .pointer (some ⟨b1, 0, none⟩), .pointer (some ⟨b2, 0, none⟩)] W fun e w' => e = .returned (.bool (p t)) ∧ Below W.heap.size W w') :
    Calls Tryz.prog 98 #[.slice o n c, .func (.func 84) #[] #[.pointer (some ⟨b1, 0, none⟩), .pointer (some ⟨b2, 0, none⟩)]] w fun e w' => e = .returned (.int .i64 (ixP p 0 L)) ∧ Below w.heap.size w w' := by
  have HR : Hid (IRC w o L) := hr
  have HPP : Hid (∀ W, Below w.heap.size w W → ∀ t ∈ L, Calls Tryz.prog 84 #[cubeV t, .pointer (some ⟨b1, 0, none⟩), .pointer (some ⟨b2, 0, none⟩)] W fun e w' => e = .returned (.bool (p t)) ∧ Below W.heap.size W w') := hp
  have HN : Hid (L.length = n) := hn
  obtain ⟨q, hq⟩ : ∃ q, ixP p 0 L = q := ⟨_, rfl⟩
  rw [hq]
  have HQ : Hid (ixP p 0 (L.drop 0) = q) := hq
  clear hr hp hq hn
  go_enter Tryz.func98, Tryz.ntmps98
  go_wp2_with fail
  go_loopw [8] (fun vk wr => ∃ k : Nat, vk = .int .i64 k ∧ k ≤ n ∧ Hid (ixP p k (L.drop k) = q) ∧ Below w.heap.size w wr) (fun vk _ => n - (intOf vk).toNat)
  case atStart => exact ⟨0, rfl, Nat.zero_le _, HQ, Below.refl _ _⟩
  case round =>
    clear HQ
    obtain ⟨k, rfl, hk, hidx, hB⟩ := hrel
    by_cases hlt : k < n
    · have j1 : (k : Int) < (n : Int) := by omega
      have j0 : (0 : Int) ≤ (k : Int) := by omega
      obtain ⟨t, ht⟩ : ∃ t, L[k]? = some t := ⟨_, List.getElem?_eq_getElem (by rw [HN.out]; exact hlt)⟩
      obtain ⟨g, o0, rfl, p0, p1, p2, p3, p4, p5, p6, p7, p8⟩ := HR.out wr hB k t ht
      have hx2 := hidx.out
      rw [ixP_step ht] at hx2
      have H1 := HPP.out wr hB t (List.mem_of_getElem? ht)
      have HH : Hid (Calls Tryz.prog 84 #[cubeV t, .pointer (some ⟨b1, 0, none⟩), .pointer (some ⟨b2, 0, none⟩)] wr fun e w' => e = .returned (.bool (p t)) ∧ Below wr.heap.size wr w') := H1
      clear ht hidx H1
      cases hy : p t with
      | true =>
        rw [hy, if_pos rfl] at hx2
        have HX2 : Hid ((k : Int) = q) := hx2
        have HY : Hid (p t = true) := hy
        clear hx2 hy
        go_wp2_with fail
        refine HH.out.mono ?_
        rintro e W1 ⟨rfl, hb1⟩
        rw [HY.out]
        go_wp2_with fail
        go_ret
        exact ⟨by rw [← HX2.out]; rfl, bel0 hB hb1⟩
      | false =>
        rw [hy, if_neg (by simp)] at hx2
        have HX : Hid (ixP p (k + 1) (L.drop (k + 1)) = q) := hx2
        have HY : Hid (p t = false) := hy
        clear hx2 hy
        go_wp2_with fail
        refine HH.out.mono ?_
        rintro e W1 ⟨rfl, hb1⟩
        rw [HY.out]
        go_wp2_with fail
        go_roundw
        case rel => exact ⟨k + 1, by go_num, by omega, HX, bel0 hB hb1⟩
        case measure => simp [intOf]; omega
    · have j1 : ¬ (k : Int) < (n : Int) := by omega
      have HX2 : Hid (-1 = q) := by
        unfold Hid
        rw [← hidx.out, List.drop_eq_nil_of_le (by rw [HN.out]; omega)]
        rfl
      clear hidx
      go_wp2_with fail
      go_ret
      exact ⟨by rw [← HX2.out]; rfl, hB⟩
set_option maxRecDepth 100000 in
set_option maxHeartbeats 1000000 in
theorem contc_any (L : List (List UInt8)) (n : Nat) (o : Option Addr) (c : Nat) (b1 b2 : Nat) (p : List UInt8 → Bool) (w : World) (hn : L.length = n) (hL : n ≤ 281474976710656) (hr : IRC w o L) (hp : ∀ W, Below w.heap.size w W → ∀ t ∈ L, Calls Tryz.prog 83 #[cubeV t, .pointer (some ⟨b1, 0, none⟩), .pointer (some ⟨b2, 0, none⟩)] W fun e w' => e = .returned (.bool (p t)) ∧ Below W.heap.size W w') :
    Calls Tryz.prog 74 #[.slice o n c, .func (.func 83) #[] #[.pointer (some ⟨b1, 0, none⟩), .pointer (some ⟨b2, 0, none⟩)]] w fun e w' => e = .returned (.bool (L.any p)) ∧ Below w.heap.size w w' := by
  have H1 := idxc1_any L n o c b1 b2 p w hn hL hr hp
  obtain ⟨b, hb⟩ : ∃ b, L.any p = b := ⟨_, rfl⟩
  obtain ⟨i, hi⟩ : ∃ i, ixP p 0 L = i := ⟨_, rfl⟩
  have HD : Hid (decide ((0 : Int) ≤ i) = b) := by
    unfold Hid
    rw [← hb, ← hi, ixP_any]
  rw [hi] at H1
  rw [hb]
  clear hr hp hb hi hn
  go_enter Tryz.func74, Tryz.ntmps74
  go_wp2_with fail
  refine H1.mono ?_
  rintro e W1 ⟨rfl, hb1⟩
  go_wp2_with fail
  go_ret
  exact ⟨by rw [← HD.out]; rfl, hb1⟩
end Go.Proofs.YtcejejiomhhpgaaGreatDoor

import Derived.Test.YtmdnapognaddbaaGreatDoorXAC
import Derived.Deep.RegionHeld3
import Derived.Laws.OwnMore
import Derived.Laws.IdiomCopy
import Derived.Deep.AppendLies
import Derived.OwnWalk
import Derived.Deep.DeepCutAuto
namespace Go.Proofs.YtmdnapognaddbaaGreatDoor
open Go.RowKit
/-- a cube's nine cells lie at a place -/
def CB (W : World) (g o : Nat) (t : List UInt8) : Prop := W.cell? ⟨g, o, none⟩ = some (.int .i64 (t.length : Int)) ∧ W.cell? ⟨g, o + 1, none⟩ = some (.int .u64 (FW t 0 : Int)) ∧ W.cell? ⟨g, o + 2, none⟩ = some (.int .u64 (FW t 1 : Int)) ∧ W.cell? ⟨g, o + 3, none⟩ = some (.int .u64 (FW t 2 : Int)) ∧ W.cell? ⟨g, o + 4, none⟩ = some (.int .u64 (FW t 3 : Int)) ∧ W.cell? ⟨g, o + 5, none⟩ = some (.int .u64 (OW t 0 : Int)) ∧ W.cell? ⟨g, o + 6, none⟩ = some (.int .u64 (OW t 1 : Int)) ∧ W.cell? ⟨g, o + 7, none⟩ = some (.int .u64 (OW t 2 : Int)) ∧ W.cell? ⟨g, o + 8, none⟩ = some (.int .u64 (OW t 3 : Int))
theorem CB.below {W X : World} {g o : Nat} {t : List UInt8} (h : CB W g o t) (hb : Below W.heap.size W X) : CB X g o t := by
  have hk : ∀ {p : Addr} {v : Value}, W.cell? p = some v → X.cell? p = some v := fun h => (hb.cell (World.block_lt_of_cell? W _ h)).trans h
  obtain ⟨a0, a1, a2, a3, a4, a5, a6, a7, a8⟩ := h
  exact ⟨hk a0, hk a1, hk a2, hk a3, hk a4, hk a5, hk a6, hk a7, hk a8⟩
theorem CB_of {W : World} {b : Nat} {t : List UInt8} (h : W.heap[b]? = some (.cells #[.int .i64 (t.length : Int), .int .u64 (FW t 0 : Int), .int .u64 (FW t 1 : Int), .int .u64 (FW t 2 : Int), .int .u64 (FW t 3 : Int), .int .u64 (OW t 0 : Int), .int .u64 (OW t 1 : Int), .int .u64 (OW t 2 : Int), .int .u64 (OW t 3 : Int)] 40 (0, 0))) : CB W b 0 t := by
  obtain ⟨c, -⟩ := cells_block h
  exact ⟨c 0, c 1, c 2, c 3, c 4, c 5, c 6, c 7, c 8⟩
/-- a row of cubes lies there, now and as long as what lay is not written -/
def IRC (w : World) (p : Option Addr) (L : List (List UInt8)) : Prop := ∀ W : World, Below w.heap.size w W → ∀ k t, L[k]? = some t → ∃ g o0, p = some ⟨g, o0, none⟩ ∧ CB W g (o0 + k * 9) t
theorem IRC.later {w W : World} {p : Option Addr} {L : List (List UInt8)} (h : IRC w p L) (hb : Below w.heap.size w W) : IRC W p L := fun X hX k t ht => h X (bel0 hb hX) k t ht
theorem IRC_own {W : World} {B n c : Nat} {p : Option Addr} {L : List (List UInt8)} (h : W.ownsRow B 40 9 (.slice p n c) n (ces L)) (hn : L.length = n) : IRC W p L := fun X hX k t ht => by
  obtain ⟨hk, he⟩ := List.getElem?_eq_some_iff.1 ht
  subst hn
  rcases h.2 with ⟨e, h0⟩ | ⟨g, cap, cur, e, _⟩
  · omega
  · injection e with e1 _ _
    subst e1
    refine ⟨g, 0, rfl, ?_⟩
    rw [Nat.zero_add]
    exact CB.below (ce_at h hk he) hX
/-- the first place, from k on, at which p holds -/
def ixP (p : List UInt8 → Bool) (k : Nat) : List (List UInt8) → Int
  | [] => -1
  | t :: r => if p t = true then (k : Int) else ixP p (k + 1) r
theorem ixP_step {p : List UInt8 → Bool} {L : List (List UInt8)} {k : Nat} {t : List UInt8} (h : L[k]? = some t) : ixP p k (L.drop k) = if p t = true then (k : Int) else ixP p (k + 1) (L.drop (k + 1)) := by
  obtain ⟨hk, he⟩ := List.getElem?_eq_some_iff.1 h
  rw [List.drop_eq_getElem_cons hk, he]
  rfl
theorem ixP_any (p : List UInt8 → Bool) : ∀ (L : List (List UInt8)) (k : Nat), decide ((0 : Int) ≤ ixP p k L) = L.any p
  | [], k => by simp [ixP]
  | t :: r, k => by
    unfold ixP
    cases h : p t with
    | true => simp [h]
    | false => rw [if_neg (by simp), ixP_any p r (k + 1)]; simp [h]
/-- where p holds first -/
theorem ixP_at (p : List UInt8 → Bool) : ∀ (L : List (List UInt8)) (k : Nat), (ixP p k L = -1 ∧ ∀ t ∈ L, p t = false) ∨ ∃ A t R, L = A ++ t :: R ∧ (∀ x ∈ A, p x = false) ∧ p t = true ∧ ixP p k L = ((k + A.length : Nat) : Int)
  | [], k => .inl ⟨rfl, fun t h => by cases h⟩
  | t :: r, k => by
    unfold ixP
    cases h : p t with
    | true => exact .inr ⟨[], t, r, rfl, fun x hx => (by cases hx), h, by simp⟩
    | false =>
      rw [if_neg (by simp)]
      rcases ixP_at p r (k + 1) with ⟨e, ha⟩ | ⟨A, u, R, e1, e2, e3, e4⟩
      · refine .inl ⟨e, fun x hx => ?_⟩
        rcases List.mem_cons.1 hx with rfl | hx
        · exact h
        · exact ha x hx
      · refine .inr ⟨t :: A, u, R, by rw [e1]; rfl, fun x hx => ?_, e3, by rw [e4, List.length_cons]; congr 1; omega⟩
        rcases List.mem_cons.1 hx with rfl | hx
        · exact h
        · exact e2 x hx
/-- greatest's closures: within(x, y), within(y, x) -/
def WQ (W : World) (bw bx : Nat) (x : List UInt8) : Prop := W.heap[bw]? = some (.cells #[.func (.func 80) #[] #[]] 133 (0, 0)) ∧ W.heap[bx]? = some (.cells #[.int .i64 (x.length : Int), .int .u64 (FW x 0 : Int), .int .u64 (FW x 1 : Int), .int .u64 (FW x 2 : Int), .int .u64 (FW x 3 : Int), .int .u64 (OW x 0 : Int), .int .u64 (OW x 1 : Int), .int .u64 (OW x 2 : Int), .int .u64 (OW x 3 : Int)] 40 (0, 0))
theorem WQ.below {W X : World} {bw bx : Nat} {x : List UInt8} (h : WQ W bw bx x) (hb : Below W.heap.size W X) : WQ X bw bx x := ⟨keepblk3 hb h.1, keepblk3 hb h.2⟩
set_option maxRecDepth 100000 in
set_option maxHeartbeats 1000000 in
theorem great1_any (x y : List UInt8) (bw bx : Nat) (w : World) (gx : good x = true) (gy : good y = true) (h : WQ w bw bx x) : Calls Tryz.prog 97 #[cubeV y, .pointer (some ⟨bw, 0, none⟩), .pointer (some ⟨bx, 0, none⟩)] w fun e w' => e = .returned (.bool (wiB x y)) ∧ Below w.heap.size w w' := by
  obtain ⟨hw, hx⟩ := h
  have w0 : (w.alloc (Obj.cells #[.int .i64 (y.length : Int), .int .u64 (FW y 0 : Int), .int .u64 (FW y 1 : Int), .int .u64 (FW y 2 : Int), .int .u64 (FW y 3 : Int), .int .u64 (OW y 0 : Int), .int .u64 (OW y 1 : Int), .int .u64 (OW y 2 : Int), .int .u64 (OW y 3 : Int)] 40)).cell? ⟨bw, 0, none⟩ = some (.func (.func 80) #[] #[]) := (cells_block (allocblk3 hw _)).1 0
  have x0 : CB (w.alloc (Obj.cells #[.int .i64 (y.length : Int), .int .u64 (FW y 0 : Int), .int .u64 (FW y 1 : Int), .int .u64 (FW y 2 : Int), .int .u64 (FW y 3 : Int), .int .u64 (OW y 0 : Int), .int .u64 (OW y 1 : Int), .int .u64 (OW y 2 : Int), .int .u64 (OW y 3 : Int)] 40)) bx 0 x := CB_of (allocblk3 hx _)
  have y0 : CB (w.alloc (Obj.cells #[.int .i64 (y.length : Int), .int .u64 (FW y 0 : Int), .int .u64 (FW y 1 : Int), .int .u64 (FW y 2 : Int), .int .u64 (FW y 3 : Int), .int .u64 (OW y 0 : Int), .int .u64 (OW y 1 : Int), .int .u64 (OW y 2 : Int), .int .u64 (OW y 3 : Int)] 40)) w.heap.size 0 y := CB_of (alloc_get _ _)
  obtain ⟨V, hV⟩ : ∃ V : World, w.alloc (Obj.cells #[.int .i64 (y.length : Int), .int .u64 (FW y 0 : Int), .int .u64 (FW y 1 : Int), .int .u64 (FW y 2 : Int), .int .u64 (FW y 3 : Int), .int .u64 (OW y 0 : Int), .int .u64 (OW y 1 : Int), .int .u64 (OW y 2 : Int), .int .u64 (OW y 3 : Int)] 40) = V := ⟨_, rfl⟩
  have vB : Below w.heap.size w V := by rw [← hV]; exact belA (Below.refl _ _) _
  rw [hV] at w0 x0 y0
  obtain ⟨a0, a1, a2, a3, a4, a5, a6, a7, a8⟩ := x0
  obtain ⟨d0, d1, d2, d3, d4, d5, d6, d7, d8⟩ := y0
  clear hw hx
  unfold cubeV cv
  go_enter Tryz.func97, Tryz.ntmps97
  go_wp2_with fail
  refine (within_any x y _ gx gy).mono ?_
  rintro e W1 ⟨rfl, hb1⟩
  go_wp2_with fail
  go_ret
  exact ⟨rfl, bel0 vB hb1⟩
set_option maxRecDepth 100000 in
set_option maxHeartbeats 1000000 in
theorem great2_any (x y : List UInt8) (bw bx : Nat) (w : World) (gx : good x = true) (gy : good y = true) (h : WQ w bw bx x) : Calls Tryz.prog 99 #[cubeV y, .pointer (some ⟨bw, 0, none⟩), .pointer (some ⟨bx, 0, none⟩)] w fun e w' => e = .returned (.bool (wiB y x)) ∧ Below w.heap.size w w' := by
  obtain ⟨hw, hx⟩ := h
  have w0 : (w.alloc (Obj.cells #[.int .i64 (y.length : Int), .int .u64 (FW y 0 : Int), .int .u64 (FW y 1 : Int), .int .u64 (FW y 2 : Int), .int .u64 (FW y 3 : Int), .int .u64 (OW y 0 : Int), .int .u64 (OW y 1 : Int), .int .u64 (OW y 2 : Int), .int .u64 (OW y 3 : Int)] 40)).cell? ⟨bw, 0, none⟩ = some (.func (.func 80) #[] #[]) := (cells_block (allocblk3 hw _)).1 0
  have x0 : CB (w.alloc (Obj.cells #[.int .i64 (y.length : Int), .int .u64 (FW y 0 : Int), .int .u64 (FW y 1 : Int), .int .u64 (FW y 2 : Int), .int .u64 (FW y 3 : Int), .int .u64 (OW y 0 : Int), .int .u64 (OW y 1 : Int), .int .u64 (OW y 2 : Int), .int .u64 (OW y 3 : Int)] 40)) bx 0 x := CB_of (allocblk3 hx _)
  have y0 : CB (w.alloc (Obj.cells #[.int .i64 (y.length : Int), .int .u64 (FW y 0 : Int), .int .u64 (FW y 1 : Int), .int .u64 (FW y 2 : Int), .int .u64 (FW y 3 : Int), .int .u64 (OW y 0 : Int), .int .u64 (OW y 1 : Int), .int .u64 (OW y 2 : Int), .int .u64 (OW y 3 : Int)] 40)) w.heap.size 0 y := CB_of (alloc_get _ _)
  obtain ⟨V, hV⟩ : ∃ V : World, w.alloc (Obj.cells #[.int .i64 (y.length : Int), .int .u64 (FW y 0 : Int), .int .u64 (FW y 1 : Int), .int .u64 (FW y 2 : Int), .int .u64 (FW y 3 : Int), .int .u64 (OW y 0 : Int), .int .u64 (OW y 1 : Int), .int .u64 (OW y 2 : Int), .int .u64 (OW y 3 : Int)] 40) = V := ⟨_, rfl⟩
  have vB : Below w.heap.size w V := by rw [← hV]; exact belA (Below.refl _ _) _
  rw [hV] at w0 x0 y0
  obtain ⟨a0, a1, a2, a3, a4, a5, a6, a7, a8⟩ := x0
  obtain ⟨d0, d1, d2, d3, d4, d5, d6, d7, d8⟩ := y0
  clear hw hx
  unfold cubeV cv
  go_enter Tryz.func99, Tryz.ntmps99
  go_wp2_with fail
  refine (within_any y x _ gy gx).mono ?_
  rintro e W1 ⟨rfl, hb1⟩
  go_wp2_with fail
  go_ret
  exact ⟨rfl, bel0 vB hb1⟩
set_option maxRecDepth 100000 in
set_option maxHeartbeats 2000000 in
theorem idxc1_any (L : List (List UInt8)) (n : Nat) (o : Option Addr) (c : Nat) (b1 b2 : Nat) (p : List UInt8 → Bool) (w : World) (hn : L.length = n) (hL : n ≤ 281474976710656) (hr : IRC w o L) (hp : ∀ W, Below w.heap.size w W → ∀ t ∈ L, Calls Tryz.prog 97 #[cubeV t, .pointer (some ⟨b1, 0, none⟩), .pointer (some ⟨b2, 0, none⟩)] W fun e w' => e = .returned (.bool (p t)) ∧ Below W.heap.size W w') :
    Calls Tryz.prog 110 #[.slice o n c, .func (.func 97) #[] #[.pointer (some ⟨b1, 0, none⟩), .pointer (some ⟨b2, 0, none⟩)]] w fun e w' => e = .returned (.int .i64 (ixP p 0 L)) ∧ Below w.heap.size w w' := by
  have HR : Hid (IRC w o L) := hr
  have HPP : Hid (∀ W, Below w.heap.size w W → ∀ t ∈ L, Calls Tryz.prog 97 #[cubeV t, .pointer (some ⟨b1, 0, none⟩), .pointer (some ⟨b2, 0, none⟩)] W fun e w' => e = .returned (.bool (p t)) ∧ Below W.heap.size W w') := hp
  have HN : Hid (L.length = n) := hn
  obtain ⟨q, hq⟩ : ∃ q, ixP p 0 L = q := ⟨_, rfl⟩
  rw [hq]
  have HQ : Hid (ixP p 0 (L.drop 0) = q) := hq
  clear hr hp hq hn
  go_enter Tryz.func110, Tryz.ntmps110
  go_wp2_with fail
  go_loopw [8] (fun vk wr => ∃ k : Nat, vk = .int .i64 k ∧ k ≤ n ∧ Hid (ixP p k (L.drop k) = q) ∧ Below w.heap.size w wr) (fun vk _ => n - (intOf vk).toNat)
  case atStart => exact ⟨0, rfl, Nat.zero_le _, HQ, Below.refl _ _⟩
  case round =>
    clear HQ
    obtain ⟨k, rfl, hk, hidx, hB⟩ := hrel
    by_cases hlt : k < n
    · have j1 : (k : Int) < (n : Int) := by omega
      have j0 : (0 : Int) ≤ (k : Int) := by omega
      obtain ⟨t, ht⟩ : ∃ t, L[k]? = some t := ⟨_, List.getElem?_eq_getElem (by rw [HN.out]; exact hlt)⟩
      obtain ⟨g, o0, rfl, p0, p1, p2, p3, p4, p5, p6, p7, p8⟩ := HR.out wr hB k t ht
      have hx2 := hidx.out
      rw [ixP_step ht] at hx2
      have H1 := HPP.out wr hB t (List.mem_of_getElem? ht)
      have HH : Hid (Calls Tryz.prog 97 #[cubeV t, .pointer (some ⟨b1, 0, none⟩), .pointer (some ⟨b2, 0, none⟩)] wr fun e w' => e = .returned (.bool (p t)) ∧ Below wr.heap.size wr w') := H1
      clear ht hidx H1
      cases hy : p t with
      | true =>
        rw [hy, if_pos rfl] at hx2
        have HX2 : Hid ((k : Int) = q) := hx2
        have HY : Hid (p t = true) := hy
        clear hx2 hy
        go_wp2_with fail
        refine HH.out.mono ?_
        rintro e W1 ⟨rfl, hb1⟩
        rw [HY.out]
        go_wp2_with fail
        go_ret
        exact ⟨by rw [← HX2.out]; rfl, bel0 hB hb1⟩
      | false =>
        rw [hy, if_neg (by simp)] at hx2
        have HX : Hid (ixP p (k + 1) (L.drop (k + 1)) = q) := hx2
        have HY : Hid (p t = false) := hy
        clear hx2 hy
        go_wp2_with fail
        refine HH.out.mono ?_
        rintro e W1 ⟨rfl, hb1⟩
        rw [HY.out]
        go_wp2_with fail
        go_roundw
        case rel => exact ⟨k + 1, by go_num, by omega, HX, bel0 hB hb1⟩
        case measure => simp [intOf]; omega
    · have j1 : ¬ (k : Int) < (n : Int) := by omega
      have HX2 : Hid (-1 = q) := by
        unfold Hid
        rw [← hidx.out, List.drop_eq_nil_of_le (by rw [HN.out]; omega)]
        rfl
      clear hidx
      go_wp2_with fail
      go_ret
      exact ⟨by rw [← HX2.out]; rfl, hB⟩
set_option maxRecDepth 100000 in
set_option maxHeartbeats 2000000 in
theorem idxc2_any (L : List (List UInt8)) (n : Nat) (o : Option Addr) (c : Nat) (b1 b2 : Nat) (p : List UInt8 → Bool) (w : World) (hn : L.length = n) (hL : n ≤ 281474976710656) (hr : IRC w o L) (hp : ∀ W, Below w.heap.size w W → ∀ t ∈ L, Calls Tryz.prog 99 #[cubeV t, .pointer (some ⟨b1, 0, none⟩), .pointer (some ⟨b2, 0, none⟩)] W fun e w' => e = .returned (.bool (p t)) ∧ Below W.heap.size W w') :
    Calls Tryz.prog 110 #[.slice o n c, .func (.func 99) #[] #[.pointer (some ⟨b1, 0, none⟩), .pointer (some ⟨b2, 0, none⟩)]] w fun e w' => e = .returned (.int .i64 (ixP p 0 L)) ∧ Below w.heap.size w w' := by
  have HR : Hid (IRC w o L) := hr
  have HPP : Hid (∀ W, Below w.heap.size w W → ∀ t ∈ L, Calls Tryz.prog 99 #[cubeV t, .pointer (some ⟨b1, 0, none⟩), .pointer (some ⟨b2, 0, none⟩)] W fun e w' => e = .returned (.bool (p t)) ∧ Below W.heap.size W w') := hp
  have HN : Hid (L.length = n) := hn
  obtain ⟨q, hq⟩ : ∃ q, ixP p 0 L = q := ⟨_, rfl⟩
  rw [hq]
  have HQ : Hid (ixP p 0 (L.drop 0) = q) := hq
  clear hr hp hq hn
  go_enter Tryz.func110, Tryz.ntmps110
  go_wp2_with fail
  go_loopw [8] (fun vk wr => ∃ k : Nat, vk = .int .i64 k ∧ k ≤ n ∧ Hid (ixP p k (L.drop k) = q) ∧ Below w.heap.size w wr) (fun vk _ => n - (intOf vk).toNat)
  case atStart => exact ⟨0, rfl, Nat.zero_le _, HQ, Below.refl _ _⟩
  case round =>
    clear HQ
    obtain ⟨k, rfl, hk, hidx, hB⟩ := hrel
    by_cases hlt : k < n
    · have j1 : (k : Int) < (n : Int) := by omega
      have j0 : (0 : Int) ≤ (k : Int) := by omega
      obtain ⟨t, ht⟩ : ∃ t, L[k]? = some t := ⟨_, List.getElem?_eq_getElem (by rw [HN.out]; exact hlt)⟩
      obtain ⟨g, o0, rfl, p0, p1, p2, p3, p4, p5, p6, p7, p8⟩ := HR.out wr hB k t ht
      have hx2 := hidx.out
      rw [ixP_step ht] at hx2
      have H1 := HPP.out wr hB t (List.mem_of_getElem? ht)
      have HH : Hid (Calls Tryz.prog 99 #[cubeV t, .pointer (some ⟨b1, 0, none⟩), .pointer (some ⟨b2, 0, none⟩)] wr fun e w' => e = .returned (.bool (p t)) ∧ Below wr.heap.size wr w') := H1
      clear ht hidx H1
      cases hy : p t with
      | true =>
        rw [hy, if_pos rfl] at hx2
        have HX2 : Hid ((k : Int) = q) := hx2
        have HY : Hid (p t = true) := hy
        clear hx2 hy
        go_wp2_with fail
        refine HH.out.mono ?_
        rintro e W1 ⟨rfl, hb1⟩
        rw [HY.out]
        go_wp2_with fail
        go_ret
        exact ⟨by rw [← HX2.out]; rfl, bel0 hB hb1⟩
      | false =>
        rw [hy, if_neg (by simp)] at hx2
        have HX : Hid (ixP p (k + 1) (L.drop (k + 1)) = q) := hx2
        have HY : Hid (p t = false) := hy
        clear hx2 hy
        go_wp2_with fail
        refine HH.out.mono ?_
        rintro e W1 ⟨rfl, hb1⟩
        rw [HY.out]
        go_wp2_with fail
        go_roundw
        case rel => exact ⟨k + 1, by go_num, by omega, HX, bel0 hB hb1⟩
        case measure => simp [intOf]; omega
    · have j1 : ¬ (k : Int) < (n : Int) := by omega
      have HX2 : Hid (-1 = q) := by
        unfold Hid
        rw [← hidx.out, List.drop_eq_nil_of_le (by rw [HN.out]; omega)]
        rfl
      clear hidx
      go_wp2_with fail
      go_ret
      exact ⟨by rw [← HX2.out]; rfl, hB⟩
set_option maxRecDepth 100000 in
set_option maxHeartbeats 1000000 in
theorem contc_any (L : List (List UInt8)) (n : Nat) (o : Option Addr) (c : Nat) (b1 b2 : Nat) (p : List UInt8 → Bool) (w : World) (hn : L.length = n) (hL : n ≤ 281474976710656) (hr : IRC w o L) (hp : ∀ W, Below w.heap.size w W → ∀ t ∈ L, Calls Tryz.prog 97 #[cubeV t, .pointer (some ⟨b1, 0, none⟩), .pointer (some ⟨b2, 0, none⟩)] W fun e w' => e = .returned (.bool (p t)) ∧ Below W.heap.size W w') :
    Calls Tryz.prog 96 #[.slice o n c, .func (.func 97) #[] #[.pointer (some ⟨b1, 0, none⟩), .pointer (some ⟨b2, 0, none⟩)]] w fun e w' => e = .returned (.bool (L.any p)) ∧ Below w.heap.size w w' := by
  have H1 := idxc1_any L n o c b1 b2 p w hn hL hr hp
  obtain ⟨b, hb⟩ : ∃ b, L.any p = b := ⟨_, rfl⟩
  obtain ⟨i, hi⟩ : ∃ i, ixP p 0 L = i := ⟨_, rfl⟩
  have HD : Hid (decide ((0 : Int) ≤ i) = b) := by
    unfold Hid
    rw [← hb, ← hi, ixP_any]
  rw [hi] at H1
  rw [hb]
  clear hr hp hb hi hn
  go_enter Tryz.func96, Tryz.ntmps96
  go_wp2_with fail
  refine H1.mono ?_
  rintro e W1 ⟨rfl, hb1⟩
  go_wp2_with fail
  go_ret
  exact ⟨by rw [← HD.out]; rfl, hb1⟩
end Go.Proofs.YtmdnapognaddbaaGreatDoor
namespace Go.Proofs.YtmdnapognaddbaaGreatDoor
open Go.RowKit
theorem grown_trans {a b c : World} {row : Option Nat} (h1 : a.grownBy b row) (h2 : b.grownBy c row) : a.grownBy c row :=
  ⟨h2.os.trans h1.os, h2.tape.trans h1.tape, h2.output.trans h1.output, Nat.le_trans h1.size h2.size, fun k hk hne => (h2.block k (Nat.lt_of_lt_of_le hk h1.size) hne).trans (h1.block k hk hne)⟩
theorem grown_new {a b c : World} {row r2 : Option Nat} (h1 : a.grownBy b row) (h2 : b.grownBy c r2) (hr : ∀ k, r2 = some k → a.heap.size ≤ k) : a.grownBy c row :=
  ⟨h2.os.trans h1.os, h2.tape.trans h1.tape, h2.output.trans h1.output, Nat.le_trans h1.size h2.size, fun k hk hne => (h2.block k (Nat.lt_of_lt_of_le hk h1.size) (fun e => by have := hr k e.symm; omega)).trans (h1.block k hk hne)⟩
theorem cesO_len (L : List (List UInt8)) : (ces L).length = L.length * 9 := by
  induction L with
  | nil => rfl
  | cons x l ih => simp only [ces, List.flatMap_cons, List.length_append, List.length_cons] at ih ⊢; rw [ih]; simp [ce9]; omega
theorem ces_set (K : List (List UInt8)) (k : Nat) (M : List UInt8) (hk : k < K.length) :
    (((((((((ces K).set (k * 9) (.int .i64 (M.length : Int))).set (k * 9 + 1) (.int .u64 (FW M 0 : Int))).set (k * 9 + 2) (.int .u64 (FW M 1 : Int))).set (k * 9 + 3) (.int .u64 (FW M 2 : Int))).set (k * 9 + 4) (.int .u64 (FW M 3 : Int))).set (k * 9 + 5) (.int .u64 (OW M 0 : Int))).set (k * 9 + 6) (.int .u64 (OW M 1 : Int))).set (k * 9 + 7) (.int .u64 (OW M 2 : Int))).set (k * 9 + 8) (.int .u64 (OW M 3 : Int)) = ces (K.set k M) := by
  have hl := cesO_len K
  apply List.ext_getElem?
  intro j
  obtain ⟨q, m, hm, rfl⟩ : ∃ q m, m < 9 ∧ j = q * 9 + m := ⟨j / 9, j % 9, by omega, by omega⟩
  rw [ces_get (K.set k M) q m hm]
  by_cases hq : q = k
  · subst hq
    rw [List.getElem?_set_self hk]
    have hc : m = 0 ∨ m = 1 ∨ m = 2 ∨ m = 3 ∨ m = 4 ∨ m = 5 ∨ m = 6 ∨ m = 7 ∨ m = 8 := by omega
    rcases hc with rfl | rfl | rfl | rfl | rfl | rfl | rfl | rfl | rfl <;>
      (repeat rw [List.getElem?_set_ne (by omega)]) <;>
      (first | (rw [List.getElem?_set_self (by simp only [List.length_set]; omega)]; rfl) | (show (((ces K).set (q * 9) _))[q * 9]? = _; rw [List.getElem?_set_self (by omega)]; rfl))
  · rw [List.getElem?_set_ne (by omega), List.getElem?_set_ne (by omega), List.getElem?_set_ne (by omega), List.getElem?_set_ne (by omega), List.getElem?_set_ne (by omega), List.getElem?_set_ne (by omega), List.getElem?_set_ne (by omega), List.getElem?_set_ne (by omega), List.getElem?_set_ne (by omega), ces_get K q m hm, List.getElem?_set_ne (fun e => hq e.symm)]
def put9k (W : World) (g k : Nat) (M : List UInt8) : World :=
  ((((((((W.setCell ⟨g, k * 9, none⟩ (.int .i64 (M.length : Int))).setCell ⟨g, k * 9 + 1, none⟩ (.int .u64 (FW M 0 : Int))).setCell ⟨g, k * 9 + 2, none⟩ (.int .u64 (FW M 1 : Int))).setCell ⟨g, k * 9 + 3, none⟩ (.int .u64 (FW M 2 : Int))).setCell ⟨g, k * 9 + 4, none⟩ (.int .u64 (FW M 3 : Int))).setCell ⟨g, k * 9 + 5, none⟩ (.int .u64 (OW M 0 : Int))).setCell ⟨g, k * 9 + 6, none⟩ (.int .u64 (OW M 1 : Int))).setCell ⟨g, k * 9 + 7, none⟩ (.int .u64 (OW M 2 : Int))).setCell ⟨g, k * 9 + 8, none⟩ (.int .u64 (OW M 3 : Int))
theorem put9k_own {W : World} {B g n c k : Nat} {K : List (List UInt8)} (M : List UInt8) (h : W.ownsRow B 40 9 (.slice (some ⟨g, 0, none⟩) n c) n (ces K)) (hk : k < K.length) :
    (put9k W g k M).ownsRow B 40 9 (.slice (some ⟨g, 0, none⟩) n c) n (ces (K.set k M)) ∧ W.grownBy (put9k W g k M) (some g) := by
  have s0 := h.stored (k * 9) (.int .i64 (M.length : Int))
  have s1 := s0.1.stored (k * 9 + 1) (.int .u64 (FW M 0 : Int))
  have s2 := s1.1.stored (k * 9 + 2) (.int .u64 (FW M 1 : Int))
  have s3 := s2.1.stored (k * 9 + 3) (.int .u64 (FW M 2 : Int))
  have s4 := s3.1.stored (k * 9 + 4) (.int .u64 (FW M 3 : Int))
  have s5 := s4.1.stored (k * 9 + 5) (.int .u64 (OW M 0 : Int))
  have s6 := s5.1.stored (k * 9 + 6) (.int .u64 (OW M 1 : Int))
  have s7 := s6.1.stored (k * 9 + 7) (.int .u64 (OW M 2 : Int))
  have s8 := s7.1.stored (k * 9 + 8) (.int .u64 (OW M 3 : Int))
  rw [← ces_set K k M hk]
  exact ⟨s8.1, grown_trans s0.2 (grown_trans s1.2 (grown_trans s2.2 (grown_trans s3.2 (grown_trans s4.2 (grown_trans s5.2 (grown_trans s6.2 (grown_trans s7.2 s8.2)))))))⟩
theorem below_grown {W X : World} (h : Below W.heap.size W X) (row : Option Nat) : W.grownBy X row := ⟨h.os, h.tape, h.output, h.size, fun k hk _ => h.block k hk⟩
theorem setCells_own : ∀ (Z : List Value) (o : Nat) {W : World} {B sz g n c : Nat} {e : TypeId} {xs : List Value}, W.ownsRow B e sz (.slice (some ⟨g, 0, none⟩) n c) n xs → ∃ ys, (W.setCells g o Z).ownsRow B e sz (.slice (some ⟨g, 0, none⟩) n c) n ys ∧ ys.take o = xs.take o ∧ W.grownBy (W.setCells g o Z) (some g)
  | [], o, W, B, sz, g, n, c, e, xs, h => ⟨xs, h, rfl, World.grownBy.refl _ _⟩
  | v :: r, o, W, B, sz, g, n, c, e, xs, h => by
    have s1 := h.stored o v
    obtain ⟨ys, a, b, d⟩ := setCells_own r (o + 1) s1.1
    refine ⟨ys, a, ?_, grown_trans s1.2 d⟩
    have e1 := congrArg (List.take o) b
    rw [List.take_take, List.take_take, Nat.min_eq_left (by omega), List.take_set, List.set_eq_of_length_le (by rw [List.length_take]; omega)] at e1
    exact e1
theorem own_cut {W : World} {B sz g n c i : Nat} {e : TypeId} {xs : List Value} (hi : i ≤ n) (h : W.ownsRow B e sz (.slice (some ⟨g, 0, none⟩) n c) n xs) : W.ownsRow B e sz (.slice (some ⟨g, 0, none⟩) i c) i (xs.take (i * sz)) := by
  have hm : i * sz ≤ n * sz := Nat.mul_le_mul_right _ hi
  rcases h.2 with ⟨h', _⟩ | ⟨g', cap', cur, h', hb, hg, hnc, hcm, hcs, htake⟩
  · cases h'
  · injection h' with a1 _ a3
    injection a1 with a1
    injection a1 with a1
    subst a1 a3
    refine ⟨by rw [List.length_take, h.1, Nat.min_eq_left hm], .inr ⟨g, c, cur, rfl, hb, hg, by omega, hcm, hcs, ?_⟩⟩
    rw [← htake, List.take_take, Nat.min_eq_left hm]
/-- clear of a row of cubes -/
theorem clear9 (w : World) (ty : TypeId) (b o n c : Nat) (hn : 0 < n) (hc : ∀ j, j < n * 9 → (w.cell? ⟨b, o + j, none⟩).isSome = true) (hf : ∀ j, j < n * 9 → w.frozen? ⟨b, o + j, none⟩ = false) :
    ∃ Z : List Value, (Builtin.clear_ #[80] ty #[.slice (some ⟨b, o, none⟩) n c]).run Tryz.prog w = .ok (.tuple #[]) (w.setCells b o Z) := by
  obtain ⟨A, hA⟩ : ∃ A, Builtin.zeroCells (.agg #[.int .i64 0, .int .u64 0, .int .u64 0, .int .u64 0, .int .u64 0, .int .u64 0, .int .u64 0, .int .u64 0, .int .u64 0] : Value).cells n = A := ⟨_, rfl⟩
  have hl : A.toList.length = n * 9 := by
    rw [← hA]
    simp [Builtin.zeroCells, Value.cells]
  have h1 : ∀ v ∈ A.toList, v.oneCell' = true := by
    intro v hv
    rw [← hA] at hv
    simp only [Builtin.zeroCells, Value.cells] at hv
    simp only [Array.toList_map, List.mem_map] at hv
    obtain ⟨i, -, rfl⟩ := hv
    have hi : i % 9 = 0 ∨ i % 9 = 1 ∨ i % 9 = 2 ∨ i % 9 = 3 ∨ i % 9 = 4 ∨ i % 9 = 5 ∨ i % 9 = 6 ∨ i % 9 = 7 ∨ i % 9 = 8 := by omega
    rcases hi with e | e | e | e | e | e | e | e | e <;> simp [e, Value.oneCell']
  have hst := run_storeCells_cells (P := Tryz.prog) b o A.toList 0 w (by rw [hl]; simpa using hc) (by rw [hl]; simpa using hf) h1
  simp only [Nat.add_zero] at hst
  obtain ⟨m, rfl⟩ : ∃ m, n = m + 1 := ⟨n - 1, by omega⟩
  exact ⟨A.toList, by simp [Builtin.clear_, run_underlying Tryz.underlying80, hA, hst]⟩
theorem ces_take (L : List (List UInt8)) (i : Nat) : (ces L).take (i * 9) = ces (L.take i) := by
  induction L generalizing i with
  | nil => simp [ces]
  | cons t l ih =>
    have hc : ces (t :: l) = ce9 t ++ ces l := rfl
    have hl : (ce9 t).length = 9 := rfl
    cases i with
    | zero => simp [ces]
    | succ i =>
      rw [hc, List.take_append, hl, List.take_of_length_le (by rw [hl]; omega), show (i + 1) * 9 - 9 = i * 9 by omega, ih]
      rfl
/-- the places that are written lie behind those that are looked at -/
theorem del_yes {q : List UInt8 → Bool} {L K : List (List UInt8)} {i j : Nat} {t : List UInt8} (h1 : K.take i = (L.take j).filter q) (h2 : ((L.take j).filter q).length = i) (h3 : K.drop j = L.drop j) (h4 : K.length = L.length) (hij : i < j) (ht : L[j]? = some t) (hq : q t = true) : (K.set i t).take (i + 1) = (L.take (j + 1)).filter q ∧ ((L.take (j + 1)).filter q).length = i + 1 ∧ (K.set i t).drop (j + 1) = L.drop (j + 1) ∧ (K.set i t).length = L.length := by
  have hj : j < L.length := (List.getElem?_eq_some_iff.1 ht).1
  have e : (L.take (j + 1)).filter q = (L.take j).filter q ++ [t] := by
    rw [List.take_add_one, ht, List.filter_append]
    simp [hq]
  refine ⟨?_, by rw [e, List.length_append, h2]; rfl, ?_, by rw [List.length_set, h4]⟩
  · rw [e, List.take_add_one, List.take_set, List.set_eq_of_length_le (by rw [List.length_take]; omega), h1, List.getElem?_set_self (by omega)]
    rfl
  · rw [List.drop_set_of_lt (by omega), ← List.drop_drop, h3, List.drop_drop]
theorem del_no {q : List UInt8 → Bool} {L K : List (List UInt8)} {i j : Nat} {t : List UInt8} (h1 : K.take i = (L.take j).filter q) (h2 : ((L.take j).filter q).length = i) (h3 : K.drop j = L.drop j) (ht : L[j]? = some t) (hq : q t = false) : K.take i = (L.take (j + 1)).filter q ∧ ((L.take (j + 1)).filter q).length = i ∧ K.drop (j + 1) = L.drop (j + 1) := by
  have e : (L.take (j + 1)).filter q = (L.take j).filter q := by
    rw [List.take_add_one, ht, List.filter_append]
    simp [hq]
  rw [e]
  exact ⟨h1, h2, by rw [← List.drop_drop, h3, List.drop_drop]⟩
set_option maxRecDepth 100000 in
set_option maxHeartbeats 4000000 in
theorem delc_any (L : List (List UInt8)) (n c g B : Nat) (x : List UInt8) (bw bx : Nat) (w : World) (hn : L.length = n) (hc : n ≤ 281474976710656) (h : w.ownsRow B 40 9 (.slice (some ⟨g, 0, none⟩) n c) n (ces L)) (gL : ∀ t ∈ L, good t = true) (gx : good x = true) (hq : WQ w bw bx x) (h1 : bw ≠ g) (h2 : bx ≠ g) (q : List UInt8 → Bool) (hqd : q = fun t => !wiB t x) :
    Calls Tryz.prog 98 #[.slice (some ⟨g, 0, none⟩) n c, .func (.func 99) #[] #[.pointer (some ⟨bw, 0, none⟩), .pointer (some ⟨bx, 0, none⟩)]] w fun e w' => ∃ m, e = .returned (.slice (some ⟨g, 0, none⟩) m c) ∧ (L.filter q).length = m ∧ w'.ownsRow B 40 9 (.slice (some ⟨g, 0, none⟩) m c) m (ces (L.filter q)) ∧ w.grownBy w' (some g) := by
  have hnc : n ≤ c := by
    rcases h.2 with ⟨h', _⟩ | ⟨g', cap', cur, h', _, _, h9, _⟩
    · cases h'
    · injection h' with _ _ a3
      omega
  have H1 := idxc2_any L n (some ⟨g, 0, none⟩) c bw bx (fun t => wiB t x) w hn (by omega) (IRC_own h hn) (fun W hW t ht => great2_any x t bw bx W gx (gL t ht) (hq.below hW))
  obtain ⟨i0, hi0⟩ : ∃ i, ixP (fun t => wiB t x) 0 L = i := ⟨_, rfl⟩
  have HIX := ixP_at (fun t => wiB t x) L 0
  rw [hi0] at H1 HIX
  have HN : Hid (L.length = n) := hn
  have HO : Hid (w.ownsRow B 40 9 (.slice (some ⟨g, 0, none⟩) n c) n (ces L)) := h
  have HG : Hid (∀ t ∈ L, good t = true) := gL
  have HQ : Hid (WQ w bw bx x ∧ bw ≠ g ∧ bx ≠ g) := ⟨hq, h1, h2⟩
  have HD : Hid (q = fun t => !wiB t x) := hqd
  have HX : Hid (good x = true) := gx
  have HI : Hid ((i0 = -1 ∧ ∀ t ∈ L, wiB t x = false) ∨ ∃ A t R, L = A ++ t :: R ∧ (∀ x_1 ∈ A, wiB x_1 x = false) ∧ wiB t x = true ∧ i0 = ((0 + A.length : Nat) : Int)) := HIX
  clear hn h gL hq h1 h2 hqd gx HIX hi0
  go_enter Tryz.func98, Tryz.ntmps98
  go_wp2_with fail
  refine H1.mono ?_
  rintro e W0 ⟨rfl, hb0⟩
  clear H1
  rcases HI.out with ⟨rfl, hno⟩ | ⟨A, t0, R, hLA, hA, ht0, rfl⟩
  · have HF : Hid (L.filter q = L) := by
      unfold Hid
      rw [HD.out]
      exact List.filter_eq_self.2 (fun t ht => by simp [hno t ht])
    clear hno HI
    go_wp2_with fail
    go_ret
    refine ⟨n, rfl, ?_, ?_, below_grown hb0 _⟩
    · rw [HF.out, HN.out]
    · rw [HF.out]
      exact (HO.out.kept (below_grown hb0 none) (.inr (by intro e; cases e)))
  · obtain ⟨i, hi⟩ : ∃ i, A.length = i := ⟨_, rfl⟩
    have HS : Hid (∃ K : List (List UInt8), K.take i = (L.take (i + 1)).filter q ∧ ((L.take (i + 1)).filter q).length = i ∧ K.drop (i + 1) = L.drop (i + 1) ∧ K.length = L.length ∧ W0.ownsRow B 40 9 (.slice (some ⟨g, 0, none⟩) n c) n (ces K)) := by
      have e : (L.take (i + 1)).filter q = A := by
        rw [hLA, ← hi, List.take_append, List.take_of_length_le (by omega), Nat.add_sub_cancel_left, List.filter_append, HD.out]
        simp only [List.take_succ_cons, List.take_zero]
        rw [List.filter_eq_self.2 (fun t ht => by simp [hA t ht])]
        simp [ht0]
      refine ⟨L, ?_, by rw [e, hi], rfl, rfl, HO.out.kept (below_grown hb0 none) (.inr (by intro e; cases e))⟩
      rw [e, hLA, ← hi, List.take_left']
      rfl
    have hin : i + 1 ≤ n := by
      rw [← HN.out, hLA, List.length_append, List.length_cons, hi]
      omega
    rw [Nat.zero_add, hi]
    have k0 : ((i : Int) == -1) = false := beq_false_of_ne (by omega)
    clear hLA hA ht0 hi HI
    go_wp2_with fail
    go_loopw [5, 6] (fun v5 v6 wr => ∃ i j : Nat, v5 = .int .i64 (i : Int) ∧ v6 = .int .i64 (j : Int) ∧ i < j ∧ j ≤ n ∧ w.grownBy wr (some g) ∧ ∃ K : List (List UInt8), K.take i = (L.take j).filter q ∧ ((L.take j).filter q).length = i ∧ K.drop j = L.drop j ∧ K.length = L.length ∧ wr.ownsRow B 40 9 (.slice (some ⟨g, 0, none⟩) n c) n (ces K)) (fun _ v6 _ => n - (intOf v6).toNat)
    case atStart => exact ⟨i, i + 1, rfl, by go_num, by omega, hin, below_grown hb0 _, HS.out⟩
    case round =>
      clear HS hb0
      obtain ⟨i, j, rfl, rfl, hij, hjn, hg, K, e1, e2, e3, e4, oK⟩ := hrel
      by_cases hlt : j < n
      · have j1 : (j : Int) < (n : Int) := by omega
        have j0 : (0 : Int) ≤ (j : Int) := by omega
        have i0 : (0 : Int) ≤ (i : Int) := by omega
        have i1 : (i : Int) < (n : Int) := by omega
        obtain ⟨t, ht⟩ : ∃ t, L[j]? = some t := ⟨_, List.getElem?_eq_getElem (by rw [HN.out]; exact hlt)⟩
        have hKt : K[j]? = some t := by
          have := congrArg (fun l => l[0]?) e3
          simpa [ht] using this
        have hjK : j < K.length := by rw [e4, HN.out]; exact hlt
        have ce : CB wr g (j * 9) t := ce_at (by rw [e4, HN.out]; exact oK) hjK (List.getElem?_eq_some_iff.1 hKt).2
        have HST : Hid (K.take i = (L.take j).filter q ∧ ((L.take j).filter q).length = i ∧ K.drop j = L.drop j ∧ K.length = L.length ∧ L[j]? = some t) := ⟨e1, e2, e3, e4, ht⟩
        have HOK : Hid (wr.ownsRow B 40 9 (.slice (some ⟨g, 0, none⟩) n c) n (ces K)) := oK
        have HGR : Hid (w.grownBy wr (some g)) := hg
        have hwq : WQ wr bw bx x := ⟨(hg.block bw (lt_of_get3 HQ.out.1.1) (by intro e; injection e with e; exact HQ.out.2.1 e)).trans HQ.out.1.1, (hg.block bx (lt_of_get3 HQ.out.1.2) (by intro e; injection e with e; exact HQ.out.2.2 e)).trans HQ.out.1.2⟩
        have HW : Hid (WQ wr bw bx x) := hwq
        obtain ⟨p0, p1, p2, p3, p4, p5, p6, p7, p8⟩ := ce
        clear e1 e2 e3 e4 oK hg ht hKt hwq
        have hgd := HG.out t (List.mem_of_getElem? HST.out.2.2.2.2)
        have HCL : Hid (∀ W, Below wr.heap.size wr W → Calls Tryz.prog 99 #[.agg #[.int .i64 (t.length : Int), .int .u64 (FW t 0 : Int), .int .u64 (FW t 1 : Int), .int .u64 (FW t 2 : Int), .int .u64 (FW t 3 : Int), .int .u64 (OW t 0 : Int), .int .u64 (OW t 1 : Int), .int .u64 (OW t 2 : Int), .int .u64 (OW t 3 : Int)], .pointer (some ⟨bw, 0, none⟩), .pointer (some ⟨bx, 0, none⟩)] W fun e w' => e = .returned (.bool (wiB t x)) ∧ Below W.heap.size W w') := fun W hW => great2_any x t bw bx W HX.out hgd (HW.out.below hW)
        have hal : Below wr.heap.size wr (wr.alloc (.cells #[.int .i64 (t.length : Int), .int .u64 (FW t 0 : Int), .int .u64 (FW t 1 : Int), .int .u64 (FW t 2 : Int), .int .u64 (FW t 3 : Int), .int .u64 (OW t 0 : Int), .int .u64 (OW t 1 : Int), .int .u64 (OW t 2 : Int), .int .u64 (OW t 3 : Int)] 40 (0, 0))) := belA (Below.refl _ _) _
        have hcb : CB (wr.alloc (.cells #[.int .i64 (t.length : Int), .int .u64 (FW t 0 : Int), .int .u64 (FW t 1 : Int), .int .u64 (FW t 2 : Int), .int .u64 (FW t 3 : Int), .int .u64 (OW t 0 : Int), .int .u64 (OW t 1 : Int), .int .u64 (OW t 2 : Int), .int .u64 (OW t 3 : Int)] 40 (0, 0))) wr.heap.size 0 t := CB_of (alloc_get _ _)
        go_wp2_with fail
        refine (HCL.out _ hal).mono ?_
        rintro e W1 ⟨rfl, hb1⟩
        have hB1 := bel0 hal hb1
        have oK1 : W1.ownsRow B 40 9 (.slice (some ⟨g, 0, none⟩) n c) n (ces K) := HOK.out.kept (below_grown hB1 none) (.inr (by intro e; cases e))
        have HG1 : Hid (w.grownBy W1 (some g)) := grown_trans HGR.out (below_grown hB1 _)
        cases hw : wiB t x with
        | true =>
          have HF : Hid (K.take i = (L.take (j + 1)).filter q ∧ ((L.take (j + 1)).filter q).length = i ∧ K.drop (j + 1) = L.drop (j + 1)) := del_no HST.out.1 HST.out.2.1 HST.out.2.2.1 HST.out.2.2.2.2 (by rw [HD.out]; simp [hw])
          have HO1 : Hid (W1.ownsRow B 40 9 (.slice (some ⟨g, 0, none⟩) n c) n (ces K)) := oK1
          clear oK1 hw
          go_wp2_with fail
          go_roundw
          case rel => exact ⟨i, j + 1, rfl, by go_num, by omega, by omega, HG1.out, K, HF.out.1, HF.out.2.1, HF.out.2.2, HST.out.2.2.2.1, HO1.out⟩
          case measure => simp [intOf]; omega
        | false =>
          have hiK : i < K.length := by rw [HST.out.2.2.2.1, HN.out]; omega
          have HF : Hid ((K.set i t).take (i + 1) = (L.take (j + 1)).filter q ∧ ((L.take (j + 1)).filter q).length = i + 1 ∧ (K.set i t).drop (j + 1) = L.drop (j + 1) ∧ (K.set i t).length = L.length) := del_yes HST.out.1 HST.out.2.1 HST.out.2.2.1 HST.out.2.2.2.1 hij HST.out.2.2.2.2 (by rw [HD.out]; simp [hw])
          have hp := put9k_own t oK1 hiK
          have HP : Hid ((put9k W1 g i t).ownsRow B 40 9 (.slice (some ⟨g, 0, none⟩) n c) n (ces (K.set i t)) ∧ w.grownBy (put9k W1 g i t) (some g)) := ⟨hp.1, grown_trans HG1.out hp.2⟩
          obtain ⟨c0, c1, c2, c3, c4, c5, c6, c7, c8⟩ := ce_at (L := K) (by rw [HST.out.2.2.2.1, HN.out]; exact oK1) hiK rfl
          have fz := oK1.frozenAt
          obtain ⟨d0, d1, d2, d3, d4, d5, d6, d7, d8⟩ := hcb.below hb1
          clear oK1 hw hp
          go_wp2_with fail
          go_roundw
          case rel => exact ⟨i + 1, j + 1, by go_num, by go_num, by omega, by omega, HP.out.2, K.set i t, HF.out.1, HF.out.2.1, HF.out.2.2.1, HF.out.2.2.2, HP.out.1⟩
          case measure => simp [intOf]; omega
      · obtain rfl : j = n := by omega
        have j1 : ¬ (j : Int) < (j : Int) := by omega
        have i0 : (0 : Int) ≤ (i : Int) := by omega
        have i1 : (i : Int) ≤ (j : Int) := by omega
        have i2 : ¬ c = i := by omega
        have i3 : (j : Int) ≤ (c : Int) := by omega
        have i4 : (i : Int) ≤ (c : Int) := by omega
        obtain ⟨Z, hZ⟩ : ∃ Z : List Value, ∀ ty, (Builtin.clear_ #[80] ty #[.slice (some ⟨g, i * 9, none⟩) (j - i) (c - i)]).run Tryz.prog wr = .ok (.tuple #[]) (wr.setCells g (i * 9) Z) := by
          have hce : ∀ m, m < (j - i) * 9 → (wr.cell? ⟨g, i * 9 + m, none⟩).isSome = true := fun m hm => by
            rw [oK.cellAt (i * 9 + m) (by omega)]
            have hl := oK.1
            rw [List.getElem?_eq_getElem (by omega)]
            rfl
          obtain ⟨Z, hZ⟩ := clear9 wr 0 g (i * 9) (j - i) (c - i) (by omega) hce (fun m _ => oK.frozenAt _)
          exact ⟨Z, fun _ => hZ⟩
        obtain ⟨ys, oy, ey, gy⟩ := setCells_own Z (i * 9) oK
        have HE : Hid (((L.filter q).length = i) ∧ (wr.setCells g (i * 9) Z).ownsRow B 40 9 (.slice (some ⟨g, 0, none⟩) i c) i (ces (L.filter q)) ∧ w.grownBy (wr.setCells g (i * 9) Z) (some g)) := by
          have eL : L.take j = L := List.take_of_length_le (by rw [HN.out]; exact Nat.le_refl _)
          rw [eL] at e1 e2
          refine ⟨e2, ?_, grown_trans hg gy⟩
          have := own_cut (i := i) (by omega) oy
          rw [ey, ces_take, e1] at this
          exact this
        clear oK oy ey gy e1 e2 e3 e4 hg
        go_wp2_with fail
        go_ret
        exact ⟨i, rfl, HE.out.1, HE.out.2.1, HE.out.2.2⟩
end Go.Proofs.YtmdnapognaddbaaGreatDoor

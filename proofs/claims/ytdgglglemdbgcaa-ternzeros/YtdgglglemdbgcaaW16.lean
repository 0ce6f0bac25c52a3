import Derived.Test.YtdgglglemdbgcaaW13
import Derived.Test.YtdgglglemdbgcaaM5
import Derived.Deep.RegionHeld3
import Derived.Deep.AppendLies
namespace Go.Proofs.Ytdgglglemdbgcaa
open Go.RowKit

theorem info_cube : (Try.prog.info? 26).map (fun i => (i.zero, i.size, i.bytes)) = some (some (.agg #[.int .i64 0, .int .u64 0, .int .u64 0, .int .u64 0, .int .u64 0, .int .u64 0, .int .u64 0, .int .u64 0, .int .u64 0]), 9, 72) := by kernel_rfl

/-- the nine cells of a cube -/
def cel (t : List UInt8) : List Value := [.int .i64 (t.length : Int), .int .u64 (FW t 0 : Int), .int .u64 (FW t 1 : Int), .int .u64 (FW t 2 : Int), .int .u64 (FW t 3 : Int), .int .u64 (OW t 0 : Int), .int .u64 (OW t 1 : Int), .int .u64 (OW t 2 : Int), .int .u64 (OW t 3 : Int)]
/-- the cells of a list of cubes -/
def cels (l : List (List UInt8)) : List Value := l.flatMap cel
theorem cels_snoc (l : List (List UInt8)) (t : List UInt8) : cels (l ++ [t]) = cels l ++ cel t := by simp [cels]

/-- what Split answers -/
def splT (a b : List UInt8) : List (List UInt8) := if agB a b = true then pcs a b a.length else [a]

theorem opn_zero (a b : List UInt8) (w i : Nat) (h : opn a b w i = 0) : ∀ j, i ≤ j → j < 64 → qual a b (64 * w + j) = false := by
  intro j h1 h2
  have := opn_bit a b w i j
  rw [h, Nat.zero_testBit] at this
  simp [h1, h2] at this
  exact this

set_option maxHeartbeats 400000 in
theorem split_no (a b : List UInt8) (w : World) (ha : good a = true) (hq0 : agB a b = false) :
    Calls Try.prog 21 #[cubeV a, cubeV b] w fun e w' => ∃ v, e = .returned v ∧ w'.ownsRow w.heap.size 26 9 v 1 (cels [a]) ∧ Below w.heap.size w w' := by
  have hq : Hid (agB a b = false) := hq0
  clear hq0
  unfold cubeV cv
  go_enter Try.func21, Try.ntmps21
  go_wp2_with (go_at_call 26; refine (agrees_D a b false _ ha hq.out).mono ?_; rintro e w1 ⟨rfl, hb1⟩; obtain ⟨hc1, hf1⟩ := bcell hb1)
  go_ret
  have hB := bel1 (bel1 hb1)
  refine ⟨_, rfl, ?_, belA hB _⟩
  refine ⟨by simp [cels, cel], .inr ⟨w1.heap.size, 1, _, rfl, hB.size, alloc_get _ _, by omega, by unfold maxLen; omega, by simp, by simp [cels, cel]⟩⟩

theorem cellkeepS {W w' : World} {b : Nat} {cs : Array Value} (hb : Below W.heap.size W w') (hlt : b < W.heap.size) (h : ∀ j, W.cell? ⟨b, j, none⟩ = cs[j]?) : ∀ j, w'.cell? ⟨b, j, none⟩ = cs[j]? :=
  fun j => (hb.cell (p := ⟨b, j, none⟩) hlt).trans (h j)
theorem cell1keep {W w' : World} {b o : Nat} {v : Value} (hb : Below W.heap.size W w') (hlt : b < W.heap.size) (h : W.cell? ⟨b, o, none⟩ = some v) : w'.cell? ⟨b, o, none⟩ = some v := (hb.cell (p := ⟨b, o, none⟩) hlt).trans h
theorem alloc1keep {W : World} {b o : Nat} {v : Value} (hlt : b < W.heap.size) (h : W.cell? ⟨b, o, none⟩ = some v) (O : Obj) : (W.alloc O).cell? ⟨b, o, none⟩ = some v := (World.cell?_alloc_lt W O ⟨b, o, none⟩ hlt).trans h
theorem cell1grow {W w' : World} {row : Option Nat} {b o : Nat} {v : Value} (hg : W.grownBy w' row) (hlt : b < W.heap.size) (hne : some b ≠ row) (h : W.cell? ⟨b, o, none⟩ = some v) : w'.cell? ⟨b, o, none⟩ = some v :=
  (World.cell?_of_block (w := W) (a := ⟨b, o, none⟩) (hg.block b hlt hne)).trans h
theorem allockeepS {W : World} {b : Nat} {cs : Array Value} (hlt : b < W.heap.size) (h : ∀ j, W.cell? ⟨b, j, none⟩ = cs[j]?) (o : Obj) : ∀ j, (W.alloc o).cell? ⟨b, j, none⟩ = cs[j]? :=
  fun j => (World.cell?_alloc_lt W o ⟨b, j, none⟩ hlt).trans (h j)
theorem cellgrowS {W w' : World} {row : Option Nat} {b : Nat} {cs : Array Value} (hg : W.grownBy w' row) (hlt : b < W.heap.size) (hne : some b ≠ row) (h : ∀ j, W.cell? ⟨b, j, none⟩ = cs[j]?) : ∀ j, w'.cell? ⟨b, j, none⟩ = cs[j]? :=
  fun j => (World.cell?_of_block (w := W) (a := ⟨b, j, none⟩) (hg.block b hlt hne)).trans (h j)
theorem ltA {W : World} {b : Nat} (h : b < W.heap.size) (o : Obj) : b < (W.alloc o).heap.size := by simp; omega
theorem growblk {W w' : World} {row : Option Nat} {b : Nat} {o : Obj} (hg : W.grownBy w' row) (h : W.heap[b]? = some o) (hne : some b ≠ row) : w'.heap[b]? = some o := (hg.block b (lt_of_get h) hne).trans h
theorem bel_app2 {w wr w1 : World} {o : Obj} {base : Nat} {e : TypeId} {size : Nat} {v : Value} {n : Nat} {xs : List Value} (hB : Below w.heap.size w wr) (hown : wr.ownsRow base e size v n xs) (hg : (wr.alloc o).grownBy w1 v.ownBlock) (hb : w.heap.size ≤ base) : Below w.heap.size w w1 :=
  (belA hB o).grown hg (belA hB o).size (fun k h => Nat.le_trans hb (hown.lt k h).1)
theorem put9_ne {W : World} {b c : Nat} {o : Obj} (v0 v1 v2 v3 v4 v5 v6 v7 v8 : Value) (hne : c ≠ b) (h : W.heap[c]? = some o) : (put9 W b v0 v1 v2 v3 v4 v5 v6 v7 v8).heap[c]? = some o := by
  unfold put9
  rw [Below.heap_setCell _ _ _ _ (by exact hne), Below.heap_setCell _ _ _ _ (by exact hne), Below.heap_setCell _ _ _ _ (by exact hne), Below.heap_setCell _ _ _ _ (by exact hne), Below.heap_setCell _ _ _ _ (by exact hne), Below.heap_setCell _ _ _ _ (by exact hne), Below.heap_setCell _ _ _ _ (by exact hne), Below.heap_setCell _ _ _ _ (by exact hne), Below.heap_setCell _ _ _ _ (by exact hne)]
  exact h
theorem put9_size (W : World) (b : Nat) (v0 v1 v2 v3 v4 v5 v6 v7 v8 : Value) : (put9 W b v0 v1 v2 v3 v4 v5 v6 v7 v8).heap.size = W.heap.size := by simp [put9, World.setCell]
theorem own_put9 {W : World} {base b : Nat} {e : TypeId} {size : Nat} {v : Value} {n : Nat} {xs : List Value} (v0 v1 v2 v3 v4 v5 v6 v7 v8 : Value) (h : W.ownsRow base e size v n xs) (hb : b < base) : (put9 W b v0 v1 v2 v3 v4 v5 v6 v7 v8).ownsRow base e size v n xs := by
  have s := fun (W : World) (j : Nat) (u : Value) (h : W.ownsRow base e size v n xs) => ownsRow_setCell_below h (a := ⟨b, j, none⟩) hb u
  exact s _ _ _ (s _ _ _ (s _ _ _ (s _ _ _ (s _ _ _ (s _ _ _ (s _ _ _ (s _ _ _ (s _ _ _ h))))))))
theorem cellF {W : World} {x k : Nat} {t : List UInt8} (h : ∀ j, W.cell? ⟨x, j, none⟩ = (#[.int .i64 (t.length : Int), .int .u64 (FW t 0 : Int), .int .u64 (FW t 1 : Int), .int .u64 (FW t 2 : Int), .int .u64 (FW t 3 : Int), .int .u64 (OW t 0 : Int), .int .u64 (OW t 1 : Int), .int .u64 (OW t 2 : Int), .int .u64 (OW t 3 : Int)] : Array Value)[j]?) (hk : k < 4) : W.cell? ⟨x, 1 + k, none⟩ = some (.int .u64 (FW t k : Int)) := by
  rw [h]
  rcases (show k = 0 ∨ k = 1 ∨ k = 2 ∨ k = 3 by omega) with rfl | rfl | rfl | rfl <;> rfl
theorem cellO {W : World} {x k : Nat} {t : List UInt8} (h : ∀ j, W.cell? ⟨x, j, none⟩ = (#[.int .i64 (t.length : Int), .int .u64 (FW t 0 : Int), .int .u64 (FW t 1 : Int), .int .u64 (FW t 2 : Int), .int .u64 (FW t 3 : Int), .int .u64 (OW t 0 : Int), .int .u64 (OW t 1 : Int), .int .u64 (OW t 2 : Int), .int .u64 (OW t 3 : Int)] : Array Value)[j]?) (hk : k < 4) : W.cell? ⟨x, 5 + k, none⟩ = some (.int .u64 (OW t k : Int)) := by
  rw [h]
  rcases (show k = 0 ∨ k = 1 ∨ k = 2 ∨ k = 3 by omega) with rfl | rfl | rfl | rfl <;> rfl
theorem own_base {W : World} {B B' : Nat} {e : TypeId} {size : Nat} {v : Value} {n : Nat} {xs : List Value} (h : W.ownsRow B e size v n xs) (hb : B' ≤ B) : W.ownsRow B' e size v n xs := by
  obtain ⟨h1, h2⟩ := h
  refine ⟨h1, ?_⟩
  rcases h2 with h2 | ⟨g, cap, cur, hv, hg, r⟩
  · exact .inl h2
  · exact .inr ⟨g, cap, cur, hv, Nat.le_trans hb hg, r⟩
theorem drew_heap (V : World) : V.drew.heap = V.heap := rfl
theorem drew_own {V : World} {base : Nat} {e : TypeId} {size : Nat} {v : Value} {n : Nat} {xs : List Value} (h : V.ownsRow base e size v n xs) : V.drew.ownsRow base e size v n xs := h
theorem drew_bel {B : Nat} {a V : World} (h : Below B a V) : Below B a V.drew := h.drew
theorem put9_szle {W : World} {b n : Nat} (v0 v1 v2 v3 v4 v5 v6 v7 v8 : Value) (h : n ≤ W.heap.size) : n ≤ (put9 W b v0 v1 v2 v3 v4 v5 v6 v7 v8).heap.size := by
  rw [put9_size]; exact h
theorem put9d_ne {W : World} {b c : Nat} {o : Obj} (v0 v1 v2 v3 v4 v5 v6 v7 v8 : Value) (hne : c ≠ b) (h : W.heap[c]? = some o) : (put9 W b v0 v1 v2 v3 v4 v5 v6 v7 v8).drew.heap[c]? = some o := by rw [drew_heap]; exact put9_ne v0 v1 v2 v3 v4 v5 v6 v7 v8 hne h
theorem put9d_get {W : World} {b T : Nat} {m : Nat × Nat} {x0 x1 x2 x3 x4 x5 x6 x7 x8 : Value} (v0 v1 v2 v3 v4 v5 v6 v7 v8 : Value) (h : W.heap[b]? = some (.cells #[x0, x1, x2, x3, x4, x5, x6, x7, x8] T m)) :
    (put9 W b v0 v1 v2 v3 v4 v5 v6 v7 v8).drew.heap[b]? = some (.cells #[v0, v1, v2, v3, v4, v5, v6, v7, v8] T m) := by rw [drew_heap]; exact put9_get v0 v1 v2 v3 v4 v5 v6 v7 v8 h
theorem own_put9d {W : World} {base b : Nat} {e : TypeId} {size : Nat} {v : Value} {n : Nat} {xs : List Value} (v0 v1 v2 v3 v4 v5 v6 v7 v8 : Value) (h : W.ownsRow base e size v n xs) (hb : b < base) : (put9 W b v0 v1 v2 v3 v4 v5 v6 v7 v8).drew.ownsRow base e size v n xs := drew_own (own_put9 v0 v1 v2 v3 v4 v5 v6 v7 v8 h hb)
theorem put9d_below {B : Nat} {a W : World} {b : Nat} (v0 v1 v2 v3 v4 v5 v6 v7 v8 : Value) (h : Below B a W) (hb : B ≤ b) : Below B a (put9 W b v0 v1 v2 v3 v4 v5 v6 v7 v8).drew := drew_bel (put9_below v0 v1 v2 v3 v4 v5 v6 v7 v8 h hb)
theorem put9d_size {W : World} {b n : Nat} (v0 v1 v2 v3 v4 v5 v6 v7 v8 : Value) (h : n ≤ W.heap.size) : n ≤ (put9 W b v0 v1 v2 v3 v4 v5 v6 v7 v8).drew.heap.size := by
  rw [drew_heap, put9_size]; exact h
theorem undrewS {B : Nat} {a w : World} (h : Below B a.drew w) : Below B a w := ⟨h.os, h.tape, h.output, h.size, h.block⟩
theorem low_bits (O r : Nat) (h0 : O ≠ 0) (hO : O < 18446744073709551616) (h : O &&& (18446744073709551616 - O) = 2 ^ r) : bits .and .u64 (O : Int) (IntKind.u64.wrap (-(O : Int))) = ((2 ^ r : Nat) : Int) := by
  have e : IntKind.u64.wrap (-(O : Int)) = ((18446744073709551616 - O : Nat) : Int) := by rw [IntKind.wrap_u64]; omega
  rw [e, u64_and_nat _ _ hO (by omega), h]
theorem next_bits (O N : Nat) (h0 : O ≠ 0) (hO : O < 18446744073709551616) (h : O &&& (O - 1) = N) : bits .and .u64 (O : Int) (IntKind.u64.wrap ((O : Int) - 1)) = (N : Int) := by
  have e : IntKind.u64.wrap ((O : Int) - 1) = ((O - 1 : Nat) : Int) := by rw [IntKind.wrap_u64]; omega
  rw [e, u64_and_nat _ _ hO (by omega), h]
theorem next_bits2 (O N : Nat) (h0 : O ≠ 0) (hO : O < 18446744073709551616) (h : O &&& (O - 1) = N) : bits .and .u64 (O : Int) ((O : Int) - 1) = (N : Int) := by
  have e : ((O : Int) - 1) = ((O - 1 : Nat) : Int) := by omega
  rw [e, u64_and_nat _ _ hO (by omega), h]
theorem not_xor (x : Nat) (hx : x < 18446744073709551616) : bits .xor .u64 (if IntKind.u64.signed = true then -1 else IntKind.u64.max) (x : Int) = ((18446744073709551615 - x : Nat) : Int) := by
  have e : (if IntKind.u64.signed = true then (-1 : Int) else IntKind.u64.max) = ((18446744073709551615 : Nat) : Int) := by decide
  rw [e, u64_xor_nat _ _ (by decide) hx]
  congr 1
  apply Nat.eq_of_testBit_eq
  intro i
  have e1 : 18446744073709551615 - x = 2 ^ 64 - (x + 1) := by omega
  have e2 : (18446744073709551615 : Nat) = 2 ^ 64 - 1 := by decide
  rw [e1, Nat.testBit_xor, e2, Nat.testBit_two_pow_sub_one, Nat.testBit_two_pow_sub_succ (by exact hx)]
  by_cases hi : i < 64
  · simp [hi]
  · have h64 : 64 ≤ i := Nat.le_of_not_lt hi
    have hx2 : x < 2 ^ 64 := hx
    have : x.testBit i = false := Nat.testBit_lt_two_pow (Nat.lt_of_lt_of_le hx2 (Nat.pow_le_pow_right (by decide) h64))
    simp [hi, this]
theorem fix_own (a b : List UInt8) (k r : Nat) (w : World) (hk : k < 4) (hr : r < 64) (hl : a.length = b.length) (gb : good b = true) (hq : qual a b (64 * k + r) = true) :
    Calls Try.prog 32 #[cubeV (rsT a b (64 * k + r)), .int .i64 (k : Int), .int .u64 ((2 ^ r : Nat) : Int), .int .u64 (OW b k : Int)] w fun e w' => e = .returned (cubeV (rsT a b (64 * k + r + 1))) ∧ Below w.heap.size w w' := by
  have hp := qual_lt a b hl _ hq
  have hpr : 64 * k + r < (rsT a b (64 * k + r)).length := by rw [rs_len a b hl]; exact hp
  have hbx : b[64 * k + r]'(by omega) ≠ 120 := by
    rw [qual_bytes a b hl _ hp] at hq
    simp at hq; exact hq.1
  refine (fix_any _ k r (OW b k) w hk hr (OW_lt _ _) hpr (rs_at a b hl _ hq hpr)).mono ?_
  rintro e w' ⟨rfl, hb⟩
  exact ⟨by rw [dg_own b k r hr (by omega) gb hbx, rs_succ a b hl _ hq], hb⟩
theorem fix_oth (a b : List UInt8) (k r : Nat) (w : World) (hk : k < 4) (hr : r < 64) (hl : a.length = b.length) (gb : good b = true) (hq : qual a b (64 * k + r) = true) :
    Calls Try.prog 32 #[cubeV (rsT a b (64 * k + r)), .int .i64 (k : Int), .int .u64 ((2 ^ r : Nat) : Int), .int .u64 (bits .xor .u64 (if IntKind.u64.signed = true then -1 else IntKind.u64.max) (OW b k : Int))] w fun e w' => e = .returned (cubeV (pcT a b (64 * k + r))) ∧ Below w.heap.size w w' := by
  have hp := qual_lt a b hl _ hq
  have hpr : 64 * k + r < (rsT a b (64 * k + r)).length := by rw [rs_len a b hl]; exact hp
  have hpb : 64 * k + r < b.length := by omega
  have hbx : b[64 * k + r] ≠ 120 := by
    rw [qual_bytes a b hl _ hp] at hq
    simp at hq; exact hq.1
  rw [not_xor _ (OW_lt _ _)]
  refine (fix_any _ k r (18446744073709551615 - OW b k) w hk hr (by omega) hpr (rs_at a b hl _ hq hpr)).mono ?_
  rintro e w' ⟨rfl, hb⟩
  refine ⟨?_, hb⟩
  unfold pcT
  rw [dg_oth b k r hr hpb gb hbx, show b.getD (64 * k + r) 0 = b[64 * k + r] by simp [List.getD, List.getElem?_eq_getElem hpb]]

theorem alloc2_0 (w : World) (o1 o2 : Obj) : ((w.alloc o1).alloc o2).heap[w.heap.size]? = some o1 := by
  rw [Below.heap_alloc _ _ _ (by simp)]; exact alloc_get _ _
theorem alloc2_1 (w : World) (o1 o2 : Obj) : ((w.alloc o1).alloc o2).heap[w.heap.size + 1]? = some o2 := by
  have := alloc_get (w.alloc o1) o2
  simpa using this
end Go.Proofs.Ytdgglglemdbgcaa

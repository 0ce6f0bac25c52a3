import Derived.Test.YtmblloddhpcdeacW13
import Derived.Test.YtmblloddhpcdeacW8
import Derived.Deep.AppendLies
namespace Go.Proofs.Ytmblloddhpcdeac
open Go.RowKit

/-- the digits of a number, the lowest first -/
def mkT (n : Nat) : List UInt8 := (List.range 16).map (fun i => if n.testBit i then 49 else 48)
theorem mkT_len (n : Nat) : (mkT n).length = 16 := by simp [mkT]
theorem mkT_get (n k : Nat) (hk : k < 16) : (mkT n)[k]? = some (if n.testBit k then 49 else 48) := by
  simp [mkT, hk]
theorem mkT_good (n : Nat) : good (mkT n) = true := by
  unfold good
  rw [mkT_len]
  simp only [mkT, Bool.and_eq_true, List.all_eq_true]
  refine ⟨by decide, fun x hx => ?_⟩
  obtain ⟨i, _, rfl⟩ := List.mem_map.1 hx
  split <;> rfl
theorem i64_and1 (x : Nat) (hx : x < 9223372036854775808) : bits .and .i64 (x : Int) 1 = ((x % 2 : Nat) : Int) := by
  have h1 : (BitVec.ofInt 64 1).toNat = 1 := by decide
  show IntKind.i64.wrap ((BitVec.ofInt 64 (x : Int) &&& BitVec.ofInt 64 1).toNat : Int) = _
  rw [BitVec.toNat_and, ofInt_u64 x (by omega), h1, Nat.and_one_is_mod, IntKind.wrap_i64]
  omega
theorem dig_bits (n k : Nat) (hn : n < 65536) (b : Bool) (hb : n.testBit k = b) : bits .and .i64 ((n : Int) / 2 ^ k) 1 = if b = true then 1 else 0 := by
  have e : (n : Int) / 2 ^ k = ((n / 2 ^ k : Nat) : Int) := by simp
  have hle : n / 2 ^ k ≤ n := Nat.div_le_self _ _
  rw [e, i64_and1 _ (by omega), ← hb, Nat.testBit_eq_decide_div_mod_eq]
  by_cases h : n / 2 ^ k % 2 = 1
  · simp [h]
  · have h0 : n / 2 ^ k % 2 = 0 := by omega
    simp [h0]
theorem bel_appM {w wr w1 : World} {o : Obj} {base : Nat} {e : TypeId} {size : Nat} {v : Value} {n : Nat} {xs : List Value} (hB : Below w.heap.size w wr) (hown : wr.ownsRow base e size v n xs) (hg : (wr.alloc o).grownBy w1 v.ownBlock) (hb : w.heap.size ≤ base) : Below w.heap.size w w1 :=
  (belA hB o).grown hg (belA hB o).size (fun k h => Nat.le_trans hb (hown.lt k h).1)
theorem growM {W w' : World} {row : Option Nat} {b : Nat} {o : Obj} (hg : W.grownBy w' row) (h : W.heap[b]? = some o) (hne : some b ≠ row) : w'.heap[b]? = some o := (hg.block b (lt_of_get h) hne).trans h
theorem own_snocM {W : World} {B k : Nat} {v' : Value} {t : List UInt8} {x : UInt8} (hx : t[k]? = some x)
    (h : W.ownsRow B 5 1 v' (k + 1) (bys (t.take k) ++ [.int .u8 (x.toNat : Int)])) : W.ownsRow B 5 1 v' (k + 1) (bys (t.take (k + 1))) := by
  rw [List.take_add_one, hx]
  rw [bys_snoc] at h
  exact h

set_option maxHeartbeats 1000000 in
theorem marks_any (n : Nat) (w : World) (hn : n < 65536) : Calls Try.prog 33 #[.int .i64 (n : Int)] w fun e w' => e = .returned (cubeV (mkT n)) ∧ Below w.heap.size w w' := by
  obtain ⟨i0, hi, hz0, hz1, hz2⟩ := info_parts info_u8
  go_enter Try.func33, Try.ntmps33
  go_wp2
  go_loopw [3, 4] (fun v i wr => ∃ k : Nat, k ≤ 16 ∧ i = .int .i64 k ∧ wr.ownsRow (w.heap.size + 1) 5 1 v k (bys ((mkT n).take k)) ∧ wr.heap[w.heap.size]? = some (.cells #[.int .i64 0, .int .u64 0, .int .u64 0, .int .u64 0, .int .u64 0, .int .u64 0, .int .u64 0, .int .u64 0, .int .u64 0] 26 (0, 0)) ∧ Below w.heap.size w wr) (fun _ i _ => 16 - (intOf i).toNat)
  case atStart => exact ⟨0, by omega, rfl, World.ownsRow_nil _ _ _ _, alloc_get _ _, belA (Below.refl _ _) _⟩
  case round =>
    obtain ⟨k, hk, rfl, hown, hR, hB⟩ := hrel
    by_cases hlt : k < 16
    · have j1 : (k : Int) < 16 := by omega
      have j0 : (0 : Int) ≤ (k : Int) := by omega
      have hbt := dig_bits n k hn
      cases hbit : n.testBit k
      · have hv := hbt false hbit
        simp only [Bool.false_eq_true, if_false] at hv
        have Hl : Hid ((mkT n)[k]? = some 48) := by unfold Hid; rw [mkT_get n k hlt, hbit]; rfl
        clear hbt hbit
        go_wp2_with (at_builtin; refine wpList_append_own _ rfl _ _ 39 rfl (w.heap.size + 1) 5 i0 (.int .u8 0) 1 1 Try.underlying39 hi hz0 hz1 hz2 rfl (by decide) _ _ _ rfl (hown.alloc _) ⟨_, 0, none⟩ 1 1 [.int .u8 48] rfl rfl (cell_one_new _ _ _) (by simp [Value.oneCell']) (by unfold maxLen; omega) (by omega) (by have := lt_of_get hR; simp; omega) ?_; intro v' w1 hown' hgrow _)
        have B1 := bel_appM hB hown hgrow (by omega)
        have hR1 := growM hgrow (allocblk hR _) (fun e => by have := (hown.lt _ e.symm).1; omega)
        go_roundw
        case rel => exact ⟨k + 1, by omega, by go_num, own_snocM (x := 48) Hl.out hown', hR1, B1⟩
        case measure => simp [intOf]; omega
      · have hv := hbt true hbit
        simp only [if_true] at hv
        have Hl : Hid ((mkT n)[k]? = some 49) := by unfold Hid; rw [mkT_get n k hlt, hbit]; rfl
        clear hbt hbit
        go_wp2_with (at_builtin; refine wpList_append_own _ rfl _ _ 39 rfl (w.heap.size + 1) 5 i0 (.int .u8 0) 1 1 Try.underlying39 hi hz0 hz1 hz2 rfl (by decide) _ _ _ rfl (hown.alloc _) ⟨_, 0, none⟩ 1 1 [.int .u8 49] rfl rfl (cell_one_new _ _ _) (by simp [Value.oneCell']) (by unfold maxLen; omega) (by omega) (by have := lt_of_get hR; simp; omega) ?_; intro v' w1 hown' hgrow _)
        have B1 := bel_appM hB hown hgrow (by omega)
        have hR1 := growM hgrow (allocblk hR _) (fun e => by have := (hown.lt _ e.symm).1; omega)
        go_roundw
        case rel => exact ⟨k + 1, by omega, by go_num, own_snocM (x := 49) Hl.out hown', hR1, B1⟩
        case measure => simp [intOf]; omega
    · have hk16 : k = 16 := by omega
      have j1 : ¬ (k : Int) < 16 := by omega
      have hT : (mkT n).take k = mkT n := List.take_of_length_le (by rw [mkT_len]; omega)
      have hcv := conv_any wr (w.heap.size + 1) _ (mkT n) (by rw [mkT_len, ← hk16]; rw [hT] at hown; exact hown)
      obtain ⟨D, hD⟩ : ∃ D, mkT n = D := ⟨_, rfl⟩
      have gD : good D = true := by rw [← hD]; exact mkT_good n
      have HP : Hid (∀ W, Calls Try.prog 9 #[.string ⟨D.toArray⟩] W fun e w' => e = .returned (.tuple #[cubeV D, .int .i64 0]) ∧ Below W.heap.size W w') := by
        intro W
        have e : (⟨D.toArray⟩ : ByteArray).data.toList = D := by simp
        have hne : D ≠ [] := by intro h; have := mkT_len n; rw [hD, h] at this; simp at this
        have h0 : refP D = 0 := (refP_zero D).2 ⟨hne, gD⟩
        exact parse_D ⟨D.toArray⟩ W (by have := good_len gD; unfold maxLen; show D.toArray.size ≤ _; simp; omega) D 0 (by rw [e]; exact cubeT_self D h0) (by rw [e]; exact h0)
      have HD : Hid (mkT n = D) := hD
      rw [hD] at hcv
      clear hT hD hk16 hown
      have cR := (cells_block hR).1
      have fR := (cells_block hR).2
      go_wp2_with fail
      refine (HP.out _).mono ?_
      rintro e w2 ⟨rfl, hb2⟩
      replace hR := keepblk hb2 hR
      replace hB := bel0 hB hb2
      clear cR fR hb2
      unfold cubeV cv
      have kX := allocblk hR (.cells #[.int .i64 (D.length : Int), .int .u64 (FW D 0 : Int), .int .u64 (FW D 1 : Int), .int .u64 (FW D 2 : Int), .int .u64 (FW D 3 : Int), .int .u64 (OW D 0 : Int), .int .u64 (OW D 1 : Int), .int .u64 (OW D 2 : Int), .int .u64 (OW D 3 : Int)] 26)
      have cR := (cells_block kX).1
      have fR := (cells_block kX).2
      go_wp2_with fail
      refine bodyPost_ret (v := cubeV D) ?_ rfl ⟨by rw [HD.out], ?_⟩
      · exact res_cube1 _ _ w.heap.size _ _ _ _ _ _ _ _ _ Try.results33 rfl (put9_get _ _ _ _ _ _ _ _ _ kX)
      · exact put9_below _ _ _ _ _ _ _ _ _ (belA hB _) (Nat.le_refl _)
end Go.Proofs.Ytmblloddhpcdeac

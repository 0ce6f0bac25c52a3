import Derived.Test.YthodemljgffogaaGreatDoorXAA
import Derived.Test.YthodemljgffogaaGreatDoorRows
import Derived.WalkKit
import Derived.WalkSpells
import Derived.WalkLawsBesides
import Derived.Deep.QuietTactic
import Derived.BigQuiet
namespace Go.Proofs.YthodemljgffogaaGreatDoor

theorem andnot_bit (x y : Nat) (hy : y < 18446744073709551616) (i : Nat) : (x &&& (18446744073709551615 - y)).testBit i = (x.testBit i && (decide (i < 64) && !y.testBit i)) := by
  have h : 18446744073709551615 - y = 2 ^ 64 - (y + 1) := by omega
  rw [Nat.testBit_and, h, Nat.testBit_two_pow_sub_succ (by exact hy)]

/-- P1.8 -/
def wrT (c r : List UInt8) : List UInt8 := List.zipWith (fun x y => if y == 120 then x else y) c r
/-- P1.9 -/
def bfT (c r : List UInt8) : List UInt8 := List.zipWith (fun x y => if y == 120 then x else 120) c r

theorem zip_len (f : UInt8 → UInt8 → UInt8) (a b : List UInt8) (h : a.length = b.length) : (List.zipWith f a b).length = a.length := by simp; omega
theorem zip_get (f : UInt8 → UInt8 → UInt8) (a b : List UInt8) (h : a.length = b.length) (k : Nat) (hk : k < a.length) : (List.zipWith f a b)[k]? = some (f a[k] (b[k]'(by omega))) := by
  rw [List.getElem?_zipWith, List.getElem?_eq_getElem hk, List.getElem?_eq_getElem (show k < b.length by omega)]
theorem zip_out (f : UInt8 → UInt8 → UInt8) (a b : List UInt8) (h : a.length = b.length) (k : Nat) (hk : ¬ k < a.length) : (List.zipWith f a b)[k]? = none := by
  rw [List.getElem?_eq_none (by rw [zip_len f a b h]; omega)]

theorem fx_wr (a b : List UInt8) (h : a.length = b.length) (k : Nat) : fx (wrT a b) k = (fx a k || fx b k) := by
  by_cases hk : k < a.length
  · have hb : k < b.length := by omega
    simp only [fx, wrT, zip_get _ a b h k hk, List.getElem?_eq_getElem hk, List.getElem?_eq_getElem hb]
    generalize a[k] = x
    generalize b[k] = y
    by_cases e : y = 120 <;> simp [e]
  · simp only [fx, wrT, zip_out _ a b h k hk]
    rw [List.getElem?_eq_none (by omega), List.getElem?_eq_none (by omega)]; rfl
theorem on_wr (a b : List UInt8) (h : a.length = b.length) (k : Nat) : on (wrT a b) k = ((on a k && !fx b k) || on b k) := by
  by_cases hk : k < a.length
  · have hb : k < b.length := by omega
    simp only [fx, on, wrT, zip_get _ a b h k hk, List.getElem?_eq_getElem hk, List.getElem?_eq_getElem hb]
    generalize a[k] = x
    generalize b[k] = y
    by_cases e : y = 120
    · subst e; simp
    · simp [e]
  · simp only [fx, on, wrT, zip_out _ a b h k hk]
    rw [List.getElem?_eq_none (by omega), List.getElem?_eq_none (by omega)]; rfl
theorem fx_bf (a b : List UInt8) (h : a.length = b.length) (k : Nat) : fx (bfT a b) k = (fx a k && !fx b k) := by
  by_cases hk : k < a.length
  · have hb : k < b.length := by omega
    simp only [fx, bfT, zip_get _ a b h k hk, List.getElem?_eq_getElem hk, List.getElem?_eq_getElem hb]
    generalize a[k] = x
    generalize b[k] = y
    by_cases e : y = 120 <;> simp [e]
  · simp only [fx, bfT, zip_out _ a b h k hk]
    rw [List.getElem?_eq_none (by omega), List.getElem?_eq_none (by omega)]; rfl
theorem on_bf (a b : List UInt8) (h : a.length = b.length) (k : Nat) : on (bfT a b) k = (on a k && !fx b k) := by
  by_cases hk : k < a.length
  · have hb : k < b.length := by omega
    simp only [fx, on, bfT, zip_get _ a b h k hk, List.getElem?_eq_getElem hk, List.getElem?_eq_getElem hb]
    generalize a[k] = x
    generalize b[k] = y
    by_cases e : y = 120 <;> simp [e]
  · simp only [fx, on, bfT, zip_out _ a b h k hk]
    rw [List.getElem?_eq_none (by omega), List.getElem?_eq_none (by omega)]; rfl

theorem FW_wr (a b : List UInt8) (h : a.length = b.length) (w : Nat) : bits .or .u64 (FW a w : Int) (FW b w : Int) = (FW (wrT a b) w : Nat) := by
  rw [u64_or_nat _ _ (FW_lt _ _) (FW_lt _ _)]
  congr 1
  apply Nat.eq_of_testBit_eq
  intro i
  rw [Nat.testBit_or, FW_bit, FW_bit, FW_bit, fx_wr a b h]
  by_cases hi : i < 64 <;> simp [hi]
theorem OW_wr (a b : List UInt8) (h : a.length = b.length) (w : Nat) : bits .or .u64 (bits .andNot .u64 (OW a w : Int) (FW b w : Int)) (OW b w : Int) = (OW (wrT a b) w : Nat) := by
  rw [u64_andNot_nat _ _ (OW_lt _ _) (FW_lt _ _), u64_or_nat _ _ (and_lt _ (OW_lt _ _)) (OW_lt _ _)]
  congr 1
  apply Nat.eq_of_testBit_eq
  intro i
  rw [Nat.testBit_or, andnot_bit _ _ (FW_lt _ _), OW_bit, OW_bit, OW_bit, FW_bit, on_wr a b h]
  by_cases hi : i < 64 <;> simp [hi]
theorem FW_bf (a b : List UInt8) (h : a.length = b.length) (w : Nat) : bits .andNot .u64 (FW a w : Int) (FW b w : Int) = (FW (bfT a b) w : Nat) := by
  rw [u64_andNot_nat _ _ (FW_lt _ _) (FW_lt _ _)]
  congr 1
  apply Nat.eq_of_testBit_eq
  intro i
  rw [andnot_bit _ _ (FW_lt _ _), FW_bit, FW_bit, FW_bit, fx_bf a b h]
  by_cases hi : i < 64 <;> simp [hi]
theorem OW_bf (a b : List UInt8) (h : a.length = b.length) (w : Nat) : bits .andNot .u64 (OW a w : Int) (FW b w : Int) = (OW (bfT a b) w : Nat) := by
  rw [u64_andNot_nat _ _ (OW_lt _ _) (FW_lt _ _)]
  congr 1
  apply Nat.eq_of_testBit_eq
  intro i
  rw [andnot_bit _ _ (FW_lt _ _), OW_bit, OW_bit, FW_bit, on_bf a b h]
  by_cases hi : i < 64 <;> simp [hi]

/-- what Write answers -/
def wtT (c r : List UInt8) : List UInt8 := if fitB c r = true then wrT c r else []
/-- what Before answers -/
def beT (c r : List UInt8) : List UInt8 := if agB c r = true then bfT c r else []
theorem good_wtT (a b : List UInt8) (ha : good a = true) (hb : good b = true) : good (wtT a b) = true := by
  unfold wtT; split
  · exact good_zip _ a b ha hb (fun x y hx hy => by split <;> assumption)
  · exact good_nil
theorem good_beT (a b : List UInt8) (ha : good a = true) (hb : good b = true) : good (beT a b) = true := by
  unfold beT; split
  · exact good_zip _ a b ha hb (fun x y hx hy => by split <;> first | assumption | decide)
  · exact good_nil

theorem take_zip (f : UInt8 → UInt8 → UInt8) (a b : List UInt8) (h : a.length = b.length) (k : Nat) (hk : k < a.length) :
    (List.zipWith f a b).take (k + 1) = (List.zipWith f a b).take k ++ [f a[k] (b[k]'(by omega))] := by
  have hl : k < (List.zipWith f a b).length := by rw [zip_len f a b h]; exact hk
  rw [List.take_succ_eq_append_getElem hl]
  congr 2
  rw [List.getElem_zipWith]
theorem take_all (f : UInt8 → UInt8 → UInt8) (a b : List UInt8) (h : a.length = b.length) : (List.zipWith f a b).take a.length = List.zipWith f a b := by
  apply List.take_of_length_le
  rw [zip_len f a b h]; exact Nat.le_refl _

/-- conflict, by the bytes -/
theorem cfl_bytes (a b : List UInt8) (k : Nat) (ha : k < a.length) (hb : k < b.length) (ta : tri a[k] = true) (tb : tri b[k] = true) : cfl a b k = (!(a[k] == 120) && !(b[k] == 120) && !(a[k] == b[k])) := by
  simp only [cfl, fx, on, List.getElem?_eq_getElem ha, List.getElem?_eq_getElem hb]
  generalize a[k] = x at *
  generalize b[k] = y at *
  simp [tri] at ta tb
  rcases ta with (rfl | rfl) | rfl <;> rcases tb with (rfl | rfl) | rfl <;> rfl
theorem agB_conf (a b : List UInt8) (k : Nat) (hk : k < a.length) (h : cfl a b k = true) : agB a b = false := by
  unfold agB
  rw [allTo_false k hk (by rw [h]; rfl)]; simp
theorem agB_all (a b : List UInt8) (hf : fitB a b = true) (h : ∀ k, k < a.length → cfl a b k = false) : agB a b = true := by
  unfold agB
  rw [hf, Bool.true_and, allTo_iff]
  intro k hk; rw [h k hk]; rfl
theorem agB_nofit (a b : List UInt8) (hf : fitB a b = false) : agB a b = false := by unfold agB; rw [hf]; rfl
end Go.Proofs.YthodemljgffogaaGreatDoor
namespace Go.Proofs.YthodemljgffogaaGreatDoor

/-- the least cube that holds both -/
def huT (a b : List UInt8) : List UInt8 := List.zipWith (fun x y => if x == y then x else 120) a b

theorem huT_len (a b : List UInt8) (h : a.length = b.length) : (huT a b).length = a.length := by simp [huT]; omega
theorem huT_get (a b : List UInt8) (h : a.length = b.length) (k : Nat) (hk : k < a.length) : (huT a b)[k]? = some (if a[k] == b[k]'(by omega) then a[k] else 120) := by
  simp [huT, List.getElem?_zipWith, List.getElem?_eq_getElem hk, List.getElem?_eq_getElem (show k < b.length by omega)]
theorem good_huT (a b : List UInt8) (ha : good a = true) (hb : good b = true) : good (huT a b) = true :=
  good_zip _ a b ha hb (fun x y hx _ => by
    show tri (if (x == y) = true then x else 120) = true
    split
    · exact hx
    · decide)

theorem fx_hu (a b : List UInt8) (h : a.length = b.length) (ga : good a = true) (gb : good b = true) (k : Nat) : fx (huT a b) k = (fx a k && (fx b k && !(on a k ^^ on b k))) := by
  by_cases hk : k < a.length
  · have hb : k < b.length := by omega
    have ta := good_tri ga k hk
    have tb := good_tri gb k hb
    simp only [fx, on, huT_get a b h k hk, List.getElem?_eq_getElem hk, List.getElem?_eq_getElem hb]
    generalize a[k] = x at *
    generalize b[k] = y at *
    simp only [tri, Bool.or_eq_true, beq_iff_eq] at ta tb
    rcases ta with (rfl | rfl) | rfl <;> rcases tb with (rfl | rfl) | rfl <;> decide
  · simp only [fx, on]
    rw [List.getElem?_eq_none (by rw [huT_len a b h]; omega), List.getElem?_eq_none (show a.length ≤ k by omega), List.getElem?_eq_none (show b.length ≤ k by omega)]; rfl

theorem on_hu (a b : List UInt8) (h : a.length = b.length) (k : Nat) : on (huT a b) k = (on a k && fx (huT a b) k) := by
  by_cases hk : k < a.length
  · simp only [fx, on, huT_get a b h k hk, List.getElem?_eq_getElem hk]
    generalize a[k] = x
    generalize b[k]'(by omega) = y
    by_cases e : x = y
    · subst e
      by_cases e2 : x = 49 <;> simp [e2]
    · simp [e]
  · simp only [fx, on]
    rw [List.getElem?_eq_none (by rw [huT_len a b h]; omega), List.getElem?_eq_none (show a.length ≤ k by omega)]; rfl

theorem FW_hu (a b : List UInt8) (h : a.length = b.length) (ga : good a = true) (gb : good b = true) (w : Nat) :
    bits .and .u64 (FW a w : Int) (bits .andNot .u64 (FW b w : Int) (bits .xor .u64 (OW a w : Int) (OW b w : Int))) = (FW (huT a b) w : Nat) := by
  have hx : OW a w ^^^ OW b w < 18446744073709551616 := xor_lt (OW_lt _ _) (OW_lt _ _)
  rw [u64_xor_nat _ _ (OW_lt _ _) (OW_lt _ _), u64_andNot_nat _ _ (FW_lt _ _) hx, u64_and_nat _ _ (FW_lt _ _) (and_lt _ (FW_lt _ _))]
  congr 1
  apply Nat.eq_of_testBit_eq
  intro i
  rw [Nat.testBit_and, andnot_bit _ _ hx, Nat.testBit_xor, FW_bit, FW_bit, OW_bit, OW_bit, FW_bit, fx_hu a b h ga gb]
  by_cases hi : i < 64 <;> simp [hi]
theorem OW_hu (a b : List UInt8) (h : a.length = b.length) (w : Nat) : bits .and .u64 (OW a w : Int) (FW (huT a b) w : Int) = (OW (huT a b) w : Nat) := by
  rw [u64_and_nat _ _ (OW_lt _ _) (FW_lt _ _)]
  congr 1
  apply Nat.eq_of_testBit_eq
  intro i
  rw [Nat.testBit_and, OW_bit, FW_bit, OW_bit, on_hu a b h]
  by_cases hi : i < 64 <;> simp [hi]
end Go.Proofs.YthodemljgffogaaGreatDoor
namespace Go.Proofs.YthodemljgffogaaGreatDoor
open Go.RowKit

/-- the value of a cube: its width, the four words of its fixed places, the four words of its ones -/
def cv (n a b c d e f g h : Int) : Value := .agg #[.int .i64 n, .int .u64 a, .int .u64 b, .int .u64 c, .int .u64 d, .int .u64 e, .int .u64 f, .int .u64 g, .int .u64 h]

theorem bcell {W w1 : World} (hb : Below W.heap.size W w1) : (∀ b o, b < W.heap.size → w1.cell? ⟨b, o, none⟩ = W.cell? ⟨b, o, none⟩) ∧ (∀ b o, b < W.heap.size → w1.frozen? ⟨b, o, none⟩ = W.frozen? ⟨b, o, none⟩) :=
  ⟨fun b o h => hb.cell (p := ⟨b, o, none⟩) h, fun b o h => hb.frozen (p := ⟨b, o, none⟩) h⟩

theorem below_drewN (B n : Nat) (w : World) : Below B w (w.drewN n) := by
  induction n with
  | zero => exact Below.refl _ _
  | succ n ih => exact ⟨ih.os, ih.tape, ih.output, ih.size, ih.block⟩

set_option maxHeartbeats 400000 in
theorem all_yes (n : Int) (w : World) (h1 : 1 ≤ n) (h2 : n ≤ 256) :
    Calls Tryz.prog 39 #[.int .i64 n] w fun e w' => e = .returned (cv n 0 0 0 0 0 0 0 0) ∧ Below w.heap.size w w' := by
  go_enter Tryz.func39, Tryz.ntmps39
  go_wp2
  exact bodyPost_ret (v := cv n 0 0 0 0 0 0 0 0) (by simp [results, Tryz.results39, go_sem, cv]) rfl ⟨rfl, (Below.refl _ _).alloc (Nat.le_refl _) _⟩

set_option maxHeartbeats 400000 in
theorem all_no (n : Int) (w : World) (h : n < 1 ∨ 256 < n) :
    Calls Tryz.prog 39 #[.int .i64 n] w fun e w' => e = .returned (cv 0 0 0 0 0 0 0 0 0) ∧ Below w.heap.size w w' := by
  rcases h with h | h
  · go_enter Tryz.func39, Tryz.ntmps39
    go_wp2
    exact bodyPost_ret (v := cv 0 0 0 0 0 0 0 0 0) (by simp [results, Tryz.results39, go_sem, cv]) rfl ⟨rfl, (Below.refl _ _).alloc (Nat.le_refl _) _⟩
  · have h' : ¬ n < 1 := by omega
    go_enter Tryz.func39, Tryz.ntmps39
    go_wp2
    exact bodyPost_ret (v := cv 0 0 0 0 0 0 0 0 0) (by simp [results, Tryz.results39, go_sem, cv]) rfl ⟨rfl, (Below.refl _ _).alloc (Nat.le_refl _) _⟩

theorem wrap_pow (r : Nat) (h : r < 64) : IntKind.u64.wrap ((2 : Int) ^ r) = ((2 ^ r : Nat) : Int) := by
  rw [IntKind.wrap_u64]
  have h1 : 2 ^ r < 2 ^ 64 := Nat.pow_lt_pow_right (by omega) h
  have h2 : ((2 : Int) ^ r) = ((2 ^ r : Nat) : Int) := by simp
  rw [h2]; generalize 2 ^ r = x at h1 ⊢; omega

set_option maxHeartbeats 400000 in
theorem spot_raw (p : Int) (w : World) (h1 : 0 ≤ p) (h2 : p < 256) :
    Calls Tryz.prog 105 #[.int .i64 p] w fun e w' => e = .returned (.tuple #[.int .i64 (p / 64), .int .u64 ((2 ^ (p % 64).toNat : Nat) : Int)]) ∧ ∃ n, w' = w.drewN n := by
  have hm : 0 ≤ p % 64 ∧ p % 64 < 64 := by omega
  go_enter Tryz.func105, Tryz.ntmps105
  go_wp2
  go_quiet (fail)
  go_wp2
  go_ret2
  exact ⟨by rw [wrap_pow _ (by omega)]; rfl, _, rfl⟩

theorem spot_at (p : Int) (k r : Nat) (w : World) (hk : k < 4) (hr : r < 64) (hp : p = ((64 * k + r : Nat) : Int)) :
    Calls Tryz.prog 105 #[.int .i64 p] w fun e w' => e = .returned (.tuple #[.int .i64 k, .int .u64 ((2 ^ r : Nat) : Int)]) ∧ ∃ n, w' = w.drewN n := by
  refine (spot_raw p w (by omega) (by omega)).mono ?_
  rintro e w' ⟨rfl, h⟩
  have e1 : p / 64 = (k : Int) := by omega
  have e2 : (p % 64).toNat = r := by omega
  rw [e1, e2]
  exact ⟨rfl, h⟩

set_option maxHeartbeats 400000 in
theorem at_0 (n a b c d e f g h p : Int) (r : Nat) (w : World) (hr : r < 64) (hp : p = ((64 * 0 + r : Nat) : Int)) :
    Calls Tryz.prog 83 #[cv n a b c d e f g h, .int .i64 p] w fun e' w' => e' = .returned (.int .u8 (if (bits .and .u64 a ((2 ^ r : Nat) : Int) == 0) = true then 120 else if (bits .and .u64 e ((2 ^ r : Nat) : Int) == 0) = true then 48 else 49)) ∧ Below w.heap.size w w' := by
  have HP : Hid (p = ((64 * 0 + r : Nat) : Int)) := hp
  clear hp
  unfold cv
  generalize hX : (2 ^ r : Nat) = X
  have HX : Hid ((2 ^ r : Nat) = X) := hX
  clear hX
  go_enter Tryz.func83, Tryz.ntmps83
  go_wp2_with (go_at_call 105; refine (spot_at p 0 r _ (by decide) hr HP.out).mono ?_; rintro e w' ⟨rfl, nq, rfl⟩; rw [HX.out])
  all_goals go_ret
  all_goals exact ⟨by simp_all, ((Below.refl _ _).alloc (Nat.le_refl _) _).trans (below_drewN _ _ _)⟩

set_option maxHeartbeats 400000 in
theorem at_1 (n a b c d e f g h p : Int) (r : Nat) (w : World) (hr : r < 64) (hp : p = ((64 * 1 + r : Nat) : Int)) :
    Calls Tryz.prog 83 #[cv n a b c d e f g h, .int .i64 p] w fun e' w' => e' = .returned (.int .u8 (if (bits .and .u64 b ((2 ^ r : Nat) : Int) == 0) = true then 120 else if (bits .and .u64 f ((2 ^ r : Nat) : Int) == 0) = true then 48 else 49)) ∧ Below w.heap.size w w' := by
  have HP : Hid (p = ((64 * 1 + r : Nat) : Int)) := hp
  clear hp
  unfold cv
  generalize hX : (2 ^ r : Nat) = X
  have HX : Hid ((2 ^ r : Nat) = X) := hX
  clear hX
  go_enter Tryz.func83, Tryz.ntmps83
  go_wp2_with (go_at_call 105; refine (spot_at p 1 r _ (by decide) hr HP.out).mono ?_; rintro e w' ⟨rfl, nq, rfl⟩; rw [HX.out])
  all_goals go_ret
  all_goals exact ⟨by simp_all, ((Below.refl _ _).alloc (Nat.le_refl _) _).trans (below_drewN _ _ _)⟩

set_option maxHeartbeats 400000 in
theorem at_2 (n a b c d e f g h p : Int) (r : Nat) (w : World) (hr : r < 64) (hp : p = ((64 * 2 + r : Nat) : Int)) :
    Calls Tryz.prog 83 #[cv n a b c d e f g h, .int .i64 p] w fun e' w' => e' = .returned (.int .u8 (if (bits .and .u64 c ((2 ^ r : Nat) : Int) == 0) = true then 120 else if (bits .and .u64 g ((2 ^ r : Nat) : Int) == 0) = true then 48 else 49)) ∧ Below w.heap.size w w' := by
  have HP : Hid (p = ((64 * 2 + r : Nat) : Int)) := hp
  clear hp
  unfold cv
  generalize hX : (2 ^ r : Nat) = X
  have HX : Hid ((2 ^ r : Nat) = X) := hX
  clear hX
  go_enter Tryz.func83, Tryz.ntmps83
  go_wp2_with (go_at_call 105; refine (spot_at p 2 r _ (by decide) hr HP.out).mono ?_; rintro e w' ⟨rfl, nq, rfl⟩; rw [HX.out])
  all_goals go_ret
  all_goals exact ⟨by simp_all, ((Below.refl _ _).alloc (Nat.le_refl _) _).trans (below_drewN _ _ _)⟩

set_option maxHeartbeats 400000 in
theorem at_3 (n a b c d e f g h p : Int) (r : Nat) (w : World) (hr : r < 64) (hp : p = ((64 * 3 + r : Nat) : Int)) :
    Calls Tryz.prog 83 #[cv n a b c d e f g h, .int .i64 p] w fun e' w' => e' = .returned (.int .u8 (if (bits .and .u64 d ((2 ^ r : Nat) : Int) == 0) = true then 120 else if (bits .and .u64 h ((2 ^ r : Nat) : Int) == 0) = true then 48 else 49)) ∧ Below w.heap.size w w' := by
  have HP : Hid (p = ((64 * 3 + r : Nat) : Int)) := hp
  clear hp
  unfold cv
  generalize hX : (2 ^ r : Nat) = X
  have HX : Hid ((2 ^ r : Nat) = X) := hX
  clear hX
  go_enter Tryz.func83, Tryz.ntmps83
  go_wp2_with (go_at_call 105; refine (spot_at p 3 r _ (by decide) hr HP.out).mono ?_; rintro e w' ⟨rfl, nq, rfl⟩; rw [HX.out])
  all_goals go_ret
  all_goals exact ⟨by simp_all, ((Below.refl _ _).alloc (Nat.le_refl _) _).trans (below_drewN _ _ _)⟩
end Go.Proofs.YthodemljgffogaaGreatDoor
namespace Go.Proofs.YthodemljgffogaaGreatDoor
open Go.RowKit

/-- the value of the cube of a text -/
def cubeV (t : List UInt8) : Value := cv t.length (FW t 0) (FW t 1) (FW t 2) (FW t 3) (OW t 0) (OW t 1) (OW t 2) (OW t 3)

theorem cubeV_all (n : Nat) : cubeV (List.replicate n 120) = cv n 0 0 0 0 0 0 0 0 := by
  unfold cubeV; simp only [FW_all, OW_all, List.length_replicate]; rfl

theorem all_any (n : Int) (w : World) : Calls Tryz.prog 39 #[.int .i64 n] w fun e w' => e = .returned (cubeV (if 1 ≤ n ∧ n ≤ 256 then List.replicate n.toNat 120 else [])) ∧ Below w.heap.size w w' := by
  by_cases h : 1 ≤ n ∧ n ≤ 256
  · rw [if_pos h]
    refine (all_yes n w h.1 h.2).mono ?_
    rintro e w' ⟨rfl, hb⟩
    refine ⟨?_, hb⟩
    rw [cubeV_all]
    have : ((n.toNat : Nat) : Int) = n := by omega
    rw [this]
  · rw [if_neg h]
    refine (all_no n w (by omega)).mono ?_
    rintro e w' ⟨rfl, hb⟩
    refine ⟨?_, hb⟩
    have := cubeV_all 0
    rw [List.replicate_zero] at this
    rw [this]; rfl

theorem at_any (t : List UInt8) (p : Int) (q : Nat) (w : World) (hg : good t = true) (hp : p = (q : Int)) (hq : q < t.length) :
    Calls Tryz.prog 83 #[cubeV t, .int .i64 p] w fun e w' => e = .returned (.int .u8 (t[q].toNat : Int)) ∧ Below w.heap.size w w' := by
  have hl := good_len hg
  have ht := good_tri hg q hq
  have hkr : ∃ k r, k < 4 ∧ r < 64 ∧ q = 64 * k + r := ⟨q / 64, q % 64, by omega, by omega, by omega⟩
  obtain ⟨k, r, hk, hr, rfl⟩ := hkr
  have e := at_eq t (64 * k + r) hq ht
  rw [← FW_at t k r hr, ← OW_at t k r hr] at e
  match k, hk with
  | 0, _ =>
    refine (at_0 _ _ _ _ _ _ _ _ _ p r w hr hp).mono ?_
    rintro e' w' ⟨rfl, hb⟩
    exact ⟨by rw [e], hb⟩
  | 1, _ =>
    refine (at_1 _ _ _ _ _ _ _ _ _ p r w hr hp).mono ?_
    rintro e' w' ⟨rfl, hb⟩
    exact ⟨by rw [e], hb⟩
  | 2, _ =>
    refine (at_2 _ _ _ _ _ _ _ _ _ p r w hr hp).mono ?_
    rintro e' w' ⟨rfl, hb⟩
    exact ⟨by rw [e], hb⟩
  | 3, _ =>
    refine (at_3 _ _ _ _ _ _ _ _ _ p r w hr hp).mono ?_
    rintro e' w' ⟨rfl, hb⟩
    exact ⟨by rw [e], hb⟩
end Go.Proofs.YthodemljgffogaaGreatDoor

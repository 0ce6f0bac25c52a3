import Derived.Test.YtnboehlbcjfndaaGreatDoorRows
import Derived.WalkKit
import Derived.WalkSpells
import Derived.WalkLawsBesides
import Derived.Deep.QuietTactic
import Derived.BigQuiet
import Derived.Test.YtnboehlbcjfndaaGreatDoorChecked
import Derived.Below
import Derived.OwnWalk
import Derived.Lib.TrailingZeros
import Derived.Lib.BitFns
import Derived.Lib.IndexLaws
import Derived.Deep.DeepCutAuto
import Derived.Deep.RegionWith
import Derived.Laws.ShiftsVar
import Derived.Laws.ShiftsVarLaws
import Derived.Laws.BitsAllLaws
import Derived.Lib.ConvBytes
import Derived.Laws.IdiomStrings
import Derived.Laws.Rows
import Derived.Shelf.Strings.Repeat
import Derived.Shelf.Small.Bits
import Derived.Ground.NamesProg
import Derived.Test.YtnboehlbcjfndaaGreatDoorProg
import Derived.Shelf.Spec.TrailingZeros
import Derived.Shelf.Lays7
import Derived.Laws.OwnMore
import Derived.Deep.AppendLies
import Derived.Lib.DecodeN
import Derived.Lib.MapLaws
namespace Go.Proofs.YtnboehlbcjfndaaGreatDoor
open Go.RowKit

def cv (n a b c d e f g h : Int) : Value := .agg #[.int .i64 n, .int .u64 a, .int .u64 b, .int .u64 c, .int .u64 d, .int .u64 e, .int .u64 f, .int .u64 g, .int .u64 h]

theorem bcell {W w1 : World} (hb : Below W.heap.size W w1) : (∀ b o, b < W.heap.size → w1.cell? ⟨b, o, none⟩ = W.cell? ⟨b, o, none⟩) ∧ (∀ b o, b < W.heap.size → w1.frozen? ⟨b, o, none⟩ = W.frozen? ⟨b, o, none⟩) :=
  ⟨fun b o h => hb.cell (p := ⟨b, o, none⟩) h, fun b o h => hb.frozen (p := ⟨b, o, none⟩) h⟩

theorem below_drewN (B n : Nat) (w : World) : Below B w (w.drewN n) := by
  induction n with
  | zero => exact Below.refl _ _
  | succ n ih => exact ⟨ih.os, ih.tape, ih.output, ih.size, ih.block⟩

set_option maxHeartbeats 400000 in
theorem all_yes (n : Int) (w : World) (h1 : 1 ≤ n) (h2 : n ≤ 256) :
    Calls Tryz.prog 59 #[.int .i64 n] w fun e w' => e = .returned (cv n 0 0 0 0 0 0 0 0) ∧ Below w.heap.size w w' := by
  go_enter Tryz.func59, Tryz.ntmps59
  go_wp2
  exact bodyPost_ret (v := cv n 0 0 0 0 0 0 0 0) (by simp [results, Tryz.results59, go_sem, cv]) rfl ⟨rfl, (Below.refl _ _).alloc (Nat.le_refl _) _⟩

set_option maxHeartbeats 400000 in
theorem all_no (n : Int) (w : World) (h : n < 1 ∨ 256 < n) :
    Calls Tryz.prog 59 #[.int .i64 n] w fun e w' => e = .returned (cv 0 0 0 0 0 0 0 0 0) ∧ Below w.heap.size w w' := by
  rcases h with h | h
  · go_enter Tryz.func59, Tryz.ntmps59
    go_wp2
    exact bodyPost_ret (v := cv 0 0 0 0 0 0 0 0 0) (by simp [results, Tryz.results59, go_sem, cv]) rfl ⟨rfl, (Below.refl _ _).alloc (Nat.le_refl _) _⟩
  · have h' : ¬ n < 1 := by omega
    go_enter Tryz.func59, Tryz.ntmps59
    go_wp2
    exact bodyPost_ret (v := cv 0 0 0 0 0 0 0 0 0) (by simp [results, Tryz.results59, go_sem, cv]) rfl ⟨rfl, (Below.refl _ _).alloc (Nat.le_refl _) _⟩

theorem wrap_pow (r : Nat) (h : r < 64) : IntKind.u64.wrap ((2 : Int) ^ r) = ((2 ^ r : Nat) : Int) := by
  rw [IntKind.wrap_u64]
  have h1 : 2 ^ r < 2 ^ 64 := Nat.pow_lt_pow_right (by omega) h
  have h2 : ((2 : Int) ^ r) = ((2 ^ r : Nat) : Int) := by simp
  rw [h2]; generalize 2 ^ r = x at h1 ⊢; omega

set_option maxHeartbeats 400000 in
theorem spot_raw (p : Int) (w : World) (h1 : 0 ≤ p) (h2 : p < 256) :
    Calls Tryz.prog 110 #[.int .i64 p] w fun e w' => e = .returned (.tuple #[.int .i64 (p / 64), .int .u64 ((2 ^ (p % 64).toNat : Nat) : Int)]) ∧ ∃ n, w' = w.drewN n := by
  have hm : 0 ≤ p % 64 ∧ p % 64 < 64 := by omega
  go_enter Tryz.func110, Tryz.ntmps110
  go_wp2
  go_quiet (fail)
  go_wp2
  go_ret2
  exact ⟨by rw [wrap_pow _ (by omega)]; rfl, _, rfl⟩

theorem spot_at (p : Int) (k r : Nat) (w : World) (hk : k < 4) (hr : r < 64) (hp : p = ((64 * k + r : Nat) : Int)) :
    Calls Tryz.prog 110 #[.int .i64 p] w fun e w' => e = .returned (.tuple #[.int .i64 k, .int .u64 ((2 ^ r : Nat) : Int)]) ∧ ∃ n, w' = w.drewN n := by
  refine (spot_raw p w (by omega) (by omega)).mono ?_
  rintro e w' ⟨rfl, h⟩
  have e1 : p / 64 = (k : Int) := by omega
  have e2 : (p % 64).toNat = r := by omega
  rw [e1, e2]
  exact ⟨rfl, h⟩

set_option maxHeartbeats 400000 in
theorem fix_0 (n a b c d e f g h bit ds : Int) (w : World) :
    Calls Tryz.prog 116 #[cv n a b c d e f g h, .int .i64 0, .int .u64 bit, .int .u64 ds] w fun e' w' => e' = .returned (cv n (bits .or .u64 a bit) b c d (bits .or .u64 e (bits .and .u64 bit ds)) f g h) ∧ Below w.heap.size w w' := by
  unfold cv
  go_enter Tryz.func116, Tryz.ntmps116
  go_wp2
  exact bodyPost_ret (v := cv n (bits .or .u64 a bit) b c d (bits .or .u64 e (bits .and .u64 bit ds)) f g h) (by simp [results, Tryz.results116, go_sem, cv]) rfl ⟨rfl, ((Below.refl _ _).alloc (Nat.le_refl _) _).alloc (by simp) _⟩

set_option maxHeartbeats 400000 in
theorem at_0 (n a b c d e f g h p : Int) (r : Nat) (w : World) (hr : r < 64) (hp : p = ((64 * 0 + r : Nat) : Int)) :
    Calls Tryz.prog 94 #[cv n a b c d e f g h, .int .i64 p] w fun e' w' => e' = .returned (.int .u8 (if (bits .and .u64 a ((2 ^ r : Nat) : Int) == 0) = true then 120 else if (bits .and .u64 e ((2 ^ r : Nat) : Int) == 0) = true then 48 else 49)) ∧ Below w.heap.size w w' := by
  have HP : Hid (p = ((64 * 0 + r : Nat) : Int)) := hp
  clear hp
  unfold cv
  generalize hX : (2 ^ r : Nat) = X
  have HX : Hid ((2 ^ r : Nat) = X) := hX
  clear hX
  go_enter Tryz.func94, Tryz.ntmps94
  go_wp2_with (go_at_call 110; refine (spot_at p 0 r _ (by decide) hr HP.out).mono ?_; rintro e w' ⟨rfl, nq, rfl⟩; rw [HX.out])
  all_goals go_ret
  all_goals exact ⟨by simp_all, ((Below.refl _ _).alloc (Nat.le_refl _) _).trans (below_drewN _ _ _)⟩

set_option maxHeartbeats 400000 in
theorem fix_1 (n a b c d e f g h bit ds : Int) (w : World) :
    Calls Tryz.prog 116 #[cv n a b c d e f g h, .int .i64 1, .int .u64 bit, .int .u64 ds] w fun e' w' => e' = .returned (cv n a (bits .or .u64 b bit) c d e (bits .or .u64 f (bits .and .u64 bit ds)) g h) ∧ Below w.heap.size w w' := by
  unfold cv
  go_enter Tryz.func116, Tryz.ntmps116
  go_wp2
  exact bodyPost_ret (v := cv n a (bits .or .u64 b bit) c d e (bits .or .u64 f (bits .and .u64 bit ds)) g h) (by simp [results, Tryz.results116, go_sem, cv]) rfl ⟨rfl, ((Below.refl _ _).alloc (Nat.le_refl _) _).alloc (by simp) _⟩

set_option maxHeartbeats 400000 in
theorem at_1 (n a b c d e f g h p : Int) (r : Nat) (w : World) (hr : r < 64) (hp : p = ((64 * 1 + r : Nat) : Int)) :
    Calls Tryz.prog 94 #[cv n a b c d e f g h, .int .i64 p] w fun e' w' => e' = .returned (.int .u8 (if (bits .and .u64 b ((2 ^ r : Nat) : Int) == 0) = true then 120 else if (bits .and .u64 f ((2 ^ r : Nat) : Int) == 0) = true then 48 else 49)) ∧ Below w.heap.size w w' := by
  have HP : Hid (p = ((64 * 1 + r : Nat) : Int)) := hp
  clear hp
  unfold cv
  generalize hX : (2 ^ r : Nat) = X
  have HX : Hid ((2 ^ r : Nat) = X) := hX
  clear hX
  go_enter Tryz.func94, Tryz.ntmps94
  go_wp2_with (go_at_call 110; refine (spot_at p 1 r _ (by decide) hr HP.out).mono ?_; rintro e w' ⟨rfl, nq, rfl⟩; rw [HX.out])
  all_goals go_ret
  all_goals exact ⟨by simp_all, ((Below.refl _ _).alloc (Nat.le_refl _) _).trans (below_drewN _ _ _)⟩

set_option maxHeartbeats 400000 in
theorem fix_2 (n a b c d e f g h bit ds : Int) (w : World) :
    Calls Tryz.prog 116 #[cv n a b c d e f g h, .int .i64 2, .int .u64 bit, .int .u64 ds] w fun e' w' => e' = .returned (cv n a b (bits .or .u64 c bit) d e f (bits .or .u64 g (bits .and .u64 bit ds)) h) ∧ Below w.heap.size w w' := by
  unfold cv
  go_enter Tryz.func116, Tryz.ntmps116
  go_wp2
  exact bodyPost_ret (v := cv n a b (bits .or .u64 c bit) d e f (bits .or .u64 g (bits .and .u64 bit ds)) h) (by simp [results, Tryz.results116, go_sem, cv]) rfl ⟨rfl, ((Below.refl _ _).alloc (Nat.le_refl _) _).alloc (by simp) _⟩

set_option maxHeartbeats 400000 in
theorem at_2 (n a b c d e f g h p : Int) (r : Nat) (w : World) (hr : r < 64) (hp : p = ((64 * 2 + r : Nat) : Int)) :
    Calls Tryz.prog 94 #[cv n a b c d e f g h, .int .i64 p] w fun e' w' => e' = .returned (.int .u8 (if (bits .and .u64 c ((2 ^ r : Nat) : Int) == 0) = true then 120 else if (bits .and .u64 g ((2 ^ r : Nat) : Int) == 0) = true then 48 else 49)) ∧ Below w.heap.size w w' := by
  have HP : Hid (p = ((64 * 2 + r : Nat) : Int)) := hp
  clear hp
  unfold cv
  generalize hX : (2 ^ r : Nat) = X
  have HX : Hid ((2 ^ r : Nat) = X) := hX
  clear hX
  go_enter Tryz.func94, Tryz.ntmps94
  go_wp2_with (go_at_call 110; refine (spot_at p 2 r _ (by decide) hr HP.out).mono ?_; rintro e w' ⟨rfl, nq, rfl⟩; rw [HX.out])
  all_goals go_ret
  all_goals exact ⟨by simp_all, ((Below.refl _ _).alloc (Nat.le_refl _) _).trans (below_drewN _ _ _)⟩

set_option maxHeartbeats 400000 in
theorem fix_3 (n a b c d e f g h bit ds : Int) (w : World) :
    Calls Tryz.prog 116 #[cv n a b c d e f g h, .int .i64 3, .int .u64 bit, .int .u64 ds] w fun e' w' => e' = .returned (cv n a b c (bits .or .u64 d bit) e f g (bits .or .u64 h (bits .and .u64 bit ds))) ∧ Below w.heap.size w w' := by
  unfold cv
  go_enter Tryz.func116, Tryz.ntmps116
  go_wp2
  exact bodyPost_ret (v := cv n a b c (bits .or .u64 d bit) e f g (bits .or .u64 h (bits .and .u64 bit ds))) (by simp [results, Tryz.results116, go_sem, cv]) rfl ⟨rfl, ((Below.refl _ _).alloc (Nat.le_refl _) _).alloc (by simp) _⟩

set_option maxHeartbeats 400000 in
theorem at_3 (n a b c d e f g h p : Int) (r : Nat) (w : World) (hr : r < 64) (hp : p = ((64 * 3 + r : Nat) : Int)) :
    Calls Tryz.prog 94 #[cv n a b c d e f g h, .int .i64 p] w fun e' w' => e' = .returned (.int .u8 (if (bits .and .u64 d ((2 ^ r : Nat) : Int) == 0) = true then 120 else if (bits .and .u64 h ((2 ^ r : Nat) : Int) == 0) = true then 48 else 49)) ∧ Below w.heap.size w w' := by
  have HP : Hid (p = ((64 * 3 + r : Nat) : Int)) := hp
  clear hp
  unfold cv
  generalize hX : (2 ^ r : Nat) = X
  have HX : Hid ((2 ^ r : Nat) = X) := hX
  clear hX
  go_enter Tryz.func94, Tryz.ntmps94
  go_wp2_with (go_at_call 110; refine (spot_at p 3 r _ (by decide) hr HP.out).mono ?_; rintro e w' ⟨rfl, nq, rfl⟩; rw [HX.out])
  all_goals go_ret
  all_goals exact ⟨by simp_all, ((Below.refl _ _).alloc (Nat.le_refl _) _).trans (below_drewN _ _ _)⟩
end Go.Proofs.YtnboehlbcjfndaaGreatDoor
namespace Go.Proofs.YtnboehlbcjfndaaGreatDoor
open Go.RowKit
/-! The fewest prefixes of a range: the greedy list is that of the halves. -/
theorem bitLen_spec (n : Nat) : 0 < n → n < 2 ^ 64 → 2 ^ Lib.bitLen n ≤ 2 * n ∧ n < 2 ^ Lib.bitLen n := by
  induction n using Nat.strongRecOn with
  | ind n ih =>
  intro h0 h
  rw [Lib.bitLen_half n (by omega) h]
  by_cases h1 : n = 1
  · subst h1
    decide
  · obtain ⟨a, b⟩ := ih (n / 2) (by omega) (by omega) (by omega)
    rw [Nat.add_comm 1, Nat.pow_succ]
    omega
abbrev cz (a : Nat) : Nat := Lib.ctz 64 a
abbrev lg (n : Nat) : Nat := Lib.bitLen n - 1
theorem lg_pow {n : Nat} (h0 : 0 < n) (h : n < 2 ^ 64) : 2 ^ lg n ≤ n := by
  obtain ⟨a, b⟩ := bitLen_spec n h0 h
  have h1 : Lib.bitLen n ≠ 0 := fun e => by rw [e] at b; simp at b; omega
  obtain ⟨m, hm⟩ : ∃ m, Lib.bitLen n = m + 1 := ⟨Lib.bitLen n - 1, by omega⟩
  show 2 ^ (Lib.bitLen n - 1) ≤ n
  rw [hm, Nat.pow_succ] at a
  rw [hm]
  simp only [Nat.add_sub_cancel]
  omega
def fre (a e : Nat) : Nat := min (cz a) (lg (e - a + 1))
theorem fre_le {a e : Nat} (h : a ≤ e) (he : e < 2 ^ 63) : 2 ^ fre a e ≤ e - a + 1 :=
  Nat.le_trans (Nat.pow_le_pow_right (by decide) (Nat.min_le_right _ _)) (lg_pow (by omega) (by omega))
def gr (a e : Nat) : List (Nat × Nat) := if a ≤ e then (a, fre a e) :: gr (a + 2 ^ fre a e) e else []
termination_by e + 1 - a
decreasing_by
  have : 0 < 2 ^ fre a e := Nat.pow_pos (by decide)
  omega
theorem gr_le {a e : Nat} (h : a ≤ e) : gr a e = (a, fre a e) :: gr (a + 2 ^ fre a e) e := by rw [gr, if_pos h]
theorem gr_end {a e : Nat} (h : ¬ a ≤ e) : gr a e = [] := by rw [gr, if_neg h]
def hv : Nat → Nat → Nat → Nat → List (Nat × Nat)
  | 0, b, lo, hi => if lo ≤ b ∧ b + 2 ^ 0 - 1 ≤ hi then [(b, 0)] else []
  | w + 1, b, lo, hi => if lo ≤ b ∧ b + 2 ^ (w + 1) - 1 ≤ hi then [(b, w + 1)] else if hi < b ∨ b + 2 ^ (w + 1) - 1 < lo then [] else hv w b lo hi ++ hv w (b + 2 ^ w) lo hi
end Go.Proofs.YtnboehlbcjfndaaGreatDoor
namespace Go.Proofs.YtnboehlbcjfndaaGreatDoor
open Go.RowKit
theorem quiet_lit3 {P : Program} {id : Nat} {Q : Exit → Act → World → Prop} {a : Act} {w : World} {l : List Oper} {C : World → Prop} (hm : P.follows .mixedOrders = true) (hB : Region.lexB .any l.toArray = true) (hC : C w.drew)
    (h : wpQuiet P l.toArray C (fun a' => ∀ w', C w' → Q .normal a' w') l a) : (Code.region id l.toArray true).wp P Q a w :=
  wp_region_quiet (C := C) hm hB hC (by simpa using h)

theorem alloc_get (w : World) (o : Obj) : (w.alloc o).heap[w.heap.size]? = some o := by
  show (w.heap.push o)[w.heap.size]? = _
  simp

theorem lt_of_get {w : World} {b : Nat} {o : Obj} (h : w.heap[b]? = some o) : b < w.heap.size := by
  rcases Nat.lt_or_ge b w.heap.size with h1 | h1
  · exact h1
  · rw [Array.getElem?_eq_none h1] at h; cases h

theorem grown_of_below {w w' : World} (h : Below w.heap.size w w') (row : Option Nat) : w.grownBy w' row :=
  ⟨h.os, h.tape, h.output, h.size, fun k hk _ => h.block k hk⟩

theorem owns_below {w w' : World} {base : Nat} {e : TypeId} {size : Nat} {v : Value} {n : Nat} {xs : List Value} (h : w.ownsRow base e size v n xs) (hb : Below w.heap.size w w') : w'.ownsRow base e size v n xs := by
  refine h.kept (grown_of_below hb none) ?_
  cases v.ownBlock <;> simp

theorem bel1 {w w1 : World} {o : Obj} (h : Below (w.alloc o).heap.size (w.alloc o) w1) : Below w.heap.size w w1 :=
  ((Below.refl _ _).alloc (Nat.le_refl _) _).trans (h.mono (by simp))
theorem bel0 {w w1 w2 : World} (h : Below w.heap.size w w1) (h2 : Below w1.heap.size w1 w2) : Below w.heap.size w w2 := h.trans (h2.mono h.size)
theorem keepblk {W w' : World} {b : Nat} {o : Obj} (hb : Below W.heap.size W w') (h : W.heap[b]? = some o) : w'.heap[b]? = some o := (hb.block b (lt_of_get h)).trans h
theorem allocblk {W : World} {b : Nat} {o : Obj} (h : W.heap[b]? = some o) (O : Obj) : (W.alloc O).heap[b]? = some o := (Below.heap_alloc _ _ _ (lt_of_get h)).trans h

theorem shapeP {W : World} {B n : Nat} {e : TypeId} {v : Value} {xs : List Value} {sz : Nat} (h : W.ownsRow B e sz v n xs) : ∃ p c, v = .slice p n c := by
  rcases h.2 with ⟨rfl, rfl⟩ | ⟨g, c, _, rfl, _⟩
  · exact ⟨_, _, rfl⟩
  · exact ⟨_, _, rfl⟩
theorem bel_drewN {B : Nat} {w W : World} (n : Nat) (h : Below B w W) : Below B w (W.drewN n) := h.trans ⟨rfl, rfl, rfl, Nat.le_refl _, fun _ _ => rfl⟩
end Go.Proofs.YtnboehlbcjfndaaGreatDoor
namespace Go.Proofs.YtnboehlbcjfndaaGreatDoor
open Go.RowKit
theorem byte_get (l : List UInt8) (k : Nat) (h : k < l.length) : ∃ c, (∀ h', (ByteArray.mk l.toArray)[k]'h' = c) ∧ l[k]? = some c := ⟨l[k], fun _ => rfl, List.getElem?_eq_getElem h⟩
theorem u8_ne {c d : UInt8} (h : c ≠ d) : ((c.toNat : Int) == (d.toNat : Int)) = false := by
  rw [beq_eq_false_iff_ne]
  intro e
  exact h (UInt8.toNat_inj.1 (by omega))
theorem ext_drop (l : List UInt8) (i : Nat) : (ByteArray.mk l.toArray).extract i l.length = ⟨(l.drop i).toArray⟩ := ByteArray.ext (by simp; exact List.take_of_length_le (by simp))
end Go.Proofs.YtnboehlbcjfndaaGreatDoor
namespace Go.Proofs.YtnboehlbcjfndaaGreatDoor
open Go.RowKit
theorem pow_cast (b : Nat) : (2 : Int) ^ b = ((2 ^ b : Nat) : Int) := by simp
theorem w64 {x : Int} (h0 : -9223372036854775808 ≤ x) (h1 : x ≤ 9223372036854775807) : wrap64 x = x := by unfold wrap64; omega
set_option maxRecDepth 100000 in
theorem greatest_any (b : Nat) (hb : b ≤ 32) (w : World) :
    Calls Tryz.prog 53 #[.int .i64 (b : Int)] w fun e w' => e = .returned (.int .i64 ((2 ^ b - 1 : Nat) : Int)) ∧ w' = w := by
  have hp : 2 ^ b ≤ 2 ^ 32 := Nat.pow_le_pow_right (by decide) hb
  have hp0 : 0 < 2 ^ b := Nat.pow_pos (by decide)
  go_enter Tryz.func53, Tryz.ntmps53
  go_wp2_with fail
  go_ret
  refine ⟨?_, rfl⟩
  have e1 : wrap64 (2 ^ b) = ((2 ^ b : Nat) : Int) := by rw [pow_cast]; exact w64 (by omega) (by omega)
  have e2 : wrap64 (wrap64 (2 ^ b) - 1) = ((2 ^ b - 1 : Nat) : Int) := by rw [e1, w64 (by omega) (by omega)]; omega
  exact congrArg (fun z => Ending.returned (Value.int .i64 z)) e2
set_option maxRecDepth 100000 in
theorem fits_any (v : Int) (b : Nat) (hb : b ≤ 32) (w : World) :
    Calls Tryz.prog 52 #[.int .i64 v, .int .i64 (b : Int)] w fun e w' => e = .returned (.bool (decide (0 ≤ v ∧ v ≤ ((2 ^ b - 1 : Nat) : Int)))) ∧ w' = w := by
  have HG := fun W => greatest_any b hb W
  obtain ⟨g, hg⟩ : ∃ g : Nat, 2 ^ b - 1 = g := ⟨_, rfl⟩
  rw [hg] at HG ⊢
  clear hg
  by_cases h0 : 0 ≤ v
  · by_cases h1 : v ≤ (g : Int)
    · rw [decide_eq_true ⟨h0, h1⟩]
      go_enter Tryz.func52, Tryz.ntmps52
      go_wp2_with fail
      refine (HG _).mono ?_
      rintro e w1 ⟨rfl, rfl⟩
      go_wp2_with fail
      go_ret
      exact ⟨rfl, rfl⟩
    · rw [decide_eq_false (fun h => h1 h.2)]
      go_enter Tryz.func52, Tryz.ntmps52
      go_wp2_with fail
      refine (HG _).mono ?_
      rintro e w1 ⟨rfl, rfl⟩
      have hd : Hid (decide (v ≤ (g : Int)) = false) := decide_eq_false (by omega)
      go_wp2_with fail
      go_ret
      exact ⟨by first | rfl | (rw [hd.out]; rfl), rfl⟩
  · rw [decide_eq_false (fun h => h0 h.1)]
    go_enter Tryz.func52, Tryz.ntmps52
    go_wp2_with fail
    go_ret
    exact ⟨rfl, rfl⟩
end Go.Proofs.YtnboehlbcjfndaaGreatDoor
namespace Go.Proofs.YtnboehlbcjfndaaGreatDoor
open Go.RowKit
def bys (t : List UInt8) : List Value := t.map fun b => .int .u8 (b.toNat : Int)
theorem set_get {W : World} {b j T : Nat} {m : Nat × Nat} {cs : Array Value} (v : Value) (h : W.heap[b]? = some (.cells cs T m)) : (W.setCell ⟨b, j, none⟩ v).heap[b]? = some (.cells (cs.setIfInBounds j v) T m) := by
  simp only [World.setCell, Array.getElem?_modify, if_pos, h, Option.map_some]
  simp

def hdr (W : World) (gh : Nat) (z : List Value) (h : List UInt8) : Prop := W.heap[gh]? = some (.cells (bys h ++ z).toArray 5 (h.length + z.length, h.length + z.length + 1))
theorem bys_len (h : List UInt8) : (bys h).length = h.length := by simp [bys]
theorem hdr_cell {W : World} {gh j : Nat} {z : List Value} {h : List UInt8} (hh : hdr W gh z h) (hj : j < h.length) : W.cell? ⟨gh, j, none⟩ = some (.int .u8 (h[j].toNat : Int)) := by
  unfold hdr at hh
  rw [cell_of_row W gh j _ _ _ hh]
  simp [bys, List.getElem?_append_left, hj]
theorem hdr_frozen {W : World} {gh j : Nat} {z : List Value} {h : List UInt8} (hh : hdr W gh z h) (hj : j < h.length) : W.frozen? ⟨gh, j, none⟩ = false := by
  unfold hdr at hh
  simp [World.frozen?, hh]
  omega
theorem hdr_set {W : World} {gh p : Nat} {z : List Value} {h : List UInt8} (x : UInt8) (hh : hdr W gh z h) (hp : p < h.length) : hdr (W.setCell ⟨gh, p, none⟩ (.int .u8 (x.toNat : Int))) gh z (h.set p x) := by
  have e : (bys h ++ z).toArray.setIfInBounds p (.int .u8 (x.toNat : Int)) = (bys (h.set p x) ++ z).toArray := by
    have := List.set_append_left (s := bys h) (t := z) (i := p) (x := Value.int .u8 (x.toNat : Int)) (by rw [bys_len]; exact hp)
    rw [List.setIfInBounds_toArray, this]
    simp [bys, List.map_set]
  have := set_get (j := p) (.int .u8 (x.toNat : Int)) hh
  rw [e] at this
  unfold hdr
  simpa using this
theorem hdr_alloc {W : World} {gh : Nat} {z : List Value} {h : List UInt8} (hh : hdr W gh z h) (o : Obj) : hdr (W.alloc o) gh z h := allocblk hh o
theorem hdr_new (w : World) (t : List UInt8) : hdr (Lib.bytesWorld w 5 ⟨t.toArray⟩) w.heap.size (List.replicate (grownCap w t.length 0 5 - t.length) (Value.int .u8 0)) t := by
  have h := Lib.bytesWorld_at_new w 5 ⟨t.toArray⟩
  have hz : (⟨t.toArray⟩ : ByteArray).size = t.length := by show t.toArray.size = _; simp
  have e : Lib.bytesCells w 5 ⟨t.toArray⟩ = (bys t ++ List.replicate (grownCap w t.length 0 5 - t.length) (Value.int .u8 0)).toArray := by
    unfold Lib.bytesCells
    rw [hz]
    simp [bys]
  unfold hdr
  rw [h, e]
  simp [bys_len]
theorem bel_bytes (w : World) (s : ByteArray) : Below w.heap.size w (Lib.bytesWorld w 5 s) := by
  have hb0 := ((Below.refl w.heap.size w).drew).alloc (Nat.le_refl _) (.cells (Lib.bytesCells w 5 s) 5)
  refine ⟨?_, ?_, ?_, ?_, fun k hk => Lib.bytesWorld_at_old w 5 s k hk⟩
  · simp only [Lib.bytesWorld, World.freeze]; exact hb0.os
  · simp only [Lib.bytesWorld, World.freeze]; exact hb0.tape
  · simp only [Lib.bytesWorld, World.freeze]; exact hb0.output
  · rw [Lib.bytesWorld_size]; omega

end Go.Proofs.YtnboehlbcjfndaaGreatDoor
namespace Go.Proofs
open Go.Shelf
def Tryz.l105_ren : Go.Shelf.Ren := ⟨fun | 105 => 58 | 212 => 88 | 99 => 89 | 165 => 90 | 166 => 91 | 170 => 92 | 169 => 93 | 263 => 117 | 264 => 118 | 206 => 119 | 240 => 120 | 241 => 121 | 276 => 139 | 277 => 140 | n => n, fun | 9 => 9 | 3 => 3 | 4 => 4 | 20 => 20 | 0 => 0 | 46 => 70 | 109 => 134 | 5 => 5 | 72 => 138 | 76 => 142 | 51 => 161 | 146 => 165 | 53 => 102 | 148 => 167 | 70 => 136 | 37 => 60 | 75 => 141 | 127 => 169 | 164 => 188 | 80 => 133 | n => n, fun | n => n⟩
theorem Tryz.l105 : Go.Proofs.Lays.n105 Tryz.prog Tryz.l105_ren := {
  mixed := by kernel_rfl
  f99 := Tryz.func89.trans (congrArg some (by kernel_rfl))
  f105 := Tryz.func58.trans (congrArg some (by kernel_rfl))
  f165 := Tryz.func90.trans (congrArg some (by kernel_rfl))
  f166 := Tryz.func91.trans (congrArg some (by kernel_rfl))
  f169 := Tryz.func93.trans (congrArg some (by kernel_rfl))
  f170 := Tryz.func92.trans (congrArg some (by kernel_rfl))
  f206 := Tryz.func119.trans (congrArg some (by kernel_rfl))
  f212 := Tryz.func88.trans (congrArg some (by kernel_rfl))
  f240 := Tryz.func120.trans (congrArg some (by kernel_rfl))
  f241 := Tryz.func121.trans (congrArg some (by kernel_rfl))
  f263 := Tryz.func117.trans (congrArg some (by kernel_rfl))
  f264 := Tryz.func118.trans (congrArg some (by kernel_rfl))
  f276 := Tryz.func139.trans (congrArg some (by kernel_rfl))
  f277 := Tryz.func140.trans (congrArg some (by kernel_rfl))
  t0 := Tryz.underlying0
  a0 := Tryz.isAgg0
  z0 := Tryz.sizeOf0
  v0 := Tryz.zeroValue0
  t3 := Tryz.underlying3
  a3 := Tryz.isAgg3
  z3 := Tryz.sizeOf3
  v3 := Tryz.zeroValue3
  t4 := Tryz.underlying4
  a4 := Tryz.isAgg4
  z4 := Tryz.sizeOf4
  v4 := Tryz.zeroValue4
  t5 := Tryz.underlying5
  a5 := Tryz.isAgg5
  z5 := Tryz.sizeOf5
  v5 := Tryz.zeroValue5
  t9 := Tryz.underlying9
  a9 := Tryz.isAgg9
  z9 := Tryz.sizeOf9
  v9 := Tryz.zeroValue9
  t20 := Tryz.underlying20
  a20 := Tryz.isAgg20
  z20 := Tryz.sizeOf20
  v20 := Tryz.zeroValue20
  t37 := Tryz.underlying60
  a37 := Tryz.isAgg60
  z37 := Tryz.sizeOf60
  v37 := Tryz.zeroValue60
  t46 := Tryz.underlying70
  a46 := Tryz.isAgg70
  z46 := Tryz.sizeOf70
  v46 := Tryz.zeroValue70
  t51 := Tryz.underlying161
  a51 := Tryz.isAgg161
  z51 := Tryz.sizeOf161
  v51 := Tryz.zeroValue161
  t53 := Tryz.underlying102
  a53 := Tryz.isAgg102
  z53 := Tryz.sizeOf102
  v53 := Tryz.zeroValue102
  t70 := Tryz.underlying136
  a70 := Tryz.isAgg136
  z70 := Tryz.sizeOf136
  v70 := Tryz.zeroValue136
  t72 := Tryz.underlying138
  a72 := Tryz.isAgg138
  z72 := Tryz.sizeOf138
  v72 := Tryz.zeroValue138
  t75 := Tryz.underlying141
  a75 := Tryz.isAgg141
  z75 := Tryz.sizeOf141
  v75 := Tryz.zeroValue141
  t76 := Tryz.underlying142
  a76 := Tryz.isAgg142
  z76 := Tryz.sizeOf142
  v76 := Tryz.zeroValue142
  t109 := Tryz.underlying134
  a109 := Tryz.isAgg134
  z109 := Tryz.sizeOf134
  v109 := Tryz.zeroValue134
  t127 := Tryz.underlying169
  a127 := Tryz.isAgg169
  z127 := Tryz.sizeOf169
  v127 := Tryz.zeroValue169
  t146 := Tryz.underlying165
  a146 := Tryz.isAgg165
  z146 := Tryz.sizeOf165
  v146 := Tryz.zeroValue165
  t148 := Tryz.underlying167
  a148 := Tryz.isAgg167
  z148 := Tryz.sizeOf167
  v148 := Tryz.zeroValue167
  t164 := Tryz.underlying188
  a164 := Tryz.isAgg188
  z164 := Tryz.sizeOf188
  v164 := Tryz.zeroValue188 }
def Tryz.l125_ren : Go.Shelf.Ren := ⟨fun | 125 => 85 | 128 => 113 | 129 => 114 | n => n, fun | 46 => 70 | 3 => 3 | 51 => 161 | 53 => 102 | 4 => 4 | 5 => 5 | 9 => 9 | n => n, fun | n => n⟩
theorem Tryz.l125 : Go.Proofs.Lays.n125 Tryz.prog Tryz.l125_ren := {
  mixed := by kernel_rfl
  f125 := Tryz.func85.trans (congrArg some (by kernel_rfl))
  f128 := Tryz.func113.trans (congrArg some (by kernel_rfl))
  f129 := Tryz.func114.trans (congrArg some (by kernel_rfl))
  t3 := Tryz.underlying3
  a3 := Tryz.isAgg3
  z3 := Tryz.sizeOf3
  v3 := Tryz.zeroValue3
  t4 := Tryz.underlying4
  a4 := Tryz.isAgg4
  z4 := Tryz.sizeOf4
  v4 := Tryz.zeroValue4
  t5 := Tryz.underlying5
  a5 := Tryz.isAgg5
  z5 := Tryz.sizeOf5
  v5 := Tryz.zeroValue5
  t9 := Tryz.underlying9
  a9 := Tryz.isAgg9
  z9 := Tryz.sizeOf9
  v9 := Tryz.zeroValue9
  t46 := Tryz.underlying70
  a46 := Tryz.isAgg70
  z46 := Tryz.sizeOf70
  v46 := Tryz.zeroValue70
  t51 := Tryz.underlying161
  a51 := Tryz.isAgg161
  z51 := Tryz.sizeOf161
  v51 := Tryz.zeroValue161
  t53 := Tryz.underlying102
  a53 := Tryz.isAgg102
  z53 := Tryz.sizeOf102
  v53 := Tryz.zeroValue102 }
end Go.Proofs
namespace Go.Proofs.YtnboehlbcjfndaaGreatDoor
open Go.RowKit Go.Shelf
theorem bextra : Builder.Extra Tryz.prog Tryz.l105_ren where
  sizeBuilder := by kernel_rfl
  liesBuilder := by kernel_rfl
  t5 := Tryz.underlying5
  a5 := Tryz.isAgg5
  z5 := Tryz.sizeOf5
  v5 := Tryz.zeroValue5
  infoByte := by kernel_rfl
  cellsByte := by kernel_rfl
  sizeByte := by kernel_rfl
  neB5 := by decide
theorem repeatL_one (c : Nat) : Lib.repeatL [120] c = List.replicate c 120 := by
  induction c with
  | zero => rfl
  | succ c ih => rw [Lib.repeatL, ih]; rfl
theorem repeat_any (c : Nat) (hc : c ≤ 256) (w : World) : Calls Tryz.prog 58 #[.string ⟨#[120]⟩, .int .i64 (c : Int)] w fun e w' => e = .returned (.string ⟨(List.replicate c 120).toArray⟩) ∧ Below w.heap.size w w' := by
  have h := Any.strings_Repeat Tryz.l105 bextra ⟨#[120]⟩ c w (by omega) (by show 1 * c ≤ _; omega)
  rw [repeatL_one] at h
  exact h
def bitB (b v p : Nat) : UInt8 := UInt8.ofNat (48 + v / 2 ^ (b - 1 - p) % 2)
def digL (b v f : Nat) : List UInt8 := (List.range (b - f)).map (bitB b v) ++ List.replicate f 120
theorem digL_len (b v f : Nat) (h : f ≤ b) : (digL b v f).length = b := by simp [digL]; omega
theorem and1 (m : Nat) (hm : m < 8589934592) : bits .and .i64 (m : Int) 1 = ((m % 2 : Nat) : Int) := by
  have a1 : (BitVec.ofInt 64 (m : Int)).toNat = m := by
    rw [BitVec.ofInt_natCast, BitVec.toNat_ofNat]; exact Nat.mod_eq_of_lt (by omega)
  have a2 : (BitVec.ofInt 64 (1 : Int)).toNat = 1 := by decide
  have a3 : m &&& 1 = m % 2 := Nat.and_two_pow_sub_one_eq_mod m 1
  show IntKind.i64.wrap ((BitVec.ofInt 64 (m : Int) &&& BitVec.ofInt 64 (1 : Int)).toNat : Int) = _
  rw [BitVec.toNat_and, a1, a2, a3, IntKind.wrap_i64]
  omega
theorem div_cast (v k : Nat) : (v : Int) / 2 ^ k = ((v / 2 ^ k : Nat) : Int) := by rw [pow_cast]; simp
theorem bit_val (b v p : Nat) (hv : v < 8589934592) : (48 + bits .and .i64 ((v : Int) / 2 ^ (b - 1 - p)) 1) % 256 = ((bitB b v p).toNat : Int) := by
  have hd : v / 2 ^ (b - 1 - p) ≤ v := Nat.div_le_self _ _
  rw [div_cast, and1 _ (by omega)]
  unfold bitB
  rw [UInt8.toNat_ofNat']
  omega
def dgp (b v p : Nat) : List UInt8 := (List.range p).map (bitB b v) ++ List.replicate (b - p) 120
theorem dgp_len (b v p : Nat) (h : p ≤ b) : (dgp b v p).length = b := by simp [dgp]; omega
theorem dgp_succ (b v p : Nat) (h : p < b) : (dgp b v p).set p (bitB b v p) = dgp b v (p + 1) := by
  unfold dgp
  obtain ⟨r, hr⟩ : ∃ r, b - p = r + 1 := ⟨b - p - 1, by omega⟩
  have hr2 : b - (p + 1) = r := by omega
  rw [hr, hr2, List.range_succ, List.map_append, List.replicate_succ, List.set_append_right _ _ (by simp)]
  simp
theorem dgp_all (b v f : Nat) (h : f ≤ b) : dgp b v (b - f) = digL b v f := by
  unfold dgp digL
  rw [show b - (b - f) = f by omega]
set_option maxRecDepth 100000 in
set_option maxHeartbeats 1000000 in
theorem digits_any (b v f : Nat) (hb1 : 1 ≤ b) (hb : b ≤ 32) (hf : f ≤ b) (hv : v < 8589934592) (w : World) :
    Calls Tryz.prog 64 #[.int .i64 (b : Int), .int .i64 (v : Int), .int .i64 (f : Int)] w fun e w' => e = .returned (.string ⟨(digL b v f).toArray⟩) ∧ Below w.heap.size w w' := by
  have HR := fun W => repeat_any b (by omega) W
  have e0 : IntKind.i64.wrap ((b : Int) - (f : Int)) = ((b - f : Nat) : Int) := by rw [IntKind.wrap_i64]; omega
  have hcv := fun W => Lib.run_convert_string_bytes (P := Tryz.prog) W 9 60 5 ⟨(List.replicate b 120).toArray⟩ Tryz.underlying9 Tryz.underlying60 Tryz.underlying5
  obtain ⟨T, hT⟩ : ∃ T : List UInt8, List.replicate b 120 = T := ⟨_, rfl⟩
  have hTl : T.length = b := by rw [← hT]; simp
  have HT : Hid (List.replicate b 120 = T) := hT
  rw [hT] at hcv
  simp only [hT] at HR
  clear hT
  go_enter Tryz.func64, Tryz.ntmps64
  go_wp2_with fail
  refine (HR _).mono ?_
  rintro e w1 ⟨rfl, hb1'⟩
  have hN := hdr_new w1 T
  have B2 := bel0 hb1' (bel_bytes w1 ⟨T.toArray⟩)
  have hzw : w.heap.size ≤ w1.heap.size := hb1'.size
  have hsz : (⟨T.toArray⟩ : ByteArray).size = T.length := by show T.toArray.size = _; simp
  obtain ⟨z, hz⟩ : ∃ z, List.replicate (grownCap w1 T.length 0 5 - T.length) (Value.int .u8 0) = z := ⟨_, rfl⟩
  have hcv1 := hcv w1
  rw [hsz] at hcv1
  obtain ⟨cp, hcp⟩ : ∃ c, grownCap w1 T.length 0 5 = c := ⟨_, rfl⟩
  rw [hcp] at hcv1
  rw [hz] at hN
  obtain ⟨W2, hW2⟩ : ∃ W2, Lib.bytesWorld w1 5 ⟨T.toArray⟩ = W2 := ⟨_, rfl⟩
  rw [hW2] at hcv1 hN B2
  obtain ⟨K, hK⟩ : ∃ K, w1.heap.size = K := ⟨_, rfl⟩
  rw [hK] at hcv1 hN hzw
  rw [hTl] at hcv1
  clear hcv hcp hz hW2 hK hsz hb1' HR
  have hstart : dgp b v 0 = T := by rw [← HT.out]; simp [dgp]
  rw [← hstart] at hN

  clear hstart HT hTl
  go_wp2_with fail
  go_loopw [15] (fun vp wr => ∃ p : Nat, vp = .int .i64 p ∧ p ≤ b - f ∧ hdr wr K z (dgp b v p) ∧ Below w.heap.size w wr) (fun vp _ => b - f - (intOf vp).toNat)
  case atStart => exact ⟨0, rfl, Nat.zero_le _, hN, B2⟩
  case round =>
    clear hN B2 hcv1
    obtain ⟨p, rfl, hp, hN, hB⟩ := hrel
    by_cases hlt : p < b - f
    · have i1 : (p : Int) < ((b - f : Nat) : Int) := by omega
      have i2 : (p : Int) < (b : Int) := by omega
      have i0 : (0 : Int) ≤ (p : Int) := by omega
      have hlen := dgp_len b v p (by omega)
      have hc := hdr_cell hN (j := p) (by omega)
      have hfz := hdr_frozen hN (j := p) (by omega)
      have hset := hdr_set (bitB b v p) hN (p := p) (by omega)
      rw [dgp_succ b v p (by omega), ← bit_val b v p hv] at hset
      have hB2 := hB.setCell (p := ⟨K, p, none⟩) hzw (.int .u8 ((48 + bits .and .i64 ((v : Int) / 2 ^ (b - 1 - p)) 1) % 256))
      clear hN hB
      go_wp2_with fail
      go_roundw
      case rel => exact ⟨p + 1, by go_num, by omega, hset, hB2⟩
      case measure => simp [intOf]; omega
    · have i1 : ¬ (p : Int) < ((b - f : Nat) : Int) := by omega
      obtain rfl : p = b - f := by omega
      rw [dgp_all b v f hf] at hN
      have hlen := digL_len b v f hf
      have hcv := run_convert_bytes_back (P := Tryz.prog) wr 60 9 5 ⟨K, 0, none⟩ cp (digL b v f) Tryz.underlying60 Tryz.underlying5 Tryz.underlying9 (fun j hj => by
        have := hdr_cell hN hj
        simp only [Addr.add]
        split
        · rename_i h; subst h; exact this
        · simpa using this)
      rw [hlen] at hcv
      obtain ⟨S, hS⟩ : ∃ S, digL b v f = S := ⟨_, rfl⟩
      rw [hS] at hcv
      have HS : Hid (digL b v f = S) := hS
      clear hN hS hlen
      go_wp2_with fail
      go_ret
      exact ⟨by rw [HS.out]; rfl, hB⟩
end Go.Proofs.YtnboehlbcjfndaaGreatDoor
namespace Go.Proofs
open Go.Shelf
def Tryz.l7n27_ren : Go.Shelf.Ren := ⟨fun | 27 => 84 | 28 => 111 | 29 => 112 | n => n, fun | 25 => 70 | 3 => 3 | 27 => 161 | 22 => 102 | 4 => 4 | 53 => 186 | 0 => 0 | 5 => 5 | 54 => 187 | n => n, fun | 0 => 1 | 1 => 2 | n => n⟩
theorem Tryz.l7n27 : Go.Proofs.Lays7.n27 Tryz.prog Tryz.l7n27_ren := {
  mixed := by kernel_rfl
  f27 := Tryz.func84.trans (congrArg some (by kernel_rfl))
  f28 := Tryz.func111.trans (congrArg some (by kernel_rfl))
  f29 := Tryz.func112.trans (congrArg some (by kernel_rfl))
  t0 := Tryz.underlying0
  a0 := Tryz.isAgg0
  z0 := Tryz.sizeOf0
  v0 := Tryz.zeroValue0
  i0 := by kernel_rfl
  t3 := Tryz.underlying3
  a3 := Tryz.isAgg3
  z3 := Tryz.sizeOf3
  v3 := Tryz.zeroValue3
  i3 := by kernel_rfl
  t4 := Tryz.underlying4
  a4 := Tryz.isAgg4
  z4 := Tryz.sizeOf4
  v4 := Tryz.zeroValue4
  i4 := by kernel_rfl
  t5 := Tryz.underlying5
  a5 := Tryz.isAgg5
  z5 := Tryz.sizeOf5
  v5 := Tryz.zeroValue5
  i5 := by kernel_rfl
  t22 := Tryz.underlying102
  a22 := Tryz.isAgg102
  z22 := Tryz.sizeOf102
  v22 := Tryz.zeroValue102
  i22 := by kernel_rfl
  t25 := Tryz.underlying70
  a25 := Tryz.isAgg70
  z25 := Tryz.sizeOf70
  v25 := Tryz.zeroValue70
  i25 := by kernel_rfl
  t27 := Tryz.underlying161
  a27 := Tryz.isAgg161
  z27 := Tryz.sizeOf161
  v27 := Tryz.zeroValue161
  i27 := by kernel_rfl
  t53 := Tryz.underlying186
  a53 := Tryz.isAgg186
  z53 := Tryz.sizeOf186
  v53 := Tryz.zeroValue186
  i53 := by kernel_rfl
  t54 := Tryz.underlying187
  a54 := Tryz.isAgg187
  z54 := Tryz.sizeOf187
  g0 := by kernel_rfl
  g1 := by kernel_rfl }
end Go.Proofs
namespace Go.Proofs.YtnboehlbcjfndaaGreatDoor
open Go.RowKit Go.Shelf
def DB (w : World) : Prop := TabAt 2 Lib.deBruijn64tab w
theorem DB.below {w W : World} (h : DB w) (hb : Below w.heap.size w W) : DB W := fun j hj => (hb.cell (World.block_lt_of_cell? w _ (h j hj))).trans (h j hj)
theorem tz_any (a : Nat) (ha : a < 18446744073709551616) (w : World) (h : DB w) : Calls Tryz.prog 84 #[.int .u64 (a : Int)] w fun e w' => e = .returned (.int .i64 (cz a : Int)) ∧ w' = w :=
  Any7.bits_TrailingZeros Tryz.l7n27 a ha w (fun _ => h)
theorem len_any (a : Nat) (ha : a < 18446744073709551616) (w : World) : Calls Tryz.prog 85 #[.int .u64 (a : Int)] w fun e w' => e = .returned (.int .i64 (Lib.bitLen a : Int)) ∧ w' = w := by
  have h := Any.bits_Len Tryz.l125 (a : Int) w (by omega) (by omega)
  rw [Int.toNat_natCast] at h
  exact h
def stx (L : List (List UInt8)) : List Value := L.map fun t => Value.string ⟨t.toArray⟩
theorem stx_snoc (L : List (List UInt8)) (t : List UInt8) : stx (L ++ [t]) = stx L ++ [Value.string ⟨t.toArray⟩] := by simp [stx]
theorem info_str : (Tryz.prog.info? 9).map (fun i => (i.zero, i.size, i.bytes)) = some (some (.string ⟨#[]⟩), 1, 16) := by kernel_rfl
def cov (b lo hi : Nat) : List (List UInt8) := (gr lo hi).map fun p => digL b p.1 p.2
theorem cov_le {b a e : Nat} (h : a ≤ e) : cov b a e = digL b a (fre a e) :: cov b (a + 2 ^ fre a e) e := by unfold cov; rw [gr_le h]; rfl
theorem cov_end {b a e : Nat} (h : ¬ a ≤ e) : cov b a e = [] := by unfold cov; rw [gr_end h]; rfl
theorem bitLen_pos {n : Nat} (h : 0 < n) (h2 : n < 2 ^ 64) : 1 ≤ Lib.bitLen n := by
  obtain ⟨_, b⟩ := bitLen_spec n h h2
  refine Classical.byContradiction (fun hn => ?_)
  rw [show Lib.bitLen n = 0 by omega] at b
  simp at b
  omega
theorem add_wrap (a G : Nat) (h : a + G ≤ 8589934592) : wrap64 ((a : Int) + wrap64 (G : Int)) = ((a + G : Nat) : Int) := by
  rw [w64 (x := (G : Int)) (by omega) (by omega), w64 (by omega) (by omega)]
  omega
theorem add_pow (a F G : Nat) (hG : 2 ^ F = G) (h : a + G ≤ 8589934592) : wrap64 ((a : Int) + wrap64 (2 ^ F)) = ((a + G : Nat) : Int) := by
  rw [pow_cast, hG]
  exact add_wrap a G h
set_option maxRecDepth 100000 in
set_option maxHeartbeats 1000000 in
theorem prefixes_any (b lo hi : Nat) (hb1 : 1 ≤ b) (hb : b ≤ 32) (hh : hi < 2 ^ b) (hl : lo ≤ hi + 1) (w : World) (hdb0 : DB w) :
    Calls Tryz.prog 55 #[.int .i64 (b : Int), .int .i64 (lo : Int), .int .i64 (hi : Int)] w fun e w' => ∃ v, e = .returned v ∧ w'.ownsRow w.heap.size 9 1 v (cov b lo hi).length (stx (cov b lo hi)) ∧ Below w.heap.size w w' := by
  have hp : 2 ^ b ≤ 2 ^ 32 := Nat.pow_le_pow_right (by decide) hb
  obtain ⟨i0, hi0, hz0, hz1, hz2⟩ := info_parts info_str
  have hdb : Hid (DB w) := hdb0
  clear hdb0
  go_enter Tryz.func55, Tryz.ntmps55
  go_wp2_with fail
  go_loopw [1, 7] (fun va v wr => ∃ (a : Nat) (D : List (List UInt8)), va = .int .i64 a ∧ a ≤ hi + 1 ∧ D.length ≤ a ∧ D ++ cov b a hi = cov b lo hi ∧ wr.ownsRow w.heap.size 9 1 v D.length (stx D) ∧ Below w.heap.size w wr) (fun va _ _ => hi + 1 - (intOf va).toNat)
  case atStart => exact ⟨lo, [], rfl, hl, Nat.zero_le _, rfl, World.ownsRow_nil _ _ _ _, Below.refl _ _⟩
  case round =>
    obtain ⟨a, D, rfl, ha, hD, hcov, hown, hB⟩ := hrel
    have hsz := hB.size
    by_cases hle : a ≤ hi
    · have i1 : (a : Int) ≤ (hi : Int) := by omega
      have e1 : IntKind.u64.wrap (a : Int) = (a : Int) := by rw [IntKind.wrap_u64]; omega
      have e2 : IntKind.i64.wrap ((hi : Int) - (a : Int)) = ((hi - a : Nat) : Int) := by rw [IntKind.wrap_i64]; omega
      have e3 : IntKind.i64.wrap (((hi - a : Nat) : Int) + 1) = ((hi - a + 1 : Nat) : Int) := by rw [IntKind.wrap_i64]; omega
      have e4 : IntKind.u64.wrap ((hi - a + 1 : Nat) : Int) = ((hi - a + 1 : Nat) : Int) := by rw [IntKind.wrap_u64]; omega
      have HT := tz_any a (by omega) wr (hdb.out.below hB)
      have HL := fun W => len_any (hi - a + 1) (by omega) W
      have hbl := bitLen_pos (n := hi - a + 1) (by omega) (by omega)
      rw [cov_le hle] at hcov
      have hfp := fre_le (a := a) (e := hi) hle (by omega)
      have hfb : fre a hi ≤ b := (Nat.pow_le_pow_iff_right (a := 2) (by decide)).1 (by omega)
      have hfd : fre a hi = min (cz a) (Lib.bitLen (hi - a + 1) - 1) := rfl
      have hl64 := Lib.bitLen_le (hi - a + 1) 64 (Nat.le_refl _) (by omega)
      obtain ⟨F, hF⟩ : ∃ F, fre a hi = F := ⟨_, rfl⟩
      obtain ⟨C, hC⟩ : ∃ C, cz a = C := ⟨_, rfl⟩
      obtain ⟨L, hL⟩ : ∃ L, Lib.bitLen (hi - a + 1) = L := ⟨_, rfl⟩
      rw [hF] at hcov hfp hfb hfd
      rw [hC] at hfd HT
      rw [hL] at hfd hbl hl64
      simp only [hL] at HL
      have e5 : wrap64 ((L : Int) - 1) = ((L - 1 : Nat) : Int) := by rw [w64 (by omega) (by omega)]; omega
      have e6 : min (C : Int) ((L - 1 : Nat) : Int) = (F : Int) := by rw [hfd]; omega
      obtain ⟨G, hG⟩ : ∃ G, 2 ^ F = G := ⟨_, rfl⟩
      have hpp : 0 < 2 ^ F := Nat.pow_pos (by decide)
      rw [hG] at hcov hfp hpp
      have hag : a + G ≤ 8589934592 := by omega
      have e8 : Hid (wrap64 ((a : Int) + wrap64 (2 ^ F)) = ((a + G : Nat) : Int)) := add_pow a F G hG hag
      clear hG
      have HD := fun W => digits_any b a F hb1 hb hfb (by omega) W
      have hlen : (digL b a F).length = b := digL_len b a F hfb
      obtain ⟨S, hS⟩ : ∃ S, digL b a F = S := ⟨_, rfl⟩
      rw [hS] at hcov
      simp only [hS] at HD
      have HC : Hid ((D ++ [S]) ++ cov b (a + G) hi = cov b lo hi) := by unfold Hid; rw [List.append_assoc]; exact hcov
      obtain ⟨qv, cv, rfl⟩ := shapeP hown
      have P32 : hi ≤ 4294967296 := by omega
      have F32 : F ≤ 32 := Nat.le_trans hfb hb
      clear hcov hC hL hF hS hlen hfd hfb hl64 hbl hh hp
      go_wp2_with fail
      refine HT.mono ?_
      rintro e w1 ⟨rfl, rfl⟩
      go_wp2_with fail
      refine (HL _).mono ?_
      rintro e w2 ⟨rfl, rfl⟩
      go_wp2_with fail
      refine (HD _).mono ?_
      rintro e w3 ⟨rfl, hb3⟩
      have hown3 := owns_below hown hb3
      have hB3 := bel0 hB hb3
      have hs3 := hB3.size
      clear hown hB HT HL HD
      go_wp2_with (at_builtin; refine wpList_append_own _ rfl _ _ 30 rfl w.heap.size 9 i0 _ 1 16 Tryz.underlying30 hi0 hz0 hz1 hz2 rfl (by decide) _ _ _ rfl (hown3.alloc _) ⟨w3.heap.size, 0, none⟩ 1 1 [Value.string ⟨S.toArray⟩] rfl rfl (World.news_of_block (cs := #[.string ⟨S.toArray⟩]) (t := 9) (fr := (0, 0)) (alloc_get _ _)) (by simp [Value.oneCell']) (by unfold maxLen; omega) (by omega) (by simp; omega) ?_; intro v5 w5 oB hg5 _)
      have b5 : Below w.heap.size w w5 := (hB3.alloc hs3 _).grown hg5 (by simp; omega) (fun k e => (hown3.lt k e).1)
      have o5 : w5.ownsRow w.heap.size 9 1 v5 (D ++ [S]).length (stx (D ++ [S])) := by rw [List.length_append, stx_snoc]; exact oB
      clear oB hg5 hown3 hB3
      go_roundw
      case rel => exact ⟨a + G, D ++ [S], by rw [e8.out], by omega, by rw [List.length_append]; simp; omega, HC.out, o5, b5⟩
      case measure => rw [e8.out]; simp [intOf]; omega
    · have i1 : ¬ (a : Int) ≤ (hi : Int) := by omega
      rw [cov_end hle, List.append_nil] at hcov
      have HC : Hid (D = cov b lo hi) := hcov
      clear hcov hh hp
      go_wp2_with fail
      go_ret
      refine ⟨_, rfl, ?_, hB⟩
      rw [← HC.out]
      exact hown
end Go.Proofs.YtnboehlbcjfndaaGreatDoor
namespace Go.Proofs.YtnboehlbcjfndaaGreatDoor
open Go.RowKit
def bt (l : List UInt8) (i : Nat) : Nat := (l.getD i 0).toNat
def dc (l : List UInt8) (i : Nat) : Nat × Nat := Lib.decodeN (l.length - i) (bt l i) (bt l (i + 1)) (bt l (i + 2)) (bt l (i + 3))
theorem bt_lt (l : List UInt8) (i : Nat) : bt l i < 256 := UInt8.toNat_lt _
theorem bt_of {l : List UInt8} {i : Nat} {c : UInt8} (h : l[i]? = some c) : bt l i = c.toNat := by simp [bt, List.getD, h]
theorem dc_decode (l : List UInt8) (i : Nat) : Utf8.decode ⟨l.toArray⟩ i = dc l i := by
  have hg : ∀ j, (ByteArray.mk l.toArray).get! j = l.getD j 0 := by
    intro j
    simp [ByteArray.get!, List.getD, Array.getElem!_eq_getD]
    rfl
  rw [Lib.decode_at, hg, hg, hg, hg]
  unfold dc bt
  rw [show (ByteArray.mk l.toArray).size = l.length by simp [ByteArray.size]]
def wi (l : List UInt8) (j lo hi : Nat) : Bool := decide (j < l.length) && (decide (lo ≤ bt l j) && decide (bt l j ≤ hi))
end Go.Proofs.YtnboehlbcjfndaaGreatDoor
namespace Go.Proofs.YtnboehlbcjfndaaGreatDoor
open Go.RowKit
def lo1 (l : List UInt8) (i : Nat) : Bool := decide (dc l i = (65533, 1))
end Go.Proofs.YtnboehlbcjfndaaGreatDoor
namespace Go.Proofs.YtnboehlbcjfndaaGreatDoor
open Go.RowKit
end Go.Proofs.YtnboehlbcjfndaaGreatDoor

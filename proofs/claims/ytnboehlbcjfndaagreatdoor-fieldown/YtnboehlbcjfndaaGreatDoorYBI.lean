import Derived.Test.YtnboehlbcjfndaaGreatDoorYBH
import Derived.ChangeKeysEq
import Derived.RegionTactic
import Derived.LoopN
import Derived.Laws.BytesArg
import Derived.Deep.RegionWith
import Derived.Deep.RegionHeld3
namespace Go.Proofs.YtnboehlbcjfndaaGreatDoor.Tn
open Go.RowKit

theorem bel1 {w w1 : World} {o : Obj} (h : Below (w.alloc o).heap.size (w.alloc o) w1) : Below w.heap.size w w1 :=
  ((Below.refl _ _).alloc (Nat.le_refl _) _).trans (h.mono (by simp))
theorem belA {w w1 : World} (h : Below w.heap.size w w1) (o : Obj) : Below w.heap.size w (w1.alloc o) := h.alloc h.size o
theorem bel0 {w w1 w2 : World} (h : Below w.heap.size w w1) (h2 : Below w1.heap.size w1 w2) : Below w.heap.size w w2 := h.trans (h2.mono h.size)
end Go.Proofs.YtnboehlbcjfndaaGreatDoor.Tn
namespace Go.Proofs.YtnboehlbcjfndaaGreatDoor.Tn

def allTo (p : Nat → Bool) : Nat → Bool
  | 0 => true
  | k + 1 => allTo p k && p k

theorem allTo_iff (p : Nat → Bool) (n : Nat) : allTo p n = true ↔ ∀ k, k < n → p k = true := by
  induction n with
  | zero => simp [allTo]
  | succ n ih =>
    simp only [allTo, Bool.and_eq_true, ih]
    constructor
    · rintro ⟨h1, h2⟩ k hk
      by_cases e : k = n
      · subst e; exact h2
      · exact h1 k (by omega)
    · intro h
      exact ⟨fun k hk => h k (by omega), h n (by omega)⟩

def cfl (a b : List UInt8) (k : Nat) : Bool := fx a k && fx b k && (on a k ^^ on b k)
def cw (a b : List UInt8) (w : Nat) : Bool := bits .and .u64 (bits .and .u64 (FW a w : Int) (FW b w : Int)) (bits .xor .u64 (OW a w : Int) (OW b w : Int)) != 0

theorem xor_lt {a b : Nat} (ha : a < 18446744073709551616) (hb : b < 18446744073709551616) : a ^^^ b < 18446744073709551616 := Nat.xor_lt_two_pow (n := 64) ha hb
theorem and_lt {a : Nat} (b : Nat) (ha : a < 18446744073709551616) : a &&& b < 18446744073709551616 := Nat.lt_of_le_of_lt Nat.and_le_left ha
theorem cw_false (a b : List UInt8) (w : Nat) : cw a b w = false ↔ ∀ i, i < 64 → cfl a b (64 * w + i) = false := by
  unfold cw
  rw [u64_and_nat _ _ (FW_lt _ _) (FW_lt _ _), u64_xor_nat _ _ (OW_lt _ _) (OW_lt _ _), u64_and_nat _ _ (and_lt _ (FW_lt _ _)) (xor_lt (OW_lt _ _) (OW_lt _ _))]
  have hbit : ∀ i, (FW a w &&& FW b w &&& (OW a w ^^^ OW b w)).testBit i = (decide (i < 64) && cfl a b (64 * w + i)) := by
    intro i
    rw [Nat.testBit_and, Nat.testBit_and, Nat.testBit_xor, FW_bit, FW_bit, OW_bit, OW_bit]
    unfold cfl
    by_cases hi : i < 64 <;> simp [hi]
  generalize FW a w &&& FW b w &&& (OW a w ^^^ OW b w) = x at hbit ⊢
  constructor
  · intro h i hi
    have hx : x = 0 := by
      rw [bne_eq_false_iff_eq] at h
      omega
    have := hbit i
    rw [hx] at this
    simp [hi] at this
    exact this.symm ▸ rfl
  · intro h
    have hx : x = 0 := by
      apply Nat.eq_of_testBit_eq
      intro i
      rw [hbit i, Nat.zero_testBit]
      by_cases hi : i < 64
      · rw [h i hi]; simp
      · simp [hi]
    rw [hx]; rfl

def fitB (a b : List UInt8) : Bool := !a.isEmpty && (a.length == b.length)
def agB (a b : List UInt8) : Bool := fitB a b && allTo (fun k => !cfl a b k) a.length

theorem cfl_out (a b : List UInt8) (k : Nat) (h : a.length ≤ k) : cfl a b k = false := by
  unfold cfl fx
  rw [List.getElem?_eq_none h]; simp

theorem ag_words (a b : List UInt8) (ha : good a = true) : allTo (fun k => !cfl a b k) a.length = (!cw a b 0 && !cw a b 1 && !cw a b 2 && !cw a b 3) := by
  have hl := good_len ha
  rw [Bool.eq_iff_iff, allTo_iff]
  simp only [Bool.and_eq_true, Bool.not_eq_true', cw_false]
  constructor
  · intro h
    have g : ∀ k, cfl a b k = false := by
      intro k
      by_cases hk : k < a.length
      · exact h k hk
      · exact cfl_out a b k (by omega)
    exact ⟨⟨⟨fun i _ => g _, fun i _ => g _⟩, fun i _ => g _⟩, fun i _ => g _⟩
  · rintro ⟨⟨⟨h0, h1⟩, h2⟩, h3⟩ k hk
    have hk4 : k / 64 < 4 := by omega
    have e : k = 64 * (k / 64) + k % 64 := by omega
    have hm : k % 64 < 64 := by omega
    rcases (show k / 64 = 0 ∨ k / 64 = 1 ∨ k / 64 = 2 ∨ k / 64 = 3 by omega) with q | q | q | q <;> rw [q] at e <;> rw [e]
    · exact h0 _ hm
    · exact h1 _ hm
    · exact h2 _ hm
    · exact h3 _ hm

def meetT (a b : List UInt8) : List UInt8 := List.zipWith (fun x y => if x == 120 then y else x) a b

theorem fitB_len {a b : List UInt8} (h : fitB a b = true) : a.length = b.length := by simp [fitB] at h; exact h.2
theorem agB_fit {a b : List UInt8} (h : agB a b = true) : fitB a b = true := by simp [agB] at h; exact h.1
theorem meetT_len (a b : List UInt8) (h : a.length = b.length) : (meetT a b).length = a.length := by simp [meetT]; omega
theorem meetT_get (a b : List UInt8) (h : a.length = b.length) (k : Nat) (hk : k < a.length) : (meetT a b)[k]? = some (if a[k] == 120 then b[k]'(by omega) else a[k]) := by
  unfold meetT
  rw [List.getElem?_zipWith, List.getElem?_eq_getElem hk, List.getElem?_eq_getElem (show k < b.length by omega)]

end Go.Proofs.YtnboehlbcjfndaaGreatDoor.Tn
namespace Go.Proofs.YtnboehlbcjfndaaGreatDoor.Tn
open Go.RowKit

set_option maxHeartbeats 400000 in
theorem fits_any (a b : List UInt8) (w : World) : Calls Tryz.prog 138 #[cubeV a, cubeV b] w fun e w' => e = .returned (.bool (fitB a b)) ∧ Below w.heap.size w w' := by
  have hfin : Hid (fitB a b = (((a.length : Int) != 0) && ((a.length : Int) == (b.length : Int)))) := by
    unfold Hid fitB
    cases a with
    | nil => simp
    | cons x l =>
      rw [Bool.eq_iff_iff]
      simp
      omega
  unfold cubeV cv
  cases h0 : ((a.length : Int) != 0)
  all_goals
    go_enter Tryz.func138, Tryz.ntmps138
    go_wp2
    go_ret
    refine ⟨?_, ((Below.refl _ _).alloc (Nat.le_refl _) _).alloc (by simp) _⟩
    rw [hfin.out, h0]
    rfl

theorem fits_D (a b : List UInt8) (q : Bool) (w : World) (h : fitB a b = q) : Calls Tryz.prog 138 #[cubeV a, cubeV b] w fun e w' => e = .returned (.bool q) ∧ Below w.heap.size w w' := by
  subst h; exact fits_any a b w

set_option maxHeartbeats 1000000 in
theorem agrees_walk (a b : List UInt8) (q q0 q1 q2 q3 : Bool) (w : World) (hq0 : fitB a b = q) (h0 : cw a b 0 = q0) (h1 : cw a b 1 = q1) (h2 : cw a b 2 = q2) (h3 : cw a b 3 = q3) :
    Calls Tryz.prog 115 #[cubeV a, cubeV b] w fun e w' => e = .returned (.bool (q && (!q0 && !q1 && !q2 && !q3))) ∧ Below w.heap.size w w' := by
  have hq : Hid (fitB a b = q) := hq0
  clear hq0
  unfold cw at h0 h1 h2 h3
  unfold cubeV cv
  cases q
  · go_enter Tryz.func115, Tryz.ntmps115
    go_wp2_with (go_at_call 138; refine (fits_D a b false _ hq.out).mono ?_; rintro e w1 ⟨rfl, hb1⟩)
    go_ret
    exact ⟨rfl, bel1 (bel1 hb1)⟩
  · go_enter Tryz.func115, Tryz.ntmps115
    go_wp2_with (go_at_call 138; refine (fits_D a b true _ hq.out).mono ?_; rintro e w1 ⟨rfl, hb1⟩; obtain ⟨hc1, hf1⟩ := bcell hb1)
    refine wp_loop_rounds 5 ?_
    rw [rounds_succ]
    go_wp2
    go_quiet (fail)
    cases q0
    rotate_left
    · go_wp2
      go_ret
      exact ⟨rfl, by first | exact (bel1 (bel1 hb1)).trans (below_drewN _ _ _) | exact ((bel1 (bel1 hb1)).trans (below_drewN _ _ _)).trans (below_drewN _ _ _)⟩
    go_wp2
    rw [rounds_succ]
    go_wp2
    go_quiet (fail)
    cases q1
    rotate_left
    · go_wp2
      go_ret
      exact ⟨rfl, by first | exact (bel1 (bel1 hb1)).trans (below_drewN _ _ _) | exact ((bel1 (bel1 hb1)).trans (below_drewN _ _ _)).trans (below_drewN _ _ _)⟩
    go_wp2
    rw [rounds_succ]
    go_wp2
    go_quiet (fail)
    cases q2
    rotate_left
    · go_wp2
      go_ret
      exact ⟨rfl, by first | exact (bel1 (bel1 hb1)).trans (below_drewN _ _ _) | exact ((bel1 (bel1 hb1)).trans (below_drewN _ _ _)).trans (below_drewN _ _ _)⟩
    go_wp2
    rw [rounds_succ]
    go_wp2
    go_quiet (fail)
    cases q3
    rotate_left
    · go_wp2
      go_ret
      exact ⟨rfl, by first | exact (bel1 (bel1 hb1)).trans (below_drewN _ _ _) | exact ((bel1 (bel1 hb1)).trans (below_drewN _ _ _)).trans (below_drewN _ _ _)⟩
    go_wp2
    rw [rounds_succ]
    go_wp2
    go_ret
    exact ⟨rfl, (bel1 (bel1 hb1)).trans (below_drewN _ _ _)⟩

theorem agrees_any (a b : List UInt8) (w : World) (ha : good a = true) : Calls Tryz.prog 115 #[cubeV a, cubeV b] w fun e w' => e = .returned (.bool (agB a b)) ∧ Below w.heap.size w w' := by
  refine (agrees_walk a b _ _ _ _ _ w rfl rfl rfl rfl rfl).mono ?_
  rintro e w' ⟨rfl, hb⟩
  exact ⟨by unfold agB; rw [ag_words a b ha], hb⟩

theorem agrees_D (a b : List UInt8) (q : Bool) (w : World) (ha : good a = true) (h : agB a b = q) : Calls Tryz.prog 115 #[cubeV a, cubeV b] w fun e w' => e = .returned (.bool q) ∧ Below w.heap.size w w' := by
  subst h; exact agrees_any a b w ha

end Go.Proofs.YtnboehlbcjfndaaGreatDoor.Tn
namespace Go.Proofs.YtnboehlbcjfndaaGreatDoor.Tn
open Go.RowKit

end Go.Proofs.YtnboehlbcjfndaaGreatDoor.Tn
namespace Go.Proofs.YtnboehlbcjfndaaGreatDoor.Tn
open Go.RowKit

end Go.Proofs.YtnboehlbcjfndaaGreatDoor.Tn
namespace Go.Proofs.YtnboehlbcjfndaaGreatDoor.Tn
open Go.RowKit
end Go.Proofs.YtnboehlbcjfndaaGreatDoor.Tn
namespace Go.Proofs.YtnboehlbcjfndaaGreatDoor.Tn
open Go.RowKit
end Go.Proofs.YtnboehlbcjfndaaGreatDoor.Tn
namespace Go.Proofs.YtnboehlbcjfndaaGreatDoor.Tn
open Go.RowKit
end Go.Proofs.YtnboehlbcjfndaaGreatDoor.Tn
namespace Go.Proofs.YtnboehlbcjfndaaGreatDoor.Tn
open Go.RowKit

theorem keepblk {W w' : World} {b : Nat} {o : Obj} (hb : Below W.heap.size W w') (h : W.heap[b]? = some o) : w'.heap[b]? = some o := (hb.block b (lt_of_get h)).trans h
theorem allocblk {W : World} {b : Nat} {o : Obj} (h : W.heap[b]? = some o) (O : Obj) : (W.alloc O).heap[b]? = some o := (Below.heap_alloc _ _ _ (lt_of_get h)).trans h

end Go.Proofs.YtnboehlbcjfndaaGreatDoor.Tn

import Derived.Laws.BitsAllLaws
import Derived.Test.YtnboehlbcjfndaaGreatDoorYAA
import Derived.Laws.IdiomStrings
namespace Go.Proofs.YtnboehlbcjfndaaGreatDoor.Tn

def wd (p : Nat → Bool) : Nat → Nat
  | 0 => 0
  | n + 1 => wd p n ||| (if p n then 2 ^ n else 0)

theorem wd_lt (p : Nat → Bool) (n : Nat) : wd p n < 2 ^ n := by
  induction n with
  | zero => simp [wd]
  | succ n ih =>
    have h1 : 2 ^ n < 2 ^ (n + 1) := Nat.pow_lt_pow_right (by omega) (by omega)
    unfold wd
    refine Nat.or_lt_two_pow (by omega) ?_
    split
    · exact h1
    · omega

theorem wd_bit (p : Nat → Bool) (n i : Nat) : (wd p n).testBit i = (decide (i < n) && p i) := by
  induction n with
  | zero => simp [wd]
  | succ n ih =>
    unfold wd
    rw [Nat.testBit_or, ih]
    by_cases h : i = n
    · subst h
      cases p i <;> simp
    · have h2 : (if p n then 2 ^ n else 0).testBit i = false := by
        cases p n <;> simp [Nat.testBit_two_pow]
        omega
      rw [h2, Bool.or_false]
      congr 1
      simp
      omega

theorem wd_congr (p q : Nat → Bool) (n : Nat) (h : ∀ i, i < n → p i = q i) : wd p n = wd q n := by
  apply Nat.eq_of_testBit_eq
  intro i
  rw [wd_bit, wd_bit]
  by_cases hi : i < n
  · rw [h i hi]
  · simp [hi]

theorem wd_zero (p : Nat → Bool) (n : Nat) (h : ∀ i, i < n → p i = false) : wd p n = 0 := by
  apply Nat.eq_of_testBit_eq
  intro i
  rw [wd_bit]
  by_cases hi : i < n
  · simp [h i hi]
  · simp [hi]

def fx (t : List UInt8) (k : Nat) : Bool := match t[k]? with | some b => b != 120 | none => false
def on (t : List UInt8) (k : Nat) : Bool := match t[k]? with | some b => b == 49 | none => false
def FW (t : List UInt8) (w : Nat) : Nat := wd (fun i => fx t (64 * w + i)) 64
def OW (t : List UInt8) (w : Nat) : Nat := wd (fun i => on t (64 * w + i)) 64

theorem FW_lt (t : List UInt8) (w : Nat) : FW t w < 18446744073709551616 := wd_lt _ 64
theorem OW_lt (t : List UInt8) (w : Nat) : OW t w < 18446744073709551616 := wd_lt _ 64
theorem FW_bit (t : List UInt8) (w i : Nat) : (FW t w).testBit i = (decide (i < 64) && fx t (64 * w + i)) := wd_bit _ _ _
theorem OW_bit (t : List UInt8) (w i : Nat) : (OW t w).testBit i = (decide (i < 64) && on t (64 * w + i)) := wd_bit _ _ _

def tri (b : UInt8) : Bool := b == 48 || b == 49 || b == 120
def good (t : List UInt8) : Bool := decide (t.length ≤ 256) && t.all tri

theorem good_len {t : List UInt8} (h : good t = true) : t.length ≤ 256 := by
  simp [good] at h; exact h.1
theorem good_tri {t : List UInt8} (h : good t = true) (k : Nat) (hk : k < t.length) : tri t[k] = true := by
  simp [good] at h; exact h.2 _ (List.getElem_mem hk)

theorem pow_lt64 (r : Nat) (h : r < 64) : 2 ^ r < 18446744073709551616 := by
  have : 2 ^ r < 2 ^ 64 := Nat.pow_lt_pow_right (by omega) h
  exact this

theorem and_bit (x r : Nat) : (x &&& 2 ^ r == 0) = !x.testBit r := by
  rw [nat_bit, ← Nat.shiftRight_eq_div_pow]
  have hp : 0 < 2 ^ r := Nat.two_pow_pos r
  have h : x.testBit r = decide (x >>> r % 2 = 1) := Nat.testBit_eq_decide_div_mod_eq ▸ by rw [Nat.shiftRight_eq_div_pow]
  rw [h]
  rcases Nat.mod_two_eq_zero_or_one (x >>> r) with e | e
  · simp [e]
  · simp [e]

theorem bits_and_bit (x r : Nat) (hx : x < 18446744073709551616) (hr : r < 64) : (bits .and .u64 (x : Int) ((2 ^ r : Nat) : Int) == 0) = !x.testBit r := by
  rw [u64_and_nat x (2 ^ r) hx (pow_lt64 r hr), ← and_bit x r]
  rw [Bool.eq_iff_iff]
  simp only [beq_iff_eq]
  omega

theorem FW_at (t : List UInt8) (k r : Nat) (hr : r < 64) : (bits .and .u64 (FW t k : Int) ((2 ^ r : Nat) : Int) == 0) = !fx t (64 * k + r) := by
  rw [bits_and_bit _ _ (FW_lt _ _) hr, FW_bit]; simp [hr]
theorem OW_at (t : List UInt8) (k r : Nat) (hr : r < 64) : (bits .and .u64 (OW t k : Int) ((2 ^ r : Nat) : Int) == 0) = !on t (64 * k + r) := by
  rw [bits_and_bit _ _ (OW_lt _ _) hr, OW_bit]; simp [hr]

theorem at_eq (t : List UInt8) (p : Nat) (hp : p < t.length) (ht : tri t[p] = true) :
    (if (!fx t p) = true then (120 : Int) else if (!on t p) = true then 48 else 49) = (t[p].toNat : Int) := by
  have h0 : t[p]? = some t[p] := List.getElem?_eq_getElem hp
  simp only [fx, on, h0]
  generalize t[p] = b at *
  simp [tri] at ht
  rcases ht with (rfl | rfl) | rfl <;> simp

theorem fx_set (t : List UInt8) (p j : Nat) (b : UInt8) (hb : b ≠ 120) (hp : p < t.length) : fx (t.set p b) j = (fx t j || decide (j = p)) := by
  unfold fx
  by_cases h : j = p
  · subst h
    simp [List.getElem?_set_self hp, hb]
  · rw [List.getElem?_set_ne (by omega)]; simp [h]

theorem on_set (t : List UInt8) (p j : Nat) (b : UInt8) (hp : p < t.length) (hx : t[p] = 120) : on (t.set p b) j = (on t j || (decide (j = p) && (b == 49))) := by
  unfold on
  by_cases h : j = p
  · subst h
    simp [List.getElem?_set_self hp, List.getElem?_eq_getElem hp, hx]
  · rw [List.getElem?_set_ne (by omega)]; simp [h]

theorem FW_set_ne (t : List UInt8) (k j r : Nat) (b : UInt8) (hr : r < 64) (hb : b ≠ 120) (hp : 64 * k + r < t.length) (hj : j ≠ k) : FW (t.set (64 * k + r) b) j = FW t j := by
  apply wd_congr
  intro i hi
  rw [fx_set _ _ _ _ hb hp]
  have : 64 * j + i ≠ 64 * k + r := by omega
  simp [this]

theorem OW_set_ne (t : List UInt8) (k j r : Nat) (b : UInt8) (hr : r < 64) (hp : 64 * k + r < t.length) (hx : t[64 * k + r] = 120) (hj : j ≠ k) : OW (t.set (64 * k + r) b) j = OW t j := by
  apply wd_congr
  intro i hi
  rw [on_set _ _ _ _ hp hx]
  have : 64 * j + i ≠ 64 * k + r := by omega
  simp [this]

theorem FW_set (t : List UInt8) (k r : Nat) (b : UInt8) (hr : r < 64) (hb : b ≠ 120) (hp : 64 * k + r < t.length) :
    bits .or .u64 (FW t k : Int) ((2 ^ r : Nat) : Int) = (FW (t.set (64 * k + r) b) k : Nat) := by
  rw [u64_or_nat _ _ (FW_lt _ _) (pow_lt64 r hr)]
  congr 1
  apply Nat.eq_of_testBit_eq
  intro i
  rw [Nat.testBit_or, FW_bit, FW_bit, Nat.testBit_two_pow, fx_set _ _ _ _ hb hp]
  by_cases hi : i < 64
  · by_cases h : r = i
    · subst h; simp [hi]
    · have h2 : ¬ i = r := by omega
      simp [hi, h, h2]
  · have : ¬ r = i := by omega
    simp [hi, this]

def dg (D r : Nat) : UInt8 := if D.testBit r then 49 else 48
theorem dg_ne (D r : Nat) : dg D r ≠ 120 := by unfold dg; split <;> decide
theorem dg_49 (D r : Nat) : (dg D r == 49) = D.testBit r := by unfold dg; cases D.testBit r <;> simp

theorem OW_set (t : List UInt8) (k r D : Nat) (hr : r < 64) (hD : D < 18446744073709551616) (hp : 64 * k + r < t.length) (hx : t[64 * k + r] = 120) :
    bits .or .u64 (OW t k : Int) (bits .and .u64 ((2 ^ r : Nat) : Int) (D : Int)) = (OW (t.set (64 * k + r) (dg D r)) k : Nat) := by
  have hand : 2 ^ r &&& D < 18446744073709551616 := Nat.lt_of_le_of_lt Nat.and_le_right hD
  rw [u64_and_nat _ _ (pow_lt64 r hr) hD, u64_or_nat _ _ (OW_lt _ _) hand]
  congr 1
  apply Nat.eq_of_testBit_eq
  intro i
  rw [Nat.testBit_or, Nat.testBit_and, OW_bit, OW_bit, Nat.testBit_two_pow, on_set _ _ _ _ hp hx, dg_49]
  by_cases hi : i < 64
  · by_cases h : r = i
    · subst h; simp [hi]
    · have h2 : ¬ i = r := by omega
      simp [hi, h, h2]
  · have : ¬ r = i := by omega
    simp [hi, this]

theorem FW_all (n w : Nat) : FW (List.replicate n 120) w = 0 := by
  apply wd_zero
  intro i _
  unfold fx
  rw [List.getElem?_replicate]
  split <;> simp_all
theorem OW_all (n w : Nat) : OW (List.replicate n 120) w = 0 := by
  apply wd_zero
  intro i _
  unfold on
  rw [List.getElem?_replicate]
  by_cases h : 64 * w + i < n <;> simp [h]

def st (t : List UInt8) (k : Nat) : List UInt8 := t.take k ++ List.replicate (t.length - k) 120
theorem st_len (t : List UInt8) (k : Nat) (h : k ≤ t.length) : (st t k).length = t.length := by simp [st]; omega
theorem st_zero (t : List UInt8) : st t 0 = List.replicate t.length 120 := by simp [st]
theorem st_all (t : List UInt8) : st t t.length = t := by simp [st]
theorem st_get (t : List UInt8) (k : Nat) (h : k < t.length) : (st t k)[k]'(by rw [st_len _ _ (by omega)]; exact h) = 120 := by
  unfold st
  rw [List.getElem_append_right (by simp; omega)]
  simp
theorem st_succ (t : List UInt8) (k : Nat) (h : k < t.length) : (st t k).set k t[k] = st t (k + 1) := by
  apply List.ext_getElem?
  intro i
  by_cases hi : i = k
  · subst hi
    rw [List.getElem?_set_self (by rw [st_len _ _ (by omega)]; exact h)]
    unfold st
    rw [List.getElem?_append_left (by simp; omega), List.getElem?_take_of_lt (by omega), List.getElem?_eq_getElem h]
  · rw [List.getElem?_set_ne (by omega)]
    unfold st
    rw [List.getElem?_append, List.getElem?_append]
    simp only [List.length_take, List.getElem?_take, List.getElem?_replicate]
    repeat' split
    all_goals first | rfl | omega | skip
theorem st_skip (t : List UInt8) (k : Nat) (h : k < t.length) (hx : t[k] = 120) : st t (k + 1) = st t k := by
  rw [← st_succ t k h, hx]
  have := st_get t k h
  rw [← this]
  exact List.set_getElem_self _

def refP (t : List UInt8) : Int := if 256 < t.length then 2 else if t = [] then 10 else if t.all tri = true then 0 else 10
def cubeT (t : List UInt8) : List UInt8 := if refP t = 0 then t else []

theorem refP_zero (t : List UInt8) : refP t = 0 ↔ (t ≠ [] ∧ good t = true) := by
  unfold refP good
  by_cases h1 : 256 < t.length
  · simp [h1]; omega
  · by_cases h2 : t = []
    · simp [h2]
    · by_cases h3 : t.all tri = true
      · simp [h1, h2, h3]; omega
      · simp [h1, h2, h3]

theorem cubeT_nil_iff (t : List UInt8) (h : refP t ≠ 0) : cubeT t = [] := by unfold cubeT; rw [if_neg h]
theorem cubeT_self (t : List UInt8) (h : refP t = 0) : cubeT t = t := by unfold cubeT; rw [if_pos h]
theorem good_replicate (n : Nat) (h : n ≤ 256) : good (List.replicate n 120) = true := by
  simp [good, h, tri]

end Go.Proofs.YtnboehlbcjfndaaGreatDoor.Tn
namespace Go.Proofs.YtnboehlbcjfndaaGreatDoor.Tn
open Go.RowKit

def cubeV (t : List UInt8) : Value := cv t.length (FW t 0) (FW t 1) (FW t 2) (FW t 3) (OW t 0) (OW t 1) (OW t 2) (OW t 3)

theorem cubeV_all (n : Nat) : cubeV (List.replicate n 120) = cv n 0 0 0 0 0 0 0 0 := by
  unfold cubeV; simp only [FW_all, OW_all, List.length_replicate]; rfl

theorem all_any (n : Int) (w : World) : Calls Tryz.prog 59 #[.int .i64 n] w fun e w' => e = .returned (cubeV (if 1 ≤ n ∧ n ≤ 256 then List.replicate n.toNat 120 else [])) ∧ Below w.heap.size w w' := by
  by_cases h : 1 ≤ n ∧ n ≤ 256
  · rw [if_pos h]
    refine (all_yes n w h.1 h.2).mono ?_
    rintro e w' ⟨rfl, hb⟩
    refine ⟨?_, hb⟩
    rw [cubeV_all]
    have : ((n.toNat : Nat) : Int) = n := by omega
    rw [this]
  · rw [if_neg h]
    refine (all_no n w (by omega)).mono ?_
    rintro e w' ⟨rfl, hb⟩
    refine ⟨?_, hb⟩
    have := cubeV_all 0
    rw [List.replicate_zero] at this
    rw [this]; rfl

theorem fix_any (t : List UInt8) (k r D : Nat) (w : World) (hk : k < 4) (hr : r < 64) (hD : D < 18446744073709551616) (hp : 64 * k + r < t.length) (hx : t[64 * k + r] = 120) :
    Calls Tryz.prog 116 #[cubeV t, .int .i64 k, .int .u64 ((2 ^ r : Nat) : Int), .int .u64 (D : Int)] w fun e w' => e = .returned (cubeV (t.set (64 * k + r) (dg D r))) ∧ Below w.heap.size w w' := by
  have h1 := FW_set t k r (dg D r) hr (dg_ne D r) hp
  have h2 := OW_set t k r D hr hD hp hx
  have g1 := fun j hj => FW_set_ne t k j r (dg D r) hr (dg_ne D r) hp hj
  have g2 := fun j hj => OW_set_ne t k j r (dg D r) hr hp hx hj
  have hl : (t.set (64 * k + r) (dg D r)).length = t.length := by simp
  match k, hk with
  | 0, _ =>
    refine (fix_0 _ _ _ _ _ _ _ _ _ _ _ w).mono ?_
    rintro e w' ⟨rfl, hb⟩
    refine ⟨?_, hb⟩
    rw [h1, h2]
    unfold cubeV
    rw [g1 1 (by decide), g1 2 (by decide), g1 3 (by decide), g2 1 (by decide), g2 2 (by decide), g2 3 (by decide), hl]
  | 1, _ =>
    refine (fix_1 _ _ _ _ _ _ _ _ _ _ _ w).mono ?_
    rintro e w' ⟨rfl, hb⟩
    refine ⟨?_, hb⟩
    rw [h1, h2]
    unfold cubeV
    rw [g1 0 (by decide), g1 2 (by decide), g1 3 (by decide), g2 0 (by decide), g2 2 (by decide), g2 3 (by decide), hl]
  | 2, _ =>
    refine (fix_2 _ _ _ _ _ _ _ _ _ _ _ w).mono ?_
    rintro e w' ⟨rfl, hb⟩
    refine ⟨?_, hb⟩
    rw [h1, h2]
    unfold cubeV
    rw [g1 0 (by decide), g1 1 (by decide), g1 3 (by decide), g2 0 (by decide), g2 1 (by decide), g2 3 (by decide), hl]
  | 3, _ =>
    refine (fix_3 _ _ _ _ _ _ _ _ _ _ _ w).mono ?_
    rintro e w' ⟨rfl, hb⟩
    refine ⟨?_, hb⟩
    rw [h1, h2]
    unfold cubeV
    rw [g1 0 (by decide), g1 1 (by decide), g1 2 (by decide), g2 0 (by decide), g2 1 (by decide), g2 2 (by decide), hl]

theorem at_any (t : List UInt8) (p : Int) (q : Nat) (w : World) (hg : good t = true) (hp : p = (q : Int)) (hq : q < t.length) :
    Calls Tryz.prog 94 #[cubeV t, .int .i64 p] w fun e w' => e = .returned (.int .u8 (t[q].toNat : Int)) ∧ Below w.heap.size w w' := by
  have hl := good_len hg
  have ht := good_tri hg q hq
  have hkr : ∃ k r, k < 4 ∧ r < 64 ∧ q = 64 * k + r := ⟨q / 64, q % 64, by omega, by omega, by omega⟩
  obtain ⟨k, r, hk, hr, rfl⟩ := hkr
  have e := at_eq t (64 * k + r) hq ht
  rw [← FW_at t k r hr, ← OW_at t k r hr] at e
  match k, hk with
  | 0, _ =>
    refine (at_0 _ _ _ _ _ _ _ _ _ p r w hr hp).mono ?_
    rintro e' w' ⟨rfl, hb⟩
    exact ⟨by rw [e], hb⟩
  | 1, _ =>
    refine (at_1 _ _ _ _ _ _ _ _ _ p r w hr hp).mono ?_
    rintro e' w' ⟨rfl, hb⟩
    exact ⟨by rw [e], hb⟩
  | 2, _ =>
    refine (at_2 _ _ _ _ _ _ _ _ _ p r w hr hp).mono ?_
    rintro e' w' ⟨rfl, hb⟩
    exact ⟨by rw [e], hb⟩
  | 3, _ =>
    refine (at_3 _ _ _ _ _ _ _ _ _ p r w hr hp).mono ?_
    rintro e' w' ⟨rfl, hb⟩
    exact ⟨by rw [e], hb⟩
end Go.Proofs.YtnboehlbcjfndaaGreatDoor.Tn
namespace Go.Proofs.YtnboehlbcjfndaaGreatDoor.Tn
open Go.RowKit

theorem info_u8 : (Tryz.prog.info? 5).map (fun i => (i.zero, i.size, i.bytes)) = some (some (.int .u8 0), 1, 1) := by kernel_rfl

theorem grown_of_below {w w' : World} (h : Below w.heap.size w w') (row : Option Nat) : w.grownBy w' row :=
  ⟨h.os, h.tape, h.output, h.size, fun k hk _ => h.block k hk⟩

theorem owns_below {w w' : World} {base : Nat} {e : TypeId} {size : Nat} {v : Value} {n : Nat} {xs : List Value} (h : w.ownsRow base e size v n xs) (hb : Below w.heap.size w w') : w'.ownsRow base e size v n xs := by
  refine h.kept (grown_of_below hb none) ?_
  cases v.ownBlock <;> simp

def bys (t : List UInt8) : List Value := t.map fun b => .int .u8 (b.toNat : Int)
def rowAt (t : List UInt8) (k : Nat) : List Value := bys (t.take k) ++ List.replicate (t.length - k) (.int .u8 0)

theorem rowAt_all (t : List UInt8) : rowAt t t.length = bys t := by simp [rowAt]
theorem rowAt_zero (t : List UInt8) : rowAt t 0 = List.replicate t.length (.int .u8 0) := by simp [rowAt, bys]
theorem rowAt_get (t : List UInt8) (k : Nat) (h : k < t.length) : (rowAt t k)[k]? = some (.int .u8 0) := by
  unfold rowAt bys
  rw [List.getElem?_append_right (by simp; omega)]
  have h1 : min k t.length = k := by omega
  have h2 : 0 < t.length - k := by omega
  simp [h1, h2]
theorem rowAt_succ (t : List UInt8) (k : Nat) (h : k < t.length) : (rowAt t k).set k (.int .u8 (t[k].toNat : Int)) = rowAt t (k + 1) := by
  unfold rowAt bys
  have hs : t.take (k + 1) = t.take k ++ [t[k]] := List.take_succ_eq_append_getElem h
  have : t.length - k = (t.length - (k + 1)) + 1 := by omega
  rw [this, List.replicate_succ, List.set_append_right _ _ (by simp; omega), hs, List.map_append]
  simp [Nat.min_eq_left (Nat.le_of_lt h)]

theorem add_plain (b o j : Nat) : (⟨b, o, none⟩ : Addr).add j = ⟨b, o + j, none⟩ := by unfold Addr.add; split <;> simp_all

theorem conv_owned (W : World) (B g cap : Nat) (t : List UInt8) (hown : W.ownsRow B 5 1 (.slice (some ⟨g, 0, none⟩) t.length cap) t.length (bys t)) :
    (convert 60 9 (.slice (some ⟨g, 0, none⟩) t.length cap)).run Tryz.prog W = .ok (.string ⟨t.toArray⟩) W := by
  refine run_convert_bytes_back _ _ _ 5 _ _ t Tryz.underlying60 Tryz.underlying5 Tryz.underlying9 ?_
  intro j hj
  have := hown.cellAt j (by omega)
  rw [add_plain, Nat.zero_add, this]
  simp [bys, List.getElem?_eq_getElem hj]

set_option maxHeartbeats 400000 in
theorem text_any (t : List UInt8) (w : World) (hg : good t = true) :
    Calls Tryz.prog 87 #[cubeV t] w fun e w' => e = .returned (.string ⟨t.toArray⟩) ∧ Below w.heap.size w w' := by
  have hl := good_len hg
  obtain ⟨i0, hi, hz0, hz1, hz2⟩ := info_parts info_u8
  unfold cubeV cv
  go_enter Tryz.func87, Tryz.ntmps87
  go_wp2_with (at_make; refine wpList_make_full _ rfl _ _ 60 rfl (w.heap.size + 1) 5 i0 (.int .u8 0) 1 Tryz.underlying60 hi hz0 hz1 .i64 .i64 _ _ t.length rfl rfl rfl rfl (by rw [hz2]; omega) (by unfold maxLen; omega) (by simp) ?_; intro w1 hown hgrow)
  have hB : Below (w.heap.size + 1) (w.alloc (.cells #[.int .i64 (t.length : Int), .int .u64 (FW t 0 : Int), .int .u64 (FW t 1 : Int), .int .u64 (FW t 2 : Int), .int .u64 (FW t 3 : Int), .int .u64 (OW t 0 : Int), .int .u64 (OW t 1 : Int), .int .u64 (OW t 2 : Int), .int .u64 (OW t 3 : Int)] 106)) w1 := (Below.refl _ _).grown hgrow (by simp) (fun k h => by cases h)
  have hown' : w1.ownsRow (w.heap.size + 1) 5 1 (.slice (some ⟨w.heap.size + 1, 0, none⟩) t.length t.length) t.length (rowAt t 0) := by
    rw [rowAt_zero]
    have h1 : (madeCells (Value.int IntKind.u8 0).cells (t.length * 1)).toList = List.replicate t.length (.int .u8 0) := by rw [Nat.mul_one]; exact toList_madeCells_one _ _
    rw [h1] at hown
    simpa using hown
  clear hown hgrow
  go_loopw [10] (fun i wr => ∃ k : Nat, k ≤ t.length ∧ i = .int .i64 k ∧ wr.ownsRow (w.heap.size + 1) 5 1 (.slice (some ⟨w.heap.size + 1, 0, none⟩) t.length t.length) t.length (rowAt t k) ∧ Below (w.heap.size + 1) (w.alloc (.cells #[.int .i64 (t.length : Int), .int .u64 (FW t 0 : Int), .int .u64 (FW t 1 : Int), .int .u64 (FW t 2 : Int), .int .u64 (FW t 3 : Int), .int .u64 (OW t 0 : Int), .int .u64 (OW t 1 : Int), .int .u64 (OW t 2 : Int), .int .u64 (OW t 3 : Int)] 106)) wr) (fun i _ => t.length - (intOf i).toNat)
  case atStart => exact ⟨0, Nat.zero_le _, rfl, hown', hB⟩
  case round =>
    clear hB hown'
    obtain ⟨k, hk, rfl, hown, hB⟩ := hrel
    have hc : ∀ b o, b < w.heap.size + 1 → wr.cell? ⟨b, o, none⟩ = (w.alloc (.cells #[.int .i64 (t.length : Int), .int .u64 (FW t 0 : Int), .int .u64 (FW t 1 : Int), .int .u64 (FW t 2 : Int), .int .u64 (FW t 3 : Int), .int .u64 (OW t 0 : Int), .int .u64 (OW t 1 : Int), .int .u64 (OW t 2 : Int), .int .u64 (OW t 3 : Int)] 106)).cell? ⟨b, o, none⟩ := fun b o h => hB.cell (p := ⟨b, o, none⟩) h
    have hsz : w.heap.size + 1 ≤ wr.heap.size := by have := hB.size; simpa using this
    by_cases hlt : k < t.length
    · go_wp2_with (go_at_call 94; refine (at_any t _ k _ hg rfl hlt).mono ?_; rintro e w2 ⟨rfl, hb2⟩; have hown2 := owns_below hown hb2; have hc2 := (hown2.cellAt k (by omega)).trans (rowAt_get t k hlt); have hf2 := hown2.frozenAt k)
      go_roundw
      case rel =>
        refine ⟨k + 1, by omega, by go_num, ?_, ?_⟩
        · have := hown2.stored k (.int .u8 (t[k].toNat : Int))
          rw [rowAt_succ t k hlt] at this
          exact this.1
        · exact (hB.trans (hb2.mono hsz)).setCell (Nat.le_refl _) _
      case measure => simp [intOf]; omega
    · have hkn : k = t.length := by omega
      subst hkn
      rw [rowAt_all] at hown
      have hcv := conv_owned wr (w.heap.size + 1) (w.heap.size + 1) t.length t hown
      go_wp2
      go_ret
      exact ⟨rfl, ((Below.refl _ _).alloc (Nat.le_refl _) _).trans (hB.mono (by omega))⟩
end Go.Proofs.YtnboehlbcjfndaaGreatDoor.Tn
namespace Go.Proofs.YtnboehlbcjfndaaGreatDoor.Tn
open Go.RowKit

theorem cells_block {W : World} {b T : Nat} {cs : Array Value} (h : W.heap[b]? = some (.cells cs T (0, 0))) : (∀ j, W.cell? ⟨b, j, none⟩ = cs[j]?) ∧ ∀ j, W.frozen? ⟨b, j, none⟩ = false := by
  constructor
  · intro j; unfold World.cell?; rw [h]; simp
  · intro j; unfold World.frozen?; rw [h]; simp

set_option maxHeartbeats 400000 in
theorem parse_long (s : ByteArray) (w : World) (hs : s.size ≤ maxLen) (h : 256 < s.size) :
    Calls Tryz.prog 83 #[.string s] w fun e w' => e = .returned (.tuple #[cv 0 0 0 0 0 0 0 0 0, .int .i64 2]) ∧ Below w.heap.size w w' := by
  unfold maxLen at hs
  have h' : (256 : Int) < s.size := by omega
  go_enter Tryz.func83, Tryz.ntmps83
  go_wp2_with fail
  exact bodyPost_ret (v := .tuple #[cv 0 0 0 0 0 0 0 0 0, .int .i64 2]) (by simp [results, Tryz.results83, go_sem, cv]) rfl ⟨rfl, (Below.refl _ _).alloc (Nat.le_refl _) _⟩

set_option maxHeartbeats 400000 in
theorem parse_none (s : ByteArray) (w : World) (h : s.toList = []) :
    Calls Tryz.prog 83 #[.string s] w fun e w' => e = .returned (.tuple #[cv 0 0 0 0 0 0 0 0 0, .int .i64 10]) ∧ Below w.heap.size w w' := by
  have hz : s = ⟨#[]⟩ := by
    rw [ByteArray.toList_eq] at h
    obtain ⟨⟨l⟩⟩ := s
    simp at h
    subst h; rfl
  subst hz
  go_enter Tryz.func83, Tryz.ntmps83
  go_wp2_with fail
  exact bodyPost_ret (v := .tuple #[cv 0 0 0 0 0 0 0 0 0, .int .i64 10]) (by simp [results, Tryz.results83, go_sem, cv]) rfl ⟨rfl, (Below.refl _ _).alloc (Nat.le_refl _) _⟩

theorem alloc_get (w : World) (o : Obj) : (w.alloc o).heap[w.heap.size]? = some o := by
  show (w.heap.push o)[w.heap.size]? = _
  simp

theorem lt_of_get {w : World} {b : Nat} {o : Obj} (h : w.heap[b]? = some o) : b < w.heap.size := by
  rcases Nat.lt_or_ge b w.heap.size with h1 | h1
  · exact h1
  · rw [Array.getElem?_eq_none h1] at h; cases h

theorem set_get {W : World} {b j T : Nat} {m : Nat × Nat} {cs : Array Value} (v : Value) (h : W.heap[b]? = some (.cells cs T m)) : (W.setCell ⟨b, j, none⟩ v).heap[b]? = some (.cells (cs.setIfInBounds j v) T m) := by
  simp only [World.setCell, Array.getElem?_modify, if_pos, h, Option.map_some]
  simp

def put9 (W : World) (b : Nat) (v0 v1 v2 v3 v4 v5 v6 v7 v8 : Value) : World :=
  ((((((((W.setCell ⟨b, 0, none⟩ v0).setCell ⟨b, 1, none⟩ v1).setCell ⟨b, 2, none⟩ v2).setCell ⟨b, 3, none⟩ v3).setCell ⟨b, 4, none⟩ v4).setCell ⟨b, 5, none⟩ v5).setCell ⟨b, 6, none⟩ v6).setCell ⟨b, 7, none⟩ v7).setCell ⟨b, 8, none⟩ v8

theorem put9_get {W : World} {b T : Nat} {m : Nat × Nat} {x0 x1 x2 x3 x4 x5 x6 x7 x8 : Value} (v0 v1 v2 v3 v4 v5 v6 v7 v8 : Value) (h : W.heap[b]? = some (.cells #[x0, x1, x2, x3, x4, x5, x6, x7, x8] T m)) :
    (put9 W b v0 v1 v2 v3 v4 v5 v6 v7 v8).heap[b]? = some (.cells #[v0, v1, v2, v3, v4, v5, v6, v7, v8] T m) := by
  unfold put9
  have h0 := set_get (j := 0) v0 h
  have h1 := set_get (j := 1) v1 h0
  have h2 := set_get (j := 2) v2 h1
  have h3 := set_get (j := 3) v3 h2
  have h4 := set_get (j := 4) v4 h3
  have h5 := set_get (j := 5) v5 h4
  have h6 := set_get (j := 6) v6 h5
  have h7 := set_get (j := 7) v7 h6
  have h8 := set_get (j := 8) v8 h7
  rw [h8]
  simp

theorem put9_below {B : Nat} {a W : World} {b : Nat} (v0 v1 v2 v3 v4 v5 v6 v7 v8 : Value) (h : Below B a W) (hb : B ≤ b) : Below B a (put9 W b v0 v1 v2 v3 v4 v5 v6 v7 v8) :=
  ((((((((h.setCell (p := ⟨b, 0, none⟩) hb v0).setCell (p := ⟨b, 1, none⟩) hb v1).setCell (p := ⟨b, 2, none⟩) hb v2).setCell (p := ⟨b, 3, none⟩) hb v3).setCell (p := ⟨b, 4, none⟩) hb v4).setCell (p := ⟨b, 5, none⟩) hb v5).setCell (p := ⟨b, 6, none⟩) hb v6).setCell (p := ⟨b, 7, none⟩) hb v7).setCell (p := ⟨b, 8, none⟩) hb v8

theorem res_cube2 {fn : Func} {p u : Tmp} {m : Nat × Nat} (tmps : Array Value) (W : World) (b : Nat) (n a1 a2 a3 a4 o1 o2 o3 o4 : Int) (hr : fn.results = #[.cell p 106, .tmp u]) (hp : tmps.getD p undef = .pointer (some ⟨b, 0, none⟩))
    (h : W.heap[b]? = some (.cells #[.int .i64 n, .int .u64 a1, .int .u64 a2, .int .u64 a3, .int .u64 a4, .int .u64 o1, .int .u64 o2, .int .u64 o3, .int .u64 o4] 106 m)) :
    (results fn tmps).run Tryz.prog W = .ok (.tuple #[cv n a1 a2 a3 a4 o1 o2 o3 o4, tmps.getD u undef]) W := by
  have hc : ∀ j, W.cell? ⟨b, j, none⟩ = (#[.int .i64 n, .int .u64 a1, .int .u64 a2, .int .u64 a3, .int .u64 a4, .int .u64 o1, .int .u64 o2, .int .u64 o3, .int .u64 o4] : Array Value)[j]? := by
    intro j; unfold World.cell?; rw [h]; simp
  rw [results_cell_tmp hr, hp]
  simp [go_sem, cv, hc]

theorem spotX (p q r X : Nat) (w : World) (hq : q < 4) (hr : r < 64) (hX : X = 2 ^ r) (he : p = 64 * q + r) :
    Calls Tryz.prog 110 #[.int .i64 (p : Int)] w fun e w' => e = .returned (.tuple #[.int .i64 (q : Int), .int .u64 (X : Int)]) ∧ ∃ n, w' = w.drewN n := by
  subst hX
  exact spot_at p q r w hq hr (by rw [he])

theorem byte_at (s : ByteArray) (k : Nat) (h : k < s.size) : s.data.toList[k]'(by simpa using h) = s[k] := rfl

theorem st_cells0 (s : ByteArray) : (#[.int .i64 (s.size : Int), .int .u64 0, .int .u64 0, .int .u64 0, .int .u64 0, .int .u64 0, .int .u64 0, .int .u64 0, .int .u64 0] : Array Value) = (fun t => #[.int .i64 (t.length : Int), .int .u64 (FW t 0 : Int), .int .u64 (FW t 1 : Int), .int .u64 (FW t 2 : Int), .int .u64 (FW t 3 : Int), .int .u64 (OW t 0 : Int), .int .u64 (OW t 1 : Int), .int .u64 (OW t 2 : Int), .int .u64 (OW t 3 : Int)]) (st s.data.toList 0) := by
  have h := cubeV_all s.data.toList.length
  rw [← st_zero] at h
  unfold cubeV cv at h
  have hl : s.data.toList.length = s.size := by simp
  simp only [Value.agg.injEq] at h
  rw [hl] at h
  exact h.symm

theorem tri_succ {s : ByteArray} {k : Nat} (hlt : k < s.size) (htri : ∀ j (h : j < s.data.toList.length), j < k → tri s.data.toList[j] = true) (hc : s[k] = 48 ∨ s[k] = 49 ∨ s[k] = 120) :
    ∀ j (h : j < s.data.toList.length), j < k + 1 → tri s.data.toList[j] = true := by
  intro j hj hjk
  by_cases e : j = k
  · subst e
    rw [byte_at s j hlt]
    rcases hc with h | h | h <;> rw [h] <;> decide
  · exact htri j hj (by omega)

theorem ne_byte {b : UInt8} {n : Nat} (h : b ≠ UInt8.ofNat n) : ((b.toNat : Int) == ((n : Nat) : Int)) = false := by
  rw [beq_eq_false_iff_ne]
  intro e
  have e2 : b.toNat = n := by omega
  apply h
  rw [← e2]
  simp

theorem parse_bad (s : ByteArray) (k : Nat) (hlt : k < s.size) (h2 : s.size ≤ 256) (c48 : ¬ s[k] = 48) (c49 : ¬ s[k] = 49) (c120 : ¬ s[k] = 120) : refP s.data.toList = 10 ∧ cubeT s.data.toList = [] := by
  have hlen : s.data.toList.length = s.size := by simp
  have hall : ¬ s.data.toList.all tri = true := by
    intro h
    rw [List.all_eq_true] at h
    have := h s[k] (by rw [← byte_at s k hlt]; exact List.getElem_mem _)
    simp [tri, c48, c49, c120] at this
  have h1 : refP s.data.toList = 10 := by
    unfold refP
    rw [if_neg (by omega)]
    split <;> rfl
  refine ⟨h1, ?_⟩
  unfold cubeT
  rw [h1]; rfl

theorem parse_good (s : ByteArray) (h1 : 1 ≤ s.size) (h2 : s.size ≤ 256) (h : ∀ j (h : j < s.data.toList.length), tri s.data.toList[j] = true) : refP s.data.toList = 0 ∧ cubeT s.data.toList = s.data.toList := by
  have hlen : s.data.toList.length = s.size := by simp
  have hz : refP s.data.toList = 0 := by
    rw [refP_zero]
    refine ⟨?_, ?_⟩
    · intro e; rw [e] at hlen; simp at hlen; omega
    · unfold good
      rw [Bool.and_eq_true, List.all_eq_true]
      refine ⟨by simp; omega, ?_⟩
      intro x hx
      obtain ⟨j, hj, rfl⟩ := List.getElem_of_mem hx
      exact h j hj
  exact ⟨hz, cubeT_self _ hz⟩

theorem cubeV_nil : cubeV [] = cv 0 0 0 0 0 0 0 0 0 := by
  have := cubeV_all 0
  rw [List.replicate_zero] at this
  rw [this]; rfl

theorem below3 {w w1 wr : World} {o : Obj} (hb1 : Below (w.alloc o).heap.size (w.alloc o) w1) (hB : Below w1.heap.size w1 wr) (nq : Nat) : Below w.heap.size w (wr.drewN nq) := by
  have h0 : Below w.heap.size w (w.alloc o) := (Below.refl _ _).alloc (Nat.le_refl _) _
  have hz : w.heap.size ≤ (w.alloc o).heap.size := h0.size
  have hz1 := hb1.size
  exact ((h0.trans (hb1.mono hz)).trans (hB.mono (by omega))).trans (below_drewN _ _ _)

theorem bits_or0 (t : List UInt8) (q r : Nat) (hr : r < 64) : bits .or .u64 (OW t q : Int) (bits .and .u64 ((2 ^ r : Nat) : Int) ((0 : Nat) : Int)) = (OW t q : Nat) := by
  rw [u64_and_nat _ _ (pow_lt64 r hr) (by decide), Nat.and_zero, u64_or_nat _ _ (OW_lt _ _) (by decide), Nat.or_zero]
theorem bits_or1 (t : List UInt8) (q r : Nat) (hr : r < 64) : bits .or .u64 (OW t q : Int) (bits .and .u64 ((2 ^ r : Nat) : Int) ((2 ^ r : Nat) : Int)) = bits .or .u64 (OW t q : Int) ((2 ^ r : Nat) : Int) := by
  rw [u64_and_nat _ _ (pow_lt64 r hr) (pow_lt64 r hr), Nat.and_self]
theorem set48 {t : List UInt8} {p q r X b T : Nat} {W : World} (hq : q < 4) (hr : r < 64) (hX : X = 2 ^ r) (he : p = 64 * q + r) (hp : p < t.length) (hx : t[p] = 120) (h : W.heap[b]? = some (.cells (#[.int .i64 (t.length : Int), .int .u64 (FW t 0 : Int), .int .u64 (FW t 1 : Int), .int .u64 (FW t 2 : Int), .int .u64 (FW t 3 : Int), .int .u64 (OW t 0 : Int), .int .u64 (OW t 1 : Int), .int .u64 (OW t 2 : Int), .int .u64 (OW t 3 : Int)]) T (0, 0))) :
    (W.setCell ⟨b, 1 + q, none⟩ (.int .u64 (bits .or .u64 (FW t q : Int) (X : Int)))).heap[b]? = some (.cells ((fun t => #[.int .i64 (t.length : Int), .int .u64 (FW t 0 : Int), .int .u64 (FW t 1 : Int), .int .u64 (FW t 2 : Int), .int .u64 (FW t 3 : Int), .int .u64 (OW t 0 : Int), .int .u64 (OW t 1 : Int), .int .u64 (OW t 2 : Int), .int .u64 (OW t 3 : Int)]) (t.set p 48)) T (0, 0)) := by
  subst he hX
  have h1 := FW_set t q r 48 hr (by decide) hp
  have h2 := OW_set t q r 0 hr (by decide) hp hx
  rw [show dg 0 r = 48 by simp [dg], bits_or0 t q r hr] at h2
  have g1 := fun j hj => FW_set_ne t q j r 48 hr (by decide) hp hj
  have g2 := fun j hj => OW_set_ne t q j r 48 hr hp hx hj
  have hl : (t.set (64 * q + r) 48).length = t.length := by simp
  rw [heap_setCell_same W b (1 + q) _ _ _ h, h1]
  simp only [hl]
  match q, hq with
  | 0, _ => rw [← h2, g1 1 (by decide), g1 2 (by decide), g1 3 (by decide), g2 1 (by decide), g2 2 (by decide), g2 3 (by decide)]; rfl
  | 1, _ => rw [← h2, g1 0 (by decide), g1 2 (by decide), g1 3 (by decide), g2 0 (by decide), g2 2 (by decide), g2 3 (by decide)]; rfl
  | 2, _ => rw [← h2, g1 0 (by decide), g1 1 (by decide), g1 3 (by decide), g2 0 (by decide), g2 1 (by decide), g2 3 (by decide)]; rfl
  | 3, _ => rw [← h2, g1 0 (by decide), g1 1 (by decide), g1 2 (by decide), g2 0 (by decide), g2 1 (by decide), g2 2 (by decide)]; rfl
theorem set49 {t : List UInt8} {p q r X b T : Nat} {W : World} (hq : q < 4) (hr : r < 64) (hX : X = 2 ^ r) (he : p = 64 * q + r) (hp : p < t.length) (hx : t[p] = 120) (h : W.heap[b]? = some (.cells (#[.int .i64 (t.length : Int), .int .u64 (FW t 0 : Int), .int .u64 (FW t 1 : Int), .int .u64 (FW t 2 : Int), .int .u64 (FW t 3 : Int), .int .u64 (OW t 0 : Int), .int .u64 (OW t 1 : Int), .int .u64 (OW t 2 : Int), .int .u64 (OW t 3 : Int)]) T (0, 0))) :
    ((W.setCell ⟨b, 1 + q, none⟩ (.int .u64 (bits .or .u64 (FW t q : Int) (X : Int)))).setCell ⟨b, 5 + q, none⟩ (.int .u64 (bits .or .u64 (OW t q : Int) (X : Int)))).heap[b]? = some (.cells ((fun t => #[.int .i64 (t.length : Int), .int .u64 (FW t 0 : Int), .int .u64 (FW t 1 : Int), .int .u64 (FW t 2 : Int), .int .u64 (FW t 3 : Int), .int .u64 (OW t 0 : Int), .int .u64 (OW t 1 : Int), .int .u64 (OW t 2 : Int), .int .u64 (OW t 3 : Int)]) (t.set p 49)) T (0, 0)) := by
  subst he hX
  have h1 := FW_set t q r 49 hr (by decide) hp
  have h2 := OW_set t q r (2 ^ r) hr (pow_lt64 r hr) hp hx
  rw [show dg (2 ^ r) r = 49 by simp [dg], bits_or1 t q r hr] at h2
  have g1 := fun j hj => FW_set_ne t q j r 49 hr (by decide) hp hj
  have g2 := fun j hj => OW_set_ne t q j r 49 hr hp hx hj
  have hl : (t.set (64 * q + r) 49).length = t.length := by simp
  rw [heap_setCell_same _ b (5 + q) _ _ _ (heap_setCell_same W b (1 + q) _ _ _ h), h1, h2]
  simp only [hl]
  match q, hq with
  | 0, _ => rw [g1 1 (by decide), g1 2 (by decide), g1 3 (by decide), g2 1 (by decide), g2 2 (by decide), g2 3 (by decide)]; rfl
  | 1, _ => rw [g1 0 (by decide), g1 2 (by decide), g1 3 (by decide), g2 0 (by decide), g2 2 (by decide), g2 3 (by decide)]; rfl
  | 2, _ => rw [g1 0 (by decide), g1 1 (by decide), g1 3 (by decide), g2 0 (by decide), g2 1 (by decide), g2 3 (by decide)]; rfl
  | 3, _ => rw [g1 0 (by decide), g1 1 (by decide), g1 2 (by decide), g2 0 (by decide), g2 1 (by decide), g2 2 (by decide)]; rfl

set_option maxHeartbeats 400000 in
theorem parse_loop (s : ByteArray) (w : World) (h1 : 1 ≤ s.size) (h2 : s.size ≤ 256) :
    Calls Tryz.prog 83 #[.string s] w fun e w' => e = .returned (.tuple #[cubeV (cubeT s.data.toList), .int .i64 (refP s.data.toList)]) ∧ Below w.heap.size w w' := by
  have he : (s.toList.isEmpty) = false := by
    rw [ByteArray.toList_eq]
    obtain ⟨⟨l⟩⟩ := s
    simp [ByteArray.size] at h1 ⊢
    intro h; subst h; simp at h1
  have hd : decide ((256 : Int) < (s.size : Int)) = false := by simp; omega
  go_enter Tryz.func83, Tryz.ntmps83
  go_wp2_with (go_at_call 59; refine (all_yes _ _ (by omega) (by omega)).mono ?_; rintro e w1 ⟨rfl, hb1⟩; obtain ⟨hc1, hf1⟩ := bcell hb1; unfold cv)
  clear hd he
  rw [st_cells0]
  go_loopw [20] (fun i wr => ∃ k : Nat, k ≤ s.size ∧ i = .int .i64 k ∧ wr.heap[w1.heap.size]? = some (.cells ((fun t => #[.int .i64 (t.length : Int), .int .u64 (FW t 0 : Int), .int .u64 (FW t 1 : Int), .int .u64 (FW t 2 : Int), .int .u64 (FW t 3 : Int), .int .u64 (OW t 0 : Int), .int .u64 (OW t 1 : Int), .int .u64 (OW t 2 : Int), .int .u64 (OW t 3 : Int)]) (st s.data.toList k)) 106 (0, 0)) ∧ Below w1.heap.size w1 wr ∧ ∀ j (h : j < s.data.toList.length), j < k → tri s.data.toList[j] = true) (fun i _ => s.size - (intOf i).toNat)
  case atStart => exact ⟨0, Nat.zero_le _, rfl, alloc_get _ _, (Below.refl _ _).alloc (Nat.le_refl _) _, fun j _ h => by omega⟩
  case round =>
    obtain ⟨k, hk, rfl, hblk, hB, htri⟩ := hrel
    by_cases hlt : k < s.size
    · obtain ⟨hcb, hfb⟩ := cells_block hblk
      have hlB := lt_of_get hblk
      have hkr : ∃ q r X : Nat, q < 4 ∧ r < 64 ∧ X = 2 ^ r ∧ k = 64 * q + r := ⟨k / 64, k % 64, _, by omega, by omega, rfl, by omega⟩
      obtain ⟨q, r, X, hq, hr, hX0, hk0⟩ := hkr
      have hX : Hid (X = 2 ^ r) := hX0
      have hkq : Hid (k = 64 * q + r) := hk0
      clear hX0 hk0
      have hlen : Hid (s.data.toList.length = s.size) := by simp [Hid]
      by_cases c48 : s[k] = 48
      · have b48 : ((s[k].toNat : Int) == 48) = true := by rw [c48]; decide
        have hpl : k < (st s.data.toList k).length := by rw [st_len _ _ (by rw [hlen.out]; omega), hlen.out]; exact hlt
        have hxk : (st s.data.toList k)[k] = 120 := st_get _ _ (by rw [hlen.out]; exact hlt)
        have hsn : (st s.data.toList k).set k 48 = st s.data.toList (k + 1) := by rw [← st_succ _ _ (by rw [hlen.out]; exact hlt), byte_at s k hlt, c48]
        have HB0 : Hid (∀ nq : Nat, ((wr.drewN nq).setCell ⟨w1.heap.size, 1 + q, none⟩ (.int .u64 (bits .or .u64 (FW (st s.data.toList k) q : Int) (X : Int)))).heap[w1.heap.size]? = some (.cells ((fun t => #[.int .i64 (t.length : Int), .int .u64 (FW t 0 : Int), .int .u64 (FW t 1 : Int), .int .u64 (FW t 2 : Int), .int .u64 (FW t 3 : Int), .int .u64 (OW t 0 : Int), .int .u64 (OW t 1 : Int), .int .u64 (OW t 2 : Int), .int .u64 (OW t 3 : Int)]) (st s.data.toList (k + 1))) 106 (0, 0))) := fun nq => by
          have := set48 (W := wr.drewN nq) hq hr hX.out hkq.out hpl hxk hblk
          rw [hsn] at this
          exact this
        clear hpl hxk hsn
        rcases (show q = 0 ∨ q = 1 ∨ q = 2 ∨ q = 3 by omega) with rfl | rfl | rfl | rfl
        all_goals (
          go_wp2_with (go_at_call 110; refine (spotX k _ r X _ hq hr hX.out hkq.out).mono ?_; rintro e w' ⟨rfl, nq, rfl⟩)
          exact ⟨⟨k + 1, by omega, by go_num, HB0.out nq, (hB.trans (below_drewN _ nq wr)).setCell (p := ⟨w1.heap.size, _, none⟩) (Nat.le_refl _) _, tri_succ hlt htri (.inl c48)⟩, by simp [intOf]; omega⟩)
      · by_cases c49 : s[k] = 49
        · have b48 : ((s[k].toNat : Int) == 48) = false := by rw [c49]; decide
          have b49 : ((s[k].toNat : Int) == 49) = true := by rw [c49]; decide
          have hpl : k < (st s.data.toList k).length := by rw [st_len _ _ (by rw [hlen.out]; omega), hlen.out]; exact hlt
          have hxk : (st s.data.toList k)[k] = 120 := st_get _ _ (by rw [hlen.out]; exact hlt)
          have hsn : (st s.data.toList k).set k 49 = st s.data.toList (k + 1) := by rw [← st_succ _ _ (by rw [hlen.out]; exact hlt), byte_at s k hlt, c49]
          have HB0 : Hid (∀ nq : Nat, (((wr.drewN nq).setCell ⟨w1.heap.size, 1 + q, none⟩ (.int .u64 (bits .or .u64 (FW (st s.data.toList k) q : Int) (X : Int)))).setCell ⟨w1.heap.size, 5 + q, none⟩ (.int .u64 (bits .or .u64 (OW (st s.data.toList k) q : Int) (X : Int)))).heap[w1.heap.size]? = some (.cells ((fun t => #[.int .i64 (t.length : Int), .int .u64 (FW t 0 : Int), .int .u64 (FW t 1 : Int), .int .u64 (FW t 2 : Int), .int .u64 (FW t 3 : Int), .int .u64 (OW t 0 : Int), .int .u64 (OW t 1 : Int), .int .u64 (OW t 2 : Int), .int .u64 (OW t 3 : Int)]) (st s.data.toList (k + 1))) 106 (0, 0))) := fun nq => by
            have := set49 (W := wr.drewN nq) hq hr hX.out hkq.out hpl hxk hblk
            rw [hsn] at this
            exact this
          clear hpl hxk hsn
          rcases (show q = 0 ∨ q = 1 ∨ q = 2 ∨ q = 3 by omega) with rfl | rfl | rfl | rfl
          all_goals (
            go_wp2_with (go_at_call 110; refine (spotX k _ r X _ hq hr hX.out hkq.out).mono ?_; rintro e w' ⟨rfl, nq, rfl⟩)
            exact ⟨⟨k + 1, by omega, by go_num, HB0.out nq, ((hB.trans (below_drewN _ nq wr)).setCell (p := ⟨w1.heap.size, _, none⟩) (Nat.le_refl _) _).setCell (p := ⟨w1.heap.size, _, none⟩) (Nat.le_refl _) _, tri_succ hlt htri (.inr (.inl c49))⟩, by simp [intOf]; omega⟩)
        · by_cases c120 : s[k] = 120
          · have b48 : ((s[k].toNat : Int) == 48) = false := by rw [c120]; decide
            have b49 : ((s[k].toNat : Int) == 49) = false := by rw [c120]; decide
            have b120 : ((s[k].toNat : Int) == 120) = true := by rw [c120]; decide
            go_wp2_with (go_at_call 110; refine (spotX k q r X _ hq hr hX.out hkq.out).mono ?_; rintro e w' ⟨rfl, nq, rfl⟩)
            have hst := st_skip s.data.toList k (by rw [hlen.out]; exact hlt) (by rw [byte_at s k hlt]; exact c120)
            exact ⟨⟨k + 1, by omega, by go_num, by rw [hst]; exact hblk, hB.trans (below_drewN _ nq wr), tri_succ hlt htri (.inr (.inr c120))⟩, by simp [intOf]; omega⟩
          · have b48 : ((s[k].toNat : Int) == 48) = false := ne_byte c48
            have b49 : ((s[k].toNat : Int) == 49) = false := ne_byte c49
            have b120 : ((s[k].toNat : Int) == 120) = false := ne_byte c120
            have hfin := parse_bad s k hlt h2 c48 c49 c120
            have hZ : Hid (refP s.data.toList = 10 ∧ cubeT s.data.toList = []) := hfin
            clear hfin
            have hcw : ∀ o, wr.cell? ⟨w.heap.size, o, none⟩ = w1.cell? ⟨w.heap.size, o, none⟩ := fun o => hB.cell (p := ⟨w.heap.size, o, none⟩) (by have := hb1.size; simp at this; show w.heap.size < _; omega)
            have hfw : ∀ o, wr.frozen? ⟨w.heap.size, o, none⟩ = w1.frozen? ⟨w.heap.size, o, none⟩ := fun o => hB.frozen (p := ⟨w.heap.size, o, none⟩) (by have := hb1.size; simp at this; show w.heap.size < _; omega)
            go_wp2_with (go_at_call 110; refine (spotX k q r X _ hq hr hX.out hkq.out).mono ?_; rintro e w' ⟨rfl, nq, rfl⟩)
            have hwb : (wr.drewN nq).heap[w.heap.size]? = some (.cells #[.int .i64 0, .int .u64 0, .int .u64 0, .int .u64 0, .int .u64 0, .int .u64 0, .int .u64 0, .int .u64 0, .int .u64 0] 106 (0, 0)) := by
              have e1 := hB.block w.heap.size (by have := hb1.size; simp at this; omega)
              have e2 := hb1.block w.heap.size (by simp)
              exact (e1.trans e2).trans (alloc_get _ _)
            refine bodyPost_ret (v := .tuple #[cv 0 0 0 0 0 0 0 0 0, .int .i64 10]) ?_ rfl ⟨?_, ?_⟩
            · exact res_cube2 _ _ w.heap.size 0 0 0 0 0 0 0 0 0 Tryz.results83 rfl (put9_get _ _ _ _ _ _ _ _ _ hwb)
            · rw [hZ.out.1, hZ.out.2, cubeV_nil]
            · exact put9_below _ _ _ _ _ _ _ _ _ (below3 hb1 hB nq) (Nat.le_refl _)
    · obtain ⟨hcb, hfb⟩ := cells_block hblk
      have hcw : ∀ o, wr.cell? ⟨w.heap.size, o, none⟩ = w1.cell? ⟨w.heap.size, o, none⟩ := fun o => hB.cell (p := ⟨w.heap.size, o, none⟩) (by have := hb1.size; simp at this; show w.heap.size < _; omega)
      have hfw : ∀ o, wr.frozen? ⟨w.heap.size, o, none⟩ = w1.frozen? ⟨w.heap.size, o, none⟩ := fun o => hB.frozen (p := ⟨w.heap.size, o, none⟩) (by have := hb1.size; simp at this; show w.heap.size < _; omega)
      have hkn : k = s.size := by omega
      have hall := parse_good s h1 h2 (fun j h => htri j h (by have : s.data.toList.length = s.size := by simp
                                                               omega))
      have hZ : Hid (refP s.data.toList = 0 ∧ cubeT s.data.toList = s.data.toList) := hall
      subst hkn
      clear hall htri
      have hwb : wr.heap[w.heap.size]? = some (.cells #[.int .i64 0, .int .u64 0, .int .u64 0, .int .u64 0, .int .u64 0, .int .u64 0, .int .u64 0, .int .u64 0, .int .u64 0] 106 (0, 0)) := by
        have e1 := hB.block w.heap.size (by have := hb1.size; simp at this; omega)
        have e2 := hb1.block w.heap.size (by simp)
        exact (e1.trans e2).trans (alloc_get _ _)
      go_wp2
      refine bodyPost_ret (v := .tuple #[cubeV (st s.data.toList s.size), .int .i64 0]) ?_ rfl ⟨?_, ?_⟩
      · exact res_cube2 _ _ w.heap.size _ _ _ _ _ _ _ _ _ Tryz.results83 rfl (put9_get _ _ _ _ _ _ _ _ _ hwb)
      · rw [hZ.out.1, hZ.out.2]
        have hlen : s.size = s.data.toList.length := by simp
        rw [hlen, st_all]
      · exact put9_below _ _ _ _ _ _ _ _ _ (below3 hb1 hB 0) (Nat.le_refl _)

theorem parse_any (s : ByteArray) (w : World) (hs : s.size ≤ maxLen) :
    Calls Tryz.prog 83 #[.string s] w fun e w' => e = .returned (.tuple #[cubeV (cubeT s.data.toList), .int .i64 (refP s.data.toList)]) ∧ Below w.heap.size w w' := by
  have hlen : s.data.toList.length = s.size := by simp
  by_cases h1 : 256 < s.size
  · refine (parse_long s w hs h1).mono ?_
    rintro e w' ⟨rfl, hb⟩
    have hz : refP s.data.toList = 2 := by unfold refP; rw [if_pos (by omega)]
    refine ⟨?_, hb⟩
    rw [cubeT_nil_iff _ (by rw [hz]; decide), hz, cubeV_nil]
  · by_cases h2 : s.size = 0
    · have hz0 : s.data.toList = [] := List.eq_nil_of_length_eq_zero (by omega)
      refine (parse_none s w (by rw [ByteArray.toList_eq]; exact hz0)).mono ?_
      rintro e w' ⟨rfl, hb⟩
      refine ⟨?_, hb⟩
      rw [hz0]
      have hz : refP [] = 10 := by decide
      rw [cubeT_nil_iff _ (by rw [hz]; decide), hz, cubeV_nil]
    · exact parse_loop s w (by omega) (by omega)
end Go.Proofs.YtnboehlbcjfndaaGreatDoor.Tn

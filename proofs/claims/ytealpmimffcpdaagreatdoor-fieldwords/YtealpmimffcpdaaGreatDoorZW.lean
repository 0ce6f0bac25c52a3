import Derived.Test.YtealpmimffcpdaaGreatDoorChecked
import Derived.WalkKit
import Derived.Below
import Derived.BigQuiet
import Derived.OwnWalk
import Derived.Lib.TrailingZeros
import Derived.Lib.BitFns
import Derived.Test.YtealpmimffcpdaaGreatDoorZ1
import Derived.Laws.ShiftsVar
import Derived.Laws.ShiftsVarLaws
import Derived.Laws.BitsAllLaws
import Derived.Lib.ConvBytes
import Derived.Laws.IdiomStrings
import Derived.Laws.Rows
import Derived.Shelf.Strings.Repeat
import Derived.Shelf.Small.Bits
import Derived.Ground.NamesProg
import Derived.Test.YtealpmimffcpdaaGreatDoorProg
import Derived.Shelf.Spec.TrailingZeros
import Derived.Shelf.Lays7
import Derived.Laws.OwnMore
import Derived.Deep.AppendLies
import Derived.Lib.UnsafeStr
import Derived.Test.YtealpmimffcpdaaGreatDoorZ31
import Derived.Test.YtealpmimffcpdaaGreatDoorZ33
import Derived.Lib.LazyBuf
import Derived.Test.YtealpmimffcpdaaGreatDoorZ17
import Derived.Deep.Slices
import Derived.SizedLaws
import Derived.ChangeSame
namespace Go.Proofs.YtealpmimffcpdaaGreatDoor
open Go.RowKit
/-! The fewest prefixes of a range: the greedy list is that of the halves. -/
theorem bitLen_spec (n : Nat) : 0 < n → n < 2 ^ 64 → 2 ^ Lib.bitLen n ≤ 2 * n ∧ n < 2 ^ Lib.bitLen n := by
  induction n using Nat.strongRecOn with
  | ind n ih =>
  intro h0 h
  rw [Lib.bitLen_half n (by omega) h]
  by_cases h1 : n = 1
  · subst h1
    decide
  · obtain ⟨a, b⟩ := ih (n / 2) (by omega) (by omega) (by omega)
    rw [Nat.add_comm 1, Nat.pow_succ]
    omega
/-- the last zeros of a value -/
abbrev cz (a : Nat) : Nat := Lib.ctz 64 a
/-- how far a count reaches -/
abbrev lg (n : Nat) : Nat := Lib.bitLen n - 1
theorem lg_le {n k : Nat} (h0 : 0 < n) (h : n < 2 ^ 64) (hk : 2 ^ k ≤ n) : k ≤ lg n := by
  obtain ⟨_, b⟩ := bitLen_spec n h0 h
  have : k < Lib.bitLen n := (Nat.pow_lt_pow_iff_right (by decide)).1 (Nat.lt_of_le_of_lt hk b)
  show k ≤ Lib.bitLen n - 1
  omega
theorem lg_pow {n : Nat} (h0 : 0 < n) (h : n < 2 ^ 64) : 2 ^ lg n ≤ n := by
  obtain ⟨a, b⟩ := bitLen_spec n h0 h
  have h1 : Lib.bitLen n ≠ 0 := fun e => by rw [e] at b; simp at b; omega
  obtain ⟨m, hm⟩ : ∃ m, Lib.bitLen n = m + 1 := ⟨Lib.bitLen n - 1, by omega⟩
  show 2 ^ (Lib.bitLen n - 1) ≤ n
  rw [hm, Nat.pow_succ] at a
  rw [hm]
  simp only [Nat.add_sub_cancel]
  omega
theorem cz_dvd {a : Nat} (h0 : a ≠ 0) (h : a < 2 ^ 64) : 2 ^ cz a ∣ a := by
  obtain ⟨m, hm, _⟩ := Lib.ctzFrom_spec 64 a (by omega) h
  have e : cz a = Lib.ctzFrom 64 a := if_neg h0
  rw [e]
  exact ⟨_, hm⟩
theorem cz_lt {a k : Nat} (h0 : a ≠ 0) (h : a < 2 ^ 64) (hk : ¬ 2 ^ k ∣ a) : cz a < k := by
  refine Classical.byContradiction (fun hn => hk ?_)
  exact Nat.dvd_trans (Nat.pow_dvd_pow 2 (by omega)) (cz_dvd h0 h)
theorem cz_ge {a k : Nat} (h : a < 2 ^ 64) (hk : 2 ^ k ∣ a) (hk6 : k ≤ 64) : k ≤ cz a := by
  by_cases h0 : a = 0
  · subst h0
    exact hk6
  · obtain ⟨m, hm, _⟩ := Lib.ctzFrom_spec 64 a (by omega) h
    have e : cz a = Lib.ctzFrom 64 a := if_neg h0
    rw [e]
    refine Classical.byContradiction (fun hn => ?_)
    obtain ⟨d, hd⟩ : ∃ d, k = Lib.ctzFrom 64 a + (d + 1) := ⟨k - Lib.ctzFrom 64 a - 1, by omega⟩
    obtain ⟨q, hq⟩ := hk
    rw [hd, Nat.pow_add, Nat.mul_assoc] at hq
    have hp : 0 < 2 ^ Lib.ctzFrom 64 a := Nat.pow_pos (by decide)
    have h1 : 2 * m + 1 = 2 ^ (d + 1) * q := Nat.eq_of_mul_eq_mul_left hp (hm.symm.trans hq)
    rw [Nat.pow_succ, Nat.mul_assoc] at h1
    have h2 : 2 ^ d * (2 * q) = 2 * (2 ^ d * q) := Nat.mul_left_comm _ _ _
    omega
/-- how many places the next prefix leaves free -/
def fre (a e : Nat) : Nat := min (cz a) (lg (e - a + 1))
theorem fre_le {a e : Nat} (h : a ≤ e) (he : e < 2 ^ 63) : 2 ^ fre a e ≤ e - a + 1 :=
  Nat.le_trans (Nat.pow_le_pow_right (by decide) (Nat.min_le_right _ _)) (lg_pow (by omega) (by omega))
/-- the prefixes, greedily -/
def gr (a e : Nat) : List (Nat × Nat) := if a ≤ e then (a, fre a e) :: gr (a + 2 ^ fre a e) e else []
termination_by e + 1 - a
decreasing_by
  have : 0 < 2 ^ fre a e := Nat.pow_pos (by decide)
  omega
theorem gr_le {a e : Nat} (h : a ≤ e) : gr a e = (a, fre a e) :: gr (a + 2 ^ fre a e) e := by rw [gr, if_pos h]
theorem gr_end {a e : Nat} (h : ¬ a ≤ e) : gr a e = [] := by rw [gr, if_neg h]
theorem next_le {a b f : Nat} (ha : 2 ^ f ∣ a) (hb : 2 ^ f ∣ b) (h : a < b) : a + 2 ^ f ≤ b := by
  obtain ⟨x, rfl⟩ := ha
  obtain ⟨y, rfl⟩ := hb
  have hxy : x < y := Nat.lt_of_mul_lt_mul_left h
  have := Nat.mul_le_mul_left (2 ^ f) (show x + 1 ≤ y from hxy)
  rw [Nat.mul_add, Nat.mul_one] at this
  exact this
theorem not_dvd {b a w : Nat} (hb : 2 ^ w ∣ b) (h1 : b < a) (h2 : a < b + 2 ^ w) : ¬ 2 ^ w ∣ a := fun h => by
  have := next_le hb h h1
  omega
theorem fre_in {b a w m e : Nat} (hb : 2 ^ w ∣ b) (h1 : b < a) (h2 : a < m) (hm : m = b + 2 ^ w) (hme : m ≤ e + 1) (he : e < 2 ^ 63) : fre a e = cz a := by
  have hlt := cz_lt (a := a) (k := w) (by omega) (by omega) (not_dvd hb h1 (by omega))
  have hd := cz_dvd (a := a) (by omega) (by omega)
  have hdm : 2 ^ cz a ∣ m := by
    rw [hm]
    exact Nat.dvd_add (Nat.dvd_trans (Nat.pow_dvd_pow 2 (by omega)) hb) (Nat.pow_dvd_pow 2 (by omega))
  have hn := next_le hd hdm h2
  have hl := lg_le (n := e - a + 1) (k := cz a) (by omega) (by omega) (by omega)
  unfold fre
  omega
theorem gr_split_in {b w m e : Nat} (hb : 2 ^ w ∣ b) (hm : m = b + 2 ^ w) (hme : m ≤ e + 1) (he : e < 2 ^ 63) : ∀ (n a : Nat), m - a ≤ n → b < a → a ≤ m → gr a e = gr a (m - 1) ++ gr m e := by
  intro n
  induction n with
  | zero =>
    intro a hn h1 h2
    obtain rfl : a = m := by omega
    rw [gr_end (a := a) (e := a - 1) (by omega)]
    rfl
  | succ n ih =>
    intro a hn h1 h2
    by_cases ham : a = m
    · subst ham
      rw [gr_end (a := a) (e := a - 1) (by omega)]
      rfl
    · have f1 := fre_in hb h1 (by omega) hm hme he
      have f2 := fre_in (e := m - 1) hb h1 (by omega) hm (by omega) (by omega)
      have hp : 0 < 2 ^ cz a := Nat.pow_pos (by decide)
      have hle := fre_le (a := a) (e := m - 1) (by omega) (by omega)
      rw [f2] at hle
      rw [gr_le (a := a) (e := e) (by omega), gr_le (a := a) (e := m - 1) (by omega), f1, f2, ih (a + 2 ^ cz a) (by omega) (by omega) (by omega)]
      rfl
theorem fre_full {b w : Nat} (hb : 2 ^ w ∣ b) (hw : w ≤ 32) (h : b < 2 ^ 62) : fre b (b + 2 ^ w - 1) = w := by
  have hp : 0 < 2 ^ w := Nat.pow_pos (by decide)
  have hp2 : 2 ^ w ≤ 2 ^ 32 := Nat.pow_le_pow_right (by decide) hw
  have e : b + 2 ^ w - 1 - b + 1 = 2 ^ w := by omega
  have h1 := cz_ge (a := b) (k := w) (by omega) hb (by omega)
  have h2 := lg_le (n := 2 ^ w) (k := w) hp (by omega) (Nat.le_refl _)
  have h3 := lg_pow (n := 2 ^ w) hp (by omega)
  have h4 : lg (2 ^ w) ≤ w := (Nat.pow_le_pow_iff_right (by decide)).1 h3
  unfold fre
  rw [e]
  omega
theorem gr_full {b w : Nat} (hb : 2 ^ w ∣ b) (hw : w ≤ 32) (h : b < 2 ^ 62) : gr b (b + 2 ^ w - 1) = [(b, w)] := by
  have hp : 0 < 2 ^ w := Nat.pow_pos (by decide)
  rw [gr_le (by omega), fre_full hb hw h, gr_end (by omega)]
theorem gr_split {b w a e : Nat} (hb : 2 ^ (w + 1) ∣ b) (hw : w < 32) (hb2 : b < 2 ^ 62) (h1 : b ≤ a) (h2 : a < b + 2 ^ w) (h3 : b + 2 ^ w ≤ e) (h4 : e < b + 2 ^ (w + 1)) (hn : ¬ (a = b ∧ e = b + 2 ^ (w + 1) - 1)) : gr a e = gr a (b + 2 ^ w - 1) ++ gr (b + 2 ^ w) e := by
  have hbw : 2 ^ w ∣ b := Nat.dvd_trans (Nat.pow_dvd_pow 2 (by omega)) hb
  have hp : 0 < 2 ^ w := Nat.pow_pos (by decide)
  have hp2 : 2 ^ w ≤ 2 ^ 32 := Nat.pow_le_pow_right (by decide) (by omega)
  rw [Nat.pow_succ] at h4 hn
  by_cases hab : a = b
  · subst hab
    have h5 : e - a + 1 < 2 ^ (w + 1) := by rw [Nat.pow_succ]; omega
    have f1 : fre a e = w := by
      have c1 := cz_ge (a := a) (k := w) (by omega) hbw (by omega)
      have c2 := lg_le (n := e - a + 1) (k := w) (by omega) (by omega) (by omega)
      have c3 := lg_pow (n := e - a + 1) (by omega) (by omega)
      have c4 : lg (e - a + 1) < w + 1 := (Nat.pow_lt_pow_iff_right (a := 2) (by decide)).1 (by omega)
      unfold fre
      omega
    rw [gr_full hbw (by omega) hb2, gr_le (a := a) (e := e) (by omega), f1]
    rfl
  · exact gr_split_in hbw rfl (by omega) (by omega) _ a (Nat.le_refl _) (by omega) (by omega)
/-- the prefixes, by halves -/
def hv : Nat → Nat → Nat → Nat → List (Nat × Nat)
  | 0, b, lo, hi => if lo ≤ b ∧ b + 2 ^ 0 - 1 ≤ hi then [(b, 0)] else []
  | w + 1, b, lo, hi => if lo ≤ b ∧ b + 2 ^ (w + 1) - 1 ≤ hi then [(b, w + 1)] else if hi < b ∨ b + 2 ^ (w + 1) - 1 < lo then [] else hv w b lo hi ++ hv w (b + 2 ^ w) lo hi
theorem hv_gr (lo hi : Nat) (hl : lo ≤ hi) : ∀ (w b : Nat), w ≤ 32 → 2 ^ w ∣ b → b + 2 ^ w ≤ 2 ^ 33 → hv w b lo hi = if max lo b ≤ min hi (b + 2 ^ w - 1) then gr (max lo b) (min hi (b + 2 ^ w - 1)) else [] := by
  intro w
  induction w with
  | zero =>
    intro b hw hd hb
    rw [hv]
    by_cases h : lo ≤ b ∧ b + 2 ^ 0 - 1 ≤ hi
    · rw [if_pos h, if_pos (by omega), Nat.max_eq_right h.1, Nat.min_eq_right h.2, gr_full hd hw (by omega)]
    · rw [if_neg h, if_neg (by omega)]
  | succ w ih =>
    intro b hw hd hb
    have hp : 0 < 2 ^ w := Nat.pow_pos (by decide)
    have hps : 2 ^ (w + 1) = 2 ^ w * 2 := Nat.pow_succ 2 w
    have hdw : 2 ^ w ∣ b := Nat.dvd_trans (Nat.pow_dvd_pow 2 (by omega)) hd
    rw [hv]
    by_cases h : lo ≤ b ∧ b + 2 ^ (w + 1) - 1 ≤ hi
    · rw [if_pos h, if_pos (by omega), Nat.max_eq_right h.1, Nat.min_eq_right h.2, gr_full hd hw (by omega)]
    · rw [if_neg h]
      by_cases h2 : hi < b ∨ b + 2 ^ (w + 1) - 1 < lo
      · rw [if_pos h2, if_neg (by omega)]
      · rw [if_neg h2, ih b (by omega) hdw (by omega), ih (b + 2 ^ w) (by omega) (Nat.dvd_add hdw (Nat.dvd_refl _)) (by omega), if_pos (show max lo b ≤ min hi (b + 2 ^ (w + 1) - 1) by omega)]
        have e1 : b + 2 ^ w + 2 ^ w - 1 = b + 2 ^ (w + 1) - 1 := by omega
        rw [e1]
        by_cases g1 : hi < b + 2 ^ w
        · rw [if_pos (by omega), if_neg (by omega), List.append_nil, Nat.min_eq_left (show hi ≤ b + 2 ^ w - 1 by omega), Nat.min_eq_left (show hi ≤ b + 2 ^ (w + 1) - 1 by omega)]
        · by_cases g2 : b + 2 ^ w ≤ lo
          · rw [if_neg (by omega), if_pos (by omega), List.nil_append, Nat.max_eq_left g2, Nat.max_eq_left (show b ≤ lo by omega)]
          · rw [if_pos (by omega), if_pos (by omega), Nat.min_eq_right (show b + 2 ^ w - 1 ≤ hi by omega), Nat.max_eq_right (show lo ≤ b + 2 ^ w by omega)]
            exact (gr_split hd (by omega) (by omega) (by omega) (by omega) (by omega) (by omega) (by omega)).symm
/-- of all values -/
theorem hv_all (w lo hi : Nat) (hw : w ≤ 32) (hl : lo ≤ hi) (hh : hi < 2 ^ w) : hv w 0 lo hi = gr lo hi := by
  have hp : 2 ^ w ≤ 2 ^ 32 := Nat.pow_le_pow_right (by decide) hw
  rw [hv_gr lo hi hl w 0 hw (Nat.dvd_zero _) (by omega), if_pos (by omega), Nat.max_eq_left (by omega), Nat.min_eq_left (by omega)]
end Go.Proofs.YtealpmimffcpdaaGreatDoor
namespace Go.Proofs.YtealpmimffcpdaaGreatDoor
open Go.RowKit
theorem pow_cast (b : Nat) : (2 : Int) ^ b = ((2 ^ b : Nat) : Int) := by simp
theorem w64 {x : Int} (h0 : -9223372036854775808 ≤ x) (h1 : x ≤ 9223372036854775807) : wrap64 x = x := by unfold wrap64; omega
set_option maxRecDepth 100000 in
theorem greatest_any (b : Nat) (hb : b ≤ 32) (w : World) :
    Calls Tryz.prog 47 #[.int .i64 (b : Int)] w fun e w' => e = .returned (.int .i64 ((2 ^ b - 1 : Nat) : Int)) ∧ w' = w := by
  have hp : 2 ^ b ≤ 2 ^ 32 := Nat.pow_le_pow_right (by decide) hb
  have hp0 : 0 < 2 ^ b := Nat.pow_pos (by decide)
  go_enter Tryz.func47, Tryz.ntmps47
  go_wp2_with fail
  go_ret
  refine ⟨?_, rfl⟩
  have e1 : wrap64 (2 ^ b) = ((2 ^ b : Nat) : Int) := by rw [pow_cast]; exact w64 (by omega) (by omega)
  have e2 : wrap64 (wrap64 (2 ^ b) - 1) = ((2 ^ b - 1 : Nat) : Int) := by rw [e1, w64 (by omega) (by omega)]; omega
  exact congrArg (fun z => Ending.returned (Value.int .i64 z)) e2
set_option maxRecDepth 100000 in
theorem fits_any (v : Int) (b : Nat) (hb : b ≤ 32) (w : World) :
    Calls Tryz.prog 28 #[.int .i64 v, .int .i64 (b : Int)] w fun e w' => e = .returned (.bool (decide (0 ≤ v ∧ v ≤ ((2 ^ b - 1 : Nat) : Int)))) ∧ w' = w := by
  have HG := fun W => greatest_any b hb W
  obtain ⟨g, hg⟩ : ∃ g : Nat, 2 ^ b - 1 = g := ⟨_, rfl⟩
  rw [hg] at HG ⊢
  clear hg
  by_cases h0 : 0 ≤ v
  · by_cases h1 : v ≤ (g : Int)
    · rw [decide_eq_true ⟨h0, h1⟩]
      go_enter Tryz.func28, Tryz.ntmps28
      go_wp2_with fail
      refine (HG _).mono ?_
      rintro e w1 ⟨rfl, rfl⟩
      go_wp2_with fail
      go_ret
      exact ⟨rfl, rfl⟩
    · rw [decide_eq_false (fun h => h1 h.2)]
      go_enter Tryz.func28, Tryz.ntmps28
      go_wp2_with fail
      refine (HG _).mono ?_
      rintro e w1 ⟨rfl, rfl⟩
      have hd : Hid (decide (v ≤ (g : Int)) = false) := decide_eq_false (by omega)
      go_wp2_with fail
      go_ret
      exact ⟨by first | rfl | (rw [hd.out]; rfl), rfl⟩
  · rw [decide_eq_false (fun h => h0 h.1)]
    go_enter Tryz.func28, Tryz.ntmps28
    go_wp2_with fail
    go_ret
    exact ⟨rfl, rfl⟩
end Go.Proofs.YtealpmimffcpdaaGreatDoor
namespace Go.Proofs.YtealpmimffcpdaaGreatDoor
open Go.RowKit
def bys (t : List UInt8) : List Value := t.map fun b => .int .u8 (b.toNat : Int)
theorem set_get {W : World} {b j T : Nat} {m : Nat × Nat} {cs : Array Value} (v : Value) (h : W.heap[b]? = some (.cells cs T m)) : (W.setCell ⟨b, j, none⟩ v).heap[b]? = some (.cells (cs.setIfInBounds j v) T m) := by
  simp only [World.setCell, Array.getElem?_modify, if_pos, h, Option.map_some]
  simp

def hdr (W : World) (gh : Nat) (z : List Value) (h : List UInt8) : Prop := W.heap[gh]? = some (.cells (bys h ++ z).toArray 5 (h.length + z.length, h.length + z.length + 1))
theorem bys_len (h : List UInt8) : (bys h).length = h.length := by simp [bys]
theorem hdr_cell {W : World} {gh j : Nat} {z : List Value} {h : List UInt8} (hh : hdr W gh z h) (hj : j < h.length) : W.cell? ⟨gh, j, none⟩ = some (.int .u8 (h[j].toNat : Int)) := by
  unfold hdr at hh
  rw [cell_of_row W gh j _ _ _ hh]
  simp [bys, List.getElem?_append_left, hj]
theorem hdr_frozen {W : World} {gh j : Nat} {z : List Value} {h : List UInt8} (hh : hdr W gh z h) (hj : j < h.length) : W.frozen? ⟨gh, j, none⟩ = false := by
  unfold hdr at hh
  simp [World.frozen?, hh]
  omega
theorem hdr_set {W : World} {gh p : Nat} {z : List Value} {h : List UInt8} (x : UInt8) (hh : hdr W gh z h) (hp : p < h.length) : hdr (W.setCell ⟨gh, p, none⟩ (.int .u8 (x.toNat : Int))) gh z (h.set p x) := by
  have e : (bys h ++ z).toArray.setIfInBounds p (.int .u8 (x.toNat : Int)) = (bys (h.set p x) ++ z).toArray := by
    have := List.set_append_left (s := bys h) (t := z) (i := p) (x := Value.int .u8 (x.toNat : Int)) (by rw [bys_len]; exact hp)
    rw [List.setIfInBounds_toArray, this]
    simp [bys, List.map_set]
  have := set_get (j := p) (.int .u8 (x.toNat : Int)) hh
  rw [e] at this
  unfold hdr
  simpa using this
theorem hdr_grow {W W' : World} {gh : Nat} {row : Option Nat} {z : List Value} {h : List UInt8} (hh : hdr W gh z h) (hg : W.grownBy W' row) (hne : some gh ≠ row) : hdr W' gh z h := (hg.block gh (lt_of_get hh) hne).trans hh
theorem hdr_alloc {W : World} {gh : Nat} {z : List Value} {h : List UInt8} (hh : hdr W gh z h) (o : Obj) : hdr (W.alloc o) gh z h := allocblk hh o
theorem hdr_new (w : World) (t : List UInt8) : hdr (Lib.bytesWorld w 5 ⟨t.toArray⟩) w.heap.size (List.replicate (grownCap w t.length 0 5 - t.length) (Value.int .u8 0)) t := by
  have h := Lib.bytesWorld_at_new w 5 ⟨t.toArray⟩
  have hz : (⟨t.toArray⟩ : ByteArray).size = t.length := by show t.toArray.size = _; simp
  have e : Lib.bytesCells w 5 ⟨t.toArray⟩ = (bys t ++ List.replicate (grownCap w t.length 0 5 - t.length) (Value.int .u8 0)).toArray := by
    unfold Lib.bytesCells
    rw [hz]
    simp [bys]
  unfold hdr
  rw [h, e]
  simp [bys_len]
theorem bel_bytes (w : World) (s : ByteArray) : Below w.heap.size w (Lib.bytesWorld w 5 s) := by
  have hb0 := ((Below.refl w.heap.size w).drew).alloc (Nat.le_refl _) (.cells (Lib.bytesCells w 5 s) 5)
  refine ⟨?_, ?_, ?_, ?_, fun k hk => Lib.bytesWorld_at_old w 5 s k hk⟩
  · simp only [Lib.bytesWorld, World.freeze]; exact hb0.os
  · simp only [Lib.bytesWorld, World.freeze]; exact hb0.tape
  · simp only [Lib.bytesWorld, World.freeze]; exact hb0.output
  · rw [Lib.bytesWorld_size]; omega

end Go.Proofs.YtealpmimffcpdaaGreatDoor
namespace Go.Proofs
open Go.Shelf
def Tryz.l105_ren : Go.Shelf.Ren := ⟨fun | 105 => 46 | 212 => 56 | 99 => 57 | 165 => 58 | 166 => 59 | 170 => 60 | 169 => 61 | 263 => 70 | 264 => 71 | 206 => 72 | 240 => 73 | 241 => 74 | 276 => 86 | 277 => 87 | n => n, fun | 9 => 9 | 3 => 3 | 4 => 4 | 20 => 20 | 0 => 0 | 46 => 91 | 109 => 98 | 5 => 5 | 72 => 103 | 76 => 107 | 51 => 118 | 146 => 119 | 53 => 73 | 148 => 121 | 70 => 101 | 37 => 59 | 75 => 106 | 127 => 123 | 164 => 130 | 80 => 110 | n => n, fun | n => n⟩
theorem Tryz.l105 : Go.Proofs.Lays.n105 Tryz.prog Tryz.l105_ren := {
  mixed := by kernel_rfl
  f99 := Tryz.func57.trans (congrArg some (by kernel_rfl))
  f105 := Tryz.func46.trans (congrArg some (by kernel_rfl))
  f165 := Tryz.func58.trans (congrArg some (by kernel_rfl))
  f166 := Tryz.func59.trans (congrArg some (by kernel_rfl))
  f169 := Tryz.func61.trans (congrArg some (by kernel_rfl))
  f170 := Tryz.func60.trans (congrArg some (by kernel_rfl))
  f206 := Tryz.func72.trans (congrArg some (by kernel_rfl))
  f212 := Tryz.func56.trans (congrArg some (by kernel_rfl))
  f240 := Tryz.func73.trans (congrArg some (by kernel_rfl))
  f241 := Tryz.func74.trans (congrArg some (by kernel_rfl))
  f263 := Tryz.func70.trans (congrArg some (by kernel_rfl))
  f264 := Tryz.func71.trans (congrArg some (by kernel_rfl))
  f276 := Tryz.func86.trans (congrArg some (by kernel_rfl))
  f277 := Tryz.func87.trans (congrArg some (by kernel_rfl))
  t0 := Tryz.underlying0
  a0 := Tryz.isAgg0
  z0 := Tryz.sizeOf0
  v0 := Tryz.zeroValue0
  t3 := Tryz.underlying3
  a3 := Tryz.isAgg3
  z3 := Tryz.sizeOf3
  v3 := Tryz.zeroValue3
  t4 := Tryz.underlying4
  a4 := Tryz.isAgg4
  z4 := Tryz.sizeOf4
  v4 := Tryz.zeroValue4
  t5 := Tryz.underlying5
  a5 := Tryz.isAgg5
  z5 := Tryz.sizeOf5
  v5 := Tryz.zeroValue5
  t9 := Tryz.underlying9
  a9 := Tryz.isAgg9
  z9 := Tryz.sizeOf9
  v9 := Tryz.zeroValue9
  t20 := Tryz.underlying20
  a20 := Tryz.isAgg20
  z20 := Tryz.sizeOf20
  v20 := Tryz.zeroValue20
  t37 := Tryz.underlying59
  a37 := Tryz.isAgg59
  z37 := Tryz.sizeOf59
  v37 := Tryz.zeroValue59
  t46 := Tryz.underlying91
  a46 := Tryz.isAgg91
  z46 := Tryz.sizeOf91
  v46 := Tryz.zeroValue91
  t51 := Tryz.underlying118
  a51 := Tryz.isAgg118
  z51 := Tryz.sizeOf118
  v51 := Tryz.zeroValue118
  t53 := Tryz.underlying73
  a53 := Tryz.isAgg73
  z53 := Tryz.sizeOf73
  v53 := Tryz.zeroValue73
  t70 := Tryz.underlying101
  a70 := Tryz.isAgg101
  z70 := Tryz.sizeOf101
  v70 := Tryz.zeroValue101
  t72 := Tryz.underlying103
  a72 := Tryz.isAgg103
  z72 := Tryz.sizeOf103
  v72 := Tryz.zeroValue103
  t75 := Tryz.underlying106
  a75 := Tryz.isAgg106
  z75 := Tryz.sizeOf106
  v75 := Tryz.zeroValue106
  t76 := Tryz.underlying107
  a76 := Tryz.isAgg107
  z76 := Tryz.sizeOf107
  v76 := Tryz.zeroValue107
  t109 := Tryz.underlying98
  a109 := Tryz.isAgg98
  z109 := Tryz.sizeOf98
  v109 := Tryz.zeroValue98
  t127 := Tryz.underlying123
  a127 := Tryz.isAgg123
  z127 := Tryz.sizeOf123
  v127 := Tryz.zeroValue123
  t146 := Tryz.underlying119
  a146 := Tryz.isAgg119
  z146 := Tryz.sizeOf119
  v146 := Tryz.zeroValue119
  t148 := Tryz.underlying121
  a148 := Tryz.isAgg121
  z148 := Tryz.sizeOf121
  v148 := Tryz.zeroValue121
  t164 := Tryz.underlying130
  a164 := Tryz.isAgg130
  z164 := Tryz.sizeOf130
  v164 := Tryz.zeroValue130 }
def Tryz.l125_ren : Go.Shelf.Ren := ⟨fun | 125 => 63 | 128 => 77 | 129 => 78 | n => n, fun | 46 => 91 | 3 => 3 | 51 => 118 | 53 => 73 | 4 => 4 | 5 => 5 | 9 => 9 | n => n, fun | n => n⟩
theorem Tryz.l125 : Go.Proofs.Lays.n125 Tryz.prog Tryz.l125_ren := {
  mixed := by kernel_rfl
  f125 := Tryz.func63.trans (congrArg some (by kernel_rfl))
  f128 := Tryz.func77.trans (congrArg some (by kernel_rfl))
  f129 := Tryz.func78.trans (congrArg some (by kernel_rfl))
  t3 := Tryz.underlying3
  a3 := Tryz.isAgg3
  z3 := Tryz.sizeOf3
  v3 := Tryz.zeroValue3
  t4 := Tryz.underlying4
  a4 := Tryz.isAgg4
  z4 := Tryz.sizeOf4
  v4 := Tryz.zeroValue4
  t5 := Tryz.underlying5
  a5 := Tryz.isAgg5
  z5 := Tryz.sizeOf5
  v5 := Tryz.zeroValue5
  t9 := Tryz.underlying9
  a9 := Tryz.isAgg9
  z9 := Tryz.sizeOf9
  v9 := Tryz.zeroValue9
  t46 := Tryz.underlying91
  a46 := Tryz.isAgg91
  z46 := Tryz.sizeOf91
  v46 := Tryz.zeroValue91
  t51 := Tryz.underlying118
  a51 := Tryz.isAgg118
  z51 := Tryz.sizeOf118
  v51 := Tryz.zeroValue118
  t53 := Tryz.underlying73
  a53 := Tryz.isAgg73
  z53 := Tryz.sizeOf73
  v53 := Tryz.zeroValue73 }
end Go.Proofs
namespace Go.Proofs.YtealpmimffcpdaaGreatDoor
open Go.RowKit Go.Shelf
theorem bextra : Builder.Extra Tryz.prog Tryz.l105_ren where
  sizeBuilder := by kernel_rfl
  liesBuilder := by kernel_rfl
  t5 := Tryz.underlying5
  a5 := Tryz.isAgg5
  z5 := Tryz.sizeOf5
  v5 := Tryz.zeroValue5
  infoByte := by kernel_rfl
  cellsByte := by kernel_rfl
  sizeByte := by kernel_rfl
  neB5 := by decide
theorem repeatL_one (c : Nat) : Lib.repeatL [120] c = List.replicate c 120 := by
  induction c with
  | zero => rfl
  | succ c ih => rw [Lib.repeatL, ih]; rfl
theorem repeat_any (c : Nat) (hc : c ≤ 256) (w : World) : Calls Tryz.prog 46 #[.string ⟨#[120]⟩, .int .i64 (c : Int)] w fun e w' => e = .returned (.string ⟨(List.replicate c 120).toArray⟩) ∧ Below w.heap.size w w' := by
  have h := Any.strings_Repeat Tryz.l105 bextra ⟨#[120]⟩ c w (by omega) (by show 1 * c ≤ _; omega)
  rw [repeatL_one] at h
  exact h
/-- the digit of a value at a place -/
def bitB (b v p : Nat) : UInt8 := UInt8.ofNat (48 + v / 2 ^ (b - 1 - p) % 2)
/-- the text of a prefix -/
def digL (b v f : Nat) : List UInt8 := (List.range (b - f)).map (bitB b v) ++ List.replicate f 120
theorem digL_len (b v f : Nat) (h : f ≤ b) : (digL b v f).length = b := by simp [digL]; omega
theorem digL_get (b v f : Nat) (h : f ≤ b) (j : Nat) (hj : j < b) : (digL b v f)[j]? = some (if j < b - f then bitB b v j else 120) := by
  unfold digL
  by_cases h1 : j < b - f
  · rw [if_pos h1, List.getElem?_append_left (by simp; exact h1)]
    simp [h1]
  · rw [if_neg h1, List.getElem?_append_right (by simp; omega)]
    simp
    have : j - (b - f) < f := by omega
    simp [this]
theorem and1 (m : Nat) (hm : m < 8589934592) : bits .and .i64 (m : Int) 1 = ((m % 2 : Nat) : Int) := by
  have a1 : (BitVec.ofInt 64 (m : Int)).toNat = m := by
    rw [BitVec.ofInt_natCast, BitVec.toNat_ofNat]; exact Nat.mod_eq_of_lt (by omega)
  have a2 : (BitVec.ofInt 64 (1 : Int)).toNat = 1 := by decide
  have a3 : m &&& 1 = m % 2 := Nat.and_two_pow_sub_one_eq_mod m 1
  show IntKind.i64.wrap ((BitVec.ofInt 64 (m : Int) &&& BitVec.ofInt 64 (1 : Int)).toNat : Int) = _
  rw [BitVec.toNat_and, a1, a2, a3, IntKind.wrap_i64]
  omega
theorem div_cast (v k : Nat) : (v : Int) / 2 ^ k = ((v / 2 ^ k : Nat) : Int) := by rw [pow_cast]; simp
theorem bit_val (b v p : Nat) (hv : v < 8589934592) : (48 + bits .and .i64 ((v : Int) / 2 ^ (b - 1 - p)) 1) % 256 = ((bitB b v p).toNat : Int) := by
  have hd : v / 2 ^ (b - 1 - p) ≤ v := Nat.div_le_self _ _
  rw [div_cast, and1 _ (by omega)]
  unfold bitB
  rw [UInt8.toNat_ofNat']
  omega
/-- half written -/
def dgp (b v p : Nat) : List UInt8 := (List.range p).map (bitB b v) ++ List.replicate (b - p) 120
theorem dgp_len (b v p : Nat) (h : p ≤ b) : (dgp b v p).length = b := by simp [dgp]; omega
theorem dgp_succ (b v p : Nat) (h : p < b) : (dgp b v p).set p (bitB b v p) = dgp b v (p + 1) := by
  unfold dgp
  obtain ⟨r, hr⟩ : ∃ r, b - p = r + 1 := ⟨b - p - 1, by omega⟩
  have hr2 : b - (p + 1) = r := by omega
  rw [hr, hr2, List.range_succ, List.map_append, List.replicate_succ, List.set_append_right _ _ (by simp)]
  simp
theorem dgp_all (b v f : Nat) (h : f ≤ b) : dgp b v (b - f) = digL b v f := by
  unfold dgp digL
  rw [show b - (b - f) = f by omega]
set_option maxRecDepth 100000 in
set_option maxHeartbeats 1000000 in
theorem digits_any (b v f : Nat) (hb1 : 1 ≤ b) (hb : b ≤ 32) (hf : f ≤ b) (hv : v < 8589934592) (w : World) :
    Calls Tryz.prog 30 #[.int .i64 (b : Int), .int .i64 (v : Int), .int .i64 (f : Int)] w fun e w' => e = .returned (.string ⟨(digL b v f).toArray⟩) ∧ Below w.heap.size w w' := by
  have HR := fun W => repeat_any b (by omega) W
  have e0 : IntKind.i64.wrap ((b : Int) - (f : Int)) = ((b - f : Nat) : Int) := by rw [IntKind.wrap_i64]; omega
  have hcv := fun W => Lib.run_convert_string_bytes (P := Tryz.prog) W 9 59 5 ⟨(List.replicate b 120).toArray⟩ Tryz.underlying9 Tryz.underlying59 Tryz.underlying5
  obtain ⟨T, hT⟩ : ∃ T : List UInt8, List.replicate b 120 = T := ⟨_, rfl⟩
  have hTl : T.length = b := by rw [← hT]; simp
  have HT : Hid (List.replicate b 120 = T) := hT
  rw [hT] at hcv
  simp only [hT] at HR
  clear hT
  go_enter Tryz.func30, Tryz.ntmps30
  go_wp2_with fail
  refine (HR _).mono ?_
  rintro e w1 ⟨rfl, hb1'⟩
  have hN := hdr_new w1 T
  have B2 := bel0 hb1' (bel_bytes w1 ⟨T.toArray⟩)
  have hzw : w.heap.size ≤ w1.heap.size := hb1'.size
  have hsz : (⟨T.toArray⟩ : ByteArray).size = T.length := by show T.toArray.size = _; simp
  obtain ⟨z, hz⟩ : ∃ z, List.replicate (grownCap w1 T.length 0 5 - T.length) (Value.int .u8 0) = z := ⟨_, rfl⟩
  have hcv1 := hcv w1
  rw [hsz] at hcv1
  obtain ⟨cp, hcp⟩ : ∃ c, grownCap w1 T.length 0 5 = c := ⟨_, rfl⟩
  rw [hcp] at hcv1
  rw [hz] at hN
  obtain ⟨W2, hW2⟩ : ∃ W2, Lib.bytesWorld w1 5 ⟨T.toArray⟩ = W2 := ⟨_, rfl⟩
  rw [hW2] at hcv1 hN B2
  obtain ⟨K, hK⟩ : ∃ K, w1.heap.size = K := ⟨_, rfl⟩
  rw [hK] at hcv1 hN hzw
  rw [hTl] at hcv1
  clear hcv hcp hz hW2 hK hsz hb1' HR
  have hstart : dgp b v 0 = T := by rw [← HT.out]; simp [dgp]
  rw [← hstart] at hN

  clear hstart HT hTl
  go_wp2_with fail
  go_loopw [15] (fun vp wr => ∃ p : Nat, vp = .int .i64 p ∧ p ≤ b - f ∧ hdr wr K z (dgp b v p) ∧ Below w.heap.size w wr) (fun vp _ => b - f - (intOf vp).toNat)
  case atStart => exact ⟨0, rfl, Nat.zero_le _, hN, B2⟩
  case round =>
    clear hN B2 hcv1
    obtain ⟨p, rfl, hp, hN, hB⟩ := hrel
    by_cases hlt : p < b - f
    · have i1 : (p : Int) < ((b - f : Nat) : Int) := by omega
      have i2 : (p : Int) < (b : Int) := by omega
      have i0 : (0 : Int) ≤ (p : Int) := by omega
      have hlen := dgp_len b v p (by omega)
      have hc := hdr_cell hN (j := p) (by omega)
      have hfz := hdr_frozen hN (j := p) (by omega)
      have hset := hdr_set (bitB b v p) hN (p := p) (by omega)
      rw [dgp_succ b v p (by omega), ← bit_val b v p hv] at hset
      have hB2 := hB.setCell (p := ⟨K, p, none⟩) hzw (.int .u8 ((48 + bits .and .i64 ((v : Int) / 2 ^ (b - 1 - p)) 1) % 256))
      clear hN hB
      go_wp2_with fail
      go_roundw
      case rel => exact ⟨p + 1, by go_num, by omega, hset, hB2⟩
      case measure => simp [intOf]; omega
    · have i1 : ¬ (p : Int) < ((b - f : Nat) : Int) := by omega
      obtain rfl : p = b - f := by omega
      rw [dgp_all b v f hf] at hN
      have hlen := digL_len b v f hf
      have hcv := run_convert_bytes_back (P := Tryz.prog) wr 59 9 5 ⟨K, 0, none⟩ cp (digL b v f) Tryz.underlying59 Tryz.underlying5 Tryz.underlying9 (fun j hj => by
        have := hdr_cell hN hj
        simp only [Addr.add]
        split
        · rename_i h; subst h; exact this
        · simpa using this)
      rw [hlen] at hcv
      obtain ⟨S, hS⟩ : ∃ S, digL b v f = S := ⟨_, rfl⟩
      rw [hS] at hcv
      have HS : Hid (digL b v f = S) := hS
      clear hN hS hlen
      go_wp2_with fail
      go_ret
      exact ⟨by rw [HS.out]; rfl, hB⟩
end Go.Proofs.YtealpmimffcpdaaGreatDoor
namespace Go.Proofs
open Go.Shelf
def Tryz.l7n27_ren : Go.Shelf.Ren := ⟨fun | 27 => 62 | 28 => 75 | 29 => 76 | n => n, fun | 25 => 91 | 3 => 3 | 27 => 118 | 22 => 73 | 4 => 4 | 53 => 133 | 0 => 0 | 5 => 5 | 54 => 134 | n => n, fun | 0 => 0 | 1 => 1 | n => n⟩
theorem Tryz.l7n27 : Go.Proofs.Lays7.n27 Tryz.prog Tryz.l7n27_ren := {
  mixed := by kernel_rfl
  f27 := Tryz.func62.trans (congrArg some (by kernel_rfl))
  f28 := Tryz.func75.trans (congrArg some (by kernel_rfl))
  f29 := Tryz.func76.trans (congrArg some (by kernel_rfl))
  t0 := Tryz.underlying0
  a0 := Tryz.isAgg0
  z0 := Tryz.sizeOf0
  v0 := Tryz.zeroValue0
  i0 := by kernel_rfl
  t3 := Tryz.underlying3
  a3 := Tryz.isAgg3
  z3 := Tryz.sizeOf3
  v3 := Tryz.zeroValue3
  i3 := by kernel_rfl
  t4 := Tryz.underlying4
  a4 := Tryz.isAgg4
  z4 := Tryz.sizeOf4
  v4 := Tryz.zeroValue4
  i4 := by kernel_rfl
  t5 := Tryz.underlying5
  a5 := Tryz.isAgg5
  z5 := Tryz.sizeOf5
  v5 := Tryz.zeroValue5
  i5 := by kernel_rfl
  t22 := Tryz.underlying73
  a22 := Tryz.isAgg73
  z22 := Tryz.sizeOf73
  v22 := Tryz.zeroValue73
  i22 := by kernel_rfl
  t25 := Tryz.underlying91
  a25 := Tryz.isAgg91
  z25 := Tryz.sizeOf91
  v25 := Tryz.zeroValue91
  i25 := by kernel_rfl
  t27 := Tryz.underlying118
  a27 := Tryz.isAgg118
  z27 := Tryz.sizeOf118
  v27 := Tryz.zeroValue118
  i27 := by kernel_rfl
  t53 := Tryz.underlying133
  a53 := Tryz.isAgg133
  z53 := Tryz.sizeOf133
  v53 := Tryz.zeroValue133
  i53 := by kernel_rfl
  t54 := Tryz.underlying134
  a54 := Tryz.isAgg134
  z54 := Tryz.sizeOf134
  g0 := by kernel_rfl
  g1 := by kernel_rfl }
end Go.Proofs
namespace Go.Proofs.YtealpmimffcpdaaGreatDoor
open Go.RowKit Go.Shelf
/-- the table of math/bits lies there -/
def DB (w : World) : Prop := TabAt 1 Lib.deBruijn64tab w
theorem DB.below {w W : World} (h : DB w) (hb : Below w.heap.size w W) : DB W := fun j hj => (hb.cell (World.block_lt_of_cell? w _ (h j hj))).trans (h j hj)
theorem tz_any (a : Nat) (ha : a < 18446744073709551616) (w : World) (h : DB w) : Calls Tryz.prog 62 #[.int .u64 (a : Int)] w fun e w' => e = .returned (.int .i64 (cz a : Int)) ∧ w' = w :=
  Any7.bits_TrailingZeros Tryz.l7n27 a ha w (fun _ => h)
theorem len_any (a : Nat) (ha : a < 18446744073709551616) (w : World) : Calls Tryz.prog 63 #[.int .u64 (a : Int)] w fun e w' => e = .returned (.int .i64 (Lib.bitLen a : Int)) ∧ w' = w := by
  have h := Any.bits_Len Tryz.l125 (a : Int) w (by omega) (by omega)
  rw [Int.toNat_natCast] at h
  exact h
/-- a list of texts as cells -/
def stx (L : List (List UInt8)) : List Value := L.map fun t => Value.string ⟨t.toArray⟩
theorem stx_snoc (L : List (List UInt8)) (t : List UInt8) : stx (L ++ [t]) = stx L ++ [Value.string ⟨t.toArray⟩] := by simp [stx]
theorem info_str : (Tryz.prog.info? 9).map (fun i => (i.zero, i.size, i.bytes)) = some (some (.string ⟨#[]⟩), 1, 16) := by kernel_rfl
/-- the texts of a range's prefixes -/
def cov (b lo hi : Nat) : List (List UInt8) := (gr lo hi).map fun p => digL b p.1 p.2
theorem cov_le {b a e : Nat} (h : a ≤ e) : cov b a e = digL b a (fre a e) :: cov b (a + 2 ^ fre a e) e := by unfold cov; rw [gr_le h]; rfl
theorem cov_end {b a e : Nat} (h : ¬ a ≤ e) : cov b a e = [] := by unfold cov; rw [gr_end h]; rfl
theorem bitLen_pos {n : Nat} (h : 0 < n) (h2 : n < 2 ^ 64) : 1 ≤ Lib.bitLen n := by
  obtain ⟨_, b⟩ := bitLen_spec n h h2
  refine Classical.byContradiction (fun hn => ?_)
  rw [show Lib.bitLen n = 0 by omega] at b
  simp at b
  omega
theorem add_wrap (a G : Nat) (h : a + G ≤ 8589934592) : wrap64 ((a : Int) + wrap64 (G : Int)) = ((a + G : Nat) : Int) := by
  rw [w64 (x := (G : Int)) (by omega) (by omega), w64 (by omega) (by omega)]
  omega
theorem add_pow (a F G : Nat) (hG : 2 ^ F = G) (h : a + G ≤ 8589934592) : wrap64 ((a : Int) + wrap64 (2 ^ F)) = ((a + G : Nat) : Int) := by
  rw [pow_cast, hG]
  exact add_wrap a G h
set_option maxRecDepth 100000 in
set_option maxHeartbeats 1000000 in
theorem prefixes_any (b lo hi : Nat) (hb1 : 1 ≤ b) (hb : b ≤ 32) (hh : hi < 2 ^ b) (hl : lo ≤ hi + 1) (w : World) (hdb0 : DB w) :
    Calls Tryz.prog 48 #[.int .i64 (b : Int), .int .i64 (lo : Int), .int .i64 (hi : Int)] w fun e w' => ∃ v, e = .returned v ∧ w'.ownsRow w.heap.size 9 1 v (cov b lo hi).length (stx (cov b lo hi)) ∧ Below w.heap.size w w' := by
  have hp : 2 ^ b ≤ 2 ^ 32 := Nat.pow_le_pow_right (by decide) hb
  obtain ⟨i0, hi0, hz0, hz1, hz2⟩ := info_parts info_str
  have hdb : Hid (DB w) := hdb0
  clear hdb0
  go_enter Tryz.func48, Tryz.ntmps48
  go_wp2_with fail
  go_loopw [1, 7] (fun va v wr => ∃ (a : Nat) (D : List (List UInt8)), va = .int .i64 a ∧ a ≤ hi + 1 ∧ D.length ≤ a ∧ D ++ cov b a hi = cov b lo hi ∧ wr.ownsRow w.heap.size 9 1 v D.length (stx D) ∧ Below w.heap.size w wr) (fun va _ _ => hi + 1 - (intOf va).toNat)
  case atStart => exact ⟨lo, [], rfl, hl, Nat.zero_le _, rfl, World.ownsRow_nil _ _ _ _, Below.refl _ _⟩
  case round =>
    obtain ⟨a, D, rfl, ha, hD, hcov, hown, hB⟩ := hrel
    have hsz := hB.size
    by_cases hle : a ≤ hi
    · have i1 : (a : Int) ≤ (hi : Int) := by omega
      have e1 : IntKind.u64.wrap (a : Int) = (a : Int) := by rw [IntKind.wrap_u64]; omega
      have e2 : IntKind.i64.wrap ((hi : Int) - (a : Int)) = ((hi - a : Nat) : Int) := by rw [IntKind.wrap_i64]; omega
      have e3 : IntKind.i64.wrap (((hi - a : Nat) : Int) + 1) = ((hi - a + 1 : Nat) : Int) := by rw [IntKind.wrap_i64]; omega
      have e4 : IntKind.u64.wrap ((hi - a + 1 : Nat) : Int) = ((hi - a + 1 : Nat) : Int) := by rw [IntKind.wrap_u64]; omega
      have HT := tz_any a (by omega) wr (hdb.out.below hB)
      have HL := fun W => len_any (hi - a + 1) (by omega) W
      have hbl := bitLen_pos (n := hi - a + 1) (by omega) (by omega)
      rw [cov_le hle] at hcov
      have hfp := fre_le (a := a) (e := hi) hle (by omega)
      have hfb : fre a hi ≤ b := (Nat.pow_le_pow_iff_right (a := 2) (by decide)).1 (by omega)
      have hfd : fre a hi = min (cz a) (Lib.bitLen (hi - a + 1) - 1) := rfl
      have hl64 := Lib.bitLen_le (hi - a + 1) 64 (Nat.le_refl _) (by omega)
      obtain ⟨F, hF⟩ : ∃ F, fre a hi = F := ⟨_, rfl⟩
      obtain ⟨C, hC⟩ : ∃ C, cz a = C := ⟨_, rfl⟩
      obtain ⟨L, hL⟩ : ∃ L, Lib.bitLen (hi - a + 1) = L := ⟨_, rfl⟩
      rw [hF] at hcov hfp hfb hfd
      rw [hC] at hfd HT
      rw [hL] at hfd hbl hl64
      simp only [hL] at HL
      have e5 : wrap64 ((L : Int) - 1) = ((L - 1 : Nat) : Int) := by rw [w64 (by omega) (by omega)]; omega
      have e6 : min (C : Int) ((L - 1 : Nat) : Int) = (F : Int) := by rw [hfd]; omega
      obtain ⟨G, hG⟩ : ∃ G, 2 ^ F = G := ⟨_, rfl⟩
      have hpp : 0 < 2 ^ F := Nat.pow_pos (by decide)
      rw [hG] at hcov hfp hpp
      have hag : a + G ≤ 8589934592 := by omega
      have e8 : Hid (wrap64 ((a : Int) + wrap64 (2 ^ F)) = ((a + G : Nat) : Int)) := add_pow a F G hG hag
      clear hG
      have HD := fun W => digits_any b a F hb1 hb hfb (by omega) W
      have hlen : (digL b a F).length = b := digL_len b a F hfb
      obtain ⟨S, hS⟩ : ∃ S, digL b a F = S := ⟨_, rfl⟩
      rw [hS] at hcov
      simp only [hS] at HD
      have HC : Hid ((D ++ [S]) ++ cov b (a + G) hi = cov b lo hi) := by unfold Hid; rw [List.append_assoc]; exact hcov
      obtain ⟨qv, cv, rfl⟩ := shapeP hown
      have P32 : hi ≤ 4294967296 := by omega
      have F32 : F ≤ 32 := Nat.le_trans hfb hb
      clear hcov hC hL hF hS hlen hfd hfb hl64 hbl hh hp
      go_wp2_with fail
      refine HT.mono ?_
      rintro e w1 ⟨rfl, rfl⟩
      go_wp2_with fail
      refine (HL _).mono ?_
      rintro e w2 ⟨rfl, rfl⟩
      go_wp2_with fail
      refine (HD _).mono ?_
      rintro e w3 ⟨rfl, hb3⟩
      have hown3 := owns_below hown hb3
      have hB3 := bel0 hB hb3
      have hs3 := hB3.size
      clear hown hB HT HL HD
      go_wp2_with (at_builtin; refine wpList_append_own _ rfl _ _ 64 rfl w.heap.size 9 i0 _ 1 16 Tryz.underlying64 hi0 hz0 hz1 hz2 rfl (by decide) _ _ _ rfl (hown3.alloc _) ⟨w3.heap.size, 0, none⟩ 1 1 [Value.string ⟨S.toArray⟩] rfl rfl (World.news_of_block (cs := #[.string ⟨S.toArray⟩]) (t := 9) (fr := (0, 0)) (alloc_get _ _)) (by simp [Value.oneCell']) (by unfold maxLen; omega) (by omega) (by simp; omega) ?_; intro v5 w5 oB hg5 _)
      have b5 : Below w.heap.size w w5 := (hB3.alloc hs3 _).grown hg5 (by simp; omega) (fun k e => (hown3.lt k e).1)
      have o5 : w5.ownsRow w.heap.size 9 1 v5 (D ++ [S]).length (stx (D ++ [S])) := by rw [List.length_append, stx_snoc]; exact oB
      clear oB hg5 hown3 hB3
      go_roundw
      case rel => exact ⟨a + G, D ++ [S], by rw [e8.out], by omega, by rw [List.length_append]; simp; omega, HC.out, o5, b5⟩
      case measure => rw [e8.out]; simp [intOf]; omega
    · have i1 : ¬ (a : Int) ≤ (hi : Int) := by omega
      rw [cov_end hle, List.append_nil] at hcov
      have HC : Hid (D = cov b lo hi) := hcov
      clear hcov hh hp
      go_wp2_with fail
      go_ret
      refine ⟨_, rfl, ?_, hB⟩
      rw [← HC.out]
      exact hown
end Go.Proofs.YtealpmimffcpdaaGreatDoor
namespace Go.Proofs.YtealpmimffcpdaaGreatDoor
open Go.RowKit Go.Shelf
theorem stx_len (L : List (List UInt8)) : (stx L).length = L.length := by simp [stx]
theorem stx_get (L : List (List UInt8)) (i : Nat) (h : i < L.length) : (stx L)[i]? = some (Value.string ⟨(L[i]).toArray⟩) := by simp [stx, List.getElem?_eq_getElem h]
theorem pow_pred (k : Nat) : 2 ^ k - 1 + 1 = 2 ^ k := by
  have : 0 < 2 ^ k := Nat.pow_pos (by decide)
  omega
/-- Cover's error -/
def covE (b lo hi : Int) : Nat :=
  if b < 1 ∨ 32 < b then 1
  else if ¬ (0 ≤ lo ∧ lo ≤ ((2 ^ b.toNat - 1 : Nat) : Int)) ∨ ¬ (0 ≤ hi ∧ hi ≤ ((2 ^ b.toNat - 1 : Nat) : Int)) then 42
  else if hi < lo then 43 else 0
def covL (b lo hi : Int) : List (List UInt8) := if covE b lo hi = 0 then cov b.toNat lo.toNat hi.toNat else []
def cvR (w : World) (b lo hi : Int) (e : Ending) (w' : World) : Prop := ∃ v, e = .returned (.tuple #[v, .int .i64 (covE b lo hi : Int)]) ∧ w'.ownsRow w.heap.size 9 1 v (covL b lo hi).length (stx (covL b lo hi)) ∧ Below w.heap.size w w'
theorem cvR_nil {w w' : World} {b lo hi : Int} {n : Nat} {e : Ending} (h : covE b lo hi = n) (hn : n ≠ 0) (he : e = .returned (.tuple #[.slice none 0 0, .int .i64 (n : Int)])) (hb : Below w.heap.size w w') : cvR w b lo hi e w' := by
  refine ⟨.slice none 0 0, by rw [h]; exact he, ?_, hb⟩
  have : covL b lo hi = [] := by unfold covL; rw [if_neg (by rw [h]; exact hn)]
  rw [this]
  exact World.ownsRow_nil _ _ _ _
set_option maxRecDepth 100000 in
set_option maxHeartbeats 1000000 in
theorem cover_any (b lo hi : Int) (w : World) (hdb : DB w) :
    Calls Tryz.prog 31 #[.int .i64 b, .int .i64 lo, .int .i64 hi] w fun e w' => cvR w b lo hi e w' := by
  by_cases h1 : b < 1
  · have hr : Hid (covE b lo hi = 1) := if_pos (.inl h1)
    go_enter Tryz.func31, Tryz.ntmps31
    go_wp2_with fail
    go_ret2
    exact cvR_nil hr.out (by decide) rfl (Below.refl _ _)
  · by_cases h2 : 32 < b
    · have hr : Hid (covE b lo hi = 1) := if_pos (.inr h2)
      go_enter Tryz.func31, Tryz.ntmps31
      go_wp2_with fail
      go_ret2
      exact cvR_nil hr.out (by decide) rfl (Below.refl _ _)
    · obtain ⟨n, rfl⟩ : ∃ n : Nat, b = (n : Int) := ⟨b.toNat, by omega⟩
      have HF := fun v W => fits_any v n (by omega) W
      have hE : covE (n : Int) lo hi = if ¬ (0 ≤ lo ∧ lo ≤ ((2 ^ n - 1 : Nat) : Int)) ∨ ¬ (0 ≤ hi ∧ hi ≤ ((2 ^ n - 1 : Nat) : Int)) then 42 else if hi < lo then 43 else 0 := by
        unfold covE
        rw [if_neg (by omega), Int.toNat_natCast]
      by_cases g1 : 0 ≤ lo ∧ lo ≤ ((2 ^ n - 1 : Nat) : Int)
      · have F1 := fun W => HF lo W
        rw [decide_eq_true g1] at F1
        by_cases g2 : 0 ≤ hi ∧ hi ≤ ((2 ^ n - 1 : Nat) : Int)
        · have F2 := fun W => HF hi W
          rw [decide_eq_true g2] at F2
          rw [if_neg (by rintro (h | h); exact h g1; exact h g2)] at hE
          by_cases g3 : hi < lo
          · rw [if_pos g3] at hE
            have hr : Hid (covE (n : Int) lo hi = 43) := hE
            clear hE HF g1 g2
            go_enter Tryz.func31, Tryz.ntmps31
            go_wp2_with fail
            refine (F1 _).mono ?_
            rintro e w1 ⟨rfl, rfl⟩
            go_wp2_with fail
            refine (F2 _).mono ?_
            rintro e w2 ⟨rfl, rfl⟩
            go_wp2_with fail
            go_ret2
            exact cvR_nil hr.out (by decide) rfl (Below.refl _ _)
          · rw [if_neg g3] at hE
            obtain ⟨l, rfl⟩ : ∃ l : Nat, lo = (l : Int) := ⟨lo.toNat, by omega⟩
            obtain ⟨h, rfl⟩ : ∃ h : Nat, hi = (h : Int) := ⟨hi.toNat, by omega⟩
            have hp0 : 0 < 2 ^ n := Nat.pow_pos (by decide)
            have HP := prefixes_any n l h (by omega) (by omega) (by omega) (by omega) w hdb
            have hcl : covL (n : Int) (l : Int) (h : Int) = cov n l h := by unfold covL; rw [if_pos hE]; simp
            rw [← hcl] at HP
            have hr : Hid (covE (n : Int) (l : Int) (h : Int) = 0) := hE
            clear hE HF g1 g2 hcl hp0 hdb
            go_enter Tryz.func31, Tryz.ntmps31
            go_wp2_with fail
            refine (F1 _).mono ?_
            rintro e w1 ⟨rfl, rfl⟩
            go_wp2_with fail
            refine (F2 _).mono ?_
            rintro e w2 ⟨rfl, rfl⟩
            go_wp2_with fail
            refine HP.mono ?_
            rintro e w3 ⟨v3, rfl, ho3, hb3⟩
            go_wp2_with fail
            go_ret2
            exact ⟨v3, by rw [hr.out]; rfl, ho3, hb3⟩
        · have F2 := fun W => HF hi W
          rw [decide_eq_false g2] at F2
          rw [if_pos (.inr g2)] at hE
          have hr : Hid (covE (n : Int) lo hi = 42) := hE
          clear hE HF g1 g2
          go_enter Tryz.func31, Tryz.ntmps31
          go_wp2_with fail
          refine (F1 _).mono ?_
          rintro e w1 ⟨rfl, rfl⟩
          go_wp2_with fail
          refine (F2 _).mono ?_
          rintro e w2 ⟨rfl, rfl⟩
          go_wp2_with fail
          go_ret2
          exact cvR_nil hr.out (by decide) rfl (Below.refl _ _)
      · have F1 := fun W => HF lo W
        rw [decide_eq_false g1] at F1
        rw [if_pos (.inl g1)] at hE
        have hr : Hid (covE (n : Int) lo hi = 42) := hE
        clear hE HF g1
        go_enter Tryz.func31, Tryz.ntmps31
        go_wp2_with fail
        refine (F1 _).mono ?_
        rintro e w1 ⟨rfl, rfl⟩
        go_wp2_with fail
        go_ret2
        exact cvR_nil hr.out (by decide) rfl (Below.refl _ _)
end Go.Proofs.YtealpmimffcpdaaGreatDoor
namespace Go.Proofs.YtealpmimffcpdaaGreatDoor
open Go.RowKit Go.Shelf
set_option maxRecDepth 100000 in
theorem top_any (b : Nat) (hb : b ≤ 32) (w : World) :
    Calls Tryz.prog 25 #[.int .i64 (b : Int)] w fun e w' => e = .returned (.int .i64 ((2 ^ b - 1 : Nat) : Int)) ∧ w' = w := by
  have hp : 2 ^ b ≤ 2 ^ 32 := Nat.pow_le_pow_right (by decide) hb
  have hp0 : 0 < 2 ^ b := Nat.pow_pos (by decide)
  go_enter Tryz.func25, Tryz.ntmps25
  go_wp2_with fail
  go_ret
  refine ⟨?_, rfl⟩
  have e1 : wrap64 (2 ^ b) = ((2 ^ b : Nat) : Int) := by rw [pow_cast]; exact w64 (by omega) (by omega)
  have e2 : wrap64 (wrap64 (2 ^ b) - 1) = ((2 ^ b - 1 : Nat) : Int) := by rw [e1, w64 (by omega) (by omega)]; omega
  exact congrArg (fun z => Ending.returned (Value.int .i64 z)) e2
set_option maxRecDepth 100000 in
set_option maxHeartbeats 1000000 in
theorem xs_any (n : Nat) (hn : n ≤ 1024) (w : World) :
    Calls Tryz.prog 33 #[.int .i64 (n : Int)] w fun e w' => e = .returned (.string ⟨(List.replicate n 120).toArray⟩) ∧ Below w.heap.size w w' := by
  obtain ⟨i0, hi0, hz0, hz1, hz2⟩ := info_parts info_u8
  go_enter Tryz.func33, Tryz.ntmps33
  go_wp2_with fail
  go_loopw [3, 4] (fun v vi wr => ∃ i : Nat, vi = .int .i64 i ∧ i ≤ n ∧ wr.ownsRow w.heap.size 5 1 v (List.replicate i (120 : UInt8)).length (Lib.byteCells (List.replicate i 120)) ∧ Below w.heap.size w wr) (fun _ vi _ => n - (intOf vi).toNat)
  case atStart => exact ⟨0, rfl, Nat.zero_le _, World.ownsRow_nil _ _ _ _, Below.refl _ _⟩
  case round =>
    obtain ⟨i, rfl, hi, hown, hB⟩ := hrel
    have hsz := hB.size
    by_cases hlt : i < n
    · have i1 : (i : Int) < (n : Int) := by omega
      rw [List.length_replicate] at hown
      obtain ⟨qv, cv, rfl⟩ := shapeP hown
      go_wp2_with (at_builtin; refine wpList_append_own _ rfl _ _ 59 rfl w.heap.size 5 i0 _ 1 1 Tryz.underlying59 hi0 hz0 hz1 hz2 rfl (by decide) _ _ _ rfl (hown.alloc _) ⟨wr.heap.size, 0, none⟩ 1 1 [Value.int .u8 120] rfl rfl (World.news_of_block (cs := #[.int .u8 120]) (t := 5) (fr := (0, 0)) (alloc_get _ _)) (by simp [Value.oneCell']) (by unfold maxLen; omega) (by omega) (by simp; omega) ?_; intro v5 w5 oB hg5 _)
      have b5 : Below w.heap.size w w5 := (hB.alloc hsz _).grown hg5 (by simp; omega) (fun k e => (hown.lt k e).1)
      have o5 : w5.ownsRow w.heap.size 5 1 v5 (List.replicate (i + 1) (120 : UInt8)).length (Lib.byteCells (List.replicate (i + 1) 120)) := by
        rw [List.length_replicate, List.replicate_succ', byteCells_append]
        exact oB
      clear oB hg5 hown hB
      go_roundw
      case rel => exact ⟨i + 1, by go_num, by omega, o5, b5⟩
      case measure => simp [intOf]; omega
    · have i1 : ¬ (i : Int) < (n : Int) := by omega
      obtain rfl : i = n := by omega
      have hcv := conv_own _ hown
      obtain ⟨S, hS⟩ : ∃ S : List UInt8, List.replicate i 120 = S := ⟨_, rfl⟩
      rw [hS] at hcv
      have HS : Hid (List.replicate i 120 = S) := hS
      clear hown hS
      go_wp2_with fail
      go_ret
      have hSa : S.toArray = Array.replicate i 120 := by rw [← HS.out]; simp
      exact ⟨congrArg (fun x => Ending.returned (Value.string ⟨x⟩)) hSa, hB⟩
set_option maxRecDepth 100000 in
set_option maxHeartbeats 1000000 in
theorem rdigits_any (v n : Nat) (hn : n ≤ 32) (hv : v < 8589934592) (w : World) :
    Calls Tryz.prog 26 #[.int .i64 (v : Int), .int .i64 (n : Int)] w fun e w' => e = .returned (.string ⟨((List.range n).map (bitB n v)).toArray⟩) ∧ Below w.heap.size w w' := by
  obtain ⟨i0, hi0, hz0, hz1, hz2⟩ := info_parts info_u8
  have e0 : IntKind.i64.wrap ((n : Int) - 1) = (n : Int) - 1 := by rw [IntKind.wrap_i64]; omega
  go_enter Tryz.func26, Tryz.ntmps26
  go_wp2_with fail
  go_loopw [5, 6] (fun vl vi wr => ∃ p : Nat, vi = .int .i64 ((n : Int) - 1 - (p : Int)) ∧ p ≤ n ∧ wr.ownsRow w.heap.size 5 1 vl p (Lib.byteCells ((List.range p).map (bitB n v))) ∧ Below w.heap.size w wr) (fun _ vi _ => (intOf vi + 1).toNat)
  case atStart => exact ⟨0, by simp, Nat.zero_le _, World.ownsRow_nil _ _ _ _, Below.refl _ _⟩
  case round =>
    obtain ⟨p, rfl, hp, hown, hB⟩ := hrel
    have hsz := hB.size
    by_cases hlt : p < n
    · obtain ⟨k, hk⟩ : ∃ k : Nat, n - 1 - p = k := ⟨_, rfl⟩
      have hkk : (n : Int) - 1 - (p : Int) = (k : Int) := by omega
      rw [hkk]
      have i1 : (0 : Int) ≤ (k : Int) := by omega
      have k32 : k ≤ 32 := by omega
      have hd : v / 2 ^ k ≤ v := Nat.div_le_self _ _
      have hand := and1 (v / 2 ^ k) (by omega)
      rw [← div_cast] at hand
      have hbit : bitB n v p = UInt8.ofNat (48 + v / 2 ^ k % 2) := by unfold bitB; rw [hk]
      obtain ⟨d, hdd⟩ : ∃ d, v / 2 ^ k % 2 = d := ⟨_, rfl⟩
      rw [hdd] at hand hbit
      have hd2 : d = 0 ∨ d = 1 := by omega
      have e9 : IntKind.i64.wrap ((k : Int) - 1) = (k : Int) - 1 := by rw [IntKind.wrap_i64]; omega
      obtain ⟨qv, cv, rfl⟩ := shapeP hown
      have hsnoc : ∀ c : UInt8, bitB n v p = c → Lib.byteCells ((List.range (p + 1)).map (bitB n v)) = Lib.byteCells ((List.range p).map (bitB n v)) ++ [Value.int .u8 (c.toNat : Int)] := fun c hc => by
        rw [List.range_succ, List.map_append, byteCells_append]
        show _ ++ [Value.int .u8 ((bitB n v p).toNat : Int)] = _
        rw [hc]
      have HK : Hid ((n : Int) - 1 - (p : Int) = (k : Int)) := hkk
      clear hdd hd hkk
      rcases hd2 with rfl | rfl
      · have hs0 := hsnoc 48 hbit
        clear hsnoc hbit
        go_wp2_with (at_builtin; refine wpList_append_own _ rfl _ _ 59 rfl w.heap.size 5 i0 _ 1 1 Tryz.underlying59 hi0 hz0 hz1 hz2 rfl (by decide) _ _ _ rfl (hown.alloc _) ⟨wr.heap.size, 0, none⟩ 1 1 [Value.int .u8 48] rfl rfl (World.news_of_block (cs := #[.int .u8 48]) (t := 5) (fr := (0, 0)) (alloc_get _ _)) (by simp [Value.oneCell']) (by unfold maxLen; omega) (by omega) (by simp; omega) ?_; intro v5 w5 oB hg5 _)
        have b5 : Below w.heap.size w w5 := (hB.alloc hsz _).grown hg5 (by simp; omega) (fun k e => (hown.lt k e).1)
        have o5 : w5.ownsRow w.heap.size 5 1 v5 (p + 1) (Lib.byteCells ((List.range (p + 1)).map (bitB n v))) := by rw [hs0]; exact oB
        clear oB hg5 hown hB hs0 hand
        go_roundw
        case rel => exact ⟨p + 1, by have := HK.out; go_num, by omega, o5, b5⟩
        case measure => simp [intOf]
      · have hs0 := hsnoc 49 hbit
        clear hsnoc hbit
        go_wp2_with (at_builtin; refine wpList_append_own _ rfl _ _ 59 rfl w.heap.size 5 i0 _ 1 1 Tryz.underlying59 hi0 hz0 hz1 hz2 rfl (by decide) _ _ _ rfl (hown.alloc _) ⟨wr.heap.size, 0, none⟩ 1 1 [Value.int .u8 49] rfl rfl (World.news_of_block (cs := #[.int .u8 49]) (t := 5) (fr := (0, 0)) (alloc_get _ _)) (by simp [Value.oneCell']) (by unfold maxLen; omega) (by omega) (by simp; omega) ?_; intro v5 w5 oB hg5 _)
        have b5 : Below w.heap.size w w5 := (hB.alloc hsz _).grown hg5 (by simp; omega) (fun k e => (hown.lt k e).1)
        have o5 : w5.ownsRow w.heap.size 5 1 v5 (p + 1) (Lib.byteCells ((List.range (p + 1)).map (bitB n v))) := by rw [hs0]; exact oB
        clear oB hg5 hown hB hs0 hand
        go_roundw
        case rel => exact ⟨p + 1, by have := HK.out; go_num, by omega, o5, b5⟩
        case measure => simp [intOf]
    · obtain rfl : p = n := by omega
      have hkk : (p : Int) - 1 - (p : Int) = -1 := by omega
      rw [hkk]
      have hcv := conv_own ((List.range p).map (bitB p v)) (by rw [List.length_map, List.length_range]; exact hown)
      obtain ⟨S, hS⟩ : ∃ S : List UInt8, (List.range p).map (bitB p v) = S := ⟨_, rfl⟩
      rw [hS] at hcv
      have HS : Hid ((List.range p).map (bitB p v) = S) := hS
      clear hown hS
      go_wp2_with fail
      go_ret
      exact ⟨by rw [HS.out]; rfl, hB⟩
end Go.Proofs.YtealpmimffcpdaaGreatDoor
namespace Go.Proofs.YtealpmimffcpdaaGreatDoor
open Go.RowKit Go.Shelf
set_option maxRecDepth 100000 in
set_option maxHeartbeats 1000000 in
/-- like rows are alike -/
theorem same_any (L : List (List UInt8)) (B1 B2 : Nat) (va vb : Value) (w : World) (hL : L.length ≤ 4294967296) (ha : w.ownsRow B1 9 1 va L.length (stx L)) (hb : w.ownsRow B2 9 1 vb L.length (stx L)) :
    Calls Tryz.prog 32 #[va, vb] w fun x w' => x = .returned (.bool true) ∧ Below w.heap.size w w' := by
  have HA : Hid (w.ownsRow B1 9 1 va L.length (stx L)) := ha
  have HB : Hid (w.ownsRow B2 9 1 vb L.length (stx L)) := hb
  obtain ⟨qa, ca, rfl⟩ := shapeP ha
  obtain ⟨qb, cb, rfl⟩ := shapeP hb
  clear ha hb
  go_enter Tryz.func32, Tryz.ntmps32
  go_wp2_with fail
  go_loopw [5] (fun vi wr => ∃ i : Nat, vi = .int .i64 i ∧ i ≤ L.length ∧ Below w.heap.size w wr) (fun vi _ => L.length - (intOf vi).toNat)
  case atStart => exact ⟨0, rfl, Nat.zero_le _, Below.refl _ _⟩
  case round =>
    obtain ⟨i, rfl, hi, hW⟩ := hrel
    by_cases hlt : i < L.length
    · have q1 : (i : Int) < (L.length : Int) := by omega
      have q0 : (0 : Int) ≤ (i : Int) := by omega
      have hA := owns_below HA.out hW
      have hB := owns_below HB.out hW
      obtain ⟨ga, ca2, hfa⟩ := own_form hA (by omega)
      obtain ⟨gb, cb2, hfb⟩ := own_form hB (by omega)
      injection hfa with x1 x2 x3
      injection hfb with y1 y2 y3
      subst x1 x3 y1 y3
      have hx := hA.cells rfl i _ (stx_get L i hlt)
      have hy := hB.cells rfl i _ (stx_get L i hlt)
      rw [add0] at hx hy
      obtain ⟨t, ht⟩ : ∃ t, L[i] = t := ⟨_, rfl⟩
      rw [ht] at hx hy
      clear ht HA HB hA hB
      go_wp2_with fail
      go_quiet (fail)
      go_wp2_with fail
      go_roundw
      case rel => exact ⟨i + 1, by go_num, by omega, bel_drewN _ hW⟩
      case measure => simp [intOf]; omega
    · have q1 : ¬ (i : Int) < (L.length : Int) := by omega
      clear HA HB
      go_wp2_with fail
      go_ret
      exact ⟨rfl, hW⟩
theorem cov_439 : covE 4 3 9 = 0 ∧ covL 4 3 9 = [[48, 48, 49, 49], [48, 49, 120, 120], [49, 48, 48, 120]] := by
  have hE : covE 4 3 9 = 0 := by decide
  refine ⟨hE, ?_⟩
  have f1 : fre 3 9 = 0 := by decide
  have f2 : fre 4 9 = 2 := by decide
  have f3 : fre 8 9 = 1 := by decide
  have h : cov 4 3 9 = [[48, 48, 49, 49], [48, 49, 120, 120], [49, 48, 48, 120]] := by
    rw [cov_le (by decide), f1, show 3 + 2 ^ 0 = 4 by decide, cov_le (by decide), f2, show 4 + 2 ^ 2 = 8 by decide, cov_le (by decide), f3, show 8 + 2 ^ 1 = 10 by decide, cov_end (by decide)]
    decide
  unfold covL
  rw [if_pos hE]
  exact h
set_option maxRecDepth 100000 in
set_option maxHeartbeats 1000000 in
theorem known_any (w : World) (hdb : DB w) : Calls Tryz.prog 15 #[] w fun e w' => e = .returned (.bool true) ∧ Below w.heap.size w w' := by
  have HC := cover_any 4 3 9 w hdb
  obtain ⟨hE, hL⟩ := cov_439
  have HN := fun W => num_any 0 W
  have HS := fun va vb W (h1 : W.ownsRow w.heap.size 9 1 va 3 (stx [[48, 48, 49, 49], [48, 49, 120, 120], [49, 48, 48, 120]])) (h2 : W.ownsRow w.heap.size 9 1 vb 3 (stx [[48, 48, 49, 49], [48, 49, 120, 120], [49, 48, 48, 120]])) => same_any [[48, 48, 49, 49], [48, 49, 120, 120], [49, 48, 48, 120]] w.heap.size w.heap.size va vb W (by decide) h1 h2
  have HS2 : Hid (∀ va vb W, W.ownsRow w.heap.size 9 1 va 3 (stx [[48, 48, 49, 49], [48, 49, 120, 120], [49, 48, 48, 120]]) → W.ownsRow w.heap.size 9 1 vb 3 (stx [[48, 48, 49, 49], [48, 49, 120, 120], [49, 48, 48, 120]]) → Calls Tryz.prog 32 #[va, vb] W fun x w' => x = .returned (.bool true) ∧ Below W.heap.size W w') := HS
  have HE : Hid (covE 4 3 9 = 0) := hE
  have HL : Hid (covL 4 3 9 = [[48, 48, 49, 49], [48, 49, 120, 120], [49, 48, 48, 120]]) := hL
  clear hdb HS hE hL
  go_enter Tryz.func15, Tryz.ntmps15
  go_wp2_with fail
  refine HC.mono ?_
  rintro e w1 ⟨v1, rfl, ho1, hb1⟩
  rw [HL.out] at ho1
  rw [HE.out]
  have ho1' : w1.ownsRow w.heap.size 9 1 v1 3 (stx [[48, 48, 49, 49], [48, 49, 120, 120], [49, 48, 48, 120]]) := ho1
  have HO : Hid (w1.ownsRow w.heap.size 9 1 v1 3 (stx [[48, 48, 49, 49], [48, 49, 120, 120], [49, 48, 48, 120]])) := ho1'
  clear ho1 ho1'
  go_wp2_with fail
  refine (HN _).mono ?_
  rintro e w2 ⟨rfl, rfl⟩
  go_wp2_with fail
  refine (HS2.out _ _ _ (HO.out.alloc _) (World.ownsRow_lit (base := w.heap.size) (e := 9) (size := 1) _ #[.string ⟨#[48, 48, 49, 49]⟩, .string ⟨#[48, 49, 120, 120]⟩, .string ⟨#[49, 48, 48, 120]⟩] 3 hb1.size (by unfold maxLen; omega) rfl)).mono ?_
  rintro e w3 ⟨rfl, hb3⟩
  go_wp2_with fail
  go_ret
  exact ⟨rfl, bel0 (hb1.alloc hb1.size _) hb3⟩
end Go.Proofs.YtealpmimffcpdaaGreatDoor
namespace Go.Proofs.YtealpmimffcpdaaGreatDoor
open Go.RowKit Go.Shelf
/-- bytes put over others from a place on -/
def putL : List UInt8 → Nat → List UInt8 → List UInt8
  | h, _, [] => h
  | h, p, x :: D => putL (h.set p x) (p + 1) D
theorem putL_len : ∀ (D h : List UInt8) (p : Nat), (putL h p D).length = h.length
  | [], _, _ => rfl
  | x :: D, h, p => by rw [putL, putL_len D]; simp
theorem putL_mid : ∀ (D A B C : List UInt8), D.length = B.length → putL (A ++ (B ++ C)) A.length D = A ++ (D ++ C)
  | [], A, B, C, h => by
    obtain rfl : B = [] := List.length_eq_zero_iff.1 h.symm
    rfl
  | x :: D, A, [], C, h => by cases h
  | x :: D, A, y :: B, C, h => by
    rw [putL, List.set_append_right _ _ (Nat.le_refl _), Nat.sub_self]
    have e : A ++ (y :: B ++ C).set 0 x = (A ++ [x]) ++ (B ++ C) := by simp
    have := putL_mid D (A ++ [x]) B C (by simpa using h)
    rw [List.length_append] at this
    rw [e]
    simp only [List.length_cons, List.length_nil, Nat.zero_add] at this
    rw [this]
    simp
theorem hdr_put {gh : Nat} {z : List Value} : ∀ (D h : List UInt8) (p : Nat) (W : World), hdr W gh z h → p + D.length ≤ h.length → hdr (W.setCells gh p (bys D)) gh z (putL h p D)
  | [], h, p, W, hh, _ => hh
  | x :: D, h, p, W, hh, hp => by
    have hp' : p < h.length := by rw [List.length_cons] at hp; omega
    exact hdr_put D (h.set p x) (p + 1) _ (hdr_set x hh hp') (by rw [List.length_set]; rw [List.length_cons] at hp; omega)
theorem info_one : ∀ w : World, (Go.sizeOf 5).run Tryz.prog w = .ok 1 w := fun w => by
  obtain ⟨i0, hi, hz0, hz1, hz2⟩ := info_parts info_u8
  simp [Go.sizeOf, typeInfo, hi, hz1]
set_option maxRecDepth 100000 in
set_option maxHeartbeats 2000000 in
theorem blank_any (L : List IFld) (o : Option Addr) (c n : Nat) (w : World) (hn : sumB L = (n : Int)) (hn2 : n ≤ 256) (hL : L.length ≤ 4096) (hf : ∀ f ∈ L, 0 ≤ f.2 ∧ f.2 ≤ 32) (hr : IRF w o L) :
    Calls Tryz.prog 27 #[.slice o L.length c] w fun e w' => ∃ K z cp, e = .returned (.slice (some ⟨K, 0, none⟩) n cp) ∧ w.heap.size ≤ K ∧ n ≤ cp ∧ hdr w' K z (List.replicate n 120) ∧ Below w.heap.size w w' := by
  have HW := widthOf_any L o c w hL hf hr
  rw [hn] at HW
  have HR := fun W => repeat_any n hn2 W
  have hcv := fun W => Lib.run_convert_string_bytes (P := Tryz.prog) W 9 59 5 ⟨(List.replicate n 120).toArray⟩ Tryz.underlying9 Tryz.underlying59 Tryz.underlying5
  obtain ⟨T, hT⟩ : ∃ T : List UInt8, List.replicate n 120 = T := ⟨_, rfl⟩
  have hTl : T.length = n := by rw [← hT]; simp
  rw [hT] at hcv ⊢
  simp only [hT] at HR
  clear hT hr hf
  go_enter Tryz.func27, Tryz.ntmps27
  go_wp2_with fail
  refine HW.mono ?_
  rintro e w0 ⟨rfl, hb0⟩
  go_wp2_with fail
  refine (HR _).mono ?_
  rintro e w1 ⟨rfl, hb1'⟩
  have hB1 := bel0 hb0 hb1'
  have hN := hdr_new w1 T
  have B2 := bel0 hB1 (bel_bytes w1 ⟨T.toArray⟩)
  have hzw : w.heap.size ≤ w1.heap.size := hB1.size
  have hsz : (⟨T.toArray⟩ : ByteArray).size = T.length := by show T.toArray.size = _; simp
  have hge := grownCap_ge w1 T.length 0 5
  have hcv1 := hcv w1
  rw [hsz] at hcv1
  obtain ⟨cp, hcp⟩ : ∃ c, grownCap w1 T.length 0 5 = c := ⟨_, rfl⟩
  rw [hcp] at hcv1 hge hN
  obtain ⟨W2, hW2⟩ : ∃ W2, Lib.bytesWorld w1 5 ⟨T.toArray⟩ = W2 := ⟨_, rfl⟩
  rw [hW2] at hcv1 hN B2
  rw [hTl] at hcv1 hge
  clear hcv hcp hW2 hsz hb1' HR hb0 HW
  go_wp2_with fail
  go_ret
  exact ⟨w1.heap.size, _, cp, rfl, hzw, hge, hN, B2⟩
set_option maxRecDepth 100000 in
set_option maxHeartbeats 2000000 in
theorem lay_any (L : List IFld) (g o0 c i : Nat) (K cp : Nat) (z : List Value) (T D : List UInt8) (n p B : Nat) (w : World) (hT : T.length = n) (hcp : n ≤ cp) (hp : sumB (L.take i) = (p : Int)) (hpd : p + D.length ≤ n) (hD : 0 < D.length) (hi : i ≤ L.length) (hc : L.length ≤ c) (hL : L.length ≤ 4096) (hf : ∀ f ∈ L, 0 ≤ f.2 ∧ f.2 ≤ 32) (hr : IRF w (some ⟨g, o0, none⟩) L) (hh : hdr w K z T) (hBK : B ≤ K) (hBw : B ≤ w.heap.size) :
    Calls Tryz.prog 29 #[.slice (some ⟨K, 0, none⟩) n cp, .slice (some ⟨g, o0, none⟩) L.length c, .int .i64 (i : Int), .string ⟨D.toArray⟩] w fun e w' => (∃ v, e = .returned v) ∧ hdr w' K z (putL T p D) ∧ Below B w w' := by
  have htl : (L.take i).length = i := by rw [List.length_take]; omega
  have HW := widthOf_any (L.take i) (some ⟨g, o0, none⟩) c w (by omega) (fun f hf' => hf f (List.mem_of_mem_take hf')) (hr.take i)
  rw [hp, htl] at HW
  have j0 : (0 : Int) ≤ (i : Int) := by omega
  have j1 : (i : Int) ≤ (c : Int) := by omega
  have j2 : (0 : Int) ≤ (p : Int) := by omega
  have j3 : (p : Int) ≤ (n : Int) := by omega
  have j4 : (n : Int) ≤ (cp : Int) := by omega
  have j5 : ¬ cp = p := by omega
  have j6 : ¬ (cp : Int) = (p : Int) := by omega
  have j7 : ¬ cp - p = 0 := by omega
  have HT : Hid (T.length = n) := hT
  have HPD : Hid (p + D.length ≤ n) := hpd
  have HC : Hid (∀ W : World, hdr W K z T → (Builtin.copy_ #[59, 9] 3 #[.slice (some ⟨K, p, none⟩) (n - p) (cp - p), .string ⟨D.toArray⟩]).run Tryz.prog W = .ok (goInt D.length) (W.setCells K p (bys D))) := fun W hW => by
    have hsz : (⟨D.toArray⟩ : ByteArray).size = D.length := by show D.toArray.size = _; simp
    have := run_copy_string (P := Tryz.prog) W 59 9 3 5 K p (n - p) (cp - p) ⟨D.toArray⟩ Tryz.underlying59 info_one (by rw [hsz]; omega) (fun j hj => by
      rw [hsz] at hj
      rw [hdr_cell hW (j := p + j) (by omega)]
      rfl) (fun j hj => by
      rw [hsz] at hj
      exact hdr_frozen hW (j := p + j) (by omega))
    rw [hsz] at this
    exact this
  have HH : Hid (hdr w K z T) := hh
  clear hT hpd hr hf hh htl hp
  go_enter Tryz.func29, Tryz.ntmps29
  go_wp2_with fail
  refine HW.mono ?_
  rintro e W1 ⟨rfl, hb1⟩
  have hh1 : hdr W1 K z T := keepblk hb1 HH.out
  have hcp1 := HC.out W1 hh1
  have hput := hdr_put D T p W1 hh1 (by rw [HT.out]; exact HPD.out)
  have hB1 : Below B w W1 := hb1.mono hBw
  have hB2 : Below B w (W1.setCells K p (bys D)) := below_setCells hBK (bys D) p W1 hB1
  clear HW HC
  go_wp2_with fail
  refine bodyPost_end (v := .tuple #[]) (results_none rfl _ _ _) rfl ?_
  exact ⟨⟨_, rfl⟩, hput, hB2⟩
end Go.Proofs.YtealpmimffcpdaaGreatDoor
namespace Go.Proofs.YtealpmimffcpdaaGreatDoor
open Go.RowKit Go.Shelf
/-- a row of numbers lies there, now and later -/
def IRV (w : World) (o : Option Addr) (V : List Int) : Prop := ∀ W : World, Below w.heap.size w W → ∀ (k : Nat) (v : Int), V[k]? = some v → ∃ g o0, o = some ⟨g, o0, none⟩ ∧ W.cell? ⟨g, o0 + k, none⟩ = some (.int .i64 v)
theorem IRV.later {w w' : World} {o : Option Addr} {V : List Int} (h : IRV w o V) (hb : Below w.heap.size w w') : IRV w' o V := fun W hW => h W (bel0 hb hW)
/-- the header of the values, behind what stands already -/
def pkF : List IFld → List Int → List UInt8 → List UInt8 × Int
  | f :: L, v :: V, acc => if 0 ≤ v ∧ v ≤ ((2 ^ f.2.toNat - 1 : Nat) : Int) then pkF L V (acc ++ digL f.2.toNat v.toNat 0) else ([], 42)
  | _, _, acc => (acc, 0)
/-- what Pack answers -/
def pkM (L : List IFld) (V : List Int) : List UInt8 × Int := if (chkM L).1 ≠ 0 then ([], (chkM L).1) else if V.length ≠ L.length then ([], 1) else pkF L V []
theorem pkF_step {L : List IFld} {V : List Int} {k : Nat} {f : IFld} {v : Int} (hf : L[k]? = some f) (hv : V[k]? = some v) (acc : List UInt8) : pkF (L.drop k) (V.drop k) acc = if 0 ≤ v ∧ v ≤ ((2 ^ f.2.toNat - 1 : Nat) : Int) then pkF (L.drop (k + 1)) (V.drop (k + 1)) (acc ++ digL f.2.toNat v.toNat 0) else ([], 42) := by
  obtain ⟨h1, e1⟩ := List.getElem?_eq_some_iff.1 hf
  obtain ⟨h2, e2⟩ := List.getElem?_eq_some_iff.1 hv
  rw [List.drop_eq_getElem_cons h1, List.drop_eq_getElem_cons h2, e1, e2, pkF]
theorem pkF_end {L : List IFld} {V : List Int} {k : Nat} (h : L.length ≤ k) (acc : List UInt8) : pkF (L.drop k) (V.drop k) acc = (acc, 0) := by
  rw [List.drop_eq_nil_of_le h]
  unfold pkF
  rfl
theorem chkL_ok : ∀ (rest seen : List IFld), (chkL seen rest).1 = 0 → (∀ f ∈ rest, 1 ≤ f.2 ∧ f.2 ≤ 32) ∧ (rest ≠ [] → sumB (seen ++ rest) ≤ 256)
  | [], seen, _ => ⟨fun f hf => (List.not_mem_nil hf).elim, fun h => absurd rfl h⟩
  | f :: r, seen, h => by
    rw [chkL] at h
    cases hb : badF seen f with
    | true => rw [hb, if_pos rfl] at h; cases h
    | false =>
      rw [hb, if_neg (by decide)] at h
      obtain ⟨h1, h2⟩ := chkL_ok r (seen ++ [f]) h
      unfold badF at hb
      simp only [Bool.or_eq_false_iff, Bool.not_eq_false'] at hb
      obtain ⟨b1, b2, b3, b4⟩ := hb
      have hs : 1 ≤ f.2 ∧ f.2 ≤ 32 := by unfold sizB at b1; simpa using b1
      have hw : sumB (seen ++ [f]) ≤ 256 := by
        have := of_decide_eq_false b4
        omega
      refine ⟨fun g hg => ?_, fun _ => ?_⟩
      · rcases List.mem_cons.1 hg with e | e
        · rw [e]; exact hs
        · exact h1 g e
      · cases r with
        | nil => exact hw
        | cons g r =>
          have := h2 (by simp)
          rw [List.append_assoc] at this
          exact this
theorem chk_ok {L : List IFld} (h : (chkM L).1 = 0) : 0 < L.length ∧ L.length ≤ 12 ∧ (∀ f ∈ L, 1 ≤ f.2 ∧ f.2 ≤ 32) ∧ sumB L ≤ 256 := by
  unfold chkM at h
  by_cases h1 : 12 < L.length
  · rw [if_pos h1] at h; cases h
  · rw [if_neg h1] at h
    by_cases h2 : L.length = 0
    · rw [if_pos h2] at h; cases h
    · rw [if_neg h2] at h
      obtain ⟨a, b⟩ := chkL_ok L [] h
      exact ⟨by omega, by omega, a, b (fun e => h2 (by rw [e]; rfl))⟩
theorem sumB_take_le {L : List IFld} (h : ∀ f ∈ L, 0 ≤ f.2 ∧ f.2 ≤ 32) (j : Nat) : sumB (L.take j) ≤ sumB L := by
  have e : sumB L = sumB (L.take j) + sumB (L.drop j) := by rw [← sumB_app, List.take_append_drop]
  have := (sumB_bound (L.drop j) (fun f hf => h f (List.mem_of_mem_drop hf))).1
  omega
theorem put_next {acc D : List UInt8} {n : Nat} (h : acc.length + D.length ≤ n) : putL (acc ++ List.replicate (n - acc.length) 120) acc.length D = (acc ++ D) ++ List.replicate (n - (acc ++ D).length) 120 := by
  have e : List.replicate (n - acc.length) (120 : UInt8) = List.replicate D.length 120 ++ List.replicate (n - (acc ++ D).length) 120 := by
    rw [List.replicate_append_replicate]
    congr 1
    rw [List.length_append]
    omega
  rw [e, putL_mid D acc _ _ (by simp), List.append_assoc]
set_option maxRecDepth 100000 in
set_option maxHeartbeats 8000000 in
theorem pack_any (L : List IFld) (o : Option Addr) (c : Nat) (V : List Int) (o2 : Option Addr) (c2 : Nat) (w : World) (hL : L.length ≤ 281474976710656) (hc : L.length ≤ c) (hx : ∀ f ∈ L, f.1.length ≤ 281474976710656) (hr : IRF w o L) (hrv : IRV w o2 V) (hv1 : SH w) (hv4 : SG w) (hv5 : VW w) :
    Calls Tryz.prog 13 #[.slice o L.length c, .slice o2 V.length c2] w fun e w' => e = .returned (.tuple #[.string ⟨(pkM L V).1.toArray⟩, .int .i64 (pkM L V).2]) ∧ Below w.heap.size w w' := by
  have HC := check_any L o c w hL hc hx hr hv1 hv4 hv5
  obtain ⟨R, hR⟩ : ∃ R, pkM L V = R := ⟨_, rfl⟩
  rw [hR]
  by_cases h0 : ¬ (chkM L).1 = 0
  · have hres : Hid (R = ([], (chkM L).1)) := by unfold Hid; rw [← hR]; unfold pkM; rw [if_pos h0]
    obtain ⟨ce, hce⟩ : ∃ x, (chkM L).1 = x := ⟨_, rfl⟩
    rw [hce] at HC h0 hres
    have y1 : (ce != 0) = true := by simpa using h0
    clear hx hr hrv hv1 hv4 hv5 hR hce
    go_enter Tryz.func13, Tryz.ntmps13
    go_wp2_with fail
    refine HC.mono ?_
    rintro e W1 ⟨rfl, hb1⟩
    go_wp2_with fail
    refine bodyPost_ret (results_tmp2 rfl _ _ _) rfl ?_
    exact ⟨by rw [hres.out]; rfl, hb1⟩
  replace h0 := Classical.not_not.1 h0
  rw [h0] at HC
  obtain ⟨k1, k2, k3, k4⟩ := chk_ok h0
  by_cases hlen : ¬ V.length = L.length
  · have hres : Hid (R = ([], 1)) := by unfold Hid; rw [← hR]; unfold pkM; rw [if_neg (fun h => h h0), if_pos hlen]
    have y1 : ((V.length : Int) != (L.length : Int)) = true := by simp only [bne_iff_ne]; omega
    clear hx hr hrv hv1 hv4 hv5 hR
    go_enter Tryz.func13, Tryz.ntmps13
    go_wp2_with fail
    refine HC.mono ?_
    rintro e W1 ⟨rfl, hb1⟩
    go_wp2_with fail
    refine bodyPost_ret (results_tmp2 rfl _ _ _) rfl ?_
    exact ⟨by rw [hres.out]; rfl, hb1⟩
  replace hlen := Classical.not_not.1 hlen
  have y1 : ((V.length : Int) != (L.length : Int)) = false := by rw [hlen]; simp
  have hb0 : ∀ f ∈ L, 0 ≤ f.2 ∧ f.2 ≤ 32 := fun f hf => by have := k3 f hf; omega
  obtain ⟨n, hn⟩ : ∃ n : Nat, sumB L = (n : Int) := ⟨(sumB L).toNat, by have := (sumB_bound L hb0).1; omega⟩
  have hn256 : n ≤ 256 := by omega
  have HRF : Hid (pkF (L.drop 0) (V.drop 0) [] = R) := by unfold Hid; rw [← hR]; unfold pkM; rw [if_neg (fun h => h h0), if_neg (fun h => h hlen)]; rfl
  have HR : Hid (IRF w o L) := hr
  have HRV : Hid (IRV w o2 V) := hrv
  have HLV : Hid (V.length = L.length) := hlen
  have HK3 : Hid (∀ f ∈ L, 1 ≤ f.2 ∧ f.2 ≤ 32) := k3
  have HB0 : Hid (∀ f ∈ L, 0 ≤ f.2 ∧ f.2 ≤ 32) := hb0
  have HN : Hid (sumB L = (n : Int)) := hn
  have HBL : Hid (∀ W : World, Below w.heap.size w W → Calls Tryz.prog 27 #[.slice o L.length c] W fun e w' => ∃ K z cp, e = .returned (.slice (some ⟨K, 0, none⟩) n cp) ∧ W.heap.size ≤ K ∧ n ≤ cp ∧ hdr w' K z (List.replicate n 120) ∧ Below W.heap.size W w') := fun W hW => blank_any L o c n W hn hn256 (by omega) hb0 (hr.later hW)
  clear hx hr hrv hv1 hv4 hv5 hR h0 k3 k4 hb0 hn
  go_enter Tryz.func13, Tryz.ntmps13
  go_wp2_with fail
  refine HC.mono ?_
  rintro e W1 ⟨rfl, hb1⟩
  go_wp2_with fail
  refine (HBL.out _ hb1).mono ?_
  rintro e W2 ⟨K, z, cp, rfl, hK1, hcp, hh2, hb2⟩
  have hB2 := bel0 hb1 hb2
  have hwK : w.heap.size ≤ K := Nat.le_trans hb1.size hK1
  clear HC HBL hb1 hb2 hK1
  go_wp2_with fail
  go_loopw [28] (fun vk wr => ∃ (k : Nat) (acc : List UInt8), vk = .int .i64 k ∧ k ≤ L.length ∧ Hid (sumB (L.take k) = (acc.length : Int)) ∧ hdr wr K z (acc ++ List.replicate (n - acc.length) 120) ∧ Hid (pkF (L.drop k) (V.drop k) acc = R) ∧ Below w.heap.size w wr) (fun vk _ => L.length - (intOf vk).toNat)
  case atStart => exact ⟨0, [], rfl, Nat.zero_le _, rfl, hh2, HRF, hB2⟩
  case round =>
    clear HRF hh2 hB2
    obtain ⟨k, acc, rfl, hk, hsum, hh, hrun, hB⟩ := hrel
    by_cases hlt : k < L.length
    · have j1 : (k : Int) < (L.length : Int) := by omega
      have j0 : (0 : Int) ≤ (k : Int) := by omega
      obtain ⟨f, hf⟩ : ∃ f, L[k]? = some f := ⟨_, List.getElem?_eq_getElem hlt⟩
      obtain ⟨v, hv⟩ : ∃ v, V[k]? = some v := ⟨_, List.getElem?_eq_getElem (by rw [HLV.out]; exact hlt)⟩
      have j2 : (k : Int) < (V.length : Int) := by rw [HLV.out]; omega
      obtain ⟨g, o0, rfl, p0, p1⟩ := HR.out wr hB k f hf
      obtain ⟨g2, q0, rfl, -⟩ := HRV.out wr hB k v hv
      have hstep := hrun.out
      rw [pkF_step hf hv] at hstep
      have hbits := HK3.out f (List.mem_of_getElem? hf)
      have hst := sumB_take hf
      rw [hsum.out] at hst
      have hle := sumB_take_le HB0.out (k + 1)
      rw [hst, HN.out] at hle
      obtain ⟨x, bi⟩ := f
      obtain ⟨b, rfl⟩ : ∃ b : Nat, bi = (b : Int) := ⟨bi.toNat, by simp only at hbits; omega⟩
      simp only [Int.toNat_natCast] at p0 p1 hstep hbits hst hle
      have hb1 : 1 ≤ b := by omega
      have hb32 : b ≤ 32 := by omega
      have XV : Hid (∀ W : World, Below w.heap.size w W → W.cell? ⟨g2, q0 + k, none⟩ = some (.int .i64 v)) := fun W hW => by
        obtain ⟨g3, q3, h1, h2⟩ := HRV.out W hW k v hv
        injection h1 with h1
        injection h1 with h1 h4
        subst h1 h4
        exact h2
      obtain ⟨O, hO⟩ : ∃ O : Obj, Obj.cells #[.string ⟨x.toArray⟩, .int .i64 (b : Int)] 52 = O := ⟨_, rfl⟩
      have hBs := hB.size
      have hB2 : Below w.heap.size w (wr.alloc O) := hB.alloc hBs O
      have hh2 : Hid (hdr (wr.alloc O) K z (acc ++ List.replicate (n - acc.length) 120)) := hdr_alloc hh O
      have hbx : (wr.alloc O).heap[wr.heap.size]? = some (.cells #[.string ⟨x.toArray⟩, .int .i64 (b : Int)] 52) := by rw [hO]; exact alloc_get _ _
      have XT : Hid (∀ W : World, Below (wr.alloc O).heap.size (wr.alloc O) W → W.cell? ⟨wr.heap.size, 1, none⟩ = some (.int .i64 (b : Int))) := fun W hW => cell_of_row W _ 1 _ _ _ (keepblk hW hbx)
      have HFT : Hid (∀ W : World, Calls Tryz.prog 28 #[.int .i64 v, .int .i64 (b : Int)] W fun e w' => e = .returned (.bool (decide (0 ≤ v ∧ v ≤ ((2 ^ b - 1 : Nat) : Int)))) ∧ w' = W) := fun W => fits_any v b hb32 W
      obtain ⟨fb, hfb⟩ : ∃ q, decide (0 ≤ v ∧ v ≤ ((2 ^ b - 1 : Nat) : Int)) = q := ⟨_, rfl⟩
      simp only [hfb] at HFT
      have HST : Hid (sumB (L.take (k + 1)) = (acc.length : Int) + (b : Int)) := hst
      have HSTEP : Hid ((if 0 ≤ v ∧ v ≤ ((2 ^ b - 1 : Nat) : Int) then pkF (L.drop (k + 1)) (V.drop (k + 1)) (acc ++ digL b v.toNat 0) else ([], 42)) = R) := hstep
      have HP2 : Hid (2 ^ b ≤ 2 ^ 32) := Nat.pow_le_pow_right (by decide) hb32
      clear hrun hf hv hstep hst hh hbx
      go_wp2_with fail
      try rw [hO]
      refine quiet_lit3 (C := fun W => Below (wr.alloc O).heap.size (wr.alloc O) W) (by kernel_rfl) (by kernel_rfl) (show Below _ _ _ from (Below.refl _ _).drew) ?_
      go_big_quiet_want
      go_big_quiet_op
      go_big_quiet_on
      go_big_quiet_want
      go_big_quiet_op
      go_big_quiet_on
      go_big_quiet_want
      refine ⟨.pointer (some ⟨g2, q0 + k, none⟩), fun W hW => ?_, ?_⟩
      · go_simp
      go_big_quiet_on
      simp only [Act.put, List.setIfInBounds_toArray, List.set_cons_zero, List.set_cons_succ]
      go_big_quiet_want
      refine ⟨.int .i64 v, fun W hW => ?_, ?_⟩
      · have z0 := XV.out W (bel0 hB2 hW)
        go_simp
      go_big_quiet_on
      simp only [Act.put, List.setIfInBounds_toArray, List.set_cons_zero, List.set_cons_succ]
      go_big_quiet_want
      refine ⟨.pointer (some ⟨wr.heap.size, 1, none⟩), fun W hW => ?_, ?_⟩
      · go_simp
      go_big_quiet_on
      simp only [Act.put, List.setIfInBounds_toArray, List.set_cons_zero, List.set_cons_succ]
      go_big_quiet_want
      refine ⟨.int .i64 (b : Int), fun W hW => ?_, ?_⟩
      · have z0 := XT.out W hW
        go_simp
      go_big_quiet_on
      simp only [Act.put, List.setIfInBounds_toArray, List.set_cons_zero, List.set_cons_succ]
      go_big_quiet_want
      refine ⟨.bool fb, fun W hW => ?_, ?_⟩
      · go_simp
        refine (HFT.out W).mono ?_
        rintro e w7 ⟨rfl, rfl⟩
        exact ⟨rfl, by simpa using hW⟩
      go_big_quiet_on
      simp only [Act.put, List.setIfInBounds_toArray, List.set_cons_zero, List.set_cons_succ]
      go_big_quiet_want
      refine ⟨.bool (!fb), fun W hW => ?_, ?_⟩
      · go_simp
      go_big_quiet_on
      simp only [Act.put, List.setIfInBounds_toArray, List.set_cons_zero, List.set_cons_succ]
      refine wpQuiet_nil ?_
      intro W hW
      have hBW := bel0 hB2 hW
      cases fb with
      | false =>
        have hres : Hid (R = ([], 42)) := by unfold Hid; rw [← HSTEP.out, if_neg (of_decide_eq_false hfb)]
        clear HSTEP hfb
        go_wp2_with fail
        refine bodyPost_ret (results_tmp2 rfl _ _ _) rfl ?_
        exact ⟨by rw [hres.out]; rfl, hBW⟩
      | true =>
        have hvb := of_decide_eq_true hfb
        have hgo : Hid (pkF (L.drop (k + 1)) (V.drop (k + 1)) (acc ++ digL b v.toNat 0) = R) := by unfold Hid; rw [← HSTEP.out, if_pos hvb]
        obtain ⟨vn, rfl⟩ : ∃ vn : Nat, v = (vn : Int) := ⟨v.toNat, by omega⟩
        have hvn : vn < 8589934592 := by have := HP2.out; omega
        rw [Int.toNat_natCast] at hgo
        have hDl : Hid ((digL b vn 0).length = b) := digL_len b vn 0 (Nat.zero_le _)
        have HDG : Hid (∀ W : World, Calls Tryz.prog 30 #[.int .i64 (b : Int), .int .i64 (vn : Int), .int .i64 0] W fun e w' => e = .returned (.string ⟨(digL b vn 0).toArray⟩) ∧ Below W.heap.size W w') := fun W => digits_any b vn 0 hb1 hb32 (Nat.zero_le _) hvn W
        obtain ⟨D, hD⟩ : ∃ D, digL b vn 0 = D := ⟨_, rfl⟩
        rw [hD] at hgo hDl
        simp only [hD] at HDG
        have hhW : hdr W K z (acc ++ List.replicate (n - acc.length) 120) := keepblk hW hh2.out
        have HLY : Hid (∀ W' : World, Below W.heap.size W W' → Calls Tryz.prog 29 #[.slice (some ⟨K, 0, none⟩) n cp, .slice (some ⟨g, o0, none⟩) L.length c, .int .i64 (k : Int), .string ⟨D.toArray⟩] W' fun e w' => (∃ v, e = .returned v) ∧ hdr w' K z ((acc ++ D) ++ List.replicate (n - (acc ++ D).length) 120) ∧ Below w.heap.size W' w') := fun W' hW' => by
          have h1 := lay_any L g o0 c k K cp z (acc ++ List.replicate (n - acc.length) 120) D n acc.length w.heap.size W' (by rw [List.length_append, List.length_replicate]; omega) hcp (by have := hsum.out; exact this) (by rw [hDl.out]; omega) (by rw [hDl.out]; omega) (by omega) hc (by omega) HB0.out (HR.out.later (bel0 hBW hW')) (keepblk hW' hhW) hwK (bel0 hBW hW').size
          rw [put_next (by rw [hDl.out]; omega)] at h1
          exact h1
        have XT2 : Hid (∀ W' : World, Below W.heap.size W W' → W'.cell? ⟨wr.heap.size, 1, none⟩ = some (.int .i64 (b : Int))) := fun W' hW' => XT.out W' (bel0 hW hW')
        have HST2 : Hid (sumB (L.take (k + 1)) = ((acc ++ D).length : Int)) := by unfold Hid; rw [HST.out, List.length_append, hDl.out]; omega
        obtain ⟨acc2, ha2⟩ : ∃ a, acc ++ D = a := ⟨_, rfl⟩
        rw [ha2] at hgo HST2
        simp only [ha2] at HLY
        clear HSTEP hfb hD ha2 hvb HFT XT
        simp only [Bool.not_true]
        go_wp2_with fail
        refine quiet_last (C := fun W' => Below W.heap.size W W') (by kernel_rfl) (by kernel_rfl) (by kernel_rfl) (by kernel_rfl) (show Below _ _ _ from (Below.refl _ _).drew) ?_
        simp only [List.dropLast_cons_cons, List.dropLast_singleton]
        go_big_quiet_want
        go_big_quiet_op
        go_big_quiet_on
        go_big_quiet_want
        go_big_quiet_op
        go_big_quiet_on
        go_big_quiet_want
        go_big_quiet_op
        go_big_quiet_on
        go_big_quiet_want
        refine ⟨.pointer (some ⟨wr.heap.size, 1, none⟩), fun W' hW' => ?_, ?_⟩
        · go_simp
        go_big_quiet_on
        simp only [Act.put, List.setIfInBounds_toArray, List.set_cons_zero, List.set_cons_succ]
        go_big_quiet_want
        refine ⟨.int .i64 (b : Int), fun W' hW' => ?_, ?_⟩
        · have z0 := XT2.out W' hW'
          go_simp
        go_big_quiet_on
        simp only [Act.put, List.setIfInBounds_toArray, List.set_cons_zero, List.set_cons_succ]
        go_big_quiet_want
        go_big_quiet_op
        go_big_quiet_on
        go_big_quiet_want
        go_big_quiet_op
        go_big_quiet_on
        go_big_quiet_want
        refine ⟨.pointer (some ⟨g2, q0 + k, none⟩), fun W' hW' => ?_, ?_⟩
        · go_simp
        go_big_quiet_on
        simp only [Act.put, List.setIfInBounds_toArray, List.set_cons_zero, List.set_cons_succ]
        go_big_quiet_want
        refine ⟨.int .i64 (vn : Int), fun W' hW' => ?_, ?_⟩
        · have z0 := XV.out W' (bel0 hBW hW')
          go_simp
        go_big_quiet_on
        simp only [Act.put, List.setIfInBounds_toArray, List.set_cons_zero, List.set_cons_succ]
        go_big_quiet_want
        refine ⟨.string ⟨D.toArray⟩, fun W' hW' => ?_, ?_⟩
        · go_simp
          refine (HDG.out W').mono ?_
          rintro e w7 ⟨rfl, hb⟩
          exact ⟨rfl, bel0 hW' hb⟩
        go_big_quiet_on
        simp only [Act.put, List.setIfInBounds_toArray, List.set_cons_zero, List.set_cons_succ]
        refine wpQuiet_nil ?_
        intro W' hW'
        refine wpOp_go rfl rfl ?_
        go_simp
        refine (HLY.out W' hW').mono ?_
        rintro e W5 ⟨⟨v5, rfl⟩, hh5, hB5⟩
        have hB6 : Below w.heap.size w W5 := (bel0 hBW hW').trans hB5
        clear HLY HDG XT2
        go_wp2_with fail
        go_roundw
        case rel => exact ⟨k + 1, acc2, by go_num, by omega, HST2, hh5, hgo, hB6⟩
        case measure => simp [intOf]; omega
    · have j1 : ¬ (k : Int) < (L.length : Int) := by omega
      have hres : Hid (R = (acc, 0)) := by
        unfold Hid
        rw [← hrun.out, pkF_end (by omega)]
      have hal : acc.length = n := by
        have h1 := hsum.out
        rw [List.take_of_length_le (by omega), HN.out] at h1
        omega
      rw [hal, Nat.sub_self, List.replicate_zero, List.append_nil] at hh
      have hcv := run_convert_bytes_back (P := Tryz.prog) wr 59 9 5 ⟨K, 0, none⟩ cp acc Tryz.underlying59 Tryz.underlying5 Tryz.underlying9 (fun j hj => by
        have := hdr_cell hh hj
        simp only [Addr.add]
        split
        · rename_i h; subst h; exact this
        · simpa using this)
      rw [hal] at hcv
      clear hrun hsum hh hal
      go_wp2_with fail
      refine bodyPost_ret (results_tmp2 rfl _ _ _) rfl ?_
      exact ⟨by rw [hres.out]; rfl, hB⟩
end Go.Proofs.YtealpmimffcpdaaGreatDoor
namespace Go.Proofs.YtealpmimffcpdaaGreatDoor
open Go.RowKit Go.Shelf
set_option maxRecDepth 100000 in
theorem set1_any (f : IFld) (x : List UInt8) (b : Nat) (w : World) (hb : w.heap[b]? = some (.cells #[.string ⟨x.toArray⟩] 9)) : Calls Tryz.prog 50 #[fagg f, .pointer (some ⟨b, 0, none⟩)] w fun e w' => e = .returned (.bool (f.1 == x)) ∧ Below w.heap.size w w' := by
  obtain ⟨y, n⟩ := f
  show Calls Tryz.prog 50 #[.agg #[.string ⟨y.toArray⟩, .int .i64 n], .pointer (some ⟨b, 0, none⟩)] w _
  have c0 : (w.alloc (Obj.cells #[.string ⟨y.toArray⟩, .int .i64 n] 43)).cell? ⟨b, 0, none⟩ = some (.string ⟨x.toArray⟩) := cell_of_row _ _ 0 _ _ _ (allocblk hb _)
  have n0 : (w.alloc (Obj.cells #[.string ⟨y.toArray⟩, .int .i64 n] 43)).cell? ⟨w.heap.size, 0, none⟩ = some (.string ⟨y.toArray⟩) := cell_of_row _ _ 0 _ _ _ (alloc_get _ _)
  obtain ⟨V, hV⟩ : ∃ V : World, w.alloc (Obj.cells #[.string ⟨y.toArray⟩, .int .i64 n] 43) = V := ⟨_, rfl⟩
  have vB : Below w.heap.size w V := by rw [← hV]; exact (Below.refl _ _).alloc (Nat.le_refl _) _
  rw [hV] at c0 n0
  clear hb
  go_enter Tryz.func50, Tryz.ntmps50
  go_wp2_with fail
  go_ret
  exact ⟨rfl, vB⟩
set_option maxRecDepth 100000 in
set_option maxHeartbeats 2000000 in
theorem sidx_any (L : List IFld) (o : Option Addr) (c : Nat) (x : List UInt8) (b : Nat) (w : World) (hL : L.length ≤ 281474976710656) (hr : IRF w o L) (hb : w.heap[b]? = some (.cells #[.string ⟨x.toArray⟩] 9)) :
    Calls Tryz.prog 64 #[.slice o L.length c, .func (.func 50) #[] #[.pointer (some ⟨b, 0, none⟩)]] w fun e w' => e = .returned (.int .i64 (idxF L x)) ∧ Below w.heap.size w w' := by
  have HR : Hid (IRF w o L) := hr
  have HB : Hid (w.heap[b]? = some (.cells #[.string ⟨x.toArray⟩] 9)) := hb
  obtain ⟨q, hq⟩ : ∃ q, idxF L x = q := ⟨_, rfl⟩
  rw [hq]
  have HQ : Hid (idxG 0 (L.drop 0) x = q) := hq
  clear hr hb hq
  go_enter Tryz.func64, Tryz.ntmps64
  go_wp2_with fail
  go_loopw [8] (fun vk wr => ∃ k : Nat, vk = .int .i64 k ∧ k ≤ L.length ∧ Hid (idxG k (L.drop k) x = q) ∧ Below w.heap.size w wr) (fun vk _ => L.length - (intOf vk).toNat)
  case atStart => exact ⟨0, rfl, Nat.zero_le _, HQ, Below.refl _ _⟩
  case round =>
    clear HQ
    obtain ⟨k, rfl, hk, hidx, hB⟩ := hrel
    by_cases hlt : k < L.length
    · have j1 : (k : Int) < (L.length : Int) := by omega
      have j0 : (0 : Int) ≤ (k : Int) := by omega
      obtain ⟨f, hf⟩ : ∃ f, L[k]? = some f := ⟨_, List.getElem?_eq_getElem hlt⟩
      obtain ⟨g, o0, rfl, p0, p1⟩ := HR.out wr hB k f hf
      have hx2 := hidx.out
      rw [idxG_step hf] at hx2
      have H1 : Calls Tryz.prog 50 #[fagg f, .pointer (some ⟨b, 0, none⟩)] wr fun e w' => e = .returned (.bool (f.1 == x)) ∧ Below wr.heap.size wr w' := set1_any f x b wr (keepblk hB HB.out)
      obtain ⟨y, n⟩ := f
      simp only at p0 p1 hx2 H1
      clear hf hidx
      by_cases hy : y = x
      · rw [if_pos hy] at hx2
        rw [beq_iff_eq.2 hy] at H1
        have HX2 : Hid ((k : Int) = q) := hx2
        clear hx2 hy
        go_wp2_with fail
        refine H1.mono ?_
        rintro e W1 ⟨rfl, hb1⟩
        go_wp2_with fail
        go_ret
        exact ⟨by rw [← HX2.out]; rfl, bel0 hB hb1⟩
      · rw [if_neg hy] at hx2
        rw [beq_eq_false_iff_ne.2 hy] at H1
        have HX : Hid (idxG (k + 1) (L.drop (k + 1)) x = q) := hx2
        clear hx2
        go_wp2_with fail
        refine H1.mono ?_
        rintro e W1 ⟨rfl, hb1⟩
        go_wp2_with fail
        go_roundw
        case rel => exact ⟨k + 1, by go_num, by omega, HX, bel0 hB hb1⟩
        case measure => simp [intOf]; omega
    · have j1 : ¬ (k : Int) < (L.length : Int) := by omega
      have HX2 : Hid (-1 = q) := by
        unfold Hid
        rw [← hidx.out, List.drop_eq_nil_of_le (by omega)]
        rfl
      clear hidx
      go_wp2_with fail
      go_ret
      exact ⟨by rw [← HX2.out]; rfl, hB⟩
set_option maxRecDepth 100000 in
theorem contains_any (L : List IFld) (o : Option Addr) (c : Nat) (x : List UInt8) (b : Nat) (w : World) (hL : L.length ≤ 281474976710656) (hr : IRF w o L) (hb : w.heap[b]? = some (.cells #[.string ⟨x.toArray⟩] 9)) :
    Calls Tryz.prog 49 #[.slice o L.length c, .func (.func 50) #[] #[.pointer (some ⟨b, 0, none⟩)]] w fun e w' => e = .returned (.bool (decide (0 ≤ idxF L x))) ∧ Below w.heap.size w w' := by
  have H1 := sidx_any L o c x b w hL hr hb
  obtain ⟨q, hq⟩ : ∃ q, idxF L x = q := ⟨_, rfl⟩
  rw [hq] at H1 ⊢
  clear hr hb hq
  go_enter Tryz.func49, Tryz.ntmps49
  go_wp2_with fail
  refine H1.mono ?_
  rintro e W1 ⟨rfl, hb1⟩
  go_wp2_with fail
  go_ret
  exact ⟨rfl, hb1⟩
set_option maxRecDepth 100000 in
theorem isSet_any (L : List IFld) (o : Option Addr) (c : Nat) (x : List UInt8) (w : World) (hL : L.length ≤ 281474976710656) (hr : IRF w o L) :
    Calls Tryz.prog 36 #[.slice o L.length c, .string ⟨x.toArray⟩] w fun e w' => e = .returned (.bool (decide (0 ≤ idxF L x))) ∧ Below w.heap.size w w' := by
  have vB : Below w.heap.size w (w.alloc (Obj.cells #[.string ⟨x.toArray⟩] 9)) := (Below.refl _ _).alloc (Nat.le_refl _) _
  have H1 := contains_any L o c x w.heap.size (w.alloc (Obj.cells #[.string ⟨x.toArray⟩] 9)) hL (hr.later vB) (alloc_get _ _)
  obtain ⟨q, hq⟩ : ∃ q, decide (0 ≤ idxF L x) = q := ⟨_, rfl⟩
  rw [hq] at H1 ⊢
  clear hr hq
  go_enter Tryz.func36, Tryz.ntmps36
  go_wp2_with fail
  refine H1.mono ?_
  rintro e W1 ⟨rfl, hb1⟩
  go_wp2_with fail
  go_ret
  exact ⟨rfl, bel0 vB hb1⟩
/-- the word of the sets, behind those that are written already -/
def wdF (L : List IFld) : List IFld → List IFld → List UInt8 → List UInt8 × Int
  | _, [], acc => (acc, 0)
  | seen, s :: r, acc =>
    if idxF L s.1 < 0 then ([], 41)
    else if 0 ≤ idxF seen s.1 then ([], 45)
    else if 0 ≤ s.2 ∧ s.2 ≤ ((2 ^ (L.getD (idxF L s.1).toNat ([], 0)).2.toNat - 1 : Nat) : Int) then wdF L (seen ++ [s]) r (putL acc (sumB (L.take (idxF L s.1).toNat)).toNat (digL (L.getD (idxF L s.1).toNat ([], 0)).2.toNat s.2.toNat 0))
    else ([], 42)
/-- what Word answers -/
def wdM (L S : List IFld) : List UInt8 × Int := if 12 < S.length then ([], 2) else if (chkM L).1 ≠ 0 then ([], (chkM L).1) else wdF L [] S (List.replicate (sumB L).toNat 120)
theorem wdF_step {L S : List IFld} {k : Nat} {s : IFld} (hs : S[k]? = some s) (acc : List UInt8) : wdF L (S.take k) (S.drop k) acc =
    if idxF L s.1 < 0 then ([], 41)
    else if 0 ≤ idxF (S.take k) s.1 then ([], 45)
    else if 0 ≤ s.2 ∧ s.2 ≤ ((2 ^ (L.getD (idxF L s.1).toNat ([], 0)).2.toNat - 1 : Nat) : Int) then wdF L (S.take (k + 1)) (S.drop (k + 1)) (putL acc (sumB (L.take (idxF L s.1).toNat)).toNat (digL (L.getD (idxF L s.1).toNat ([], 0)).2.toNat s.2.toNat 0))
    else ([], 42) := by
  obtain ⟨h1, e1⟩ := List.getElem?_eq_some_iff.1 hs
  rw [List.drop_eq_getElem_cons h1, e1, wdF, take_snoc hs]
set_option maxRecDepth 100000 in
set_option maxHeartbeats 8000000 in
theorem word_any (L : List IFld) (o : Option Addr) (c : Nat) (S : List IFld) (o2 : Option Addr) (c2 : Nat) (w : World) (hL : L.length ≤ 281474976710656) (hc : L.length ≤ c) (hc2 : S.length ≤ c2) (hx : ∀ f ∈ L, f.1.length ≤ 281474976710656) (hr : IRF w o L) (hrs : IRF w o2 S) (hv1 : SH w) (hv4 : SG w) (hv5 : VW w) :
    Calls Tryz.prog 17 #[.slice o L.length c, .slice o2 S.length c2] w fun e w' => e = .returned (.tuple #[.string ⟨(wdM L S).1.toArray⟩, .int .i64 (wdM L S).2]) ∧ Below w.heap.size w w' := by
  obtain ⟨R, hR⟩ : ∃ R, wdM L S = R := ⟨_, rfl⟩
  rw [hR]
  by_cases hbig : 12 < S.length
  · have i1 : (12 : Int) < (S.length : Int) := by omega
    have hres : Hid (R = ([], 2)) := by unfold Hid; rw [← hR]; unfold wdM; rw [if_pos hbig]
    clear hx hr hrs hv1 hv4 hv5 hR
    go_enter Tryz.func17, Tryz.ntmps17
    go_wp2_with fail
    refine bodyPost_ret (results_tmp2 rfl _ _ _) rfl ?_
    exact ⟨by rw [hres.out]; rfl, Below.refl _ _⟩
  have i1 : ¬ (12 : Int) < (S.length : Int) := by omega
  have HC := check_any L o c w hL hc hx hr hv1 hv4 hv5
  by_cases h0 : ¬ (chkM L).1 = 0
  · have hres : Hid (R = ([], (chkM L).1)) := by unfold Hid; rw [← hR]; unfold wdM; rw [if_neg hbig, if_pos h0]
    obtain ⟨ce, hce⟩ : ∃ x, (chkM L).1 = x := ⟨_, rfl⟩
    rw [hce] at HC h0 hres
    have y1 : (ce != 0) = true := by simpa using h0
    clear hx hr hrs hv1 hv4 hv5 hR hce
    go_enter Tryz.func17, Tryz.ntmps17
    go_wp2_with fail
    refine HC.mono ?_
    rintro e W1 ⟨rfl, hb1⟩
    go_wp2_with fail
    refine bodyPost_ret (results_tmp2 rfl _ _ _) rfl ?_
    exact ⟨by rw [hres.out]; rfl, hb1⟩
  replace h0 := Classical.not_not.1 h0
  rw [h0] at HC
  obtain ⟨k1, k2, k3, k4⟩ := chk_ok h0
  have hb0 : ∀ f ∈ L, 0 ≤ f.2 ∧ f.2 ≤ 32 := fun f hf => by have := k3 f hf; omega
  obtain ⟨n, hn⟩ : ∃ n : Nat, sumB L = (n : Int) := ⟨(sumB L).toNat, by have := (sumB_bound L hb0).1; omega⟩
  have hn256 : n ≤ 256 := by omega
  have HRF : Hid (wdF L (S.take 0) (S.drop 0) (List.replicate n 120) = R) := by unfold Hid; rw [← hR]; unfold wdM; rw [if_neg hbig, if_neg (fun h => h h0), hn]; rfl
  obtain ⟨f0, hf0⟩ : ∃ f, L[0]? = some f := ⟨_, List.getElem?_eq_getElem k1⟩
  obtain ⟨g, o0, rfl, -⟩ := hr w (Below.refl _ _) 0 f0 hf0
  have HR : Hid (IRF w (some ⟨g, o0, none⟩) L) := hr
  have HRS : Hid (IRF w o2 S) := hrs
  have HK3 : Hid (∀ f ∈ L, 1 ≤ f.2 ∧ f.2 ≤ 32) := k3
  have HB0 : Hid (∀ f ∈ L, 0 ≤ f.2 ∧ f.2 ≤ 32) := hb0
  have HN : Hid (sumB L = (n : Int)) := hn
  have HBL : Hid (∀ W : World, Below w.heap.size w W → Calls Tryz.prog 27 #[.slice (some ⟨g, o0, none⟩) L.length c] W fun e w' => ∃ K z cp, e = .returned (.slice (some ⟨K, 0, none⟩) n cp) ∧ W.heap.size ≤ K ∧ n ≤ cp ∧ hdr w' K z (List.replicate n 120) ∧ Below W.heap.size W w') := fun W hW => blank_any L (some ⟨g, o0, none⟩) c n W hn hn256 (by omega) hb0 (hr.later hW)
  clear hx hr hrs hv1 hv4 hv5 hR h0 k3 k4 hb0 hn hf0
  go_enter Tryz.func17, Tryz.ntmps17
  go_wp2_with fail
  refine HC.mono ?_
  rintro e W1 ⟨rfl, hb1⟩
  go_wp2_with fail
  refine (HBL.out _ hb1).mono ?_
  rintro e W2 ⟨K, z, cp, rfl, hK1, hcp, hh2, hb2⟩
  have hB2 := bel0 hb1 hb2
  have hwK : w.heap.size ≤ K := Nat.le_trans hb1.size hK1
  clear HC HBL hb1 hb2 hK1
  go_wp2_with fail
  go_loopw [27] (fun vk wr => ∃ (k : Nat) (acc : List UInt8), vk = .int .i64 k ∧ k ≤ S.length ∧ Hid (acc.length = n) ∧ hdr wr K z acc ∧ Hid (wdF L (S.take k) (S.drop k) acc = R) ∧ Below w.heap.size w wr) (fun vk _ => S.length - (intOf vk).toNat)
  case atStart => exact ⟨0, _, rfl, Nat.zero_le _, List.length_replicate, hh2, HRF, hB2⟩
  case round =>
    clear HRF hh2 hB2
    obtain ⟨k, acc, rfl, hk, hal, hh, hrun, hB⟩ := hrel
    by_cases hlt : k < S.length
    · have j1 : (k : Int) < (S.length : Int) := by omega
      have j0 : (0 : Int) ≤ (k : Int) := by omega
      have j2 : (k : Int) ≤ (c2 : Int) := by omega
      obtain ⟨s, hs⟩ : ∃ s, S[k]? = some s := ⟨_, List.getElem?_eq_getElem hlt⟩
      obtain ⟨g2, q0, rfl, p0, p1⟩ := HRS.out wr hB k s hs
      have hstep := hrun.out
      rw [wdF_step hs] at hstep
      have htl : (S.take k).length = k := by rw [List.length_take]; omega
      have HIS : Hid (∀ W : World, Below w.heap.size w W → Calls Tryz.prog 36 #[.slice (some ⟨g2, q0, none⟩) k c2, .string ⟨s.1.toArray⟩] W fun e w' => e = .returned (.bool (decide (0 ≤ idxF (S.take k) s.1))) ∧ Below W.heap.size W w') := fun W hW => by
        have := isSet_any (S.take k) (some ⟨g2, q0, none⟩) c2 s.1 W (by omega) ((HRS.out.take k).later hW)
        rw [htl] at this
        exact this
      have HFD : Hid (∀ W : World, Below w.heap.size w W → Calls Tryz.prog 23 #[.slice (some ⟨g, o0, none⟩) L.length c, .string ⟨s.1.toArray⟩] W fun e w' => e = .returned (.int .i64 (idxF L s.1)) ∧ Below W.heap.size W w') := fun W hW => find_any L (some ⟨g, o0, none⟩) c s.1 W (by omega) (HR.out.later hW)
      have hix := idxG_ge L 0 s.1
      obtain ⟨x, sv⟩ := s
      simp only at p0 p1 hstep HIS HFD hix
      obtain ⟨O, hO⟩ : ∃ O : Obj, Obj.cells #[.string ⟨x.toArray⟩, .int .i64 sv] 43 = O := ⟨_, rfl⟩
      have hBs := hB.size
      have hB2 : Below w.heap.size w (wr.alloc O) := hB.alloc hBs O
      have hh2 : Hid (hdr (wr.alloc O) K z acc) := hdr_alloc hh O
      have hbx : (wr.alloc O).heap[wr.heap.size]? = some (.cells #[.string ⟨x.toArray⟩, .int .i64 sv] 43) := by rw [hO]; exact alloc_get _ _
      have n0 : (wr.alloc O).cell? ⟨wr.heap.size, 0, none⟩ = some (.string ⟨x.toArray⟩) := cell_of_row _ _ 0 _ _ _ hbx
      have XS : Hid (∀ W : World, Below (wr.alloc O).heap.size (wr.alloc O) W → W.cell? ⟨wr.heap.size, 0, none⟩ = some (.string ⟨x.toArray⟩) ∧ W.cell? ⟨wr.heap.size, 1, none⟩ = some (.int .i64 sv)) := fun W hW => by
        have hk := keepblk hW hbx
        exact ⟨cell_of_row W _ 0 _ _ _ hk, cell_of_row W _ 1 _ _ _ hk⟩
      obtain ⟨S0, hS0⟩ : ∃ S0, wr.heap.size = S0 := ⟨_, rfl⟩
      rw [hS0] at n0 XS
      rcases hix with hix | ⟨i, f, hix, hfi, hfx⟩
      · have hix2 : idxF L x = -1 := hix
        have hres : Hid (R = ([], 41)) := by unfold Hid; rw [← hstep, hix2, if_pos (by decide)]
        rw [hix2] at HFD
        clear hstep hix hix2 hrun hh hbx hs htl
        go_wp2_with fail
        refine (HFD.out _ (by first | exact hB2 | (rw [hO]; exact hB2))).mono ?_
        rintro e W3 ⟨rfl, hb3⟩
        go_wp2_with fail
        refine bodyPost_ret (results_tmp2 rfl _ _ _) rfl ?_
        exact ⟨by rw [hres.out]; rfl, bel0 hB2 (by first | exact hb3 | (rw [hO] at hb3; exact hb3))⟩
      have hix2 : idxF L x = (i : Int) := by
        unfold idxF
        rw [hix, Nat.zero_add]
      rw [hix2] at HFD hstep
      have hgd : L.getD i ([], 0) = f := by simp [List.getD, hfi]
      rw [if_neg (by omega), Int.toNat_natCast, hgd] at hstep
      have hil : i < L.length := (List.getElem?_eq_some_iff.1 hfi).1
      have l1 : (i : Int) < (L.length : Int) := by omega
      have l0 : (0 : Int) ≤ (i : Int) := by omega
      have l2 : ¬ (i : Int) < 0 := by omega
      have hbits := HK3.out f (List.mem_of_getElem? hfi)
      have hst := sumB_take hfi
      have hpb := (sumB_bound (L.take i) (fun f hf => HB0.out f (List.mem_of_mem_take hf))).1
      obtain ⟨p, hp⟩ : ∃ p : Nat, sumB (L.take i) = (p : Int) := ⟨(sumB (L.take i)).toNat, by omega⟩
      have hle := sumB_take_le HB0.out (i + 1)
      rw [hst, HN.out, hp] at hle
      rw [hp, Int.toNat_natCast] at hstep
      have XF : Hid (∀ W : World, Below w.heap.size w W → W.cell? ⟨g, o0 + i * 2 + 1, none⟩ = some (.int .i64 f.2)) := fun W hW => by
        obtain ⟨g3, q3, h1, -, h2⟩ := HR.out W hW i f hfi
        injection h1 with h1
        injection h1 with h1 h4
        subst h1 h4
        exact h2
      obtain ⟨fx, bi⟩ := f
      obtain ⟨b, rfl⟩ : ∃ b : Nat, bi = (b : Int) := ⟨bi.toNat, by simp only at hbits; omega⟩
      simp only [Int.toNat_natCast] at hstep hbits hle XF
      have hb1 : 1 ≤ b := by omega
      have hb32 : b ≤ 32 := by omega
      have HP : Hid (sumB (L.take i) = (p : Int)) := hp
      have HP2 : Hid (2 ^ b ≤ 2 ^ 32) := Nat.pow_le_pow_right (by decide) hb32
      obtain ⟨ib, hib⟩ : ∃ q, decide (0 ≤ idxF (S.take k) x) = q := ⟨_, rfl⟩
      simp only [hib] at HIS
      have HSTEP : Hid ((if 0 ≤ idxF (S.take k) x then ([], 45) else if 0 ≤ sv ∧ sv ≤ ((2 ^ b - 1 : Nat) : Int) then wdF L (S.take (k + 1)) (S.drop (k + 1)) (putL acc p (digL b sv.toNat 0)) else ([], 42)) = R) := hstep
      clear hstep hix hix2 hrun hh hbx hs htl hgd hst hpb hfi hfx hp
      go_wp2_with fail
      refine (HFD.out _ (by first | exact hB2 | (rw [hO]; exact hB2))).mono ?_
      rintro e W3 ⟨rfl, hb3⟩
      try rw [hO] at hb3
      go_wp2_with fail
      refine quiet_lit3 (C := fun W => Below (wr.alloc O).heap.size (wr.alloc O) W) (by kernel_rfl) (by kernel_rfl) (show Below _ _ _ from hb3.drew) ?_
      go_big_quiet_want
      go_big_quiet_op
      go_big_quiet_on
      go_big_quiet_want
      go_big_quiet_op
      go_big_quiet_on
      go_big_quiet_want
      refine ⟨.slice (some ⟨g2, q0, none⟩) k c2, fun W hW => ?_, ?_⟩
      · go_simp
      go_big_quiet_on
      simp only [Act.put, List.setIfInBounds_toArray, List.set_cons_zero, List.set_cons_succ]
      go_big_quiet_want
      refine ⟨.pointer (some ⟨S0, 0, none⟩), fun W hW => ?_, ?_⟩
      · go_simp
      go_big_quiet_on
      simp only [Act.put, List.setIfInBounds_toArray, List.set_cons_zero, List.set_cons_succ]
      go_big_quiet_want
      refine ⟨.string ⟨x.toArray⟩, fun W hW => ?_, ?_⟩
      · obtain ⟨z0, z1⟩ := XS.out W hW
        go_simp
      go_big_quiet_on
      simp only [Act.put, List.setIfInBounds_toArray, List.set_cons_zero, List.set_cons_succ]
      go_big_quiet_want
      refine ⟨.bool ib, fun W hW => ?_, ?_⟩
      · go_simp
        refine (HIS.out W (bel0 hB2 hW)).mono ?_
        rintro e w7 ⟨rfl, hb⟩
        exact ⟨rfl, by have := bel0 hW hb; simpa [hS0] using this⟩
      go_big_quiet_on
      simp only [Act.put, List.setIfInBounds_toArray, List.set_cons_zero, List.set_cons_succ]
      go_big_quiet_want
      go_big_quiet_op
      go_big_quiet_on
      refine wpQuiet_nil ?_
      intro W4 h4
      cases ib with
      | true =>
        have hres : Hid (R = ([], 45)) := by unfold Hid; rw [← HSTEP.out, if_pos (of_decide_eq_true hib)]
        clear HSTEP hib
        go_wp2_with fail
        refine bodyPost_ret (results_tmp2 rfl _ _ _) rfl ?_
        exact ⟨by rw [hres.out]; rfl, bel0 hB2 h4⟩
      | false =>
        have HST2 : Hid ((if 0 ≤ sv ∧ sv ≤ ((2 ^ b - 1 : Nat) : Int) then wdF L (S.take (k + 1)) (S.drop (k + 1)) (putL acc p (digL b sv.toNat 0)) else ([], 42)) = R) := by unfold Hid; rw [← HSTEP.out, if_neg (of_decide_eq_false hib)]
        have HFT : Hid (∀ W : World, Calls Tryz.prog 28 #[.int .i64 sv, .int .i64 (b : Int)] W fun e w' => e = .returned (.bool (decide (0 ≤ sv ∧ sv ≤ ((2 ^ b - 1 : Nat) : Int)))) ∧ w' = W) := fun W => fits_any sv b hb32 W
        obtain ⟨fb, hfb⟩ : ∃ q, decide (0 ≤ sv ∧ sv ≤ ((2 ^ b - 1 : Nat) : Int)) = q := ⟨_, rfl⟩
        simp only [hfb] at HFT
        clear HSTEP hib HIS HFD
        go_wp2_with fail
        refine quiet_lit3 (C := fun W => Below (wr.alloc O).heap.size (wr.alloc O) W) (by kernel_rfl) (by kernel_rfl) (show Below _ _ _ from Below.drew h4) ?_
        go_big_quiet_want
        refine ⟨.pointer (some ⟨S0, 1, none⟩), fun W hW => ?_, ?_⟩
        · go_simp
        go_big_quiet_on
        simp only [Act.put, List.setIfInBounds_toArray, List.set_cons_zero, List.set_cons_succ]
        go_big_quiet_want
        refine ⟨.int .i64 sv, fun W hW => ?_, ?_⟩
        · obtain ⟨z0, z1⟩ := XS.out W hW
          go_simp
        go_big_quiet_on
        simp only [Act.put, List.setIfInBounds_toArray, List.set_cons_zero, List.set_cons_succ]
        go_big_quiet_want
        go_big_quiet_op
        go_big_quiet_on
        go_big_quiet_want
        go_big_quiet_op
        go_big_quiet_on
        go_big_quiet_want
        refine ⟨.pointer (some ⟨g, o0 + i * 2, none⟩), fun W hW => ?_, ?_⟩
        · go_simp
        go_big_quiet_on
        simp only [Act.put, List.setIfInBounds_toArray, List.set_cons_zero, List.set_cons_succ]
        go_big_quiet_want
        refine ⟨.pointer (some ⟨g, o0 + i * 2 + 1, none⟩), fun W hW => ?_, ?_⟩
        · go_simp
        go_big_quiet_on
        simp only [Act.put, List.setIfInBounds_toArray, List.set_cons_zero, List.set_cons_succ]
        go_big_quiet_want
        refine ⟨.int .i64 (b : Int), fun W hW => ?_, ?_⟩
        · have z0 := XF.out W (bel0 hB2 hW)
          go_simp
        go_big_quiet_on
        simp only [Act.put, List.setIfInBounds_toArray, List.set_cons_zero, List.set_cons_succ]
        go_big_quiet_want
        refine ⟨.bool fb, fun W hW => ?_, ?_⟩
        · go_simp
          refine (HFT.out W).mono ?_
          rintro e w7 ⟨rfl, rfl⟩
          exact ⟨rfl, by simpa [hS0] using hW⟩
        go_big_quiet_on
        simp only [Act.put, List.setIfInBounds_toArray, List.set_cons_zero, List.set_cons_succ]
        go_big_quiet_want
        refine ⟨.bool (!fb), fun W hW => ?_, ?_⟩
        · go_simp
        go_big_quiet_on
        simp only [Act.put, List.setIfInBounds_toArray, List.set_cons_zero, List.set_cons_succ]
        go_big_quiet_want
        go_big_quiet_op
        go_big_quiet_on
        refine wpQuiet_nil ?_
        intro W5 h5
        have hBW := bel0 hB2 h5
        cases fb with
        | false =>
          have hres : Hid (R = ([], 42)) := by unfold Hid; rw [← HST2.out, if_neg (of_decide_eq_false hfb)]
          clear HST2 hfb
          go_wp2_with fail
          refine bodyPost_ret (results_tmp2 rfl _ _ _) rfl ?_
          exact ⟨by rw [hres.out]; rfl, hBW⟩
        | true =>
          have hvb := of_decide_eq_true hfb
          have hgo : Hid (wdF L (S.take (k + 1)) (S.drop (k + 1)) (putL acc p (digL b sv.toNat 0)) = R) := by unfold Hid; rw [← HST2.out, if_pos hvb]
          obtain ⟨vn, rfl⟩ : ∃ vn : Nat, sv = (vn : Int) := ⟨sv.toNat, by omega⟩
          have hvn : vn < 8589934592 := by have := HP2.out; omega
          rw [Int.toNat_natCast] at hgo
          have hDl : Hid ((digL b vn 0).length = b) := digL_len b vn 0 (Nat.zero_le _)
          have HDG : Hid (∀ W : World, Calls Tryz.prog 30 #[.int .i64 (b : Int), .int .i64 (vn : Int), .int .i64 0] W fun e w' => e = .returned (.string ⟨(digL b vn 0).toArray⟩) ∧ Below W.heap.size W w') := fun W => digits_any b vn 0 hb1 hb32 (Nat.zero_le _) hvn W
          obtain ⟨D, hD⟩ : ∃ D, digL b vn 0 = D := ⟨_, rfl⟩
          rw [hD] at hgo hDl
          simp only [hD] at HDG
          have HLY : Hid (∀ W' : World, Below (wr.alloc O).heap.size (wr.alloc O) W' → Calls Tryz.prog 29 #[.slice (some ⟨K, 0, none⟩) n cp, .slice (some ⟨g, o0, none⟩) L.length c, .int .i64 (i : Int), .string ⟨D.toArray⟩] W' fun e w' => (∃ v, e = .returned v) ∧ hdr w' K z (putL acc p D) ∧ Below w.heap.size W' w') := fun W' hW' =>
            lay_any L g o0 c i K cp z acc D n p w.heap.size W' hal.out hcp HP.out (by rw [hDl.out]; omega) (by rw [hDl.out]; omega) (by omega) hc (by omega) HB0.out (HR.out.later (bel0 hB2 hW')) (keepblk hW' hh2.out) hwK (bel0 hB2 hW').size
          have HAL : Hid ((putL acc p D).length = n) := by unfold Hid; rw [putL_len]; exact hal.out
          obtain ⟨acc2, ha2⟩ : ∃ a, putL acc p D = a := ⟨_, rfl⟩
          rw [ha2] at hgo HAL
          simp only [ha2] at HLY
          clear HST2 hfb hD ha2 hvb HFT
          simp only [Bool.not_true]
          go_wp2_with fail
          refine quiet_last (C := fun W => Below (wr.alloc O).heap.size (wr.alloc O) W) (by kernel_rfl) (by kernel_rfl) (by kernel_rfl) (by kernel_rfl) (show Below _ _ _ from Below.drew h5) ?_
          simp only [List.dropLast_cons_cons, List.dropLast_singleton]
          go_big_quiet_want
          go_big_quiet_op
          go_big_quiet_on
          go_big_quiet_want
          go_big_quiet_op
          go_big_quiet_on
          go_big_quiet_want
          go_big_quiet_op
          go_big_quiet_on
          go_big_quiet_want
          go_big_quiet_op
          go_big_quiet_on
          go_big_quiet_want
          go_big_quiet_op
          go_big_quiet_on
          go_big_quiet_want
          refine ⟨.pointer (some ⟨g, o0 + i * 2, none⟩), fun W hW => ?_, ?_⟩
          · go_simp
          go_big_quiet_on
          simp only [Act.put, List.setIfInBounds_toArray, List.set_cons_zero, List.set_cons_succ]
          go_big_quiet_want
          refine ⟨.pointer (some ⟨g, o0 + i * 2 + 1, none⟩), fun W hW => ?_, ?_⟩
          · go_simp
          go_big_quiet_on
          simp only [Act.put, List.setIfInBounds_toArray, List.set_cons_zero, List.set_cons_succ]
          go_big_quiet_want
          refine ⟨.int .i64 (b : Int), fun W hW => ?_, ?_⟩
          · have z0 := XF.out W (bel0 hB2 hW)
            go_simp
          go_big_quiet_on
          simp only [Act.put, List.setIfInBounds_toArray, List.set_cons_zero, List.set_cons_succ]
          go_big_quiet_want
          refine ⟨.pointer (some ⟨S0, 1, none⟩), fun W hW => ?_, ?_⟩
          · go_simp
          go_big_quiet_on
          simp only [Act.put, List.setIfInBounds_toArray, List.set_cons_zero, List.set_cons_succ]
          go_big_quiet_want
          refine ⟨.int .i64 (vn : Int), fun W hW => ?_, ?_⟩
          · obtain ⟨z0, z1⟩ := XS.out W hW
            go_simp
          go_big_quiet_on
          simp only [Act.put, List.setIfInBounds_toArray, List.set_cons_zero, List.set_cons_succ]
          go_big_quiet_want
          refine ⟨.string ⟨D.toArray⟩, fun W hW => ?_, ?_⟩
          · go_simp
            refine (HDG.out W).mono ?_
            rintro e w7 ⟨rfl, hb⟩
            exact ⟨rfl, by have := bel0 hW hb; simpa [hS0] using this⟩
          go_big_quiet_on
          simp only [Act.put, List.setIfInBounds_toArray, List.set_cons_zero, List.set_cons_succ]
          refine wpQuiet_nil ?_
          intro W6 h6
          refine wpOp_go rfl rfl ?_
          go_simp
          refine (HLY.out W6 h6).mono ?_
          rintro e W7 ⟨⟨v7, rfl⟩, hh7, hB7⟩
          have hB8 : Below w.heap.size w W7 := (bel0 hB2 h6).trans hB7
          clear HLY HDG
          go_wp2_with fail
          go_roundw
          case rel => exact ⟨k + 1, acc2, by go_num, by omega, HAL, hh7, hgo, hB8⟩
          case measure => simp [intOf]; omega
    · have j1 : ¬ (k : Int) < (S.length : Int) := by omega
      have hres : Hid (R = (acc, 0)) := by
        unfold Hid
        rw [← hrun.out, List.drop_eq_nil_of_le (by omega)]
        rfl
      have hcv := run_convert_bytes_back (P := Tryz.prog) wr 59 9 5 ⟨K, 0, none⟩ cp acc Tryz.underlying59 Tryz.underlying5 Tryz.underlying9 (fun j hj => by
        have := hdr_cell hh hj
        simp only [Addr.add]
        split
        · rename_i h; subst h; exact this
        · simpa using this)
      rw [hal.out] at hcv
      clear hrun hh
      go_wp2_with fail
      refine bodyPost_ret (results_tmp2 rfl _ _ _) rfl ?_
      exact ⟨by rw [hres.out]; rfl, hB⟩
end Go.Proofs.YtealpmimffcpdaaGreatDoor
namespace Go.Proofs.YtealpmimffcpdaaGreatDoor
open Go.RowKit Go.Shelf
theorem digL0 (b v : Nat) : (List.range b).map (bitB b v) = digL b v 0 := by simp [digL]
set_option maxRecDepth 100000 in
set_option maxHeartbeats 8000000 in
theorem refPack_any (L : List IFld) (o : Option Addr) (c : Nat) (V : List Int) (o2 : Option Addr) (c2 : Nat) (w : World) (hL : L.length ≤ 281474976710656) (hx : ∀ f ∈ L, f.1.length ≤ 281474976710656) (hr : IRF w o L) (hrv : IRV w o2 V) :
    Calls Tryz.prog 12 #[.slice o L.length c, .slice o2 V.length c2] w fun e w' => e = .returned (.tuple #[.string ⟨(pkM L V).1.toArray⟩, .int .i64 (pkM L V).2]) ∧ Below w.heap.size w w' := by
  have HC := refCheck_any L o c w hL hx hr
  obtain ⟨R, hR⟩ : ∃ R, pkM L V = R := ⟨_, rfl⟩
  rw [hR]
  by_cases h0 : ¬ (chkM L).1 = 0
  · have hres : Hid (R = ([], (chkM L).1)) := by unfold Hid; rw [← hR]; unfold pkM; rw [if_pos h0]
    obtain ⟨ce, hce⟩ : ∃ x, (chkM L).1 = x := ⟨_, rfl⟩
    rw [hce] at HC h0 hres
    have y1 : (ce != 0) = true := by simpa using h0
    clear hx hr hrv hR hce
    go_enter Tryz.func12, Tryz.ntmps12
    go_wp2_with fail
    refine HC.mono ?_
    rintro e W1 ⟨rfl, hb1⟩
    go_wp2_with fail
    refine bodyPost_ret (results_tmp2 rfl _ _ _) rfl ?_
    exact ⟨by rw [hres.out]; rfl, hb1⟩
  replace h0 := Classical.not_not.1 h0
  rw [h0] at HC
  obtain ⟨k1, k2, k3, k4⟩ := chk_ok h0
  by_cases hlen : ¬ V.length = L.length
  · have hres : Hid (R = ([], 1)) := by unfold Hid; rw [← hR]; unfold pkM; rw [if_neg (fun h => h h0), if_pos hlen]
    have y1 : ((V.length : Int) != (L.length : Int)) = true := by simp only [bne_iff_ne]; omega
    clear hx hr hrv hR
    go_enter Tryz.func12, Tryz.ntmps12
    go_wp2_with fail
    refine HC.mono ?_
    rintro e W1 ⟨rfl, hb1⟩
    go_wp2_with fail
    refine bodyPost_ret (results_tmp2 rfl _ _ _) rfl ?_
    exact ⟨by rw [hres.out]; rfl, hb1⟩
  replace hlen := Classical.not_not.1 hlen
  have y1 : ((V.length : Int) != (L.length : Int)) = false := by rw [hlen]; simp
  have HRF : Hid (pkF (L.drop 0) (V.drop 0) [] = R) := by unfold Hid; rw [← hR]; unfold pkM; rw [if_neg (fun h => h h0), if_neg (fun h => h hlen)]; rfl
  have HR : Hid (IRF w o L) := hr
  have HRV : Hid (IRV w o2 V) := hrv
  have HLV : Hid (V.length = L.length) := hlen
  have HK3 : Hid (∀ f ∈ L, 1 ≤ f.2 ∧ f.2 ≤ 32) := k3
  clear hx hr hrv hR h0 k3 k4
  go_enter Tryz.func12, Tryz.ntmps12
  go_wp2_with fail
  refine HC.mono ?_
  rintro e W1 ⟨rfl, hb1⟩
  clear HC
  go_wp2_with fail
  go_loopw [8, 9] (fun vs vk wr => ∃ (k : Nat) (acc : List UInt8), vk = .int .i64 k ∧ k ≤ L.length ∧ vs = .string ⟨acc.toArray⟩ ∧ acc.length ≤ 32 * k ∧ Hid (pkF (L.drop k) (V.drop k) acc = R) ∧ Below w.heap.size w wr) (fun _ vk _ => L.length - (intOf vk).toNat)
  case atStart => exact ⟨0, [], rfl, Nat.zero_le _, rfl, by simp, HRF, hb1⟩
  case round =>
    clear HRF hb1
    obtain ⟨k, acc, rfl, hk, rfl, hal, hrun, hB⟩ := hrel
    by_cases hlt : k < L.length
    · have j1 : (k : Int) < (L.length : Int) := by omega
      have j0 : (0 : Int) ≤ (k : Int) := by omega
      obtain ⟨f, hf⟩ : ∃ f, L[k]? = some f := ⟨_, List.getElem?_eq_getElem hlt⟩
      obtain ⟨v, hv⟩ : ∃ v, V[k]? = some v := ⟨_, List.getElem?_eq_getElem (by rw [HLV.out]; exact hlt)⟩
      have j2 : (k : Int) < (V.length : Int) := by rw [HLV.out]; omega
      obtain ⟨g, o0, rfl, -⟩ := HR.out wr hB k f hf
      obtain ⟨g2, q0, rfl, -⟩ := HRV.out wr hB k v hv
      have hstep := hrun.out
      rw [pkF_step hf hv] at hstep
      have hbits := HK3.out f (List.mem_of_getElem? hf)
      have XV : Hid (∀ W : World, Below w.heap.size w W → W.cell? ⟨g2, q0 + k, none⟩ = some (.int .i64 v)) := fun W hW => by
        obtain ⟨g3, q3, h1, h2⟩ := HRV.out W hW k v hv
        injection h1 with h1
        injection h1 with h1 h4
        subst h1 h4
        exact h2
      have XF : Hid (∀ W : World, Below w.heap.size w W → W.cell? ⟨g, o0 + k * 2 + 1, none⟩ = some (.int .i64 f.2)) := fun W hW => by
        obtain ⟨g3, q3, h1, -, h2⟩ := HR.out W hW k f hf
        injection h1 with h1
        injection h1 with h1 h4
        subst h1 h4
        exact h2
      obtain ⟨x, bi⟩ := f
      obtain ⟨b, rfl⟩ : ∃ b : Nat, bi = (b : Int) := ⟨bi.toNat, by simp only at hbits; omega⟩
      simp only [Int.toNat_natCast] at hstep hbits XF
      have hb32 : b ≤ 32 := by omega
      have HSTEP : Hid ((if 0 ≤ v ∧ v ≤ ((2 ^ b - 1 : Nat) : Int) then pkF (L.drop (k + 1)) (V.drop (k + 1)) (acc ++ digL b v.toNat 0) else ([], 42)) = R) := hstep
      have HP2 : Hid (2 ^ b ≤ 2 ^ 32) := Nat.pow_le_pow_right (by decide) hb32
      have HTP : Hid (∀ W : World, Calls Tryz.prog 25 #[.int .i64 (b : Int)] W fun e w' => e = .returned (.int .i64 ((2 ^ b - 1 : Nat) : Int)) ∧ w' = W) := fun W => top_any b hb32 W
      obtain ⟨tp, htp⟩ : ∃ t : Nat, 2 ^ b - 1 = t := ⟨_, rfl⟩
      have htp2 : tp < 4294967296 := by have := HP2.out; omega
      rw [htp] at HSTEP
      simp only [htp] at HTP
      clear hrun hf hv hstep htp
      by_cases hv0 : v < 0
      · have hres : Hid (R = ([], 42)) := by unfold Hid; rw [← HSTEP.out, if_neg (by omega)]
        clear HSTEP
        go_wp2_with fail
        refine quiet_lit3 (C := fun W => Below w.heap.size w W) (by kernel_rfl) (by kernel_rfl) (show Below _ _ _ from hB.drew) ?_
        go_big_quiet_want
        go_big_quiet_op
        go_big_quiet_on
        go_big_quiet_want
        go_big_quiet_op
        go_big_quiet_on
        go_big_quiet_want
        refine ⟨.pointer (some ⟨g2, q0 + k, none⟩), fun W hW => ?_, ?_⟩
        · go_simp
        go_big_quiet_on
        simp only [Act.put, List.setIfInBounds_toArray, List.set_cons_zero, List.set_cons_succ]
        go_big_quiet_want
        refine ⟨.int .i64 v, fun W hW => ?_, ?_⟩
        · have z0 := XV.out W hW
          go_simp
        go_big_quiet_on
        simp only [Act.put, List.setIfInBounds_toArray, List.set_cons_zero, List.set_cons_succ]
        go_big_quiet_want
        refine ⟨.bool true, fun W hW => ?_, ?_⟩
        · go_simp
        go_big_quiet_on
        simp only [Act.put, List.setIfInBounds_toArray, List.set_cons_zero, List.set_cons_succ]
        go_big_quiet_want
        go_big_quiet_op
        go_big_quiet_on
        go_big_quiet_skip
        go_big_quiet_skip
        go_big_quiet_skip
        go_big_quiet_skip
        go_big_quiet_skip
        go_big_quiet_skip
        go_big_quiet_skip
        go_big_quiet_skip
        go_big_quiet_skip
        go_big_quiet_skip
        go_big_quiet_skip
        go_big_quiet_want
        refine ⟨.bool true, fun W hW => ?_, ?_⟩
        · go_simp
        go_big_quiet_on
        simp only [Act.put, List.setIfInBounds_toArray, List.set_cons_zero, List.set_cons_succ]
        refine wpQuiet_nil ?_
        intro W hW
        go_wp2_with fail
        refine bodyPost_ret (results_tmp2 rfl _ _ _) rfl ?_
        exact ⟨by rw [hres.out]; rfl, hW⟩
      by_cases hvt : (tp : Int) < v
      · have hres : Hid (R = ([], 42)) := by unfold Hid; rw [← HSTEP.out, if_neg (by omega)]
        clear HSTEP
        go_wp2_with fail
        refine quiet_lit3 (C := fun W => Below w.heap.size w W) (by kernel_rfl) (by kernel_rfl) (show Below _ _ _ from hB.drew) ?_
        go_big_quiet_want
        go_big_quiet_op
        go_big_quiet_on
        go_big_quiet_want
        go_big_quiet_op
        go_big_quiet_on
        go_big_quiet_want
        refine ⟨.pointer (some ⟨g2, q0 + k, none⟩), fun W hW => ?_, ?_⟩
        · go_simp
        go_big_quiet_on
        simp only [Act.put, List.setIfInBounds_toArray, List.set_cons_zero, List.set_cons_succ]
        go_big_quiet_want
        refine ⟨.int .i64 v, fun W hW => ?_, ?_⟩
        · have z0 := XV.out W hW
          go_simp
        go_big_quiet_on
        simp only [Act.put, List.setIfInBounds_toArray, List.set_cons_zero, List.set_cons_succ]
        go_big_quiet_want
        refine ⟨.bool false, fun W hW => ?_, ?_⟩
        · go_simp
          try omega
        go_big_quiet_on
        simp only [Act.put, List.setIfInBounds_toArray, List.set_cons_zero, List.set_cons_succ]
        go_big_quiet_want
        go_big_quiet_op
        go_big_quiet_on
        go_big_quiet_want
        go_big_quiet_op
        go_big_quiet_on
        go_big_quiet_want
        go_big_quiet_op
        go_big_quiet_on
        go_big_quiet_want
        refine ⟨.pointer (some ⟨g2, q0 + k, none⟩), fun W hW => ?_, ?_⟩
        · go_simp
        go_big_quiet_on
        simp only [Act.put, List.setIfInBounds_toArray, List.set_cons_zero, List.set_cons_succ]
        go_big_quiet_want
        refine ⟨.int .i64 v, fun W hW => ?_, ?_⟩
        · have z0 := XV.out W hW
          go_simp
        go_big_quiet_on
        simp only [Act.put, List.setIfInBounds_toArray, List.set_cons_zero, List.set_cons_succ]
        go_big_quiet_want
        go_big_quiet_op
        go_big_quiet_on
        go_big_quiet_want
        go_big_quiet_op
        go_big_quiet_on
        go_big_quiet_want
        refine ⟨.pointer (some ⟨g, o0 + k * 2, none⟩), fun W hW => ?_, ?_⟩
        · go_simp
        go_big_quiet_on
        simp only [Act.put, List.setIfInBounds_toArray, List.set_cons_zero, List.set_cons_succ]
        go_big_quiet_want
        refine ⟨.pointer (some ⟨g, o0 + k * 2 + 1, none⟩), fun W hW => ?_, ?_⟩
        · go_simp
        go_big_quiet_on
        simp only [Act.put, List.setIfInBounds_toArray, List.set_cons_zero, List.set_cons_succ]
        go_big_quiet_want
        refine ⟨.int .i64 (b : Int), fun W hW => ?_, ?_⟩
        · have z0 := XF.out W hW
          go_simp
        go_big_quiet_on
        simp only [Act.put, List.setIfInBounds_toArray, List.set_cons_zero, List.set_cons_succ]
        go_big_quiet_want
        refine ⟨.int .i64 (tp : Int), fun W hW => ?_, ?_⟩
        · go_simp
          refine (HTP.out W).mono ?_
          rintro e w7 ⟨rfl, rfl⟩
          exact ⟨rfl, by simpa using hW⟩
        go_big_quiet_on
        simp only [Act.put, List.setIfInBounds_toArray, List.set_cons_zero, List.set_cons_succ]
        go_big_quiet_want
        refine ⟨.bool true, fun W hW => ?_, ?_⟩
        · go_simp
          try omega
        go_big_quiet_on
        simp only [Act.put, List.setIfInBounds_toArray, List.set_cons_zero, List.set_cons_succ]
        go_big_quiet_want
        refine ⟨.bool true, fun W hW => ?_, ?_⟩
        · go_simp
        go_big_quiet_on
        simp only [Act.put, List.setIfInBounds_toArray, List.set_cons_zero, List.set_cons_succ]
        refine wpQuiet_nil ?_
        intro W hW
        go_wp2_with fail
        refine bodyPost_ret (results_tmp2 rfl _ _ _) rfl ?_
        exact ⟨by rw [hres.out]; rfl, hW⟩
      have hgo : Hid (pkF (L.drop (k + 1)) (V.drop (k + 1)) (acc ++ digL b v.toNat 0) = R) := by unfold Hid; rw [← HSTEP.out, if_pos (by omega)]
      obtain ⟨vn, rfl⟩ : ∃ vn : Nat, v = (vn : Int) := ⟨v.toNat, by omega⟩
      rw [Int.toNat_natCast] at hgo
      have HDG : Hid (∀ W : World, Calls Tryz.prog 26 #[.int .i64 (vn : Int), .int .i64 (b : Int)] W fun e w' => e = .returned (.string ⟨(digL b vn 0).toArray⟩) ∧ Below W.heap.size W w') := fun W => by
        have := rdigits_any vn b hb32 (by omega) W
        rw [digL0] at this
        exact this
      have hDl := digL_len b vn 0 (Nat.zero_le _)
      obtain ⟨D, hD⟩ : ∃ D, digL b vn 0 = D := ⟨_, rfl⟩
      rw [hD] at hgo hDl
      simp only [hD] at HDG
      have HDL : Hid (D.length = b) := hDl
      clear HSTEP hD hDl
      go_wp2_with fail
      refine quiet_lit3 (C := fun W => Below w.heap.size w W) (by kernel_rfl) (by kernel_rfl) (show Below _ _ _ from hB.drew) ?_
      go_big_quiet_want
      go_big_quiet_op
      go_big_quiet_on
      go_big_quiet_want
      go_big_quiet_op
      go_big_quiet_on
      go_big_quiet_want
      refine ⟨.pointer (some ⟨g2, q0 + k, none⟩), fun W hW => ?_, ?_⟩
      · go_simp
      go_big_quiet_on
      simp only [Act.put, List.setIfInBounds_toArray, List.set_cons_zero, List.set_cons_succ]
      go_big_quiet_want
      refine ⟨.int .i64 (vn : Int), fun W hW => ?_, ?_⟩
      · have z0 := XV.out W hW
        go_simp
      go_big_quiet_on
      simp only [Act.put, List.setIfInBounds_toArray, List.set_cons_zero, List.set_cons_succ]
      go_big_quiet_want
      refine ⟨.bool false, fun W hW => ?_, ?_⟩
      · go_simp
        try omega
      go_big_quiet_on
      simp only [Act.put, List.setIfInBounds_toArray, List.set_cons_zero, List.set_cons_succ]
      go_big_quiet_want
      go_big_quiet_op
      go_big_quiet_on
      go_big_quiet_want
      go_big_quiet_op
      go_big_quiet_on
      go_big_quiet_want
      go_big_quiet_op
      go_big_quiet_on
      go_big_quiet_want
      refine ⟨.pointer (some ⟨g2, q0 + k, none⟩), fun W hW => ?_, ?_⟩
      · go_simp
      go_big_quiet_on
      simp only [Act.put, List.setIfInBounds_toArray, List.set_cons_zero, List.set_cons_succ]
      go_big_quiet_want
      refine ⟨.int .i64 (vn : Int), fun W hW => ?_, ?_⟩
      · have z0 := XV.out W hW
        go_simp
      go_big_quiet_on
      simp only [Act.put, List.setIfInBounds_toArray, List.set_cons_zero, List.set_cons_succ]
      go_big_quiet_want
      go_big_quiet_op
      go_big_quiet_on
      go_big_quiet_want
      go_big_quiet_op
      go_big_quiet_on
      go_big_quiet_want
      refine ⟨.pointer (some ⟨g, o0 + k * 2, none⟩), fun W hW => ?_, ?_⟩
      · go_simp
      go_big_quiet_on
      simp only [Act.put, List.setIfInBounds_toArray, List.set_cons_zero, List.set_cons_succ]
      go_big_quiet_want
      refine ⟨.pointer (some ⟨g, o0 + k * 2 + 1, none⟩), fun W hW => ?_, ?_⟩
      · go_simp
      go_big_quiet_on
      simp only [Act.put, List.setIfInBounds_toArray, List.set_cons_zero, List.set_cons_succ]
      go_big_quiet_want
      refine ⟨.int .i64 (b : Int), fun W hW => ?_, ?_⟩
      · have z0 := XF.out W hW
        go_simp
      go_big_quiet_on
      simp only [Act.put, List.setIfInBounds_toArray, List.set_cons_zero, List.set_cons_succ]
      go_big_quiet_want
      refine ⟨.int .i64 (tp : Int), fun W hW => ?_, ?_⟩
      · go_simp
        refine (HTP.out W).mono ?_
        rintro e w7 ⟨rfl, rfl⟩
        exact ⟨rfl, by simpa using hW⟩
      go_big_quiet_on
      simp only [Act.put, List.setIfInBounds_toArray, List.set_cons_zero, List.set_cons_succ]
      go_big_quiet_want
      refine ⟨.bool false, fun W hW => ?_, ?_⟩
      · go_simp
        try omega
      go_big_quiet_on
      simp only [Act.put, List.setIfInBounds_toArray, List.set_cons_zero, List.set_cons_succ]
      go_big_quiet_want
      refine ⟨.bool false, fun W hW => ?_, ?_⟩
      · go_simp
      go_big_quiet_on
      simp only [Act.put, List.setIfInBounds_toArray, List.set_cons_zero, List.set_cons_succ]
      refine wpQuiet_nil ?_
      intro W hW
      have hB2 : Below w.heap.size w W := hW
      clear hB hW
      go_wp2_with fail
      refine quiet_lit3 (C := fun Wz => Below w.heap.size w Wz) (by kernel_rfl) (by kernel_rfl) (show Below _ _ _ from hB2.drew) ?_
      go_big_quiet_want
      go_big_quiet_op
      go_big_quiet_on
      go_big_quiet_want
      go_big_quiet_op
      go_big_quiet_on
      go_big_quiet_want
      go_big_quiet_op
      go_big_quiet_on
      go_big_quiet_want
      refine ⟨.pointer (some ⟨g2, q0 + k, none⟩), fun W hW => ?_, ?_⟩
      · go_simp
      go_big_quiet_on
      simp only [Act.put, List.setIfInBounds_toArray, List.set_cons_zero, List.set_cons_succ]
      go_big_quiet_want
      refine ⟨.int .i64 (vn : Int), fun W hW => ?_, ?_⟩
      · have z0 := XV.out W hW
        go_simp
      go_big_quiet_on
      simp only [Act.put, List.setIfInBounds_toArray, List.set_cons_zero, List.set_cons_succ]
      go_big_quiet_want
      go_big_quiet_op
      go_big_quiet_on
      go_big_quiet_want
      go_big_quiet_op
      go_big_quiet_on
      go_big_quiet_want
      refine ⟨.pointer (some ⟨g, o0 + k * 2, none⟩), fun W hW => ?_, ?_⟩
      · go_simp
      go_big_quiet_on
      simp only [Act.put, List.setIfInBounds_toArray, List.set_cons_zero, List.set_cons_succ]
      go_big_quiet_want
      refine ⟨.pointer (some ⟨g, o0 + k * 2 + 1, none⟩), fun W hW => ?_, ?_⟩
      · go_simp
      go_big_quiet_on
      simp only [Act.put, List.setIfInBounds_toArray, List.set_cons_zero, List.set_cons_succ]
      go_big_quiet_want
      refine ⟨.int .i64 (b : Int), fun W hW => ?_, ?_⟩
      · have z0 := XF.out W hW
        go_simp
      go_big_quiet_on
      simp only [Act.put, List.setIfInBounds_toArray, List.set_cons_zero, List.set_cons_succ]
      go_big_quiet_want
      refine ⟨.string ⟨D.toArray⟩, fun W hW => ?_, ?_⟩
      · go_simp
        refine (HDG.out W).mono ?_
        rintro e w7 ⟨rfl, hb⟩
        exact ⟨rfl, bel0 hW hb⟩
      go_big_quiet_on
      simp only [Act.put, List.setIfInBounds_toArray, List.set_cons_zero, List.set_cons_succ]
      go_big_quiet_want
      refine ⟨.string ⟨(acc ++ D).toArray⟩, fun W hW => ?_, ?_⟩
      · go_simp
        rw [if_neg (by rw [HDL.out]; omega)]
        exact ⟨rfl, by rw [cat_bytes]⟩
      go_big_quiet_on
      simp only [Act.put, List.setIfInBounds_toArray, List.set_cons_zero, List.set_cons_succ]
      go_big_quiet_want
      go_big_quiet_op
      go_big_quiet_on
      refine wpQuiet_nil ?_
      intro W2 hW2
      go_wp2_with fail
      go_roundw
      case rel => exact ⟨k + 1, acc ++ D, by go_num, by omega, rfl, by rw [List.length_append, HDL.out]; omega, hgo, hW2⟩
      case measure => simp [intOf]; omega
    · have j1 : ¬ (k : Int) < (L.length : Int) := by omega
      have hres : Hid (R = (acc, 0)) := by
        unfold Hid
        rw [← hrun.out, pkF_end (by omega)]
      clear hrun
      go_wp2_with fail
      refine bodyPost_ret (results_tmp2 rfl _ _ _) rfl ?_
      exact ⟨by rw [hres.out]; rfl, hB⟩
set_option maxRecDepth 100000 in
set_option maxHeartbeats 2000000 in
theorem alike_any (V : List Int) (o1 o2 : Option Addr) (c1 c2 : Nat) (w : World) (hL : V.length ≤ 281474976710656) (h1 : IRV w o1 V) (h2 : IRV w o2 V) :
    Calls Tryz.prog 14 #[.slice o1 V.length c1, .slice o2 V.length c2] w fun e w' => e = .returned (.bool true) ∧ Below w.heap.size w w' := by
  have x1 : Hid (IRV w o1 V) := h1
  have x2 : Hid (IRV w o2 V) := h2
  clear h1 h2
  go_enter Tryz.func14, Tryz.ntmps14
  go_wp2_with fail
  go_loopw [5] (fun i wr => ∃ k : Nat, k ≤ V.length ∧ i = .int .i64 k ∧ Below w.heap.size w wr) (fun i _ => V.length - (intOf i).toNat)
  case atStart => exact ⟨0, Nat.zero_le _, rfl, Below.refl _ _⟩
  case round =>
    obtain ⟨k, hk, rfl, hB⟩ := hrel
    by_cases hlt : k < V.length
    · have j1 : (k : Int) < (V.length : Int) := by omega
      have j0 : (0 : Int) ≤ (k : Int) := by omega
      obtain ⟨f, hf⟩ : ∃ f, V[k]? = some f := ⟨_, List.getElem?_eq_getElem hlt⟩
      obtain ⟨G1, Q1, rfl, -⟩ := x1.out w (Below.refl _ _) k f hf
      obtain ⟨G2, Q2, rfl, -⟩ := x2.out w (Below.refl _ _) k f hf
      have X1 : Hid (∀ W, Below w.heap.size w W → W.cell? ⟨G1, Q1 + k, none⟩ = some (.int .i64 f)) := fun W hW => by
        obtain ⟨g2, q2, e, h⟩ := x1.out W hW k f hf
        injection e with e
        injection e with e1 e2
        subst e1 e2
        exact h
      have X2 : Hid (∀ W, Below w.heap.size w W → W.cell? ⟨G2, Q2 + k, none⟩ = some (.int .i64 f)) := fun W hW => by
        obtain ⟨g2, q2, e, h⟩ := x2.out W hW k f hf
        injection e with e
        injection e with e1 e2
        subst e1 e2
        exact h
      clear x1 x2 hf
      go_wp2_with fail
      refine quiet_lit3 (C := fun W => Below w.heap.size w W) (by kernel_rfl) (by kernel_rfl) (show Below _ _ _ from hB.drew) ?_
      go_big_quiet_want
      go_big_quiet_op
      go_big_quiet_on
      go_big_quiet_want
      go_big_quiet_op
      go_big_quiet_on
      go_big_quiet_want
      refine ⟨.pointer (some ⟨G1, Q1 + k, none⟩), fun W hW => ?_, ?_⟩
      · go_simp
      go_big_quiet_on
      simp only [Act.put, List.setIfInBounds_toArray, List.set_cons_zero, List.set_cons_succ]
      go_big_quiet_want
      refine ⟨.int .i64 f, fun W hW => ?_, ?_⟩
      · have z0 := X1.out W hW
        go_simp
      go_big_quiet_on
      simp only [Act.put, List.setIfInBounds_toArray, List.set_cons_zero, List.set_cons_succ]
      go_big_quiet_want
      go_big_quiet_op
      go_big_quiet_on
      go_big_quiet_want
      go_big_quiet_op
      go_big_quiet_on
      go_big_quiet_want
      refine ⟨.pointer (some ⟨G2, Q2 + k, none⟩), fun W hW => ?_, ?_⟩
      · go_simp
      go_big_quiet_on
      simp only [Act.put, List.setIfInBounds_toArray, List.set_cons_zero, List.set_cons_succ]
      go_big_quiet_want
      refine ⟨.int .i64 f, fun W hW => ?_, ?_⟩
      · have z0 := X2.out W hW
        go_simp
      go_big_quiet_on
      simp only [Act.put, List.setIfInBounds_toArray, List.set_cons_zero, List.set_cons_succ]
      go_big_quiet_want
      refine ⟨.bool false, fun W hW => ?_, ?_⟩
      · go_simp
      go_big_quiet_on
      simp only [Act.put, List.setIfInBounds_toArray, List.set_cons_zero, List.set_cons_succ]
      refine wpQuiet_nil ?_
      intro W hW
      go_wp2_with fail
      go_roundw
      case rel => exact ⟨k + 1, by omega, by go_num, hW⟩
      case measure => simp [intOf]; omega
    · have j1 : ¬ (k : Int) < (V.length : Int) := by omega
      go_wp2_with fail
      go_ret
      exact ⟨rfl, hB⟩
end Go.Proofs.YtealpmimffcpdaaGreatDoor
namespace Go.Proofs.YtealpmimffcpdaaGreatDoor
open Go.RowKit Go.Shelf
set_option maxRecDepth 100000 in
set_option maxHeartbeats 2000000 in
theorem refWidth_any (L : List IFld) (o : Option Addr) (c : Nat) (w : World) (hL : L.length ≤ 4096) (hf : ∀ f ∈ L, 0 ≤ f.2 ∧ f.2 ≤ 32) (hr : IRF w o L) :
    Calls Tryz.prog 34 #[.slice o L.length c] w fun e w' => e = .returned (.int .i64 (sumB L)) ∧ Below w.heap.size w w' := by
  have HR : Hid (IRF w o L) := hr
  have HF : Hid (∀ f ∈ L, 0 ≤ f.2 ∧ f.2 ≤ 32) := hf
  clear hr hf
  go_enter Tryz.func34, Tryz.ntmps34
  go_wp2_with fail
  go_loopw [3, 4] (fun vs vk wr => ∃ k : Nat, vk = .int .i64 k ∧ k ≤ L.length ∧ vs = .int .i64 (sumB (L.take k)) ∧ Below w.heap.size w wr) (fun _ vk _ => L.length - (intOf vk).toNat)
  case atStart => exact ⟨0, rfl, Nat.zero_le _, rfl, Below.refl _ _⟩
  case round =>
    obtain ⟨k, rfl, hk, rfl, hB⟩ := hrel
    by_cases hlt : k < L.length
    · have j1 : (k : Int) < (L.length : Int) := by omega
      have j0 : (0 : Int) ≤ (k : Int) := by omega
      obtain ⟨f, hf⟩ : ∃ f, L[k]? = some f := ⟨_, List.getElem?_eq_getElem hlt⟩
      obtain ⟨g, o0, rfl, p0, p1⟩ := HR.out wr hB k f hf
      have hs := sumB_take hf
      have hbd := sumB_bound (L.take k) (fun g hg => HF.out g (List.mem_of_mem_take hg))
      have hfb := HF.out f (List.mem_of_getElem? hf)
      have hlen : (L.take k).length = k := by rw [List.length_take]; omega
      rw [hlen] at hbd
      obtain ⟨y, n⟩ := f
      simp only at p0 p1 hs hfb
      obtain ⟨s, hs0⟩ : ∃ s, sumB (L.take k) = s := ⟨_, rfl⟩
      rw [hs0] at hs hbd
      have HS : Hid (sumB (L.take (k + 1)) = s + n) := hs
      rw [hs0]
      clear hf hs hlen hs0
      have e1 : IntKind.i64.wrap (s + n) = s + n := by rw [IntKind.wrap_i64]; omega
      go_wp2_with fail
      go_roundw
      case rel => exact ⟨k + 1, by go_num, by omega, by rw [HS.out], hB⟩
      case measure => simp [intOf]; omega
    · have j1 : ¬ (k : Int) < (L.length : Int) := by omega
      rw [List.take_of_length_le (by omega)]
      go_wp2_with fail
      go_ret
      exact ⟨rfl, hB⟩
/-- where a field's places begin, and its number -/
def plM (L : List IFld) (x : List UInt8) : Int × Int := if idxF L x < 0 then (-1, -1) else (sumB (L.take (idxF L x).toNat), idxF L x)
set_option maxRecDepth 100000 in
set_option maxHeartbeats 4000000 in
theorem refPlace_any (L : List IFld) (o : Option Addr) (c : Nat) (x : List UInt8) (w : World) (hL : L.length ≤ 4096) (hf : ∀ f ∈ L, 0 ≤ f.2 ∧ f.2 ≤ 32) (hr : IRF w o L) :
    Calls Tryz.prog 35 #[.slice o L.length c, .string ⟨x.toArray⟩] w fun e w' => e = .returned (.tuple #[.int .i64 (plM L x).1, .int .i64 (plM L x).2]) ∧ Below w.heap.size w w' := by
  have HR : Hid (IRF w o L) := hr
  have HF : Hid (∀ f ∈ L, 0 ≤ f.2 ∧ f.2 ≤ 32) := hf
  obtain ⟨R, hR⟩ : ∃ R, plM L x = R := ⟨_, rfl⟩
  rw [hR]
  have HI0 : Hid (idxG 0 (L.drop 0) x = idxF L x) := rfl
  have HRR : Hid (plM L x = R) := hR
  clear hr hf hR
  go_enter Tryz.func35, Tryz.ntmps35
  go_wp2_with fail
  go_loopw [6, 7] (fun vs vk wr => ∃ k : Nat, vk = .int .i64 k ∧ k ≤ L.length ∧ vs = .int .i64 (sumB (L.take k)) ∧ Hid (idxG k (L.drop k) x = idxF L x) ∧ Below w.heap.size w wr) (fun _ vk _ => L.length - (intOf vk).toNat)
  case atStart => exact ⟨0, rfl, Nat.zero_le _, rfl, HI0, Below.refl _ _⟩
  case round =>
    clear HI0
    obtain ⟨k, rfl, hk, rfl, hidx, hB⟩ := hrel
    by_cases hlt : k < L.length
    · have j1 : (k : Int) < (L.length : Int) := by omega
      have j0 : (0 : Int) ≤ (k : Int) := by omega
      obtain ⟨f, hf⟩ : ∃ f, L[k]? = some f := ⟨_, List.getElem?_eq_getElem hlt⟩
      obtain ⟨g, o0, rfl, p0, p1⟩ := HR.out wr hB k f hf
      have hs := sumB_take hf
      have hbd := sumB_bound (L.take k) (fun g hg => HF.out g (List.mem_of_mem_take hg))
      have hfb := HF.out f (List.mem_of_getElem? hf)
      have hlen : (L.take k).length = k := by rw [List.length_take]; omega
      rw [hlen] at hbd
      have hx2 := hidx.out
      rw [idxG_step hf] at hx2
      obtain ⟨y, n⟩ := f
      simp only at p0 p1 hs hfb hx2
      by_cases hy : y = x
      · rw [if_pos hy] at hx2
        have HRES : Hid (R = (sumB (L.take k), (k : Int))) := by
          unfold Hid
          rw [← HRR.out]
          unfold plM
          rw [← hx2, if_neg (by omega), Int.toNat_natCast]
        have y0 : (y == x) = true := beq_iff_eq.2 hy
        obtain ⟨s, hs0⟩ : ∃ s, sumB (L.take k) = s := ⟨_, rfl⟩
        rw [hs0] at HRES
        rw [hs0]
        clear hf hs hlen hs0 hx2 hidx hy hbd
        go_wp2_with fail
        refine bodyPost_ret (results_tmp2 rfl _ _ _) rfl ?_
        exact ⟨by rw [HRES.out]; rfl, hB⟩
      · rw [if_neg hy] at hx2
        have y0 : (y == x) = false := beq_eq_false_iff_ne.2 hy
        have HX : Hid (idxG (k + 1) (L.drop (k + 1)) x = idxF L x) := hx2
        obtain ⟨s, hs0⟩ : ∃ s, sumB (L.take k) = s := ⟨_, rfl⟩
        rw [hs0] at hs hbd
        have HS : Hid (sumB (L.take (k + 1)) = s + n) := hs
        rw [hs0]
        clear hf hs hlen hs0 hx2 hidx hy
        have e1 : IntKind.i64.wrap (s + n) = s + n := by rw [IntKind.wrap_i64]; omega
        go_wp2_with fail
        go_roundw
        case rel => exact ⟨k + 1, by go_num, by omega, by rw [HS.out], HX, hB⟩
        case measure => simp [intOf]; omega
    · have j1 : ¬ (k : Int) < (L.length : Int) := by omega
      have HRES : Hid (R = (-1, -1)) := by
        unfold Hid
        rw [← HRR.out]
        unfold plM
        rw [← hidx.out, List.drop_eq_nil_of_le (by omega)]
        exact if_pos (show (-1 : Int) < 0 by decide)
      clear hidx
      go_wp2_with fail
      refine bodyPost_ret (results_tmp2 rfl _ _ _) rfl ?_
      exact ⟨by rw [HRES.out]; rfl, hB⟩
theorem putL_eq {acc D : List UInt8} {p : Nat} (h : p + D.length ≤ acc.length) : (acc.take p ++ D) ++ acc.drop (p + D.length) = putL acc p D := by
  have e : acc = acc.take p ++ ((acc.drop p).take D.length ++ acc.drop (p + D.length)) := by
    rw [← List.drop_drop, List.take_append_drop, List.take_append_drop]
  have hl : (acc.take p).length = p := by rw [List.length_take]; omega
  have := putL_mid D (acc.take p) ((acc.drop p).take D.length) (acc.drop (p + D.length)) (by rw [List.length_take, List.length_drop]; omega)
  rw [← e, hl] at this
  rw [this, List.append_assoc]
set_option maxRecDepth 100000 in
set_option maxHeartbeats 8000000 in
theorem refWord_any (L : List IFld) (o : Option Addr) (c : Nat) (S : List IFld) (o2 : Option Addr) (c2 : Nat) (w : World) (hL : L.length ≤ 281474976710656) (hx : ∀ f ∈ L, f.1.length ≤ 281474976710656) (hr : IRF w o L) (hrs : IRF w o2 S) :
    Calls Tryz.prog 16 #[.slice o L.length c, .slice o2 S.length c2] w fun e w' => e = .returned (.tuple #[.string ⟨(wdM L S).1.toArray⟩, .int .i64 (wdM L S).2]) ∧ Below w.heap.size w w' := by
  obtain ⟨R, hR⟩ : ∃ R, wdM L S = R := ⟨_, rfl⟩
  rw [hR]
  by_cases hbig : 12 < S.length
  · have i1 : (12 : Int) < (S.length : Int) := by omega
    have hres : Hid (R = ([], 2)) := by unfold Hid; rw [← hR]; unfold wdM; rw [if_pos hbig]
    clear hx hr hrs hR
    go_enter Tryz.func16, Tryz.ntmps16
    go_wp2_with fail
    refine bodyPost_ret (results_tmp2 rfl _ _ _) rfl ?_
    exact ⟨by rw [hres.out]; rfl, Below.refl _ _⟩
  have i1 : ¬ (12 : Int) < (S.length : Int) := by omega
  have HC := refCheck_any L o c w hL hx hr
  by_cases h0 : ¬ (chkM L).1 = 0
  · have hres : Hid (R = ([], (chkM L).1)) := by unfold Hid; rw [← hR]; unfold wdM; rw [if_neg hbig, if_pos h0]
    obtain ⟨ce, hce⟩ : ∃ x, (chkM L).1 = x := ⟨_, rfl⟩
    rw [hce] at HC h0 hres
    have y1 : (ce != 0) = true := by simpa using h0
    clear hx hr hrs hR hce
    go_enter Tryz.func16, Tryz.ntmps16
    go_wp2_with fail
    refine HC.mono ?_
    rintro e W1 ⟨rfl, hb1⟩
    go_wp2_with fail
    refine bodyPost_ret (results_tmp2 rfl _ _ _) rfl ?_
    exact ⟨by rw [hres.out]; rfl, hb1⟩
  replace h0 := Classical.not_not.1 h0
  rw [h0] at HC
  obtain ⟨k1, k2, k3, k4⟩ := chk_ok h0
  have hb0 : ∀ f ∈ L, 0 ≤ f.2 ∧ f.2 ≤ 32 := fun f hf => by have := k3 f hf; omega
  obtain ⟨n, hn⟩ : ∃ n : Nat, sumB L = (n : Int) := ⟨(sumB L).toNat, by have := (sumB_bound L hb0).1; omega⟩
  have hn256 : n ≤ 256 := by omega
  have HRF : Hid (wdF L (S.take 0) (S.drop 0) (List.replicate n 120) = R) := by unfold Hid; rw [← hR]; unfold wdM; rw [if_neg hbig, if_neg (fun h => h h0), hn]; rfl
  obtain ⟨f0, hf0⟩ : ∃ f, L[0]? = some f := ⟨_, List.getElem?_eq_getElem k1⟩
  obtain ⟨g, o0, rfl, -⟩ := hr w (Below.refl _ _) 0 f0 hf0
  have HR : Hid (IRF w (some ⟨g, o0, none⟩) L) := hr
  have HRS : Hid (IRF w o2 S) := hrs
  have HK3 : Hid (∀ f ∈ L, 1 ≤ f.2 ∧ f.2 ≤ 32) := k3
  have HB0 : Hid (∀ f ∈ L, 0 ≤ f.2 ∧ f.2 ≤ 32) := hb0
  have HN : Hid (sumB L = (n : Int)) := hn
  have HWD : Hid (∀ W : World, Below w.heap.size w W → Calls Tryz.prog 34 #[.slice (some ⟨g, o0, none⟩) L.length c] W fun e w' => e = .returned (.int .i64 (n : Int)) ∧ Below W.heap.size W w') := fun W hW => by
    have := refWidth_any L (some ⟨g, o0, none⟩) c W (by omega) hb0 (hr.later hW)
    rw [hn] at this
    exact this
  have HXS : Hid (∀ W : World, Calls Tryz.prog 33 #[.int .i64 (n : Int)] W fun e w' => e = .returned (.string ⟨(List.replicate n 120).toArray⟩) ∧ Below W.heap.size W w') := fun W => xs_any n (by omega) W
  obtain ⟨T0, hT0⟩ : ∃ T0 : List UInt8, List.replicate n 120 = T0 := ⟨_, rfl⟩
  have hT0l : Hid (T0.length = n) := by unfold Hid; rw [← hT0]; simp
  rw [hT0] at HRF
  simp only [hT0] at HXS
  clear hx hr hrs hR h0 k3 k4 hb0 hn hf0 hT0
  go_enter Tryz.func16, Tryz.ntmps16
  go_wp2_with fail
  refine HC.mono ?_
  rintro e W1 ⟨rfl, hb1⟩
  go_wp2_with fail
  refine (HWD.out _ hb1).mono ?_
  rintro e W2 ⟨rfl, hb2⟩
  go_wp2_with fail
  refine (HXS.out _).mono ?_
  rintro e W3 ⟨rfl, hb3⟩
  have hB3 := bel0 (bel0 hb1 hb2) hb3
  clear HC HWD HXS hb1 hb2 hb3
  go_wp2_with fail
  go_loopw [8, 9] (fun vs vk wr => ∃ (k : Nat) (acc : List UInt8), vk = .int .i64 k ∧ k ≤ S.length ∧ vs = .string ⟨acc.toArray⟩ ∧ Hid (acc.length = n) ∧ Hid (wdF L (S.take k) (S.drop k) acc = R) ∧ Below w.heap.size w wr) (fun _ vk _ => S.length - (intOf vk).toNat)
  case atStart => exact ⟨0, T0, rfl, Nat.zero_le _, rfl, hT0l, HRF, hB3⟩
  case round =>
    clear HRF hB3
    obtain ⟨k, acc, rfl, hk, rfl, hal, hrun, hB⟩ := hrel
    by_cases hlt : k < S.length
    · have j1 : (k : Int) < (S.length : Int) := by omega
      have j0 : (0 : Int) ≤ (k : Int) := by omega
      obtain ⟨s, hs⟩ : ∃ s, S[k]? = some s := ⟨_, List.getElem?_eq_getElem hlt⟩
      obtain ⟨g2, q0, rfl, p0, p1⟩ := HRS.out wr hB k s hs
      have hstep := hrun.out
      rw [wdF_step hs] at hstep
      have HPL : Hid (∀ W : World, Below w.heap.size w W → Calls Tryz.prog 35 #[.slice (some ⟨g, o0, none⟩) L.length c, .string ⟨s.1.toArray⟩] W fun e w' => e = .returned (.tuple #[.int .i64 (plM L s.1).1, .int .i64 (plM L s.1).2]) ∧ Below W.heap.size W w') := fun W hW => refPlace_any L (some ⟨g, o0, none⟩) c s.1 W (by omega) HB0.out (HR.out.later hW)
      have HIX : Hid (0 ≤ idxF (S.take k) s.1 ↔ ∃ i h, i < k ∧ S[i]? = some h ∧ h.1 = s.1) := by
        unfold Hid
        rw [idxF_ge]
        constructor
        · rintro ⟨h, hm, he⟩
          obtain ⟨i, hi⟩ := List.getElem?_of_mem hm
          rw [List.getElem?_take] at hi
          split at hi
          · rename_i hik; exact ⟨i, h, hik, hi, he⟩
          · cases hi
        · rintro ⟨i, h, hik, hi, he⟩
          refine ⟨h, List.mem_of_getElem? (i := i) ?_, he⟩
          rw [List.getElem?_take, if_pos hik]
          exact hi
      have XS : Hid (∀ W : World, Below w.heap.size w W → W.cell? ⟨g2, q0 + k * 2, none⟩ = some (.string ⟨s.1.toArray⟩) ∧ W.cell? ⟨g2, q0 + k * 2 + 1, none⟩ = some (.int .i64 s.2)) := fun W hW => by
        obtain ⟨g3, q3, h1, h2⟩ := HRS.out W hW k s hs
        injection h1 with h1
        injection h1 with h1 h4
        subst h1 h4
        exact h2
      have hix := idxG_ge L 0 s.1
      obtain ⟨x, sv⟩ := s
      simp only at p0 p1 hstep HPL hix XS HIX
      rcases hix with hix | ⟨i, f, hix, hfi, hfx⟩
      · have hix2 : idxF L x = -1 := hix
        have hres : Hid (R = ([], 41)) := by unfold Hid; rw [← hstep, hix2, if_pos (by decide)]
        have hpl : plM L x = (-1, -1) := by unfold plM; rw [hix2, if_pos (by decide)]
        rw [hpl] at HPL
        clear hstep hix hix2 hrun hs hpl
        go_wp2_with fail
        refine (HPL.out _ hB).mono ?_
        rintro e W3 ⟨rfl, hb3⟩
        go_wp2_with fail
        refine bodyPost_ret (results_tmp2 rfl _ _ _) rfl ?_
        exact ⟨by rw [hres.out]; rfl, bel0 hB hb3⟩
      have hix2 : idxF L x = (i : Int) := by
        unfold idxF
        rw [hix, Nat.zero_add]
      have hgd : L.getD i ([], 0) = f := by simp [List.getD, hfi]
      rw [hix2, if_neg (by omega), Int.toNat_natCast, hgd] at hstep
      have hil : i < L.length := (List.getElem?_eq_some_iff.1 hfi).1
      have l1 : (i : Int) < (L.length : Int) := by omega
      have l0 : (0 : Int) ≤ (i : Int) := by omega
      have l2 : ¬ (i : Int) < 0 := by omega
      have hbits := HK3.out f (List.mem_of_getElem? hfi)
      have hst := sumB_take hfi
      have hpb := (sumB_bound (L.take i) (fun f hf => HB0.out f (List.mem_of_mem_take hf))).1
      obtain ⟨p, hp⟩ : ∃ p : Nat, sumB (L.take i) = (p : Int) := ⟨(sumB (L.take i)).toNat, by omega⟩
      have hpl : plM L x = ((p : Int), (i : Int)) := by unfold plM; rw [hix2, if_neg (by omega), Int.toNat_natCast, hp]
      rw [hpl] at HPL
      have hle := sumB_take_le HB0.out (i + 1)
      rw [hst, HN.out, hp] at hle
      rw [hp, Int.toNat_natCast] at hstep
      have XF : Hid (∀ W : World, Below w.heap.size w W → W.cell? ⟨g, o0 + i * 2 + 1, none⟩ = some (.int .i64 f.2)) := fun W hW => by
        obtain ⟨g3, q3, h1, -, h2⟩ := HR.out W hW i f hfi
        injection h1 with h1
        injection h1 with h1 h4
        subst h1 h4
        exact h2
      obtain ⟨fx, bi⟩ := f
      obtain ⟨b, rfl⟩ : ∃ b : Nat, bi = (b : Int) := ⟨bi.toNat, by simp only at hbits; omega⟩
      simp only [Int.toNat_natCast] at hstep hbits hle XF
      have hb1 : 1 ≤ b := by omega
      have hb32 : b ≤ 32 := by omega
      have HP2 : Hid (2 ^ b ≤ 2 ^ 32) := Nat.pow_le_pow_right (by decide) hb32
      have HSTEP : Hid ((if 0 ≤ idxF (S.take k) x then ([], 45) else if 0 ≤ sv ∧ sv ≤ ((2 ^ b - 1 : Nat) : Int) then wdF L (S.take (k + 1)) (S.drop (k + 1)) (putL acc p (digL b sv.toNat 0)) else ([], 42)) = R) := hstep
      clear hstep hix hix2 hrun hs hgd hst hpb hfi hfx hp hpl
      go_wp2_with fail
      refine (HPL.out _ hB).mono ?_
      rintro e W3 ⟨rfl, hb3⟩
      have hB3 := bel0 hB hb3
      clear HPL p0 p1 hb3 hB
      go_wp2_with fail
      go_loopw [12] (fun vj wi => ∃ j : Nat, vj = .int .i64 j ∧ j ≤ k ∧ Hid (∀ i h, i < j → S[i]? = some h → h.1 ≠ x) ∧ Below w.heap.size w wi) (fun vj _ => k - (intOf vj).toNat)
      case atStart => exact ⟨0, rfl, Nat.zero_le _, fun i h hi => by omega, hB3⟩
      case round =>
        clear hB3
        obtain ⟨j, rfl, hj, hno, hB⟩ := hrel
        by_cases hjk : j < k
        · have q1 : (j : Int) < (k : Int) := by omega
          have q00 : (0 : Int) ≤ (j : Int) := by omega
          have q2 : (j : Int) < (S.length : Int) := by omega
          obtain ⟨h, hh⟩ : ∃ h, S[j]? = some h := ⟨_, List.getElem?_eq_getElem (by omega)⟩
          have XH : Hid (∀ W : World, Below w.heap.size w W → W.cell? ⟨g2, q0 + j * 2, none⟩ = some (.string ⟨h.1.toArray⟩)) := fun W hW => by
            obtain ⟨g3, q3, e1, e2, -⟩ := HRS.out W hW j h hh
            injection e1 with e1
            injection e1 with e1 e3
            subst e1 e3
            exact e2
          have HEQ : Hid (h.1 = x → R = ([], 45)) := fun e => by rw [← HSTEP.out, if_pos (HIX.out.2 ⟨j, h, hjk, hh, e⟩)]
          have HNX : Hid (h.1 ≠ x → ∀ i h, i < j + 1 → S[i]? = some h → h.1 ≠ x) := fun hne i h' hi hh' => by
            rcases Nat.lt_or_ge i j with h1 | h1
            · exact hno.out i h' h1 hh'
            · obtain rfl : i = j := by omega
              rw [hh] at hh'
              rw [← Option.some.inj hh']
              exact hne
          obtain ⟨y, bb⟩ := h
          simp only at XH HEQ HNX
          clear hh hno
          obtain ⟨e0, he0⟩ : ∃ e, (y == x) = e := ⟨_, rfl⟩
          go_wp2_with fail
          refine quiet_lit3 (C := fun W => Below w.heap.size w W) (by kernel_rfl) (by kernel_rfl) (show Below _ _ _ from hB.drew) ?_
          go_big_quiet_want
          go_big_quiet_op
          go_big_quiet_on
          go_big_quiet_want
          go_big_quiet_op
          go_big_quiet_on
          go_big_quiet_want
          refine ⟨.pointer (some ⟨g2, q0 + j * 2, none⟩), fun W hW => ?_, ?_⟩
          · go_simp
          go_big_quiet_on
          simp only [Act.put, List.setIfInBounds_toArray, List.set_cons_zero, List.set_cons_succ]
          go_big_quiet_want
          refine ⟨.pointer (some ⟨g2, q0 + j * 2, none⟩), fun W hW => ?_, ?_⟩
          · go_simp
          go_big_quiet_on
          simp only [Act.put, List.setIfInBounds_toArray, List.set_cons_zero, List.set_cons_succ]
          go_big_quiet_want
          refine ⟨.string ⟨y.toArray⟩, fun W hW => ?_, ?_⟩
          · have z0 := XH.out W hW
            go_simp
          go_big_quiet_on
          simp only [Act.put, List.setIfInBounds_toArray, List.set_cons_zero, List.set_cons_succ]
          go_big_quiet_want
          go_big_quiet_op
          go_big_quiet_on
          go_big_quiet_want
          go_big_quiet_op
          go_big_quiet_on
          go_big_quiet_want
          refine ⟨.pointer (some ⟨g2, q0 + k * 2, none⟩), fun W hW => ?_, ?_⟩
          · go_simp
          go_big_quiet_on
          simp only [Act.put, List.setIfInBounds_toArray, List.set_cons_zero, List.set_cons_succ]
          go_big_quiet_want
          refine ⟨.pointer (some ⟨g2, q0 + k * 2, none⟩), fun W hW => ?_, ?_⟩
          · go_simp
          go_big_quiet_on
          simp only [Act.put, List.setIfInBounds_toArray, List.set_cons_zero, List.set_cons_succ]
          go_big_quiet_want
          refine ⟨.string ⟨x.toArray⟩, fun W hW => ?_, ?_⟩
          · obtain ⟨z0, z1⟩ := XS.out W hW
            go_simp
          go_big_quiet_on
          simp only [Act.put, List.setIfInBounds_toArray, List.set_cons_zero, List.set_cons_succ]
          go_big_quiet_want
          refine ⟨.bool e0, fun W hW => ?_, ?_⟩
          · go_simp
          go_big_quiet_on
          simp only [Act.put, List.setIfInBounds_toArray, List.set_cons_zero, List.set_cons_succ]
          refine wpQuiet_nil ?_
          intro W hW
          cases e0 with
          | true =>
            have HRES : Hid (R = ([], 45)) := HEQ.out (beq_iff_eq.1 he0)
            clear HEQ HNX he0
            go_wp2_with fail
            refine bodyPost_ret (results_tmp2 rfl _ _ _) rfl ?_
            exact ⟨by rw [HRES.out]; rfl, hW⟩
          | false =>
            have HN2 : Hid (∀ i h, i < j + 1 → S[i]? = some h → h.1 ≠ x) := HNX.out (beq_eq_false_iff_ne.1 he0)
            clear HEQ HNX he0
            go_wp2_with fail
            go_roundw
            case rel => exact ⟨j + 1, by go_num, by omega, HN2, hW⟩
            case measure => simp [intOf]; omega
        · have q1 : ¬ (j : Int) < (k : Int) := by omega
          obtain rfl : j = k := by omega
          have hnx : ¬ 0 ≤ idxF (S.take j) x := by
            rw [HIX.out]
            rintro ⟨i, h, hi, hh, he⟩
            exact hno.out i h hi hh he
          have HTP : Hid (∀ W : World, Calls Tryz.prog 25 #[.int .i64 (b : Int)] W fun e w' => e = .returned (.int .i64 ((2 ^ b - 1 : Nat) : Int)) ∧ w' = W) := fun W => top_any b hb32 W
          have HST2 : Hid ((if 0 ≤ sv ∧ sv ≤ ((2 ^ b - 1 : Nat) : Int) then wdF L (S.take (j + 1)) (S.drop (j + 1)) (putL acc p (digL b sv.toNat 0)) else ([], 42)) = R) := by unfold Hid; rw [← HSTEP.out, if_neg hnx]
          obtain ⟨tp, htp⟩ : ∃ t : Nat, 2 ^ b - 1 = t := ⟨_, rfl⟩
          have htp2 : tp < 4294967296 := by have := HP2.out; omega
          rw [htp] at HST2
          simp only [htp] at HTP
          have z9 := XF.out _ hB
          clear HSTEP hnx hno htp
          by_cases hv0 : sv < 0
          · have hres : Hid (R = ([], 42)) := by unfold Hid; rw [← HST2.out, if_neg (by omega)]
            clear HST2
            go_wp2_with fail
            refine quiet_lit3 (C := fun W => Below w.heap.size w W) (by kernel_rfl) (by kernel_rfl) (show Below _ _ _ from hB.drew) ?_
            go_big_quiet_want
            go_big_quiet_op
            go_big_quiet_on
            go_big_quiet_want
            go_big_quiet_op
            go_big_quiet_on
            go_big_quiet_want
            refine ⟨.pointer (some ⟨g2, q0 + j * 2, none⟩), fun W hW => ?_, ?_⟩
            · go_simp
            go_big_quiet_on
            simp only [Act.put, List.setIfInBounds_toArray, List.set_cons_zero, List.set_cons_succ]
            go_big_quiet_want
            refine ⟨.pointer (some ⟨g2, q0 + j * 2 + 1, none⟩), fun W hW => ?_, ?_⟩
            · go_simp
            go_big_quiet_on
            simp only [Act.put, List.setIfInBounds_toArray, List.set_cons_zero, List.set_cons_succ]
            go_big_quiet_want
            refine ⟨.int .i64 sv, fun W hW => ?_, ?_⟩
            · obtain ⟨z0, z1⟩ := XS.out W hW
              go_simp
            go_big_quiet_on
            simp only [Act.put, List.setIfInBounds_toArray, List.set_cons_zero, List.set_cons_succ]
            go_big_quiet_want
            refine ⟨.bool true, fun W hW => ?_, ?_⟩
            · go_simp
            go_big_quiet_on
            simp only [Act.put, List.setIfInBounds_toArray, List.set_cons_zero, List.set_cons_succ]
            go_big_quiet_want
            go_big_quiet_op
            go_big_quiet_on
            go_big_quiet_skip
            go_big_quiet_skip
            go_big_quiet_skip
            go_big_quiet_skip
            go_big_quiet_skip
            go_big_quiet_skip
            go_big_quiet_skip
            go_big_quiet_skip
            go_big_quiet_want
            refine ⟨.bool true, fun W hW => ?_, ?_⟩
            · go_simp
            go_big_quiet_on
            simp only [Act.put, List.setIfInBounds_toArray, List.set_cons_zero, List.set_cons_succ]
            refine wpQuiet_nil ?_
            intro W hW
            go_wp2_with fail
            refine bodyPost_ret (results_tmp2 rfl _ _ _) rfl ?_
            exact ⟨by rw [hres.out]; rfl, hW⟩
          by_cases hvt : (tp : Int) < sv
          · have hres : Hid (R = ([], 42)) := by unfold Hid; rw [← HST2.out, if_neg (by omega)]
            clear HST2
            go_wp2_with fail
            refine quiet_lit3 (C := fun W => Below w.heap.size w W) (by kernel_rfl) (by kernel_rfl) (show Below _ _ _ from hB.drew) ?_
            go_big_quiet_want
            go_big_quiet_op
            go_big_quiet_on
            go_big_quiet_want
            go_big_quiet_op
            go_big_quiet_on
            go_big_quiet_want
            refine ⟨.pointer (some ⟨g2, q0 + j * 2, none⟩), fun W hW => ?_, ?_⟩
            · go_simp
            go_big_quiet_on
            simp only [Act.put, List.setIfInBounds_toArray, List.set_cons_zero, List.set_cons_succ]
            go_big_quiet_want
            refine ⟨.pointer (some ⟨g2, q0 + j * 2 + 1, none⟩), fun W hW => ?_, ?_⟩
            · go_simp
            go_big_quiet_on
            simp only [Act.put, List.setIfInBounds_toArray, List.set_cons_zero, List.set_cons_succ]
            go_big_quiet_want
            refine ⟨.int .i64 sv, fun W hW => ?_, ?_⟩
            · obtain ⟨z0, z1⟩ := XS.out W hW
              go_simp
            go_big_quiet_on
            simp only [Act.put, List.setIfInBounds_toArray, List.set_cons_zero, List.set_cons_succ]
            go_big_quiet_want
            refine ⟨.bool false, fun W hW => ?_, ?_⟩
            · go_simp
              try omega
            go_big_quiet_on
            simp only [Act.put, List.setIfInBounds_toArray, List.set_cons_zero, List.set_cons_succ]
            go_big_quiet_want
            go_big_quiet_op
            go_big_quiet_on
            go_big_quiet_want
            go_big_quiet_op
            go_big_quiet_on
            go_big_quiet_want
            go_big_quiet_op
            go_big_quiet_on
            go_big_quiet_want
            refine ⟨.pointer (some ⟨g2, q0 + j * 2, none⟩), fun W hW => ?_, ?_⟩
            · go_simp
            go_big_quiet_on
            simp only [Act.put, List.setIfInBounds_toArray, List.set_cons_zero, List.set_cons_succ]
            go_big_quiet_want
            refine ⟨.pointer (some ⟨g2, q0 + j * 2 + 1, none⟩), fun W hW => ?_, ?_⟩
            · go_simp
            go_big_quiet_on
            simp only [Act.put, List.setIfInBounds_toArray, List.set_cons_zero, List.set_cons_succ]
            go_big_quiet_want
            refine ⟨.int .i64 sv, fun W hW => ?_, ?_⟩
            · obtain ⟨z0, z1⟩ := XS.out W hW
              go_simp
            go_big_quiet_on
            simp only [Act.put, List.setIfInBounds_toArray, List.set_cons_zero, List.set_cons_succ]
            go_big_quiet_want
            go_big_quiet_op
            go_big_quiet_on
            go_big_quiet_want
            refine ⟨.int .i64 (tp : Int), fun W hW => ?_, ?_⟩
            · go_simp
              refine (HTP.out W).mono ?_
              rintro e w7 ⟨rfl, rfl⟩
              exact ⟨rfl, by simpa using hW⟩
            go_big_quiet_on
            simp only [Act.put, List.setIfInBounds_toArray, List.set_cons_zero, List.set_cons_succ]
            go_big_quiet_want
            refine ⟨.bool true, fun W hW => ?_, ?_⟩
            · go_simp
              try omega
            go_big_quiet_on
            simp only [Act.put, List.setIfInBounds_toArray, List.set_cons_zero, List.set_cons_succ]
            go_big_quiet_want
            refine ⟨.bool true, fun W hW => ?_, ?_⟩
            · go_simp
            go_big_quiet_on
            simp only [Act.put, List.setIfInBounds_toArray, List.set_cons_zero, List.set_cons_succ]
            refine wpQuiet_nil ?_
            intro W hW
            go_wp2_with fail
            refine bodyPost_ret (results_tmp2 rfl _ _ _) rfl ?_
            exact ⟨by rw [hres.out]; rfl, hW⟩
          have hgo : Hid (wdF L (S.take (j + 1)) (S.drop (j + 1)) (putL acc p (digL b sv.toNat 0)) = R) := by unfold Hid; rw [← HST2.out, if_pos (by omega)]
          obtain ⟨vn, rfl⟩ : ∃ vn : Nat, sv = (vn : Int) := ⟨sv.toNat, by omega⟩
          rw [Int.toNat_natCast] at hgo
          have HDG : Hid (∀ W : World, Calls Tryz.prog 26 #[.int .i64 (vn : Int), .int .i64 (b : Int)] W fun e w' => e = .returned (.string ⟨(digL b vn 0).toArray⟩) ∧ Below W.heap.size W w') := fun W => by
            have := rdigits_any vn b hb32 (by omega) W
            rw [digL0] at this
            exact this
          have hDl := digL_len b vn 0 (Nat.zero_le _)
          obtain ⟨D, hD⟩ : ∃ D, digL b vn 0 = D := ⟨_, rfl⟩
          rw [hD] at hgo hDl
          simp only [hD] at HDG
          have HDL : Hid (D.length = b) := hDl
          have HAC : Hid ((acc.take p ++ D) ++ acc.drop (p + b) = putL acc p D) := by
            have := putL_eq (acc := acc) (D := D) (p := p) (by rw [hDl, hal.out]; omega)
            rw [hDl] at this
            exact this
          have m1 : (p : Int) ≤ (acc.length : Int) := by rw [hal.out]; omega
          have m0 : (0 : Int) ≤ (p : Int) := by omega
          have m2 : (p : Int) + (b : Int) ≤ (acc.length : Int) := by rw [hal.out]; omega
          have m3 : (0 : Int) ≤ (p : Int) + (b : Int) := by omega
          have e9 : IntKind.i64.wrap ((p : Int) + (b : Int)) = (p : Int) + (b : Int) := by rw [IntKind.wrap_i64]; omega
          have t9 : ((p : Int) + (b : Int)).toNat = p + b := by omega
          have HAL : Hid ((putL acc p D).length = n) := by unfold Hid; rw [putL_len]; exact hal.out
          clear HST2 hD hDl
          go_wp2_with fail
          refine quiet_lit3 (C := fun W => Below w.heap.size w W) (by kernel_rfl) (by kernel_rfl) (show Below _ _ _ from hB.drew) ?_
          go_big_quiet_want
          go_big_quiet_op
          go_big_quiet_on
          go_big_quiet_want
          go_big_quiet_op
          go_big_quiet_on
          go_big_quiet_want
          refine ⟨.pointer (some ⟨g2, q0 + j * 2, none⟩), fun W hW => ?_, ?_⟩
          · go_simp
          go_big_quiet_on
          simp only [Act.put, List.setIfInBounds_toArray, List.set_cons_zero, List.set_cons_succ]
          go_big_quiet_want
          refine ⟨.pointer (some ⟨g2, q0 + j * 2 + 1, none⟩), fun W hW => ?_, ?_⟩
          · go_simp
          go_big_quiet_on
          simp only [Act.put, List.setIfInBounds_toArray, List.set_cons_zero, List.set_cons_succ]
          go_big_quiet_want
          refine ⟨.int .i64 (vn : Int), fun W hW => ?_, ?_⟩
          · obtain ⟨z0, z1⟩ := XS.out W hW
            go_simp
          go_big_quiet_on
          simp only [Act.put, List.setIfInBounds_toArray, List.set_cons_zero, List.set_cons_succ]
          go_big_quiet_want
          refine ⟨.bool false, fun W hW => ?_, ?_⟩
          · go_simp
            try omega
          go_big_quiet_on
          simp only [Act.put, List.setIfInBounds_toArray, List.set_cons_zero, List.set_cons_succ]
          go_big_quiet_want
          go_big_quiet_op
          go_big_quiet_on
          go_big_quiet_want
          go_big_quiet_op
          go_big_quiet_on
          go_big_quiet_want
          go_big_quiet_op
          go_big_quiet_on
          go_big_quiet_want
          refine ⟨.pointer (some ⟨g2, q0 + j * 2, none⟩), fun W hW => ?_, ?_⟩
          · go_simp
          go_big_quiet_on
          simp only [Act.put, List.setIfInBounds_toArray, List.set_cons_zero, List.set_cons_succ]
          go_big_quiet_want
          refine ⟨.pointer (some ⟨g2, q0 + j * 2 + 1, none⟩), fun W hW => ?_, ?_⟩
          · go_simp
          go_big_quiet_on
          simp only [Act.put, List.setIfInBounds_toArray, List.set_cons_zero, List.set_cons_succ]
          go_big_quiet_want
          refine ⟨.int .i64 (vn : Int), fun W hW => ?_, ?_⟩
          · obtain ⟨z0, z1⟩ := XS.out W hW
            go_simp
          go_big_quiet_on
          simp only [Act.put, List.setIfInBounds_toArray, List.set_cons_zero, List.set_cons_succ]
          go_big_quiet_want
          go_big_quiet_op
          go_big_quiet_on
          go_big_quiet_want
          refine ⟨.int .i64 (tp : Int), fun W hW => ?_, ?_⟩
          · go_simp
            refine (HTP.out W).mono ?_
            rintro e w7 ⟨rfl, rfl⟩
            exact ⟨rfl, by simpa using hW⟩
          go_big_quiet_on
          simp only [Act.put, List.setIfInBounds_toArray, List.set_cons_zero, List.set_cons_succ]
          go_big_quiet_want
          refine ⟨.bool false, fun W hW => ?_, ?_⟩
          · go_simp
            try omega
          go_big_quiet_on
          simp only [Act.put, List.setIfInBounds_toArray, List.set_cons_zero, List.set_cons_succ]
          go_big_quiet_want
          refine ⟨.bool false, fun W hW => ?_, ?_⟩
          · go_simp
          go_big_quiet_on
          simp only [Act.put, List.setIfInBounds_toArray, List.set_cons_zero, List.set_cons_succ]
          refine wpQuiet_nil ?_
          intro W8 h8
          clear hB
          go_wp2_with fail
          refine quiet_lit3 (C := fun Wz => Below w.heap.size w Wz) (by kernel_rfl) (by kernel_rfl) (show Below _ _ _ from Below.drew h8) ?_
          go_big_quiet_want
          go_big_quiet_op
          go_big_quiet_on
          go_big_quiet_want
          go_big_quiet_op
          go_big_quiet_on
          go_big_quiet_want
          refine ⟨.string ⟨(acc.take p).toArray⟩, fun W hW => ?_, ?_⟩
          · go_simp
            try exact ext_take _ _
          go_big_quiet_on
          simp only [Act.put, List.setIfInBounds_toArray, List.set_cons_zero, List.set_cons_succ]
          go_big_quiet_want
          go_big_quiet_op
          go_big_quiet_on
          go_big_quiet_want
          go_big_quiet_op
          go_big_quiet_on
          go_big_quiet_want
          refine ⟨.pointer (some ⟨g2, q0 + j * 2, none⟩), fun W hW => ?_, ?_⟩
          · go_simp
          go_big_quiet_on
          simp only [Act.put, List.setIfInBounds_toArray, List.set_cons_zero, List.set_cons_succ]
          go_big_quiet_want
          refine ⟨.pointer (some ⟨g2, q0 + j * 2 + 1, none⟩), fun W hW => ?_, ?_⟩
          · go_simp
          go_big_quiet_on
          simp only [Act.put, List.setIfInBounds_toArray, List.set_cons_zero, List.set_cons_succ]
          go_big_quiet_want
          refine ⟨.int .i64 (vn : Int), fun W hW => ?_, ?_⟩
          · obtain ⟨z0, z1⟩ := XS.out W hW
            go_simp
          go_big_quiet_on
          simp only [Act.put, List.setIfInBounds_toArray, List.set_cons_zero, List.set_cons_succ]
          go_big_quiet_want
          go_big_quiet_op
          go_big_quiet_on
          go_big_quiet_want
          refine ⟨.string ⟨D.toArray⟩, fun W hW => ?_, ?_⟩
          · go_simp
            refine (HDG.out W).mono ?_
            rintro e w7 ⟨rfl, hb⟩
            exact ⟨rfl, bel0 hW hb⟩
          go_big_quiet_on
          simp only [Act.put, List.setIfInBounds_toArray, List.set_cons_zero, List.set_cons_succ]
          go_big_quiet_want
          refine ⟨.string ⟨(acc.take p ++ D).toArray⟩, fun W hW => ?_, ?_⟩
          · go_simp
            rw [if_neg (by simp only [HDL.out, hal.out]; omega)]
            exact ⟨rfl, by rw [cat_bytes]; first | done | rw [List.append_assoc]⟩
          go_big_quiet_on
          simp only [Act.put, List.setIfInBounds_toArray, List.set_cons_zero, List.set_cons_succ]
          go_big_quiet_want
          go_big_quiet_op
          go_big_quiet_on
          go_big_quiet_want
          go_big_quiet_op
          go_big_quiet_on
          go_big_quiet_want
          go_big_quiet_op
          go_big_quiet_on
          go_big_quiet_want
          refine ⟨.int .i64 ((p : Int) + (b : Int)), fun W hW => ?_, ?_⟩
          · go_simp
          go_big_quiet_on
          simp only [Act.put, List.setIfInBounds_toArray, List.set_cons_zero, List.set_cons_succ]
          go_big_quiet_want
          refine ⟨.string ⟨(acc.drop (p + b)).toArray⟩, fun W hW => ?_, ?_⟩
          · go_simp
            try exact ext_drop _ _
          go_big_quiet_on
          simp only [Act.put, List.setIfInBounds_toArray, List.set_cons_zero, List.set_cons_succ]
          go_big_quiet_want
          refine ⟨.string ⟨((acc.take p ++ D) ++ acc.drop (p + b)).toArray⟩, fun W hW => ?_, ?_⟩
          · go_simp
            rw [if_neg (by simp only [HDL.out, hal.out]; omega)]
            exact ⟨rfl, by rw [cat_bytes]; first | done | rw [List.append_assoc]⟩
          go_big_quiet_on
          simp only [Act.put, List.setIfInBounds_toArray, List.set_cons_zero, List.set_cons_succ]
          go_big_quiet_want
          go_big_quiet_op
          go_big_quiet_on
          refine wpQuiet_nil ?_
          intro W9 h9
          go_wp2_with fail
          go_roundw
          case rel => exact ⟨j + 1, putL acc p D, by go_num, by omega, by rw [← HAC.out], HAL, hgo, h9⟩
          case measure => simp [intOf]; omega
    · have j1 : ¬ (k : Int) < (S.length : Int) := by omega
      have hres : Hid (R = (acc, 0)) := by
        unfold Hid
        rw [← hrun.out, List.drop_eq_nil_of_le (by omega)]
        rfl
      clear hrun
      go_wp2_with fail
      refine bodyPost_ret (results_tmp2 rfl _ _ _) rfl ?_
      exact ⟨by rw [hres.out]; rfl, hB⟩
end Go.Proofs.YtealpmimffcpdaaGreatDoor
namespace Go.Proofs.YtealpmimffcpdaaGreatDoor
open Go.RowKit Go.Shelf
theorem info_int : (Tryz.prog.info? 3).map (fun i => (i.zero, i.size, i.bytes)) = some (some (.int .i64 0), 1, 8) := by kernel_rfl
def ivs (V : List Int) : List Value := V.map fun v => .int .i64 v
theorem IRV_own {W : World} {B n : Nat} {o : Option Addr} {c : Nat} {V : List Int} (h : W.ownsRow B 3 1 (.slice o n c) n (ivs V)) (hn : V.length = n) : IRV W o V := fun W' hW k f hf => by
  have hk := (List.getElem?_eq_some_iff.1 hf).1
  obtain ⟨g, rfl⟩ := own_at h (by omega)
  have h2 := owns_below h hW
  exact ⟨g, 0, rfl, by rw [Nat.zero_add]; exact (h2.cellAt k (by omega)).trans (by simp [ivs, hf])⟩
set_option maxRecDepth 100000 in
set_option maxHeartbeats 8000000 in
theorem fieldPacks_walk (L : List IFld) (n : Nat) (ad : Option Addr) (cap : Nat) (V : List Int) (m : Nat) (ad2 : Option Addr) (cap2 : Nat) (w : World) (hLn : L.length = n) (hcap : n ≤ cap) (hlb : n * 24 ≤ 140737488355328) (hstr : ∀ f ∈ L, f.1.length ≤ 281474976710656) (hcell : IRF w ad L) (hVn : V.length = m) (hvb : m * 8 ≤ 140737488355328) (hvc : IRV w ad2 V) (hv1 : SH w) (hdb : DB w) (hv4 : SG w) (hv5 : VW w) :
    Calls Tryz.prog 4 #[.slice ad n cap, .slice ad2 m cap2] w fun e w' => e = .returned (.bool true) ∧ Below w.heap.size w w' := by
  obtain ⟨i0, hi, hz0, hz1, hz2⟩ := info_parts info_int
  obtain ⟨r, hr⟩ : ∃ r, pkM L V = r := ⟨_, rfl⟩
  have HR : Hid (∀ W : World, Below w.heap.size w W → IRF W ad L) := fun W hW => hcell.later hW
  have HRV : Hid (∀ W : World, Below w.heap.size w W → IRV W ad2 V) := fun W hW => hvc.later hW
  have HRC : Hid (Calls Tryz.prog 12 #[.slice ad n cap, .slice ad2 m cap2] w fun e w' => e = .returned (.tuple #[.string ⟨r.1.toArray⟩, .int .i64 r.2]) ∧ Below w.heap.size w w') := by
    unfold Hid
    rw [← hLn, ← hVn, ← hr]
    exact refPack_any L ad cap V ad2 cap2 w (by omega) hstr hcell hvc
  have HCP : Hid (∀ W : World, Below w.heap.size w W → Calls Tryz.prog 8 #[.slice ad n cap] W fun e w' => ∃ v, e = .returned v ∧ w'.ownsRow W.heap.size 52 2 v n (fels L) ∧ Below W.heap.size W w') := fun W hW => by
    rw [← hLn]
    exact copyFields_any L ad cap W (by omega) (hcell.later hW)
  have HCK : Hid (∀ W : World, Below w.heap.size w W → Calls Tryz.prog 13 #[.slice ad n cap, .slice ad2 m cap2] W fun e w' => e = .returned (.tuple #[.string ⟨r.1.toArray⟩, .int .i64 r.2]) ∧ Below W.heap.size W w') := fun W hW => by
    rw [← hLn, ← hVn, ← hr]
    exact pack_any L ad cap V ad2 cap2 W (by omega) (by omega) hstr (hcell.later hW) (hvc.later hW) (hv1.below hW) (hv4.below hW) (hv5.below hW)
  have HUN : Hid (∀ (W : World) (o2 : Option Addr) (c2 : Nat), IRF W ad L → IRF W o2 L → Calls Tryz.prog 11 #[.slice ad n cap, .slice o2 n c2] W fun e w' => e = .returned (.bool false) ∧ Below W.heap.size W w') := fun W o2 c2 i1 i2 => by
    rw [← hLn]
    exact unlike_any L ad o2 cap c2 W (by omega) i1 i2
  have HAL : Hid (∀ (W : World) (o2 : Option Addr) (c2 : Nat), IRV W ad2 V → IRV W o2 V → Calls Tryz.prog 14 #[.slice ad2 m cap2, .slice o2 m c2] W fun e w' => e = .returned (.bool true) ∧ Below W.heap.size W w') := fun W o2 c2 i1 i2 => by
    rw [← hVn]
    exact alike_any V ad2 o2 cap2 c2 W (by omega) i1 i2
  have HKN : Hid (∀ W : World, Below w.heap.size w W → Calls Tryz.prog 15 #[] W fun e w' => e = .returned (.bool true) ∧ Below W.heap.size W w') := fun W hW => known_any W (hdb.below hW)
  have HLN : Hid (L.length = n) := hLn
  have HVN : Hid (V.length = m) := hVn
  obtain ⟨e0, a0⟩ := r
  have y1 : (a0 == a0) = true := beq_self_eq_true a0
  have y2 : (e0 == e0) = true := beq_self_eq_true e0
  simp only at HRC HCK
  clear hr hLn hVn hcell hvc hstr hv1 hv4 hv5 hdb
  go_enter Tryz.func4, Tryz.ntmps4
  go_wp2_with fail
  refine HRC.out.mono ?_
  rintro e W1 ⟨rfl, hb1⟩
  go_wp2_with fail
  refine (HCP.out _ hb1).mono ?_
  rintro e W2 ⟨v, rfl, hown, hb2⟩
  have hB2 := bel0 hb1 hb2
  obtain ⟨pv, cv, rfl⟩ := shapeP hown
  have HO : Hid (∀ W : World, Below W2.heap.size W2 W → IRF W pv L) := fun W hW => (IRF_own hown HLN.out).later hW
  clear hown HCP HRC hb1 hb2
  go_wp2_with fail
  go_loopw [8, 9] (fun v vk wr => ∃ k : Nat, vk = .int .i64 k ∧ k ≤ m ∧ wr.ownsRow W2.heap.size 3 1 v k (ivs (V.take k)) ∧ Below W2.heap.size W2 wr) (fun _ vk _ => m - (intOf vk).toNat)
  case atStart => exact ⟨0, rfl, Nat.zero_le _, World.ownsRow_nil _ _ _ _, Below.refl _ _⟩
  case round =>
    obtain ⟨k, rfl, hk, hown, hBr⟩ := hrel
    have hBw := bel0 hB2 hBr
    by_cases hlt : k < m
    · have j1 : (k : Int) < (m : Int) := by omega
      have j0 : (0 : Int) ≤ (k : Int) := by omega
      obtain ⟨f, hf⟩ : ∃ f, V[k]? = some f := ⟨_, List.getElem?_eq_getElem (by rw [HVN.out]; exact hlt)⟩
      obtain ⟨g, q0, rfl, p0⟩ := (HRV.out wr hBw) wr (Below.refl _ _) k f hf
      have HTK : Hid (ivs (V.take (k + 1)) = ivs (V.take k) ++ [.int .i64 f]) := by unfold Hid ivs; rw [List.take_add_one, hf]; simp
      have hBs := hBr.size
      obtain ⟨pv2, cv2, rfl⟩ := shapeP hown
      clear hf
      go_wp2_with (at_builtin; refine wpList_append_own _ rfl _ _ 32 rfl W2.heap.size 3 i0 _ 1 8 Tryz.underlying32 hi hz0 hz1 hz2 rfl (by decide) _ _ _ rfl (hown.alloc _) ⟨wr.heap.size, 0, none⟩ 1 1 [.int .i64 f] rfl rfl (World.news_of_block (cs := #[.int .i64 f]) (t := 3) (fr := (0, 0)) (alloc_get _ _)) (by simp [Value.oneCell']) (by unfold maxLen; omega) (by omega) (by simp; omega) ?_; intro v5 w5 oB hg5 _)
      go_roundw
      case rel => exact ⟨k + 1, by go_num, by omega, by rw [HTK.out]; exact oB, (hBr.alloc hBs _).grown hg5 (by simp; omega) (fun k e => (hown.lt k e).1)⟩
      case measure => simp [intOf]; omega
    · have j1 : ¬ (k : Int) < (m : Int) := by omega
      obtain rfl : k = m := by omega
      rw [List.take_of_length_le (by rw [HVN.out]; exact Nat.le_refl _)] at hown
      obtain ⟨pv2, cv2, rfl⟩ := shapeP hown
      have HO2 : Hid (∀ W : World, Below wr.heap.size wr W → IRV W pv2 V) := fun W hW => (IRV_own hown HVN.out).later hW
      clear hown
      go_wp2_with fail
      refine (HCK.out _ hBw).mono ?_
      rintro e W3 ⟨rfl, hb3⟩
      have hB3 := bel0 hBw hb3
      have hC3 := bel0 hBr hb3
      go_wp2_with fail
      refine (num_any a0 _).mono ?_
      rintro e W5 ⟨rfl, rfl⟩
      go_wp2_with fail
      refine (HUN.out _ pv cv (HR.out _ hB3) (HO.out _ hC3)).mono ?_
      rintro e W6 ⟨rfl, hb6⟩
      have hB6 := bel0 hB3 hb6
      have hD6 := bel0 hb3 hb6
      go_wp2_with fail
      refine (HAL.out _ pv2 cv2 (HRV.out _ hB6) (HO2.out _ hD6)).mono ?_
      rintro e W7 ⟨rfl, hb7⟩
      have hB7 := bel0 hB6 hb7
      go_wp2_with fail
      refine (HKN.out _ hB7).mono ?_
      rintro e W8 ⟨rfl, hb8⟩
      go_wp2_with fail
      go_ret
      exact ⟨rfl, bel0 hB7 hb8⟩
end Go.Proofs.YtealpmimffcpdaaGreatDoor
namespace Go.Proofs.YtealpmimffcpdaaGreatDoor
open Go.RowKit Go.Shelf
theorem info_set : (Tryz.prog.info? 43).map (fun i => (i.zero, i.size, i.bytes)) = some (some (.agg #[.string ⟨#[]⟩, .int .i64 0]), 2, 24) := by kernel_rfl
theorem IRF_ownS {W : World} {B n : Nat} {o : Option Addr} {c : Nat} {L : List IFld} (h : W.ownsRow B 43 2 (.slice o n c) n (fels L)) (hn : L.length = n) : IRF W o L := fun W' hW k f hf => by
  have hk := (List.getElem?_eq_some_iff.1 hf).1
  obtain ⟨g, rfl⟩ := own_at h (by omega)
  obtain ⟨a0, a1⟩ := fels_at L k f hf
  have h2 := owns_below h hW
  exact ⟨g, 0, rfl, by rw [Nat.zero_add]; exact (h2.cellAt _ (by omega)).trans a0, by rw [Nat.zero_add]; exact (h2.cellAt _ (by omega)).trans a1⟩
set_option maxRecDepth 100000 in
set_option maxHeartbeats 8000000 in
theorem fieldWords_walk (L : List IFld) (n : Nat) (ad : Option Addr) (cap : Nat) (V : List IFld) (m : Nat) (ad2 : Option Addr) (cap2 : Nat) (w : World) (hLn : L.length = n) (hcap : n ≤ cap) (hlb : n * 24 ≤ 140737488355328) (hstr : ∀ f ∈ L, f.1.length ≤ 281474976710656) (hcell : IRF w ad L) (hVn : V.length = m) (hcap2 : m ≤ cap2) (hvb : m * 24 ≤ 140737488355328) (_hvs : ∀ f ∈ V, f.1.length ≤ 281474976710656) (hvc : IRF w ad2 V) (hv1 : SH w) (hdb : DB w) (hv4 : SG w) (hv5 : VW w) :
    Calls Tryz.prog 5 #[.slice ad n cap, .slice ad2 m cap2] w fun e w' => e = .returned (.bool true) ∧ Below w.heap.size w w' := by
  obtain ⟨i0, hi, hz0, hz1, hz2⟩ := info_parts info_set
  obtain ⟨r, hr⟩ : ∃ r, wdM L V = r := ⟨_, rfl⟩
  have HR : Hid (∀ W : World, Below w.heap.size w W → IRF W ad L) := fun W hW => hcell.later hW
  have HRV : Hid (∀ W : World, Below w.heap.size w W → IRF W ad2 V) := fun W hW => hvc.later hW
  have HRC : Hid (Calls Tryz.prog 16 #[.slice ad n cap, .slice ad2 m cap2] w fun e w' => e = .returned (.tuple #[.string ⟨r.1.toArray⟩, .int .i64 r.2]) ∧ Below w.heap.size w w') := by
    unfold Hid
    rw [← hLn, ← hVn, ← hr]
    exact refWord_any L ad cap V ad2 cap2 w (by omega) hstr hcell hvc
  have HCP : Hid (∀ W : World, Below w.heap.size w W → Calls Tryz.prog 8 #[.slice ad n cap] W fun e w' => ∃ v, e = .returned v ∧ w'.ownsRow W.heap.size 52 2 v n (fels L) ∧ Below W.heap.size W w') := fun W hW => by
    rw [← hLn]
    exact copyFields_any L ad cap W (by omega) (hcell.later hW)
  have HCK : Hid (∀ W : World, Below w.heap.size w W → Calls Tryz.prog 17 #[.slice ad n cap, .slice ad2 m cap2] W fun e w' => e = .returned (.tuple #[.string ⟨r.1.toArray⟩, .int .i64 r.2]) ∧ Below W.heap.size W w') := fun W hW => by
    rw [← hLn, ← hVn, ← hr]
    exact word_any L ad cap V ad2 cap2 W (by omega) (by omega) (by omega) hstr (hcell.later hW) (hvc.later hW) (hv1.below hW) (hv4.below hW) (hv5.below hW)
  have HUN : Hid (∀ (W : World) (o2 : Option Addr) (c2 : Nat), IRF W ad L → IRF W o2 L → Calls Tryz.prog 11 #[.slice ad n cap, .slice o2 n c2] W fun e w' => e = .returned (.bool false) ∧ Below W.heap.size W w') := fun W o2 c2 i1 i2 => by
    rw [← hLn]
    exact unlike_any L ad o2 cap c2 W (by omega) i1 i2
  have HKN : Hid (∀ W : World, Below w.heap.size w W → Calls Tryz.prog 15 #[] W fun e w' => e = .returned (.bool true) ∧ Below W.heap.size W w') := fun W hW => known_any W (hdb.below hW)
  have HLN : Hid (L.length = n) := hLn
  have HVN : Hid (V.length = m) := hVn
  obtain ⟨e0, a0⟩ := r
  have y1 : (a0 == a0) = true := beq_self_eq_true a0
  have y2 : (e0 == e0) = true := beq_self_eq_true e0
  simp only at HRC HCK
  clear hr hLn hVn hcell hvc hstr hv1 hv4 hv5 hdb
  go_enter Tryz.func5, Tryz.ntmps5
  go_wp2_with fail
  refine HRC.out.mono ?_
  rintro e W1 ⟨rfl, hb1⟩
  go_wp2_with fail
  refine (HCP.out _ hb1).mono ?_
  rintro e W2 ⟨v, rfl, hown, hb2⟩
  have hB2 := bel0 hb1 hb2
  obtain ⟨pv, cv, rfl⟩ := shapeP hown
  have HO : Hid (∀ W : World, Below W2.heap.size W2 W → IRF W pv L) := fun W hW => (IRF_own hown HLN.out).later hW
  clear hown HCP HRC hb1 hb2
  go_wp2_with fail
  go_loopw [8, 9] (fun v vk wr => ∃ k : Nat, vk = .int .i64 k ∧ k ≤ m ∧ wr.ownsRow W2.heap.size 43 2 v k (fels (V.take k)) ∧ Below W2.heap.size W2 wr) (fun _ vk _ => m - (intOf vk).toNat)
  case atStart => exact ⟨0, rfl, Nat.zero_le _, World.ownsRow_nil _ _ _ _, Below.refl _ _⟩
  case round =>
    obtain ⟨k, rfl, hk, hown, hBr⟩ := hrel
    have hBw := bel0 hB2 hBr
    by_cases hlt : k < m
    · have j1 : (k : Int) < (m : Int) := by omega
      have j0 : (0 : Int) ≤ (k : Int) := by omega
      obtain ⟨f, hf⟩ : ∃ f, V[k]? = some f := ⟨_, List.getElem?_eq_getElem (by rw [HVN.out]; exact hlt)⟩
      obtain ⟨g, q0, rfl, p0, p1⟩ := (HRV.out wr hBw) wr (Below.refl _ _) k f hf
      have HTK : Hid (fels (V.take (k + 1)) = fels (V.take k) ++ fcel f) := by unfold Hid; rw [← fels_snoc, take_snoc hf]
      obtain ⟨x, b⟩ := f
      simp only at p0 p1
      have hBs := hBr.size
      obtain ⟨pv2, cv2, rfl⟩ := shapeP hown
      clear hf
      go_wp2_with (at_builtin; refine wpList_append_own _ rfl _ _ 40 rfl W2.heap.size 43 i0 _ 2 24 Tryz.underlying40 hi hz0 hz1 hz2 rfl (by decide) _ _ _ rfl (hown.alloc _) ⟨wr.heap.size, 0, none⟩ 1 1 [.string ⟨x.toArray⟩, .int .i64 b] rfl rfl (World.news_of_block (cs := #[.string ⟨x.toArray⟩, .int .i64 b]) (t := 43) (fr := (0, 0)) (alloc_get _ _)) (by simp [Value.oneCell']) (by unfold maxLen; omega) (by omega) (by simp; omega) ?_; intro v5 w5 oB hg5 _)
      go_roundw
      case rel => exact ⟨k + 1, by go_num, by omega, by rw [HTK.out]; exact oB, (hBr.alloc hBs _).grown hg5 (by simp; omega) (fun k e => (hown.lt k e).1)⟩
      case measure => simp [intOf]; omega
    · have j1 : ¬ (k : Int) < (m : Int) := by omega
      obtain rfl : k = m := by omega
      rw [List.take_of_length_le (by rw [HVN.out]; exact Nat.le_refl _)] at hown
      obtain ⟨pv2, cv2, rfl⟩ := shapeP hown
      have HO2 : Hid (∀ W : World, Below wr.heap.size wr W → IRF W pv2 V) := fun W hW => (IRF_ownS hown HVN.out).later hW
      clear hown
      go_wp2_with fail
      refine (HCK.out _ hBw).mono ?_
      rintro e W3 ⟨rfl, hb3⟩
      have hB3 : Hid (Below w.heap.size w W3) := bel0 hBw hb3
      have hC3 : Hid (Below W2.heap.size W2 W3) := bel0 hBr hb3
      have hD3 : Hid (IRF W3 pv2 V) := HO2.out W3 hb3
      clear hBw hBr hb3 HO2
      go_wp2_with fail
      go_loopw [12] (fun vk wq => ∃ q : Nat, vk = .int .i64 q ∧ q ≤ k ∧ Below W3.heap.size W3 wq) (fun vk _ => k - (intOf vk).toNat)
      case atStart => exact ⟨0, rfl, Nat.zero_le _, Below.refl _ _⟩
      case round =>
        obtain ⟨q, rfl, hq, hBq⟩ := hrel
        by_cases hlq : q < k
        · have j1 : (q : Int) < (k : Int) := by omega
          have j0 : (0 : Int) ≤ (q : Int) := by omega
          obtain ⟨f, hf⟩ : ∃ f, V[q]? = some f := ⟨_, List.getElem?_eq_getElem (by rw [HVN.out]; exact hlq)⟩
          have I1 : Hid (IRF W3 ad2 V) := HRV.out W3 hB3.out
          obtain ⟨G1, Q1, rfl, -⟩ := I1.out W3 (Below.refl _ _) q f hf
          obtain ⟨G2, Q2, rfl, -⟩ := hD3.out W3 (Below.refl _ _) q f hf
          have X1 : Hid (∀ W, Below W3.heap.size W3 W → W.cell? ⟨G1, Q1 + q * 2, none⟩ = some (.string ⟨f.1.toArray⟩) ∧ W.cell? ⟨G1, Q1 + q * 2 + 1, none⟩ = some (.int .i64 f.2)) := fun W hW => by
            obtain ⟨g2, q2, e, h⟩ := I1.out W hW q f hf
            injection e with e
            injection e with e1 e2
            subst e1 e2
            exact h
          have X2 : Hid (∀ W, Below W3.heap.size W3 W → W.cell? ⟨G2, Q2 + q * 2, none⟩ = some (.string ⟨f.1.toArray⟩) ∧ W.cell? ⟨G2, Q2 + q * 2 + 1, none⟩ = some (.int .i64 f.2)) := fun W hW => by
            obtain ⟨g2, q2, e, h⟩ := hD3.out W hW q f hf
            injection e with e
            injection e with e1 e2
            subst e1 e2
            exact h
          obtain ⟨x, b⟩ := f
          simp only at X1 X2
          clear hf I1
          go_wp2_with fail
          refine quiet_lit3 (C := fun W => Below W3.heap.size W3 W) (by kernel_rfl) (by kernel_rfl) (show Below _ _ _ from hBq.drew) ?_
          go_big_quiet_want
          go_big_quiet_op
          go_big_quiet_on
          go_big_quiet_want
          go_big_quiet_op
          go_big_quiet_on
          go_big_quiet_want
          refine ⟨.pointer (some ⟨G1, Q1 + q * 2, none⟩), fun W hW => ?_, ?_⟩
          · go_simp
          go_big_quiet_on
          simp only [Act.put, List.setIfInBounds_toArray, List.set_cons_zero, List.set_cons_succ]
          go_big_quiet_want
          refine ⟨.agg #[.string ⟨x.toArray⟩, .int .i64 b], fun W hW => ?_, ?_⟩
          · obtain ⟨z0, z1⟩ := X1.out W hW
            go_simp
          go_big_quiet_on
          simp only [Act.put, List.setIfInBounds_toArray, List.set_cons_zero, List.set_cons_succ]
          go_big_quiet_want
          go_big_quiet_op
          go_big_quiet_on
          go_big_quiet_want
          go_big_quiet_op
          go_big_quiet_on
          go_big_quiet_want
          refine ⟨.pointer (some ⟨G2, Q2 + q * 2, none⟩), fun W hW => ?_, ?_⟩
          · go_simp
          go_big_quiet_on
          simp only [Act.put, List.setIfInBounds_toArray, List.set_cons_zero, List.set_cons_succ]
          go_big_quiet_want
          refine ⟨.agg #[.string ⟨x.toArray⟩, .int .i64 b], fun W hW => ?_, ?_⟩
          · obtain ⟨z0, z1⟩ := X2.out W hW
            go_simp
          go_big_quiet_on
          simp only [Act.put, List.setIfInBounds_toArray, List.set_cons_zero, List.set_cons_succ]
          go_big_quiet_want
          refine ⟨.bool false, fun W hW => ?_, ?_⟩
          · go_simp
          go_big_quiet_on
          simp only [Act.put, List.setIfInBounds_toArray, List.set_cons_zero, List.set_cons_succ]
          refine wpQuiet_nil ?_
          intro W hW
          go_wp2_with fail
          go_roundw
          case rel => exact ⟨q + 1, by go_num, by omega, hW⟩
          case measure => simp [intOf]; omega
        · have j1 : ¬ (q : Int) < (k : Int) := by omega
          have hBx := bel0 hB3.out hBq
          have hCx := bel0 hC3.out hBq
          go_wp2_with fail
          refine (num_any a0 _).mono ?_
          rintro e W5 ⟨rfl, rfl⟩
          go_wp2_with fail
          refine (HUN.out _ pv cv (HR.out _ hBx) (HO.out _ hCx)).mono ?_
          rintro e W6 ⟨rfl, hb6⟩
          have hB6 := bel0 hBx hb6
          go_wp2_with fail
          refine (HKN.out _ hB6).mono ?_
          rintro e W8 ⟨rfl, hb8⟩
          go_wp2_with fail
          go_ret
          exact ⟨rfl, bel0 hB6 hb8⟩
end Go.Proofs.YtealpmimffcpdaaGreatDoor
namespace Go.Proofs.YtealpmimffcpdaaGreatDoor
open Go.RowKit
theorem cF3 : Tryz.prog.cellsOf 43 = 2 := by kernel_rfl
section
variable {H : Type} {enc : TypeId × Value → H} {w : World} {base : Nat} {sp : Nat → Bool} {held : Bool}
theorem set_open {fuel : Nat} {cs : List Value} {x : DataW H × List MemPlace} (h : DataW.trod enc Tryz.prog w base sp held fuel 43 cs = some x) : ∃ f : IFld, cs = fcel f ∧ x.1 = fldData f := by
  obtain ⟨y0, y1, m, rfl, hlen, g0, g1⟩ := ChangeShapes.trod_struct2 Tryz.underlying43 h
  obtain ⟨z0, a0, b0, _⟩ := DataW.trod_string Tryz.underlying9 g0
  obtain ⟨z1, a1, b1, _⟩ := DataW.trod_int Tryz.underlying3 g1
  refine ⟨(z0.data.toList, z1), ?_, by rw [b0, b1]; rfl⟩
  rw [cF1] at a0
  rw [cF0] at a1
  rw [cF3] at hlen
  clear g0 g1 h
  match cs, hlen with
  | [c0, c1], _ =>
    have e0 : c0 = .string z0 := by simpa using a0
    have e1 : c1 = .int .i64 z1 := by simpa using a1
    unfold fcel
    rw [e0, e1]
theorem open_sets {fuel : Nat} {cs : List Value} {x : DataW H × List MemPlace} (hf : DataW.trod enc Tryz.prog w 0 sp held fuel 40 cs = some x) :
    (cs = [.slice none 0 0] ∧ x = (.nil, [])) ∨ ∃ (a : Addr) (len cap : Nat) (L : List IFld) (spare : List (DataW H)), cs = [.slice (some a) len cap] ∧ L.length = len ∧ len ≤ cap ∧ x.1 = .slice (L.map fldData) spare ∧
      ∀ (k : Nat) (f : IFld), L[k]? = some f → ∃ g o0, a = ⟨g, o0, none⟩ ∧ w.cell? ⟨g, o0 + k * 2, none⟩ = some (.string ⟨f.1.toArray⟩) ∧ w.cell? ⟨g, o0 + k * 2 + 1, none⟩ = some (.int .i64 f.2) := by
  rcases Deep.open_slice Tryz.underlying40 hf with h | ⟨a, len, cap, m, n, D, Pl, hcs, _, hlc, hcm, hm, hx, hD⟩
  · exact .inl h
  · right
    rw [cF3] at hD
    have hlm : len ≤ m := by rw [hm]; split <;> omega
    have hex : ∀ i, ∃ t : IFld, i < m → w.cells? 0 (a.add (i * 2)) 2 = some (fcel t) ∧ D i = fldData t := fun i => by
      by_cases hi : i < m
      · obtain ⟨cs', h1, h2⟩ := hD i hi
        obtain ⟨t, e1, e2⟩ := set_open h2
        exact ⟨t, fun _ => ⟨by rw [h1, e1], e2⟩⟩
      · exact ⟨([], 0), fun h => absurd h hi⟩
    obtain ⟨F, hF⟩ := Classical.axiomOfChoice hex
    refine ⟨a, len, cap, (List.range len).map F, (List.range (m - len)).map fun j => D (len + j), hcs, by simp, hlc, ?_, fun k t ht => ?_⟩
    · rw [hx]
      simp only [List.map_map]
      congr 1
      refine List.map_congr_left (fun i hi => ?_)
      exact (hF i (by have := List.mem_range.1 hi; omega)).2
    · rw [List.getElem?_map] at ht
      by_cases hk : k < len
      · rw [List.getElem?_range hk] at ht
        obtain rfl := Option.some.inj ht
        have cell : ∀ i j v, i < m → (fcel (F i))[j]? = some v → j < 2 → w.cell? ((a.add (i * 2)).add j) = some v := fun i j v hi hv hj => by
          have h1 := (hF i hi).1
          unfold World.cells? at h1
          rw [if_pos (Nat.zero_le _)] at h1
          obtain ⟨b, hb, hc⟩ := Lib.mapM_at h1 j j (by simp [hj])
          rw [hv] at hb
          rw [Option.some.inj hb]
          exact hc
        have h00 := cell 0 0 _ (by omega) rfl (by decide)
        have hs : a.spot = none := by
          have e : (a.add (0 * 2)).add 0 = a := rfl
          rw [e] at h00
          exact cell_spotF h00
        obtain ⟨g, o0, s⟩ := a
        simp only at hs
        subst hs
        have ea : ∀ j, ((⟨g, o0, none⟩ : Addr).add (k * 2)).add j = ⟨g, o0 + k * 2 + j, none⟩ := fun j => by
          rw [add_spotF rfl (k * 2), add_spotF rfl j]
        have c0 := cell k 0 _ (by omega) rfl (by decide)
        have c1 := cell k 1 _ (by omega) rfl (by decide)
        rw [ea] at c0 c1
        exact ⟨g, o0, rfl, c0, c1⟩
      · rw [List.getElem?_eq_none (by simp; omega)] at ht
        cases ht
theorem w_set (f : IFld) : f.1.length ∈ DataW.weights Tryz.prog 43 (fldData f : DataW H) := by
  unfold fldData
  simp [DataW.weights, Tryz.underlying43, DataW.weightsEach]
theorem w_sets {f : IFld} : ∀ {L : List IFld}, f ∈ L → f.1.length ∈ DataW.weightsAll Tryz.prog 43 (L.map (fldData : IFld → DataW H))
  | u :: L, h => by
    rw [List.map_cons, DataW.weightsAll]
    rcases List.mem_cons.1 h with rfl | h
    · exact List.mem_append_left _ (w_set f)
    · exact List.mem_append_right _ (w_sets h)
theorem sized_sets {ts : List TypeId} {ds : List (DataW H)} (h : (DataW.weightsEach Tryz.prog ts ds).all (· ≤ reachBytes) = true) {L : List IFld} {spare : List (DataW H)} {j : Nat} (ht : ts[j]? = some 40) (hd : ds[j]? = some (.slice (L.map fldData) spare)) : L.length * 24 ≤ reachBytes ∧ ∀ f ∈ L, f.1.length ≤ reachBytes := by
  have hb : Tryz.prog.bytesOf 43 = 24 := by kernel_rfl
  have h1 := sized_slice h ht hd Tryz.underlying40
  rw [hb, List.length_map] at h1
  refine ⟨by omega, fun f hm => ?_⟩
  have := List.all_eq_true.1 h _ (DataW.weights_mem_each ht hd f.1.length (by
    simp only [DataW.weights, Tryz.underlying40]
    exact List.mem_cons_of_mem _ (List.mem_append_left _ (w_sets hm))))
  simpa using this
end
end Go.Proofs.YtealpmimffcpdaaGreatDoor

import Derived.Test.YtnboehlbcjfndaaGreatDoorYBI
import Derived.Deep.RegionHeld3
import Derived.Deep.AppendLies
namespace Go.Proofs.YtnboehlbcjfndaaGreatDoor.Tn

theorem andnot_bit (x y : Nat) (hy : y < 18446744073709551616) (i : Nat) : (x &&& (18446744073709551615 - y)).testBit i = (x.testBit i && (decide (i < 64) && !y.testBit i)) := by
  have h : 18446744073709551615 - y = 2 ^ 64 - (y + 1) := by omega
  rw [Nat.testBit_and, h, Nat.testBit_two_pow_sub_succ (by exact hy)]

theorem agB_all (a b : List UInt8) (hf : fitB a b = true) (h : ∀ k, k < a.length → cfl a b k = false) : agB a b = true := by
  unfold agB
  rw [hf, Bool.true_and, allTo_iff]
  intro k hk; rw [h k hk]; rfl
end Go.Proofs.YtnboehlbcjfndaaGreatDoor.Tn
namespace Go.Proofs.YtnboehlbcjfndaaGreatDoor.Tn

def qual (a b : List UInt8) (p : Nat) : Bool := fx b p && !fx a p
def opn (a b : List UInt8) (w i : Nat) : Nat := wd (fun j => decide (i ≤ j) && qual a b (64 * w + j)) 64

theorem opn_lt (a b : List UInt8) (w i : Nat) : opn a b w i < 18446744073709551616 := wd_lt _ 64
theorem opn_bit (a b : List UInt8) (w i j : Nat) : (opn a b w i).testBit j = (decide (j < 64) && (decide (i ≤ j) && qual a b (64 * w + j))) := wd_bit _ _ _

theorem opn_start (a b : List UInt8) (w : Nat) : bits .andNot .u64 (FW b w : Int) (FW a w : Int) = (opn a b w 0 : Nat) := by
  rw [u64_andNot_nat _ _ (FW_lt _ _) (FW_lt _ _)]
  congr 1
  apply Nat.eq_of_testBit_eq
  intro i
  rw [andnot_bit _ _ (FW_lt _ _), FW_bit, FW_bit, opn_bit]
  unfold qual
  by_cases hi : i < 64 <;> simp [hi]

theorem least_bit (O : Nat) (h : O ≠ 0) (hO : O < 18446744073709551616) : ∃ r m, r < 64 ∧ O = 2 ^ (r + 1) * m + 2 ^ r := by
  have key : ∀ n O, O ≠ 0 → O < 2 ^ n → ∃ r m, r < n ∧ O = 2 ^ (r + 1) * m + 2 ^ r := by
    intro n
    induction n with
    | zero => intro O h1 h2; simp at h2; exact absurd h2 h1
    | succ n ih =>
      intro O h1 h2
      by_cases e : O % 2 = 1
      · exact ⟨0, O / 2, by omega, by simp; omega⟩
      · have hp : 2 ^ (n + 1) = 2 * 2 ^ n := by rw [Nat.pow_succ]; omega
        obtain ⟨r, m, hr, hm⟩ := ih (O / 2) (by omega) (by omega)
        refine ⟨r + 1, m, by omega, ?_⟩
        have e1 : O = 2 * (O / 2) := by omega
        rw [e1, hm, Nat.mul_add, ← Nat.mul_assoc, Nat.pow_succ 2 (r + 1), Nat.pow_succ 2 r]
        congr 1
        · rw [Nat.mul_comm 2 (2 ^ r * 2)]
        · omega
  exact key 64 O h hO

theorem odd_bit (r m j : Nat) : (2 ^ (r + 1) * m + 2 ^ r).testBit j = (if j < r then false else if j = r then true else m.testBit (j - (r + 1))) := by
  have hp : 2 ^ r < 2 ^ (r + 1) := Nat.pow_lt_pow_right (by omega) (by omega)
  rw [Nat.testBit_two_pow_mul_add _ hp]
  by_cases h1 : j < r
  · have : j < r + 1 := by omega
    simp only [this, if_true, h1]
    rw [Nat.testBit_two_pow]
    simp; omega
  · by_cases h2 : j = r
    · subst h2
      simp
    · have : ¬ j < r + 1 := by omega
      simp only [this, if_false, h1, h2]
theorem odd_pred_bit (r m j : Nat) : (2 ^ (r + 1) * m + 2 ^ r - 1).testBit j = (if j < r then true else if j = r then false else m.testBit (j - (r + 1))) := by
  have hp : 2 ^ r < 2 ^ (r + 1) := Nat.pow_lt_pow_right (by omega) (by omega)
  have h0 : 0 < 2 ^ r := Nat.two_pow_pos r
  have e : 2 ^ (r + 1) * m + 2 ^ r - 1 = 2 ^ (r + 1) * m + (2 ^ r - 1) := by omega
  rw [e, Nat.testBit_two_pow_mul_add _ (by omega), Nat.testBit_two_pow_sub_one]
  by_cases h1 : j < r
  · have : j < r + 1 := by omega
    simp [this, h1]
  · by_cases h2 : j = r
    · subst h2; simp
    · have : ¬ j < r + 1 := by omega
      simp [this, h1, h2]

theorem opn_step (a b : List UInt8) (w i : Nat) (h : opn a b w i ≠ 0) : ∃ r, i ≤ r ∧ r < 64 ∧ qual a b (64 * w + r) = true ∧ (∀ j, i ≤ j → j < r → qual a b (64 * w + j) = false) ∧
    opn a b w i &&& (18446744073709551616 - opn a b w i) = 2 ^ r ∧ opn a b w i &&& (opn a b w i - 1) = opn a b w (r + 1) := by
  obtain ⟨r, m, hr, hm⟩ := least_bit _ h (opn_lt a b w i)
  have hb : ∀ j, (opn a b w i).testBit j = (if j < r then false else if j = r then true else m.testBit (j - (r + 1))) := fun j => by rw [hm]; exact odd_bit r m j
  have hpb : ∀ j, (opn a b w i - 1).testBit j = (if j < r then true else if j = r then false else m.testBit (j - (r + 1))) := fun j => by rw [hm]; exact odd_pred_bit r m j
  have hr1 := hb r
  rw [opn_bit] at hr1
  simp [hr] at hr1
  refine ⟨r, hr1.1, hr, hr1.2, ?_, ?_, ?_⟩
  · intro j h1 h2
    have := hb j
    rw [opn_bit] at this
    have h3 : j < 64 := by omega
    simp [h1, h2, h3] at this
    exact this
  · apply Nat.eq_of_testBit_eq
    intro j
    have e : 18446744073709551616 - opn a b w i = 2 ^ 64 - ((opn a b w i - 1) + 1) := by have := opn_lt a b w i; omega
    rw [Nat.testBit_and, e, Nat.testBit_two_pow_sub_succ (by have := opn_lt a b w i; omega), hpb, hb, Nat.testBit_two_pow]
    by_cases h1 : j < r
    · have : ¬ r = j := by omega
      simp [h1, this]
    · by_cases h2 : j = r
      · subst h2; simp [hr]
      · have : ¬ r = j := by omega
        simp [h1, h2, this]
        exact fun h _ => h
  · apply Nat.eq_of_testBit_eq
    intro j
    rw [Nat.testBit_and, hpb, opn_bit, opn_bit]
    by_cases h1 : j < r
    · have h2 : ¬ r + 1 ≤ j := by omega
      have := hb j
      rw [opn_bit] at this
      simp [h1] at this
      simp only [h1, if_true, h2, decide_false, Bool.false_and, Bool.and_false, Bool.and_true]
      simpa using this
    · by_cases h2 : j = r
      · subst h2; simp
        intro _ hx; omega
      · have h3 : r + 1 ≤ j := by omega
        have h4 : i ≤ j := by omega
        have := hb j
        rw [opn_bit] at this
        simp only [h1, h2, if_false, h4, h3, decide_true, Bool.true_and] at this ⊢
        rw [← this]
        simp

def rsT (a b : List UInt8) (p : Nat) : List UInt8 := meetT (a.take p) (b.take p) ++ a.drop p
theorem rs_get (a b : List UInt8) (hl : a.length = b.length) (p k : Nat) (hk : k < a.length) : (rsT a b p)[k]? = some (if k < p then (if a[k] == 120 then b[k]'(by omega) else a[k]) else a[k]) := by
  unfold rsT
  have hm : (meetT (a.take p) (b.take p)).length = min p a.length := by rw [meetT_len _ _ (by simp; omega)]; simp
  by_cases h : k < p
  · rw [List.getElem?_append_left (by omega), meetT_get _ _ (by simp; omega) k (by simp; omega)]
    simp [h]
  · rw [List.getElem?_append_right (by omega), hm, List.getElem?_drop]
    have : p + (k - min p a.length) = k := by omega
    rw [this, List.getElem?_eq_getElem hk]
    simp [h]
theorem rs_len (a b : List UInt8) (hl : a.length = b.length) (p : Nat) : (rsT a b p).length = a.length := by
  unfold rsT
  rw [List.length_append, meetT_len _ _ (by simp; omega)]
  simp; omega
theorem rs_zero (a b : List UInt8) : rsT a b 0 = a := by simp [rsT, meetT]
theorem qual_bytes (a b : List UInt8) (hl : a.length = b.length) (p : Nat) (hp : p < a.length) : qual a b p = (!(b[p]'(by omega) == 120) && (a[p] == 120)) := by
  have hb : p < b.length := by omega
  simp only [qual, fx, List.getElem?_eq_getElem hp, List.getElem?_eq_getElem hb]
  cases e1 : (b[p] == 120) <;> cases e2 : (a[p] == 120) <;> simp_all
theorem qual_lt (a b : List UInt8) (hl : a.length = b.length) (p : Nat) (h : qual a b p = true) : p < a.length := by
  rcases Nat.lt_or_ge p a.length with h1 | h1
  · exact h1
  · simp only [qual, fx] at h
    rw [List.getElem?_eq_none (show b.length ≤ p by omega)] at h
    simp at h
theorem rs_skip (a b : List UInt8) (hl : a.length = b.length) (p q : Nat) (hpq : p ≤ q) (h : ∀ k, p ≤ k → k < q → qual a b k = false) : rsT a b q = rsT a b p := by
  apply List.ext_getElem?
  intro k
  by_cases hk : k < a.length
  · rw [rs_get a b hl q k hk, rs_get a b hl p k hk]
    by_cases h1 : k < p
    · have : k < q := by omega
      simp [h1, this]
    · by_cases h2 : k < q
      · have := h k (by omega) h2
        rw [qual_bytes a b hl k hk] at this
        simp only [h1, h2, if_true, if_false]
        congr 1
        cases e1 : (a[k] == 120)
        · rfl
        · rw [e1] at this
          have e3 : a[k] = 120 := by simpa using e1
          simp at this
          rw [if_pos rfl, this, e3]
      · simp [h1, h2]
  · rw [List.getElem?_eq_none (by rw [rs_len a b hl]; omega), List.getElem?_eq_none (by rw [rs_len a b hl]; omega)]
theorem rs_at (a b : List UInt8) (hl : a.length = b.length) (p : Nat) (h : qual a b p = true) (hp : p < (rsT a b p).length) : (rsT a b p)[p] = 120 := by
  have hpa : p < a.length := qual_lt a b hl p h
  have := rs_get a b hl p p hpa
  rw [List.getElem?_eq_getElem hp] at this
  rw [qual_bytes a b hl p hpa] at h
  simp at this h
  rw [this]; exact h.2
theorem rs_succ (a b : List UInt8) (hl : a.length = b.length) (p : Nat) (h : qual a b p = true) : (rsT a b p).set p (b[p]'(by have := qual_lt a b hl p h; omega)) = rsT a b (p + 1) := by
  have hpa : p < a.length := qual_lt a b hl p h
  apply List.ext_getElem?
  intro k
  by_cases hk : k < a.length
  · rw [rs_get a b hl (p + 1) k hk]
    by_cases e : k = p
    · subst e
      rw [List.getElem?_set_self (by rw [rs_len a b hl]; exact hk)]
      rw [qual_bytes a b hl k hk] at h
      simp at h
      simp [h.2]
    · rw [List.getElem?_set_ne (by omega), rs_get a b hl p k hk]
      by_cases h1 : k < p
      · have : k < p + 1 := by omega
        simp [h1, this]
      · have : ¬ k < p + 1 := by omega
        simp [h1, this]
  · rw [List.getElem?_eq_none (by simp; rw [rs_len a b hl]; omega), List.getElem?_eq_none (by rw [rs_len a b hl]; omega)]
theorem rs_good (a b : List UInt8) (hl : a.length = b.length) (ga : good a = true) (gb : good b = true) (p : Nat) : good (rsT a b p) = true := by
  simp only [good, Bool.and_eq_true, decide_eq_true_eq, List.all_eq_true]
  refine ⟨by rw [rs_len a b hl]; exact good_len ga, ?_⟩
  intro x hx
  obtain ⟨k, hk, rfl⟩ := List.getElem_of_mem hx
  have hka : k < a.length := by rw [rs_len a b hl] at hk; exact hk
  have := rs_get a b hl p k hka
  rw [List.getElem?_eq_getElem hk] at this
  rw [Option.some.inj this]
  have ta := good_tri ga k hka
  have tb := good_tri gb k (by omega)
  repeat' split
  all_goals assumption

def oth (d : UInt8) : UInt8 := if d == 48 then 49 else 48
def pcT (a b : List UInt8) (p : Nat) : List UInt8 := (rsT a b p).set p (oth (b.getD p 0))
def pcs (a b : List UInt8) : Nat → List (List UInt8)
  | 0 => []
  | p + 1 => pcs a b p ++ (if qual a b p then [pcT a b p] else [])
theorem pcs_skip (a b : List UInt8) (p q : Nat) (hpq : p ≤ q) (h : ∀ k, p ≤ k → k < q → qual a b k = false) : pcs a b q = pcs a b p := by
  induction q with
  | zero => have : p = 0 := by omega
            subst this; rfl
  | succ q ih =>
    by_cases e : p = q + 1
    · subst e; rfl
    · conv => lhs; unfold pcs
      rw [h q (by omega) (by omega), ih (by omega) (fun k h1 h2 => h k h1 (by omega))]
      simp
theorem pcs_succ (a b : List UInt8) (p : Nat) (h : qual a b p = true) : pcs a b (p + 1) = pcs a b p ++ [pcT a b p] := by
  conv => lhs; unfold pcs
  rw [h]; rfl
theorem pcs_len (a b : List UInt8) (p : Nat) : (pcs a b p).length ≤ p := by
  induction p with
  | zero => simp [pcs]
  | succ p ih => unfold pcs; split <;> simp <;> omega

theorem dg_own (b : List UInt8) (w r : Nat) (hr : r < 64) (hp : 64 * w + r < b.length) (gb : good b = true) (hx : b[64 * w + r] ≠ 120) : dg (OW b w) r = b[64 * w + r] := by
  unfold dg
  rw [OW_bit]
  have tb := good_tri gb _ hp
  simp only [hr, decide_true, Bool.true_and, on, List.getElem?_eq_getElem hp]
  generalize b[64 * w + r] = y at *
  simp [tri] at tb
  rcases tb with (rfl | rfl) | rfl
  · decide
  · decide
  · exact absurd rfl hx
theorem dg_oth (b : List UInt8) (w r : Nat) (hr : r < 64) (hp : 64 * w + r < b.length) (gb : good b = true) (hx : b[64 * w + r] ≠ 120) : dg (18446744073709551615 - OW b w) r = oth (b[64 * w + r]) := by
  unfold dg
  have e : 18446744073709551615 - OW b w = 2 ^ 64 - (OW b w + 1) := by omega
  rw [e, Nat.testBit_two_pow_sub_succ (OW_lt b w), OW_bit]
  have tb := good_tri gb _ hp
  simp only [hr, decide_true, Bool.true_and, on, List.getElem?_eq_getElem hp]
  generalize b[64 * w + r] = y at *
  simp [tri] at tb
  rcases tb with (rfl | rfl) | rfl
  · decide
  · decide
  · exact absurd rfl hx
end Go.Proofs.YtnboehlbcjfndaaGreatDoor.Tn
namespace Go.Proofs.YtnboehlbcjfndaaGreatDoor.Tn
open Go.RowKit

theorem info_cube : (Tryz.prog.info? 106).map (fun i => (i.zero, i.size, i.bytes)) = some (some (.agg #[.int .i64 0, .int .u64 0, .int .u64 0, .int .u64 0, .int .u64 0, .int .u64 0, .int .u64 0, .int .u64 0, .int .u64 0]), 9, 72) := by kernel_rfl

def cel (t : List UInt8) : List Value := [.int .i64 (t.length : Int), .int .u64 (FW t 0 : Int), .int .u64 (FW t 1 : Int), .int .u64 (FW t 2 : Int), .int .u64 (FW t 3 : Int), .int .u64 (OW t 0 : Int), .int .u64 (OW t 1 : Int), .int .u64 (OW t 2 : Int), .int .u64 (OW t 3 : Int)]
def cels (l : List (List UInt8)) : List Value := l.flatMap cel
theorem cels_snoc (l : List (List UInt8)) (t : List UInt8) : cels (l ++ [t]) = cels l ++ cel t := by simp [cels]

def splT (a b : List UInt8) : List (List UInt8) := if agB a b = true then pcs a b a.length else [a]

theorem opn_zero (a b : List UInt8) (w i : Nat) (h : opn a b w i = 0) : ∀ j, i ≤ j → j < 64 → qual a b (64 * w + j) = false := by
  intro j h1 h2
  have := opn_bit a b w i j
  rw [h, Nat.zero_testBit] at this
  simp [h1, h2] at this
  exact this

set_option maxHeartbeats 400000 in
theorem split_no (a b : List UInt8) (w : World) (ha : good a = true) (hq0 : agB a b = false) :
    Calls Tryz.prog 86 #[cubeV a, cubeV b] w fun e w' => ∃ v, e = .returned v ∧ w'.ownsRow w.heap.size 106 9 v 1 (cels [a]) ∧ Below w.heap.size w w' := by
  have hq : Hid (agB a b = false) := hq0
  clear hq0
  unfold cubeV cv
  go_enter Tryz.func86, Tryz.ntmps86
  go_wp2_with (go_at_call 115; refine (agrees_D a b false _ ha hq.out).mono ?_; rintro e w1 ⟨rfl, hb1⟩; obtain ⟨hc1, hf1⟩ := bcell hb1)
  go_ret
  have hB := bel1 (bel1 hb1)
  refine ⟨_, rfl, ?_, belA hB _⟩
  refine ⟨by simp [cels, cel], .inr ⟨w1.heap.size, 1, _, rfl, hB.size, alloc_get _ _, by omega, by unfold maxLen; omega, by simp, by simp [cels, cel]⟩⟩

theorem cellkeepS {W w' : World} {b : Nat} {cs : Array Value} (hb : Below W.heap.size W w') (hlt : b < W.heap.size) (h : ∀ j, W.cell? ⟨b, j, none⟩ = cs[j]?) : ∀ j, w'.cell? ⟨b, j, none⟩ = cs[j]? :=
  fun j => (hb.cell (p := ⟨b, j, none⟩) hlt).trans (h j)
theorem cell1keep {W w' : World} {b o : Nat} {v : Value} (hb : Below W.heap.size W w') (hlt : b < W.heap.size) (h : W.cell? ⟨b, o, none⟩ = some v) : w'.cell? ⟨b, o, none⟩ = some v := (hb.cell (p := ⟨b, o, none⟩) hlt).trans h
theorem alloc1keep {W : World} {b o : Nat} {v : Value} (hlt : b < W.heap.size) (h : W.cell? ⟨b, o, none⟩ = some v) (O : Obj) : (W.alloc O).cell? ⟨b, o, none⟩ = some v := (World.cell?_alloc_lt W O ⟨b, o, none⟩ hlt).trans h
theorem cell1grow {W w' : World} {row : Option Nat} {b o : Nat} {v : Value} (hg : W.grownBy w' row) (hlt : b < W.heap.size) (hne : some b ≠ row) (h : W.cell? ⟨b, o, none⟩ = some v) : w'.cell? ⟨b, o, none⟩ = some v :=
  (World.cell?_of_block (w := W) (a := ⟨b, o, none⟩) (hg.block b hlt hne)).trans h
theorem allockeepS {W : World} {b : Nat} {cs : Array Value} (hlt : b < W.heap.size) (h : ∀ j, W.cell? ⟨b, j, none⟩ = cs[j]?) (o : Obj) : ∀ j, (W.alloc o).cell? ⟨b, j, none⟩ = cs[j]? :=
  fun j => (World.cell?_alloc_lt W o ⟨b, j, none⟩ hlt).trans (h j)
theorem cellgrowS {W w' : World} {row : Option Nat} {b : Nat} {cs : Array Value} (hg : W.grownBy w' row) (hlt : b < W.heap.size) (hne : some b ≠ row) (h : ∀ j, W.cell? ⟨b, j, none⟩ = cs[j]?) : ∀ j, w'.cell? ⟨b, j, none⟩ = cs[j]? :=
  fun j => (World.cell?_of_block (w := W) (a := ⟨b, j, none⟩) (hg.block b hlt hne)).trans (h j)
theorem ltA {W : World} {b : Nat} (h : b < W.heap.size) (o : Obj) : b < (W.alloc o).heap.size := by simp; omega
theorem growblk {W w' : World} {row : Option Nat} {b : Nat} {o : Obj} (hg : W.grownBy w' row) (h : W.heap[b]? = some o) (hne : some b ≠ row) : w'.heap[b]? = some o := (hg.block b (lt_of_get h) hne).trans h
theorem bel_app2 {w wr w1 : World} {o : Obj} {base : Nat} {e : TypeId} {size : Nat} {v : Value} {n : Nat} {xs : List Value} (hB : Below w.heap.size w wr) (hown : wr.ownsRow base e size v n xs) (hg : (wr.alloc o).grownBy w1 v.ownBlock) (hb : w.heap.size ≤ base) : Below w.heap.size w w1 :=
  (belA hB o).grown hg (belA hB o).size (fun k h => Nat.le_trans hb (hown.lt k h).1)
theorem put9_ne {W : World} {b c : Nat} {o : Obj} (v0 v1 v2 v3 v4 v5 v6 v7 v8 : Value) (hne : c ≠ b) (h : W.heap[c]? = some o) : (put9 W b v0 v1 v2 v3 v4 v5 v6 v7 v8).heap[c]? = some o := by
  unfold put9
  rw [Below.heap_setCell _ _ _ _ (by exact hne), Below.heap_setCell _ _ _ _ (by exact hne), Below.heap_setCell _ _ _ _ (by exact hne), Below.heap_setCell _ _ _ _ (by exact hne), Below.heap_setCell _ _ _ _ (by exact hne), Below.heap_setCell _ _ _ _ (by exact hne), Below.heap_setCell _ _ _ _ (by exact hne), Below.heap_setCell _ _ _ _ (by exact hne), Below.heap_setCell _ _ _ _ (by exact hne)]
  exact h
theorem put9_size (W : World) (b : Nat) (v0 v1 v2 v3 v4 v5 v6 v7 v8 : Value) : (put9 W b v0 v1 v2 v3 v4 v5 v6 v7 v8).heap.size = W.heap.size := by simp [put9, World.setCell]
theorem own_put9 {W : World} {base b : Nat} {e : TypeId} {size : Nat} {v : Value} {n : Nat} {xs : List Value} (v0 v1 v2 v3 v4 v5 v6 v7 v8 : Value) (h : W.ownsRow base e size v n xs) (hb : b < base) : (put9 W b v0 v1 v2 v3 v4 v5 v6 v7 v8).ownsRow base e size v n xs := by
  have s := fun (W : World) (j : Nat) (u : Value) (h : W.ownsRow base e size v n xs) => ownsRow_setCell_below h (a := ⟨b, j, none⟩) hb u
  exact s _ _ _ (s _ _ _ (s _ _ _ (s _ _ _ (s _ _ _ (s _ _ _ (s _ _ _ (s _ _ _ (s _ _ _ h))))))))
theorem cellF {W : World} {x k : Nat} {t : List UInt8} (h : ∀ j, W.cell? ⟨x, j, none⟩ = (#[.int .i64 (t.length : Int), .int .u64 (FW t 0 : Int), .int .u64 (FW t 1 : Int), .int .u64 (FW t 2 : Int), .int .u64 (FW t 3 : Int), .int .u64 (OW t 0 : Int), .int .u64 (OW t 1 : Int), .int .u64 (OW t 2 : Int), .int .u64 (OW t 3 : Int)] : Array Value)[j]?) (hk : k < 4) : W.cell? ⟨x, 1 + k, none⟩ = some (.int .u64 (FW t k : Int)) := by
  rw [h]
  rcases (show k = 0 ∨ k = 1 ∨ k = 2 ∨ k = 3 by omega) with rfl | rfl | rfl | rfl <;> rfl
theorem cellO {W : World} {x k : Nat} {t : List UInt8} (h : ∀ j, W.cell? ⟨x, j, none⟩ = (#[.int .i64 (t.length : Int), .int .u64 (FW t 0 : Int), .int .u64 (FW t 1 : Int), .int .u64 (FW t 2 : Int), .int .u64 (FW t 3 : Int), .int .u64 (OW t 0 : Int), .int .u64 (OW t 1 : Int), .int .u64 (OW t 2 : Int), .int .u64 (OW t 3 : Int)] : Array Value)[j]?) (hk : k < 4) : W.cell? ⟨x, 5 + k, none⟩ = some (.int .u64 (OW t k : Int)) := by
  rw [h]
  rcases (show k = 0 ∨ k = 1 ∨ k = 2 ∨ k = 3 by omega) with rfl | rfl | rfl | rfl <;> rfl
theorem own_base {W : World} {B B' : Nat} {e : TypeId} {size : Nat} {v : Value} {n : Nat} {xs : List Value} (h : W.ownsRow B e size v n xs) (hb : B' ≤ B) : W.ownsRow B' e size v n xs := by
  obtain ⟨h1, h2⟩ := h
  refine ⟨h1, ?_⟩
  rcases h2 with h2 | ⟨g, cap, cur, hv, hg, r⟩
  · exact .inl h2
  · exact .inr ⟨g, cap, cur, hv, Nat.le_trans hb hg, r⟩
theorem drew_heap (V : World) : V.drew.heap = V.heap := rfl
theorem put9_szle {W : World} {b n : Nat} (v0 v1 v2 v3 v4 v5 v6 v7 v8 : Value) (h : n ≤ W.heap.size) : n ≤ (put9 W b v0 v1 v2 v3 v4 v5 v6 v7 v8).heap.size := by
  rw [put9_size]; exact h
theorem undrewS {B : Nat} {a w : World} (h : Below B a.drew w) : Below B a w := ⟨h.os, h.tape, h.output, h.size, h.block⟩
theorem low_bits (O r : Nat) (h0 : O ≠ 0) (hO : O < 18446744073709551616) (h : O &&& (18446744073709551616 - O) = 2 ^ r) : bits .and .u64 (O : Int) (IntKind.u64.wrap (-(O : Int))) = ((2 ^ r : Nat) : Int) := by
  have e : IntKind.u64.wrap (-(O : Int)) = ((18446744073709551616 - O : Nat) : Int) := by rw [IntKind.wrap_u64]; omega
  rw [e, u64_and_nat _ _ hO (by omega), h]
theorem next_bits (O N : Nat) (h0 : O ≠ 0) (hO : O < 18446744073709551616) (h : O &&& (O - 1) = N) : bits .and .u64 (O : Int) (IntKind.u64.wrap ((O : Int) - 1)) = (N : Int) := by
  have e : IntKind.u64.wrap ((O : Int) - 1) = ((O - 1 : Nat) : Int) := by rw [IntKind.wrap_u64]; omega
  rw [e, u64_and_nat _ _ hO (by omega), h]
theorem next_bits2 (O N : Nat) (h0 : O ≠ 0) (hO : O < 18446744073709551616) (h : O &&& (O - 1) = N) : bits .and .u64 (O : Int) ((O : Int) - 1) = (N : Int) := by
  have e : ((O : Int) - 1) = ((O - 1 : Nat) : Int) := by omega
  rw [e, u64_and_nat _ _ hO (by omega), h]
theorem not_xor (x : Nat) (hx : x < 18446744073709551616) : bits .xor .u64 (if IntKind.u64.signed = true then -1 else IntKind.u64.max) (x : Int) = ((18446744073709551615 - x : Nat) : Int) := by
  have e : (if IntKind.u64.signed = true then (-1 : Int) else IntKind.u64.max) = ((18446744073709551615 : Nat) : Int) := by decide
  rw [e, u64_xor_nat _ _ (by decide) hx]
  congr 1
  apply Nat.eq_of_testBit_eq
  intro i
  have e1 : 18446744073709551615 - x = 2 ^ 64 - (x + 1) := by omega
  have e2 : (18446744073709551615 : Nat) = 2 ^ 64 - 1 := by decide
  rw [e1, Nat.testBit_xor, e2, Nat.testBit_two_pow_sub_one, Nat.testBit_two_pow_sub_succ (by exact hx)]
  by_cases hi : i < 64
  · simp [hi]
  · have h64 : 64 ≤ i := Nat.le_of_not_lt hi
    have hx2 : x < 2 ^ 64 := hx
    have : x.testBit i = false := Nat.testBit_lt_two_pow (Nat.lt_of_lt_of_le hx2 (Nat.pow_le_pow_right (by decide) h64))
    simp [hi, this]
theorem fix_own (a b : List UInt8) (k r : Nat) (w : World) (hk : k < 4) (hr : r < 64) (hl : a.length = b.length) (gb : good b = true) (hq : qual a b (64 * k + r) = true) :
    Calls Tryz.prog 116 #[cubeV (rsT a b (64 * k + r)), .int .i64 (k : Int), .int .u64 ((2 ^ r : Nat) : Int), .int .u64 (OW b k : Int)] w fun e w' => e = .returned (cubeV (rsT a b (64 * k + r + 1))) ∧ Below w.heap.size w w' := by
  have hp := qual_lt a b hl _ hq
  have hpr : 64 * k + r < (rsT a b (64 * k + r)).length := by rw [rs_len a b hl]; exact hp
  have hbx : b[64 * k + r]'(by omega) ≠ 120 := by
    rw [qual_bytes a b hl _ hp] at hq
    simp at hq; exact hq.1
  refine (fix_any _ k r (OW b k) w hk hr (OW_lt _ _) hpr (rs_at a b hl _ hq hpr)).mono ?_
  rintro e w' ⟨rfl, hb⟩
  exact ⟨by rw [dg_own b k r hr (by omega) gb hbx, rs_succ a b hl _ hq], hb⟩
theorem fix_oth (a b : List UInt8) (k r : Nat) (w : World) (hk : k < 4) (hr : r < 64) (hl : a.length = b.length) (gb : good b = true) (hq : qual a b (64 * k + r) = true) :
    Calls Tryz.prog 116 #[cubeV (rsT a b (64 * k + r)), .int .i64 (k : Int), .int .u64 ((2 ^ r : Nat) : Int), .int .u64 (bits .xor .u64 (if IntKind.u64.signed = true then -1 else IntKind.u64.max) (OW b k : Int))] w fun e w' => e = .returned (cubeV (pcT a b (64 * k + r))) ∧ Below w.heap.size w w' := by
  have hp := qual_lt a b hl _ hq
  have hpr : 64 * k + r < (rsT a b (64 * k + r)).length := by rw [rs_len a b hl]; exact hp
  have hpb : 64 * k + r < b.length := by omega
  have hbx : b[64 * k + r] ≠ 120 := by
    rw [qual_bytes a b hl _ hp] at hq
    simp at hq; exact hq.1
  rw [not_xor _ (OW_lt _ _)]
  refine (fix_any _ k r (18446744073709551615 - OW b k) w hk hr (by omega) hpr (rs_at a b hl _ hq hpr)).mono ?_
  rintro e w' ⟨rfl, hb⟩
  refine ⟨?_, hb⟩
  unfold pcT
  rw [dg_oth b k r hr hpb gb hbx, show b.getD (64 * k + r) 0 = b[64 * k + r] by simp [List.getD, List.getElem?_eq_getElem hpb]]

theorem alloc2_0 (w : World) (o1 o2 : Obj) : ((w.alloc o1).alloc o2).heap[w.heap.size]? = some o1 := by
  rw [Below.heap_alloc _ _ _ (by simp)]; exact alloc_get _ _
theorem alloc2_1 (w : World) (o1 o2 : Obj) : ((w.alloc o1).alloc o2).heap[w.heap.size + 1]? = some o2 := by
  have := alloc_get (w.alloc o1) o2
  simpa using this
end Go.Proofs.YtnboehlbcjfndaaGreatDoor.Tn
namespace Go.Proofs.YtnboehlbcjfndaaGreatDoor.Tn
open Go.RowKit

set_option maxRecDepth 100000 in
set_option maxHeartbeats 2000000 in
theorem split_try (a b : List UInt8) (w : World) (ha : good a = true) (gb : good b = true) (hq0 : agB a b = true) :
    Calls Tryz.prog 86 #[cubeV a, cubeV b] w fun e w' => ∃ v, e = .returned v ∧ w'.ownsRow w.heap.size 106 9 v (pcs a b a.length).length (cels (pcs a b a.length)) ∧ Below w.heap.size w w' := by
  have hq : Hid (agB a b = true) := hq0
  have hl : Hid (a.length = b.length) := fitB_len (agB_fit hq0)
  have hal := good_len ha
  clear hq0
  obtain ⟨i0, hi, hz0, hz1, hz2⟩ := info_parts info_cube
  unfold cubeV cv
  go_enter Tryz.func86, Tryz.ntmps86
  go_wp2_with (go_at_call 115; refine (agrees_D a b true _ ha hq.out).mono ?_; rintro e w1 ⟨rfl, hb1⟩; obtain ⟨hc1, hf1⟩ := bcell hb1)
  have hA1 := allocblk (keepblk hb1 (alloc2_0 w (.cells #[.int .i64 (a.length : Int), .int .u64 (FW a 0 : Int), .int .u64 (FW a 1 : Int), .int .u64 (FW a 2 : Int), .int .u64 (FW a 3 : Int), .int .u64 (OW a 0 : Int), .int .u64 (OW a 1 : Int), .int .u64 (OW a 2 : Int), .int .u64 (OW a 3 : Int)] 106) (.cells #[.int .i64 (b.length : Int), .int .u64 (FW b 0 : Int), .int .u64 (FW b 1 : Int), .int .u64 (FW b 2 : Int), .int .u64 (FW b 3 : Int), .int .u64 (OW b 0 : Int), .int .u64 (OW b 1 : Int), .int .u64 (OW b 2 : Int), .int .u64 (OW b 3 : Int)] 106))) (.cells #[.int .i64 (a.length : Int), .int .u64 (FW a 0 : Int), .int .u64 (FW a 1 : Int), .int .u64 (FW a 2 : Int), .int .u64 (FW a 3 : Int), .int .u64 (OW a 0 : Int), .int .u64 (OW a 1 : Int), .int .u64 (OW a 2 : Int), .int .u64 (OW a 3 : Int)] 106)
  have hB1 := allocblk (keepblk hb1 (alloc2_1 w (.cells #[.int .i64 (a.length : Int), .int .u64 (FW a 0 : Int), .int .u64 (FW a 1 : Int), .int .u64 (FW a 2 : Int), .int .u64 (FW a 3 : Int), .int .u64 (OW a 0 : Int), .int .u64 (OW a 1 : Int), .int .u64 (OW a 2 : Int), .int .u64 (OW a 3 : Int)] 106) (.cells #[.int .i64 (b.length : Int), .int .u64 (FW b 0 : Int), .int .u64 (FW b 1 : Int), .int .u64 (FW b 2 : Int), .int .u64 (FW b 3 : Int), .int .u64 (OW b 0 : Int), .int .u64 (OW b 1 : Int), .int .u64 (OW b 2 : Int), .int .u64 (OW b 3 : Int)] 106))) (.cells #[.int .i64 (a.length : Int), .int .u64 (FW a 0 : Int), .int .u64 (FW a 1 : Int), .int .u64 (FW a 2 : Int), .int .u64 (FW a 3 : Int), .int .u64 (OW a 0 : Int), .int .u64 (OW a 1 : Int), .int .u64 (OW a 2 : Int), .int .u64 (OW a 3 : Int)] 106)
  have hR1 : (w1.alloc (.cells #[.int .i64 (a.length : Int), .int .u64 (FW a 0 : Int), .int .u64 (FW a 1 : Int), .int .u64 (FW a 2 : Int), .int .u64 (FW a 3 : Int), .int .u64 (OW a 0 : Int), .int .u64 (OW a 1 : Int), .int .u64 (OW a 2 : Int), .int .u64 (OW a 3 : Int)] 106)).heap[w1.heap.size]? = some (.cells (#[.int .i64 ((rsT a b (64 * 0)).length : Int), .int .u64 (FW (rsT a b (64 * 0)) 0 : Int), .int .u64 (FW (rsT a b (64 * 0)) 1 : Int), .int .u64 (FW (rsT a b (64 * 0)) 2 : Int), .int .u64 (FW (rsT a b (64 * 0)) 3 : Int), .int .u64 (OW (rsT a b (64 * 0)) 0 : Int), .int .u64 (OW (rsT a b (64 * 0)) 1 : Int), .int .u64 (OW (rsT a b (64 * 0)) 2 : Int), .int .u64 (OW (rsT a b (64 * 0)) 3 : Int)]) 106 (0, 0)) := by rw [Nat.mul_zero, rs_zero]; exact alloc_get _ _
  have hW1 := belA (bel1 (bel1 hb1)) (.cells #[.int .i64 (a.length : Int), .int .u64 (FW a 0 : Int), .int .u64 (FW a 1 : Int), .int .u64 (FW a 2 : Int), .int .u64 (FW a 3 : Int), .int .u64 (OW a 0 : Int), .int .u64 (OW a 1 : Int), .int .u64 (OW a 2 : Int), .int .u64 (OW a 3 : Int)] 106)
  have hgw : w.heap.size + 2 ≤ w1.heap.size := by have := hb1.size; simp at this; omega
  clear hb1 hc1 hf1
  go_loopw [5, 17] (fun v i wr => ∃ k : Nat, k ≤ 4 ∧ i = .int .i64 k ∧ wr.heap[w.heap.size]? = some (.cells (#[.int .i64 (a.length : Int), .int .u64 (FW a 0 : Int), .int .u64 (FW a 1 : Int), .int .u64 (FW a 2 : Int), .int .u64 (FW a 3 : Int), .int .u64 (OW a 0 : Int), .int .u64 (OW a 1 : Int), .int .u64 (OW a 2 : Int), .int .u64 (OW a 3 : Int)]) 106 (0, 0)) ∧ wr.heap[w.heap.size + 1]? = some (.cells (#[.int .i64 (b.length : Int), .int .u64 (FW b 0 : Int), .int .u64 (FW b 1 : Int), .int .u64 (FW b 2 : Int), .int .u64 (FW b 3 : Int), .int .u64 (OW b 0 : Int), .int .u64 (OW b 1 : Int), .int .u64 (OW b 2 : Int), .int .u64 (OW b 3 : Int)]) 106 (0, 0)) ∧ wr.heap[w1.heap.size]? = some (.cells (#[.int .i64 ((rsT a b (64 * k)).length : Int), .int .u64 (FW (rsT a b (64 * k)) 0 : Int), .int .u64 (FW (rsT a b (64 * k)) 1 : Int), .int .u64 (FW (rsT a b (64 * k)) 2 : Int), .int .u64 (FW (rsT a b (64 * k)) 3 : Int), .int .u64 (OW (rsT a b (64 * k)) 0 : Int), .int .u64 (OW (rsT a b (64 * k)) 1 : Int), .int .u64 (OW (rsT a b (64 * k)) 2 : Int), .int .u64 (OW (rsT a b (64 * k)) 3 : Int)]) 106 (0, 0)) ∧ wr.ownsRow (w1.heap.size + 1) 106 9 v (pcs a b (64 * k)).length (cels (pcs a b (64 * k))) ∧ Below w.heap.size w wr ∧ w1.heap.size + 1 ≤ wr.heap.size) (fun _ i _ => 4 - (intOf i).toNat)
  case atStart => exact ⟨0, by omega, rfl, hA1, hB1, hR1, World.ownsRow_nil _ _ _ _, hW1, by simp⟩
  case round =>
    clear hA1 hB1 hR1 hW1
    obtain ⟨k, hk, rfl, hA, hBb, hR, hown, hB, hsz⟩ := hrel
    by_cases hk4 : k < 4
    · skip
      have cA := cellF (cells_block hA).1 hk4
      have cB := cellF (cells_block hBb).1 hk4
      have hst := opn_start a b k
      have j0 : (0 : Int) ≤ (k : Int) := by omega
      have j1 : (k : Int) < 4 := by omega
      go_wp2
      go_quiet (fail)
      go_wp2
      go_loopw [5, 8] (fun v o wr => ∃ i : Nat, i ≤ 64 ∧ o = .int .u64 ((opn a b k i : Nat) : Int) ∧ wr.heap[w.heap.size]? = some (.cells (#[.int .i64 (a.length : Int), .int .u64 (FW a 0 : Int), .int .u64 (FW a 1 : Int), .int .u64 (FW a 2 : Int), .int .u64 (FW a 3 : Int), .int .u64 (OW a 0 : Int), .int .u64 (OW a 1 : Int), .int .u64 (OW a 2 : Int), .int .u64 (OW a 3 : Int)]) 106 (0, 0)) ∧ wr.heap[w.heap.size + 1]? = some (.cells (#[.int .i64 (b.length : Int), .int .u64 (FW b 0 : Int), .int .u64 (FW b 1 : Int), .int .u64 (FW b 2 : Int), .int .u64 (FW b 3 : Int), .int .u64 (OW b 0 : Int), .int .u64 (OW b 1 : Int), .int .u64 (OW b 2 : Int), .int .u64 (OW b 3 : Int)]) 106 (0, 0)) ∧ wr.heap[w1.heap.size]? = some (.cells (#[.int .i64 ((rsT a b (64 * k + i)).length : Int), .int .u64 (FW (rsT a b (64 * k + i)) 0 : Int), .int .u64 (FW (rsT a b (64 * k + i)) 1 : Int), .int .u64 (FW (rsT a b (64 * k + i)) 2 : Int), .int .u64 (FW (rsT a b (64 * k + i)) 3 : Int), .int .u64 (OW (rsT a b (64 * k + i)) 0 : Int), .int .u64 (OW (rsT a b (64 * k + i)) 1 : Int), .int .u64 (OW (rsT a b (64 * k + i)) 2 : Int), .int .u64 (OW (rsT a b (64 * k + i)) 3 : Int)]) 106 (0, 0)) ∧ wr.ownsRow (w1.heap.size + 1) 106 9 v (pcs a b (64 * k + i)).length (cels (pcs a b (64 * k + i))) ∧ Below w.heap.size w wr ∧ w1.heap.size + 1 ≤ wr.heap.size) (fun _ o _ => (intOf o).toNat)
      case atStart => exact ⟨0, by omega, rfl, hA, hBb, hR, hown, hB.trans (below_drewN _ _ _), hsz⟩
      case round =>
        clear hA hBb hR hown hB hsz cA cB hst
        obtain ⟨i, hi64, rfl, hA, hBb, hR, hown, hB, hsz⟩ := hrel
        by_cases hO0 : opn a b k i = 0
        · have hzq := opn_zero a b k i hO0
          have hrs := rs_skip a b hl.out (64 * k + i) (64 * (k + 1)) (by omega) (fun j h1 h2 => by have := hzq (j - 64 * k) (by omega) (by omega); rwa [show 64 * k + (j - 64 * k) = j by omega] at this)
          have hpc := pcs_skip a b (64 * k + i) (64 * (k + 1)) (by omega) (fun j h1 h2 => by have := hzq (j - 64 * k) (by omega) (by omega); rwa [show 64 * k + (j - 64 * k) = j by omega] at this)
          rw [← hrs] at hR
          rw [← hpc] at hown
          rw [hO0]
          clear hzq hrs hpc hO0
          go_wp2
          go_roundw
          case rel => exact ⟨(k + 1), by omega, by go_num, hA, hBb, hR, hown, hB, hsz⟩
          case measure => simp [intOf]; omega
        · obtain ⟨r, hir, hr, hqu, hbet, hlow, hnext⟩ := opn_step a b k i hO0
          obtain ⟨O, hO⟩ : ∃ O, opn a b k i = O := ⟨_, rfl⟩
          have hne : ((O : Int) != 0) = true := by rw [← hO]; simp; omega
          have hOl : O < 18446744073709551616 := by rw [← hO]; exact opn_lt _ _ _ _
          rw [hO] at hlow
          rw [hO] at hnext
          have hp : 64 * k + r < a.length := qual_lt a b hl.out _ hqu
          have hRS := rs_skip a b hl.out (64 * k + i) (64 * k + r) (by omega) (fun j h1 h2 => by have := hbet (j - 64 * k) (by omega) (by omega); rwa [show 64 * k + (j - 64 * k) = j by omega] at this)
          have hPC := pcs_skip a b (64 * k + i) (64 * k + r) (by omega) (fun j h1 h2 => by have := hbet (j - 64 * k) (by omega) (by omega); rwa [show 64 * k + (j - 64 * k) = j by omega] at this)
          have hfixO := fun W => fix_oth a b k r W hk4 hr hl.out gb hqu
          have hfixD := fun W => fix_own a b k r W hk4 hr hl.out gb hqu
          have hPCn := pcs_len a b (64 * k + r)
          have hPS := pcs_succ a b _ hqu
          obtain ⟨X, hX⟩ : ∃ X, 2 ^ r = X := ⟨_, rfl⟩
          rw [hX] at hfixO hfixD
          have hbit : bits .and .u64 (O : Int) (IntKind.u64.wrap (-(O : Int))) = (X : Int) := by rw [← hX]; exact low_bits O r (by intro e; rw [e] at hO; exact hO0 hO) hOl hlow
          obtain ⟨N, hN⟩ : ∃ N, opn a b k (r + 1) = N := ⟨_, rfl⟩
          have hnx : bits .and .u64 (O : Int) (IntKind.u64.wrap ((O : Int) - 1)) = (N : Int) := by rw [← hN]; exact next_bits O _ (by intro e; rw [e] at hO; exact hO0 hO) hOl hnext
          have hnx2 : bits .and .u64 (O : Int) ((O : Int) - 1) = (N : Int) := by rw [← hN]; exact next_bits2 O _ (by intro e; rw [e] at hO; exact hO0 hO) hOl hnext
          have hNlt : N < O := by rw [← hN, ← hnext]; exact Nat.lt_of_le_of_lt Nat.and_le_right (by have : O ≠ 0 := (by intro e; rw [e] at hO; exact hO0 hO); omega)
          obtain ⟨RS, hRS1⟩ : ∃ RS, rsT a b (64 * k + r) = RS := ⟨_, rfl⟩
          obtain ⟨RN, hRN1⟩ : ∃ RN, rsT a b (64 * k + r + 1) = RN := ⟨_, rfl⟩
          obtain ⟨P, hP1⟩ : ∃ P, pcT a b (64 * k + r) = P := ⟨_, rfl⟩
          obtain ⟨L, hL1⟩ : ∃ L, pcs a b (64 * k + r) = L := ⟨_, rfl⟩
          rw [← hRS, hRS1] at hR
          rw [← hPC, hL1] at hown
          rw [hRS1, hP1] at hfixO
          rw [hRS1, hRN1] at hfixD
          rw [hL1] at hPCn
          have HO : Hid (opn a b k i = O) := hO
          have HN : Hid (opn a b k (r + 1) = N) := hN
          have HRN : Hid (rsT a b (64 * k + r + 1) = RN) := hRN1
          have HL : Hid (pcs a b (64 * k + r + 1) = L ++ [P]) := by unfold Hid; rw [hPS, hL1, hP1]
          have hfO : Hid (∀ W, Calls Tryz.prog 116 #[cubeV RS, .int .i64 k, .int .u64 (X : Int), .int .u64 (bits .xor .u64 (if IntKind.u64.signed = true then -1 else IntKind.u64.max) (OW b k : Int))] W fun e w' => e = .returned (cubeV P) ∧ Below W.heap.size W w') := hfixO
          have hfD : Hid (∀ W, Calls Tryz.prog 116 #[cubeV RS, .int .i64 k, .int .u64 (X : Int), .int .u64 (OW b k : Int)] W fun e w' => e = .returned (cubeV RN) ∧ Below W.heap.size W w') := hfixD
          rw [hO]
          clear hfixO hfixD hO hN hRN1 hP1 hL1 hRS1 hRS hPC hPS hX hlow hnext hbet hO0
          have cR := (cells_block hR).1
          have cBb := cellO (cells_block hBb).1 hk4
          go_wp2
          go_region_held3 (fun W => (∀ j, W.cell? ⟨w1.heap.size, j, none⟩ = (#[.int .i64 (RS.length : Int), .int .u64 (FW RS 0 : Int), .int .u64 (FW RS 1 : Int), .int .u64 (FW RS 2 : Int), .int .u64 (FW RS 3 : Int), .int .u64 (OW RS 0 : Int), .int .u64 (OW RS 1 : Int), .int .u64 (OW RS 2 : Int), .int .u64 (OW RS 3 : Int)] : Array Value)[j]?) ∧ W.cell? ⟨w.heap.size + 1, 5 + k, none⟩ = some (.int .u64 (OW b k : Int))) (first | exact ⟨cR, cBb⟩ | exact ⟨(cellkeepS hbU (by exact lt_of_get hR) cR), (cell1keep hbU (by exact lt_of_get hBb) cBb)⟩ | exact ⟨allockeepS (Nat.lt_of_lt_of_le (lt_of_get hR) hbU.size) (cellkeepS hbU (by exact lt_of_get hR) cR) _, alloc1keep (Nat.lt_of_lt_of_le (lt_of_get hBb) hbU.size) (cell1keep hbU (by exact lt_of_get hBb) cBb) _⟩ | exact ⟨cellgrowS hgrow (ltA (Nat.lt_of_lt_of_le (lt_of_get hR) hbU.size) _) (fun e => by have := (hown.lt _ e.symm).1; omega) (allockeepS (Nat.lt_of_lt_of_le (lt_of_get hR) hbU.size) (cellkeepS hbU (by exact lt_of_get hR) cR) _), cell1grow hgrow (ltA (Nat.lt_of_lt_of_le (lt_of_get hBb) hbU.size) _) (fun e => by have := (hown.lt _ e.symm).1; omega) (alloc1keep (Nat.lt_of_lt_of_le (lt_of_get hBb) hbU.size) (cell1keep hbU (by exact lt_of_get hBb) cBb) _)⟩) (first | (go_at_call 116; refine (hfO.out _).mono ?_; rintro e wU ⟨rfl, hbU⟩; unfold cubeV cv) | (refine step_append_lies _ (by rfl) _ _ _ (by rfl) (w1.heap.size + 1) 106 i0 _ 9 72 Tryz.underlying131 hi hz0 hz1 hz2 rfl (by omega) u5 L.length (cels L) (by rfl) (World.ownsRow.alloc (owns_below hown (undrewS hbU)) _) ⟨wU.heap.size, 0, none⟩ 1 1 (cel P) (by rfl) (by rfl) (World.news_of_block (cs := #[.int .i64 (P.length : Int), .int .u64 (FW P 0 : Int), .int .u64 (FW P 1 : Int), .int .u64 (FW P 2 : Int), .int .u64 (FW P 3 : Int), .int .u64 (OW P 0 : Int), .int .u64 (OW P 1 : Int), .int .u64 (OW P 2 : Int), .int .u64 (OW P 3 : Int)]) (t := 106) (fr := (0, 0)) (heap_alloc_new wU _)) (by simp [cel, Value.oneCell']) (by omega) (by unfold maxLen; omega) (by omega) (by have hzz := hbU.size; simp at hzz ⊢; omega) (wU.heap.size + 1) (by simp) ?_; intro gg cap w2 hown2 hgrow hat hlt))
          have zU : wr.heap.size ≤ wU.heap.size := hbU.size
          have hA2 := growblk hgrow (allocblk (keepblk (undrewS hbU) hA) _) (fun e => by have := (hown.lt _ e.symm).1; omega)
          have hBb2 := growblk hgrow (allocblk (keepblk (undrewS hbU) hBb) _) (fun e => by have := (hown.lt _ e.symm).1; omega)
          have hR2 := growblk hgrow (allocblk (keepblk (undrewS hbU) hR) _) (fun e => by have := (hown.lt _ e.symm).1; omega)
          have hB2 := bel_app2 (bel0 hB (undrewS hbU)) (owns_below hown (undrewS hbU)) hgrow (by omega)
          have hz2' : w1.heap.size + 1 ≤ w2.heap.size := by have := hgrow.size; simp at this; omega
          clear hat hgrow hbU cR cBb hA hBb hR hB hown zU hsz
          have cR := (cells_block hR2).1
          have cBb := cellO (cells_block hBb2).1 hk4
          go_wp2
          go_region_with (go_at_call 116; refine (hfD.out _).mono ?_; rintro e wV ⟨rfl, hbV⟩; unfold cubeV cv; have hRV := keepblk (undrewS hbV) hR2; have cRV := (cells_block hRV).1; have fRV := (cells_block hRV).2)
          all_goals
            have hAV := keepblk (undrewS hbV) hA2
            have hBV := keepblk (undrewS hbV) hBb2
            have hoV := owns_below hown2 (undrewS hbV)
            have hBeV := bel0 hB2 (undrewS hbV)
            have zV : w2.heap.size ≤ wV.heap.size := hbV.size
            have HPL : Hid ((pcs a b (64 * k + (r + 1))).length = L.length + 1) := by unfold Hid; rw [show pcs a b (64 * k + (r + 1)) = L ++ [P] from HL.out]; simp
            have HPC : Hid (cels (pcs a b (64 * k + (r + 1))) = cels L ++ cel P) := by unfold Hid; rw [show pcs a b (64 * k + (r + 1)) = L ++ [P] from HL.out]; exact cels_snoc L P
            have HPR : Hid (rsT a b (64 * k + (r + 1)) = RN) := HRN.out
            clear hA2 hBb2 hR2 hown2 hB2 cR cBb hbV
            go_wp2
            go_roundw
            case rel =>
              exact ⟨r + 1, by omega, by rw [HN.out], put9_ne _ _ _ _ _ _ _ _ _ (by omega) hAV, put9_ne _ _ _ _ _ _ _ _ _ (by omega) hBV, (by rw [HPR.out]; exact put9_get _ _ _ _ _ _ _ _ _ hRV), (by rw [HPL.out, HPC.out]; exact own_put9 _ _ _ _ _ _ _ _ _ hoV (by omega)), put9_below _ _ _ _ _ _ _ _ _ hBeV (by omega), put9_szle _ _ _ _ _ _ _ _ _ (by omega)⟩
            case measure => simp [intOf]; omega
    · have hkk : k = 4 := by omega
      subst hkk
      have hfin := pcs_skip a b a.length (64 * 4) (by omega) (fun j h1 h2 => by
        cases e : qual a b j
        · rfl
        · have := qual_lt a b hl.out j e; omega)
      rw [hfin] at hown
      have hown' := own_base hown (show w.heap.size ≤ w1.heap.size + 1 by omega)
      clear hfin hown
      go_wp2
      go_ret
      exact ⟨_, rfl, hown', hB⟩
end Go.Proofs.YtnboehlbcjfndaaGreatDoor.Tn
namespace Go.Proofs.YtnboehlbcjfndaaGreatDoor.Tn
open Go.RowKit
theorem split_any (a b : List UInt8) (L : List (List UInt8)) (w : World) (ha : good a = true) (gb : good b = true) (hL : splT a b = L) :
    Calls Tryz.prog 86 #[cubeV a, cubeV b] w fun e w' => ∃ v, e = .returned v ∧ w'.ownsRow w.heap.size 106 9 v L.length (cels L) ∧ Below w.heap.size w w' := by
  subst hL
  unfold splT
  cases h : agB a b
  · exact split_no a b w ha h
  · exact split_try a b w ha gb h

theorem cels_get (L : List (List UInt8)) (k m : Nat) (hm : m < 9) : (cels L)[k * 9 + m]? = (L[k]?).bind (fun t => (cel t)[m]?) := by
  induction L generalizing k with
  | nil => simp [cels]
  | cons t l ih =>
    have hc : cels (t :: l) = cel t ++ cels l := rfl
    have hl : (cel t).length = 9 := rfl
    rw [hc]
    cases k with
    | zero =>
      rw [List.getElem?_append_left (by rw [hl]; omega)]
      simp
    | succ k =>
      rw [List.getElem?_append_right (by rw [hl]; omega), hl, show (k + 1) * 9 + m - 9 = k * 9 + m by omega, ih]
      simp

theorem own_cel {W : World} {B g cap k : Nat} {L : List (List UInt8)} (hown : W.ownsRow B 106 9 (.slice (some ⟨g, 0, none⟩) L.length cap) L.length (cels L)) (hk : k < L.length) (m : Nat) (hm : m < 9) : W.cell? ⟨g, k * 9 + m, none⟩ = (cel L[k])[m]? := by
  rw [hown.cellAt (k * 9 + m) (by omega), cels_get L k m hm, List.getElem?_eq_getElem hk]
  rfl

theorem good_set (t : List UInt8) (p : Nat) (x : UInt8) (ht : good t = true) (hx : tri x = true) : good (t.set p x) = true := by
  simp only [good, Bool.and_eq_true, decide_eq_true_eq, List.all_eq_true, List.length_set] at ht ⊢
  refine ⟨ht.1, fun y hy => ?_⟩
  rcases List.mem_or_eq_of_mem_set hy with h | rfl
  · exact ht.2 y h
  · exact hx

theorem good_pcs (a b : List UInt8) (hl : a.length = b.length) (ga : good a = true) (gb : good b = true) (p : Nat) : ∀ x ∈ pcs a b p, good x = true := by
  induction p with
  | zero => intro x hx; simp [pcs] at hx
  | succ p ih =>
    cases hq : qual a b p
    · have hs : ∀ k, p ≤ k → k < p + 1 → qual a b k = false := by
        intro k h1 h2
        have e : k = p := by omega
        subst e
        exact hq
      rw [pcs_skip a b p (p + 1) (by omega) hs]
      exact ih
    · rw [pcs_succ a b p hq]
      intro x hx
      rcases List.mem_append.1 hx with h | h
      · exact ih x h
      · rw [List.mem_singleton] at h
        subst h
        exact good_set _ _ _ (rs_good a b hl ga gb p) (by unfold oth; split <;> decide)

end Go.Proofs.YtnboehlbcjfndaaGreatDoor.Tn

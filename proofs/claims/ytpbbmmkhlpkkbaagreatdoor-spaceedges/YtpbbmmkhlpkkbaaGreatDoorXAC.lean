import Derived.Test.YtpbbmmkhlpkkbaaGreatDoorXAA
import Derived.Test.YtpbbmmkhlpkkbaaGreatDoorXAB
import Derived.RegionTactic
import Derived.LoopN
import Derived.Laws.BytesArg
import Derived.Deep.RegionWith
namespace Go.Proofs.YtpbbmmkhlpkkbaaGreatDoor

/-- p holds at every place below n -/
def allTo (p : Nat → Bool) : Nat → Bool
  | 0 => true
  | k + 1 => allTo p k && p k

theorem allTo_iff (p : Nat → Bool) (n : Nat) : allTo p n = true ↔ ∀ k, k < n → p k = true := by
  induction n with
  | zero => simp [allTo]
  | succ n ih =>
    simp only [allTo, Bool.and_eq_true, ih]
    constructor
    · rintro ⟨h1, h2⟩ k hk
      by_cases e : k = n
      · subst e; exact h2
      · exact h1 k (by omega)
    · intro h
      exact ⟨fun k hk => h k (by omega), h n (by omega)⟩

theorem allTo_false {p : Nat → Bool} {n : Nat} (k : Nat) (hk : k < n) (h : p k = false) : allTo p n = false := by
  rw [Bool.eq_false_iff]
  intro e
  rw [allTo_iff] at e
  rw [e k hk] at h
  cases h

theorem allTo_congr {p q : Nat → Bool} {n : Nat} (h : ∀ k, k < n → p k = q k) : allTo p n = allTo q n := by
  rw [Bool.eq_iff_iff, allTo_iff, allTo_iff]
  constructor
  · intro e k hk; rw [← h k hk]; exact e k hk
  · intro e k hk; rw [h k hk]; exact e k hk

/-- at place k one has 0 and the other 1 -/
def cfl (a b : List UInt8) (k : Nat) : Bool := fx a k && fx b k && (on a k ^^ on b k)
/-- the words that agrees looks at -/
def cw (a b : List UInt8) (w : Nat) : Bool := bits .and .u64 (bits .and .u64 (FW a w : Int) (FW b w : Int)) (bits .xor .u64 (OW a w : Int) (OW b w : Int)) != 0

theorem xor_lt {a b : Nat} (ha : a < 18446744073709551616) (hb : b < 18446744073709551616) : a ^^^ b < 18446744073709551616 := Nat.xor_lt_two_pow (n := 64) ha hb
theorem and_lt {a : Nat} (b : Nat) (ha : a < 18446744073709551616) : a &&& b < 18446744073709551616 := Nat.lt_of_le_of_lt Nat.and_le_left ha
theorem or_lt {a b : Nat} (ha : a < 18446744073709551616) (hb : b < 18446744073709551616) : a ||| b < 18446744073709551616 := Nat.or_lt_two_pow (n := 64) ha hb

theorem cw_false (a b : List UInt8) (w : Nat) : cw a b w = false ↔ ∀ i, i < 64 → cfl a b (64 * w + i) = false := by
  unfold cw
  rw [u64_and_nat _ _ (FW_lt _ _) (FW_lt _ _), u64_xor_nat _ _ (OW_lt _ _) (OW_lt _ _), u64_and_nat _ _ (and_lt _ (FW_lt _ _)) (xor_lt (OW_lt _ _) (OW_lt _ _))]
  have hbit : ∀ i, (FW a w &&& FW b w &&& (OW a w ^^^ OW b w)).testBit i = (decide (i < 64) && cfl a b (64 * w + i)) := by
    intro i
    rw [Nat.testBit_and, Nat.testBit_and, Nat.testBit_xor, FW_bit, FW_bit, OW_bit, OW_bit]
    unfold cfl
    by_cases hi : i < 64 <;> simp [hi]
  generalize FW a w &&& FW b w &&& (OW a w ^^^ OW b w) = x at hbit ⊢
  constructor
  · intro h i hi
    have hx : x = 0 := by
      rw [bne_eq_false_iff_eq] at h
      omega
    have := hbit i
    rw [hx] at this
    simp [hi] at this
    exact this.symm ▸ rfl
  · intro h
    have hx : x = 0 := by
      apply Nat.eq_of_testBit_eq
      intro i
      rw [hbit i, Nat.zero_testBit]
      by_cases hi : i < 64
      · rw [h i hi]; simp
      · simp [hi]
    rw [hx]; rfl

/-- two cubes that fit -/
def fitB (a b : List UInt8) : Bool := !a.isEmpty && (a.length == b.length)
/-- they fit and nowhere one has 0 and the other 1 -/
def agB (a b : List UInt8) : Bool := fitB a b && allTo (fun k => !cfl a b k) a.length

theorem cfl_out (a b : List UInt8) (k : Nat) (h : a.length ≤ k) : cfl a b k = false := by
  unfold cfl fx
  rw [List.getElem?_eq_none h]; simp

theorem ag_words (a b : List UInt8) (ha : good a = true) : allTo (fun k => !cfl a b k) a.length = (!cw a b 0 && !cw a b 1 && !cw a b 2 && !cw a b 3) := by
  have hl := good_len ha
  rw [Bool.eq_iff_iff, allTo_iff]
  simp only [Bool.and_eq_true, Bool.not_eq_true', cw_false]
  constructor
  · intro h
    have g : ∀ k, cfl a b k = false := by
      intro k
      by_cases hk : k < a.length
      · exact h k hk
      · exact cfl_out a b k (by omega)
    exact ⟨⟨⟨fun i _ => g _, fun i _ => g _⟩, fun i _ => g _⟩, fun i _ => g _⟩
  · rintro ⟨⟨⟨h0, h1⟩, h2⟩, h3⟩ k hk
    have hk4 : k / 64 < 4 := by omega
    have e : k = 64 * (k / 64) + k % 64 := by omega
    have hm : k % 64 < 64 := by omega
    rcases (show k / 64 = 0 ∨ k / 64 = 1 ∨ k / 64 = 2 ∨ k / 64 = 3 by omega) with q | q | q | q <;> rw [q] at e <;> rw [e]
    · exact h0 _ hm
    · exact h1 _ hm
    · exact h2 _ hm
    · exact h3 _ hm

/-- P1.5: the text of what two cubes have in common -/
def meetT (a b : List UInt8) : List UInt8 := List.zipWith (fun x y => if x == 120 then y else x) a b

theorem fitB_len {a b : List UInt8} (h : fitB a b = true) : a.length = b.length := by simp [fitB] at h; exact h.2
theorem agB_fit {a b : List UInt8} (h : agB a b = true) : fitB a b = true := by simp [agB] at h; exact h.1
theorem agB_cfl {a b : List UInt8} (h : agB a b = true) (k : Nat) : cfl a b k = false := by
  by_cases hk : k < a.length
  · simp only [agB, Bool.and_eq_true, allTo_iff] at h
    simpa using h.2 k hk
  · exact cfl_out a b k (by omega)

theorem meetT_len (a b : List UInt8) (h : a.length = b.length) : (meetT a b).length = a.length := by simp [meetT]; omega
theorem meetT_get (a b : List UInt8) (h : a.length = b.length) (k : Nat) (hk : k < a.length) : (meetT a b)[k]? = some (if a[k] == 120 then b[k]'(by omega) else a[k]) := by
  unfold meetT
  rw [List.getElem?_zipWith, List.getElem?_eq_getElem hk, List.getElem?_eq_getElem (show k < b.length by omega)]

theorem fx_meet (a b : List UInt8) (h : a.length = b.length) (k : Nat) : fx (meetT a b) k = (fx a k || fx b k) := by
  by_cases hk : k < a.length
  · have hb : k < b.length := by omega
    simp only [fx, meetT_get a b h k hk, List.getElem?_eq_getElem hk, List.getElem?_eq_getElem hb]
    generalize a[k] = x
    generalize b[k] = y
    by_cases e : x = 120 <;> simp [e]
  · simp only [fx]
    rw [List.getElem?_eq_none (by rw [meetT_len a b h]; omega), List.getElem?_eq_none (by omega), List.getElem?_eq_none (by omega)]; rfl

theorem on_meet (a b : List UInt8) (h : a.length = b.length) (k : Nat) (hc : cfl a b k = false) : on (meetT a b) k = (on a k || on b k) := by
  by_cases hk : k < a.length
  · have hb : k < b.length := by omega
    simp only [cfl, fx, on, meetT_get a b h k hk, List.getElem?_eq_getElem hk, List.getElem?_eq_getElem hb] at hc ⊢
    generalize a[k] = x at *
    generalize b[k] = y at *
    by_cases e : x = 120
    · subst e; simp
    · by_cases e2 : y = 120
      · subst e2; simp [e]
      · simp [e, e2] at hc ⊢
        by_cases e3 : x = 49 <;> by_cases e4 : y = 49 <;> simp_all
  · simp only [on]
    rw [List.getElem?_eq_none (by rw [meetT_len a b h]; omega), List.getElem?_eq_none (by omega), List.getElem?_eq_none (by omega)]; rfl

theorem FW_meet (a b : List UInt8) (h : a.length = b.length) (w : Nat) : bits .or .u64 (FW a w : Int) (FW b w : Int) = (FW (meetT a b) w : Nat) := by
  rw [u64_or_nat _ _ (FW_lt _ _) (FW_lt _ _)]
  congr 1
  apply Nat.eq_of_testBit_eq
  intro i
  rw [Nat.testBit_or, FW_bit, FW_bit, FW_bit, fx_meet a b h]
  by_cases hi : i < 64 <;> simp [hi]
theorem OW_meet (a b : List UInt8) (h : a.length = b.length) (hc : ∀ k, cfl a b k = false) (w : Nat) : bits .or .u64 (OW a w : Int) (OW b w : Int) = (OW (meetT a b) w : Nat) := by
  rw [u64_or_nat _ _ (OW_lt _ _) (OW_lt _ _)]
  congr 1
  apply Nat.eq_of_testBit_eq
  intro i
  rw [Nat.testBit_or, OW_bit, OW_bit, OW_bit, on_meet a b h _ (hc _)]
  by_cases hi : i < 64 <;> simp [hi]

theorem good_zip (f : UInt8 → UInt8 → UInt8) (a b : List UInt8) (ha : good a = true) (hb : good b = true) (hf : ∀ x y, tri x = true → tri y = true → tri (f x y) = true) : good (List.zipWith f a b) = true := by
  have h1 := good_len ha
  simp only [good, Bool.and_eq_true, decide_eq_true_eq, List.all_eq_true]
  refine ⟨by simp; omega, ?_⟩
  intro x hx
  obtain ⟨k, hk, rfl⟩ := List.getElem_of_mem hx
  simp at hk
  rw [List.getElem_zipWith]
  exact hf _ _ (good_tri ha k (by omega)) (good_tri hb k (by omega))

theorem good_meet (a b : List UInt8) (ha : good a = true) (hb : good b = true) : good (meetT a b) = true :=
  good_zip _ a b ha hb (fun x y hx hy => by split <;> assumption)

/-- what Meet answers -/
def mtT (a b : List UInt8) : List UInt8 := if agB a b = true then meetT a b else []
theorem good_mtT (a b : List UInt8) (ha : good a = true) (hb : good b = true) : good (mtT a b) = true := by
  unfold mtT; split
  · exact good_meet a b ha hb
  · exact good_nil

/-- P1.6 -/
def wiB (a b : List UInt8) : Bool := fitB a b && allTo (fun k => match a[k]?, b[k]? with | some x, some y => y == 120 || x == y | _, _ => true) a.length

end Go.Proofs.YtpbbmmkhlpkkbaaGreatDoor
namespace Go.Proofs.YtpbbmmkhlpkkbaaGreatDoor
open Go.RowKit

theorem alloc_get2 (w : World) (o1 o2 o3 : Obj) : (((w.alloc o1).alloc o2).alloc o3).heap[w.heap.size + 2]? = some o3 := by
  have := alloc_get ((w.alloc o1).alloc o2) o3
  simpa using this

set_option maxHeartbeats 400000 in
theorem fits_any (a b : List UInt8) (w : World) : Calls Tryz.prog 74 #[cubeV a, cubeV b] w fun e w' => e = .returned (.bool (fitB a b)) ∧ Below w.heap.size w w' := by
  have hfin : Hid (fitB a b = (((a.length : Int) != 0) && ((a.length : Int) == (b.length : Int)))) := by
    unfold Hid fitB
    cases a with
    | nil => simp
    | cons x l =>
      rw [Bool.eq_iff_iff]
      simp
      omega
  unfold cubeV cv
  cases h0 : ((a.length : Int) != 0)
  all_goals
    go_enter Tryz.func74, Tryz.ntmps74
    go_wp2
    go_ret
    refine ⟨?_, ((Below.refl _ _).alloc (Nat.le_refl _) _).alloc (by simp) _⟩
    rw [hfin.out, h0]
    rfl

theorem fits_D (a b : List UInt8) (q : Bool) (w : World) (h : fitB a b = q) : Calls Tryz.prog 74 #[cubeV a, cubeV b] w fun e w' => e = .returned (.bool q) ∧ Below w.heap.size w w' := by
  subst h; exact fits_any a b w

set_option maxHeartbeats 1000000 in
theorem agrees_walk (a b : List UInt8) (q q0 q1 q2 q3 : Bool) (w : World) (hq0 : fitB a b = q) (h0 : cw a b 0 = q0) (h1 : cw a b 1 = q1) (h2 : cw a b 2 = q2) (h3 : cw a b 3 = q3) :
    Calls Tryz.prog 73 #[cubeV a, cubeV b] w fun e w' => e = .returned (.bool (q && (!q0 && !q1 && !q2 && !q3))) ∧ Below w.heap.size w w' := by
  have hq : Hid (fitB a b = q) := hq0
  clear hq0
  unfold cw at h0 h1 h2 h3
  unfold cubeV cv
  cases q
  · go_enter Tryz.func73, Tryz.ntmps73
    go_wp2_with (go_at_call 74; refine (fits_D a b false _ hq.out).mono ?_; rintro e w1 ⟨rfl, hb1⟩)
    go_ret
    exact ⟨rfl, bel1 (bel1 hb1)⟩
  · go_enter Tryz.func73, Tryz.ntmps73
    go_wp2_with (go_at_call 74; refine (fits_D a b true _ hq.out).mono ?_; rintro e w1 ⟨rfl, hb1⟩; obtain ⟨hc1, hf1⟩ := bcell hb1)
    refine wp_loop_rounds 5 ?_
    rw [rounds_succ]
    go_wp2
    go_quiet (fail)
    cases q0
    rotate_left
    · go_wp2
      go_ret
      exact ⟨rfl, by first | exact (bel1 (bel1 hb1)).trans (below_drewN _ _ _) | exact ((bel1 (bel1 hb1)).trans (below_drewN _ _ _)).trans (below_drewN _ _ _)⟩
    go_wp2
    rw [rounds_succ]
    go_wp2
    go_quiet (fail)
    cases q1
    rotate_left
    · go_wp2
      go_ret
      exact ⟨rfl, by first | exact (bel1 (bel1 hb1)).trans (below_drewN _ _ _) | exact ((bel1 (bel1 hb1)).trans (below_drewN _ _ _)).trans (below_drewN _ _ _)⟩
    go_wp2
    rw [rounds_succ]
    go_wp2
    go_quiet (fail)
    cases q2
    rotate_left
    · go_wp2
      go_ret
      exact ⟨rfl, by first | exact (bel1 (bel1 hb1)).trans (below_drewN _ _ _) | exact ((bel1 (bel1 hb1)).trans (below_drewN _ _ _)).trans (below_drewN _ _ _)⟩
    go_wp2
    rw [rounds_succ]
    go_wp2
    go_quiet (fail)
    cases q3
    rotate_left
    · go_wp2
      go_ret
      exact ⟨rfl, by first | exact (bel1 (bel1 hb1)).trans (below_drewN _ _ _) | exact ((bel1 (bel1 hb1)).trans (below_drewN _ _ _)).trans (below_drewN _ _ _)⟩
    go_wp2
    rw [rounds_succ]
    go_wp2
    go_ret
    exact ⟨rfl, (bel1 (bel1 hb1)).trans (below_drewN _ _ _)⟩

theorem agrees_any (a b : List UInt8) (w : World) (ha : good a = true) : Calls Tryz.prog 73 #[cubeV a, cubeV b] w fun e w' => e = .returned (.bool (agB a b)) ∧ Below w.heap.size w w' := by
  refine (agrees_walk a b _ _ _ _ _ w rfl rfl rfl rfl rfl).mono ?_
  rintro e w' ⟨rfl, hb⟩
  exact ⟨by unfold agB; rw [ag_words a b ha], hb⟩

theorem agrees_D (a b : List UInt8) (q : Bool) (w : World) (ha : good a = true) (h : agB a b = q) : Calls Tryz.prog 73 #[cubeV a, cubeV b] w fun e w' => e = .returned (.bool q) ∧ Below w.heap.size w w' := by
  subst h; exact agrees_any a b w ha

set_option maxHeartbeats 400000 in
theorem meet_no (a b : List UInt8) (w : World) (ha : good a = true) (hq0 : agB a b = false) :
    Calls Tryz.prog 71 #[cubeV a, cubeV b] w fun e w' => e = .returned (.tuple #[cubeV [], .bool false]) ∧ Below w.heap.size w w' := by
  have hq : Hid (agB a b = false) := hq0
  clear hq0
  rw [cubeV_nil]
  unfold cubeV cv
  go_enter Tryz.func71, Tryz.ntmps71
  go_wp2_with (go_at_call 73; refine (agrees_D a b false _ ha hq.out).mono ?_; rintro e w1 ⟨rfl, hb1⟩; obtain ⟨hc1, hf1⟩ := bcell hb1)
  have hk : w1.heap[w.heap.size + 2]? = some (.cells #[.int .i64 0, .int .u64 0, .int .u64 0, .int .u64 0, .int .u64 0, .int .u64 0, .int .u64 0, .int .u64 0, .int .u64 0] 38 (0, 0)) := by
    rw [hb1.block _ (by simp)]
    exact alloc_get2 _ _ _ _
  refine bodyPost_ret (v := .tuple #[cv 0 0 0 0 0 0 0 0 0, .bool false]) ?_ rfl ⟨rfl, ?_⟩
  · exact res_cube2 _ _ (w.heap.size + 2) _ _ _ _ _ _ _ _ _ Tryz.results71 rfl (put9_get _ _ _ _ _ _ _ _ _ hk)
  · exact put9_below _ _ _ _ _ _ _ _ _ (bel1 (bel1 (bel1 hb1))) (by omega)
end Go.Proofs.YtpbbmmkhlpkkbaaGreatDoor
namespace Go.Proofs.YtpbbmmkhlpkkbaaGreatDoor
open Go.RowKit

/-- word j behind k rounds -/
def mxi (k j : Nat) (x y : Int) : Int := if j < k then y else x

theorem set2_0 {W : World} {b T : Nat} {m : Nat × Nat} {x0 x1 x2 x3 x4 x5 x6 x7 x8 : Value} (u v : Value) (h : W.heap[b]? = some (.cells #[x0, x1, x2, x3, x4, x5, x6, x7, x8] T m)) :
    ((W.setCell ⟨b, 1, none⟩ u).setCell ⟨b, 5, none⟩ v).heap[b]? = some (.cells #[x0, u, x2, x3, x4, v, x6, x7, x8] T m) := by
  have h0 := set_get (j := 1) u h
  have h1 := set_get (j := 5) v h0
  rw [h1]; simp

theorem set2_1 {W : World} {b T : Nat} {m : Nat × Nat} {x0 x1 x2 x3 x4 x5 x6 x7 x8 : Value} (u v : Value) (h : W.heap[b]? = some (.cells #[x0, x1, x2, x3, x4, x5, x6, x7, x8] T m)) :
    ((W.setCell ⟨b, 2, none⟩ u).setCell ⟨b, 6, none⟩ v).heap[b]? = some (.cells #[x0, x1, u, x3, x4, x5, v, x7, x8] T m) := by
  have h0 := set_get (j := 2) u h
  have h1 := set_get (j := 6) v h0
  rw [h1]; simp

theorem set2_2 {W : World} {b T : Nat} {m : Nat × Nat} {x0 x1 x2 x3 x4 x5 x6 x7 x8 : Value} (u v : Value) (h : W.heap[b]? = some (.cells #[x0, x1, x2, x3, x4, x5, x6, x7, x8] T m)) :
    ((W.setCell ⟨b, 3, none⟩ u).setCell ⟨b, 7, none⟩ v).heap[b]? = some (.cells #[x0, x1, x2, u, x4, x5, x6, v, x8] T m) := by
  have h0 := set_get (j := 3) u h
  have h1 := set_get (j := 7) v h0
  rw [h1]; simp

theorem set2_3 {W : World} {b T : Nat} {m : Nat × Nat} {x0 x1 x2 x3 x4 x5 x6 x7 x8 : Value} (u v : Value) (h : W.heap[b]? = some (.cells #[x0, x1, x2, x3, x4, x5, x6, x7, x8] T m)) :
    ((W.setCell ⟨b, 4, none⟩ u).setCell ⟨b, 8, none⟩ v).heap[b]? = some (.cells #[x0, x1, x2, x3, u, x5, x6, x7, v] T m) := by
  have h0 := set_get (j := 4) u h
  have h1 := set_get (j := 8) v h0
  rw [h1]; simp

theorem set2_ne {W : World} {a1 a2 : Addr} {c : Nat} {o : Obj} (u v : Value) (h1 : c ≠ a1.block) (h2 : c ≠ a2.block) (h : W.heap[c]? = some o) : ((W.setCell a1 u).setCell a2 v).heap[c]? = some o := by
  rw [Below.heap_setCell _ _ _ _ h2, Below.heap_setCell _ _ _ _ h1]; exact h

theorem alloc3_0 (w : World) (o1 o2 o3 : Obj) : (((w.alloc o1).alloc o2).alloc o3).heap[w.heap.size]? = some o1 := by
  rw [Below.heap_alloc _ _ _ (by simp; omega), Below.heap_alloc _ _ _ (by simp)]
  exact alloc_get _ _
theorem alloc3_1 (w : World) (o1 o2 o3 : Obj) : (((w.alloc o1).alloc o2).alloc o3).heap[w.heap.size + 1]? = some o2 := by
  rw [Below.heap_alloc _ _ _ (by simp)]
  have := alloc_get (w.alloc o1) o2
  simpa using this

set_option maxHeartbeats 1000000 in
theorem common_raw (n f0 f1 f2 f3 o0 o1 o2 o3 m g0 g1 g2 g3 p0 p1 p2 p3 : Int) (w : World) :
    Calls Tryz.prog 97 #[cv n f0 f1 f2 f3 o0 o1 o2 o3, cv m g0 g1 g2 g3 p0 p1 p2 p3] w fun e w' => e = .returned (cv n (bits .or .u64 f0 g0) (bits .or .u64 f1 g1) (bits .or .u64 f2 g2) (bits .or .u64 f3 g3) (bits .or .u64 o0 p0) (bits .or .u64 o1 p1) (bits .or .u64 o2 p2) (bits .or .u64 o3 p3)) ∧ Below w.heap.size w w' := by
  unfold cv
  go_enter Tryz.func97, Tryz.ntmps97
  go_wp2
  have hA1 := alloc3_0 w (.cells #[.int .i64 n, .int .u64 f0, .int .u64 f1, .int .u64 f2, .int .u64 f3, .int .u64 o0, .int .u64 o1, .int .u64 o2, .int .u64 o3] 38 (0, 0)) (.cells #[.int .i64 m, .int .u64 g0, .int .u64 g1, .int .u64 g2, .int .u64 g3, .int .u64 p0, .int .u64 p1, .int .u64 p2, .int .u64 p3] 38 (0, 0)) (.cells #[.int .i64 0, .int .u64 0, .int .u64 0, .int .u64 0, .int .u64 0, .int .u64 0, .int .u64 0, .int .u64 0, .int .u64 0] 38 (0, 0))
  have hB1 := alloc3_1 w (.cells #[.int .i64 n, .int .u64 f0, .int .u64 f1, .int .u64 f2, .int .u64 f3, .int .u64 o0, .int .u64 o1, .int .u64 o2, .int .u64 o3] 38 (0, 0)) (.cells #[.int .i64 m, .int .u64 g0, .int .u64 g1, .int .u64 g2, .int .u64 g3, .int .u64 p0, .int .u64 p1, .int .u64 p2, .int .u64 p3] 38 (0, 0)) (.cells #[.int .i64 0, .int .u64 0, .int .u64 0, .int .u64 0, .int .u64 0, .int .u64 0, .int .u64 0, .int .u64 0, .int .u64 0] 38 (0, 0))
  have hC1 := alloc_get2 w (.cells #[.int .i64 n, .int .u64 f0, .int .u64 f1, .int .u64 f2, .int .u64 f3, .int .u64 o0, .int .u64 o1, .int .u64 o2, .int .u64 o3] 38 (0, 0)) (.cells #[.int .i64 m, .int .u64 g0, .int .u64 g1, .int .u64 g2, .int .u64 g3, .int .u64 p0, .int .u64 p1, .int .u64 p2, .int .u64 p3] 38 (0, 0)) (.cells #[.int .i64 0, .int .u64 0, .int .u64 0, .int .u64 0, .int .u64 0, .int .u64 0, .int .u64 0, .int .u64 0, .int .u64 0] 38 (0, 0))
  have hW1 := bel1 (bel1 (bel1 (Below.refl _ (((w.alloc (.cells #[.int .i64 n, .int .u64 f0, .int .u64 f1, .int .u64 f2, .int .u64 f3, .int .u64 o0, .int .u64 o1, .int .u64 o2, .int .u64 o3] 38 (0, 0))).alloc (.cells #[.int .i64 m, .int .u64 g0, .int .u64 g1, .int .u64 g2, .int .u64 g3, .int .u64 p0, .int .u64 p1, .int .u64 p2, .int .u64 p3] 38 (0, 0))).alloc (.cells #[.int .i64 0, .int .u64 0, .int .u64 0, .int .u64 0, .int .u64 0, .int .u64 0, .int .u64 0, .int .u64 0, .int .u64 0] 38 (0, 0))))))
  go_loopw [6] (fun i wr => ∃ k : Nat, k ≤ 4 ∧ i = .int .i64 k ∧ wr.heap[w.heap.size]? = some (.cells #[.int .i64 n, .int .u64 (mxi k 0 f0 (bits .or .u64 f0 g0)), .int .u64 (mxi k 1 f1 (bits .or .u64 f1 g1)), .int .u64 (mxi k 2 f2 (bits .or .u64 f2 g2)), .int .u64 (mxi k 3 f3 (bits .or .u64 f3 g3)), .int .u64 (mxi k 0 o0 (bits .or .u64 o0 p0)), .int .u64 (mxi k 1 o1 (bits .or .u64 o1 p1)), .int .u64 (mxi k 2 o2 (bits .or .u64 o2 p2)), .int .u64 (mxi k 3 o3 (bits .or .u64 o3 p3))] 38 (0, 0)) ∧ wr.heap[w.heap.size + 1]? = some (.cells #[.int .i64 m, .int .u64 g0, .int .u64 g1, .int .u64 g2, .int .u64 g3, .int .u64 p0, .int .u64 p1, .int .u64 p2, .int .u64 p3] 38 (0, 0)) ∧ wr.heap[w.heap.size + 2]? = some (.cells #[.int .i64 0, .int .u64 0, .int .u64 0, .int .u64 0, .int .u64 0, .int .u64 0, .int .u64 0, .int .u64 0, .int .u64 0] 38 (0, 0)) ∧ Below w.heap.size w wr) (fun i _ => 4 - (intOf i).toNat)
  case atStart => exact ⟨0, by omega, rfl, hA1, hB1, hC1, hW1⟩
  case round =>
    clear hA1 hB1 hC1 hW1
    obtain ⟨k, hk, rfl, hA0, hB, hC, hW⟩ := hrel
    obtain ⟨hcB, hfB⟩ := cells_block hB
    rcases (show k = 0 ∨ k = 1 ∨ k = 2 ∨ k = 3 ∨ k = 4 by omega) with rfl | rfl | rfl | rfl | rfl
    · have hA : wr.heap[w.heap.size]? = some (.cells #[.int .i64 n, .int .u64 f0, .int .u64 f1, .int .u64 f2, .int .u64 f3, .int .u64 o0, .int .u64 o1, .int .u64 o2, .int .u64 o3] 38 (0, 0)) := hA0
      obtain ⟨hcA, hfA⟩ := cells_block hA
      clear hA0
      go_wp2
      go_region
      go_wp2
      go_region
      go_wp2
      go_roundw
      case rel => exact ⟨1, by omega, rfl, set2_0 _ _ hA, set2_ne _ _ (by simp) (by simp) hB, set2_ne _ _ (by simp) (by simp) hC, ((hW.setCell (Nat.le_refl _) _).setCell (Nat.le_refl _) _).drew.drew⟩
      case measure => simp [intOf]
    · have hA : wr.heap[w.heap.size]? = some (.cells #[.int .i64 n, .int .u64 (bits .or .u64 f0 g0), .int .u64 f1, .int .u64 f2, .int .u64 f3, .int .u64 (bits .or .u64 o0 p0), .int .u64 o1, .int .u64 o2, .int .u64 o3] 38 (0, 0)) := hA0
      obtain ⟨hcA, hfA⟩ := cells_block hA
      clear hA0
      go_wp2
      go_region
      go_wp2
      go_region
      go_wp2
      go_roundw
      case rel => exact ⟨2, by omega, rfl, set2_1 _ _ hA, set2_ne _ _ (by simp) (by simp) hB, set2_ne _ _ (by simp) (by simp) hC, ((hW.setCell (Nat.le_refl _) _).setCell (Nat.le_refl _) _).drew.drew⟩
      case measure => simp [intOf]
    · have hA : wr.heap[w.heap.size]? = some (.cells #[.int .i64 n, .int .u64 (bits .or .u64 f0 g0), .int .u64 (bits .or .u64 f1 g1), .int .u64 f2, .int .u64 f3, .int .u64 (bits .or .u64 o0 p0), .int .u64 (bits .or .u64 o1 p1), .int .u64 o2, .int .u64 o3] 38 (0, 0)) := hA0
      obtain ⟨hcA, hfA⟩ := cells_block hA
      clear hA0
      go_wp2
      go_region
      go_wp2
      go_region
      go_wp2
      go_roundw
      case rel => exact ⟨3, by omega, rfl, set2_2 _ _ hA, set2_ne _ _ (by simp) (by simp) hB, set2_ne _ _ (by simp) (by simp) hC, ((hW.setCell (Nat.le_refl _) _).setCell (Nat.le_refl _) _).drew.drew⟩
      case measure => simp [intOf]
    · have hA : wr.heap[w.heap.size]? = some (.cells #[.int .i64 n, .int .u64 (bits .or .u64 f0 g0), .int .u64 (bits .or .u64 f1 g1), .int .u64 (bits .or .u64 f2 g2), .int .u64 f3, .int .u64 (bits .or .u64 o0 p0), .int .u64 (bits .or .u64 o1 p1), .int .u64 (bits .or .u64 o2 p2), .int .u64 o3] 38 (0, 0)) := hA0
      obtain ⟨hcA, hfA⟩ := cells_block hA
      clear hA0
      go_wp2
      go_region
      go_wp2
      go_region
      go_wp2
      go_roundw
      case rel => exact ⟨4, by omega, rfl, set2_3 _ _ hA, set2_ne _ _ (by simp) (by simp) hB, set2_ne _ _ (by simp) (by simp) hC, ((hW.setCell (Nat.le_refl _) _).setCell (Nat.le_refl _) _).drew.drew⟩
      case measure => simp [intOf]
    · have hA : wr.heap[w.heap.size]? = some (.cells #[.int .i64 n, .int .u64 (bits .or .u64 f0 g0), .int .u64 (bits .or .u64 f1 g1), .int .u64 (bits .or .u64 f2 g2), .int .u64 (bits .or .u64 f3 g3), .int .u64 (bits .or .u64 o0 p0), .int .u64 (bits .or .u64 o1 p1), .int .u64 (bits .or .u64 o2 p2), .int .u64 (bits .or .u64 o3 p3)] 38 (0, 0)) := hA0
      obtain ⟨hcA, hfA⟩ := cells_block hA
      obtain ⟨hcC, hfC⟩ := cells_block hC
      clear hA0
      go_wp2
      refine bodyPost_ret (v := cv n (bits .or .u64 f0 g0) (bits .or .u64 f1 g1) (bits .or .u64 f2 g2) (bits .or .u64 f3 g3) (bits .or .u64 o0 p0) (bits .or .u64 o1 p1) (bits .or .u64 o2 p2) (bits .or .u64 o3 p3)) ?_ rfl ⟨rfl, ?_⟩
      · exact res_cube1 _ _ (w.heap.size + 2) _ _ _ _ _ _ _ _ _ Tryz.results97 rfl (put9_get _ _ _ _ _ _ _ _ _ hC)
      · exact put9_below _ _ _ _ _ _ _ _ _ hW (by omega)

set_option maxHeartbeats 1000000 in
theorem meet_raw (n f0 f1 f2 f3 o0 o1 o2 o3 m g0 g1 g2 g3 p0 p1 p2 p3 : Int) (w : World)
    (hcall0 : ∀ W, Calls Tryz.prog 73 #[cv n f0 f1 f2 f3 o0 o1 o2 o3, cv m g0 g1 g2 g3 p0 p1 p2 p3] W fun e w' => e = .returned (.bool true) ∧ Below W.heap.size W w') :
    Calls Tryz.prog 71 #[cv n f0 f1 f2 f3 o0 o1 o2 o3, cv m g0 g1 g2 g3 p0 p1 p2 p3] w fun e w' => e = .returned (.tuple #[cv n (bits .or .u64 f0 g0) (bits .or .u64 f1 g1) (bits .or .u64 f2 g2) (bits .or .u64 f3 g3) (bits .or .u64 o0 p0) (bits .or .u64 o1 p1) (bits .or .u64 o2 p2) (bits .or .u64 o3 p3), .bool true]) ∧ Below w.heap.size w w' := by
  have hcall : Hid (∀ W, Calls Tryz.prog 73 #[cv n f0 f1 f2 f3 o0 o1 o2 o3, cv m g0 g1 g2 g3 p0 p1 p2 p3] W fun e w' => e = .returned (.bool true) ∧ Below W.heap.size W w') := hcall0
  have hcom : Hid (∀ W, Calls Tryz.prog 97 #[cv n f0 f1 f2 f3 o0 o1 o2 o3, cv m g0 g1 g2 g3 p0 p1 p2 p3] W fun e w' => e = .returned (cv n (bits .or .u64 f0 g0) (bits .or .u64 f1 g1) (bits .or .u64 f2 g2) (bits .or .u64 f3 g3) (bits .or .u64 o0 p0) (bits .or .u64 o1 p1) (bits .or .u64 o2 p2) (bits .or .u64 o3 p3)) ∧ Below W.heap.size W w') := fun W => common_raw n f0 f1 f2 f3 o0 o1 o2 o3 m g0 g1 g2 g3 p0 p1 p2 p3 W
  clear hcall0
  unfold cv
  go_enter Tryz.func71, Tryz.ntmps71
  go_wp2_with (go_at_call 73; refine (hcall.out _).mono ?_; rintro e w1 ⟨rfl, hb1⟩; have hA1 := (hb1.block w.heap.size (by simp; omega)).trans (alloc3_0 _ _ _ _); have hB1 := (hb1.block (w.heap.size + 1) (by simp)).trans (alloc3_1 _ _ _ _); have hC1 := (hb1.block (w.heap.size + 2) (by simp)).trans (alloc_get2 _ _ _ _); have hW1 := bel1 (bel1 (bel1 hb1)); have hz1 : w.heap.size + 3 ≤ w1.heap.size := by { have := hb1.size; simp at this; omega }; clear hb1; obtain ⟨hcA, hfA⟩ := cells_block hA1; obtain ⟨hcB, hfB⟩ := cells_block hB1)
  refine (hcom.out _).mono ?_
  rintro e w2 ⟨rfl, hb2⟩
  have hC2 := (hb2.block (w.heap.size + 2) (by omega)).trans hC1
  have hW2 : Below w.heap.size w w2 := bel0 hW1 hb2
  clear hcA hfA hcB hfB hA1 hB1 hC1
  obtain ⟨hcC, hfC⟩ := cells_block hC2
  unfold cv
  go_wp2
  refine bodyPost_ret (v := .tuple #[cv n (bits .or .u64 f0 g0) (bits .or .u64 f1 g1) (bits .or .u64 f2 g2) (bits .or .u64 f3 g3) (bits .or .u64 o0 p0) (bits .or .u64 o1 p1) (bits .or .u64 o2 p2) (bits .or .u64 o3 p3), .bool true]) ?_ rfl ⟨rfl, ?_⟩
  · exact res_cube2 _ _ (w.heap.size + 2) _ _ _ _ _ _ _ _ _ Tryz.results71 rfl (put9_get _ _ _ _ _ _ _ _ _ hC2)
  · exact put9_below _ _ _ _ _ _ _ _ _ hW2 (by omega)

end Go.Proofs.YtpbbmmkhlpkkbaaGreatDoor
namespace Go.Proofs.YtpbbmmkhlpkkbaaGreatDoor
open Go.RowKit

theorem conv_any (W : World) (B : Nat) (v : Value) (t : List UInt8) (hown : W.ownsRow B 5 1 v t.length (bys t)) :
    (convert 56 9 v).run Tryz.prog W = .ok (.string ⟨t.toArray⟩) W := by
  have h0 := hown
  obtain ⟨_, h2⟩ := hown
  rcases h2 with ⟨rfl, h2⟩ | ⟨g, cap, cur, rfl, h2⟩
  · have hz : t = [] := List.eq_nil_of_length_eq_zero (by simpa using h2)
    subst hz
    exact run_convert_bytes_nil W _ 5 Tryz.underlying56 Tryz.underlying5 _ _ _ Tryz.underlying9
  · exact conv_owned W B g cap t h0

theorem bel_app {w wr w1 : World} {o : Obj} {e : TypeId} {size : Nat} {v : Value} {n : Nat} {xs : List Value} (hB : Below w.heap.size w wr) (hown : wr.ownsRow w.heap.size e size v n xs) (hg : (wr.alloc o).grownBy w1 v.ownBlock) : Below w.heap.size w w1 :=
  (belA hB o).grown hg (belA hB o).size (fun k h => (hown.lt k h).1)

theorem bys_snoc (t : List UInt8) (b : UInt8) : bys t ++ [.int .u8 (b.toNat : Int)] = bys (t ++ [b]) := by simp [bys]

/-- the text of All -/
def allT (n : Int) : List UInt8 := if 1 ≤ n ∧ n ≤ 256 then List.replicate n.toNat 120 else []
theorem good_allT (n : Int) : good (allT n) = true := by
  unfold allT
  split
  · exact good_replicate _ (by omega)
  · exact good_nil
theorem allT_len (n : Int) : (allT n).length ≤ 256 := good_len (good_allT n)

theorem allV (n : Int) (w : World) : Calls Tryz.prog 19 #[.int .i64 n] w fun e w' => e = .returned (cubeV (allT n)) ∧ Below w.heap.size w w' := all_any n w

end Go.Proofs.YtpbbmmkhlpkkbaaGreatDoor
namespace Go.Proofs.YtpbbmmkhlpkkbaaGreatDoor
open Go.RowKit
theorem ne_byte' {b : UInt8} {n : Nat} (h : b ≠ UInt8.ofNat n) : ((b.toNat : Int) != ((n : Nat) : Int)) = true := by
  have := ne_byte h
  unfold bne
  rw [this]; rfl

theorem toList_str (s : ByteArray) : (⟨s.data.toList.toArray⟩ : ByteArray) = s := by
  obtain ⟨l⟩ := s; simp

end Go.Proofs.YtpbbmmkhlpkkbaaGreatDoor
namespace Go.Proofs.YtpbbmmkhlpkkbaaGreatDoor
open Go.RowKit
theorem res_put2 {fn : Func} {p u : Tmp} {m : Nat × Nat} {x0 x1 x2 x3 x4 x5 x6 x7 x8 : Value} (tmps : Array Value) (W : World) (b : Nat) (n a1 a2 a3 a4 o1 o2 o3 o4 : Int) (hr : fn.results = #[.cell p 38, .tmp u]) (hp : tmps.getD p undef = .pointer (some ⟨b, 0, none⟩))
    (h : W.heap[b]? = some (.cells #[x0, x1, x2, x3, x4, x5, x6, x7, x8] 38 m)) :
    (results fn tmps).run Tryz.prog (put9 W b (.int .i64 n) (.int .u64 a1) (.int .u64 a2) (.int .u64 a3) (.int .u64 a4) (.int .u64 o1) (.int .u64 o2) (.int .u64 o3) (.int .u64 o4)).drew
      = .ok (.tuple #[cv n a1 a2 a3 a4 o1 o2 o3 o4, tmps.getD u undef]) (put9 W b (.int .i64 n) (.int .u64 a1) (.int .u64 a2) (.int .u64 a3) (.int .u64 a4) (.int .u64 o1) (.int .u64 o2) (.int .u64 o3) (.int .u64 o4)).drew := by
  have hg := put9_get (.int .i64 n) (.int .u64 a1) (.int .u64 a2) (.int .u64 a3) (.int .u64 a4) (.int .u64 o1) (.int .u64 o2) (.int .u64 o3) (.int .u64 o4) h
  generalize put9 W b (.int .i64 n) (.int .u64 a1) (.int .u64 a2) (.int .u64 a3) (.int .u64 a4) (.int .u64 o1) (.int .u64 o2) (.int .u64 o3) (.int .u64 o4) = V at hg ⊢
  exact res_cube2 tmps V.drew b n a1 a2 a3 a4 o1 o2 o3 o4 hr hp hg

theorem undrew {B : Nat} {a w : World} (h : Below B a.drew w) : Below B a w := ⟨h.os, h.tape, h.output, h.size, h.block⟩
theorem blk_keep {w w1 w2 : World} {o O : Obj} (hb1 : Below (w.alloc o).heap.size (w.alloc o) w1) (hb2 : Below (w1.alloc O).heap.size (w1.alloc O) w2) : w2.heap[w.heap.size]? = some o := by
  have hz : w.heap.size < w1.heap.size := by have := hb1.size; simp at this; omega
  rw [hb2.block _ (by simp; omega), Below.heap_alloc _ _ _ hz, hb1.block _ (by simp)]
  exact alloc_get _ _

end Go.Proofs.YtpbbmmkhlpkkbaaGreatDoor

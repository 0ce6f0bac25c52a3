import Derived.Test.YtggifkdgkjmljaaGreatDoorZ32
import Derived.Test.YtggifkdgkjmljaaGreatDoorZ38
namespace Go.Proofs.YtggifkdgkjmljaaGreatDoor
open Go.RowKit Go.Shelf
set_option maxRecDepth 100000 in
set_option maxHeartbeats 2000000 in
theorem sameI_any (t : ITok) (w : World) :
    Calls Tryz.prog 8 #[iagg t, iagg t] w fun e w' => e = .returned (.bool true) ∧ Below w.heap.size w w' := by
  obtain ⟨a, b, c, d⟩ := t
  show Calls Tryz.prog 8 #[.agg #[.int .i64 a, .string ⟨b.toArray⟩, .int .i64 c, .int .i64 d], .agg #[.int .i64 a, .string ⟨b.toArray⟩, .int .i64 c, .int .i64 d]] w _
  go_enter Tryz.func8, Tryz.ntmps8
  go_wp2_with fail
  go_ret
  exact ⟨rfl, ((Below.refl _ _).alloc (Nat.le_refl _) _).alloc (by simp) _⟩
set_option maxRecDepth 100000 in
set_option maxHeartbeats 2000000 in
theorem sameAllI_any (D : List ITok) (o1 o2 : Option Addr) (c1 c2 : Nat) (w : World) (hL : D.length ≤ 281474976710656) (h1 : IR w o1 D) (h2 : IR w o2 D) :
    Calls Tryz.prog 7 #[.slice o1 D.length c1, .slice o2 D.length c2] w fun e w' => e = .returned (.bool true) ∧ Below w.heap.size w w' := by
  have x1 : Hid (IR w o1 D) := h1
  have x2 : Hid (IR w o2 D) := h2
  clear h1 h2
  go_enter Tryz.func7, Tryz.ntmps7
  go_wp2_with fail
  go_loopw [5] (fun i wr => ∃ k : Nat, k ≤ D.length ∧ i = .int .i64 k ∧ Below w.heap.size w wr) (fun i _ => D.length - (intOf i).toNat)
  case atStart => exact ⟨0, Nat.zero_le _, rfl, Below.refl _ _⟩
  case round =>
    obtain ⟨k, hk, rfl, hB⟩ := hrel
    by_cases hlt : k < D.length
    · have j1 : (k : Int) < (D.length : Int) := by omega
      have j0 : (0 : Int) ≤ (k : Int) := by omega
      obtain ⟨t, ht⟩ : ∃ t, D[k]? = some t := ⟨_, List.getElem?_eq_getElem hlt⟩
      obtain ⟨G1, Q1, rfl, -⟩ := x1.out w (Below.refl _ _) k t ht
      obtain ⟨G2, Q2, rfl, -⟩ := x2.out w (Below.refl _ _) k t ht
      have X1 : Hid (∀ W, Below w.heap.size w W → W.cell? ⟨G1, Q1 + k * 4, none⟩ = some (.int .i64 t.1) ∧ W.cell? ⟨G1, Q1 + k * 4 + 1, none⟩ = some (.string ⟨t.2.1.toArray⟩) ∧ W.cell? ⟨G1, Q1 + k * 4 + 2, none⟩ = some (.int .i64 t.2.2.1) ∧ W.cell? ⟨G1, Q1 + k * 4 + 3, none⟩ = some (.int .i64 t.2.2.2)) := fun W hW => by
        obtain ⟨g2, q2, e, h⟩ := x1.out W hW k t ht
        injection e with e
        injection e with e1 e2
        subst e1 e2
        exact h
      have X2 : Hid (∀ W, Below w.heap.size w W → W.cell? ⟨G2, Q2 + k * 4, none⟩ = some (.int .i64 t.1) ∧ W.cell? ⟨G2, Q2 + k * 4 + 1, none⟩ = some (.string ⟨t.2.1.toArray⟩) ∧ W.cell? ⟨G2, Q2 + k * 4 + 2, none⟩ = some (.int .i64 t.2.2.1) ∧ W.cell? ⟨G2, Q2 + k * 4 + 3, none⟩ = some (.int .i64 t.2.2.2)) := fun W hW => by
        obtain ⟨g2, q2, e, h⟩ := x2.out W hW k t ht
        injection e with e
        injection e with e1 e2
        subst e1 e2
        exact h
      clear x1 x2
      go_wp2_with fail
      refine quiet_lit3 (C := fun W => Below w.heap.size w W) (by kernel_rfl) (by kernel_rfl) (show Below _ _ _ from hB.drew) ?_
      go_big_quiet_want
      go_big_quiet_op
      go_big_quiet_on
      go_big_quiet_want
      go_big_quiet_op
      go_big_quiet_on
      go_big_quiet_want
      refine ⟨.pointer (some ⟨G1, Q1 + k * 4, none⟩), fun W hW => ?_, ?_⟩
      · go_simp
      go_big_quiet_on
      simp only [Act.put, List.setIfInBounds_toArray, List.set_cons_zero, List.set_cons_succ]
      go_big_quiet_want
      refine ⟨iagg t, fun W hW => ?_, ?_⟩
      · obtain ⟨p0, p1, p2, p3⟩ := X1.out W hW
        go_simp
        rfl
      go_big_quiet_on
      simp only [Act.put, List.setIfInBounds_toArray, List.set_cons_zero, List.set_cons_succ]
      go_big_quiet_want
      go_big_quiet_op
      go_big_quiet_on
      go_big_quiet_want
      go_big_quiet_op
      go_big_quiet_on
      go_big_quiet_want
      refine ⟨.pointer (some ⟨G2, Q2 + k * 4, none⟩), fun W hW => ?_, ?_⟩
      · go_simp
      go_big_quiet_on
      simp only [Act.put, List.setIfInBounds_toArray, List.set_cons_zero, List.set_cons_succ]
      go_big_quiet_want
      refine ⟨iagg t, fun W hW => ?_, ?_⟩
      · obtain ⟨p0, p1, p2, p3⟩ := X2.out W hW
        go_simp
        rfl
      go_big_quiet_on
      simp only [Act.put, List.setIfInBounds_toArray, List.set_cons_zero, List.set_cons_succ]
      go_big_quiet_want
      refine ⟨.bool true, fun W hW => ?_, ?_⟩
      · go_simp
        refine (sameI_any t W).mono ?_
        rintro e w7 ⟨rfl, hb⟩
        exact ⟨rfl, bel0 hW hb⟩
      go_big_quiet_on
      simp only [Act.put, List.setIfInBounds_toArray, List.set_cons_zero, List.set_cons_succ]
      go_big_quiet_want
      refine ⟨.bool false, fun W hW => ?_, ?_⟩
      · go_simp
      go_big_quiet_on
      simp only [Act.put, List.setIfInBounds_toArray, List.set_cons_zero, List.set_cons_succ]
      refine wpQuiet_nil ?_
      intro W hW
      go_wp2_with fail
      go_roundw
      case rel => exact ⟨k + 1, by omega, by go_num, hW⟩
      case measure => simp [intOf]; omega
    · have j1 : ¬ (k : Int) < (D.length : Int) := by omega
      go_wp2_with fail
      go_ret
      exact ⟨rfl, hB⟩
/-- the mark of a number -/
def markT (n : Int) : ITok := (100 + n, [109, 97, 114, 107], n, -n)
theorem res_mark (tmps : Array Value) (W : World) (b : Nat) (a : Int) (x : List UInt8) (c d : Int) (hp : tmps.getD 2 undef = .pointer (some ⟨b, 0, none⟩)) (h : W.heap[b]? = some (.cells #[.int .i64 a, .string ⟨x.toArray⟩, .int .i64 c, .int .i64 d] 24)) :
    (results Tryz.f4 tmps).run Tryz.prog W = .ok (iagg (a, x, c, d)) W := by
  have hc : ∀ j, W.cell? ⟨b, j, none⟩ = (#[.int .i64 a, .string ⟨x.toArray⟩, .int .i64 c, .int .i64 d] : Array Value)[j]? := by
    intro j; unfold World.cell?; rw [h]; simp
  have hp' : tmps[2]?.getD undef = .pointer (some ⟨b, 0, none⟩) := by simpa using hp
  simp [results, hp', go_sem, hc]
  rfl
set_option maxRecDepth 100000 in
set_option maxHeartbeats 1000000 in
theorem mark_any (n : Int) (w : World) (hn : 0 ≤ n ∧ n ≤ 2) : Calls Tryz.prog 4 #[.int .i64 n] w fun e w' => e = .returned (iagg (markT n)) ∧ Below w.heap.size w w' := by
  obtain ⟨h0, h1⟩ := hn
  have e1 : IntKind.i64.wrap (100 + n) = 100 + n := by rw [IntKind.wrap_i64]; omega
  have e2 : IntKind.i64.wrap (-n) = -n := by rw [IntKind.wrap_i64]; omega
  go_enter Tryz.func4, Tryz.ntmps4
  go_wp2_with fail
  refine bodyPost_ret (res_mark _ _ w.heap.size (100 + n) [109, 97, 114, 107] n (-n) rfl (alloc_get _ _)) rfl ?_
  refine ⟨rfl, ?_⟩
  exact (Below.refl _ _).alloc (Nat.le_refl _) _
/-- is it this sign -/
def sgnB (t : ITok) (s : List UInt8) : Bool := t.1 == 7 && t.2.1 == s
set_option maxRecDepth 100000 in
theorem refSgn_any (t : ITok) (s : List UInt8) (w : World) : Calls Tryz.prog 16 #[iagg t, .string ⟨s.toArray⟩] w fun e w' => e = .returned (.bool (sgnB t s)) ∧ Below w.heap.size w w' := by
  obtain ⟨a, x, c, d⟩ := t
  show Calls Tryz.prog 16 #[.agg #[.int .i64 a, .string ⟨x.toArray⟩, .int .i64 c, .int .i64 d], .string ⟨s.toArray⟩] w _
  by_cases h7 : a = 7
  · subst h7
    by_cases hx : x = s
    · have hr : Hid (sgnB (7, x, c, d) s = true) := by unfold Hid sgnB; simp [hx]
      subst hx
      have y0 : (x == x) = true := beq_self_eq_true x
      go_enter Tryz.func16, Tryz.ntmps16
      go_wp2_with fail
      go_ret
      exact ⟨by rw [hr.out]; rfl, (Below.refl _ _).alloc (Nat.le_refl _) _⟩
    · have hr : Hid (sgnB (7, x, c, d) s = false) := by unfold Hid sgnB; simp [hx]
      have y0 : (x == s) = false := beq_eq_false_iff_ne.2 hx
      go_enter Tryz.func16, Tryz.ntmps16
      go_wp2_with fail
      go_ret
      exact ⟨by rw [hr.out]; rfl, (Below.refl _ _).alloc (Nat.le_refl _) _⟩
  · have hr : Hid (sgnB (a, x, c, d) s = false) := by unfold Hid sgnB; simp [h7]
    have x1 : (a == 7) = false := beq_eq_false_iff_ne.2 h7
    go_enter Tryz.func16, Tryz.ntmps16
    go_wp2_with fail
    go_ret
    exact ⟨by rw [hr.out]; rfl, (Below.refl _ _).alloc (Nat.le_refl _) _⟩
theorem tok_sgn {t : ITok} (h : tokB t = true) {s : List UInt8} (hs : s ∈ signsL) : (s == t.2.1) = sgnB t s := by
  unfold sgnB
  by_cases e : t.2.1 = s
  · have h7 : t.1 = 7 := by
      rcases tokB_inv h with ⟨h1, h2⟩ | ⟨K, h1, hg⟩
      · rw [h2] at e
        subst e
        exact absurd hs (by decide)
      · rw [e] at hg
        rw [h1, kind7 hg hs]
        rfl
    rw [e, h7]
    simp
  · have e' : ¬ s = t.2.1 := fun h => e h.symm
    rw [beq_eq_false_iff_ne.2 e', beq_eq_false_iff_ne.2 e, Bool.and_false]
/-- does a space stand between two tokens, as the document asks it -/
def apaB (a b : ITok) : Bool :=
  if (a.1 == 1 || b.1 == 1) = true then false
  else if (sgnB a [40] || sgnB a [47] || sgnB a [46, 46] || sgnB a [58]) = true then false
  else if (sgnB b [41] || sgnB b [44] || sgnB b [47] || sgnB b [46, 46] || sgnB b [58]) = true then false
  else !sgnB a [33] || (!(b.1 == 2) && !sgnB b [40] && !sgnB b [33])
theorem apa_join {a b : ITok} (ha : tokB a = true) (hb : tokB b = true) : apaB a b = !joinB a b := by
  have e0 : ((2 : Int) == b.1) = (b.1 == 2) := by rw [Bool.eq_iff_iff, beq_iff_eq, beq_iff_eq]; omega
  have e1 : ∀ x : Int, ((1 : Int) == x) = (x == 1) := fun x => by rw [Bool.eq_iff_iff, beq_iff_eq, beq_iff_eq]; omega
  unfold joinB joinedT
  simp only [List.any_cons, List.any_nil, likeB, beq_self_eq_true, Bool.true_or, Bool.true_and, Bool.and_true, Bool.or_false, show ((1 : Int) == 0) = false from rfl, show ((2 : Int) == 0) = false from rfl, show (([40] : List UInt8) == []) = false from rfl, show (([41] : List UInt8) == []) = false from rfl, show (([44] : List UInt8) == []) = false from rfl, show (([47] : List UInt8) == []) = false from rfl, show (([46, 46] : List UInt8) == []) = false from rfl, show (([58] : List UInt8) == []) = false from rfl, show (([33] : List UInt8) == []) = false from rfl, Bool.false_or, e0, e1, tok_sgn ha (show [40] ∈ signsL by decide), tok_sgn ha (show [47] ∈ signsL by decide), tok_sgn ha (show [46, 46] ∈ signsL by decide), tok_sgn ha (show [58] ∈ signsL by decide), tok_sgn ha (show [33] ∈ signsL by decide), tok_sgn hb (show [41] ∈ signsL by decide), tok_sgn hb (show [44] ∈ signsL by decide), tok_sgn hb (show [47] ∈ signsL by decide), tok_sgn hb (show [46, 46] ∈ signsL by decide), tok_sgn hb (show [58] ∈ signsL by decide), tok_sgn hb (show [40] ∈ signsL by decide), tok_sgn hb (show [33] ∈ signsL by decide)]
  unfold apaB
  generalize (a.1 == 1) = x0
  generalize (b.1 == 1) = x1
  generalize sgnB a [40] = x2
  generalize sgnB a [47] = x3
  generalize sgnB a [46, 46] = x4
  generalize sgnB a [58] = x5
  generalize sgnB a [33] = y2
  generalize sgnB b [41] = x6
  generalize sgnB b [44] = x7
  generalize sgnB b [47] = x8
  generalize sgnB b [46, 46] = x9
  generalize sgnB b [58] = y0
  generalize sgnB b [40] = y3
  generalize sgnB b [33] = y4
  generalize (b.1 == 2) = y1
  cases x0 <;> try (simp; done)
  cases x1 <;> try (simp; done)
  cases x2 <;> try (simp; done)
  cases x3 <;> try (simp; done)
  cases x4 <;> try (simp; done)
  cases x5 <;> try (simp; done)
  cases x6 <;> try (simp; done)
  cases x7 <;> try (simp; done)
  cases x8 <;> try (simp; done)
  cases x9 <;> try (simp; done)
  cases y0 <;> try (simp; done)
  cases y1 <;> cases y2 <;> cases y3 <;> cases y4 <;> rfl
end Go.Proofs.YtggifkdgkjmljaaGreatDoor
namespace Go.Proofs.YtggifkdgkjmljaaGreatDoor
open Go.RowKit Go.Shelf
theorem kl_ten {x : List UInt8} {j : Nat} (h : kl x j = 1) : j < x.length ∧ bt x j = 10 := by
  have hj : j < x.length := Classical.byContradiction (fun hh => by rw [kl0.2 hh] at h; cases h)
  refine ⟨hj, ?_⟩
  rw [kl_bt hj] at h
  have ht : ∀ x : Fin 256, cls (x.val : Int) = 1 → x.val = 10 := by decide +kernel
  exact ht ⟨bt x j, bt_lt x j⟩ h
set_option maxRecDepth 100000 in
set_option maxHeartbeats 2000000 in
theorem refWhole_any (k : Int) (x : List UInt8) (a b : Int) (w : World) (hs : x.length ≤ 281474976710656) (hg : SR w) :
    Calls Tryz.prog 15 #[.int .i64 k, .string ⟨x.toArray⟩] w fun e w' => e = .returned (.bool (tokB (k, x, a, b))) ∧ Below w.heap.size w w' := by
  by_cases hk : k = 1
  · subst hk
    by_cases hx : x = [10]
    · have hr : Hid (tokB (1, x, a, b) = true) := by unfold Hid tokB; simp [hx]
      subst hx
      go_enter Tryz.func15, Tryz.ntmps15
      go_wp2_with fail
      go_ret
      exact ⟨by rw [hr.out]; rfl, Below.refl _ _⟩
    · have y1 : (x == [10]) = false := beq_eq_false_iff_ne.2 hx
      have hr : Hid (tokB (1, x, a, b) = false) := by unfold Hid tokB; simp [hx]
      go_enter Tryz.func15, Tryz.ntmps15
      go_wp2_with fail
      go_ret
      exact ⟨by rw [hr.out]; rfl, Below.refl _ _⟩
  have x1 : (k == 1) = false := beq_eq_false_iff_ne.2 hk
  by_cases hx : x = []
  · have hr : Hid (tokB (k, x, a, b) = false) := tokB_bad a b hk (.inl (by rw [hx]; rfl))
    have y1 : (x == []) = true := beq_iff_eq.2 hx
    subst hx
    go_enter Tryz.func15, Tryz.ntmps15
    go_wp2_with fail
    go_ret
    exact ⟨by rw [hr.out]; rfl, Below.refl _ _⟩
  have y1 : (x == []) = false := beq_eq_false_iff_ne.2 hx
  have h0 : 0 < x.length := List.length_pos_iff.2 hx
  obtain ⟨q, hq⟩ : ∃ q, tokB (k, x, a, b) = q := ⟨_, rfl⟩
  have HNL : Hid (10 ∈ x → q = false) := fun h => by rw [← hq]; exact tokB_nl a b hk h
  have HBAD : Hid (kl x 0 = 2 ∨ kl x 0 = 8 → q = false) := fun h => by rw [← hq]; exact tokB_bad a b hk (.inr h)
  have HQ : Hid ((∀ j, j < x.length → kl x j ≠ 1) → kl x 0 ≠ 2 → kl x 0 ≠ 8 → q = decide (tokR4 x 0 = (k.toNat, x.length, 0) ∧ 0 ≤ k)) := fun h1 h2 h3 => by rw [← hq]; exact tokB_eq a b hk h0 h1 h2 h3
  have HTK : Hid ((∀ j, j < x.length → kl x j ≠ 1) → ∀ W : World, Below w.heap.size w W → Calls Tryz.prog 19 #[.string ⟨x.toArray⟩, .int .i64 0] W fun e w' => e = .returned (.tuple #[.int .i64 ((tokR4 x 0).1 : Int), .int .i64 ((tokR4 x 0).2.1 : Int), .int .i64 ((tokR4 x 0).2.2 : Int)]) ∧ Below W.heap.size W w') := fun h1 W hW => refToken_big x 0 W h0 hs h1 (hg.below hW)
  rw [hq]
  obtain ⟨c, hc, hlc⟩ := byte_get x 0 h0
  have hb := bt_of hlc
  have hkl : kl x 0 = cls (c.toNat : Int) := by rw [← hb]; exact kl_bt h0
  have HKL : Hid (kl x 0 = cls (c.toNat : Int)) := hkl
  have hcx := c.toNat_lt
  have h0I : (0 : Int) < (x.length : Int) := by omega
  clear hq hkl hb hg hlc
  go_enter Tryz.func15, Tryz.ntmps15
  go_wp2_with fail
  go_loopw [5] (fun vj wr => ∃ j : Nat, vj = .int .i64 j ∧ j ≤ x.length ∧ Hid (∀ i, i < j → kl x i ≠ 1) ∧ Below w.heap.size w wr) (fun vj _ => x.length - (intOf vj).toNat)
  case atStart => exact ⟨0, rfl, Nat.zero_le _, fun i hi => by omega, Below.refl _ _⟩
  case round =>
    obtain ⟨j, rfl, hj, hno, hB⟩ := hrel
    by_cases hlt : j < x.length
    · have j0 : (0 : Int) ≤ (j : Int) := by omega
      have j1 : (j : Int) < (x.length : Int) := by omega
      obtain ⟨d, hd, hld⟩ := byte_get x j hlt
      by_cases h10 : d = 10
      · obtain rfl : q = false := HNL.out (by rw [← h10]; exact List.mem_of_getElem? hld)
        subst h10
        clear hld
        go_wp2_with fail
        go_ret
        exact ⟨rfl, hB⟩
      · have n10 : ((d.toNat : Int) == 10) = false := u8_ne (d := 10) h10
        have hno2 : Hid (∀ i, i < j + 1 → kl x i ≠ 1) := fun i hi e => by
          rcases Nat.lt_or_ge i j with h | h
          · exact hno.out i h e
          · obtain rfl : i = j := by omega
            have := (kl_ten e).2
            rw [bt_of hld] at this
            exact h10 (UInt8.toNat_inj.1 this)
        clear hld hno
        go_wp2_with fail
        go_roundw
        case rel => exact ⟨j + 1, by go_num, by omega, hno2, hB⟩
        case measure => simp [intOf]; omega
    · have j1 : ¬ (j : Int) < (x.length : Int) := by omega
      obtain rfl : j = x.length := by omega
      have HBL : ∀ W : World, Calls Tryz.prog 18 #[.int .u8 (c.toNat : Int)] W fun e w' => e = .returned (.bool (decide (kl x 0 = 2))) ∧ w' = W := fun W => by
        have := refBlank_any c.toNat W
        rw [blaX_cls hcx, ← HKL.out] at this
        exact this
      by_cases h2 : kl x 0 = 2
      · obtain rfl : q = false := HBAD.out (.inl h2)
        rw [decide_eq_true h2] at HBL
        go_wp2_with fail
        refine (HBL _).mono ?_
        rintro e W1 ⟨rfl, rfl⟩
        go_wp2_with fail
        go_ret
        exact ⟨rfl, hB⟩
      rw [decide_eq_false h2] at HBL
      by_cases h35 : c = 35
      · obtain rfl : q = false := HBAD.out (.inr (by rw [HKL.out, h35]; rfl))
        subst h35
        go_wp2_with fail
        refine (HBL _).mono ?_
        rintro e W1 ⟨rfl, rfl⟩
        go_wp2_with fail
        go_ret
        exact ⟨rfl, hB⟩
      have n35 : ((c.toNat : Int) == 35) = false := u8_ne (d := 35) h35
      have h8 : kl x 0 ≠ 8 := fun e => by
        rw [HKL.out] at e
        exact h35 (UInt8.toNat_inj.1 (hashX_cls hcx e))
      have HR := HQ.out hno.out h2 h8
      have HT := HTK.out hno.out _ hB
      obtain ⟨r, hr⟩ : ∃ r, tokR4 x 0 = r := ⟨_, rfl⟩
      rw [hr] at HR HT
      obtain ⟨rk, rj, re⟩ := r
      simp only at HT
      clear hr HQ HTK HBAD HNL HKL
      go_wp2_with fail
      refine (HBL _).mono ?_
      rintro e W1 ⟨rfl, rfl⟩
      go_wp2_with fail
      refine HT.mono ?_
      rintro e W2 ⟨rfl, hb2⟩
      have hB2 := bel0 hB hb2
      by_cases e0 : re = 0
      · subst e0
        by_cases e1 : (rk : Int) = k
        · have z1 : ((rk : Int) == k) = true := beq_iff_eq.2 e1
          by_cases e2 : rj = x.length
          · have z2 : ((rj : Int) == (x.length : Int)) = true := beq_iff_eq.2 (by omega)
            obtain rfl : q = true := by
              rw [HR, decide_eq_true_eq]
              refine ⟨?_, by omega⟩
              rw [e2, show rk = k.toNat by omega]
            clear HR HT
            go_wp2_with fail
            go_ret
            exact ⟨rfl, hB2⟩
          · have z2 : ((rj : Int) == (x.length : Int)) = false := beq_eq_false_iff_ne.2 (by omega)
            obtain rfl : q = false := by
              rw [HR, decide_eq_false_iff_not]
              rintro ⟨h, -⟩
              exact e2 (Prod.mk.inj (Prod.mk.inj h).2).1
            clear HR HT
            go_wp2_with fail
            go_ret
            exact ⟨rfl, hB2⟩
        · have z1 : ((rk : Int) == k) = false := beq_eq_false_iff_ne.2 e1
          obtain rfl : q = false := by
            rw [HR, decide_eq_false_iff_not]
            rintro ⟨h, h9⟩
            exact e1 (by rw [(Prod.mk.inj h).1]; omega)
          clear HR HT
          go_wp2_with fail
          go_ret
          exact ⟨rfl, hB2⟩
      · have z0 : ((re : Int) == 0) = false := beq_eq_false_iff_ne.2 (by omega)
        obtain rfl : q = false := by
          rw [HR, decide_eq_false_iff_not]
          rintro ⟨h, -⟩
          exact e0 (Prod.mk.inj (Prod.mk.inj h).2).2
        clear HR HT
        go_wp2_with fail
        go_ret
        exact ⟨rfl, hB2⟩
set_option maxRecDepth 100000 in
set_option maxHeartbeats 4000000 in
theorem refApart_any (l r : ITok) (w : World) : Calls Tryz.prog 12 #[iagg l, iagg r] w fun e w' => e = .returned (.bool (apaB l r)) ∧ Below w.heap.size w w' := by
  obtain ⟨V, hV⟩ : ∃ V : World, (w.alloc (Obj.cells (icel l).toArray 24)).alloc (Obj.cells (icel r).toArray 24) = V := ⟨_, rfl⟩
  have vB : Below w.heap.size w V := by
    rw [← hV]
    exact ((Below.refl _ _).alloc (Nat.le_refl _) _).alloc (by simp) _
  have v0 : V.heap[w.heap.size]? = some (.cells (icel l).toArray 24) := by
    rw [← hV]
    exact allocblk (alloc_get _ _) _
  have v1 : V.heap[w.heap.size + 1]? = some (.cells (icel r).toArray 24) := by
    rw [← hV]
    have := alloc_get (w.alloc (Obj.cells (icel l).toArray 24)) (Obj.cells (icel r).toArray 24)
    simpa using this
  have XL : Hid (∀ W : World, Below V.heap.size V W → W.cell? ⟨w.heap.size, 0, none⟩ = some (.int .i64 l.1) ∧ W.cell? ⟨w.heap.size, 1, none⟩ = some (.string ⟨l.2.1.toArray⟩) ∧ W.cell? ⟨w.heap.size, 2, none⟩ = some (.int .i64 l.2.2.1) ∧ W.cell? ⟨w.heap.size, 3, none⟩ = some (.int .i64 l.2.2.2)) := fun W hW => by
    have hk := keepblk hW v0
    exact ⟨cell_of_row W _ 0 _ _ _ hk, cell_of_row W _ 1 _ _ _ hk, cell_of_row W _ 2 _ _ _ hk, cell_of_row W _ 3 _ _ _ hk⟩
  have XR : Hid (∀ W : World, Below V.heap.size V W → W.cell? ⟨w.heap.size + 1, 0, none⟩ = some (.int .i64 r.1) ∧ W.cell? ⟨w.heap.size + 1, 1, none⟩ = some (.string ⟨r.2.1.toArray⟩) ∧ W.cell? ⟨w.heap.size + 1, 2, none⟩ = some (.int .i64 r.2.2.1) ∧ W.cell? ⟨w.heap.size + 1, 3, none⟩ = some (.int .i64 r.2.2.2)) := fun W hW => by
    have hk := keepblk hW v1
    exact ⟨cell_of_row W _ 0 _ _ _ hk, cell_of_row W _ 1 _ _ _ hk, cell_of_row W _ 2 _ _ _ hk, cell_of_row W _ 3 _ _ _ hk⟩
  have hB0 : Below V.heap.size V V := Below.refl _ _
  have HL0 : ∀ (W : World) (s : List UInt8), Calls Tryz.prog 16 #[iagg l, .string ⟨s.toArray⟩] W fun e w' => e = .returned (.bool (sgnB l s)) ∧ Below W.heap.size W w' := fun W s => refSgn_any l s W
  have HR0 : ∀ (W : World) (s : List UInt8), Calls Tryz.prog 16 #[iagg r, .string ⟨s.toArray⟩] W fun e w' => e = .returned (.bool (sgnB r s)) ∧ Below W.heap.size W w' := fun W s => refSgn_any r s W
  have HVB : Hid (Below w.heap.size w V) := vB
  obtain ⟨S, hS⟩ : ∃ S, w.heap.size = S := ⟨_, rfl⟩
  rw [hS] at XL XR
  clear v0 v1 vB
  obtain ⟨la, lb, lc, ld⟩ := l
  obtain ⟨ra, rb, rc, rd⟩ := r
  have HL : Hid (∀ (W : World) (s : List UInt8), Calls Tryz.prog 16 #[.agg #[.int .i64 la, .string ⟨lb.toArray⟩, .int .i64 lc, .int .i64 ld], .string ⟨s.toArray⟩] W fun e w' => e = .returned (.bool (sgnB (la, lb, lc, ld) s)) ∧ Below W.heap.size W w') := HL0
  have HR : Hid (∀ (W : World) (s : List UInt8), Calls Tryz.prog 16 #[.agg #[.int .i64 ra, .string ⟨rb.toArray⟩, .int .i64 rc, .int .i64 rd], .string ⟨s.toArray⟩] W fun e w' => e = .returned (.bool (sgnB (ra, rb, rc, rd) s)) ∧ Below W.heap.size W w') := HR0
  clear HL0 HR0
  obtain ⟨q, hq⟩ : ∃ q, apaB (la, lb, lc, ld) (ra, rb, rc, rd) = q := ⟨_, rfl⟩
  rw [hq]
  have HQ : Hid (apaB (la, lb, lc, ld) (ra, rb, rc, rd) = q) := hq
  clear hq
  have hV' : (w.alloc (Obj.cells #[.int .i64 la, .string ⟨lb.toArray⟩, .int .i64 lc, .int .i64 ld] 24)).alloc (Obj.cells #[.int .i64 ra, .string ⟨rb.toArray⟩, .int .i64 rc, .int .i64 rd] 24) = V := hV
  show Calls Tryz.prog 12 #[.agg #[.int .i64 la, .string ⟨lb.toArray⟩, .int .i64 lc, .int .i64 ld], .agg #[.int .i64 ra, .string ⟨rb.toArray⟩, .int .i64 rc, .int .i64 rd]] w _
  clear hV
  obtain ⟨l0, l1, l2, l3⟩ := XL.out V hB0
  obtain ⟨r0, r1, r2, r3⟩ := XR.out V hB0
  by_cases ea : la = 1
  · obtain rfl : false = q := by rw [← HQ.out]; unfold apaB; rw [if_pos (by simp [ea])]
    subst ea
    go_enter Tryz.func12, Tryz.ntmps12
    go_wp2_with fail
    go_ret
    exact ⟨rfl, by first | exact HVB.out | (rw [← hS]; exact HVB.out)⟩
  have na : (la == 1) = false := beq_eq_false_iff_ne.2 ea
  by_cases eb : ra = 1
  · obtain rfl : false = q := by rw [← HQ.out]; unfold apaB; rw [if_pos (by simp [eb])]
    subst eb
    go_enter Tryz.func12, Tryz.ntmps12
    go_wp2_with fail
    go_ret
    exact ⟨rfl, by first | exact HVB.out | (rw [← hS]; exact HVB.out)⟩
  have nb : (ra == 1) = false := beq_eq_false_iff_ne.2 eb
  go_enter Tryz.func12, Tryz.ntmps12
  go_wp2_with fail
  refine (HL.out _ [40]).mono ?_
  rintro e W0 ⟨rfl, hb0⟩
  have hB1 := bel0 hB0 hb0
  clear l0 l1 l2 l3 r0 r1 r2 r3
  obtain ⟨l0, l1, l2, l3⟩ := XL.out W0 hB1
  obtain ⟨r0, r1, r2, r3⟩ := XR.out W0 hB1
  cases s0 : sgnB (la, lb, lc, ld) [40] with
  | true =>
    obtain rfl : false = q := by
      rw [← HQ.out]
      unfold apaB
      rw [if_neg (by simp [ea, eb])]
      simp [s0]
    go_wp2_with fail
    go_ret
    exact ⟨rfl, by first | exact bel0 HVB.out hB1 | (rw [← hS]; exact bel0 HVB.out hB1)⟩
  | false =>
    go_wp2_with fail
    refine (HL.out _ [47]).mono ?_
    rintro e W1 ⟨rfl, hb1⟩
    have hB2 := bel0 hB1 hb1
    clear l0 l1 l2 l3 r0 r1 r2 r3
    obtain ⟨l0, l1, l2, l3⟩ := XL.out W1 hB2
    obtain ⟨r0, r1, r2, r3⟩ := XR.out W1 hB2
    cases s1 : sgnB (la, lb, lc, ld) [47] with
    | true =>
      obtain rfl : false = q := by
        rw [← HQ.out]
        unfold apaB
        rw [if_neg (by simp [ea, eb])]
        simp [s0, s1]
      go_wp2_with fail
      go_ret
      exact ⟨rfl, by first | exact bel0 HVB.out hB2 | (rw [← hS]; exact bel0 HVB.out hB2)⟩
    | false =>
      go_wp2_with fail
      refine (HL.out _ [46, 46]).mono ?_
      rintro e W2 ⟨rfl, hb2⟩
      have hB3 := bel0 hB2 hb2
      clear l0 l1 l2 l3 r0 r1 r2 r3
      obtain ⟨l0, l1, l2, l3⟩ := XL.out W2 hB3
      obtain ⟨r0, r1, r2, r3⟩ := XR.out W2 hB3
      cases s2 : sgnB (la, lb, lc, ld) [46, 46] with
      | true =>
        obtain rfl : false = q := by
          rw [← HQ.out]
          unfold apaB
          rw [if_neg (by simp [ea, eb])]
          simp [s0, s1, s2]
        go_wp2_with fail
        go_ret
        exact ⟨rfl, by first | exact bel0 HVB.out hB3 | (rw [← hS]; exact bel0 HVB.out hB3)⟩
      | false =>
        go_wp2_with fail
        refine (HL.out _ [58]).mono ?_
        rintro e W3 ⟨rfl, hb3⟩
        have hB4 := bel0 hB3 hb3
        clear l0 l1 l2 l3 r0 r1 r2 r3
        obtain ⟨l0, l1, l2, l3⟩ := XL.out W3 hB4
        obtain ⟨r0, r1, r2, r3⟩ := XR.out W3 hB4
        cases s3 : sgnB (la, lb, lc, ld) [58] with
        | true =>
          obtain rfl : false = q := by
            rw [← HQ.out]
            unfold apaB
            rw [if_neg (by simp [ea, eb])]
            simp [s0, s1, s2, s3]
          go_wp2_with fail
          go_ret
          exact ⟨rfl, by first | exact bel0 HVB.out hB4 | (rw [← hS]; exact bel0 HVB.out hB4)⟩
        | false =>
          go_wp2_with fail
          refine (HR.out _ [41]).mono ?_
          rintro e W4 ⟨rfl, hb4⟩
          have hB5 := bel0 hB4 hb4
          clear l0 l1 l2 l3 r0 r1 r2 r3
          obtain ⟨l0, l1, l2, l3⟩ := XL.out W4 hB5
          obtain ⟨r0, r1, r2, r3⟩ := XR.out W4 hB5
          cases s4 : sgnB (ra, rb, rc, rd) [41] with
          | true =>
            obtain rfl : false = q := by
              rw [← HQ.out]
              unfold apaB
              rw [if_neg (by simp [ea, eb])]
              simp [s0, s1, s2, s3, s4]
            go_wp2_with fail
            go_ret
            exact ⟨rfl, by first | exact bel0 HVB.out hB5 | (rw [← hS]; exact bel0 HVB.out hB5)⟩
          | false =>
            go_wp2_with fail
            refine (HR.out _ [44]).mono ?_
            rintro e W5 ⟨rfl, hb5⟩
            have hB6 := bel0 hB5 hb5
            clear l0 l1 l2 l3 r0 r1 r2 r3
            obtain ⟨l0, l1, l2, l3⟩ := XL.out W5 hB6
            obtain ⟨r0, r1, r2, r3⟩ := XR.out W5 hB6
            cases s5 : sgnB (ra, rb, rc, rd) [44] with
            | true =>
              obtain rfl : false = q := by
                rw [← HQ.out]
                unfold apaB
                rw [if_neg (by simp [ea, eb])]
                simp [s0, s1, s2, s3, s4, s5]
              go_wp2_with fail
              go_ret
              exact ⟨rfl, by first | exact bel0 HVB.out hB6 | (rw [← hS]; exact bel0 HVB.out hB6)⟩
            | false =>
              go_wp2_with fail
              refine (HR.out _ [47]).mono ?_
              rintro e W6 ⟨rfl, hb6⟩
              have hB7 := bel0 hB6 hb6
              clear l0 l1 l2 l3 r0 r1 r2 r3
              obtain ⟨l0, l1, l2, l3⟩ := XL.out W6 hB7
              obtain ⟨r0, r1, r2, r3⟩ := XR.out W6 hB7
              cases s6 : sgnB (ra, rb, rc, rd) [47] with
              | true =>
                obtain rfl : false = q := by
                  rw [← HQ.out]
                  unfold apaB
                  rw [if_neg (by simp [ea, eb])]
                  simp [s0, s1, s2, s3, s4, s5, s6]
                go_wp2_with fail
                go_ret
                exact ⟨rfl, by first | exact bel0 HVB.out hB7 | (rw [← hS]; exact bel0 HVB.out hB7)⟩
              | false =>
                go_wp2_with fail
                refine (HR.out _ [46, 46]).mono ?_
                rintro e W7 ⟨rfl, hb7⟩
                have hB8 := bel0 hB7 hb7
                clear l0 l1 l2 l3 r0 r1 r2 r3
                obtain ⟨l0, l1, l2, l3⟩ := XL.out W7 hB8
                obtain ⟨r0, r1, r2, r3⟩ := XR.out W7 hB8
                cases s7 : sgnB (ra, rb, rc, rd) [46, 46] with
                | true =>
                  obtain rfl : false = q := by
                    rw [← HQ.out]
                    unfold apaB
                    rw [if_neg (by simp [ea, eb])]
                    simp [s0, s1, s2, s3, s4, s5, s6, s7]
                  go_wp2_with fail
                  go_ret
                  exact ⟨rfl, by first | exact bel0 HVB.out hB8 | (rw [← hS]; exact bel0 HVB.out hB8)⟩
                | false =>
                  go_wp2_with fail
                  refine (HR.out _ [58]).mono ?_
                  rintro e W8 ⟨rfl, hb8⟩
                  have hB9 := bel0 hB8 hb8
                  clear l0 l1 l2 l3 r0 r1 r2 r3
                  obtain ⟨l0, l1, l2, l3⟩ := XL.out W8 hB9
                  obtain ⟨r0, r1, r2, r3⟩ := XR.out W8 hB9
                  cases s8 : sgnB (ra, rb, rc, rd) [58] with
                  | true =>
                    obtain rfl : false = q := by
                      rw [← HQ.out]
                      unfold apaB
                      rw [if_neg (by simp [ea, eb])]
                      simp [s0, s1, s2, s3, s4, s5, s6, s7, s8]
                    go_wp2_with fail
                    go_ret
                    exact ⟨rfl, by first | exact bel0 HVB.out hB9 | (rw [← hS]; exact bel0 HVB.out hB9)⟩
                  | false =>
                    go_wp2_with fail
                    have hq0 : q = (!sgnB (la, lb, lc, ld) [33] || (!(ra == 2) && !sgnB (ra, rb, rc, rd) [40] && !sgnB (ra, rb, rc, rd) [33])) := by
                      rw [← HQ.out]
                      unfold apaB
                      rw [if_neg (by simp [ea, eb]), if_neg (by simp [s0, s1, s2, s3]), if_neg (by simp [s4, s5, s6, s7, s8])]
                    refine (HL.out _ [33]).mono ?_
                    rintro e W9 ⟨rfl, hb9⟩
                    have hB10 := bel0 hB9 hb9
                    clear l0 l1 l2 l3 r0 r1 r2 r3
                    obtain ⟨l0, l1, l2, l3⟩ := XL.out W9 hB10
                    obtain ⟨r0, r1, r2, r3⟩ := XR.out W9 hB10
                    cases s9 : sgnB (la, lb, lc, ld) [33] with
                    | false =>
                      obtain rfl : q = true := by rw [hq0, s9]; rfl
                      clear hq0
                      go_wp2_with fail
                      go_ret
                      exact ⟨rfl, by first | exact bel0 HVB.out hB10 | (rw [← hS]; exact bel0 HVB.out hB10)⟩
                    | true =>
                      by_cases e2 : ra = 2
                      · obtain rfl : q = false := by rw [hq0, s9, e2]; rfl
                        subst e2
                        clear hq0
                        go_wp2_with fail
                        go_ret
                        exact ⟨rfl, by first | exact bel0 HVB.out hB10 | (rw [← hS]; exact bel0 HVB.out hB10)⟩
                      have n2 : (ra == 2) = false := beq_eq_false_iff_ne.2 e2
                      have n3 : (ra != 2) = true := by rw [bne, n2]; rfl
                      go_wp2_with fail
                      refine (HR.out _ [40]).mono ?_
                      rintro e W10 ⟨rfl, hb10⟩
                      have hB11 := bel0 hB10 hb10
                      clear l0 l1 l2 l3 r0 r1 r2 r3
                      obtain ⟨r0, r1, r2, r3⟩ := XR.out W10 hB11
                      cases s10 : sgnB (ra, rb, rc, rd) [40] with
                      | true =>
                        obtain rfl : q = false := by rw [hq0, s9, s10]; simp
                        clear hq0
                        go_wp2_with fail
                        go_ret
                        exact ⟨rfl, by first | exact bel0 HVB.out hB11 | (rw [← hS]; exact bel0 HVB.out hB11)⟩
                      | false =>
                        go_wp2_with fail
                        refine (HR.out _ [33]).mono ?_
                        rintro e W11 ⟨rfl, hb11⟩
                        have hB12 := bel0 hB11 hb11
                        obtain ⟨b9, h9⟩ : ∃ b, sgnB (ra, rb, rc, rd) [33] = b := ⟨_, rfl⟩
                        obtain rfl : q = !b9 := by rw [hq0, s9, s10, n2, h9]; simp
                        simp only [h9]
                        clear hq0
                        go_wp2_with fail
                        go_ret
                        exact ⟨rfl, by first | exact bel0 HVB.out hB12 | (rw [← hS]; exact bel0 HVB.out hB12)⟩
end Go.Proofs.YtggifkdgkjmljaaGreatDoor
namespace Go.Proofs.YtggifkdgkjmljaaGreatDoor
open Go.RowKit Go.Shelf
theorem linF_step {L : List ITok} {k : Nat} {t : ITok} (ht : L[k]? = some t) (last : Int) : linF last (L.drop k) = if (!tokB t || (t.1 == 1 && last == 1)) = true then false else linF t.1 (L.drop (k + 1)) := by
  obtain ⟨hk, e⟩ := List.getElem?_eq_some_iff.1 ht
  rw [List.drop_eq_getElem_cons hk, e]
  rfl
/-- the kind of the token ahead, or that of an end -/
def lastK (L : List ITok) (k : Nat) (last : Int) : Prop := (k = 0 ∧ last = 1) ∨ ∃ k' u, k = k' + 1 ∧ L[k']? = some u ∧ last = u.1
set_option maxRecDepth 100000 in
set_option maxHeartbeats 4000000 in
theorem refValid_any (L : List ITok) (o : Option Addr) (c : Nat) (w : World) (hL : L.length ≤ 281474976710656) (hx : ∀ t ∈ L, t.2.1.length ≤ 281474976710656) (hr : IR w o L) (hg : SR w) :
    Calls Tryz.prog 11 #[.slice o L.length c] w fun e w' => e = .returned (.bool (linF 1 L)) ∧ Below w.heap.size w w' := by
  have HR : Hid (IR w o L) := hr
  have HX : Hid (∀ t ∈ L, t.2.1.length ≤ 281474976710656) := hx
  have HG : Hid (SR w) := hg
  obtain ⟨q, hq⟩ : ∃ q, linF 1 L = q := ⟨_, rfl⟩
  rw [hq]
  have HQ : Hid (linF 1 (L.drop 0) = q) := hq
  clear hr hx hg hq
  go_enter Tryz.func11, Tryz.ntmps11
  go_wp2_with fail
  go_loopw [3] (fun vk wr => ∃ (k : Nat) (last : Int), vk = .int .i64 k ∧ k ≤ L.length ∧ Hid (lastK L k last) ∧ Hid (linF last (L.drop k) = q) ∧ Below w.heap.size w wr) (fun vk _ => L.length - (intOf vk).toNat)
  case atStart => exact ⟨0, 1, rfl, Nat.zero_le _, .inl ⟨rfl, rfl⟩, HQ, Below.refl _ _⟩
  case round =>
    clear HQ
    obtain ⟨k, last, rfl, hk, hlast, hlin, hB⟩ := hrel
    by_cases hlt : k < L.length
    · have j1 : (k : Int) < (L.length : Int) := by omega
      have j0 : (0 : Int) ≤ (k : Int) := by omega
      obtain ⟨t, ht⟩ : ∃ t, L[k]? = some t := ⟨_, List.getElem?_eq_getElem hlt⟩
      obtain ⟨g, o0, rfl, -⟩ := HR.out wr hB k t ht
      have hl2 := hlin.out
      rw [linF_step ht] at hl2
      have hxl := HX.out t (List.mem_of_getElem? ht)
      have XT : Hid (∀ W : World, Below w.heap.size w W → W.cell? ⟨g, o0 + k * 4, none⟩ = some (.int .i64 t.1) ∧ W.cell? ⟨g, o0 + k * 4 + 1, none⟩ = some (.string ⟨t.2.1.toArray⟩)) := fun W hW => by
        obtain ⟨g2, q2, h1, h2, h3, -⟩ := HR.out W hW k t ht
        injection h1 with h1
        injection h1 with h1 h4
        subst h1 h4
        exact ⟨h2, h3⟩
      have HNX : Hid (lastK L (k + 1) t.1) := .inr ⟨k, t, rfl, ht, rfl⟩
      have HW1 : ∀ W : World, Below w.heap.size w W → Calls Tryz.prog 15 #[.int .i64 t.1, .string ⟨t.2.1.toArray⟩] W fun e w' => e = .returned (.bool (tokB t)) ∧ Below W.heap.size W w' := fun W hW => refWhole_any t.1 t.2.1 t.2.2.1 t.2.2.2 W hxl (HG.out.below hW)
      obtain ⟨bw, hbw⟩ : ∃ b, tokB t = b := ⟨_, rfl⟩
      rw [hbw] at hl2
      simp only [hbw] at HW1
      obtain ⟨a, x, ln, cl⟩ := t
      simp only at XT HW1 hl2
      have HW : Hid (∀ W : World, Below w.heap.size w W → Calls Tryz.prog 15 #[.int .i64 a, .string ⟨x.toArray⟩] W fun e w' => e = .returned (.bool bw) ∧ Below W.heap.size W w') := HW1
      clear HW1 hbw hlin ht hxl
      go_wp2_with fail
      refine quiet_lit3 (C := fun W => Below w.heap.size w W) (by kernel_rfl) (by kernel_rfl) (show Below _ _ _ from hB.drew) ?_
      go_big_quiet_want
      go_big_quiet_op
      go_big_quiet_on
      go_big_quiet_want
      go_big_quiet_op
      go_big_quiet_on
      go_big_quiet_want
      refine ⟨.pointer (some ⟨g, o0 + k * 4, none⟩), fun W hW => ?_, ?_⟩
      · go_simp
      go_big_quiet_on
      simp only [Act.put, List.setIfInBounds_toArray, List.set_cons_zero, List.set_cons_succ]
      go_big_quiet_want
      refine ⟨.pointer (some ⟨g, o0 + k * 4, none⟩), fun W hW => ?_, ?_⟩
      · go_simp
      go_big_quiet_on
      simp only [Act.put, List.setIfInBounds_toArray, List.set_cons_zero, List.set_cons_succ]
      go_big_quiet_want
      refine ⟨.int .i64 a, fun W hW => ?_, ?_⟩
      · obtain ⟨z0, z1⟩ := XT.out W hW
        go_simp
      go_big_quiet_on
      simp only [Act.put, List.setIfInBounds_toArray, List.set_cons_zero, List.set_cons_succ]
      go_big_quiet_want
      go_big_quiet_op
      go_big_quiet_on
      go_big_quiet_want
      go_big_quiet_op
      go_big_quiet_on
      go_big_quiet_want
      refine ⟨.pointer (some ⟨g, o0 + k * 4, none⟩), fun W hW => ?_, ?_⟩
      · go_simp
      go_big_quiet_on
      simp only [Act.put, List.setIfInBounds_toArray, List.set_cons_zero, List.set_cons_succ]
      go_big_quiet_want
      refine ⟨.pointer (some ⟨g, o0 + k * 4 + 1, none⟩), fun W hW => ?_, ?_⟩
      · go_simp
      go_big_quiet_on
      simp only [Act.put, List.setIfInBounds_toArray, List.set_cons_zero, List.set_cons_succ]
      go_big_quiet_want
      refine ⟨.string ⟨x.toArray⟩, fun W hW => ?_, ?_⟩
      · obtain ⟨z0, z1⟩ := XT.out W hW
        go_simp
      go_big_quiet_on
      simp only [Act.put, List.setIfInBounds_toArray, List.set_cons_zero, List.set_cons_succ]
      go_big_quiet_want
      refine ⟨.bool bw, fun W hW => ?_, ?_⟩
      · go_simp
        refine (HW.out W hW).mono ?_
        rintro e w7 ⟨rfl, hb⟩
        exact ⟨rfl, bel0 hW hb⟩
      go_big_quiet_on
      simp only [Act.put, List.setIfInBounds_toArray, List.set_cons_zero, List.set_cons_succ]
      go_big_quiet_want
      go_big_quiet_op
      go_big_quiet_on
      refine wpQuiet_nil ?_
      intro W hW
      obtain ⟨p0, p1⟩ := XT.out W hW
      clear HW
      cases bw with
      | false =>
        obtain rfl : false = q := hl2
        go_wp2_with fail
        go_ret
        exact ⟨rfl, hW⟩
      | true =>
        by_cases ha : a = 1
        · have y1 : (a == 1) = true := beq_iff_eq.2 ha
          rcases hlast.out with ⟨rfl, rfl⟩ | ⟨k, u, rfl, hu, rfl⟩
          · obtain rfl : false = q := by rw [← hl2]; simp [ha]
            subst ha
            clear hl2
            simp only [Nat.zero_mul, Nat.add_zero] at p0 p1
            go_wp2_with fail
            go_ret
            exact ⟨rfl, hW⟩
          · obtain ⟨g2, q2, e1, b0, -⟩ := HR.out W hW k u hu
            injection e1 with e1
            injection e1 with e1 e2
            subst e1 e2
            have HWK : IntKind.i64.wrap (k : Int) = (k : Int) := by rw [IntKind.wrap_i64]; omega
            have m0 : (0 : Int) ≤ (k : Int) := by omega
            have m1 : (k : Int) < (L.length : Int) := by omega
            have m2 : (((k + 1 : Nat) : Int) == 0) = false := beq_eq_false_iff_ne.2 (by omega)
            have m3 : (((k : Int) + 1) == 0) = false := beq_eq_false_iff_ne.2 (by omega)
            have m4 : ((k + 1 : Nat) : Int) - 1 = (k : Int) := by omega
            have m5 : ((k : Int) + 1) - 1 = (k : Int) := by omega
            by_cases hla : u.1 = 1
            · obtain rfl : false = q := by rw [← hl2]; simp [ha, hla]
              have y2 : (u.1 == 1) = true := beq_iff_eq.2 hla
              subst ha
              clear hl2 hu hlast
              go_wp2_with fail
              go_ret
              exact ⟨rfl, hW⟩
            · have y2 : (u.1 == 1) = false := beq_eq_false_iff_ne.2 hla
              have HL2 : Hid (linF a (L.drop (k + 1 + 1)) = q) := by
                unfold Hid
                rw [← hl2, y2]
                simp
              subst ha
              clear hl2 hu hlast
              go_wp2_with fail
              go_roundw
              case rel => exact ⟨k + 1 + 1, 1, by go_num, by omega, HNX, HL2, hW⟩
              case measure => simp [intOf]; omega
        · have y1 : (a == 1) = false := beq_eq_false_iff_ne.2 ha
          have HL2 : Hid (linF a (L.drop (k + 1)) = q) := by
            unfold Hid
            rw [← hl2, y1]
            simp
          clear hl2
          go_wp2_with fail
          go_roundw
          case rel => exact ⟨k + 1, a, by go_num, by omega, HNX, HL2, hW⟩
          case measure => simp [intOf]; omega
    · have j1 : ¬ (k : Int) < (L.length : Int) := by omega
      have hkl : k = L.length := by omega
      have hq2 : q = (last == 1) := by
        rw [← hlin.out, List.drop_eq_nil_of_le (by omega)]
        rfl
      rcases hlast.out with ⟨rfl, rfl⟩ | ⟨k, u, rfl, hu, rfl⟩
      · obtain rfl : q = true := hq2
        have m1 : (L.length : Int) = 0 := by omega
        clear hkl hlin
        go_wp2_with fail
        go_ret
        exact ⟨rfl, hB⟩
      · obtain ⟨g2, q2, rfl, b0, -⟩ := HR.out wr hB k u hu
        have m1 : (L.length : Int) = (k : Int) + 1 := by omega
        have m2 : (((k : Int) + 1) == 0) = false := beq_eq_false_iff_ne.2 (by omega)
        have m0 : (0 : Int) ≤ (k : Int) := by omega
        have m3 : ((k : Int) + 1) - 1 = (k : Int) := by omega
        have HWK : IntKind.i64.wrap (k : Int) = (k : Int) := by rw [IntKind.wrap_i64]; omega
        have m4 : (k : Int) < (k : Int) + 1 := by omega
        subst hq2
        clear hkl hlin hu hlast
        go_wp2_with fail
        go_ret
        exact ⟨rfl, hB⟩
end Go.Proofs.YtggifkdgkjmljaaGreatDoor

import Derived.Test.YtkmnonkabekclaaDoorLJ
import Derived.Deep.QuietTactic
namespace Go.Proofs.YtkmnonkabekclaaDoor
open Go.RowKit
theorem or_sh {A b : Nat} (k : Nat) (hb : b < 2 ^ k) (hA : 2 ^ k * A < 4611686018427387904) (hk : 2 ^ k ≤ 4611686018427387904) : bits .or .i64 ((2 ^ k * A : Nat) : Int) (b : Int) = ((2 ^ k * A + b : Nat) : Int) := by
  rw [i64_or_nat _ _ (by omega) (by omega), Nat.two_pow_add_eq_or_of_lt hb]
theorem or24 {a b : Nat} (ha : a < 256) (hb : b < 256) : bits .or .i64 ((a : Int) * 16777216) ((b : Int) * 65536) = ((16777216 * a + 65536 * b : Nat) : Int) := by
  have h := or_sh (A := a) (b := 65536 * b) 24 (by omega) (by omega) (by decide)
  rw [show ((a : Int) * 16777216) = ((2 ^ 24 * a : Nat) : Int) by omega, show ((b : Int) * 65536) = ((65536 * b : Nat) : Int) by omega, h]
theorem or16 {A c : Nat} (hA : A < 65536) (hc : c < 256) : bits .or .i64 ((65536 * A : Nat) : Int) ((c : Int) * 256) = ((65536 * A + 256 * c : Nat) : Int) := by
  have h := or_sh (A := A) (b := 256 * c) 16 (by omega) (by omega) (by decide)
  rw [show ((c : Int) * 256) = ((256 * c : Nat) : Int) by omega, show ((65536 * A : Nat) : Int) = ((2 ^ 16 * A : Nat) : Int) by omega, h]
theorem or8' {A c : Nat} (hA : A < 16777216) (hc : c < 256) : bits .or .i64 ((256 * A : Nat) : Int) (c : Int) = ((256 * A + c : Nat) : Int) := by
  have h := or_sh (A := A) (b := c) 8 (by omega) (by omega) (by decide)
  rw [show ((256 * A : Nat) : Int) = ((2 ^ 8 * A : Nat) : Int) by omega, h]
theorem numL_at {l : List UInt8} {a b c d : UInt8} (h0 : l[0]? = some a) (h1 : l[1]? = some b) (h2 : l[2]? = some c) (h3 : l[3]? = some d) : numL l = 16777216 * a.toNat + 65536 * b.toNat + 256 * c.toNat + d.toNat := by
  match l, h0, h1, h2, h3 with
  | x0 :: x1 :: x2 :: x3 :: r, h0, h1, h2, h3 =>
    obtain rfl := Option.some.inj h0
    obtain rfl := Option.some.inj h1
    obtain rfl := Option.some.inj h2
    obtain rfl := Option.some.inj h3
    simp only [numL]
    omega
set_option maxRecDepth 100000 in
set_option maxHeartbeats 2000000 in
theorem dnum_any (l : List UInt8) (p : Option Addr) (n c q : Nat) (w : World) (hn : l.length = n) (hL : n ≤ 281474976710656) (hq : q + 4 ≤ n) (hr : BR w p l) :
    Calls Tryd.prog 31 #[.slice p n c, .int .i64 q] w fun e w' => e = .returned (.int .i64 (numL (l.drop q))) ∧ ∃ m, w' = w.drewN m := by
  obtain ⟨g, o, rfl⟩ := hr.some (by omega)
  have g0 : ∀ j, j < 4 → ∃ x, l[q + j]? = some x := fun j hj => ⟨_, List.getElem?_eq_getElem (by omega)⟩
  obtain ⟨x0, e0⟩ := g0 0 (by decide)
  obtain ⟨x1, e1⟩ := g0 1 (by decide)
  obtain ⟨x2, e2⟩ := g0 2 (by decide)
  obtain ⟨x3, e3⟩ := g0 3 (by decide)
  have hv : numL (l.drop q) = 16777216 * x0.toNat + 65536 * x1.toNat + 256 * x2.toNat + x3.toNat := numL_at (by rw [List.getElem?_drop]; exact e0) (by rw [List.getElem?_drop]; exact e1) (by rw [List.getElem?_drop]; exact e2) (by rw [List.getElem?_drop]; exact e3)
  have c0 := hr.at e0
  have c1 := hr.at e1
  have c2 := hr.at e2
  have c3 := hr.at e3
  rw [Nat.add_zero] at c0
  have t0 := x0.toNat_lt
  have t1 := x1.toNat_lt
  have t2 := x2.toNat_lt
  have t3 := x3.toNat_lt
  generalize x0.toNat = X0 at *
  generalize x1.toNat = X1 at *
  generalize x2.toNat = X2 at *
  generalize x3.toNat = X3 at *
  rw [hv]
  have o1 := or24 t0 t1
  have o2 := or16 (A := 256 * X0 + X1) (c := X2) (by omega) t2
  have o3 := or8' (A := 65536 * X0 + 256 * X1 + X2) (c := X3) (by omega) t3
  rw [show 65536 * (256 * X0 + X1) = 16777216 * X0 + 65536 * X1 by omega] at o2
  rw [show 256 * (65536 * X0 + 256 * X1 + X2) = 16777216 * X0 + 65536 * X1 + 256 * X2 by omega] at o3
  have q0 : (0 : Int) ≤ (q : Int) := by omega
  have q1 : (q : Int) < (n : Int) := by omega
  have q2 : (q : Int) + 1 < (n : Int) := by omega
  have q3 : (q : Int) + 2 < (n : Int) := by omega
  have q4 : (q : Int) + 3 < (n : Int) := by omega
  have r2 : (0 : Int) ≤ (q : Int) + 1 := by omega
  have r3 : (0 : Int) ≤ (q : Int) + 2 := by omega
  have r4 : (0 : Int) ≤ (q : Int) + 3 := by omega
  generalize 16777216 * X0 + 65536 * X1 + 256 * X2 + X3 = V at *
  generalize 16777216 * X0 + 65536 * X1 + 256 * X2 = V2 at *
  generalize 16777216 * X0 + 65536 * X1 = V3 at *
  clear e0 e1 e2 e3 g0 hv hr hn hq
  go_enter Tryd.func31, Tryd.ntmps31
  go_wp2_with fail
  go_quiet (fail)
  go_wp2_with fail
  go_ret
  exact ⟨rfl, nq, rfl⟩
theorem drewN_drewN (w : World) (a b : Nat) : ∃ m, (w.drewN a).drewN b = w.drewN m := ⟨a + b, by simp [World.drewN, Nat.add_assoc]⟩
theorem BR.drewN {w : World} {p : Option Addr} {l : List UInt8} (h : BR w p l) (m : Nat) : BR (w.drewN m) p l := h.below (bel_drewZ m (Below.refl _ _))
theorem dnum_q (l : List UInt8) (p : Option Addr) (n c q m : Nat) (w : World) (hn : l.length = n) (hL : n ≤ 281474976710656) (hq : q + 4 ≤ n) (hr : BR w p l) :
    Calls Tryd.prog 31 #[.slice p n c, .int .i64 q] (w.drewN m) fun e w' => e = .returned (.int .i64 (numL (l.drop q))) ∧ ∃ k, w' = w.drewN k := by
  refine (dnum_any l p n c q (w.drewN m) hn hL hq (hr.drewN m)).mono ?_
  rintro e w' ⟨h1, k, h2⟩
  obtain ⟨j, hj⟩ := drewN_drewN w m k
  exact ⟨h1, j, h2.trans hj⟩
theorem dsum_q (l : List UInt8) (p : Option Addr) (n c m : Nat) (w : World) (hn : l.length = n) (hL : n ≤ 281474976710656) (hr : BR w p l) :
    Calls Tryd.prog 19 #[.slice p n c] (w.drewN m) fun e w' => e = .returned (.int .i64 (sumN l)) ∧ ∃ k, w' = w.drewN k := by
  subst hn
  exact (dsum_any l p c (w.drewN m) hL (hr.drewN m)).mono (fun _ _ ⟨h1, h2⟩ => ⟨h1, m, h2⟩)
theorem res_drd (tmps : Array Value) (W : World) (b : Nat) (s k : Int) (t : List UInt8) (y z : Value) (h : tmps[4]?.getD undef = .pointer (some ⟨b, 0, none⟩) ∧ tmps[5]?.getD undef = y ∧ tmps[6]?.getD undef = z) (hb : RBX W b s k t) : (results Tryd.f14 tmps).run Tryd.prog W = .ok (.tuple #[.agg #[.int .i64 s, .int .i64 k, .string ⟨t.toArray⟩], y, z]) W := by
  obtain ⟨h0, h1, h2⟩ := h
  obtain ⟨c0, c1, c2⟩ := hb
  simp [results, h0, h1, h2, c0, c1, c2, go_sem]
end Go.Proofs.YtkmnonkabekclaaDoor

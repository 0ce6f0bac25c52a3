import Derived.Test.YtfcdaljhbeogeaaBE
namespace Go.Proofs.Ytfcdaljhbeogeaa
open Go.RowKit
set_option maxRecDepth 100000 in
set_option maxHeartbeats 1000000 in
theorem qahead_any (r s : IRt) (w : World) : Calls Try.prog 54 #[rv r, rv s] w fun e w' => e = .returned (.bool (rahead r s)) ∧ Below w.heap.size w w' := by
  obtain ⟨r0, r1, r2, r3⟩ := r
  obtain ⟨s0, s1, s2, s3⟩ := s
  obtain ⟨R, hR⟩ : ∃ R, rahead (r0, r1, r2, r3) (s0, s1, s2, s3) = R := ⟨_, rfl⟩
  rw [hR]
  unfold rahead at hR
  simp only at hR
  show Calls Try.prog 54 #[.agg #[.int .i64 r0, .int .i64 r1, .int .i64 r2, .int .i64 r3], .agg #[.int .i64 s0, .int .i64 s1, .int .i64 s2, .int .i64 s3]] w _
  have hBB : ∀ O Q : Obj, Below w.heap.size w ((w.alloc O).alloc Q) := fun O Q => by
    have h : Below w.heap.size w (w.alloc O) := (Below.refl _ _).alloc (Nat.le_refl _) _
    exact h.alloc h.size _
  by_cases c1 : r2 = s2
  · rw [if_neg (fun h => h c1)] at hR
    subst c1
    have e1 : (r2 == r2) = true := beq_self_eq_true r2
    by_cases c2 : r1 = s1
    · rw [if_neg (fun h => h c2)] at hR
      subst c2
      have e2 : (r1 == r1) = true := beq_self_eq_true r1
      by_cases c3 : r0 < s0
      · obtain rfl : R = true := by rw [← hR]; exact decide_eq_true c3
        clear hR
        go_enter Try.func54, Try.ntmps54
        go_wp2_with fail
        go_ret
        exact ⟨rfl, hBB _ _⟩
      · obtain rfl : R = false := by rw [← hR]; exact decide_eq_false c3
        clear hR
        go_enter Try.func54, Try.ntmps54
        go_wp2_with fail
        go_ret
        exact ⟨rfl, hBB _ _⟩
    · rw [if_pos c2] at hR
      have e2 : (r1 == s1) = false := beq_eq_false_iff_ne.2 c2
      by_cases c3 : r1 < s1
      · obtain rfl : R = true := by rw [← hR]; exact decide_eq_true c3
        clear hR
        go_enter Try.func54, Try.ntmps54
        go_wp2_with fail
        go_ret
        exact ⟨rfl, hBB _ _⟩
      · obtain rfl : R = false := by rw [← hR]; exact decide_eq_false c3
        clear hR
        go_enter Try.func54, Try.ntmps54
        go_wp2_with fail
        go_ret
        exact ⟨rfl, hBB _ _⟩
  · rw [if_pos c1] at hR
    have e2 : (r2 == s2) = false := beq_eq_false_iff_ne.2 c1
    by_cases c3 : s2 < r2
    · obtain rfl : R = true := by rw [← hR]; exact decide_eq_true c3
      clear hR
      go_enter Try.func54, Try.ntmps54
      go_wp2_with fail
      go_ret
      exact ⟨rfl, hBB _ _⟩
    · obtain rfl : R = false := by rw [← hR]; exact decide_eq_false c3
      clear hR
      go_enter Try.func54, Try.ntmps54
      go_wp2_with fail
      go_ret
      exact ⟨rfl, hBB _ _⟩
theorem rall_take {L : List IRt} {b i : Nat} {r : IRt} (h : L[i]? = some r) : (L.take (i + 1)).all (rmay b) = ((L.take i).all (rmay b) && rmay b r) := by
  rw [List.take_add_one, h, Option.toList_some, List.all_append]
  simp
set_option maxRecDepth 100000 in
set_option maxHeartbeats 1000000 in
theorem qfit_any (bits : Int) (L : List IRt) (o : Option Addr) (c : Nat) (w : World) (hL : L.length ≤ 281474976710656) (hr : IRR w o L) : Calls Try.prog 37 #[.int .i64 bits, .slice o L.length c] w fun e w' => e = .returned (.int .i64 (rfit bits L)) ∧ Below w.heap.size w w' := by
  unfold rfit
  by_cases c1 : 256 < L.length
  · rw [if_pos c1]
    have i1 : (256 : Int) < (L.length : Int) := by omega
    clear hr
    go_enter Try.func37, Try.ntmps37
    go_wp2_with fail
    go_ret
    exact ⟨rfl, Below.refl _ _⟩
  rw [if_neg c1]
  have i1 : ¬ (256 : Int) < (L.length : Int) := by omega
  by_cases c2 : 1 ≤ bits ∧ bits ≤ 32
  · rw [if_neg (fun h => h c2)]
    have i2 : ¬ bits < 1 := by omega
    have i3 : ¬ (32 : Int) < bits := by omega
    obtain ⟨b, rfl⟩ : ∃ b : Nat, bits = b := ⟨bits.toNat, by omega⟩
    rw [Int.toNat_natCast]
    have HM : Hid (∀ (r : IRt) (W : World), Calls Try.prog 53 #[.int .i64 (b : Int), rv r] W fun e w' => e = .returned (.bool (rmay b r)) ∧ Below W.heap.size W w') := fun r W => qmay_any b r W (by omega)
    obtain ⟨R, hR⟩ : ∃ R : Int, (if L.all (rmay b) = true then 0 else 80) = R := ⟨_, rfl⟩
    rw [hR]
    have HR : Hid ((if L.all (rmay b) = true then 0 else 80) = R) := hR
    have HI : Hid (IRR w o L) := hr
    clear hR hr
    go_enter Try.func37, Try.ntmps37
    go_wp2_with fail
    go_loopw [5] (fun vi wr => ∃ i : Nat, vi = .int .i64 i ∧ i ≤ L.length ∧ Hid ((L.take i).all (rmay b) = true) ∧ Below w.heap.size w wr) (fun vi _ => L.length - (intOf vi).toNat)
    case atStart => exact ⟨0, rfl, Nat.zero_le _, rfl, Below.refl _ _⟩
    case round =>
      obtain ⟨i, rfl, hi, ha, hB⟩ := hrel
      by_cases hlt : i < L.length
      · have j1 : (i : Int) < (L.length : Int) := by omega
        have j0 : (0 : Int) ≤ (i : Int) := by omega
        obtain ⟨r, hri⟩ : ∃ r, L[i]? = some r := ⟨_, List.getElem?_eq_getElem hlt⟩
        obtain ⟨g, o0, rfl, p0, p1, p2, p3⟩ := HI.out wr hB i r hri
        have hst := rall_take (b := b) hri
        rw [ha.out, Bool.true_and] at hst
        have hcall := HM.out r
        obtain ⟨m, hm⟩ : ∃ m, rmay b r = m := ⟨_, rfl⟩
        simp only [hm] at hcall
        rw [hm] at hst
        have hmem := List.mem_of_getElem? hri
        have HMF : Hid (m = false → R = 80) := fun e => by
          rw [← HR.out, if_neg]
          intro h
          have := List.all_eq_true.1 h r hmem
          rw [hm, e] at this
          exact absurd this (by decide)
        obtain ⟨r0, r1, r2, r3⟩ := r
        simp only at p0 p1 p2 p3
        have HC : Hid (∀ W : World, Calls Try.prog 53 #[.int .i64 (b : Int), .agg #[.int .i64 r0, .int .i64 r1, .int .i64 r2, .int .i64 r3]] W fun e w' => e = .returned (.bool m) ∧ Below W.heap.size W w') := hcall
        clear hcall hm hmem hri ha HM
        go_wp2_with fail
        refine (HC.out _).mono ?_
        rintro e W1 ⟨rfl, hb1⟩
        have hB1 := bel0 hB hb1
        cases m with
        | true =>
          have HA : Hid ((L.take (i + 1)).all (rmay b) = true) := hst
          clear hst HMF
          go_wp2_with fail
          go_roundw
          case rel => exact ⟨i + 1, by go_num, by omega, HA, hB1⟩
          case measure => simp [intOf]; omega
        | false =>
          obtain rfl : R = 80 := HMF.out rfl
          clear hst HMF HR
          go_wp2_with fail
          go_ret
          exact ⟨rfl, hB1⟩
      · have j1 : ¬ (i : Int) < (L.length : Int) := by omega
        obtain rfl : R = 0 := by
          have := ha.out
          rw [List.take_of_length_le (by omega)] at this
          rw [← HR.out, if_pos this]
        clear ha HR
        go_wp2_with fail
        go_ret
        exact ⟨rfl, hB⟩
  · rw [if_pos c2]
    clear hr
    by_cases c3 : bits < 1
    · have i2 : bits < 1 := c3
      clear c2
      go_enter Try.func37, Try.ntmps37
      go_wp2_with fail
      go_ret
      exact ⟨rfl, Below.refl _ _⟩
    · have i3 : (32 : Int) < bits := by omega
      clear c2
      go_enter Try.func37, Try.ntmps37
      go_wp2_with fail
      go_ret
      exact ⟨rfl, Below.refl _ _⟩
end Go.Proofs.Ytfcdaljhbeogeaa

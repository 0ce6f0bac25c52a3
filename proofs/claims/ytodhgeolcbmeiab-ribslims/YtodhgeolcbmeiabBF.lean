import Derived.Test.YtodhgeolcbmeiabBE
namespace Go.Proofs.Ytodhgeolcbmeiab
open Go.RowKit
set_option maxRecDepth 100000 in
set_option maxHeartbeats 1000000 in
theorem qhas_any (b : Nat) (r : IRt) (v : Nat) (w : World) (hb : b ≤ 32) (hm : rmay b r = true) : Calls Try.prog 39 #[.int .i64 (b : Int), rv r, .int .i64 (v : Int)] w fun e w' => e = .returned (.bool (rhas b r v)) ∧ Below w.heap.size w w' := by
  obtain ⟨kd, vl, ln, ou⟩ := r
  unfold rmay at hm
  simp only [decide_eq_true_eq] at hm
  obtain ⟨-, -, m3, m4, -, -, m7, m8, m9⟩ := hm
  obtain ⟨len, rfl⟩ : ∃ z : Nat, ln = z := ⟨ln.toNat, by omega⟩
  obtain ⟨va, rfl⟩ : ∃ z : Nat, vl = z := ⟨vl.toNat, by omega⟩
  have hl : len ≤ b := by omega
  obtain ⟨R, hR⟩ : ∃ R, rhas b (kd, (va : Int), (len : Int), ou) v = R := ⟨_, rfl⟩
  rw [hR]
  have hRd : ∀ k X Y : Nat, b - len = k → v / 2 ^ k = X → va / 2 ^ k = Y → decide (X = Y) = R := fun k X Y h1 h2 h3 => by subst h1 h2 h3; exact hR
  have e5 : IntKind.i64.wrap ((b : Int) - (len : Int)) = ((b - len : Nat) : Int) := by rw [IntKind.wrap_i64]; omega
  have dv := rdiv_cast v (b - len)
  have da := rdiv_cast va (b - len)
  obtain ⟨k, hk⟩ : ∃ k, b - len = k := ⟨_, rfl⟩
  rw [hk] at e5 dv da
  have s0 : (0 : Int) ≤ (k : Int) := by omega
  have s1 : (k : Int) < 64 := by omega
  obtain ⟨X, hX⟩ : ∃ X, v / 2 ^ k = X := ⟨_, rfl⟩
  obtain ⟨Y, hY⟩ : ∃ Y, va / 2 ^ k = Y := ⟨_, rfl⟩
  rw [hX] at dv
  rw [hY] at da
  replace hR := hRd k X Y hk hX hY
  clear hRd hk hX hY m3 m4 m7 m8 m9
  show Calls Try.prog 39 #[.int .i64 (b : Int), .agg #[.int .i64 kd, .int .i64 (va : Int), .int .i64 (len : Int), .int .i64 ou], .int .i64 (v : Int)] w _
  obtain ⟨O, hO⟩ : ∃ O : Obj, Obj.cells #[.int .i64 kd, .int .i64 (va : Int), .int .i64 (len : Int), .int .i64 ou] 34 = O := ⟨_, rfl⟩
  have hB0 : Below w.heap.size w (w.alloc O) := (Below.refl _ _).alloc (Nat.le_refl _) _
  have hbx : (w.alloc O).heap[w.heap.size]? = some (.cells #[.int .i64 kd, .int .i64 (va : Int), .int .i64 (len : Int), .int .i64 ou] 34) := by rw [hO]; exact alloc_get _ _
  obtain ⟨w0, hw0⟩ : ∃ w0, w.alloc O = w0 := ⟨_, rfl⟩
  rw [hw0] at hB0 hbx
  have HX : Hid (∀ W : World, Below w0.heap.size w0 W → W.cell? ⟨w.heap.size, 0, none⟩ = some (.int .i64 kd) ∧ W.cell? ⟨w.heap.size, 1, none⟩ = some (.int .i64 (va : Int)) ∧ W.cell? ⟨w.heap.size, 2, none⟩ = some (.int .i64 (len : Int)) ∧ W.cell? ⟨w.heap.size, 3, none⟩ = some (.int .i64 ou)) := fun W hW => ⟨cell_of_row _ _ 0 _ _ _ (keepblk hW hbx), cell_of_row _ _ 1 _ _ _ (keepblk hW hbx), cell_of_row _ _ 2 _ _ _ (keepblk hW hbx), cell_of_row _ _ 3 _ _ _ (keepblk hW hbx)⟩
  obtain ⟨x0, x1, x2, x3⟩ := HX.out _ (Below.refl _ _)
  clear hbx
  by_cases e : X = Y
  · obtain rfl : R = true := by rw [← hR]; exact decide_eq_true e
    have e1 : ((X : Int) == (Y : Int)) = true := by rw [e]; exact beq_self_eq_true _
    clear hR e
    go_enter Try.func39, Try.ntmps39
    go_wp2_with fail
    refine quiet_lit3 (C := fun W => Below w0.heap.size w0 W) (by kernel_rfl) (by kernel_rfl) (show Below _ _ _ from (Below.refl _ _).drew) ?_
    go_big_quiet_want
    go_big_quiet_op
    go_big_quiet_on
    go_big_quiet_want
    go_big_quiet_op
    go_big_quiet_on
    go_big_quiet_want
    refine ⟨.int .i64 (X : Int), fun W hW => ?_, ?_⟩
    · go_simp
    go_big_quiet_on
    simp only [Act.put, List.setIfInBounds_toArray, List.set_cons_zero, List.set_cons_succ]
    go_big_quiet_want
    refine ⟨.pointer (some ⟨w.heap.size, 1, none⟩), fun W hW => ?_, ?_⟩
    · go_simp
    go_big_quiet_on
    simp only [Act.put, List.setIfInBounds_toArray, List.set_cons_zero, List.set_cons_succ]
    go_big_quiet_want
    refine ⟨.int .i64 (va : Int), fun W hW => ?_, ?_⟩
    · obtain ⟨x0, x1, x2, x3⟩ := HX.out W hW
      go_simp
    go_big_quiet_on
    simp only [Act.put, List.setIfInBounds_toArray, List.set_cons_zero, List.set_cons_succ]
    go_big_quiet_want
    go_big_quiet_op
    go_big_quiet_on
    go_big_quiet_want
    refine ⟨.int .i64 (Y : Int), fun W hW => ?_, ?_⟩
    · go_simp
    go_big_quiet_on
    simp only [Act.put, List.setIfInBounds_toArray, List.set_cons_zero, List.set_cons_succ]
    go_big_quiet_want
    refine ⟨.bool true, fun W hW => ?_, ?_⟩
    · go_simp
    go_big_quiet_on
    simp only [Act.put, List.setIfInBounds_toArray, List.set_cons_zero, List.set_cons_succ]
    go_big_quiet_want
    go_big_quiet_op
    go_big_quiet_on
    refine wpQuiet_nil ?_
    intro W hW
    go_wp2_with fail
    go_ret
    exact ⟨rfl, bel0 hB0 hW⟩
  · obtain rfl : R = false := by rw [← hR]; exact decide_eq_false e
    have e1 : ((X : Int) == (Y : Int)) = false := beq_eq_false_iff_ne.2 (by omega)
    clear hR
    go_enter Try.func39, Try.ntmps39
    go_wp2_with fail
    refine quiet_lit3 (C := fun W => Below w0.heap.size w0 W) (by kernel_rfl) (by kernel_rfl) (show Below _ _ _ from (Below.refl _ _).drew) ?_
    go_big_quiet_want
    go_big_quiet_op
    go_big_quiet_on
    go_big_quiet_want
    go_big_quiet_op
    go_big_quiet_on
    go_big_quiet_want
    refine ⟨.int .i64 (X : Int), fun W hW => ?_, ?_⟩
    · go_simp
    go_big_quiet_on
    simp only [Act.put, List.setIfInBounds_toArray, List.set_cons_zero, List.set_cons_succ]
    go_big_quiet_want
    refine ⟨.pointer (some ⟨w.heap.size, 1, none⟩), fun W hW => ?_, ?_⟩
    · go_simp
    go_big_quiet_on
    simp only [Act.put, List.setIfInBounds_toArray, List.set_cons_zero, List.set_cons_succ]
    go_big_quiet_want
    refine ⟨.int .i64 (va : Int), fun W hW => ?_, ?_⟩
    · obtain ⟨x0, x1, x2, x3⟩ := HX.out W hW
      go_simp
    go_big_quiet_on
    simp only [Act.put, List.setIfInBounds_toArray, List.set_cons_zero, List.set_cons_succ]
    go_big_quiet_want
    go_big_quiet_op
    go_big_quiet_on
    go_big_quiet_want
    refine ⟨.int .i64 (Y : Int), fun W hW => ?_, ?_⟩
    · go_simp
    go_big_quiet_on
    simp only [Act.put, List.setIfInBounds_toArray, List.set_cons_zero, List.set_cons_succ]
    go_big_quiet_want
    refine ⟨.bool false, fun W hW => ?_, ?_⟩
    · go_simp
    go_big_quiet_on
    simp only [Act.put, List.setIfInBounds_toArray, List.set_cons_zero, List.set_cons_succ]
    go_big_quiet_want
    go_big_quiet_op
    go_big_quiet_on
    refine wpQuiet_nil ?_
    intro W hW
    go_wp2_with fail
    go_ret
    exact ⟨rfl, bel0 hB0 hW⟩
set_option maxRecDepth 100000 in
set_option maxHeartbeats 1000000 in
theorem qahead_any (r s : IRt) (w : World) : Calls Try.prog 29 #[rv r, rv s] w fun e w' => e = .returned (.bool (rahead r s)) ∧ Below w.heap.size w w' := by
  obtain ⟨r0, r1, r2, r3⟩ := r
  obtain ⟨s0, s1, s2, s3⟩ := s
  obtain ⟨R, hR⟩ : ∃ R, rahead (r0, r1, r2, r3) (s0, s1, s2, s3) = R := ⟨_, rfl⟩
  rw [hR]
  unfold rahead at hR
  simp only at hR
  show Calls Try.prog 29 #[.agg #[.int .i64 r0, .int .i64 r1, .int .i64 r2, .int .i64 r3], .agg #[.int .i64 s0, .int .i64 s1, .int .i64 s2, .int .i64 s3]] w _
  have hBB : ∀ O Q : Obj, Below w.heap.size w ((w.alloc O).alloc Q) := fun O Q => by
    have h : Below w.heap.size w (w.alloc O) := (Below.refl _ _).alloc (Nat.le_refl _) _
    exact h.alloc h.size _
  by_cases c1 : r2 = s2
  · rw [if_neg (fun h => h c1)] at hR
    subst c1
    have e1 : (r2 == r2) = true := beq_self_eq_true r2
    by_cases c2 : r1 = s1
    · rw [if_neg (fun h => h c2)] at hR
      subst c2
      have e2 : (r1 == r1) = true := beq_self_eq_true r1
      by_cases c3 : r0 < s0
      · obtain rfl : R = true := by rw [← hR]; exact decide_eq_true c3
        clear hR
        go_enter Try.func29, Try.ntmps29
        go_wp2_with fail
        go_ret
        exact ⟨rfl, hBB _ _⟩
      · obtain rfl : R = false := by rw [← hR]; exact decide_eq_false c3
        clear hR
        go_enter Try.func29, Try.ntmps29
        go_wp2_with fail
        go_ret
        exact ⟨rfl, hBB _ _⟩
    · rw [if_pos c2] at hR
      have e2 : (r1 == s1) = false := beq_eq_false_iff_ne.2 c2
      by_cases c3 : r1 < s1
      · obtain rfl : R = true := by rw [← hR]; exact decide_eq_true c3
        clear hR
        go_enter Try.func29, Try.ntmps29
        go_wp2_with fail
        go_ret
        exact ⟨rfl, hBB _ _⟩
      · obtain rfl : R = false := by rw [← hR]; exact decide_eq_false c3
        clear hR
        go_enter Try.func29, Try.ntmps29
        go_wp2_with fail
        go_ret
        exact ⟨rfl, hBB _ _⟩
  · rw [if_pos c1] at hR
    have e2 : (r2 == s2) = false := beq_eq_false_iff_ne.2 c1
    by_cases c3 : s2 < r2
    · obtain rfl : R = true := by rw [← hR]; exact decide_eq_true c3
      clear hR
      go_enter Try.func29, Try.ntmps29
      go_wp2_with fail
      go_ret
      exact ⟨rfl, hBB _ _⟩
    · obtain rfl : R = false := by rw [← hR]; exact decide_eq_false c3
      clear hR
      go_enter Try.func29, Try.ntmps29
      go_wp2_with fail
      go_ret
      exact ⟨rfl, hBB _ _⟩
theorem rall_take {L : List IRt} {b i : Nat} {r : IRt} (h : L[i]? = some r) : (L.take (i + 1)).all (rmay b) = ((L.take i).all (rmay b) && rmay b r) := by
  rw [List.take_add_one, h, Option.toList_some, List.all_append]
  simp
set_option maxRecDepth 100000 in
set_option maxHeartbeats 1000000 in
theorem qfit_any (bits : Int) (L : List IRt) (o : Option Addr) (c : Nat) (w : World) (hL : L.length ≤ 281474976710656) (hr : IRR w o L) : Calls Try.prog 16 #[.int .i64 bits, .slice o L.length c] w fun e w' => e = .returned (.int .i64 (rfit bits L)) ∧ Below w.heap.size w w' := by
  unfold rfit
  by_cases c1 : 256 < L.length
  · rw [if_pos c1]
    have i1 : (256 : Int) < (L.length : Int) := by omega
    clear hr
    go_enter Try.func16, Try.ntmps16
    go_wp2_with fail
    go_ret
    exact ⟨rfl, Below.refl _ _⟩
  rw [if_neg c1]
  have i1 : ¬ (256 : Int) < (L.length : Int) := by omega
  by_cases c2 : 1 ≤ bits ∧ bits ≤ 32
  · rw [if_neg (fun h => h c2)]
    have i2 : ¬ bits < 1 := by omega
    have i3 : ¬ (32 : Int) < bits := by omega
    obtain ⟨b, rfl⟩ : ∃ b : Nat, bits = b := ⟨bits.toNat, by omega⟩
    rw [Int.toNat_natCast]
    have HM : Hid (∀ (r : IRt) (W : World), Calls Try.prog 26 #[.int .i64 (b : Int), rv r] W fun e w' => e = .returned (.bool (rmay b r)) ∧ Below W.heap.size W w') := fun r W => qmay_any b r W (by omega)
    obtain ⟨R, hR⟩ : ∃ R : Int, (if L.all (rmay b) = true then 0 else 80) = R := ⟨_, rfl⟩
    rw [hR]
    have HR : Hid ((if L.all (rmay b) = true then 0 else 80) = R) := hR
    have HI : Hid (IRR w o L) := hr
    clear hR hr
    go_enter Try.func16, Try.ntmps16
    go_wp2_with fail
    go_loopw [5] (fun vi wr => ∃ i : Nat, vi = .int .i64 i ∧ i ≤ L.length ∧ Hid ((L.take i).all (rmay b) = true) ∧ Below w.heap.size w wr) (fun vi _ => L.length - (intOf vi).toNat)
    case atStart => exact ⟨0, rfl, Nat.zero_le _, rfl, Below.refl _ _⟩
    case round =>
      obtain ⟨i, rfl, hi, ha, hB⟩ := hrel
      by_cases hlt : i < L.length
      · have j1 : (i : Int) < (L.length : Int) := by omega
        have j0 : (0 : Int) ≤ (i : Int) := by omega
        obtain ⟨r, hri⟩ : ∃ r, L[i]? = some r := ⟨_, List.getElem?_eq_getElem hlt⟩
        obtain ⟨g, o0, rfl, p0, p1, p2, p3⟩ := HI.out wr hB i r hri
        have hst := rall_take (b := b) hri
        rw [ha.out, Bool.true_and] at hst
        have hcall := HM.out r
        obtain ⟨m, hm⟩ : ∃ m, rmay b r = m := ⟨_, rfl⟩
        simp only [hm] at hcall
        rw [hm] at hst
        have hmem := List.mem_of_getElem? hri
        have HMF : Hid (m = false → R = 80) := fun e => by
          rw [← HR.out, if_neg]
          intro h
          have := List.all_eq_true.1 h r hmem
          rw [hm, e] at this
          exact absurd this (by decide)
        obtain ⟨r0, r1, r2, r3⟩ := r
        simp only at p0 p1 p2 p3
        have HC : Hid (∀ W : World, Calls Try.prog 26 #[.int .i64 (b : Int), .agg #[.int .i64 r0, .int .i64 r1, .int .i64 r2, .int .i64 r3]] W fun e w' => e = .returned (.bool m) ∧ Below W.heap.size W w') := hcall
        clear hcall hm hmem hri ha HM
        go_wp2_with fail
        refine (HC.out _).mono ?_
        rintro e W1 ⟨rfl, hb1⟩
        have hB1 := bel0 hB hb1
        cases m with
        | true =>
          have HA : Hid ((L.take (i + 1)).all (rmay b) = true) := hst
          clear hst HMF
          go_wp2_with fail
          go_roundw
          case rel => exact ⟨i + 1, by go_num, by omega, HA, hB1⟩
          case measure => simp [intOf]; omega
        | false =>
          obtain rfl : R = 80 := HMF.out rfl
          clear hst HMF HR
          go_wp2_with fail
          go_ret
          exact ⟨rfl, hB1⟩
      · have j1 : ¬ (i : Int) < (L.length : Int) := by omega
        obtain rfl : R = 0 := by
          have := ha.out
          rw [List.take_of_length_le (by omega)] at this
          rw [← HR.out, if_pos this]
        clear ha HR
        go_wp2_with fail
        go_ret
        exact ⟨rfl, hB⟩
  · rw [if_pos c2]
    clear hr
    by_cases c3 : bits < 1
    · have i2 : bits < 1 := c3
      clear c2
      go_enter Try.func16, Try.ntmps16
      go_wp2_with fail
      go_ret
      exact ⟨rfl, Below.refl _ _⟩
    · have i3 : (32 : Int) < bits := by omega
      clear c2
      go_enter Try.func16, Try.ntmps16
      go_wp2_with fail
      go_ret
      exact ⟨rfl, Below.refl _ _⟩
end Go.Proofs.Ytodhgeolcbmeiab

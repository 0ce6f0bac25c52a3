import Derived.Test.YtodhgeolcbmeiabRE
namespace Go.Proofs.Ytodhgeolcbmeiab
open Go.RowKit
theorem parQ_succ {b : Nat} {S : List IRt} {k i : Nat} {r s : IRt} (hi : S[i]? = some r) (hk : S[k]? = some s) : parQ b S k (i + 1) = if i ≠ k ∧ rcov b r s = true ∧ (parQ b S k i = 0 ∨ (S.getD (parQ b S k i - 1) (0, 0, 0, 0)).2.2.1 < r.2.2.1) then i + 1 else parQ b S k i := by
  rw [parQ, show S.getD i (0, 0, 0, 0) = r by simp [List.getD, hi], show S.getD k (0, 0, 0, 0) = s by simp [List.getD, hk]]
set_option maxRecDepth 100000 in
set_option maxHeartbeats 4000000 in
theorem qparent_any (b : Nat) (S : List IRt) (o : Option Addr) (c n k : Nat) (w : World) (hb : b ≤ 32) (hn : S.length = n) (hL : n ≤ 256) (hS : Srt b S) (hr : IRR w o S) (hk : k < n) :
    Calls Try.prog 28 #[.int .i64 (b : Int), .slice o n c, .int .i64 (k : Int)] w fun e w' => e = .returned (.int .i64 ((par b S k : Int) - 1)) ∧ Below w.heap.size w w' := by
  obtain ⟨t, htk⟩ : ∃ t, S[k]? = some t := ⟨_, List.getElem?_eq_getElem (by omega)⟩
  obtain ⟨g, o0, rfl, -⟩ := hr w (Below.refl _ _) k t htk
  have HI : Hid (IRR w (some ⟨g, o0, none⟩) S) := hr
  have HN : Hid (S.length = n) := hn
  have HC : Hid (∀ (r : IRt) (W : World), r ∈ S → Calls Try.prog 37 #[.int .i64 (b : Int), rv r, rv t] W fun e w' => e = .returned (.bool (rcov b r t)) ∧ Below W.heap.size W w') := fun r W h1 => qcov_any b r t W hb (hS.may r h1) (hS.may t (List.mem_of_getElem? htk))
  have HTK : Hid (S[k]? = some t) := htk
  have HXK : Hid (∀ W, Below w.heap.size w W → RC4 W g (o0 + k * 4) t) := fun W hW => hr.at htk hW
  have HPE : Hid (parQ b S k n = par b S k) := by
    unfold Hid
    rw [← hn]
    exact parQ_par hS (by omega)
  have k0 : (0 : Int) ≤ (k : Int) := by omega
  have k1 : (k : Int) < (n : Int) := by omega
  obtain ⟨t0, t1, t2, t3⟩ := t
  clear hr hn hS hb htk
  go_enter Try.func28, Try.ntmps28
  go_wp2_with fail
  go_loopw [7, 8] (fun vp vi wr => ∃ i p : Nat, vi = .int .i64 (i : Int) ∧ i ≤ n ∧ vp = .int .i64 ((p : Int) - 1) ∧ Hid (p = parQ b S k i) ∧ p ≤ i ∧ Below w.heap.size w wr) (fun _ vi _ => n - (intOf vi).toNat)
  case atStart => exact ⟨0, 0, rfl, Nat.zero_le _, rfl, rfl, Nat.le_refl _, Below.refl _ _⟩
  case round =>
    obtain ⟨i, p, rfl, hin, rfl, hp, hpi, hB⟩ := hrel
    by_cases hlt : i < n
    · have j1 : (i : Int) < (n : Int) := by omega
      have j0 : (0 : Int) ≤ (i : Int) := by omega
      obtain ⟨r, hri⟩ : ∃ r, S[i]? = some r := ⟨_, List.getElem?_eq_getElem (by rw [HN.out]; omega)⟩
      have HXI : Hid (∀ W, Below w.heap.size w W → RC4 W g (o0 + i * 4) r) := fun W hW => HI.out.at hri hW
      have hst := parQ_succ (b := b) hri HTK.out
      rw [← hp.out] at hst
      have HCX := fun W => HC.out r W (List.mem_of_getElem? hri)
      obtain ⟨D, hD⟩ : ∃ D, rcov b r (t0, t1, t2, t3) = D := ⟨_, rfl⟩
      simp only [hD] at HCX
      rw [hD] at hst
      obtain ⟨r0, r1, r2, r3⟩ := r
      simp only at hst
      have HCD : Hid (∀ W : World, Calls Try.prog 37 #[.int .i64 (b : Int), .agg #[.int .i64 r0, .int .i64 r1, .int .i64 r2, .int .i64 r3], .agg #[.int .i64 t0, .int .i64 t1, .int .i64 t2, .int .i64 t3]] W fun e w' => e = .returned (.bool D) ∧ Below W.heap.size W w') := HCX
      clear HCX hD hri hp
      by_cases d1 : i = k
      · rw [if_neg (fun h => h.1 d1)] at hst
        have HP : Hid (p = parQ b S k (i + 1)) := hst.symm
        have e1 : ((i : Int) == (k : Int)) = true := by rw [d1]; exact beq_self_eq_true _
        clear hst
        go_wp2_with fail
        refine quiet_lit3 (C := fun W => Below wr.heap.size wr W) (by kernel_rfl) (by kernel_rfl) (show Below _ _ _ from (Below.refl _ _).drew) ?_
        go_big_quiet_want
        go_big_quiet_op
        go_big_quiet_on
        go_big_quiet_want
        go_big_quiet_op
        go_big_quiet_on
        go_big_quiet_want
        refine ⟨.bool false, fun W hW => ?_, ?_⟩
        · go_simp
        go_big_quiet_on
        simp only [Act.put, List.setIfInBounds_toArray, List.set_cons_zero, List.set_cons_succ]
        go_big_quiet_want
        go_big_quiet_op
        go_big_quiet_on
        go_big_quiet_skip
        go_big_quiet_skip
        go_big_quiet_skip
        go_big_quiet_skip
        go_big_quiet_skip
        go_big_quiet_skip
        go_big_quiet_skip
        go_big_quiet_skip
        go_big_quiet_skip
        go_big_quiet_skip
        go_big_quiet_want
        refine ⟨.bool false, fun W hW => ?_, ?_⟩
        · go_simp
        go_big_quiet_on
        simp only [Act.put, List.setIfInBounds_toArray, List.set_cons_zero, List.set_cons_succ]
        go_big_quiet_want
        go_big_quiet_op
        go_big_quiet_on
        go_big_quiet_skip
        go_big_quiet_skip
        go_big_quiet_skip
        go_big_quiet_skip
        go_big_quiet_skip
        go_big_quiet_skip
        go_big_quiet_skip
        go_big_quiet_skip
        go_big_quiet_skip
        go_big_quiet_skip
        go_big_quiet_skip
        go_big_quiet_skip
        go_big_quiet_skip
        go_big_quiet_skip
        go_big_quiet_skip
        go_big_quiet_want
        refine ⟨.bool false, fun W hW => ?_, ?_⟩
        · go_simp
        go_big_quiet_on
        simp only [Act.put, List.setIfInBounds_toArray, List.set_cons_zero, List.set_cons_succ]
        refine wpQuiet_nil ?_
        intro W hW
        go_wp2_with fail
        go_roundw
        case rel => exact ⟨i + 1, p, by go_num, by omega, rfl, HP, by omega, bel0 hB hW⟩
        case measure => simp [intOf]; omega
      · have e1 : ((i : Int) == (k : Int)) = false := beq_eq_false_iff_ne.2 (by omega)
        have e2 : ((i : Int) != (k : Int)) = true := by rw [bne, e1]; rfl
        cases D with
        | false =>
          rw [if_neg (fun h => by cases h.2.1)] at hst
          have HP : Hid (p = parQ b S k (i + 1)) := hst.symm
          clear hst
          go_wp2_with fail
          refine quiet_lit3 (C := fun W => Below wr.heap.size wr W) (by kernel_rfl) (by kernel_rfl) (show Below _ _ _ from (Below.refl _ _).drew) ?_
          go_big_quiet_want
          go_big_quiet_op
          go_big_quiet_on
          go_big_quiet_want
          go_big_quiet_op
          go_big_quiet_on
          go_big_quiet_want
          refine ⟨.bool true, fun W hW => ?_, ?_⟩
          · go_simp
          go_big_quiet_on
          simp only [Act.put, List.setIfInBounds_toArray, List.set_cons_zero, List.set_cons_succ]
          go_big_quiet_want
          go_big_quiet_op
          go_big_quiet_on
          go_big_quiet_want
          go_big_quiet_op
          go_big_quiet_on
          go_big_quiet_want
          go_big_quiet_op
          go_big_quiet_on
          go_big_quiet_want
          go_big_quiet_op
          go_big_quiet_on
          go_big_quiet_want
          refine ⟨.pointer (some ⟨g, o0 + i * 4, none⟩), fun W hW => ?_, ?_⟩
          · go_simp
          go_big_quiet_on
          simp only [Act.put, List.setIfInBounds_toArray, List.set_cons_zero, List.set_cons_succ]
          go_big_quiet_want
          refine ⟨.agg #[.int .i64 r0, .int .i64 r1, .int .i64 r2, .int .i64 r3], fun W hW => ?_, ?_⟩
          · obtain ⟨z0, z1, z2, z3⟩ := HXI.out W (bel0 hB hW)
            simp only at z0 z1 z2 z3
            go_simp
          go_big_quiet_on
          simp only [Act.put, List.setIfInBounds_toArray, List.set_cons_zero, List.set_cons_succ]
          go_big_quiet_want
          go_big_quiet_op
          go_big_quiet_on
          go_big_quiet_want
          go_big_quiet_op
          go_big_quiet_on
          go_big_quiet_want
          refine ⟨.pointer (some ⟨g, o0 + k * 4, none⟩), fun W hW => ?_, ?_⟩
          · go_simp
          go_big_quiet_on
          simp only [Act.put, List.setIfInBounds_toArray, List.set_cons_zero, List.set_cons_succ]
          go_big_quiet_want
          refine ⟨.agg #[.int .i64 t0, .int .i64 t1, .int .i64 t2, .int .i64 t3], fun W hW => ?_, ?_⟩
          · obtain ⟨z0, z1, z2, z3⟩ := HXK.out W (bel0 hB hW)
            simp only at z0 z1 z2 z3
            go_simp
          go_big_quiet_on
          simp only [Act.put, List.setIfInBounds_toArray, List.set_cons_zero, List.set_cons_succ]
          go_big_quiet_want
          refine ⟨.bool false, fun W hW => ?_, ?_⟩
          · go_simp
            refine (HCD.out W).mono ?_
            rintro e w7 ⟨rfl, hb⟩
            exact ⟨rfl, bel0 hW hb⟩
          go_big_quiet_on
          simp only [Act.put, List.setIfInBounds_toArray, List.set_cons_zero, List.set_cons_succ]
          go_big_quiet_want
          refine ⟨.bool false, fun W hW => ?_, ?_⟩
          · go_simp
          go_big_quiet_on
          simp only [Act.put, List.setIfInBounds_toArray, List.set_cons_zero, List.set_cons_succ]
          go_big_quiet_want
          go_big_quiet_op
          go_big_quiet_on
          go_big_quiet_skip
          go_big_quiet_skip
          go_big_quiet_skip
          go_big_quiet_skip
          go_big_quiet_skip
          go_big_quiet_skip
          go_big_quiet_skip
          go_big_quiet_skip
          go_big_quiet_skip
          go_big_quiet_skip
          go_big_quiet_skip
          go_big_quiet_skip
          go_big_quiet_skip
          go_big_quiet_skip
          go_big_quiet_skip
          go_big_quiet_want
          refine ⟨.bool false, fun W hW => ?_, ?_⟩
          · go_simp
          go_big_quiet_on
          simp only [Act.put, List.setIfInBounds_toArray, List.set_cons_zero, List.set_cons_succ]
          refine wpQuiet_nil ?_
          intro W hW
          go_wp2_with fail
          go_roundw
          case rel => exact ⟨i + 1, p, by go_num, by omega, rfl, HP, by omega, bel0 hB hW⟩
          case measure => simp [intOf]; omega
        | true =>
          cases p with
          | zero =>
            rw [if_pos ⟨d1, rfl, .inl rfl⟩] at hst
            have HP : Hid (i + 1 = parQ b S k (i + 1)) := hst.symm
            have z0 : ((0 : Nat) : Int) - 1 = -1 := by omega
            rw [z0]
            clear hst z0
            go_wp2_with fail
            refine quiet_lit3 (C := fun W => Below wr.heap.size wr W) (by kernel_rfl) (by kernel_rfl) (show Below _ _ _ from (Below.refl _ _).drew) ?_
            go_big_quiet_want
            go_big_quiet_op
            go_big_quiet_on
            go_big_quiet_want
            go_big_quiet_op
            go_big_quiet_on
            go_big_quiet_want
            refine ⟨.bool true, fun W hW => ?_, ?_⟩
            · go_simp
            go_big_quiet_on
            simp only [Act.put, List.setIfInBounds_toArray, List.set_cons_zero, List.set_cons_succ]
            go_big_quiet_want
            go_big_quiet_op
            go_big_quiet_on
            go_big_quiet_want
            go_big_quiet_op
            go_big_quiet_on
            go_big_quiet_want
            go_big_quiet_op
            go_big_quiet_on
            go_big_quiet_want
            go_big_quiet_op
            go_big_quiet_on
            go_big_quiet_want
            refine ⟨.pointer (some ⟨g, o0 + i * 4, none⟩), fun W hW => ?_, ?_⟩
            · go_simp
            go_big_quiet_on
            simp only [Act.put, List.setIfInBounds_toArray, List.set_cons_zero, List.set_cons_succ]
            go_big_quiet_want
            refine ⟨.agg #[.int .i64 r0, .int .i64 r1, .int .i64 r2, .int .i64 r3], fun W hW => ?_, ?_⟩
            · obtain ⟨z0, z1, z2, z3⟩ := HXI.out W (bel0 hB hW)
              simp only at z0 z1 z2 z3
              go_simp
            go_big_quiet_on
            simp only [Act.put, List.setIfInBounds_toArray, List.set_cons_zero, List.set_cons_succ]
            go_big_quiet_want
            go_big_quiet_op
            go_big_quiet_on
            go_big_quiet_want
            go_big_quiet_op
            go_big_quiet_on
            go_big_quiet_want
            refine ⟨.pointer (some ⟨g, o0 + k * 4, none⟩), fun W hW => ?_, ?_⟩
            · go_simp
            go_big_quiet_on
            simp only [Act.put, List.setIfInBounds_toArray, List.set_cons_zero, List.set_cons_succ]
            go_big_quiet_want
            refine ⟨.agg #[.int .i64 t0, .int .i64 t1, .int .i64 t2, .int .i64 t3], fun W hW => ?_, ?_⟩
            · obtain ⟨z0, z1, z2, z3⟩ := HXK.out W (bel0 hB hW)
              simp only at z0 z1 z2 z3
              go_simp
            go_big_quiet_on
            simp only [Act.put, List.setIfInBounds_toArray, List.set_cons_zero, List.set_cons_succ]
            go_big_quiet_want
            refine ⟨.bool true, fun W hW => ?_, ?_⟩
            · go_simp
              refine (HCD.out W).mono ?_
              rintro e w7 ⟨rfl, hb⟩
              exact ⟨rfl, bel0 hW hb⟩
            go_big_quiet_on
            simp only [Act.put, List.setIfInBounds_toArray, List.set_cons_zero, List.set_cons_succ]
            go_big_quiet_want
            refine ⟨.bool true, fun W hW => ?_, ?_⟩
            · go_simp
            go_big_quiet_on
            simp only [Act.put, List.setIfInBounds_toArray, List.set_cons_zero, List.set_cons_succ]
            go_big_quiet_want
            go_big_quiet_op
            go_big_quiet_on
            go_big_quiet_want
            go_big_quiet_op
            go_big_quiet_on
            go_big_quiet_want
            refine ⟨.bool true, fun W hW => ?_, ?_⟩
            · go_simp
            go_big_quiet_on
            simp only [Act.put, List.setIfInBounds_toArray, List.set_cons_zero, List.set_cons_succ]
            go_big_quiet_want
            go_big_quiet_op
            go_big_quiet_on
            go_big_quiet_skip
            go_big_quiet_skip
            go_big_quiet_skip
            go_big_quiet_skip
            go_big_quiet_skip
            go_big_quiet_skip
            go_big_quiet_skip
            go_big_quiet_skip
            go_big_quiet_skip
            go_big_quiet_skip
            go_big_quiet_skip
            go_big_quiet_want
            refine ⟨.bool true, fun W hW => ?_, ?_⟩
            · go_simp
            go_big_quiet_on
            simp only [Act.put, List.setIfInBounds_toArray, List.set_cons_zero, List.set_cons_succ]
            go_big_quiet_want
            refine ⟨.bool true, fun W hW => ?_, ?_⟩
            · go_simp
            go_big_quiet_on
            simp only [Act.put, List.setIfInBounds_toArray, List.set_cons_zero, List.set_cons_succ]
            refine wpQuiet_nil ?_
            intro W hW
            go_wp2_with fail
            go_roundw
            case rel => exact ⟨i + 1, i + 1, by go_num, by omega, by first | go_num | (congr 1; omega), HP, by omega, bel0 hB hW⟩
            case measure => simp [intOf]; omega
          | succ q =>
            have z0 : ((q + 1 : Nat) : Int) - 1 = (q : Int) := by omega
            rw [z0]
            have q0 : (0 : Int) ≤ (q : Int) := by omega
            have q1 : (q : Int) < (n : Int) := by omega
            have q2 : ¬ (q : Int) < 0 := by omega
            obtain ⟨x, hxq⟩ : ∃ x, S[q]? = some x := ⟨_, List.getElem?_eq_getElem (by rw [HN.out]; omega)⟩
            have HXQ : Hid (∀ W, Below w.heap.size w W → RC4 W g (o0 + q * 4) x) := fun W hW => HI.out.at hxq hW
            rw [Nat.add_sub_cancel, show S.getD q (0, 0, 0, 0) = x by simp [List.getD, hxq]] at hst
            obtain ⟨x0, x1, x2, x3⟩ := x
            simp only at hst
            by_cases d3 : x2 < r2
            · rw [if_pos ⟨d1, by first | rfl | trivial, .inr d3⟩] at hst
              have HP : Hid (i + 1 = parQ b S k (i + 1)) := hst.symm
              clear hst z0 hxq
              go_wp2_with fail
              refine quiet_lit3 (C := fun W => Below wr.heap.size wr W) (by kernel_rfl) (by kernel_rfl) (show Below _ _ _ from (Below.refl _ _).drew) ?_
              go_big_quiet_want
              go_big_quiet_op
              go_big_quiet_on
              go_big_quiet_want
              go_big_quiet_op
              go_big_quiet_on
              go_big_quiet_want
              refine ⟨.bool true, fun W hW => ?_, ?_⟩
              · go_simp
              go_big_quiet_on
              simp only [Act.put, List.setIfInBounds_toArray, List.set_cons_zero, List.set_cons_succ]
              go_big_quiet_want
              go_big_quiet_op
              go_big_quiet_on
              go_big_quiet_want
              go_big_quiet_op
              go_big_quiet_on
              go_big_quiet_want
              go_big_quiet_op
              go_big_quiet_on
              go_big_quiet_want
              go_big_quiet_op
              go_big_quiet_on
              go_big_quiet_want
              refine ⟨.pointer (some ⟨g, o0 + i * 4, none⟩), fun W hW => ?_, ?_⟩
              · go_simp
              go_big_quiet_on
              simp only [Act.put, List.setIfInBounds_toArray, List.set_cons_zero, List.set_cons_succ]
              go_big_quiet_want
              refine ⟨.agg #[.int .i64 r0, .int .i64 r1, .int .i64 r2, .int .i64 r3], fun W hW => ?_, ?_⟩
              · obtain ⟨z0, z1, z2, z3⟩ := HXI.out W (bel0 hB hW)
                simp only at z0 z1 z2 z3
                go_simp
              go_big_quiet_on
              simp only [Act.put, List.setIfInBounds_toArray, List.set_cons_zero, List.set_cons_succ]
              go_big_quiet_want
              go_big_quiet_op
              go_big_quiet_on
              go_big_quiet_want
              go_big_quiet_op
              go_big_quiet_on
              go_big_quiet_want
              refine ⟨.pointer (some ⟨g, o0 + k * 4, none⟩), fun W hW => ?_, ?_⟩
              · go_simp
              go_big_quiet_on
              simp only [Act.put, List.setIfInBounds_toArray, List.set_cons_zero, List.set_cons_succ]
              go_big_quiet_want
              refine ⟨.agg #[.int .i64 t0, .int .i64 t1, .int .i64 t2, .int .i64 t3], fun W hW => ?_, ?_⟩
              · obtain ⟨z0, z1, z2, z3⟩ := HXK.out W (bel0 hB hW)
                simp only at z0 z1 z2 z3
                go_simp
              go_big_quiet_on
              simp only [Act.put, List.setIfInBounds_toArray, List.set_cons_zero, List.set_cons_succ]
              go_big_quiet_want
              refine ⟨.bool true, fun W hW => ?_, ?_⟩
              · go_simp
                refine (HCD.out W).mono ?_
                rintro e w7 ⟨rfl, hb⟩
                exact ⟨rfl, bel0 hW hb⟩
              go_big_quiet_on
              simp only [Act.put, List.setIfInBounds_toArray, List.set_cons_zero, List.set_cons_succ]
              go_big_quiet_want
              refine ⟨.bool true, fun W hW => ?_, ?_⟩
              · go_simp
              go_big_quiet_on
              simp only [Act.put, List.setIfInBounds_toArray, List.set_cons_zero, List.set_cons_succ]
              go_big_quiet_want
              go_big_quiet_op
              go_big_quiet_on
              go_big_quiet_want
              go_big_quiet_op
              go_big_quiet_on
              go_big_quiet_want
              refine ⟨.bool false, fun W hW => ?_, ?_⟩
              · go_simp
              go_big_quiet_on
              simp only [Act.put, List.setIfInBounds_toArray, List.set_cons_zero, List.set_cons_succ]
              go_big_quiet_want
              go_big_quiet_op
              go_big_quiet_on
              go_big_quiet_want
              go_big_quiet_op
              go_big_quiet_on
              go_big_quiet_want
              go_big_quiet_op
              go_big_quiet_on
              go_big_quiet_want
              refine ⟨.pointer (some ⟨g, o0 + i * 4, none⟩), fun W hW => ?_, ?_⟩
              · go_simp
              go_big_quiet_on
              simp only [Act.put, List.setIfInBounds_toArray, List.set_cons_zero, List.set_cons_succ]
              go_big_quiet_want
              refine ⟨.pointer (some ⟨g, o0 + i * 4 + 2, none⟩), fun W hW => ?_, ?_⟩
              · go_simp
              go_big_quiet_on
              simp only [Act.put, List.setIfInBounds_toArray, List.set_cons_zero, List.set_cons_succ]
              go_big_quiet_want
              refine ⟨.int .i64 r2, fun W hW => ?_, ?_⟩
              · obtain ⟨z0, z1, z2, z3⟩ := HXI.out W (bel0 hB hW)
                simp only at z0 z1 z2 z3
                go_simp
              go_big_quiet_on
              simp only [Act.put, List.setIfInBounds_toArray, List.set_cons_zero, List.set_cons_succ]
              go_big_quiet_want
              go_big_quiet_op
              go_big_quiet_on
              go_big_quiet_want
              go_big_quiet_op
              go_big_quiet_on
              go_big_quiet_want
              refine ⟨.pointer (some ⟨g, o0 + q * 4, none⟩), fun W hW => ?_, ?_⟩
              · go_simp
              go_big_quiet_on
              simp only [Act.put, List.setIfInBounds_toArray, List.set_cons_zero, List.set_cons_succ]
              go_big_quiet_want
              refine ⟨.pointer (some ⟨g, o0 + q * 4 + 2, none⟩), fun W hW => ?_, ?_⟩
              · go_simp
              go_big_quiet_on
              simp only [Act.put, List.setIfInBounds_toArray, List.set_cons_zero, List.set_cons_succ]
              go_big_quiet_want
              refine ⟨.int .i64 x2, fun W hW => ?_, ?_⟩
              · obtain ⟨z0, z1, z2, z3⟩ := HXQ.out W (bel0 hB hW)
                simp only at z0 z1 z2 z3
                go_simp
              go_big_quiet_on
              simp only [Act.put, List.setIfInBounds_toArray, List.set_cons_zero, List.set_cons_succ]
              go_big_quiet_want
              refine ⟨.bool true, fun W hW => ?_, ?_⟩
              · go_simp
              go_big_quiet_on
              simp only [Act.put, List.setIfInBounds_toArray, List.set_cons_zero, List.set_cons_succ]
              go_big_quiet_want
              refine ⟨.bool true, fun W hW => ?_, ?_⟩
              · go_simp
              go_big_quiet_on
              simp only [Act.put, List.setIfInBounds_toArray, List.set_cons_zero, List.set_cons_succ]
              go_big_quiet_want
              refine ⟨.bool true, fun W hW => ?_, ?_⟩
              · go_simp
              go_big_quiet_on
              simp only [Act.put, List.setIfInBounds_toArray, List.set_cons_zero, List.set_cons_succ]
              refine wpQuiet_nil ?_
              intro W hW
              go_wp2_with fail
              go_roundw
              case rel => exact ⟨i + 1, i + 1, by go_num, by omega, by first | go_num | (congr 1; omega), HP, by omega, bel0 hB hW⟩
              case measure => simp [intOf]; omega
            · rw [if_neg (fun h => h.2.2.elim (fun h => by omega) d3)] at hst
              have HP : Hid (q + 1 = parQ b S k (i + 1)) := hst.symm
              clear hst z0 hxq
              go_wp2_with fail
              refine quiet_lit3 (C := fun W => Below wr.heap.size wr W) (by kernel_rfl) (by kernel_rfl) (show Below _ _ _ from (Below.refl _ _).drew) ?_
              go_big_quiet_want
              go_big_quiet_op
              go_big_quiet_on
              go_big_quiet_want
              go_big_quiet_op
              go_big_quiet_on
              go_big_quiet_want
              refine ⟨.bool true, fun W hW => ?_, ?_⟩
              · go_simp
              go_big_quiet_on
              simp only [Act.put, List.setIfInBounds_toArray, List.set_cons_zero, List.set_cons_succ]
              go_big_quiet_want
              go_big_quiet_op
              go_big_quiet_on
              go_big_quiet_want
              go_big_quiet_op
              go_big_quiet_on
              go_big_quiet_want
              go_big_quiet_op
              go_big_quiet_on
              go_big_quiet_want
              go_big_quiet_op
              go_big_quiet_on
              go_big_quiet_want
              refine ⟨.pointer (some ⟨g, o0 + i * 4, none⟩), fun W hW => ?_, ?_⟩
              · go_simp
              go_big_quiet_on
              simp only [Act.put, List.setIfInBounds_toArray, List.set_cons_zero, List.set_cons_succ]
              go_big_quiet_want
              refine ⟨.agg #[.int .i64 r0, .int .i64 r1, .int .i64 r2, .int .i64 r3], fun W hW => ?_, ?_⟩
              · obtain ⟨z0, z1, z2, z3⟩ := HXI.out W (bel0 hB hW)
                simp only at z0 z1 z2 z3
                go_simp
              go_big_quiet_on
              simp only [Act.put, List.setIfInBounds_toArray, List.set_cons_zero, List.set_cons_succ]
              go_big_quiet_want
              go_big_quiet_op
              go_big_quiet_on
              go_big_quiet_want
              go_big_quiet_op
              go_big_quiet_on
              go_big_quiet_want
              refine ⟨.pointer (some ⟨g, o0 + k * 4, none⟩), fun W hW => ?_, ?_⟩
              · go_simp
              go_big_quiet_on
              simp only [Act.put, List.setIfInBounds_toArray, List.set_cons_zero, List.set_cons_succ]
              go_big_quiet_want
              refine ⟨.agg #[.int .i64 t0, .int .i64 t1, .int .i64 t2, .int .i64 t3], fun W hW => ?_, ?_⟩
              · obtain ⟨z0, z1, z2, z3⟩ := HXK.out W (bel0 hB hW)
                simp only at z0 z1 z2 z3
                go_simp
              go_big_quiet_on
              simp only [Act.put, List.setIfInBounds_toArray, List.set_cons_zero, List.set_cons_succ]
              go_big_quiet_want
              refine ⟨.bool true, fun W hW => ?_, ?_⟩
              · go_simp
                refine (HCD.out W).mono ?_
                rintro e w7 ⟨rfl, hb⟩
                exact ⟨rfl, bel0 hW hb⟩
              go_big_quiet_on
              simp only [Act.put, List.setIfInBounds_toArray, List.set_cons_zero, List.set_cons_succ]
              go_big_quiet_want
              refine ⟨.bool true, fun W hW => ?_, ?_⟩
              · go_simp
              go_big_quiet_on
              simp only [Act.put, List.setIfInBounds_toArray, List.set_cons_zero, List.set_cons_succ]
              go_big_quiet_want
              go_big_quiet_op
              go_big_quiet_on
              go_big_quiet_want
              go_big_quiet_op
              go_big_quiet_on
              go_big_quiet_want
              refine ⟨.bool false, fun W hW => ?_, ?_⟩
              · go_simp
              go_big_quiet_on
              simp only [Act.put, List.setIfInBounds_toArray, List.set_cons_zero, List.set_cons_succ]
              go_big_quiet_want
              go_big_quiet_op
              go_big_quiet_on
              go_big_quiet_want
              go_big_quiet_op
              go_big_quiet_on
              go_big_quiet_want
              go_big_quiet_op
              go_big_quiet_on
              go_big_quiet_want
              refine ⟨.pointer (some ⟨g, o0 + i * 4, none⟩), fun W hW => ?_, ?_⟩
              · go_simp
              go_big_quiet_on
              simp only [Act.put, List.setIfInBounds_toArray, List.set_cons_zero, List.set_cons_succ]
              go_big_quiet_want
              refine ⟨.pointer (some ⟨g, o0 + i * 4 + 2, none⟩), fun W hW => ?_, ?_⟩
              · go_simp
              go_big_quiet_on
              simp only [Act.put, List.setIfInBounds_toArray, List.set_cons_zero, List.set_cons_succ]
              go_big_quiet_want
              refine ⟨.int .i64 r2, fun W hW => ?_, ?_⟩
              · obtain ⟨z0, z1, z2, z3⟩ := HXI.out W (bel0 hB hW)
                simp only at z0 z1 z2 z3
                go_simp
              go_big_quiet_on
              simp only [Act.put, List.setIfInBounds_toArray, List.set_cons_zero, List.set_cons_succ]
              go_big_quiet_want
              go_big_quiet_op
              go_big_quiet_on
              go_big_quiet_want
              go_big_quiet_op
              go_big_quiet_on
              go_big_quiet_want
              refine ⟨.pointer (some ⟨g, o0 + q * 4, none⟩), fun W hW => ?_, ?_⟩
              · go_simp
              go_big_quiet_on
              simp only [Act.put, List.setIfInBounds_toArray, List.set_cons_zero, List.set_cons_succ]
              go_big_quiet_want
              refine ⟨.pointer (some ⟨g, o0 + q * 4 + 2, none⟩), fun W hW => ?_, ?_⟩
              · go_simp
              go_big_quiet_on
              simp only [Act.put, List.setIfInBounds_toArray, List.set_cons_zero, List.set_cons_succ]
              go_big_quiet_want
              refine ⟨.int .i64 x2, fun W hW => ?_, ?_⟩
              · obtain ⟨z0, z1, z2, z3⟩ := HXQ.out W (bel0 hB hW)
                simp only at z0 z1 z2 z3
                go_simp
              go_big_quiet_on
              simp only [Act.put, List.setIfInBounds_toArray, List.set_cons_zero, List.set_cons_succ]
              go_big_quiet_want
              refine ⟨.bool false, fun W hW => ?_, ?_⟩
              · go_simp
              go_big_quiet_on
              simp only [Act.put, List.setIfInBounds_toArray, List.set_cons_zero, List.set_cons_succ]
              go_big_quiet_want
              refine ⟨.bool false, fun W hW => ?_, ?_⟩
              · go_simp
              go_big_quiet_on
              simp only [Act.put, List.setIfInBounds_toArray, List.set_cons_zero, List.set_cons_succ]
              go_big_quiet_want
              refine ⟨.bool false, fun W hW => ?_, ?_⟩
              · go_simp
              go_big_quiet_on
              simp only [Act.put, List.setIfInBounds_toArray, List.set_cons_zero, List.set_cons_succ]
              refine wpQuiet_nil ?_
              intro W hW
              go_wp2_with fail
              go_roundw
              case rel => exact ⟨i + 1, q + 1, by go_num, by omega, by first | go_num | (congr 1; omega), HP, by omega, bel0 hB hW⟩
              case measure => simp [intOf]; omega
    · have j1 : ¬ (i : Int) < (n : Int) := by omega
      obtain rfl : i = n := by omega
      have HF : Hid (p = par b S k) := by unfold Hid; rw [hp.out, HPE.out]
      clear hp
      go_wp2_with fail
      go_ret
      exact ⟨by rw [← HF.out]; rfl, hB⟩
set_option maxRecDepth 100000 in
set_option maxHeartbeats 4000000 in
theorem qslim0_any (b : Nat) (S : List IRt) (o : Option Addr) (c n : Nat) (w : World) (hb : b ≤ 32) (hn : S.length = n) (hL : n ≤ 256) (hS : Srt b S) (hr : IRR w o S) :
    Calls Try.prog 17 #[.int .i64 (b : Int), .slice o n c] w fun e w' => ∃ v, e = .returned v ∧ w'.ownsRow w.heap.size 34 4 v (nedL b (metL b S)).length (rels (nedL b (metL b S))) ∧ Below w.heap.size w w' := by
  obtain ⟨i1, gi, gz0, gz1, gz2⟩ := info_parts info_rt
  have HI : Hid (IRR w o S) := hr
  have HN : Hid (S.length = n) := hn
  have HM : Hid (∀ (k : Nat) (W : World), k < n → Below w.heap.size w W → Calls Try.prog 27 #[.int .i64 (b : Int), .slice o n c, .int .i64 (k : Int)] W fun e w' => e = .returned (.bool (metB b S k)) ∧ Below W.heap.size W w') := fun k W hk hW => qmet_any b S o c n k W hb hn hL hS (hr.later hW) hk
  have HMS : Hid (Srt b (metL b S) ∧ (metL b S).length ≤ 256) := ⟨hS.sub (metL_sub b S), Nat.le_trans (metL_sub b S).length_le (by omega)⟩
  have HBB : Hid (b ≤ 32) := hb
  clear hr hn hS hb
  go_enter Try.func17, Try.ntmps17
  go_wp2_with fail
  go_loopw [5, 6] (fun vl vi wz => ∃ (j : Nat) (M : List IRt), vi = .int .i64 (j : Int) ∧ j ≤ n ∧ Hid (M = keepI (metB b S) S j) ∧ Hid (wz.ownsRow w.heap.size 34 4 vl M.length (rels M)) ∧ Below w.heap.size w wz) (fun _ vi _ => n - (intOf vi).toNat)
  case atStart => exact ⟨0, [], rfl, Nat.zero_le _, rfl, World.ownsRow_nil _ _ _ _, Below.refl _ _⟩
  case round =>
    obtain ⟨j, M, rfl, hji, hM, hO, hB⟩ := hrel
    by_cases hlt3 : j < n
    · have j2 : (j : Int) < (n : Int) := by omega
      have j3 : (0 : Int) ≤ (j : Int) := by omega
      obtain ⟨r, hrj⟩ : ∃ r, S[j]? = some r := ⟨_, List.getElem?_eq_getElem (by rw [HN.out]; omega)⟩
      have hgd : S.getD j (0, 0, 0, 0) = r := by simp [List.getD, hrj]
      have hks : keepI (metB b S) S (j + 1) = if metB b S j = true then M ++ [r] else M := by rw [keepI, hgd, ← hM.out]
      have hML : M.length ≤ 256 := by
        rw [hM.out]
        exact Nat.le_trans (keepI_len _ _ _ (by rw [HN.out]; omega)) (by omega)
      have HMJ := HM.out j wr hlt3 hB
      obtain ⟨D, hD⟩ : ∃ D, metB b S j = D := ⟨_, rfl⟩
      rw [hD] at HMJ hks
      obtain ⟨g, o0, rfl, -⟩ := HI.out wr hB j r hrj
      have XR : Hid (∀ W, Below w.heap.size w W → RC4 W g (o0 + j * 4) r) := fun W hW => HI.out.at hrj hW
      have HMD : Hid (Calls Try.prog 27 #[.int .i64 (b : Int), .slice (some ⟨g, o0, none⟩) n c, .int .i64 (j : Int)] wr fun e w' => e = .returned (.bool D) ∧ Below wr.heap.size wr w') := HMJ
      obtain ⟨q5, c5, rfl⟩ := shapeP hO.out
      obtain ⟨r0, r1, r2, r3⟩ := r
      clear HMJ hD hgd hrj hM
      cases D with
      | false =>
        rw [if_neg (by decide)] at hks
        have HK : Hid (M = keepI (metB b S) S (j + 1)) := hks.symm
        clear hks
        go_wp2_with fail
        refine HMD.out.mono ?_
        rintro e W ⟨rfl, hW⟩
        go_wp2_with fail
        go_roundw
        case rel => exact ⟨j + 1, M, by go_num, by omega, HK, owns_below hO.out hW, bel0 hB hW⟩
        case measure => simp [intOf]; omega
      | true =>
        rw [if_pos rfl] at hks
        have HK : Hid (M ++ [(r0, r1, r2, r3)] = keepI (metB b S) S (j + 1)) := hks.symm
        clear hks
        go_wp2_with fail
        refine HMD.out.mono ?_
        rintro e W ⟨rfl, hW⟩
        obtain ⟨y0, y1, y2, y3⟩ := XR.out W (bel0 hB hW)
        simp only at y0 y1 y2 y3
        have hBW := bel0 hB hW
        have ow := (owns_below hO.out hW).alloc (.cells #[.int .i64 r0, .int .i64 r1, .int .i64 r2, .int .i64 r3] 34)
        have hbw := (hBW.alloc hBW.size (.cells #[.int .i64 r0, .int .i64 r1, .int .i64 r2, .int .i64 r3] 34)).size
        go_wp2_with (at_builtin; refine wpList_append_own _ rfl _ _ 22 rfl w.heap.size 34 i1 _ 4 32 Try.underlying22 gi gz0 gz1 gz2 rfl (by decide) _ _ _ rfl ow ⟨_, 0, none⟩ 1 1 [.int .i64 r0, .int .i64 r1, .int .i64 r2, .int .i64 r3] rfl rfl (World.news_of_block (cs := #[.int .i64 r0, .int .i64 r1, .int .i64 r2, .int .i64 r3]) (t := 34) (fr := (0, 0)) (alloc_get _ _)) (by simp [Value.oneCell']) (by unfold maxLen; omega) (by omega) hbw ?_; intro v6 w6 oB hg6 _)
        have oC : w6.ownsRow w.heap.size 34 4 v6 (M ++ [(r0, r1, r2, r3)]).length (rels (M ++ [(r0, r1, r2, r3)])) := by
          rw [rels_app, List.length_append]
          exact oB
        have hB6 := (hBW.alloc hBW.size (.cells #[.int .i64 r0, .int .i64 r1, .int .i64 r2, .int .i64 r3] 34)).grown hg6 hbw (fun k e => (ow.lt k e).1)
        go_roundw
        case rel => exact ⟨j + 1, M ++ [(r0, r1, r2, r3)], by go_num, by omega, HK, oC, hB6⟩
        case measure => simp [intOf]; omega
    · have j2 : ¬ (j : Int) < (n : Int) := by omega
      obtain rfl : j = n := by omega
      have hE : M = metL b S := by unfold metL; rw [HN.out]; exact hM.out
      subst hE
      have HO1 : Hid (wr.ownsRow w.heap.size 34 4 u5 (metL b S).length (rels (metL b S))) := hO
      obtain ⟨q5, c5, rfl⟩ := shapeP hO.out
      obtain ⟨w5, rfl⟩ : ∃ w5, w5 = wr := ⟨wr, rfl⟩
      obtain ⟨m, hm⟩ : ∃ m, (metL b S).length = m := ⟨_, rfl⟩
      have hm256 : m ≤ 256 := hm ▸ HMS.out.2
      rw [hm] at HO1
      have HJ : Hid (IRR w5 q5 (metL b S)) := IRR_of_own HO1.out
      have HNM : Hid ((metL b S).length = m) := hm
      have HP : Hid (∀ (k : Nat) (W : World), k < m → Below w5.heap.size w5 W → Calls Try.prog 28 #[.int .i64 (b : Int), .slice q5 m c5, .int .i64 (k : Int)] W fun e w' => e = .returned (.int .i64 ((par b (metL b S) k : Int) - 1)) ∧ Below W.heap.size W w') := fun k W hk hW => qparent_any b (metL b S) q5 c5 m k W HBB.out hm hm256 HMS.out.1 (HJ.out.later hW) hk
      clear hM hO
      rw [hm]
      obtain ⟨S2, hS2⟩ : ∃ S2, metL b S = S2 := ⟨_, rfl⟩
      rw [hS2] at HJ HNM HP HO1
      have HS2 : Hid (metL b S = S2) := hS2
      clear hm hS2
      go_wp2_with fail
      go_loopw [7, 8] (fun vl vi wz => ∃ (j : Nat) (M : List IRt), vi = .int .i64 (j : Int) ∧ j ≤ m ∧ Hid (M = keepI (nedB b S2) S2 j) ∧ Hid (wz.ownsRow w5.heap.size 34 4 vl M.length (rels M)) ∧ Below w5.heap.size w5 wz) (fun _ vi _ => m - (intOf vi).toNat)
      case atStart => exact ⟨0, [], rfl, Nat.zero_le _, rfl, World.ownsRow_nil _ _ _ _, Below.refl _ _⟩
      case round =>
        clear HO1
        obtain ⟨i, M, rfl, hji, hM, hO, hBi⟩ := hrel
        by_cases hlt4 : i < m
        · have j2 : (i : Int) < (m : Int) := by omega
          have j3 : (0 : Int) ≤ (i : Int) := by omega
          obtain ⟨r, hrj⟩ : ∃ r, S2[i]? = some r := ⟨_, List.getElem?_eq_getElem (by rw [HNM.out]; omega)⟩
          have hgd : S2.getD i (0, 0, 0, 0) = r := by simp [List.getD, hrj]
          have hks : keepI (nedB b S2) S2 (i + 1) = if nedB b S2 i = true then M ++ [r] else M := by rw [keepI, hgd, ← hM.out]
          have hML : M.length ≤ 256 := by
            rw [hM.out]
            exact Nat.le_trans (keepI_len _ _ _ (by rw [HNM.out]; omega)) (by omega)
          have HPJ := HP.out i wr hlt4 hBi
          obtain ⟨g, o0, rfl, -⟩ := HJ.out wr hBi i r hrj
          have XR : Hid (∀ W, Below w5.heap.size w5 W → RC4 W g (o0 + i * 4) r) := fun W hW => HJ.out.at hrj hW
          have HOO : Hid (wr.ownsRow w5.heap.size 34 4 u7 M.length (rels M)) := hO
          obtain ⟨q7, c7, rfl⟩ := shapeP hO.out
          cases hpj : par b S2 i with
          | zero =>
            have e0 : ((0 : Nat) : Int) - 1 = -1 := by omega
            rw [hpj, e0] at HPJ
            have hnb : nedB b S2 i = true := by unfold nedB; rw [decide_eq_true hpj]; rfl
            rw [hnb, if_pos rfl] at hks
            obtain ⟨r0, r1, r2, r3⟩ := r
            have HK : Hid (M ++ [(r0, r1, r2, r3)] = keepI (nedB b S2) S2 (i + 1)) := hks.symm
            have HPD : Hid (Calls Try.prog 28 #[.int .i64 (b : Int), .slice (some ⟨g, o0, none⟩) m c5, .int .i64 (i : Int)] wr fun e w' => e = .returned (.int .i64 (-1)) ∧ Below wr.heap.size wr w') := HPJ
            clear hks hnb hpj e0 hgd hrj hM hO HPJ
            go_wp2_with fail
            refine HPD.out.mono ?_
            rintro e W2 ⟨rfl, hb2⟩
            have hB2 := bel0 hBi hb2
            go_wp2_with fail
            refine quiet_lit3 (C := fun W => Below W2.heap.size W2 W) (by kernel_rfl) (by kernel_rfl) (show Below _ _ _ from (Below.refl _ _).drew) ?_
            go_big_quiet_want
            go_big_quiet_op
            go_big_quiet_on
            go_big_quiet_want
            refine ⟨.bool true, fun W hW => ?_, ?_⟩
            · go_simp
            go_big_quiet_on
            simp only [Act.put, List.setIfInBounds_toArray, List.set_cons_zero, List.set_cons_succ]
            go_big_quiet_want
            go_big_quiet_op
            go_big_quiet_on
            go_big_quiet_skip
            go_big_quiet_skip
            go_big_quiet_skip
            go_big_quiet_skip
            go_big_quiet_skip
            go_big_quiet_skip
            go_big_quiet_skip
            go_big_quiet_skip
            go_big_quiet_skip
            go_big_quiet_skip
            go_big_quiet_skip
            go_big_quiet_want
            refine ⟨.bool true, fun W hW => ?_, ?_⟩
            · go_simp
            go_big_quiet_on
            simp only [Act.put, List.setIfInBounds_toArray, List.set_cons_zero, List.set_cons_succ]
            refine wpQuiet_nil ?_
            intro W hW
            obtain ⟨y0, y1, y2, y3⟩ := XR.out W (bel0 hB2 hW)
            simp only at y0 y1 y2 y3
            have hBW := bel0 hB2 hW
            have ow := (owns_below HOO.out (bel0 hb2 hW)).alloc (.cells #[.int .i64 r0, .int .i64 r1, .int .i64 r2, .int .i64 r3] 34)
            have hbw := (hBW.alloc hBW.size (.cells #[.int .i64 r0, .int .i64 r1, .int .i64 r2, .int .i64 r3] 34)).size
            go_wp2_with (at_builtin; refine wpList_append_own _ rfl _ _ 22 rfl w5.heap.size 34 i1 _ 4 32 Try.underlying22 gi gz0 gz1 gz2 rfl (by decide) _ _ _ rfl ow ⟨_, 0, none⟩ 1 1 [.int .i64 r0, .int .i64 r1, .int .i64 r2, .int .i64 r3] rfl rfl (World.news_of_block (cs := #[.int .i64 r0, .int .i64 r1, .int .i64 r2, .int .i64 r3]) (t := 34) (fr := (0, 0)) (alloc_get _ _)) (by simp [Value.oneCell']) (by unfold maxLen; omega) (by omega) hbw ?_; intro v6 w6 oB hg6 _)
            have oC : w6.ownsRow w5.heap.size 34 4 v6 (M ++ [(r0, r1, r2, r3)]).length (rels (M ++ [(r0, r1, r2, r3)])) := by
              rw [rels_app, List.length_append]
              exact oB
            have hB6 := (hBW.alloc hBW.size (.cells #[.int .i64 r0, .int .i64 r1, .int .i64 r2, .int .i64 r3] 34)).grown hg6 hbw (fun k e => (ow.lt k e).1)
            go_roundw
            case rel => exact ⟨i + 1, M ++ [(r0, r1, r2, r3)], by go_num, by omega, HK, oC, hB6⟩
            case measure => simp [intOf]; omega
          | succ q =>
            have hq : q < m := by have := par_le b S2 i; rw [hpj, HNM.out] at this; omega
            have e0 : ((q + 1 : Nat) : Int) - 1 = (q : Int) := by omega
            rw [hpj, e0] at HPJ
            have j4 : (q : Int) < (m : Int) := by omega
            have j5 : (0 : Int) ≤ (q : Int) := by omega
            have j6 : ¬ (q : Int) < 0 := by omega
            obtain ⟨t, htq⟩ : ∃ t, S2[q]? = some t := ⟨_, List.getElem?_eq_getElem (by rw [HNM.out]; omega)⟩
            have hnb : nedB b S2 i = decide (t.2.2.2 ≠ r.2.2.2) := by
              unfold nedB
              rw [hpj, hgd, Nat.add_sub_cancel, show S2.getD q (0, 0, 0, 0) = t by simp [List.getD, htq]]
              simp
            rw [hnb] at hks
            have XT : Hid (∀ W, Below w5.heap.size w5 W → RC4 W g (o0 + q * 4) t) := fun W hW => HJ.out.at htq hW
            have HPD : Hid (Calls Try.prog 28 #[.int .i64 (b : Int), .slice (some ⟨g, o0, none⟩) m c5, .int .i64 (i : Int)] wr fun e w' => e = .returned (.int .i64 (q : Int)) ∧ Below wr.heap.size wr w') := HPJ
            obtain ⟨r0, r1, r2, r3⟩ := r
            obtain ⟨t0, t1, t2, t3⟩ := t
            simp only at hks
            by_cases d : t3 = r3
            · subst d
              rw [decide_eq_false (fun h => h rfl), if_neg (by decide)] at hks
              have HK : Hid (M = keepI (nedB b S2) S2 (i + 1)) := hks.symm
              have e1 : (t3 == t3) = true := beq_self_eq_true t3
              clear hks hnb hpj e0 hgd hrj hM hO htq HPJ
              go_wp2_with fail
              refine HPD.out.mono ?_
              rintro e W2 ⟨rfl, hb2⟩
              have hB2 := bel0 hBi hb2
              go_wp2_with fail
              refine quiet_lit3 (C := fun W => Below W2.heap.size W2 W) (by kernel_rfl) (by kernel_rfl) (show Below _ _ _ from (Below.refl _ _).drew) ?_
              go_big_quiet_want
              go_big_quiet_op
              go_big_quiet_on
              go_big_quiet_want
              refine ⟨.bool false, fun W hW => ?_, ?_⟩
              · go_simp
              go_big_quiet_on
              simp only [Act.put, List.setIfInBounds_toArray, List.set_cons_zero, List.set_cons_succ]
              go_big_quiet_want
              go_big_quiet_op
              go_big_quiet_on
              go_big_quiet_want
              go_big_quiet_op
              go_big_quiet_on
              go_big_quiet_want
              go_big_quiet_op
              go_big_quiet_on
              go_big_quiet_want
              refine ⟨.pointer (some ⟨g, o0 + q * 4, none⟩), fun W hW => ?_, ?_⟩
              · go_simp
              go_big_quiet_on
              simp only [Act.put, List.setIfInBounds_toArray, List.set_cons_zero, List.set_cons_succ]
              go_big_quiet_want
              refine ⟨.pointer (some ⟨g, o0 + q * 4 + 3, none⟩), fun W hW => ?_, ?_⟩
              · go_simp
              go_big_quiet_on
              simp only [Act.put, List.setIfInBounds_toArray, List.set_cons_zero, List.set_cons_succ]
              go_big_quiet_want
              refine ⟨.int .i64 t3, fun W hW => ?_, ?_⟩
              · obtain ⟨z0, z1, z2, z3⟩ := XT.out W (bel0 hB2 hW)
                simp only at z0 z1 z2 z3
                go_simp
              go_big_quiet_on
              simp only [Act.put, List.setIfInBounds_toArray, List.set_cons_zero, List.set_cons_succ]
              go_big_quiet_want
              go_big_quiet_op
              go_big_quiet_on
              go_big_quiet_want
              go_big_quiet_op
              go_big_quiet_on
              go_big_quiet_want
              refine ⟨.pointer (some ⟨g, o0 + i * 4, none⟩), fun W hW => ?_, ?_⟩
              · go_simp
              go_big_quiet_on
              simp only [Act.put, List.setIfInBounds_toArray, List.set_cons_zero, List.set_cons_succ]
              go_big_quiet_want
              refine ⟨.pointer (some ⟨g, o0 + i * 4 + 3, none⟩), fun W hW => ?_, ?_⟩
              · go_simp
              go_big_quiet_on
              simp only [Act.put, List.setIfInBounds_toArray, List.set_cons_zero, List.set_cons_succ]
              go_big_quiet_want
              refine ⟨.int .i64 t3, fun W hW => ?_, ?_⟩
              · obtain ⟨z0, z1, z2, z3⟩ := XR.out W (bel0 hB2 hW)
                simp only at z0 z1 z2 z3
                go_simp
              go_big_quiet_on
              simp only [Act.put, List.setIfInBounds_toArray, List.set_cons_zero, List.set_cons_succ]
              go_big_quiet_want
              refine ⟨.bool false, fun W hW => ?_, ?_⟩
              · go_simp
              go_big_quiet_on
              simp only [Act.put, List.setIfInBounds_toArray, List.set_cons_zero, List.set_cons_succ]
              go_big_quiet_want
              refine ⟨.bool false, fun W hW => ?_, ?_⟩
              · go_simp
              go_big_quiet_on
              simp only [Act.put, List.setIfInBounds_toArray, List.set_cons_zero, List.set_cons_succ]
              refine wpQuiet_nil ?_
              intro W hW
              go_wp2_with fail
              go_roundw
              case rel => exact ⟨i + 1, M, by go_num, by omega, HK, owns_below HOO.out (bel0 hb2 hW), bel0 hB2 hW⟩
              case measure => simp [intOf]; omega
            · rw [decide_eq_true d, if_pos rfl] at hks
              have HK : Hid (M ++ [(r0, r1, r2, r3)] = keepI (nedB b S2) S2 (i + 1)) := hks.symm
              have e1 : (t3 == r3) = false := beq_eq_false_iff_ne.2 d
              have e2 : (t3 != r3) = true := by rw [bne, e1]; rfl
              clear hks hnb hpj e0 hgd hrj hM hO htq HPJ
              go_wp2_with fail
              refine HPD.out.mono ?_
              rintro e W2 ⟨rfl, hb2⟩
              have hB2 := bel0 hBi hb2
              go_wp2_with fail
              refine quiet_lit3 (C := fun W => Below W2.heap.size W2 W) (by kernel_rfl) (by kernel_rfl) (show Below _ _ _ from (Below.refl _ _).drew) ?_
              go_big_quiet_want
              go_big_quiet_op
              go_big_quiet_on
              go_big_quiet_want
              refine ⟨.bool false, fun W hW => ?_, ?_⟩
              · go_simp
              go_big_quiet_on
              simp only [Act.put, List.setIfInBounds_toArray, List.set_cons_zero, List.set_cons_succ]
              go_big_quiet_want
              go_big_quiet_op
              go_big_quiet_on
              go_big_quiet_want
              go_big_quiet_op
              go_big_quiet_on
              go_big_quiet_want
              go_big_quiet_op
              go_big_quiet_on
              go_big_quiet_want
              refine ⟨.pointer (some ⟨g, o0 + q * 4, none⟩), fun W hW => ?_, ?_⟩
              · go_simp
              go_big_quiet_on
              simp only [Act.put, List.setIfInBounds_toArray, List.set_cons_zero, List.set_cons_succ]
              go_big_quiet_want
              refine ⟨.pointer (some ⟨g, o0 + q * 4 + 3, none⟩), fun W hW => ?_, ?_⟩
              · go_simp
              go_big_quiet_on
              simp only [Act.put, List.setIfInBounds_toArray, List.set_cons_zero, List.set_cons_succ]
              go_big_quiet_want
              refine ⟨.int .i64 t3, fun W hW => ?_, ?_⟩
              · obtain ⟨z0, z1, z2, z3⟩ := XT.out W (bel0 hB2 hW)
                simp only at z0 z1 z2 z3
                go_simp
              go_big_quiet_on
              simp only [Act.put, List.setIfInBounds_toArray, List.set_cons_zero, List.set_cons_succ]
              go_big_quiet_want
              go_big_quiet_op
              go_big_quiet_on
              go_big_quiet_want
              go_big_quiet_op
              go_big_quiet_on
              go_big_quiet_want
              refine ⟨.pointer (some ⟨g, o0 + i * 4, none⟩), fun W hW => ?_, ?_⟩
              · go_simp
              go_big_quiet_on
              simp only [Act.put, List.setIfInBounds_toArray, List.set_cons_zero, List.set_cons_succ]
              go_big_quiet_want
              refine ⟨.pointer (some ⟨g, o0 + i * 4 + 3, none⟩), fun W hW => ?_, ?_⟩
              · go_simp
              go_big_quiet_on
              simp only [Act.put, List.setIfInBounds_toArray, List.set_cons_zero, List.set_cons_succ]
              go_big_quiet_want
              refine ⟨.int .i64 r3, fun W hW => ?_, ?_⟩
              · obtain ⟨z0, z1, z2, z3⟩ := XR.out W (bel0 hB2 hW)
                simp only at z0 z1 z2 z3
                go_simp
              go_big_quiet_on
              simp only [Act.put, List.setIfInBounds_toArray, List.set_cons_zero, List.set_cons_succ]
              go_big_quiet_want
              refine ⟨.bool true, fun W hW => ?_, ?_⟩
              · go_simp
              go_big_quiet_on
              simp only [Act.put, List.setIfInBounds_toArray, List.set_cons_zero, List.set_cons_succ]
              go_big_quiet_want
              refine ⟨.bool true, fun W hW => ?_, ?_⟩
              · go_simp
              go_big_quiet_on
              simp only [Act.put, List.setIfInBounds_toArray, List.set_cons_zero, List.set_cons_succ]
              refine wpQuiet_nil ?_
              intro W hW
              obtain ⟨y0, y1, y2, y3⟩ := XR.out W (bel0 hB2 hW)
              simp only at y0 y1 y2 y3
              have hBW := bel0 hB2 hW
              have ow := (owns_below HOO.out (bel0 hb2 hW)).alloc (.cells #[.int .i64 r0, .int .i64 r1, .int .i64 r2, .int .i64 r3] 34)
              have hbw := (hBW.alloc hBW.size (.cells #[.int .i64 r0, .int .i64 r1, .int .i64 r2, .int .i64 r3] 34)).size
              go_wp2_with (at_builtin; refine wpList_append_own _ rfl _ _ 22 rfl w5.heap.size 34 i1 _ 4 32 Try.underlying22 gi gz0 gz1 gz2 rfl (by decide) _ _ _ rfl ow ⟨_, 0, none⟩ 1 1 [.int .i64 r0, .int .i64 r1, .int .i64 r2, .int .i64 r3] rfl rfl (World.news_of_block (cs := #[.int .i64 r0, .int .i64 r1, .int .i64 r2, .int .i64 r3]) (t := 34) (fr := (0, 0)) (alloc_get _ _)) (by simp [Value.oneCell']) (by unfold maxLen; omega) (by omega) hbw ?_; intro v6 w6 oB hg6 _)
              have oC : w6.ownsRow w5.heap.size 34 4 v6 (M ++ [(r0, r1, r2, r3)]).length (rels (M ++ [(r0, r1, r2, r3)])) := by
                rw [rels_app, List.length_append]
                exact oB
              have hB6 := (hBW.alloc hBW.size (.cells #[.int .i64 r0, .int .i64 r1, .int .i64 r2, .int .i64 r3] 34)).grown hg6 hbw (fun k e => (ow.lt k e).1)
              go_roundw
              case rel => exact ⟨i + 1, M ++ [(r0, r1, r2, r3)], by go_num, by omega, HK, oC, hB6⟩
              case measure => simp [intOf]; omega
        · have j2 : ¬ (i : Int) < (m : Int) := by omega
          obtain rfl : i = m := by omega
          have HE : Hid (M = nedL b S2) := by unfold Hid nedL; rw [HNM.out]; exact hM.out
          clear hM
          go_wp2_with fail
          go_ret
          refine ⟨_, rfl, ?_, hB.trans (hBi.mono hB.size)⟩
          rw [HS2.out, ← HE.out]
          exact own_base hO.out hB.size
theorem res_qslim (tmps : Array Value) (W : World) (x y : Value) (h : tmps[4]?.getD undef = x ∧ tmps[5]?.getD undef = y) : (results Try.f6 tmps).run Try.prog W = .ok (.tuple #[x, y]) W := by
  simp [results, h.1, h.2, go_sem]
set_option maxRecDepth 100000 in
set_option maxHeartbeats 1000000 in
theorem qslim_any (bits : Int) (L : List IRt) (o : Option Addr) (c : Nat) (w : World) (hL : L.length ≤ 281474976710656) (hr : IRR w o L) :
    Calls Try.prog 6 #[.int .i64 bits, .slice o L.length c] w fun e w' => ∃ (O : List IRt) (v : Value), e = .returned (.tuple #[v, .int .i64 (rfit bits L)]) ∧ slimR bits L O ∧ w'.ownsRow w.heap.size 34 4 v O.length (rels O) ∧ Below w.heap.size w w' := by
  have HFT0 := qfit_any bits L o c w hL hr
  unfold slimR
  obtain ⟨F, hF⟩ : ∃ F, rfit bits L = F := ⟨_, rfl⟩
  simp only [hF]
  rw [hF] at HFT0
  have HFT : Hid (Calls Try.prog 16 #[.int .i64 bits, .slice o L.length c] w fun e w' => e = .returned (.int .i64 F) ∧ Below w.heap.size w w') := HFT0
  clear HFT0
  by_cases f0 : F = 0
  · subst f0
    obtain ⟨b1, b2, b3, b4⟩ := rfit_ok hF
    obtain ⟨b, rfl⟩ : ∃ b : Nat, bits = b := ⟨bits.toNat, by omega⟩
    have hb : b ≤ 32 := by omega
    rw [Int.toNat_natCast] at b4 ⊢
    have HLA : Hid (∀ W : World, Below w.heap.size w W → Calls Try.prog 18 #[.slice o L.length c] W fun e w' => ∃ (O : List IRt) (v : Value), e = .returned v ∧ OrdOf L O ∧ w'.ownsRow W.heap.size 34 4 v O.length (rels O) ∧ Below W.heap.size W w') := fun W hW => qorder_any L o c W (by omega) (hr.later hW)
    have HSR : Hid (∀ O, OrdOf L O → Srt b O ∧ O.length ≤ 256) := fun O hO => ⟨⟨hO.srt, fun r hr => List.all_eq_true.1 b4 r (hO.mem hr)⟩, Nat.le_trans (ord_len hO.srt (fun o ho => hO.mem ho)) b3⟩
    have HBB : Hid (b ≤ 32) := hb
    clear hr hF b1 b2 b3 b4 hL hb
    go_enter Try.func6, Try.ntmps6
    go_wp2_with fail
    refine HFT.out.mono ?_
    rintro e W1 ⟨rfl, hb1⟩
    go_wp2_with fail
    refine (HLA.out _ hb1).mono ?_
    rintro e W2 ⟨O, v, rfl, h1, h2, h3⟩
    obtain ⟨hs, hl⟩ := HSR.out O h1
    obtain ⟨q2, c2, rfl⟩ := shapeP h2
    have HMT : Hid (Calls Try.prog 17 #[.int .i64 (b : Int), .slice q2 O.length c2] W2 fun e w' => ∃ v, e = .returned v ∧ w'.ownsRow W2.heap.size 34 4 v (nedL b (metL b O)).length (rels (nedL b (metL b O))) ∧ Below W2.heap.size W2 w') := qslim0_any b O q2 c2 O.length W2 HBB.out rfl hl hs (IRR_of_own h2)
    have HOO : Hid (OrdOf L O) := h1
    have hB2 := bel0 hb1 h3
    clear h1 h2 h3 hs hl
    go_wp2_with fail
    refine HMT.out.mono ?_
    rintro e W3 ⟨v3, rfl, h2, h3⟩
    go_wp2_with fail
    refine bodyPost_ret (res_qslim _ _ _ _ ⟨rfl, rfl⟩) rfl ?_
    exact ⟨_, v3, rfl, ⟨O, HOO.out, rfl⟩, own_base h2 hB2.size, bel0 hB2 h3⟩
  · have f1 : (F == 0) = false := beq_eq_false_iff_ne.2 f0
    clear hr hF
    go_enter Try.func6, Try.ntmps6
    go_wp2_with fail
    refine HFT.out.mono ?_
    rintro e W1 ⟨rfl, hb1⟩
    go_wp2_with fail
    refine bodyPost_ret (res_qslim _ _ _ _ ⟨rfl, rfl⟩) rfl ?_
    exact ⟨[], _, rfl, rfl, World.ownsRow_nil _ _ _ _, hb1⟩
end Go.Proofs.Ytodhgeolcbmeiab

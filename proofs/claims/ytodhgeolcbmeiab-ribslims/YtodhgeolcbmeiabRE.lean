import Derived.Test.YtodhgeolcbmeiabBZ
namespace Go.Proofs.Ytodhgeolcbmeiab
open Go.RowKit
set_option maxRecDepth 100000 in
set_option maxHeartbeats 1000000 in
theorem qcov_any (b : Nat) (r s : IRt) (w : World) (hb : b ≤ 32) (hr : rmay b r = true) (hs : rmay b s = true) : Calls Try.prog 37 #[.int .i64 (b : Int), rv r, rv s] w fun e w' => e = .returned (.bool (rcov b r s)) ∧ Below w.heap.size w w' := by
  have hms := may_ok hs
  obtain ⟨v, hv⟩ : ∃ v : Nat, s.2.1 = (v : Int) := ⟨s.2.1.toNat, by omega⟩
  have HQ0 := fun W => qhas_any b r v W hb hr
  have hcv : rcov b r s = (decide (r.2.2.1 ≤ s.2.2.1) && rhas b r v) := by unfold rcov; rw [hv, Int.toNat_natCast]
  rw [hcv]
  obtain ⟨r0, r1, r2, r3⟩ := r
  obtain ⟨s0, s1, s2, s3⟩ := s
  simp only at hv
  subst hv
  obtain ⟨D, hD⟩ : ∃ D, rhas b (r0, r1, r2, r3) v = D := ⟨_, rfl⟩
  simp only [hD] at HQ0
  rw [hD]
  have HQ : Hid (∀ W : World, Calls Try.prog 39 #[.int .i64 (b : Int), .agg #[.int .i64 r0, .int .i64 r1, .int .i64 r2, .int .i64 r3], .int .i64 (v : Int)] W fun e w' => e = .returned (.bool D) ∧ Below W.heap.size W w') := HQ0
  clear HQ0 hD hcv hms hr hs hb
  show Calls Try.prog 37 #[.int .i64 (b : Int), .agg #[.int .i64 r0, .int .i64 r1, .int .i64 r2, .int .i64 r3], .agg #[.int .i64 s0, .int .i64 (v : Int), .int .i64 s2, .int .i64 s3]] w _
  have hBB : Below w.heap.size w ((w.alloc (.cells #[.int .i64 r0, .int .i64 r1, .int .i64 r2, .int .i64 r3] 34)).alloc (.cells #[.int .i64 s0, .int .i64 (v : Int), .int .i64 s2, .int .i64 s3] 34)) := ((Below.refl _ _).alloc (Nat.le_refl _) _).alloc (by simp) _
  by_cases h1 : r2 ≤ s2
  · show Calls _ _ _ _ fun e w' => e = .returned (.bool (decide (r2 ≤ s2) && D)) ∧ _
    rw [decide_eq_true h1, Bool.true_and]
    go_enter Try.func37, Try.ntmps37
    go_wp2_with fail
    refine (HQ.out _).mono ?_
    rintro e W1 ⟨rfl, hb1⟩
    go_wp2_with fail
    go_ret
    exact ⟨rfl, bel0 hBB hb1⟩
  · show Calls _ _ _ _ fun e w' => e = .returned (.bool (decide (r2 ≤ s2) && D)) ∧ _
    rw [decide_eq_false h1, Bool.false_and]
    go_enter Try.func37, Try.ntmps37
    go_wp2_with fail
    go_ret
    exact ⟨rfl, hBB⟩
theorem sh_ok {b l : Nat} (hb : b ≤ 32) (hl : l ≤ b) : ∃ e Pw : Nat, 2 ^ (b - l) = Pw ∧ Pw ≤ 4294967296 ∧ wrap64 ((b : Int) - (l : Int)) = (e : Int) ∧ (0 : Int) ≤ (e : Int) ∧ (e : Int) < 64 ∧ wrap64 ((2 : Int) ^ e) = (Pw : Int) := by
  have hp2 : 2 ^ (b - l) ≤ 2 ^ 32 := Nat.pow_le_pow_right (by decide) (by omega)
  refine ⟨b - l, 2 ^ (b - l), rfl, by omega, by unfold wrap64; omega, by omega, by omega, ?_⟩
  rw [pow_cast]
  generalize 2 ^ (b - l) = Q at hp2 ⊢
  exact w64 (by omega) (by omega)
theorem add40 {x y : Nat} (h1 : x ≤ 1099511627776) (h2 : y ≤ 4294967296) : wrap64 ((x : Int) + (y : Int)) = ((x + y : Nat) : Int) := by unfold wrap64; omega
/-- the cells of a route of a list -/
def RC4 (W : World) (g a : Nat) (r : IRt) : Prop := W.cell? ⟨g, a, none⟩ = some (.int .i64 r.1) ∧ W.cell? ⟨g, a + 1, none⟩ = some (.int .i64 r.2.1) ∧ W.cell? ⟨g, a + 2, none⟩ = some (.int .i64 r.2.2.1) ∧ W.cell? ⟨g, a + 3, none⟩ = some (.int .i64 r.2.2.2)
theorem IRR.at {w : World} {g o0 : Nat} {S : List IRt} (h : IRR w (some ⟨g, o0, none⟩) S) {i : Nat} {r : IRt} (hi : S[i]? = some r) {W : World} (hW : Below w.heap.size w W) : RC4 W g (o0 + i * 4) r := by
  obtain ⟨g3, q3, e, hh⟩ := h W hW i r hi
  injection e with e
  injection e with e1 e2
  subst e1 e2
  exact hh
/-- does a route not lie between k and i -/
def cnd (b : Nat) (lk : Int) (s : IRt) (r : IRt) : Bool := decide (r.2.2.1 ≤ lk) || decide (s.2.2.1 ≤ r.2.2.1) || !rcov b r s
theorem grt_eq {b : Nat} {S : List IRt} {k i : Nat} {t s : IRt} (hk : S[k]? = some t) (hi : S[i]? = some s) : grt b S k i = (decide (t.2.2.1 < s.2.2.1) && rcov b t s && S.all (cnd b t.2.2.1 s)) := by
  unfold grt
  rw [show S.getD k (0, 0, 0, 0) = t by simp [List.getD, hk], show S.getD i (0, 0, 0, 0) = s by simp [List.getD, hi]]
  rfl
theorem all_take {S : List IRt} {p : IRt → Bool} {i : Nat} {x : IRt} (hx : S[i]? = some x) : (S.take (i + 1)).all p = ((S.take i).all p && p x) := by
  rw [List.take_add_one, hx, List.all_append]
  simp
theorem all_false {S : List IRt} {p : IRt → Bool} {i : Nat} (h : (S.take i).all p = false) : S.all p = false := by
  cases e : S.all p with
  | false => rfl
  | true =>
    rw [List.all_eq_true] at e
    have : (S.take i).all p = true := List.all_eq_true.2 (fun x hx => e x (List.mem_of_mem_take hx))
    rw [h] at this
    cases this
theorem csum_step {b : Nat} {S : List IRt} (hS : Srt b S) {k i : Nat} (hk : k < S.length) (hi : i < S.length) : csum b S k (i + 1) = csum b S k i + if grt b S k i = true then siz b S i else 0 := by
  rw [csum]
  congr 1
  by_cases h : grt b S k i = true
  · rw [if_pos h, if_pos ((par_grt hS hk hi).2 h)]
    rfl
  · rw [if_neg h, if_neg (fun e => h ((par_grt hS hk hi).1 e))]
set_option maxRecDepth 100000 in
set_option maxHeartbeats 4000000 in
theorem qmet_any (b : Nat) (S : List IRt) (o : Option Addr) (c n k : Nat) (w : World) (hb : b ≤ 32) (hn : S.length = n) (hL : n ≤ 256) (hS : Srt b S) (hr : IRR w o S) (hk : k < n) :
    Calls Try.prog 27 #[.int .i64 (b : Int), .slice o n c, .int .i64 (k : Int)] w fun e w' => e = .returned (.bool (metB b S k)) ∧ Below w.heap.size w w' := by
  obtain ⟨t, htk⟩ : ∃ t, S[k]? = some t := ⟨_, List.getElem?_eq_getElem (by omega)⟩
  obtain ⟨g, o0, rfl, -⟩ := hr w (Below.refl _ _) k t htk
  have HI : Hid (IRR w (some ⟨g, o0, none⟩) S) := hr
  have HN : Hid (S.length = n) := hn
  have HS : Hid (Srt b S) := hS
  have HB : Hid (b ≤ 32) := hb
  have HC : Hid (∀ (r s : IRt) (W : World), r ∈ S → s ∈ S → Calls Try.prog 37 #[.int .i64 (b : Int), rv r, rv s] W fun e w' => e = .returned (.bool (rcov b r s)) ∧ Below W.heap.size W w') := fun r s W h1 h2 => qcov_any b r s W hb (hS.may r h1) (hS.may s h2)
  have htm := may_ok (hS.may t (List.mem_of_getElem? htk))
  have HTK : Hid (S[k]? = some t) := htk
  have HXK : Hid (∀ W, Below w.heap.size w W → RC4 W g (o0 + k * 4) t) := fun W hW => hr.at htk hW
  obtain ⟨lk, hlk⟩ : ∃ lk : Nat, t.2.2.1 = (lk : Int) := ⟨t.2.2.1.toNat, by omega⟩
  have HLK : Hid (lk ≤ b ∧ siz b S k = 2 ^ (b - lk)) := by
    refine ⟨by omega, ?_⟩
    unfold siz
    rw [show S.getD k (0, 0, 0, 0) = t by simp [List.getD, htk], hlk, Int.toNat_natCast]
  have k0 : (0 : Int) ≤ (k : Int) := by omega
  have k1 : (k : Int) < (n : Int) := by omega
  obtain ⟨t0, t1, t2, t3⟩ := t
  simp only at hlk HXK
  subst hlk
  clear hr hn hS hb htk htm
  go_enter Try.func27, Try.ntmps27
  go_wp2_with fail
  go_loopw [7, 8] (fun vs vi wr => ∃ i : Nat, vi = .int .i64 (i : Int) ∧ i ≤ n ∧ vs = .int .i64 (csum b S k i : Int) ∧ Below w.heap.size w wr) (fun _ vi _ => n - (intOf vi).toNat)
  case atStart => exact ⟨0, rfl, Nat.zero_le _, rfl, Below.refl _ _⟩
  case round =>
    obtain ⟨i, rfl, hin, rfl, hB⟩ := hrel
    obtain ⟨wo, rfl⟩ : ∃ wo, wo = wr := ⟨wr, rfl⟩
    by_cases hlt : i < n
    · have j1 : (i : Int) < (n : Int) := by omega
      have j0 : (0 : Int) ≤ (i : Int) := by omega
      obtain ⟨s, hsi⟩ : ∃ s, S[i]? = some s := ⟨_, List.getElem?_eq_getElem (by rw [HN.out]; omega)⟩
      have hsm := may_ok (HS.out.may s (List.mem_of_getElem? hsi))
      have HXI : Hid (∀ W, Below w.heap.size w W → RC4 W g (o0 + i * 4) s) := fun W hW => HI.out.at hsi hW
      have hst := csum_step HS.out (k := k) (i := i) (by rw [HN.out]; exact hk) (by rw [HN.out]; exact hlt)
      rw [grt_eq HTK.out hsi] at hst
      obtain ⟨li, hli⟩ : ∃ li : Nat, s.2.2.1 = (li : Int) := ⟨s.2.2.1.toNat, by omega⟩
      have HLI : Hid (li ≤ b ∧ siz b S i = 2 ^ (b - li)) := by
        refine ⟨by omega, ?_⟩
        unfold siz
        rw [show S.getD i (0, 0, 0, 0) = s by simp [List.getD, hsi], hli, Int.toNat_natCast]
      have HSI : Hid (s ∈ S) := List.mem_of_getElem? hsi
      have HCK := fun W => HC.out (t0, t1, (lk : Int), t3) s W (List.mem_of_getElem? HTK.out) HSI.out
      have HST : Hid (csum b S k (i + 1) = csum b S k i + if (decide ((lk : Int) < s.2.2.1) && rcov b (t0, t1, (lk : Int), t3) s && S.all (cnd b (lk : Int) s)) = true then siz b S i else 0) := hst
      clear hst hsi hsm
      by_cases d1 : s.2.2.1 ≤ (lk : Int)
      · have HSE : Hid (csum b S k i = csum b S k (i + 1)) := by unfold Hid; rw [HST.out, decide_eq_false (by omega), Bool.false_and, Bool.false_and, if_neg (by decide), Nat.add_zero]
        obtain ⟨s0, s1, s2, s3⟩ := s
        simp only at hli HXI d1
        subst hli
        go_wp2_with fail
        refine quiet_lit3 (C := fun W => Below wo.heap.size wo W) (by kernel_rfl) (by kernel_rfl) (show Below _ _ _ from (Below.refl _ _).drew) ?_
        go_big_quiet_want
        go_big_quiet_op
        go_big_quiet_on
        go_big_quiet_want
        go_big_quiet_op
        go_big_quiet_on
        go_big_quiet_want
        refine ⟨.pointer (some ⟨g, o0 + i * 4, none⟩), fun W hW => ?_, ?_⟩
        · go_simp
        go_big_quiet_on
        simp only [Act.put, List.setIfInBounds_toArray, List.set_cons_zero, List.set_cons_succ]
        go_big_quiet_want
        refine ⟨.pointer (some ⟨g, o0 + i * 4 + 2, none⟩), fun W hW => ?_, ?_⟩
        · go_simp
        go_big_quiet_on
        simp only [Act.put, List.setIfInBounds_toArray, List.set_cons_zero, List.set_cons_succ]
        go_big_quiet_want
        refine ⟨.int .i64 (li : Int), fun W hW => ?_, ?_⟩
        · obtain ⟨z0, z1, z2, z3⟩ := HXI.out W (bel0 hB hW)
          simp only at z0 z1 z2 z3
          go_simp
        go_big_quiet_on
        simp only [Act.put, List.setIfInBounds_toArray, List.set_cons_zero, List.set_cons_succ]
        go_big_quiet_want
        go_big_quiet_op
        go_big_quiet_on
        go_big_quiet_want
        go_big_quiet_op
        go_big_quiet_on
        go_big_quiet_want
        refine ⟨.pointer (some ⟨g, o0 + k * 4, none⟩), fun W hW => ?_, ?_⟩
        · go_simp
        go_big_quiet_on
        simp only [Act.put, List.setIfInBounds_toArray, List.set_cons_zero, List.set_cons_succ]
        go_big_quiet_want
        refine ⟨.pointer (some ⟨g, o0 + k * 4 + 2, none⟩), fun W hW => ?_, ?_⟩
        · go_simp
        go_big_quiet_on
        simp only [Act.put, List.setIfInBounds_toArray, List.set_cons_zero, List.set_cons_succ]
        go_big_quiet_want
        refine ⟨.int .i64 (lk : Int), fun W hW => ?_, ?_⟩
        · obtain ⟨z0, z1, z2, z3⟩ := HXK.out W (bel0 hB hW)
          simp only at z0 z1 z2 z3
          go_simp
        go_big_quiet_on
        simp only [Act.put, List.setIfInBounds_toArray, List.set_cons_zero, List.set_cons_succ]
        go_big_quiet_want
        refine ⟨.bool true, fun W hW => ?_, ?_⟩
        · go_simp
        go_big_quiet_on
        simp only [Act.put, List.setIfInBounds_toArray, List.set_cons_zero, List.set_cons_succ]
        go_big_quiet_want
        go_big_quiet_op
        go_big_quiet_on
        go_big_quiet_skip
        go_big_quiet_skip
        go_big_quiet_skip
        go_big_quiet_skip
        go_big_quiet_skip
        go_big_quiet_skip
        go_big_quiet_skip
        go_big_quiet_skip
        go_big_quiet_skip
        go_big_quiet_skip
        go_big_quiet_skip
        go_big_quiet_want
        refine ⟨.bool true, fun W hW => ?_, ?_⟩
        · go_simp
        go_big_quiet_on
        simp only [Act.put, List.setIfInBounds_toArray, List.set_cons_zero, List.set_cons_succ]
        refine wpQuiet_nil ?_
        intro W hW
        go_wp2_with fail
        go_roundw
        case rel => exact ⟨i + 1, by go_num, by omega, by rw [HSE.out], bel0 hB hW⟩
        case measure => simp [intOf]; omega
      · obtain ⟨D, hD⟩ : ∃ D, rcov b (t0, t1, (lk : Int), t3) s = D := ⟨_, rfl⟩
        simp only [hD] at HCK
        cases D with
        | false =>
          have HSE : Hid (csum b S k i = csum b S k (i + 1)) := by unfold Hid; rw [HST.out, hD, Bool.and_false, Bool.false_and, if_neg (by decide), Nat.add_zero]
          obtain ⟨s0, s1, s2, s3⟩ := s
          simp only at hli HXI d1
          subst hli
          have d1n : lk < li := by omega
          have HCD : Hid (∀ W : World, Calls Try.prog 37 #[.int .i64 (b : Int), .agg #[.int .i64 t0, .int .i64 t1, .int .i64 (lk : Int), .int .i64 t3], .agg #[.int .i64 s0, .int .i64 s1, .int .i64 (li : Int), .int .i64 s3]] W fun e w' => e = .returned (.bool false) ∧ Below W.heap.size W w') := HCK
          clear HCK hD
          go_wp2_with fail
          refine quiet_lit3 (C := fun W => Below wo.heap.size wo W) (by kernel_rfl) (by kernel_rfl) (show Below _ _ _ from (Below.refl _ _).drew) ?_
          go_big_quiet_want
          go_big_quiet_op
          go_big_quiet_on
          go_big_quiet_want
          go_big_quiet_op
          go_big_quiet_on
          go_big_quiet_want
          refine ⟨.pointer (some ⟨g, o0 + i * 4, none⟩), fun W hW => ?_, ?_⟩
          · go_simp
          go_big_quiet_on
          simp only [Act.put, List.setIfInBounds_toArray, List.set_cons_zero, List.set_cons_succ]
          go_big_quiet_want
          refine ⟨.pointer (some ⟨g, o0 + i * 4 + 2, none⟩), fun W hW => ?_, ?_⟩
          · go_simp
          go_big_quiet_on
          simp only [Act.put, List.setIfInBounds_toArray, List.set_cons_zero, List.set_cons_succ]
          go_big_quiet_want
          refine ⟨.int .i64 (li : Int), fun W hW => ?_, ?_⟩
          · obtain ⟨z0, z1, z2, z3⟩ := HXI.out W (bel0 hB hW)
            simp only at z0 z1 z2 z3
            go_simp
          go_big_quiet_on
          simp only [Act.put, List.setIfInBounds_toArray, List.set_cons_zero, List.set_cons_succ]
          go_big_quiet_want
          go_big_quiet_op
          go_big_quiet_on
          go_big_quiet_want
          go_big_quiet_op
          go_big_quiet_on
          go_big_quiet_want
          refine ⟨.pointer (some ⟨g, o0 + k * 4, none⟩), fun W hW => ?_, ?_⟩
          · go_simp
          go_big_quiet_on
          simp only [Act.put, List.setIfInBounds_toArray, List.set_cons_zero, List.set_cons_succ]
          go_big_quiet_want
          refine ⟨.pointer (some ⟨g, o0 + k * 4 + 2, none⟩), fun W hW => ?_, ?_⟩
          · go_simp
          go_big_quiet_on
          simp only [Act.put, List.setIfInBounds_toArray, List.set_cons_zero, List.set_cons_succ]
          go_big_quiet_want
          refine ⟨.int .i64 (lk : Int), fun W hW => ?_, ?_⟩
          · obtain ⟨z0, z1, z2, z3⟩ := HXK.out W (bel0 hB hW)
            simp only at z0 z1 z2 z3
            go_simp
          go_big_quiet_on
          simp only [Act.put, List.setIfInBounds_toArray, List.set_cons_zero, List.set_cons_succ]
          go_big_quiet_want
          refine ⟨.bool false, fun W hW => ?_, ?_⟩
          · go_simp
          go_big_quiet_on
          simp only [Act.put, List.setIfInBounds_toArray, List.set_cons_zero, List.set_cons_succ]
          go_big_quiet_want
          go_big_quiet_op
          go_big_quiet_on
          go_big_quiet_want
          go_big_quiet_op
          go_big_quiet_on
          go_big_quiet_want
          go_big_quiet_op
          go_big_quiet_on
          go_big_quiet_want
          go_big_quiet_op
          go_big_quiet_on
          go_big_quiet_want
          refine ⟨.pointer (some ⟨g, o0 + k * 4, none⟩), fun W hW => ?_, ?_⟩
          · go_simp
          go_big_quiet_on
          simp only [Act.put, List.setIfInBounds_toArray, List.set_cons_zero, List.set_cons_succ]
          go_big_quiet_want
          refine ⟨.agg #[.int .i64 t0, .int .i64 t1, .int .i64 (lk : Int), .int .i64 t3], fun W hW => ?_, ?_⟩
          · obtain ⟨z0, z1, z2, z3⟩ := HXK.out W (bel0 hB hW)
            simp only at z0 z1 z2 z3
            go_simp
          go_big_quiet_on
          simp only [Act.put, List.setIfInBounds_toArray, List.set_cons_zero, List.set_cons_succ]
          go_big_quiet_want
          go_big_quiet_op
          go_big_quiet_on
          go_big_quiet_want
          go_big_quiet_op
          go_big_quiet_on
          go_big_quiet_want
          refine ⟨.pointer (some ⟨g, o0 + i * 4, none⟩), fun W hW => ?_, ?_⟩
          · go_simp
          go_big_quiet_on
          simp only [Act.put, List.setIfInBounds_toArray, List.set_cons_zero, List.set_cons_succ]
          go_big_quiet_want
          refine ⟨.agg #[.int .i64 s0, .int .i64 s1, .int .i64 (li : Int), .int .i64 s3], fun W hW => ?_, ?_⟩
          · obtain ⟨z0, z1, z2, z3⟩ := HXI.out W (bel0 hB hW)
            simp only at z0 z1 z2 z3
            go_simp
          go_big_quiet_on
          simp only [Act.put, List.setIfInBounds_toArray, List.set_cons_zero, List.set_cons_succ]
          go_big_quiet_want
          refine ⟨.bool false, fun W hW => ?_, ?_⟩
          · go_simp
            refine (HCD.out W).mono ?_
            rintro e w7 ⟨rfl, hb⟩
            exact ⟨rfl, bel0 hW hb⟩
          go_big_quiet_on
          simp only [Act.put, List.setIfInBounds_toArray, List.set_cons_zero, List.set_cons_succ]
          go_big_quiet_want
          refine ⟨.bool true, fun W hW => ?_, ?_⟩
          · go_simp
          go_big_quiet_on
          simp only [Act.put, List.setIfInBounds_toArray, List.set_cons_zero, List.set_cons_succ]
          go_big_quiet_want
          refine ⟨.bool true, fun W hW => ?_, ?_⟩
          · go_simp
          go_big_quiet_on
          simp only [Act.put, List.setIfInBounds_toArray, List.set_cons_zero, List.set_cons_succ]
          refine wpQuiet_nil ?_
          intro W hW
          go_wp2_with fail
          go_roundw
          case rel => exact ⟨i + 1, by go_num, by omega, by rw [HSE.out], bel0 hB hW⟩
          case measure => simp [intOf]; omega
        | true =>
          have HSE : Hid (csum b S k (i + 1) = csum b S k i + if S.all (cnd b (lk : Int) s) = true then siz b S i else 0) := by
            unfold Hid
            rw [HST.out, hD, decide_eq_true (show (lk : Int) < s.2.2.1 by omega), Bool.and_true, Bool.true_and]
          have HCS : Hid (∀ (r : IRt) (W : World), r ∈ S → Calls Try.prog 37 #[.int .i64 (b : Int), rv r, rv s] W fun e w' => e = .returned (.bool (rcov b r s)) ∧ Below W.heap.size W w') := fun r W h1 => HC.out r s W h1 HSI.out
          obtain ⟨s0, s1, s2, s3⟩ := s
          simp only at hli HXI d1
          subst hli
          have d1n : lk < li := by omega
          have HCD : Hid (∀ W : World, Calls Try.prog 37 #[.int .i64 (b : Int), .agg #[.int .i64 t0, .int .i64 t1, .int .i64 (lk : Int), .int .i64 t3], .agg #[.int .i64 s0, .int .i64 s1, .int .i64 (li : Int), .int .i64 s3]] W fun e w' => e = .returned (.bool true) ∧ Below W.heap.size W w') := HCK
          clear HCK hD HST
          go_wp2_with fail
          refine quiet_lit3 (C := fun W => Below wo.heap.size wo W) (by kernel_rfl) (by kernel_rfl) (show Below _ _ _ from (Below.refl _ _).drew) ?_
          go_big_quiet_want
          go_big_quiet_op
          go_big_quiet_on
          go_big_quiet_want
          go_big_quiet_op
          go_big_quiet_on
          go_big_quiet_want
          refine ⟨.pointer (some ⟨g, o0 + i * 4, none⟩), fun W hW => ?_, ?_⟩
          · go_simp
          go_big_quiet_on
          simp only [Act.put, List.setIfInBounds_toArray, List.set_cons_zero, List.set_cons_succ]
          go_big_quiet_want
          refine ⟨.pointer (some ⟨g, o0 + i * 4 + 2, none⟩), fun W hW => ?_, ?_⟩
          · go_simp
          go_big_quiet_on
          simp only [Act.put, List.setIfInBounds_toArray, List.set_cons_zero, List.set_cons_succ]
          go_big_quiet_want
          refine ⟨.int .i64 (li : Int), fun W hW => ?_, ?_⟩
          · obtain ⟨z0, z1, z2, z3⟩ := HXI.out W (bel0 hB hW)
            simp only at z0 z1 z2 z3
            go_simp
          go_big_quiet_on
          simp only [Act.put, List.setIfInBounds_toArray, List.set_cons_zero, List.set_cons_succ]
          go_big_quiet_want
          go_big_quiet_op
          go_big_quiet_on
          go_big_quiet_want
          go_big_quiet_op
          go_big_quiet_on
          go_big_quiet_want
          refine ⟨.pointer (some ⟨g, o0 + k * 4, none⟩), fun W hW => ?_, ?_⟩
          · go_simp
          go_big_quiet_on
          simp only [Act.put, List.setIfInBounds_toArray, List.set_cons_zero, List.set_cons_succ]
          go_big_quiet_want
          refine ⟨.pointer (some ⟨g, o0 + k * 4 + 2, none⟩), fun W hW => ?_, ?_⟩
          · go_simp
          go_big_quiet_on
          simp only [Act.put, List.setIfInBounds_toArray, List.set_cons_zero, List.set_cons_succ]
          go_big_quiet_want
          refine ⟨.int .i64 (lk : Int), fun W hW => ?_, ?_⟩
          · obtain ⟨z0, z1, z2, z3⟩ := HXK.out W (bel0 hB hW)
            simp only at z0 z1 z2 z3
            go_simp
          go_big_quiet_on
          simp only [Act.put, List.setIfInBounds_toArray, List.set_cons_zero, List.set_cons_succ]
          go_big_quiet_want
          refine ⟨.bool false, fun W hW => ?_, ?_⟩
          · go_simp
          go_big_quiet_on
          simp only [Act.put, List.setIfInBounds_toArray, List.set_cons_zero, List.set_cons_succ]
          go_big_quiet_want
          go_big_quiet_op
          go_big_quiet_on
          go_big_quiet_want
          go_big_quiet_op
          go_big_quiet_on
          go_big_quiet_want
          go_big_quiet_op
          go_big_quiet_on
          go_big_quiet_want
          go_big_quiet_op
          go_big_quiet_on
          go_big_quiet_want
          refine ⟨.pointer (some ⟨g, o0 + k * 4, none⟩), fun W hW => ?_, ?_⟩
          · go_simp
          go_big_quiet_on
          simp only [Act.put, List.setIfInBounds_toArray, List.set_cons_zero, List.set_cons_succ]
          go_big_quiet_want
          refine ⟨.agg #[.int .i64 t0, .int .i64 t1, .int .i64 (lk : Int), .int .i64 t3], fun W hW => ?_, ?_⟩
          · obtain ⟨z0, z1, z2, z3⟩ := HXK.out W (bel0 hB hW)
            simp only at z0 z1 z2 z3
            go_simp
          go_big_quiet_on
          simp only [Act.put, List.setIfInBounds_toArray, List.set_cons_zero, List.set_cons_succ]
          go_big_quiet_want
          go_big_quiet_op
          go_big_quiet_on
          go_big_quiet_want
          go_big_quiet_op
          go_big_quiet_on
          go_big_quiet_want
          refine ⟨.pointer (some ⟨g, o0 + i * 4, none⟩), fun W hW => ?_, ?_⟩
          · go_simp
          go_big_quiet_on
          simp only [Act.put, List.setIfInBounds_toArray, List.set_cons_zero, List.set_cons_succ]
          go_big_quiet_want
          refine ⟨.agg #[.int .i64 s0, .int .i64 s1, .int .i64 (li : Int), .int .i64 s3], fun W hW => ?_, ?_⟩
          · obtain ⟨z0, z1, z2, z3⟩ := HXI.out W (bel0 hB hW)
            simp only at z0 z1 z2 z3
            go_simp
          go_big_quiet_on
          simp only [Act.put, List.setIfInBounds_toArray, List.set_cons_zero, List.set_cons_succ]
          go_big_quiet_want
          refine ⟨.bool true, fun W hW => ?_, ?_⟩
          · go_simp
            refine (HCD.out W).mono ?_
            rintro e w7 ⟨rfl, hb⟩
            exact ⟨rfl, bel0 hW hb⟩
          go_big_quiet_on
          simp only [Act.put, List.setIfInBounds_toArray, List.set_cons_zero, List.set_cons_succ]
          go_big_quiet_want
          refine ⟨.bool false, fun W hW => ?_, ?_⟩
          · go_simp
          go_big_quiet_on
          simp only [Act.put, List.setIfInBounds_toArray, List.set_cons_zero, List.set_cons_succ]
          go_big_quiet_want
          refine ⟨.bool false, fun W hW => ?_, ?_⟩
          · go_simp
          go_big_quiet_on
          simp only [Act.put, List.setIfInBounds_toArray, List.set_cons_zero, List.set_cons_succ]
          refine wpQuiet_nil ?_
          intro W hW
          have hBW := bel0 hB hW
          obtain ⟨w3, rfl⟩ : ∃ w3, w3 = W := ⟨W, rfl⟩
          go_wp2_with fail
          go_loopw [9, 10] (fun vg vj wr => ∃ (j : Nat) (G : Bool), vg = .bool G ∧ vj = .int .i64 (j : Int) ∧ j ≤ n ∧ Hid (G = (S.take j).all (cnd b (lk : Int) (s0, s1, (li : Int), s3))) ∧ Below w.heap.size w wr) (fun _ vj _ => n - (intOf vj).toNat)
          case atStart => exact ⟨0, true, rfl, rfl, Nat.zero_le _, rfl, hBW⟩
          case round =>
            clear hW hBW
            obtain ⟨j, G, rfl, rfl, hjn, hG, hBj⟩ := hrel
            by_cases hjl : j < n
            · have m1 : (j : Int) < (n : Int) := by omega
              have m0 : (0 : Int) ≤ (j : Int) := by omega
              cases G with
              | false =>
                have HSF : Hid (csum b S k i = csum b S k (i + 1)) := by unfold Hid; rw [HSE.out, all_false hG.out.symm, if_neg (by decide), Nat.add_zero]
                go_wp2_with fail
                go_roundw
                case rel => exact ⟨i + 1, by go_num, by omega, by rw [HSF.out], hBj⟩
                case measure => simp [intOf]; omega
              | true =>
                obtain ⟨x, hxj⟩ : ∃ x, S[j]? = some x := ⟨_, List.getElem?_eq_getElem (by rw [HN.out]; omega)⟩
                have HXJ : Hid (∀ W, Below w.heap.size w W → RC4 W g (o0 + j * 4) x) := fun W hW => HI.out.at hxj hW
                have hGn := all_take (p := cnd b (lk : Int) (s0, s1, (li : Int), s3)) hxj
                rw [← hG.out, Bool.true_and] at hGn
                have HCX := fun W => HCS.out x W (List.mem_of_getElem? hxj)
                unfold cnd at hGn
                simp only at hGn
                obtain ⟨D, hD⟩ : ∃ D, rcov b x (s0, s1, (li : Int), s3) = D := ⟨_, rfl⟩
                simp only [hD] at HCX hGn
                obtain ⟨x0, x1, x2, x3⟩ := x
                simp only at HXJ hGn
                have HCE : Hid (∀ W : World, Calls Try.prog 37 #[.int .i64 (b : Int), .agg #[.int .i64 x0, .int .i64 x1, .int .i64 x2, .int .i64 x3], .agg #[.int .i64 s0, .int .i64 s1, .int .i64 (li : Int), .int .i64 s3]] W fun e w' => e = .returned (.bool D) ∧ Below W.heap.size W w') := HCX
                clear HCX hD hxj hG
                by_cases c1 : x2 ≤ (lk : Int)
                · rw [decide_eq_true c1, Bool.true_or, Bool.true_or] at hGn
                  have HGN : Hid (true = (S.take (j + 1)).all (cnd b (lk : Int) (s0, s1, (li : Int), s3))) := hGn.symm
                  clear hGn
                  go_wp2_with fail
                  refine quiet_lit3 (C := fun W => Below wr.heap.size wr W) (by kernel_rfl) (by kernel_rfl) (show Below _ _ _ from (Below.refl _ _).drew) ?_
                  go_big_quiet_want
                  go_big_quiet_op
                  go_big_quiet_on
                  go_big_quiet_want
                  go_big_quiet_op
                  go_big_quiet_on
                  go_big_quiet_want
                  refine ⟨.pointer (some ⟨g, o0 + j * 4, none⟩), fun W hW => ?_, ?_⟩
                  · go_simp
                  go_big_quiet_on
                  simp only [Act.put, List.setIfInBounds_toArray, List.set_cons_zero, List.set_cons_succ]
                  go_big_quiet_want
                  refine ⟨.pointer (some ⟨g, o0 + j * 4 + 2, none⟩), fun W hW => ?_, ?_⟩
                  · go_simp
                  go_big_quiet_on
                  simp only [Act.put, List.setIfInBounds_toArray, List.set_cons_zero, List.set_cons_succ]
                  go_big_quiet_want
                  refine ⟨.int .i64 x2, fun W hW => ?_, ?_⟩
                  · obtain ⟨z0, z1, z2, z3⟩ := HXJ.out W (bel0 hBj hW)
                    simp only at z0 z1 z2 z3
                    go_simp
                  go_big_quiet_on
                  simp only [Act.put, List.setIfInBounds_toArray, List.set_cons_zero, List.set_cons_succ]
                  go_big_quiet_want
                  go_big_quiet_op
                  go_big_quiet_on
                  go_big_quiet_want
                  go_big_quiet_op
                  go_big_quiet_on
                  go_big_quiet_want
                  refine ⟨.pointer (some ⟨g, o0 + k * 4, none⟩), fun W hW => ?_, ?_⟩
                  · go_simp
                  go_big_quiet_on
                  simp only [Act.put, List.setIfInBounds_toArray, List.set_cons_zero, List.set_cons_succ]
                  go_big_quiet_want
                  refine ⟨.pointer (some ⟨g, o0 + k * 4 + 2, none⟩), fun W hW => ?_, ?_⟩
                  · go_simp
                  go_big_quiet_on
                  simp only [Act.put, List.setIfInBounds_toArray, List.set_cons_zero, List.set_cons_succ]
                  go_big_quiet_want
                  refine ⟨.int .i64 (lk : Int), fun W hW => ?_, ?_⟩
                  · obtain ⟨z0, z1, z2, z3⟩ := HXK.out W (bel0 hBj hW)
                    simp only at z0 z1 z2 z3
                    go_simp
                  go_big_quiet_on
                  simp only [Act.put, List.setIfInBounds_toArray, List.set_cons_zero, List.set_cons_succ]
                  go_big_quiet_want
                  refine ⟨.bool true, fun W hW => ?_, ?_⟩
                  · go_simp
                  go_big_quiet_on
                  simp only [Act.put, List.setIfInBounds_toArray, List.set_cons_zero, List.set_cons_succ]
                  go_big_quiet_want
                  go_big_quiet_op
                  go_big_quiet_on
                  go_big_quiet_skip
                  go_big_quiet_skip
                  go_big_quiet_skip
                  go_big_quiet_skip
                  go_big_quiet_skip
                  go_big_quiet_skip
                  go_big_quiet_skip
                  go_big_quiet_skip
                  go_big_quiet_skip
                  go_big_quiet_skip
                  go_big_quiet_skip
                  go_big_quiet_want
                  refine ⟨.bool true, fun W hW => ?_, ?_⟩
                  · go_simp
                  go_big_quiet_on
                  simp only [Act.put, List.setIfInBounds_toArray, List.set_cons_zero, List.set_cons_succ]
                  go_big_quiet_want
                  go_big_quiet_op
                  go_big_quiet_on
                  go_big_quiet_skip
                  go_big_quiet_skip
                  go_big_quiet_skip
                  go_big_quiet_skip
                  go_big_quiet_skip
                  go_big_quiet_skip
                  go_big_quiet_skip
                  go_big_quiet_skip
                  go_big_quiet_skip
                  go_big_quiet_skip
                  go_big_quiet_skip
                  go_big_quiet_want
                  refine ⟨.bool true, fun W hW => ?_, ?_⟩
                  · go_simp
                  go_big_quiet_on
                  simp only [Act.put, List.setIfInBounds_toArray, List.set_cons_zero, List.set_cons_succ]
                  go_big_quiet_want
                  go_big_quiet_op
                  go_big_quiet_on
                  refine wpQuiet_nil ?_
                  intro W hW
                  go_wp2_with fail
                  go_roundw
                  case rel => exact ⟨j + 1, true, rfl, by go_num, by omega, HGN, bel0 hBj hW⟩
                  case measure => simp [intOf]; omega
                · by_cases c2 : (li : Int) ≤ x2
                  · rw [decide_eq_true c2, Bool.or_true, Bool.true_or] at hGn
                    have HGN : Hid (true = (S.take (j + 1)).all (cnd b (lk : Int) (s0, s1, (li : Int), s3))) := hGn.symm
                    clear hGn
                    go_wp2_with fail
                    refine quiet_lit3 (C := fun W => Below wr.heap.size wr W) (by kernel_rfl) (by kernel_rfl) (show Below _ _ _ from (Below.refl _ _).drew) ?_
                    go_big_quiet_want
                    go_big_quiet_op
                    go_big_quiet_on
                    go_big_quiet_want
                    go_big_quiet_op
                    go_big_quiet_on
                    go_big_quiet_want
                    refine ⟨.pointer (some ⟨g, o0 + j * 4, none⟩), fun W hW => ?_, ?_⟩
                    · go_simp
                    go_big_quiet_on
                    simp only [Act.put, List.setIfInBounds_toArray, List.set_cons_zero, List.set_cons_succ]
                    go_big_quiet_want
                    refine ⟨.pointer (some ⟨g, o0 + j * 4 + 2, none⟩), fun W hW => ?_, ?_⟩
                    · go_simp
                    go_big_quiet_on
                    simp only [Act.put, List.setIfInBounds_toArray, List.set_cons_zero, List.set_cons_succ]
                    go_big_quiet_want
                    refine ⟨.int .i64 x2, fun W hW => ?_, ?_⟩
                    · obtain ⟨z0, z1, z2, z3⟩ := HXJ.out W (bel0 hBj hW)
                      simp only at z0 z1 z2 z3
                      go_simp
                    go_big_quiet_on
                    simp only [Act.put, List.setIfInBounds_toArray, List.set_cons_zero, List.set_cons_succ]
                    go_big_quiet_want
                    go_big_quiet_op
                    go_big_quiet_on
                    go_big_quiet_want
                    go_big_quiet_op
                    go_big_quiet_on
                    go_big_quiet_want
                    refine ⟨.pointer (some ⟨g, o0 + k * 4, none⟩), fun W hW => ?_, ?_⟩
                    · go_simp
                    go_big_quiet_on
                    simp only [Act.put, List.setIfInBounds_toArray, List.set_cons_zero, List.set_cons_succ]
                    go_big_quiet_want
                    refine ⟨.pointer (some ⟨g, o0 + k * 4 + 2, none⟩), fun W hW => ?_, ?_⟩
                    · go_simp
                    go_big_quiet_on
                    simp only [Act.put, List.setIfInBounds_toArray, List.set_cons_zero, List.set_cons_succ]
                    go_big_quiet_want
                    refine ⟨.int .i64 (lk : Int), fun W hW => ?_, ?_⟩
                    · obtain ⟨z0, z1, z2, z3⟩ := HXK.out W (bel0 hBj hW)
                      simp only at z0 z1 z2 z3
                      go_simp
                    go_big_quiet_on
                    simp only [Act.put, List.setIfInBounds_toArray, List.set_cons_zero, List.set_cons_succ]
                    go_big_quiet_want
                    refine ⟨.bool false, fun W hW => ?_, ?_⟩
                    · go_simp
                    go_big_quiet_on
                    simp only [Act.put, List.setIfInBounds_toArray, List.set_cons_zero, List.set_cons_succ]
                    go_big_quiet_want
                    go_big_quiet_op
                    go_big_quiet_on
                    go_big_quiet_want
                    go_big_quiet_op
                    go_big_quiet_on
                    go_big_quiet_want
                    go_big_quiet_op
                    go_big_quiet_on
                    go_big_quiet_want
                    refine ⟨.pointer (some ⟨g, o0 + j * 4, none⟩), fun W hW => ?_, ?_⟩
                    · go_simp
                    go_big_quiet_on
                    simp only [Act.put, List.setIfInBounds_toArray, List.set_cons_zero, List.set_cons_succ]
                    go_big_quiet_want
                    refine ⟨.pointer (some ⟨g, o0 + j * 4 + 2, none⟩), fun W hW => ?_, ?_⟩
                    · go_simp
                    go_big_quiet_on
                    simp only [Act.put, List.setIfInBounds_toArray, List.set_cons_zero, List.set_cons_succ]
                    go_big_quiet_want
                    refine ⟨.int .i64 x2, fun W hW => ?_, ?_⟩
                    · obtain ⟨z0, z1, z2, z3⟩ := HXJ.out W (bel0 hBj hW)
                      simp only at z0 z1 z2 z3
                      go_simp
                    go_big_quiet_on
                    simp only [Act.put, List.setIfInBounds_toArray, List.set_cons_zero, List.set_cons_succ]
                    go_big_quiet_want
                    go_big_quiet_op
                    go_big_quiet_on
                    go_big_quiet_want
                    go_big_quiet_op
                    go_big_quiet_on
                    go_big_quiet_want
                    refine ⟨.pointer (some ⟨g, o0 + i * 4, none⟩), fun W hW => ?_, ?_⟩
                    · go_simp
                    go_big_quiet_on
                    simp only [Act.put, List.setIfInBounds_toArray, List.set_cons_zero, List.set_cons_succ]
                    go_big_quiet_want
                    refine ⟨.pointer (some ⟨g, o0 + i * 4 + 2, none⟩), fun W hW => ?_, ?_⟩
                    · go_simp
                    go_big_quiet_on
                    simp only [Act.put, List.setIfInBounds_toArray, List.set_cons_zero, List.set_cons_succ]
                    go_big_quiet_want
                    refine ⟨.int .i64 (li : Int), fun W hW => ?_, ?_⟩
                    · obtain ⟨z0, z1, z2, z3⟩ := HXI.out W (bel0 hBj hW)
                      simp only at z0 z1 z2 z3
                      go_simp
                    go_big_quiet_on
                    simp only [Act.put, List.setIfInBounds_toArray, List.set_cons_zero, List.set_cons_succ]
                    go_big_quiet_want
                    refine ⟨.bool true, fun W hW => ?_, ?_⟩
                    · go_simp
                    go_big_quiet_on
                    simp only [Act.put, List.setIfInBounds_toArray, List.set_cons_zero, List.set_cons_succ]
                    go_big_quiet_want
                    refine ⟨.bool true, fun W hW => ?_, ?_⟩
                    · go_simp
                    go_big_quiet_on
                    simp only [Act.put, List.setIfInBounds_toArray, List.set_cons_zero, List.set_cons_succ]
                    go_big_quiet_want
                    go_big_quiet_op
                    go_big_quiet_on
                    go_big_quiet_skip
                    go_big_quiet_skip
                    go_big_quiet_skip
                    go_big_quiet_skip
                    go_big_quiet_skip
                    go_big_quiet_skip
                    go_big_quiet_skip
                    go_big_quiet_skip
                    go_big_quiet_skip
                    go_big_quiet_skip
                    go_big_quiet_skip
                    go_big_quiet_want
                    refine ⟨.bool true, fun W hW => ?_, ?_⟩
                    · go_simp
                    go_big_quiet_on
                    simp only [Act.put, List.setIfInBounds_toArray, List.set_cons_zero, List.set_cons_succ]
                    go_big_quiet_want
                    go_big_quiet_op
                    go_big_quiet_on
                    refine wpQuiet_nil ?_
                    intro W hW
                    go_wp2_with fail
                    go_roundw
                    case rel => exact ⟨j + 1, true, rfl, by go_num, by omega, HGN, bel0 hBj hW⟩
                    case measure => simp [intOf]; omega
                  · rw [decide_eq_false c1, decide_eq_false c2, Bool.false_or, Bool.false_or] at hGn
                    have HGN : Hid ((!D) = (S.take (j + 1)).all (cnd b (lk : Int) (s0, s1, (li : Int), s3))) := hGn.symm
                    clear hGn
                    cases D with
                    | true =>
                      go_wp2_with fail
                      refine quiet_lit3 (C := fun W => Below wr.heap.size wr W) (by kernel_rfl) (by kernel_rfl) (show Below _ _ _ from (Below.refl _ _).drew) ?_
                      go_big_quiet_want
                      go_big_quiet_op
                      go_big_quiet_on
                      go_big_quiet_want
                      go_big_quiet_op
                      go_big_quiet_on
                      go_big_quiet_want
                      refine ⟨.pointer (some ⟨g, o0 + j * 4, none⟩), fun W hW => ?_, ?_⟩
                      · go_simp
                      go_big_quiet_on
                      simp only [Act.put, List.setIfInBounds_toArray, List.set_cons_zero, List.set_cons_succ]
                      go_big_quiet_want
                      refine ⟨.pointer (some ⟨g, o0 + j * 4 + 2, none⟩), fun W hW => ?_, ?_⟩
                      · go_simp
                      go_big_quiet_on
                      simp only [Act.put, List.setIfInBounds_toArray, List.set_cons_zero, List.set_cons_succ]
                      go_big_quiet_want
                      refine ⟨.int .i64 x2, fun W hW => ?_, ?_⟩
                      · obtain ⟨z0, z1, z2, z3⟩ := HXJ.out W (bel0 hBj hW)
                        simp only at z0 z1 z2 z3
                        go_simp
                      go_big_quiet_on
                      simp only [Act.put, List.setIfInBounds_toArray, List.set_cons_zero, List.set_cons_succ]
                      go_big_quiet_want
                      go_big_quiet_op
                      go_big_quiet_on
                      go_big_quiet_want
                      go_big_quiet_op
                      go_big_quiet_on
                      go_big_quiet_want
                      refine ⟨.pointer (some ⟨g, o0 + k * 4, none⟩), fun W hW => ?_, ?_⟩
                      · go_simp
                      go_big_quiet_on
                      simp only [Act.put, List.setIfInBounds_toArray, List.set_cons_zero, List.set_cons_succ]
                      go_big_quiet_want
                      refine ⟨.pointer (some ⟨g, o0 + k * 4 + 2, none⟩), fun W hW => ?_, ?_⟩
                      · go_simp
                      go_big_quiet_on
                      simp only [Act.put, List.setIfInBounds_toArray, List.set_cons_zero, List.set_cons_succ]
                      go_big_quiet_want
                      refine ⟨.int .i64 (lk : Int), fun W hW => ?_, ?_⟩
                      · obtain ⟨z0, z1, z2, z3⟩ := HXK.out W (bel0 hBj hW)
                        simp only at z0 z1 z2 z3
                        go_simp
                      go_big_quiet_on
                      simp only [Act.put, List.setIfInBounds_toArray, List.set_cons_zero, List.set_cons_succ]
                      go_big_quiet_want
                      refine ⟨.bool false, fun W hW => ?_, ?_⟩
                      · go_simp
                      go_big_quiet_on
                      simp only [Act.put, List.setIfInBounds_toArray, List.set_cons_zero, List.set_cons_succ]
                      go_big_quiet_want
                      go_big_quiet_op
                      go_big_quiet_on
                      go_big_quiet_want
                      go_big_quiet_op
                      go_big_quiet_on
                      go_big_quiet_want
                      go_big_quiet_op
                      go_big_quiet_on
                      go_big_quiet_want
                      refine ⟨.pointer (some ⟨g, o0 + j * 4, none⟩), fun W hW => ?_, ?_⟩
                      · go_simp
                      go_big_quiet_on
                      simp only [Act.put, List.setIfInBounds_toArray, List.set_cons_zero, List.set_cons_succ]
                      go_big_quiet_want
                      refine ⟨.pointer (some ⟨g, o0 + j * 4 + 2, none⟩), fun W hW => ?_, ?_⟩
                      · go_simp
                      go_big_quiet_on
                      simp only [Act.put, List.setIfInBounds_toArray, List.set_cons_zero, List.set_cons_succ]
                      go_big_quiet_want
                      refine ⟨.int .i64 x2, fun W hW => ?_, ?_⟩
                      · obtain ⟨z0, z1, z2, z3⟩ := HXJ.out W (bel0 hBj hW)
                        simp only at z0 z1 z2 z3
                        go_simp
                      go_big_quiet_on
                      simp only [Act.put, List.setIfInBounds_toArray, List.set_cons_zero, List.set_cons_succ]
                      go_big_quiet_want
                      go_big_quiet_op
                      go_big_quiet_on
                      go_big_quiet_want
                      go_big_quiet_op
                      go_big_quiet_on
                      go_big_quiet_want
                      refine ⟨.pointer (some ⟨g, o0 + i * 4, none⟩), fun W hW => ?_, ?_⟩
                      · go_simp
                      go_big_quiet_on
                      simp only [Act.put, List.setIfInBounds_toArray, List.set_cons_zero, List.set_cons_succ]
                      go_big_quiet_want
                      refine ⟨.pointer (some ⟨g, o0 + i * 4 + 2, none⟩), fun W hW => ?_, ?_⟩
                      · go_simp
                      go_big_quiet_on
                      simp only [Act.put, List.setIfInBounds_toArray, List.set_cons_zero, List.set_cons_succ]
                      go_big_quiet_want
                      refine ⟨.int .i64 (li : Int), fun W hW => ?_, ?_⟩
                      · obtain ⟨z0, z1, z2, z3⟩ := HXI.out W (bel0 hBj hW)
                        simp only at z0 z1 z2 z3
                        go_simp
                      go_big_quiet_on
                      simp only [Act.put, List.setIfInBounds_toArray, List.set_cons_zero, List.set_cons_succ]
                      go_big_quiet_want
                      refine ⟨.bool false, fun W hW => ?_, ?_⟩
                      · go_simp
                      go_big_quiet_on
                      simp only [Act.put, List.setIfInBounds_toArray, List.set_cons_zero, List.set_cons_succ]
                      go_big_quiet_want
                      refine ⟨.bool false, fun W hW => ?_, ?_⟩
                      · go_simp
                      go_big_quiet_on
                      simp only [Act.put, List.setIfInBounds_toArray, List.set_cons_zero, List.set_cons_succ]
                      go_big_quiet_want
                      go_big_quiet_op
                      go_big_quiet_on
                      go_big_quiet_want
                      go_big_quiet_op
                      go_big_quiet_on
                      go_big_quiet_want
                      go_big_quiet_op
                      go_big_quiet_on
                      go_big_quiet_want
                      go_big_quiet_op
                      go_big_quiet_on
                      go_big_quiet_want
                      refine ⟨.pointer (some ⟨g, o0 + j * 4, none⟩), fun W hW => ?_, ?_⟩
                      · go_simp
                      go_big_quiet_on
                      simp only [Act.put, List.setIfInBounds_toArray, List.set_cons_zero, List.set_cons_succ]
                      go_big_quiet_want
                      refine ⟨.agg #[.int .i64 x0, .int .i64 x1, .int .i64 x2, .int .i64 x3], fun W hW => ?_, ?_⟩
                      · obtain ⟨z0, z1, z2, z3⟩ := HXJ.out W (bel0 hBj hW)
                        simp only at z0 z1 z2 z3
                        go_simp
                      go_big_quiet_on
                      simp only [Act.put, List.setIfInBounds_toArray, List.set_cons_zero, List.set_cons_succ]
                      go_big_quiet_want
                      go_big_quiet_op
                      go_big_quiet_on
                      go_big_quiet_want
                      go_big_quiet_op
                      go_big_quiet_on
                      go_big_quiet_want
                      refine ⟨.pointer (some ⟨g, o0 + i * 4, none⟩), fun W hW => ?_, ?_⟩
                      · go_simp
                      go_big_quiet_on
                      simp only [Act.put, List.setIfInBounds_toArray, List.set_cons_zero, List.set_cons_succ]
                      go_big_quiet_want
                      refine ⟨.agg #[.int .i64 s0, .int .i64 s1, .int .i64 (li : Int), .int .i64 s3], fun W hW => ?_, ?_⟩
                      · obtain ⟨z0, z1, z2, z3⟩ := HXI.out W (bel0 hBj hW)
                        simp only at z0 z1 z2 z3
                        go_simp
                      go_big_quiet_on
                      simp only [Act.put, List.setIfInBounds_toArray, List.set_cons_zero, List.set_cons_succ]
                      go_big_quiet_want
                      refine ⟨.bool true, fun W hW => ?_, ?_⟩
                      · go_simp
                        refine (HCE.out W).mono ?_
                        rintro e w7 ⟨rfl, hb⟩
                        exact ⟨rfl, bel0 hW hb⟩
                      go_big_quiet_on
                      simp only [Act.put, List.setIfInBounds_toArray, List.set_cons_zero, List.set_cons_succ]
                      go_big_quiet_want
                      refine ⟨.bool false, fun W hW => ?_, ?_⟩
                      · go_simp
                      go_big_quiet_on
                      simp only [Act.put, List.setIfInBounds_toArray, List.set_cons_zero, List.set_cons_succ]
                      go_big_quiet_want
                      refine ⟨.bool false, fun W hW => ?_, ?_⟩
                      · go_simp
                      go_big_quiet_on
                      simp only [Act.put, List.setIfInBounds_toArray, List.set_cons_zero, List.set_cons_succ]
                      go_big_quiet_want
                      go_big_quiet_op
                      go_big_quiet_on
                      refine wpQuiet_nil ?_
                      intro W hW
                      go_wp2_with fail
                      go_roundw
                      case rel => exact ⟨j + 1, false, rfl, by go_num, by omega, HGN, bel0 hBj hW⟩
                      case measure => simp [intOf]; omega
                    | false =>
                      go_wp2_with fail
                      refine quiet_lit3 (C := fun W => Below wr.heap.size wr W) (by kernel_rfl) (by kernel_rfl) (show Below _ _ _ from (Below.refl _ _).drew) ?_
                      go_big_quiet_want
                      go_big_quiet_op
                      go_big_quiet_on
                      go_big_quiet_want
                      go_big_quiet_op
                      go_big_quiet_on
                      go_big_quiet_want
                      refine ⟨.pointer (some ⟨g, o0 + j * 4, none⟩), fun W hW => ?_, ?_⟩
                      · go_simp
                      go_big_quiet_on
                      simp only [Act.put, List.setIfInBounds_toArray, List.set_cons_zero, List.set_cons_succ]
                      go_big_quiet_want
                      refine ⟨.pointer (some ⟨g, o0 + j * 4 + 2, none⟩), fun W hW => ?_, ?_⟩
                      · go_simp
                      go_big_quiet_on
                      simp only [Act.put, List.setIfInBounds_toArray, List.set_cons_zero, List.set_cons_succ]
                      go_big_quiet_want
                      refine ⟨.int .i64 x2, fun W hW => ?_, ?_⟩
                      · obtain ⟨z0, z1, z2, z3⟩ := HXJ.out W (bel0 hBj hW)
                        simp only at z0 z1 z2 z3
                        go_simp
                      go_big_quiet_on
                      simp only [Act.put, List.setIfInBounds_toArray, List.set_cons_zero, List.set_cons_succ]
                      go_big_quiet_want
                      go_big_quiet_op
                      go_big_quiet_on
                      go_big_quiet_want
                      go_big_quiet_op
                      go_big_quiet_on
                      go_big_quiet_want
                      refine ⟨.pointer (some ⟨g, o0 + k * 4, none⟩), fun W hW => ?_, ?_⟩
                      · go_simp
                      go_big_quiet_on
                      simp only [Act.put, List.setIfInBounds_toArray, List.set_cons_zero, List.set_cons_succ]
                      go_big_quiet_want
                      refine ⟨.pointer (some ⟨g, o0 + k * 4 + 2, none⟩), fun W hW => ?_, ?_⟩
                      · go_simp
                      go_big_quiet_on
                      simp only [Act.put, List.setIfInBounds_toArray, List.set_cons_zero, List.set_cons_succ]
                      go_big_quiet_want
                      refine ⟨.int .i64 (lk : Int), fun W hW => ?_, ?_⟩
                      · obtain ⟨z0, z1, z2, z3⟩ := HXK.out W (bel0 hBj hW)
                        simp only at z0 z1 z2 z3
                        go_simp
                      go_big_quiet_on
                      simp only [Act.put, List.setIfInBounds_toArray, List.set_cons_zero, List.set_cons_succ]
                      go_big_quiet_want
                      refine ⟨.bool false, fun W hW => ?_, ?_⟩
                      · go_simp
                      go_big_quiet_on
                      simp only [Act.put, List.setIfInBounds_toArray, List.set_cons_zero, List.set_cons_succ]
                      go_big_quiet_want
                      go_big_quiet_op
                      go_big_quiet_on
                      go_big_quiet_want
                      go_big_quiet_op
                      go_big_quiet_on
                      go_big_quiet_want
                      go_big_quiet_op
                      go_big_quiet_on
                      go_big_quiet_want
                      refine ⟨.pointer (some ⟨g, o0 + j * 4, none⟩), fun W hW => ?_, ?_⟩
                      · go_simp
                      go_big_quiet_on
                      simp only [Act.put, List.setIfInBounds_toArray, List.set_cons_zero, List.set_cons_succ]
                      go_big_quiet_want
                      refine ⟨.pointer (some ⟨g, o0 + j * 4 + 2, none⟩), fun W hW => ?_, ?_⟩
                      · go_simp
                      go_big_quiet_on
                      simp only [Act.put, List.setIfInBounds_toArray, List.set_cons_zero, List.set_cons_succ]
                      go_big_quiet_want
                      refine ⟨.int .i64 x2, fun W hW => ?_, ?_⟩
                      · obtain ⟨z0, z1, z2, z3⟩ := HXJ.out W (bel0 hBj hW)
                        simp only at z0 z1 z2 z3
                        go_simp
                      go_big_quiet_on
                      simp only [Act.put, List.setIfInBounds_toArray, List.set_cons_zero, List.set_cons_succ]
                      go_big_quiet_want
                      go_big_quiet_op
                      go_big_quiet_on
                      go_big_quiet_want
                      go_big_quiet_op
                      go_big_quiet_on
                      go_big_quiet_want
                      refine ⟨.pointer (some ⟨g, o0 + i * 4, none⟩), fun W hW => ?_, ?_⟩
                      · go_simp
                      go_big_quiet_on
                      simp only [Act.put, List.setIfInBounds_toArray, List.set_cons_zero, List.set_cons_succ]
                      go_big_quiet_want
                      refine ⟨.pointer (some ⟨g, o0 + i * 4 + 2, none⟩), fun W hW => ?_, ?_⟩
                      · go_simp
                      go_big_quiet_on
                      simp only [Act.put, List.setIfInBounds_toArray, List.set_cons_zero, List.set_cons_succ]
                      go_big_quiet_want
                      refine ⟨.int .i64 (li : Int), fun W hW => ?_, ?_⟩
                      · obtain ⟨z0, z1, z2, z3⟩ := HXI.out W (bel0 hBj hW)
                        simp only at z0 z1 z2 z3
                        go_simp
                      go_big_quiet_on
                      simp only [Act.put, List.setIfInBounds_toArray, List.set_cons_zero, List.set_cons_succ]
                      go_big_quiet_want
                      refine ⟨.bool false, fun W hW => ?_, ?_⟩
                      · go_simp
                      go_big_quiet_on
                      simp only [Act.put, List.setIfInBounds_toArray, List.set_cons_zero, List.set_cons_succ]
                      go_big_quiet_want
                      refine ⟨.bool false, fun W hW => ?_, ?_⟩
                      · go_simp
                      go_big_quiet_on
                      simp only [Act.put, List.setIfInBounds_toArray, List.set_cons_zero, List.set_cons_succ]
                      go_big_quiet_want
                      go_big_quiet_op
                      go_big_quiet_on
                      go_big_quiet_want
                      go_big_quiet_op
                      go_big_quiet_on
                      go_big_quiet_want
                      go_big_quiet_op
                      go_big_quiet_on
                      go_big_quiet_want
                      go_big_quiet_op
                      go_big_quiet_on
                      go_big_quiet_want
                      refine ⟨.pointer (some ⟨g, o0 + j * 4, none⟩), fun W hW => ?_, ?_⟩
                      · go_simp
                      go_big_quiet_on
                      simp only [Act.put, List.setIfInBounds_toArray, List.set_cons_zero, List.set_cons_succ]
                      go_big_quiet_want
                      refine ⟨.agg #[.int .i64 x0, .int .i64 x1, .int .i64 x2, .int .i64 x3], fun W hW => ?_, ?_⟩
                      · obtain ⟨z0, z1, z2, z3⟩ := HXJ.out W (bel0 hBj hW)
                        simp only at z0 z1 z2 z3
                        go_simp
                      go_big_quiet_on
                      simp only [Act.put, List.setIfInBounds_toArray, List.set_cons_zero, List.set_cons_succ]
                      go_big_quiet_want
                      go_big_quiet_op
                      go_big_quiet_on
                      go_big_quiet_want
                      go_big_quiet_op
                      go_big_quiet_on
                      go_big_quiet_want
                      refine ⟨.pointer (some ⟨g, o0 + i * 4, none⟩), fun W hW => ?_, ?_⟩
                      · go_simp
                      go_big_quiet_on
                      simp only [Act.put, List.setIfInBounds_toArray, List.set_cons_zero, List.set_cons_succ]
                      go_big_quiet_want
                      refine ⟨.agg #[.int .i64 s0, .int .i64 s1, .int .i64 (li : Int), .int .i64 s3], fun W hW => ?_, ?_⟩
                      · obtain ⟨z0, z1, z2, z3⟩ := HXI.out W (bel0 hBj hW)
                        simp only at z0 z1 z2 z3
                        go_simp
                      go_big_quiet_on
                      simp only [Act.put, List.setIfInBounds_toArray, List.set_cons_zero, List.set_cons_succ]
                      go_big_quiet_want
                      refine ⟨.bool false, fun W hW => ?_, ?_⟩
                      · go_simp
                        refine (HCE.out W).mono ?_
                        rintro e w7 ⟨rfl, hb⟩
                        exact ⟨rfl, bel0 hW hb⟩
                      go_big_quiet_on
                      simp only [Act.put, List.setIfInBounds_toArray, List.set_cons_zero, List.set_cons_succ]
                      go_big_quiet_want
                      refine ⟨.bool true, fun W hW => ?_, ?_⟩
                      · go_simp
                      go_big_quiet_on
                      simp only [Act.put, List.setIfInBounds_toArray, List.set_cons_zero, List.set_cons_succ]
                      go_big_quiet_want
                      refine ⟨.bool true, fun W hW => ?_, ?_⟩
                      · go_simp
                      go_big_quiet_on
                      simp only [Act.put, List.setIfInBounds_toArray, List.set_cons_zero, List.set_cons_succ]
                      go_big_quiet_want
                      go_big_quiet_op
                      go_big_quiet_on
                      refine wpQuiet_nil ?_
                      intro W hW
                      go_wp2_with fail
                      go_roundw
                      case rel => exact ⟨j + 1, true, rfl, by go_num, by omega, HGN, bel0 hBj hW⟩
                      case measure => simp [intOf]; omega
            · have m1 : ¬ (j : Int) < (n : Int) := by omega
              have hGA : G = S.all (cnd b (lk : Int) (s0, s1, (li : Int), s3)) := by rw [hG.out, List.take_of_length_le (by rw [HN.out]; omega)]
              cases G with
              | false =>
                have HSF : Hid (csum b S k i = csum b S k (i + 1)) := by unfold Hid; rw [HSE.out, ← hGA, if_neg (by decide), Nat.add_zero]
                clear hGA hG
                go_wp2_with fail
                go_roundw
                case rel => exact ⟨i + 1, by go_num, by omega, by rw [HSF.out], hBj⟩
                case measure => simp [intOf]; omega
              | true =>
                have hSF : csum b S k (i + 1) = csum b S k i + 2 ^ (b - li) := by rw [HSE.out, ← hGA, if_pos rfl, HLI.out.2]
                obtain ⟨z0, z1, z2, z3⟩ := HXI.out wr hBj
                simp only at z2
                clear z0 z1 z3
                have hcl := csum_le2 b S k i HB.out (by omega)
                obtain ⟨e, Pw, hPw, hP32, a1, a2, a3, a4⟩ := sh_ok HB.out HLI.out.1
                rw [hPw] at hSF
                obtain ⟨Cs, hCs⟩ : ∃ Cs, csum b S k i = Cs := ⟨_, rfl⟩
                rw [hCs] at hSF hcl ⊢
                have a5 := add40 hcl hP32
                obtain ⟨Sm, hSm⟩ : ∃ Sm, Cs + Pw = Sm := ⟨_, rfl⟩
                rw [hSm] at a5 hSF
                have HSF : Hid (csum b S k (i + 1) = Sm) := hSF
                have HA5 : Hid (wrap64 ((Cs : Int) + (Pw : Int)) = (Sm : Int)) := a5
                clear a5 hSF hGA hG hPw hCs hSm hcl hP32
                go_wp2_with fail
                clear a1 a2 a3 a4
                go_roundw
                case rel => exact ⟨i + 1, by go_num, by omega, by rw [HSF.out, ← HA5.out], hBj⟩
                case measure => simp [intOf]; omega
    · have j1 : ¬ (i : Int) < (n : Int) := by omega
      obtain rfl : i = n := by omega
      have hMB : metB b S k = decide (csum b S k i < 2 ^ (b - lk)) := by
        unfold metB
        rw [HN.out]
        congr 1
        rw [← HLK.out.2]
        rfl
      obtain ⟨z0, z1, z2, z3⟩ := HXK.out wo hB
      simp only at z2
      clear z0 z1 z3
      obtain ⟨e, Pw, hPw, hP32, a1, a2, a3, a4⟩ := sh_ok HB.out HLK.out.1
      rw [hPw] at hMB
      obtain ⟨Cs, hCs⟩ : ∃ Cs, csum b S k i = Cs := ⟨_, rfl⟩
      rw [hCs] at hMB ⊢
      have HMB : Hid (metB b S k = decide (Cs < Pw)) := hMB
      clear hPw hP32 hCs hMB
      by_cases hfin : Cs < Pw
      · have f1 : (Cs : Int) < (Pw : Int) := Int.ofNat_lt.2 hfin
        go_wp2_with fail
        go_ret
        exact ⟨by rw [HMB.out, decide_eq_true hfin]; rfl, hB⟩
      · have f1 : ¬ (Cs : Int) < (Pw : Int) := fun h => hfin (Int.ofNat_lt.1 h)
        go_wp2_with fail
        go_ret
        exact ⟨by rw [HMB.out, decide_eq_false hfin]; rfl, hB⟩
end Go.Proofs.Ytodhgeolcbmeiab

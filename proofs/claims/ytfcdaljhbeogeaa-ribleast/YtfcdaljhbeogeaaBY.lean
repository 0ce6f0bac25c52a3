import Derived.Test.YtfcdaljhbeogeaaBX
import Derived.Test.YtfcdaljhbeogeaaQL
namespace Go.Proofs.Ytfcdaljhbeogeaa
open Go.RowKit
theorem wpOp_gor {P : Program} {ops : Array Oper} {Q : Exit → Act → World → Prop} {n : Nat} {K : Act → World → Prop} {a : Act} {w : World} {o : Oper} (ho : ops[n]? = some o) (hg : o.guard = none) (h : o.wp P a w K Q) : wpOp P ops Q n K a w := by
  unfold wpOp
  rw [ho]
  have hw : Region.wanted o (yielded ops a.tmps) = true := by simp [Region.wanted, hg]
  simp only [hw, if_true]
  exact .inl h
/-- how many values a route has -/
def siz (b : Nat) (S : List IRt) (j : Nat) : Nat := 2 ^ (b - (S.getD j (0, 0, 0, 0)).2.2.1.toNat)
theorem siz_le (b : Nat) (S : List IRt) (j : Nat) (hb : b ≤ 32) : siz b S j ≤ 4294967296 := by
  have h1 : siz b S j ≤ 2 ^ 32 := Nat.pow_le_pow_right (by decide) (by omega)
  omega
theorem csum_le2 (b : Nat) (S : List IRt) (k n : Nat) (hb : b ≤ 32) (hn : n ≤ 256) : csum b S k n ≤ 1099511627776 := by
  have h1 := csum_le b S k n
  have h2 : 2 ^ b ≤ 2 ^ 32 := Nat.pow_le_pow_right (by decide) hb
  have h3 : n * 2 ^ b ≤ 256 * 2 ^ 32 := Nat.mul_le_mul hn h2
  omega
def rowF (f : Nat → Int) (n k : Nat) : List Int := (List.range n).map (fun j => if j < k then f j else 0)
theorem rowF_len (f : Nat → Int) (n k : Nat) : (rowF f n k).length = n := by simp [rowF]
theorem rowF_zero (f : Nat → Int) (n : Nat) : List.replicate n 0 = rowF f n 0 := by
  apply List.ext_getElem?
  intro j
  unfold rowF
  by_cases h : j < n
  · simp [h]
  · simp [h]
theorem rowF_succ (f : Nat → Int) (n k : Nat) : (rowF f n k).set k (f k) = rowF f n (k + 1) := by
  apply List.ext_getElem?
  intro j
  unfold rowF
  by_cases e : k = j
  · subst e
    by_cases h : k < n
    · rw [List.getElem?_set_self (by simpa using h)]
      simp [h]
    · rw [List.getElem?_eq_none (by simp; omega), List.getElem?_eq_none (by simp; omega)]
  · rw [List.getElem?_set_ne e, List.getElem?_map, List.getElem?_map]
    by_cases h : j < n
    · rw [List.getElem?_range h]
      simp only [Option.map_some]
      by_cases h1 : j < k
      · rw [if_pos h1, if_pos (by omega)]
      · rw [if_neg h1, if_neg (by omega)]
    · rw [List.getElem?_eq_none (by simp; omega)]
      rfl
theorem rowF_at {f : Nat → Int} {n k j : Nat} (h : j < n) : (rowF f n k)[j]? = some (if j < k then f j else 0) := by
  unfold rowF
  rw [List.getElem?_map, List.getElem?_range h]
  rfl
/-- what is left of each behind the first i -/
def lft (b : Nat) (S : List IRt) (n i : Nat) : List Int := (List.range n).map (fun j => (siz b S j : Int) - (csum b S j i : Int))
theorem lft_len (b : Nat) (S : List IRt) (n i : Nat) : (lft b S n i).length = n := by simp [lft]
theorem lft_zero (b : Nat) (S : List IRt) (n : Nat) : rowF (fun j => (siz b S j : Int)) n n = lft b S n 0 := by
  unfold rowF lft
  refine List.map_congr_left (fun j hj => ?_)
  rw [if_pos (List.mem_range.1 hj)]
  simp [csum]
theorem lft_at {b : Nat} {S : List IRt} {n i j : Nat} (h : j < n) : (lft b S n i)[j]? = some ((siz b S j : Int) - (csum b S j i : Int)) := by
  unfold lft
  rw [List.getElem?_map, List.getElem?_range h]
  rfl
theorem lft_stay {b : Nat} {S : List IRt} {n i : Nat} (h : par b S i = 0) : lft b S n i = lft b S n (i + 1) := by
  unfold lft
  refine List.map_congr_left (fun j _ => ?_)
  rw [show csum b S j (i + 1) = csum b S j i from by rw [csum, if_neg (by rw [h]; omega), Nat.add_zero]]
theorem lft_take {b : Nat} {S : List IRt} {n i q : Nat} (h : par b S i = q + 1) (hq : q < n) : (lft b S n i).set q ((siz b S q : Int) - (csum b S q i : Int) - (siz b S i : Int)) = lft b S n (i + 1) := by
  apply List.ext_getElem?
  intro j
  by_cases e : q = j
  · subst e
    rw [List.getElem?_set_self (by rw [lft_len]; exact hq), lft_at hq]
    congr 1
    rw [csum, if_pos h]
    unfold siz
    omega
  · rw [List.getElem?_set_ne e]
    by_cases hj : j < n
    · rw [lft_at hj, lft_at hj, csum, if_neg (by rw [h]; omega)]
      simp
    · rw [List.getElem?_eq_none (by rw [lft_len]; omega), List.getElem?_eq_none (by rw [lft_len]; omega)]
theorem metB_iff (b : Nat) (S : List IRt) (k : Nat) : metB b S k = decide (0 < (siz b S k : Int) - (csum b S k S.length : Int)) := by
  unfold metB
  rw [Bool.eq_iff_iff, decide_eq_true_eq, decide_eq_true_eq]
  show csum b S k S.length < siz b S k ↔ _
  omega
set_option maxRecDepth 100000 in
set_option maxHeartbeats 4000000 in
theorem bmet_any (b : Nat) (S : List IRt) (o : Option Addr) (c n : Nat) (w : World) (hb : b ≤ 32) (hn : S.length = n) (hL : n ≤ 256) (hS : Srt b S) (hr : IRR w o S) :
    Calls Try.prog 44 #[.int .i64 (b : Int), .slice o n c] w fun e w' => ∃ v, e = .returned v ∧ w'.ownsRow w.heap.size 59 4 v (metL b S).length (rels (metL b S)) ∧ Below w.heap.size w w' := by
  obtain ⟨i0, hi, hz0, hz1, hz2⟩ := info_parts info_int8
  obtain ⟨i1, gi, gz0, gz1, gz2⟩ := info_parts info_rt
  have HI : Hid (IRR w o S) := hr
  have HN : Hid (S.length = n) := hn
  have HS : Hid (Srt b S) := hS
  have HB : Hid (b ≤ 32) := hb
  have HZ : Hid (∀ (j : Nat) (r : IRt) (W : World), S[j]? = some r → Calls Try.prog 57 #[.int .i64 (b : Int), .agg #[.int .i64 r.1, .int .i64 r.2.1, .int .i64 r.2.2.1, .int .i64 r.2.2.2]] W fun e w' => e = .returned (.int .i64 (siz b S j : Int)) ∧ Below W.heap.size W w') := fun j r W hj => by
    have hm := may_ok (hS.may r (List.mem_of_getElem? hj))
    have := bsize_any b r.2.2.1.toNat r.1 r.2.1 r.2.2.2 W hb (by omega)
    rw [show ((r.2.2.1.toNat : Nat) : Int) = r.2.2.1 by omega] at this
    unfold siz
    rw [show S.getD j (0, 0, 0, 0) = r by simp [List.getD, hj]]
    exact this
  have HP : Hid (∀ W : World, Below w.heap.size w W → Calls Try.prog 56 #[.int .i64 (b : Int), .slice o n c] W fun e w' => ∃ g, e = .returned (.slice (some ⟨g, 0, none⟩) n n) ∧ w'.ownsRow W.heap.size 3 1 (.slice (some ⟨g, 0, none⟩) n n) n (iv (rowP b S n n)) ∧ Below W.heap.size W w') := fun W hW => bparents_any b S o c n W hb hn hL hS (hr.later hW)
  clear hr hn hS hb
  go_enter Try.func44, Try.ntmps44
  go_wp2_with (at_make; refine wpList_make_full _ rfl _ _ 23 rfl w.heap.size 3 i0 (.int .i64 0) 1 Try.underlying23 hi hz0 hz1 .i64 .i64 _ _ n rfl rfl rfl rfl (by rw [hz2]; omega) (by unfold maxLen; omega) (Nat.le_refl _) ?_; intro w5 hO5 hg5)
  rw [iv_made, rowF_zero (fun j => (siz b S j : Int)) n] at hO5
  have O5 : Hid (w5.ownsRow w.heap.size 3 1 (.slice (some ⟨w.heap.size, 0, none⟩) n n) n (iv (rowF (fun j => (siz b S j : Int)) n 0))) := hO5
  have B5 : Hid (Below w.heap.size w w5) := (Below.refl _ _).grown hg5 (Nat.le_refl _) (fun k e => by cases e)
  clear hO5 hg5 hz0 hz1 hz2 hi
  go_loopw [18] (fun vk wr => ∃ k : Nat, vk = .int .i64 (k : Int) ∧ k ≤ n ∧ Hid (wr.ownsRow w.heap.size 3 1 (.slice (some ⟨w.heap.size, 0, none⟩) n n) n (iv (rowF (fun j => (siz b S j : Int)) n k))) ∧ Below w.heap.size w wr) (fun vk _ => n - (intOf vk).toNat)
  case atStart => exact ⟨0, rfl, Nat.zero_le _, O5, B5.out⟩
  case round =>
    clear O5 B5
    obtain ⟨k, rfl, hk, hO, hB⟩ := hrel
    by_cases hlt : k < n
    · have j1 : (k : Int) < (n : Int) := by omega
      have j0 : (0 : Int) ≤ (k : Int) := by omega
      obtain ⟨r, hrk⟩ : ∃ r, S[k]? = some r := ⟨_, List.getElem?_eq_getElem (by rw [HN.out]; omega)⟩
      have HZK := fun W => HZ.out k r W hrk
      obtain ⟨g, o0, rfl, p0, p1, p2, p3⟩ := HI.out wr hB k r hrk
      obtain ⟨r0, r1, r2, r3⟩ := r
      simp only at p0 p1 p2 p3 HZK
      obtain ⟨Z, hZ⟩ : ∃ Z, siz b S k = Z := ⟨_, rfl⟩
      simp only [hZ] at HZK
      have HZD : Hid (∀ W : World, Calls Try.prog 57 #[.int .i64 (b : Int), .agg #[.int .i64 r0, .int .i64 r1, .int .i64 r2, .int .i64 r3]] W fun e w' => e = .returned (.int .i64 (Z : Int)) ∧ Below W.heap.size W w') := HZK
      have HZE : Hid (siz b S k = Z) := hZ
      clear hrk HZK hZ
      go_wp2_with fail
      refine (HZD.out _).mono ?_
      rintro e W2 ⟨rfl, hb2⟩
      have hB1 : Below w.heap.size w (wr.alloc (.cells #[.int .i64 r0, .int .i64 r1, .int .i64 r2, .int .i64 r3] 59)) := hB.alloc hB.size _
      have hB2 := bel0 hB1 hb2
      have o2 := owns_below (hO.out.alloc (.cells #[.int .i64 r0, .int .i64 r1, .int .i64 r2, .int .i64 r3] 59)) hb2
      have q2 := iv_at o2 (rowF_at hlt)
      have z2 := o2.frozenAt k
      have hst := o2.stored k (.int .i64 (Z : Int))
      have ez : (rowF (fun j => (siz b S j : Int)) n k).set k (Z : Int) = rowF (fun j => (siz b S j : Int)) n (k + 1) := by rw [← rowF_succ]; show _ = List.set _ k ((siz b S k : Nat) : Int); rw [HZE.out]
      rw [iv_set, ez] at hst
      have H5 : Hid ((W2.setCell ⟨w.heap.size, k, none⟩ (.int .i64 (Z : Int))).ownsRow w.heap.size 3 1 (.slice (some ⟨w.heap.size, 0, none⟩) n n) n (iv (rowF (fun j => (siz b S j : Int)) n (k + 1))) ∧ Below w.heap.size w (W2.setCell ⟨w.heap.size, k, none⟩ (.int .i64 (Z : Int)))) := ⟨hst.1, hB2.grown hst.2 hB2.size (fun j e => by injection e with e; omega)⟩
      clear hst ez o2
      go_wp2_with fail
      go_roundw
      case rel => exact ⟨k + 1, by go_num, by omega, H5.out.1, H5.out.2⟩
      case measure => simp [intOf]; omega
    · have j1 : ¬ (k : Int) < (n : Int) := by omega
      obtain rfl : k = n := by omega
      have hO1 := hO.out
      rw [lft_zero] at hO1
      have O1 : Hid (wr.ownsRow w.heap.size 3 1 (.slice (some ⟨w.heap.size, 0, none⟩) k k) k (iv (lft b S k 0))) := hO1
      clear hO hO1
      go_wp2_with fail
      refine (HP.out _ hB).mono ?_
      rintro e W2 ⟨g2, rfl, op, hb2⟩
      have OP : Hid (W2.ownsRow wr.heap.size 3 1 (.slice (some ⟨g2, 0, none⟩) k k) k (iv (rowP b S k k))) := op
      have O2 : Hid (W2.ownsRow w.heap.size 3 1 (.slice (some ⟨w.heap.size, 0, none⟩) k k) k (iv (lft b S k 0))) := owns_below O1.out hb2
      have B2 : Hid (Below w.heap.size w W2) := bel0 hB hb2
      have hne : g2 ≠ w.heap.size := fun e => by
        have h1 := (op.lt g2 rfl).1
        have h2 := (O1.out.lt w.heap.size rfl).2
        omega
      have HNE : Hid (g2 ≠ w.heap.size) := hne
      have hwr : w.heap.size ≤ wr.heap.size := hB.size
      clear op O1 hne hB hb2
      go_wp2_with fail
      go_loopw [34] (fun vi wz => ∃ i : Nat, vi = .int .i64 (i : Int) ∧ i ≤ k ∧ Hid (wz.ownsRow w.heap.size 3 1 (.slice (some ⟨w.heap.size, 0, none⟩) k k) k (iv (lft b S k i)) ∧ wz.ownsRow w.heap.size 3 1 (.slice (some ⟨g2, 0, none⟩) k k) k (iv (rowP b S k k))) ∧ Below w.heap.size w wz) (fun vi _ => k - (intOf vi).toNat)
      case atStart => exact ⟨0, rfl, Nat.zero_le _, ⟨O2.out, own_base OP.out hwr⟩, B2.out⟩
      case round =>
        clear O2 OP B2
        obtain ⟨i, rfl, hik, hO, hB⟩ := hrel
        by_cases hlt2 : i < k
        · have j2 : (i : Int) < (k : Int) := by omega
          have j3 : (0 : Int) ≤ (i : Int) := by omega
          have q0 := iv_at hO.out.2 (rowP_end hlt2)
          cases hpi : par b S i with
          | zero =>
            have e0 : ((0 : Nat) : Int) - 1 = -1 := by omega
            rw [hpi, e0] at q0
            have H5 : Hid (wr.ownsRow w.heap.size 3 1 (.slice (some ⟨w.heap.size, 0, none⟩) k k) k (iv (lft b S k (i + 1))) ∧ wr.ownsRow w.heap.size 3 1 (.slice (some ⟨g2, 0, none⟩) k k) k (iv (rowP b S k k))) := ⟨lft_stay hpi ▸ hO.out.1, hO.out.2⟩
            clear e0 hO hpi
            go_wp2_with fail
            go_roundw
            case rel => exact ⟨i + 1, by go_num, by omega, H5, hB⟩
            case measure => simp [intOf]; omega
          | succ q =>
            have hq : q < k := by have := par_le b S i; rw [hpi, HN.out] at this; omega
            have e0 : ((q + 1 : Nat) : Int) - 1 = (q : Int) := by omega
            rw [hpi, e0] at q0
            have j4 : (q : Int) < (k : Int) := by omega
            have j5 : (0 : Int) ≤ (q : Int) := by omega
            obtain ⟨r, hri⟩ : ∃ r, S[i]? = some r := ⟨_, List.getElem?_eq_getElem (by rw [HN.out]; omega)⟩
            have HZK := fun W => HZ.out i r W hri
            obtain ⟨X, hX⟩ : ∃ X : Int, (siz b S q : Int) - (csum b S q i : Int) = X := ⟨_, rfl⟩
            obtain ⟨Z, hZ⟩ : ∃ Z, siz b S i = Z := ⟨_, rfl⟩
            have hX1 : -1099511627776 ≤ X ∧ X ≤ 4294967296 ∧ Z ≤ 4294967296 := by
              have h1 := siz_le b S q HB.out
              have h2 := csum_le2 b S q i HB.out (by omega)
              have h3 := siz_le b S i HB.out
              omega
            obtain ⟨hX1, hX2, hZ1⟩ := hX1
            obtain ⟨Y, hY⟩ : ∃ Y : Int, X - (Z : Int) = Y := ⟨_, rfl⟩
            have eY : IntKind.i64.wrap (X - (Z : Int)) = Y := by rw [IntKind.wrap_i64]; omega
            obtain ⟨g, o0, rfl, -⟩ := HI.out wr hB i r hri
            have HL : Hid (∀ W, Below wr.heap.size wr W → (W.cell? ⟨g, o0 + i * 4, none⟩ = some (.int .i64 r.1) ∧ W.cell? ⟨g, o0 + i * 4 + 1, none⟩ = some (.int .i64 r.2.1) ∧ W.cell? ⟨g, o0 + i * 4 + 2, none⟩ = some (.int .i64 r.2.2.1) ∧ W.cell? ⟨g, o0 + i * 4 + 3, none⟩ = some (.int .i64 r.2.2.2)) ∧ W.cell? ⟨w.heap.size, q, none⟩ = some (.int .i64 X) ∧ W.frozen? ⟨w.heap.size, q, none⟩ = false) := fun W hW => by
              obtain ⟨g3, q3, e, hh⟩ := HI.out W (bel0 hB hW) i r hri
              injection e with e
              injection e with e1 e2
              subst e1 e2
              have o4 := owns_below hO.out.1 hW
              have := iv_at o4 (lft_at hq)
              rw [hX] at this
              exact ⟨hh, this, o4.frozenAt q⟩
            obtain ⟨r0, r1, r2, r3⟩ := r
            simp only at HL HZK
            simp only [hZ] at HZK
            have HZD : Hid (∀ W : World, Calls Try.prog 57 #[.int .i64 (b : Int), .agg #[.int .i64 r0, .int .i64 r1, .int .i64 r2, .int .i64 r3]] W fun e w' => e = .returned (.int .i64 (Z : Int)) ∧ Below W.heap.size W w') := HZK
            have HST : Hid (∀ W, Below wr.heap.size wr W → ((W.setCell ⟨w.heap.size, q, none⟩ (.int .i64 Y)).ownsRow w.heap.size 3 1 (.slice (some ⟨w.heap.size, 0, none⟩) k k) k (iv (lft b S k (i + 1))) ∧ (W.setCell ⟨w.heap.size, q, none⟩ (.int .i64 Y)).ownsRow w.heap.size 3 1 (.slice (some ⟨g2, 0, none⟩) k k) k (iv (rowP b S k k))) ∧ Below w.heap.size w (W.setCell ⟨w.heap.size, q, none⟩ (.int .i64 Y))) := fun W hW => by
              have o4 := owns_below hO.out.1 hW
              have o5 := owns_below hO.out.2 hW
              have hst := o4.stored q (.int .i64 Y)
              have := lft_take (n := k) hpi hq
              rw [hX, hZ, hY] at this
              rw [iv_set, this] at hst
              have hB4 := bel0 hB hW
              exact ⟨⟨hst.1, o5.kept hst.2 (.inr (fun e => HNE.out (by injection e)))⟩, hB4.grown hst.2 hB4.size (fun j e => by injection e with e; omega)⟩
            clear e0 hO hpi HZK hri hX hZ hY
            go_wp2_with fail
            refine quiet_last (C := fun W => Below wr.heap.size wr W) (by kernel_rfl) (by kernel_rfl) (by kernel_rfl) (by kernel_rfl) (show Below _ _ _ from (Below.refl _ _).drew) ?_
            simp only [List.dropLast_cons_cons, List.dropLast_singleton]
            go_big_quiet_want
            go_big_quiet_op
            go_big_quiet_on
            go_big_quiet_want
            go_big_quiet_op
            go_big_quiet_on
            go_big_quiet_want
            refine ⟨.pointer (some ⟨w.heap.size, q, none⟩), fun W hW => ?_, ?_⟩
            · go_simp
            go_big_quiet_on
            simp only [Act.put, List.setIfInBounds_toArray, List.set_cons_zero, List.set_cons_succ]
            go_big_quiet_want
            refine ⟨.int .i64 X, fun W hW => ?_, ?_⟩
            · obtain ⟨⟨z0, z1, z2, z3⟩, n1, n2⟩ := HL.out W hW
              go_simp
            go_big_quiet_on
            simp only [Act.put, List.setIfInBounds_toArray, List.set_cons_zero, List.set_cons_succ]
            go_big_quiet_want
            go_big_quiet_op
            go_big_quiet_on
            go_big_quiet_want
            go_big_quiet_op
            go_big_quiet_on
            go_big_quiet_want
            go_big_quiet_op
            go_big_quiet_on
            go_big_quiet_want
            refine ⟨.pointer (some ⟨g, o0 + i * 4, none⟩), fun W hW => ?_, ?_⟩
            · go_simp
            go_big_quiet_on
            simp only [Act.put, List.setIfInBounds_toArray, List.set_cons_zero, List.set_cons_succ]
            go_big_quiet_want
            refine ⟨.agg #[.int .i64 r0, .int .i64 r1, .int .i64 r2, .int .i64 r3], fun W hW => ?_, ?_⟩
            · obtain ⟨⟨z0, z1, z2, z3⟩, n1, n2⟩ := HL.out W hW
              go_simp
            go_big_quiet_on
            simp only [Act.put, List.setIfInBounds_toArray, List.set_cons_zero, List.set_cons_succ]
            go_big_quiet_want
            refine ⟨.int .i64 (Z : Int), fun W hW => ?_, ?_⟩
            · go_simp
              refine (HZD.out W).mono ?_
              rintro e w7 ⟨rfl, hb⟩
              exact ⟨rfl, bel0 hW hb⟩
            go_big_quiet_on
            simp only [Act.put, List.setIfInBounds_toArray, List.set_cons_zero, List.set_cons_succ]
            go_big_quiet_want
            refine ⟨.int .i64 Y, fun W hW => ?_, ?_⟩
            · go_simp
            go_big_quiet_on
            simp only [Act.put, List.setIfInBounds_toArray, List.set_cons_zero, List.set_cons_succ]
            go_big_quiet_want
            refine ⟨.pointer (some ⟨w.heap.size, q, none⟩), fun W hW => ?_, ?_⟩
            · go_simp
            go_big_quiet_on
            simp only [Act.put, List.setIfInBounds_toArray, List.set_cons_zero, List.set_cons_succ]
            refine wpQuiet_nil ?_
            intro W hW
            refine wpOp_gor rfl rfl ?_
            obtain ⟨-, n1, n2⟩ := HL.out W hW
            go_simp
            go_wp2_with fail
            go_roundw
            case rel => exact ⟨i + 1, by go_num, by omega, (HST.out W hW).1, (HST.out W hW).2⟩
            case measure => simp [intOf]; omega
        · have j2 : ¬ (i : Int) < (k : Int) := by omega
          obtain rfl : i = k := by omega
          have O3 : Hid (wr.ownsRow w.heap.size 3 1 (.slice (some ⟨w.heap.size, 0, none⟩) i i) i (iv (lft b S i i))) := hO.out.1
          have B3 : Hid (Below w.heap.size w wr) := hB
          clear hO hB
          go_wp2_with fail
          go_loopw [10, 56] (fun vl vi wz => ∃ (j : Nat) (M : List IRt), vi = .int .i64 (j : Int) ∧ j ≤ i ∧ Hid (M = keepI (metB b S) S j) ∧ Hid (wz.ownsRow w.heap.size 3 1 (.slice (some ⟨w.heap.size, 0, none⟩) i i) i (iv (lft b S i i)) ∧ wz.ownsRow w.heap.size 59 4 vl M.length (rels M)) ∧ Below w.heap.size w wz) (fun _ vi _ => i - (intOf vi).toNat)
          case atStart => exact ⟨0, [], rfl, Nat.zero_le _, rfl, ⟨O3.out, World.ownsRow_nil _ _ _ _⟩, B3.out⟩
          case round =>
            clear O3 B3
            obtain ⟨j, M, rfl, hji, hM, hO, hB⟩ := hrel
            by_cases hlt3 : j < i
            · have j2 : (j : Int) < (i : Int) := by omega
              have j3 : (0 : Int) ≤ (j : Int) := by omega
              obtain ⟨r, hrj⟩ : ∃ r, S[j]? = some r := ⟨_, List.getElem?_eq_getElem (by rw [HN.out]; omega)⟩
              have hgd : S.getD j (0, 0, 0, 0) = r := by simp [List.getD, hrj]
              have hks : keepI (metB b S) S (j + 1) = if metB b S j = true then M ++ [r] else M := by rw [keepI, hgd, ← hM.out]
              rw [metB_iff, HN.out] at hks
              obtain ⟨X, hX⟩ : ∃ X : Int, (siz b S j : Int) - (csum b S j i : Int) = X := ⟨_, rfl⟩
              rw [hX] at hks
              have hML : M.length ≤ 256 := by
                rw [hM.out]
                exact Nat.le_trans (keepI_len _ _ _ (by rw [HN.out]; omega)) (by omega)
              obtain ⟨g, o0, rfl, p0, p1, p2, p3⟩ := HI.out wr hB j r hrj
              obtain ⟨r0, r1, r2, r3⟩ := r
              simp only at p0 p1 p2 p3
              have oA := hO.out.1.alloc (.cells #[.int .i64 r0, .int .i64 r1, .int .i64 r2, .int .i64 r3] 59)
              have x0 := iv_at oA (lft_at (b := b) (S := S) (i := i) hlt3)
              rw [hX] at x0
              have oL := hO.out.2.alloc (.cells #[.int .i64 r0, .int .i64 r1, .int .i64 r2, .int .i64 r3] 59)
              have hBA : Below w.heap.size w (wr.alloc (.cells #[.int .i64 r0, .int .i64 r1, .int .i64 r2, .int .i64 r3] 59)) := hB.alloc hB.size _
              obtain ⟨q5, c5, rfl⟩ := shapeP oL
              by_cases hx0 : 0 < X
              · rw [decide_eq_true hx0, if_pos rfl] at hks
                have HK : Hid (M ++ [(r0, r1, r2, r3)] = keepI (metB b S) S (j + 1)) := hks.symm
                have OA : Hid ((wr.alloc (.cells #[.int .i64 r0, .int .i64 r1, .int .i64 r2, .int .i64 r3] 59)).ownsRow w.heap.size 3 1 (.slice (some ⟨w.heap.size, 0, none⟩) i i) i (iv (lft b S i i)) ∧ Below w.heap.size w (wr.alloc (.cells #[.int .i64 r0, .int .i64 r1, .int .i64 r2, .int .i64 r3] 59))) := ⟨oA, hBA⟩
                have ow := oL.alloc (.cells #[.int .i64 r0, .int .i64 r1, .int .i64 r2, .int .i64 r3] 59)
                have hbw := (hBA.alloc hBA.size (.cells #[.int .i64 r0, .int .i64 r1, .int .i64 r2, .int .i64 r3] 59)).size
                clear hks oA hBA oL hrj hgd hO hM hX
                go_wp2_with (at_builtin; refine wpList_append_own _ rfl _ _ 36 rfl w.heap.size 59 i1 _ 4 32 Try.underlying36 gi gz0 gz1 gz2 rfl (by decide) _ _ _ rfl ow ⟨_, 0, none⟩ 1 1 [.int .i64 r0, .int .i64 r1, .int .i64 r2, .int .i64 r3] rfl rfl (World.news_of_block (cs := #[.int .i64 r0, .int .i64 r1, .int .i64 r2, .int .i64 r3]) (t := 59) (fr := (0, 0)) (ralloc_two _ _ _)) (by simp [Value.oneCell']) (by unfold maxLen; omega) (by omega) hbw ?_; intro v6 w6 oB hg6 _)
                have oC : w6.ownsRow w.heap.size 59 4 v6 (M ++ [(r0, r1, r2, r3)]).length (rels (M ++ [(r0, r1, r2, r3)])) := by
                  rw [rels_app, List.length_append]
                  exact oB
                have oD := (OA.out.1.alloc (.cells #[.int .i64 r0, .int .i64 r1, .int .i64 r2, .int .i64 r3] 59)).kept hg6 (rows_apart (OA.out.1.alloc _) ow (by decide))
                have hB6 := (OA.out.2.alloc OA.out.2.size (.cells #[.int .i64 r0, .int .i64 r1, .int .i64 r2, .int .i64 r3] 59)).grown hg6 hbw (fun k e => (ow.lt k e).1)
                go_roundw
                case rel => exact ⟨j + 1, M ++ [(r0, r1, r2, r3)], by go_num, by omega, HK, ⟨oD, oC⟩, hB6⟩
                case measure => simp [intOf]; omega
              · rw [decide_eq_false hx0, if_neg (by decide)] at hks
                have HK : Hid (M = keepI (metB b S) S (j + 1)) := hks.symm
                have OA : Hid ((wr.alloc (.cells #[.int .i64 r0, .int .i64 r1, .int .i64 r2, .int .i64 r3] 59)).ownsRow w.heap.size 3 1 (.slice (some ⟨w.heap.size, 0, none⟩) i i) i (iv (lft b S i i)) ∧ (wr.alloc (.cells #[.int .i64 r0, .int .i64 r1, .int .i64 r2, .int .i64 r3] 59)).ownsRow w.heap.size 59 4 (.slice q5 M.length c5) M.length (rels M)) := ⟨oA, oL⟩
                clear hks oA oL hrj hgd hO hM hX
                go_wp2_with fail
                go_roundw
                case rel => exact ⟨j + 1, M, by go_num, by omega, HK, OA, hBA⟩
                case measure => simp [intOf]; omega
            · have j2 : ¬ (j : Int) < (i : Int) := by omega
              obtain rfl : j = i := by omega
              have HE : Hid (M = metL b S) := by unfold Hid metL; rw [HN.out]; exact hM.out
              clear hM
              go_wp2_with fail
              go_ret
              refine ⟨_, rfl, ?_, hB⟩
              rw [← HE.out]
              exact hO.out.2
end Go.Proofs.Ytfcdaljhbeogeaa

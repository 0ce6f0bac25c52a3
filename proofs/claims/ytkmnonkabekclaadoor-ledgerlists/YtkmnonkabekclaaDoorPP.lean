import Derived.Test.YtkmnonkabekclaaDoorPO
namespace Go.Proofs.YtkmnonkabekclaaDoor
open Go.RowKit Go.Shelf
theorem byte_getP (l : List UInt8) (k : Nat) (h : k < l.length) : ∃ c, (∀ h', (ByteArray.mk l.toArray)[k]'h' = c) ∧ l[k]? = some c := ⟨l[k], fun _ => rfl, List.getElem?_eq_getElem h⟩
theorem fold_bd : ∀ (d : List UInt8) (acc : Int) (K : Nat), acc ≤ 30 * (K : Int) - 30 → -(30 * (K : Int) - 30) ≤ acc →
    d.foldl (fun n c => 10 * n + (c.toNat : Int) - 48) acc ≤ 30 * ((K * 10 ^ d.length : Nat) : Int) - 30 ∧ -(30 * ((K * 10 ^ d.length : Nat) : Int) - 30) ≤ d.foldl (fun n c => 10 * n + (c.toNat : Int) - 48) acc
  | [], acc, K, h1, h2 => by simp only [List.foldl_nil, List.length_nil, Nat.pow_zero, Nat.mul_one]; exact ⟨h1, h2⟩
  | c :: r, acc, K, h1, h2 => by
    have hc := c.toNat_lt
    have := fold_bd r (10 * acc + (c.toNat : Int) - 48) (K * 10) (by omega) (by omega)
    rw [Nat.mul_assoc, Nat.mul_comm 10, ← Nat.pow_succ] at this
    exact this
theorem valD_bd {d : List UInt8} (h : d.length ≤ 6) : valD d ≤ 30000000 ∧ -30000000 ≤ valD d := by
  have h1 := fold_bd d 0 1 (by omega) (by omega)
  have h2 : 10 ^ d.length ≤ 10 ^ 6 := Nat.pow_le_pow_right (by decide) h
  unfold valD
  omega
theorem valD_succ {r : List UInt8} {i : Nat} {c : UInt8} (h : r[i]? = some c) : valD (r.take (i + 1)) = 10 * valD (r.take i) + (c.toNat : Int) - 48 := by
  rw [List.take_add_one, h, Option.toList_some, valD_snoc]
theorem pre_at_ne {r : List UInt8} {j : Nat} {c : UInt8} (hj : j < (pre58 r).length) (h : r[j]? = some c) : c ≠ 58 := by
  refine pre_ne r c ?_
  rw [← pre_take r]
  exact List.mem_of_getElem? (i := j) (by rw [List.getElem?_take, if_pos hj]; exact h)
theorem un1_at {r : List UInt8} {n : Int} (h : (pre58 r).length < r.length) (hn : valD (pre58 r) = n) (h0 : 0 ≤ n) (hi : Lib.itoa n = pre58 r) (hb : (pre58 r).length + 1 + n.toNat ≤ r.length) : un1 r = some ((r.drop ((pre58 r).length + 1)).take n.toNat, (r.drop ((pre58 r).length + 1)).drop n.toNat) := by
  unfold un1
  rw [hn, if_pos ⟨h, h0, hi, hb⟩]
theorem un1_not {r : List UInt8} {n : Int} (hn : valD (pre58 r) = n) (h : ¬ (0 ≤ n ∧ Lib.itoa n = pre58 r ∧ (pre58 r).length + 1 + n.toNat ≤ r.length)) : un1 r = none := by
  unfold un1
  rw [hn, if_neg (fun hh => h ⟨hh.2.1, hh.2.2.1, hh.2.2.2⟩)]
theorem un1_full {r : List UInt8} (h : (pre58 r).length = r.length) : un1 r = none := by
  unfold un1
  rw [if_neg (fun hh => by omega)]
theorem ext_midP (l : List UInt8) (a b : Nat) : (ByteArray.mk l.toArray).extract a b = ⟨((l.drop a).take (b - a)).toArray⟩ := ByteArray.ext (by simp)
set_option maxRecDepth 100000 in
set_option maxHeartbeats 8000000 in
theorem dunpack_any (l : List UInt8) (w : World) (hlm : l.length ≤ 281474976710656) (ht : TBL w) :
    Calls Tryd.prog 22 #[.string ⟨l.toArray⟩] w (UNQ l w) := by
  have HT : Hid (∀ W, Below w.heap.size w W → TBL W) := fun W h => ht.below h
  clear ht
  by_cases h1 : 16384 < l.length
  · have h1' : (16384 : Int) < (l.length : Int) := by omega
    have HE : Hid (UNQ l w (.returned (.tuple #[.slice none 0 0, .int .i64 ((2 : Nat) : Int)])) w) := ⟨⟨_, 2, rfl, .inl ⟨h1, rfl, rfl⟩⟩, Below.refl _ _⟩
    go_enter Tryd.func22, Tryd.ntmps22
    go_wp2_with fail
    go_ret2
    exact HE.out
  have h1' : ¬ (16384 : Int) < (l.length : Int) := by omega
  go_enter Tryd.func22, Tryd.ntmps22
  go_wp2_with fail
  go_loopw [4, 5] (fun va vt wr => ∃ (q : Option Addr) (k c : Nat) (acc : List (List UInt8)) (s : Nat), va = .slice q k c ∧ vt = .int .i64 (s : Int) ∧ s ≤ l.length ∧ acc.length ≤ s ∧ Hid (OS wr w.heap.size (.slice q k c) acc ∧ Below w.heap.size w wr ∧ unW l = (unW (l.drop s)).map (acc ++ ·))) (fun _ vt _ => l.length - (intOf vt).toNat)
  case atStart => exact ⟨none, 0, 0, [], 0, rfl, rfl, Nat.zero_le _, by simp, OS_nil _ _, Below.refl _ _, by simp⟩
  case round =>
    obtain ⟨q, k, c, acc, s, rfl, rfl, hs, hac, HS⟩ := hrel
    by_cases hlt : s < l.length
    · have i1 : (s : Int) < (l.length : Int) := by omega
      obtain ⟨r, hr⟩ : ∃ r, l.drop s = r := ⟨_, rfl⟩
      have hrl : s + r.length = l.length := by rw [← hr, List.length_drop]; omega
      have hr0 : Hid (r ≠ []) := fun h => by rw [h] at hrl; simp at hrl; omega
      have HG : Hid (∀ j, l[s + j]? = r[j]?) := fun j => by rw [← hr, List.getElem?_drop]
      have HUN : Hid (un1 r = none → UNQ l w (.returned (.tuple #[.slice none 0 0, .int .i64 ((193 : Nat) : Int)])) wr) := fun hu => ⟨⟨_, 193, rfl, .inr ⟨by omega, .inl ⟨by rw [HS.out.2.2, hr, unW_no hr0.out hu]; rfl, rfl, rfl⟩⟩⟩, HS.out.2.1⟩
      have HUND : Hid (un1 r = none → ∀ W, Below wr.heap.size wr W → UNQ l w (.returned (.tuple #[.slice none 0 0, .int .i64 ((193 : Nat) : Int)])) W) := fun hu W hW => ⟨⟨_, 193, rfl, .inr ⟨by omega, .inl ⟨by rw [HS.out.2.2, hr, unW_no hr0.out hu]; rfl, rfl, rfl⟩⟩⟩, bel0Z HS.out.2.1 hW⟩
      have HYS : Hid (∀ x y, un1 r = some (x, y) → unW l = (unW y).map ((acc ++ [x]) ++ ·)) := fun x y hu => by
        rw [HS.out.2.2, hr, unW_go hr0.out hu]
        cases unW y with
        | none => exact rfl
        | some q => simp only [Option.map_some, List.append_assoc, List.singleton_append]
      obtain ⟨P, hP⟩ : ∃ P, (pre58 r).length = P := ⟨_, rfl⟩
      have hPr : P ≤ r.length := by rw [← hP]; exact pre_le r
      have HNE : Hid (∀ j c, j < P → r[j]? = some c → c ≠ 58) := fun j c hj h => pre_at_ne (by omega) h
      have HEQ : Hid (P < r.length → r[P]? = some 58) := fun h => by rw [← hP]; exact pre_at r (by omega)
      have HP : Hid ((pre58 r).length = P) := hP
      have HR : Hid (l.drop s = r) := hr
      have e6 : IntKind.i64.wrap ((s : Int) + 6) = (s : Int) + 6 := by rw [IntKind.wrap_i64]; omega
      clear hr hP
      go_wp2_with fail
      go_loopw [6] (fun vt wr2 => ∃ t : Nat, vt = .int .i64 (t : Int) ∧ s ≤ t ∧ t ≤ s + P ∧ t ≤ s + 6 ∧ wr2 = wr) (fun vt _ => l.length - (intOf vt).toNat)
      case atStart => exact ⟨s, rfl, Nat.le_refl _, by omega, by omega, rfl⟩
      case round =>
        obtain ⟨t, rfl, t1, t2, t3, rfl⟩ := hrel
        have j0 : (0 : Int) ≤ (t : Int) := by omega
        by_cases htl : t < s + P
        · have j1 : (t : Int) < (l.length : Int) := by omega
          obtain ⟨c0, hc, hcl⟩ := byte_getP l t (by omega)
          have hne : c0 ≠ 58 := HNE.out (t - s) c0 (by omega) (by rw [← HG.out (t - s), show s + (t - s) = t by omega]; exact hcl)
          have hnn : c0.toNat ≠ 58 := fun h => hne (UInt8.toNat_inj.1 h)
          have c58 : ((c0.toNat : Int) == 58) = false := beq_eq_false_iff_ne.2 (by omega)
          have c58' : ((c0.toNat : Int) != 58) = true := by simp only [bne, c58]; rfl
          clear hcl hne
          by_cases h6 : t < s + 6
          · have j6 : (t : Int) < (s : Int) + 6 := by omega
            go_wp2_with fail
            exact ⟨⟨t + 1, rfl, by omega, by omega, by omega, by trivial⟩, by simp only [intOf]; omega⟩
          · have j6 : ¬ (t : Int) < (s : Int) + 6 := by omega
            have k1 : ((t : Int) == (l.length : Int)) = false := beq_eq_false_iff_ne.2 (by omega)
            have HE := HUN.out (un1_long (by omega) (by rw [HP.out]; omega))
            go_wp2_with fail
            go_ret2
            exact HE
        · obtain rfl : t = s + P := by omega
          by_cases hf : P = r.length
          · have j1 : ¬ ((s + P : Nat) : Int) < (l.length : Int) := by omega
            have k1 : (((s + P : Nat) : Int) == (l.length : Int)) = true := beq_iff_eq.2 (by omega)
            have HE := HUN.out (un1_full (by rw [HP.out]; exact hf))
            obtain ⟨t, ht⟩ : ∃ t, s + P = t := ⟨_, rfl⟩
            rw [ht] at j0 j1 k1 ⊢
            clear ht
            go_wp2_with fail
            go_ret2
            exact HE
          obtain ⟨t, ht⟩ : ∃ t, s + P = t := ⟨_, rfl⟩
          have htl2 : t < l.length := by omega
          have j1 : (t : Int) < (l.length : Int) := by omega
          obtain ⟨c0, hc, hcl⟩ := byte_getP l t (by omega)
          obtain rfl : c0 = 58 := by
            have := HEQ.out (by omega)
            rw [← HG.out P, ht, hcl] at this
            exact Option.some.inj this
          have hc' : Hid (∀ h', (ByteArray.mk l.toArray)[t]'h' = 58) := hc
          have k1 : ((t : Int) == (l.length : Int)) = false := beq_eq_false_iff_ne.2 (by omega)
          have HTP : Hid (s + P = t) := ht
          rw [ht] at j0 t1 t3 ⊢
          clear t2 htl hcl
          go_wp2_with fail
          go_loopw [7, 8] (fun vn vi wr3 => ∃ i : Nat, vi = .int .i64 (i : Int) ∧ vn = .int .i64 (valD (r.take (i - s))) ∧ s ≤ i ∧ i ≤ t ∧ wr3 = wr) (fun _ vi _ => t - (intOf vi).toNat)
          case atStart => exact ⟨s, rfl, by simp [valD], Nat.le_refl _, t1, rfl⟩
          case round =>
            obtain ⟨i, rfl, rfl, i1, i2, rfl⟩ := hrel
            by_cases hit : i < t
            · have m0 : (0 : Int) ≤ (i : Int) := by omega
              have m1 : (i : Int) < (l.length : Int) := by omega
              have m2 : (i : Int) < (t : Int) := by omega
              obtain ⟨c1, hc1, hcl1⟩ := byte_getP l i (by omega)
              have hv : valD (r.take (i + 1 - s)) = 10 * valD (r.take (i - s)) + (c1.toNat : Int) - 48 := by
                rw [show i + 1 - s = (i - s) + 1 by omega]
                exact valD_succ (by rw [← HG.out (i - s), show s + (i - s) = i by omega]; exact hcl1)
              have hbd := valD_bd (d := r.take (i - s)) (by rw [List.length_take]; omega)
              obtain ⟨n, hn⟩ : ∃ n, valD (r.take (i - s)) = n := ⟨_, rfl⟩
              rw [hn] at hv hbd ⊢
              have hc2 := c1.toNat_lt
              have e1 : IntKind.i64.wrap (10 * n) = 10 * n := by rw [IntKind.wrap_i64]; omega
              have e2 : IntKind.i64.wrap (10 * n + (c1.toNat : Int)) = 10 * n + (c1.toNat : Int) := by rw [IntKind.wrap_i64]; omega
              have e3 : IntKind.i64.wrap (10 * n + (c1.toNat : Int) - 48) = 10 * n + (c1.toNat : Int) - 48 := by rw [IntKind.wrap_i64]; omega
              have HV2 : Hid (valD (r.take (i + 1 - s)) = 10 * n + (c1.toNat : Int) - 48) := hv
              clear hcl1 hv hn hbd
              go_wp2_with fail
              exact ⟨⟨i + 1, rfl, by rw [HV2.out], by omega, by omega, by trivial⟩, by simp only [intOf]; omega⟩
            · obtain rfl : i = t := by omega
              have HDP : Hid (r.take (i - s) = pre58 r) := by rw [show i - s = P by have := HTP.out; omega, ← HP.out]; exact pre_take r
              rw [HDP.out]
              have hbd := valD_bd (d := pre58 r) (by rw [HP.out]; have := HTP.out; omega)
              obtain ⟨n, hn⟩ : ∃ n, valD (pre58 r) = n := ⟨_, rfl⟩
              rw [hn] at hbd ⊢
              have HUX : Hid (¬ (0 ≤ n ∧ Lib.itoa n = pre58 r ∧ (pre58 r).length + 1 + n.toNat ≤ r.length) → un1 r = none) := fun h => un1_not hn h
              have HUY : Hid ((pre58 r).length < r.length → 0 ≤ n → Lib.itoa n = pre58 r → (pre58 r).length + 1 + n.toNat ≤ r.length → un1 r = some ((r.drop ((pre58 r).length + 1)).take n.toNat, (r.drop ((pre58 r).length + 1)).drop n.toNat)) := fun a b c d => un1_at a hn b c d
              have ES : Hid ((ByteArray.mk l.toArray).extract s i = ⟨(pre58 r).toArray⟩) := by rw [ext_midP, HR.out, HDP.out]; exact rfl
              obtain ⟨d, hd⟩ : ∃ d, pre58 r = d := ⟨_, rfl⟩
              rw [hd] at HUX HUY ES HP
              clear HDP hn hd HNE HEQ HG hc
              have x0 : (0 : Int) ≤ (s : Int) := by omega
              have x1 : (s : Int) ≤ (i : Int) := by omega
              have x2 : (i : Int) ≤ (l.length : Int) := by omega
              by_cases hn0 : n < 0
              · have HE := HUND.out (HUX.out (fun h => by omega))
                go_wp2_with fail
                refine quiet_lit3 (C := fun U => Below wr.heap.size wr U) (by kernel_rfl) (by kernel_rfl) (show Below _ _ _ from (Below.refl _ _).drew) ?_
                go_big_quiet_want
                go_big_quiet_op
                go_big_quiet_on
                go_big_quiet_want
                refine ⟨.bool true, fun W hW => ?_, ?_⟩
                · go_simp
                go_big_quiet_on
                simp only [Act.put, List.setIfInBounds_toArray, List.set_cons_zero, List.set_cons_succ]
                go_big_quiet_want
                go_big_quiet_op
                go_big_quiet_on
                go_big_quiet_skip
                go_big_quiet_skip
                go_big_quiet_want
                refine ⟨.bool true, fun W hW => ?_, ?_⟩
                · go_simp
                go_big_quiet_on
                simp only [Act.put, List.setIfInBounds_toArray, List.set_cons_zero, List.set_cons_succ]
                go_big_quiet_want
                go_big_quiet_op
                go_big_quiet_on
                go_big_quiet_skip
                go_big_quiet_skip
                go_big_quiet_skip
                go_big_quiet_skip
                go_big_quiet_skip
                go_big_quiet_skip
                go_big_quiet_skip
                go_big_quiet_want
                refine ⟨.bool true, fun W hW => ?_, ?_⟩
                · go_simp
                go_big_quiet_on
                simp only [Act.put, List.setIfInBounds_toArray, List.set_cons_zero, List.set_cons_succ]
                go_big_quiet_want
                go_big_quiet_op
                go_big_quiet_on
                go_big_quiet_skip
                go_big_quiet_skip
                go_big_quiet_skip
                go_big_quiet_skip
                go_big_quiet_skip
                go_big_quiet_skip
                go_big_quiet_skip
                go_big_quiet_want
                refine ⟨.bool true, fun W hW => ?_, ?_⟩
                · go_simp
                go_big_quiet_on
                simp only [Act.put, List.setIfInBounds_toArray, List.set_cons_zero, List.set_cons_succ]
                refine wpQuiet_nil ?_
                intro W5 hW5
                go_wp2_with fail
                go_ret2
                exact HE _ hW5
              have hn0' : ¬ n < 0 := hn0
              by_cases hnb : 16384 < n
              · have HE := HUND.out (HUX.out (fun h => by have := HTP.out; omega))
                go_wp2_with fail
                refine quiet_lit3 (C := fun U => Below wr.heap.size wr U) (by kernel_rfl) (by kernel_rfl) (show Below _ _ _ from (Below.refl _ _).drew) ?_
                go_big_quiet_want
                go_big_quiet_op
                go_big_quiet_on
                go_big_quiet_want
                refine ⟨.bool false, fun W hW => ?_, ?_⟩
                · go_simp
                go_big_quiet_on
                simp only [Act.put, List.setIfInBounds_toArray, List.set_cons_zero, List.set_cons_succ]
                go_big_quiet_want
                go_big_quiet_op
                go_big_quiet_on
                go_big_quiet_want
                go_big_quiet_op
                go_big_quiet_on
                go_big_quiet_want
                refine ⟨.bool true, fun W hW => ?_, ?_⟩
                · go_simp
                go_big_quiet_on
                simp only [Act.put, List.setIfInBounds_toArray, List.set_cons_zero, List.set_cons_succ]
                go_big_quiet_want
                refine ⟨.bool true, fun W hW => ?_, ?_⟩
                · go_simp
                go_big_quiet_on
                simp only [Act.put, List.setIfInBounds_toArray, List.set_cons_zero, List.set_cons_succ]
                go_big_quiet_want
                go_big_quiet_op
                go_big_quiet_on
                go_big_quiet_skip
                go_big_quiet_skip
                go_big_quiet_skip
                go_big_quiet_skip
                go_big_quiet_skip
                go_big_quiet_skip
                go_big_quiet_skip
                go_big_quiet_want
                refine ⟨.bool true, fun W hW => ?_, ?_⟩
                · go_simp
                go_big_quiet_on
                simp only [Act.put, List.setIfInBounds_toArray, List.set_cons_zero, List.set_cons_succ]
                go_big_quiet_want
                go_big_quiet_op
                go_big_quiet_on
                go_big_quiet_skip
                go_big_quiet_skip
                go_big_quiet_skip
                go_big_quiet_skip
                go_big_quiet_skip
                go_big_quiet_skip
                go_big_quiet_skip
                go_big_quiet_want
                refine ⟨.bool true, fun W hW => ?_, ?_⟩
                · go_simp
                go_big_quiet_on
                simp only [Act.put, List.setIfInBounds_toArray, List.set_cons_zero, List.set_cons_succ]
                refine wpQuiet_nil ?_
                intro W5 hW5
                go_wp2_with fail
                go_ret2
                exact HE _ hW5
              have HI : Hid (∀ U, Below wr.heap.size wr U → Calls Tryd.prog 24 #[.int .i64 n] U fun e w' => e = .returned (.string ⟨(itL n).toArray⟩) ∧ Below U.heap.size U w') := fun U hU => itoaU n (by omega) (by omega) U (HT.out U (bel0Z HS.out.2.1 hU))
              obtain ⟨T, hT⟩ : ∃ T, itL n = T := ⟨_, rfl⟩
              rw [hT] at HI
              by_cases h2 : T = d
              · subst h2
                have hit : Lib.itoa n = T := hT
                obtain ⟨u, rfl⟩ : ∃ u : Nat, n = u := ⟨n.toNat, by omega⟩
                have a1 : IntKind.i64.wrap ((i : Int) + 1) = (i : Int) + 1 := by rw [IntKind.wrap_i64]; omega
                have a2 : IntKind.i64.wrap ((i : Int) + 1 + (u : Int)) = (i : Int) + 1 + (u : Int) := by rw [IntKind.wrap_i64]; omega
                by_cases h4 : l.length < i + 1 + u
                · have h4' : (l.length : Int) < (i : Int) + 1 + (u : Int) := by omega
                  have HE := HUND.out (HUX.out (fun h => by have := HTP.out; have := h.2.2; have := HP.out; rw [Int.toNat_natCast] at *; omega))
                  clear hT hit
                  go_wp2_with fail
                  refine quiet_lit3 (C := fun U => Below wr.heap.size wr U) (by kernel_rfl) (by kernel_rfl) (show Below _ _ _ from (Below.refl _ _).drew) ?_
                  go_big_quiet_want
                  go_big_quiet_op
                  go_big_quiet_on
                  go_big_quiet_want
                  refine ⟨.bool false, fun W hW => ?_, ?_⟩
                  · go_simp
                  go_big_quiet_on
                  simp only [Act.put, List.setIfInBounds_toArray, List.set_cons_zero, List.set_cons_succ]
                  go_big_quiet_want
                  go_big_quiet_op
                  go_big_quiet_on
                  go_big_quiet_want
                  go_big_quiet_op
                  go_big_quiet_on
                  go_big_quiet_want
                  refine ⟨.bool false, fun W hW => ?_, ?_⟩
                  · go_simp
                  go_big_quiet_on
                  simp only [Act.put, List.setIfInBounds_toArray, List.set_cons_zero, List.set_cons_succ]
                  go_big_quiet_want
                  refine ⟨.bool false, fun W hW => ?_, ?_⟩
                  · go_simp
                  go_big_quiet_on
                  simp only [Act.put, List.setIfInBounds_toArray, List.set_cons_zero, List.set_cons_succ]
                  go_big_quiet_want
                  go_big_quiet_op
                  go_big_quiet_on
                  go_big_quiet_want
                  go_big_quiet_op
                  go_big_quiet_on
                  go_big_quiet_want
                  refine ⟨.string ⟨T.toArray⟩, fun W hW => ?_, ?_⟩
                  · go_simp
                    refine (HI.out W hW).mono ?_
                    rintro e w7 ⟨rfl, hb⟩
                    exact ⟨rfl, bel0Z hW hb⟩
                  go_big_quiet_on
                  simp only [Act.put, List.setIfInBounds_toArray, List.set_cons_zero, List.set_cons_succ]
                  go_big_quiet_want
                  go_big_quiet_op
                  go_big_quiet_on
                  go_big_quiet_want
                  go_big_quiet_op
                  go_big_quiet_on
                  go_big_quiet_want
                  go_big_quiet_op
                  go_big_quiet_on
                  go_big_quiet_want
                  refine ⟨.string ⟨T.toArray⟩, fun W hW => ?_, ?_⟩
                  · go_simp
                    rw [ES.out]
                  go_big_quiet_on
                  simp only [Act.put, List.setIfInBounds_toArray, List.set_cons_zero, List.set_cons_succ]
                  go_big_quiet_want
                  refine ⟨.bool false, fun W hW => ?_, ?_⟩
                  · go_simp
                  go_big_quiet_on
                  simp only [Act.put, List.setIfInBounds_toArray, List.set_cons_zero, List.set_cons_succ]
                  go_big_quiet_want
                  refine ⟨.bool false, fun W hW => ?_, ?_⟩
                  · go_simp
                  go_big_quiet_on
                  simp only [Act.put, List.setIfInBounds_toArray, List.set_cons_zero, List.set_cons_succ]
                  go_big_quiet_want
                  go_big_quiet_op
                  go_big_quiet_on
                  go_big_quiet_want
                  go_big_quiet_op
                  go_big_quiet_on
                  go_big_quiet_want
                  refine ⟨.int .i64 ((i : Int) + 1), fun W hW => ?_, ?_⟩
                  · go_simp
                  go_big_quiet_on
                  simp only [Act.put, List.setIfInBounds_toArray, List.set_cons_zero, List.set_cons_succ]
                  go_big_quiet_want
                  go_big_quiet_op
                  go_big_quiet_on
                  go_big_quiet_want
                  refine ⟨.int .i64 ((i : Int) + 1 + (u : Int)), fun W hW => ?_, ?_⟩
                  · go_simp
                  go_big_quiet_on
                  simp only [Act.put, List.setIfInBounds_toArray, List.set_cons_zero, List.set_cons_succ]
                  go_big_quiet_want
                  go_big_quiet_op
                  go_big_quiet_on
                  go_big_quiet_want
                  refine ⟨.int .i64 (l.length : Int), fun W hW => ?_, ?_⟩
                  · go_simp
                  go_big_quiet_on
                  simp only [Act.put, List.setIfInBounds_toArray, List.set_cons_zero, List.set_cons_succ]
                  go_big_quiet_want
                  refine ⟨.bool true, fun W hW => ?_, ?_⟩
                  · go_simp
                  go_big_quiet_on
                  simp only [Act.put, List.setIfInBounds_toArray, List.set_cons_zero, List.set_cons_succ]
                  go_big_quiet_want
                  refine ⟨.bool true, fun W hW => ?_, ?_⟩
                  · go_simp
                  go_big_quiet_on
                  simp only [Act.put, List.setIfInBounds_toArray, List.set_cons_zero, List.set_cons_succ]
                  refine wpQuiet_nil ?_
                  intro W5 hW5
                  go_wp2_with fail
                  go_ret2
                  exact HE _ hW5
                · have h4' : ¬ (l.length : Int) < (i : Int) + 1 + (u : Int) := by omega
                  have hy := HUY.out (by rw [HP.out]; have := HTP.out; omega) (by omega) hit (by rw [HP.out, Int.toNat_natCast]; have := HTP.out; omega)
                  rw [Int.toNat_natCast, HP.out] at hy
                  have EX : Hid ((ByteArray.mk l.toArray).extract (i + 1) (i + 1 + u) = ⟨((r.drop (P + 1)).take u).toArray⟩) := by
                    rw [ext_midP, ← HR.out, List.drop_drop, show i + 1 + u - (i + 1) = u by omega, show s + (P + 1) = i + 1 by have := HTP.out; omega]; exact rfl
                  have HYL : Hid (unW l = (unW (l.drop (i + 1 + u))).map ((acc ++ [(r.drop (P + 1)).take u]) ++ ·)) := by
                    have := HYS.out _ _ hy
                    rw [← HR.out, List.drop_drop, List.drop_drop] at this
                    rw [← HR.out, List.drop_drop, this, show s + (P + 1) + u = i + 1 + u by have := HTP.out; omega]
                    exact rfl
                  obtain ⟨x, hx⟩ : ∃ x, (r.drop (P + 1)).take u = x := ⟨_, rfl⟩
                  rw [hx] at EX HYL
                  clear hT hit hy hx HUX HUY HUN HUND HYS
                  go_wp2_with fail
                  refine quiet_lit3 (C := fun U => Below wr.heap.size wr U) (by kernel_rfl) (by kernel_rfl) (show Below _ _ _ from (Below.refl _ _).drew) ?_
                  go_big_quiet_want
                  go_big_quiet_op
                  go_big_quiet_on
                  go_big_quiet_want
                  refine ⟨.bool false, fun W hW => ?_, ?_⟩
                  · go_simp
                  go_big_quiet_on
                  simp only [Act.put, List.setIfInBounds_toArray, List.set_cons_zero, List.set_cons_succ]
                  go_big_quiet_want
                  go_big_quiet_op
                  go_big_quiet_on
                  go_big_quiet_want
                  go_big_quiet_op
                  go_big_quiet_on
                  go_big_quiet_want
                  refine ⟨.bool false, fun W hW => ?_, ?_⟩
                  · go_simp
                  go_big_quiet_on
                  simp only [Act.put, List.setIfInBounds_toArray, List.set_cons_zero, List.set_cons_succ]
                  go_big_quiet_want
                  refine ⟨.bool false, fun W hW => ?_, ?_⟩
                  · go_simp
                  go_big_quiet_on
                  simp only [Act.put, List.setIfInBounds_toArray, List.set_cons_zero, List.set_cons_succ]
                  go_big_quiet_want
                  go_big_quiet_op
                  go_big_quiet_on
                  go_big_quiet_want
                  go_big_quiet_op
                  go_big_quiet_on
                  go_big_quiet_want
                  refine ⟨.string ⟨T.toArray⟩, fun W hW => ?_, ?_⟩
                  · go_simp
                    refine (HI.out W hW).mono ?_
                    rintro e w7 ⟨rfl, hb⟩
                    exact ⟨rfl, bel0Z hW hb⟩
                  go_big_quiet_on
                  simp only [Act.put, List.setIfInBounds_toArray, List.set_cons_zero, List.set_cons_succ]
                  go_big_quiet_want
                  go_big_quiet_op
                  go_big_quiet_on
                  go_big_quiet_want
                  go_big_quiet_op
                  go_big_quiet_on
                  go_big_quiet_want
                  go_big_quiet_op
                  go_big_quiet_on
                  go_big_quiet_want
                  refine ⟨.string ⟨T.toArray⟩, fun W hW => ?_, ?_⟩
                  · go_simp
                    rw [ES.out]
                  go_big_quiet_on
                  simp only [Act.put, List.setIfInBounds_toArray, List.set_cons_zero, List.set_cons_succ]
                  go_big_quiet_want
                  refine ⟨.bool false, fun W hW => ?_, ?_⟩
                  · go_simp
                  go_big_quiet_on
                  simp only [Act.put, List.setIfInBounds_toArray, List.set_cons_zero, List.set_cons_succ]
                  go_big_quiet_want
                  refine ⟨.bool false, fun W hW => ?_, ?_⟩
                  · go_simp
                  go_big_quiet_on
                  simp only [Act.put, List.setIfInBounds_toArray, List.set_cons_zero, List.set_cons_succ]
                  go_big_quiet_want
                  go_big_quiet_op
                  go_big_quiet_on
                  go_big_quiet_want
                  go_big_quiet_op
                  go_big_quiet_on
                  go_big_quiet_want
                  refine ⟨.int .i64 ((i : Int) + 1), fun W hW => ?_, ?_⟩
                  · go_simp
                  go_big_quiet_on
                  simp only [Act.put, List.setIfInBounds_toArray, List.set_cons_zero, List.set_cons_succ]
                  go_big_quiet_want
                  go_big_quiet_op
                  go_big_quiet_on
                  go_big_quiet_want
                  refine ⟨.int .i64 ((i : Int) + 1 + (u : Int)), fun W hW => ?_, ?_⟩
                  · go_simp
                  go_big_quiet_on
                  simp only [Act.put, List.setIfInBounds_toArray, List.set_cons_zero, List.set_cons_succ]
                  go_big_quiet_want
                  go_big_quiet_op
                  go_big_quiet_on
                  go_big_quiet_want
                  refine ⟨.int .i64 (l.length : Int), fun W hW => ?_, ?_⟩
                  · go_simp
                  go_big_quiet_on
                  simp only [Act.put, List.setIfInBounds_toArray, List.set_cons_zero, List.set_cons_succ]
                  go_big_quiet_want
                  refine ⟨.bool false, fun W hW => ?_, ?_⟩
                  · go_simp
                  go_big_quiet_on
                  simp only [Act.put, List.setIfInBounds_toArray, List.set_cons_zero, List.set_cons_succ]
                  go_big_quiet_want
                  refine ⟨.bool false, fun W hW => ?_, ?_⟩
                  · go_simp
                  go_big_quiet_on
                  simp only [Act.put, List.setIfInBounds_toArray, List.set_cons_zero, List.set_cons_succ]
                  refine wpQuiet_nil ?_
                  intro W5 hW5
                  have HS1 : Hid (OS W5 w.heap.size (.slice q k c) acc ∧ Below w.heap.size w W5) := ⟨HS.out.1.below hW5, bel0Z HS.out.2.1 hW5⟩
                  clear hW5 HS HI
                  obtain ⟨b1, hb1⟩ : ∃ b1 : Nat, i + 1 = b1 := ⟨_, rfl⟩
                  obtain ⟨b2, hb2⟩ : ∃ b2 : Nat, i + 1 + u = b2 := ⟨_, rfl⟩
                  have g1 : (i : Int) + 1 = (b1 : Int) := by omega
                  have g2 : (b1 : Int) + (u : Int) = (b2 : Int) := by omega
                  have g3 : (0 : Int) ≤ (b1 : Int) := by omega
                  have g4 : (b1 : Int) ≤ (b2 : Int) := by omega
                  have g5 : (b2 : Int) ≤ (l.length : Int) := by omega
                  have g6 : IntKind.i64.wrap (b1 : Int) = (b1 : Int) := by rw [IntKind.wrap_i64]; omega
                  have g7 : IntKind.i64.wrap (b2 : Int) = (b2 : Int) := by rw [IntKind.wrap_i64]; omega
                  rw [hb2] at EX HYL
                  rw [hb1] at EX
                  have hb3 : s < b2 ∧ b2 ≤ l.length := by omega
                  clear hb1 hb2 a1 a2 h4 h4'
                  go_wp2_with (at_builtin; refine app_strs rfl _ _ rfl w.heap.size _ acc rfl (HS1.out.1.below (belAZ (Below.refl _ _) _)) _ _ _ [x] rfl rfl (TR_new (alloc_getZ _ _) (by rw [EX.out]; exact rfl)) (by simp; omega) (belAZ HS1.out.2 _).size ?_)
                  intro v3 w3 o3 gr3 _
                  obtain ⟨q3, c3, rfl⟩ := shapeZ o3
                  have b3 : Below w.heap.size w w3 := bel_grZ (belAZ HS1.out.2 _) gr3 (fun k e => (World.ownsRow.lt HS1.out.1 k e).1)
                  have HS3 : Hid (OS w3 w.heap.size (.slice q3 (acc ++ [x]).length c3) (acc ++ [x]) ∧ Below w.heap.size w w3 ∧ unW l = (unW (l.drop b2)).map ((acc ++ [x]) ++ ·)) := ⟨o3, b3, HYL.out⟩
                  clear o3 gr3 b3 HS1 HYL
                  go_wp2_with fail
                  exact ⟨⟨q3, _, c3, acc ++ [x], b2, rfl, rfl, by omega, by simp; omega, HS3⟩, by simp only [intOf]; omega⟩
              · have HE := HUND.out (HUX.out (fun h => h2 (hT.symm.trans h.2.1)))
                have e9 : (T == d) = false := beq_eq_false_iff_ne.2 h2
                have hn0b : ¬ 16384 < n := hnb
                clear hT
                go_wp2_with fail
                refine quiet_lit3 (C := fun U => Below wr.heap.size wr U) (by kernel_rfl) (by kernel_rfl) (show Below _ _ _ from (Below.refl _ _).drew) ?_
                go_big_quiet_want
                go_big_quiet_op
                go_big_quiet_on
                go_big_quiet_want
                refine ⟨.bool false, fun W hW => ?_, ?_⟩
                · go_simp
                go_big_quiet_on
                simp only [Act.put, List.setIfInBounds_toArray, List.set_cons_zero, List.set_cons_succ]
                go_big_quiet_want
                go_big_quiet_op
                go_big_quiet_on
                go_big_quiet_want
                go_big_quiet_op
                go_big_quiet_on
                go_big_quiet_want
                refine ⟨.bool false, fun W hW => ?_, ?_⟩
                · go_simp
                go_big_quiet_on
                simp only [Act.put, List.setIfInBounds_toArray, List.set_cons_zero, List.set_cons_succ]
                go_big_quiet_want
                refine ⟨.bool false, fun W hW => ?_, ?_⟩
                · go_simp
                go_big_quiet_on
                simp only [Act.put, List.setIfInBounds_toArray, List.set_cons_zero, List.set_cons_succ]
                go_big_quiet_want
                go_big_quiet_op
                go_big_quiet_on
                go_big_quiet_want
                go_big_quiet_op
                go_big_quiet_on
                go_big_quiet_want
                refine ⟨.string ⟨T.toArray⟩, fun W hW => ?_, ?_⟩
                · go_simp
                  refine (HI.out W hW).mono ?_
                  rintro e w7 ⟨rfl, hb⟩
                  exact ⟨rfl, bel0Z hW hb⟩
                go_big_quiet_on
                simp only [Act.put, List.setIfInBounds_toArray, List.set_cons_zero, List.set_cons_succ]
                go_big_quiet_want
                go_big_quiet_op
                go_big_quiet_on
                go_big_quiet_want
                go_big_quiet_op
                go_big_quiet_on
                go_big_quiet_want
                go_big_quiet_op
                go_big_quiet_on
                go_big_quiet_want
                refine ⟨.string ⟨d.toArray⟩, fun W hW => ?_, ?_⟩
                · go_simp
                  rw [ES.out]
                go_big_quiet_on
                simp only [Act.put, List.setIfInBounds_toArray, List.set_cons_zero, List.set_cons_succ]
                go_big_quiet_want
                refine ⟨.bool true, fun W hW => ?_, ?_⟩
                · go_simp
                go_big_quiet_on
                simp only [Act.put, List.setIfInBounds_toArray, List.set_cons_zero, List.set_cons_succ]
                go_big_quiet_want
                refine ⟨.bool true, fun W hW => ?_, ?_⟩
                · go_simp
                go_big_quiet_on
                simp only [Act.put, List.setIfInBounds_toArray, List.set_cons_zero, List.set_cons_succ]
                go_big_quiet_want
                go_big_quiet_op
                go_big_quiet_on
                go_big_quiet_skip
                go_big_quiet_skip
                go_big_quiet_skip
                go_big_quiet_skip
                go_big_quiet_skip
                go_big_quiet_skip
                go_big_quiet_skip
                go_big_quiet_want
                refine ⟨.bool true, fun W hW => ?_, ?_⟩
                · go_simp
                go_big_quiet_on
                simp only [Act.put, List.setIfInBounds_toArray, List.set_cons_zero, List.set_cons_succ]
                refine wpQuiet_nil ?_
                intro W5 hW5
                go_wp2_with fail
                go_ret2
                exact HE _ hW5
    · have i1 : ¬ (s : Int) < (l.length : Int) := by omega
      have HE : Hid (UNQ l w (.returned (.tuple #[.slice q k c, .int .i64 ((0 : Nat) : Int)])) wr) := ⟨⟨_, 0, rfl, .inr ⟨by omega, .inr ⟨acc, by rw [HS.out.2.2, List.drop_of_length_le (by omega), unW_nil]; simp, rfl, HS.out.1⟩⟩⟩, HS.out.2.1⟩
      go_wp2_with fail
      go_ret2
      exact HE.out
end Go.Proofs.YtkmnonkabekclaaDoor

import Derived.Test.YtepokgainceidaaGreatDoorXBF
namespace Go.Proofs.YtepokgainceidaaGreatDoor
open Go.RowKit Go.Shelf
set_option maxRecDepth 100000 in
set_option maxHeartbeats 8000000 in
theorem refOf_any (n : Nat) (s : List UInt8) (w : World) (h2 : n ≤ 256) : Calls Tryz.prog 45 #[.string ⟨s.toArray⟩, .string ⟨#[48, 49]⟩, .int .i64 (n : Int)] w fun e w' => e = .returned (.bool (hdB n s)) ∧ Below w.heap.size w w' := by
  by_cases hl : ¬ s.length = n
  · have i1 : ((s.length : Int) != (n : Int)) = true := by simp only [bne_iff_ne]; omega
    have hr : Hid (hdB n s = false) := by unfold Hid hdB; rw [decide_eq_false hl]; rfl
    go_enter Tryz.func45, Tryz.ntmps45
    go_wp2_with fail
    go_ret
    exact ⟨by rw [hr.out]; rfl, Below.refl _ _⟩
  replace hl := Classical.not_not.1 hl
  have i1 : ((s.length : Int) != (n : Int)) = false := by rw [hl]; simp
  obtain ⟨q, hq⟩ : ∃ q, hdB n s = q := ⟨_, rfl⟩
  rw [hq]
  have HNO : Hid (∀ (k : Nat) (c : UInt8), s[k]? = some c → dg01 c = false → q = false) := fun k c h hc => by rw [← hq]; exact hdB_no h hc
  have HYES : Hid ((∀ (k : Nat) (c : UInt8), s[k]? = some c → dg01 c = true) → q = true) := fun h => by rw [← hq]; exact hdB_yes hl h
  have HL : Hid (s.length = n) := hl
  have hs256 : s.length ≤ 256 := by omega
  clear hq hl
  go_enter Tryz.func45, Tryz.ntmps45
  go_wp2_with fail
  go_loopw [7] (fun vk wr => ∃ k : Nat, vk = .int .i64 k ∧ k ≤ s.length ∧ Hid (∀ (j : Nat) (c : UInt8), j < k → s[j]? = some c → dg01 c = true) ∧ Below w.heap.size w wr) (fun vk _ => s.length - (intOf vk).toNat)
  case atStart => exact ⟨0, rfl, Nat.zero_le _, fun j c hj => by omega, Below.refl _ _⟩
  case round =>
    obtain ⟨k, rfl, hk, hno, hB⟩ := hrel
    by_cases hlt : k < s.length
    · have j0 : (0 : Int) ≤ (k : Int) := by omega
      have j1 : (k : Int) < (s.length : Int) := by omega
      obtain ⟨c, hc, hlc⟩ := byte_get s k hlt
      have HNK : Hid (dg01 c = false → q = false) := HNO.out k c hlc
      have HNX : Hid (dg01 c = true → ∀ (j : Nat) (d : UInt8), j < k + 1 → s[j]? = some d → dg01 d = true) := fun h j d hj hd => by
        rcases Nat.lt_or_ge j k with h3 | h3
        · exact hno.out j d h3 hd
        · obtain rfl : j = k := by omega
          rw [hlc] at hd
          rw [← Option.some.inj hd]
          exact h
      clear hlc hno
      go_wp2_with fail
      go_loopw [8, 9] (fun vf vj wi => ∃ (j : Nat) (f : Bool), vj = .int .i64 j ∧ j ≤ 2 ∧ vf = .bool f ∧ Hid ((j = 0 → f = false) ∧ (j = 1 → f = (c == 48)) ∧ (j = 2 → f = dg01 c)) ∧ Below w.heap.size w wi) (fun _ vj _ => 2 - (intOf vj).toNat)
      case atStart => exact ⟨0, false, rfl, by omega, rfl, ⟨fun _ => rfl, fun h => by omega, fun h => by omega⟩, hB⟩
      case round =>
        clear hB
        obtain ⟨j, f, rfl, hj, rfl, hf, hB⟩ := hrel
        rcases (show j = 0 ∨ j = 1 ∨ j = 2 by omega) with hj0 | hj1 | hj2
        · obtain rfl : f = false := hf.out.1 hj0
          have q0 : (j : Int) < 2 := by omega
          have q1 : (0 : Int) ≤ (j : Int) := by omega
          have HJ : Hid (j = 0) := hj0
          obtain ⟨e0, he0⟩ : ∃ e, (c == 48) = e := ⟨_, rfl⟩
          have HE : Hid ((((c.toNat : Int)) == 48) = e0) := by
            unfold Hid
            rw [← he0, Bool.eq_iff_iff, beq_iff_eq, beq_iff_eq]
            exact ⟨fun h => UInt8.toNat_inj.1 (by show c.toNat = 48; omega), fun h => by rw [h]; rfl⟩
          have HF2 : Hid ((j + 1 = 0 → e0 = false) ∧ (j + 1 = 1 → e0 = (c == 48)) ∧ (j + 1 = 2 → e0 = dg01 c)) := ⟨fun h => by omega, fun _ => he0.symm, fun h => by have := HJ.out; omega⟩
          clear hf hj0 he0
          go_wp2_with fail
          refine quiet_lit3 (C := fun W => Below w.heap.size w W) (by kernel_rfl) (by kernel_rfl) (show Below _ _ _ from hB.drew) ?_
          go_big_quiet_want
          go_big_quiet_op
          go_big_quiet_on
          go_big_quiet_want
          go_big_quiet_op
          go_big_quiet_on
          go_big_quiet_want
          go_big_quiet_op
          go_big_quiet_on
          go_big_quiet_want
          go_big_quiet_op
          go_big_quiet_on
          go_big_quiet_want
          refine ⟨.int .u8 (c.toNat : Int), fun W hW => ?_, ?_⟩
          · go_simp
          go_big_quiet_on
          simp only [Act.put, List.setIfInBounds_toArray, List.set_cons_zero, List.set_cons_succ]
          go_big_quiet_want
          go_big_quiet_op
          go_big_quiet_on
          go_big_quiet_want
          go_big_quiet_op
          go_big_quiet_on
          go_big_quiet_want
          refine ⟨.int .u8 48, fun W hW => ?_, ?_⟩
          · have hj0 := HJ.out
            subst hj0
            go_simp
            rfl
          go_big_quiet_on
          simp only [Act.put, List.setIfInBounds_toArray, List.set_cons_zero, List.set_cons_succ]
          go_big_quiet_want
          refine ⟨.bool e0, fun W hW => ?_, ?_⟩
          · go_simp
            exact HE.out
          go_big_quiet_on
          simp only [Act.put, List.setIfInBounds_toArray, List.set_cons_zero, List.set_cons_succ]
          go_big_quiet_want
          refine ⟨.bool e0, fun W hW => ?_, ?_⟩
          · go_simp
          go_big_quiet_on
          simp only [Act.put, List.setIfInBounds_toArray, List.set_cons_zero, List.set_cons_succ]
          go_big_quiet_want
          go_big_quiet_op
          go_big_quiet_on
          refine wpQuiet_nil ?_
          intro W hW
          go_wp2_with fail
          go_roundw
          case rel => exact ⟨j + 1, e0, by go_num, by have := HJ.out; omega, rfl, HF2, hW⟩
          case measure => simp [intOf]; omega
        · have hf1 : f = (c == 48) := hf.out.2.1 hj1
          have q0 : (j : Int) < 2 := by omega
          have q1 : (0 : Int) ≤ (j : Int) := by omega
          have HJ : Hid (j = 1) := hj1
          cases f with
          | true =>
            have HF2 : Hid ((j + 1 = 0 → true = false) ∧ (j + 1 = 1 → true = (c == 48)) ∧ (j + 1 = 2 → true = dg01 c)) := ⟨fun h => by omega, fun h => by have := HJ.out; omega, fun _ => by unfold dg01; rw [← hf1]; rfl⟩
            clear hf hj1 hf1
            go_wp2_with fail
            refine quiet_lit3 (C := fun W => Below w.heap.size w W) (by kernel_rfl) (by kernel_rfl) (show Below _ _ _ from hB.drew) ?_
            go_big_quiet_want
            go_big_quiet_op
            go_big_quiet_on
            go_big_quiet_want
            go_big_quiet_op
            go_big_quiet_on
            go_big_quiet_skip
            go_big_quiet_skip
            go_big_quiet_skip
            go_big_quiet_skip
            go_big_quiet_skip
            go_big_quiet_skip
            go_big_quiet_skip
            go_big_quiet_want
            refine ⟨.bool true, fun W hW => ?_, ?_⟩
            · go_simp
            go_big_quiet_on
            simp only [Act.put, List.setIfInBounds_toArray, List.set_cons_zero, List.set_cons_succ]
            go_big_quiet_want
            go_big_quiet_op
            go_big_quiet_on
            refine wpQuiet_nil ?_
            intro W hW
            go_wp2_with fail
            go_roundw
            case rel => exact ⟨j + 1, true, by go_num, by have := HJ.out; omega, rfl, HF2, hW⟩
            case measure => simp [intOf]; omega
          | false =>
            obtain ⟨e0, he0⟩ : ∃ e, (c == 49) = e := ⟨_, rfl⟩
            have HE : Hid ((((c.toNat : Int)) == 49) = e0) := by
              unfold Hid
              rw [← he0, Bool.eq_iff_iff, beq_iff_eq, beq_iff_eq]
              exact ⟨fun h => UInt8.toNat_inj.1 (by show c.toNat = 49; omega), fun h => by rw [h]; rfl⟩
            have HF2 : Hid ((j + 1 = 0 → e0 = false) ∧ (j + 1 = 1 → e0 = (c == 48)) ∧ (j + 1 = 2 → e0 = dg01 c)) := ⟨fun h => by omega, fun h => by have := HJ.out; omega, fun _ => by unfold dg01; rw [← hf1, he0]; rfl⟩
            clear hf hj1 hf1 he0
            go_wp2_with fail
            refine quiet_lit3 (C := fun W => Below w.heap.size w W) (by kernel_rfl) (by kernel_rfl) (show Below _ _ _ from hB.drew) ?_
            go_big_quiet_want
            go_big_quiet_op
            go_big_quiet_on
            go_big_quiet_want
            go_big_quiet_op
            go_big_quiet_on
            go_big_quiet_want
            go_big_quiet_op
            go_big_quiet_on
            go_big_quiet_want
            go_big_quiet_op
            go_big_quiet_on
            go_big_quiet_want
            refine ⟨.int .u8 (c.toNat : Int), fun W hW => ?_, ?_⟩
            · go_simp
            go_big_quiet_on
            simp only [Act.put, List.setIfInBounds_toArray, List.set_cons_zero, List.set_cons_succ]
            go_big_quiet_want
            go_big_quiet_op
            go_big_quiet_on
            go_big_quiet_want
            go_big_quiet_op
            go_big_quiet_on
            go_big_quiet_want
            refine ⟨.int .u8 49, fun W hW => ?_, ?_⟩
            · have hj0 := HJ.out
              subst hj0
              go_simp
              rfl
            go_big_quiet_on
            simp only [Act.put, List.setIfInBounds_toArray, List.set_cons_zero, List.set_cons_succ]
            go_big_quiet_want
            refine ⟨.bool e0, fun W hW => ?_, ?_⟩
            · go_simp
              exact HE.out
            go_big_quiet_on
            simp only [Act.put, List.setIfInBounds_toArray, List.set_cons_zero, List.set_cons_succ]
            go_big_quiet_want
            refine ⟨.bool e0, fun W hW => ?_, ?_⟩
            · go_simp
            go_big_quiet_on
            simp only [Act.put, List.setIfInBounds_toArray, List.set_cons_zero, List.set_cons_succ]
            go_big_quiet_want
            go_big_quiet_op
            go_big_quiet_on
            refine wpQuiet_nil ?_
            intro W hW
            go_wp2_with fail
            go_roundw
            case rel => exact ⟨j + 1, e0, by go_num, by have := HJ.out; omega, rfl, HF2, hW⟩
            case measure => simp [intOf]; omega
        · have hf2 : f = dg01 c := hf.out.2.2 hj2
          have q0 : ¬ (j : Int) < 2 := by omega
          clear hf hj2
          cases f with
          | true =>
            have HN2 : Hid (∀ (j : Nat) (d : UInt8), j < k + 1 → s[j]? = some d → dg01 d = true) := HNX.out hf2.symm
            clear HNX HNK hf2
            go_wp2_with fail
            go_roundw
            case rel => exact ⟨k + 1, by go_num, by omega, HN2, hB⟩
            case measure => simp [intOf]; omega
          | false =>
            obtain rfl : q = false := HNK.out hf2.symm
            clear HNX HNK hf2
            go_wp2_with fail
            go_ret
            exact ⟨rfl, hB⟩
    · have j1 : ¬ (k : Int) < (s.length : Int) := by omega
      obtain rfl : q = true := HYES.out (fun j d hd => hno.out j d (by have := (List.getElem?_eq_some_iff.1 hd).1; omega) hd)
      go_wp2_with fail
      go_ret
      exact ⟨rfl, hB⟩
def plN (L : List IFld) (i : Nat) : Nat := (sumB (L.take i)).toNat
def uvL (L : List IFld) (s : List UInt8) : List Int := (List.range L.length).map fun i => (valF 0 (subL s (plN L i) (plN L i + (L.getD i ([], 0)).2.toNat)) : Int)
def unM (L : List IFld) (s : List UInt8) : List Int × Int := if (chkM L).1 ≠ 0 then ([], (chkM L).1) else if hdB (sumB L).toNat s = false then ([], 46) else (uvL L s, 0)
theorem uvL_len (L : List IFld) (s : List UInt8) : (uvL L s).length = L.length := by simp [uvL]
theorem uvL_at {L : List IFld} {s : List UInt8} {k p b : Nat} {x : List UInt8} (hf : L[k]? = some (x, (b : Int))) (hp : sumB (L.take k) = (p : Int)) : (uvL L s)[k]? = some (valF 0 (subL s p (p + b)) : Int) := by
  have hk := (List.getElem?_eq_some_iff.1 hf).1
  unfold uvL plN
  rw [List.getElem?_map, List.getElem?_range hk, Option.map_some, hp, Int.toNat_natCast]
  simp [List.getD, hf]
def unR (w : World) (R : List Int × Int) (e : Ending) (w' : World) : Prop := ∃ v, e = .returned (.tuple #[v, .int .i64 R.2]) ∧ w'.ownsRow w.heap.size 3 1 v R.1.length (ivs R.1) ∧ Below w.heap.size w w'
theorem ivs_set (V : List Int) (k m : Nat) {v : Int} (hv : V[k]? = some v) : (ivs (V.take k ++ List.replicate (m + 1) 0)).set k (.int .i64 v) = ivs (V.take (k + 1) ++ List.replicate m 0) := by
  have hk := (List.getElem?_eq_some_iff.1 hv).1
  have hl : (V.take k).length = k := by rw [List.length_take]; omega
  unfold ivs
  rw [← List.map_set, List.set_append_right _ _ (by omega), hl, Nat.sub_self, List.replicate_succ, List.set_cons_zero, List.take_add_one, hv, List.append_assoc]
  rfl
theorem sub_all {s : List UInt8} {a b : Nat} (h : s.all dg01 = true) : (subL s a b).all dg01 = true := by
  rw [List.all_eq_true] at h ⊢
  intro c hc
  unfold subL at hc
  exact h c (List.mem_of_mem_drop (List.mem_of_mem_take hc))
set_option maxRecDepth 100000 in
set_option maxHeartbeats 8000000 in
theorem unpack_any (L : List IFld) (o : Option Addr) (c : Nat) (s : List UInt8) (w : World) (hL : L.length ≤ 281474976710656) (hc : L.length ≤ c) (hx : ∀ f ∈ L, f.1.length ≤ 281474976710656) (hr : IRF w o L) (hv1 : SH w) (hv4 : SG w) (hv5 : VW w) :
    Calls Tryz.prog 61 #[.slice o L.length c, .string ⟨s.toArray⟩] w fun e w' => unR w (unM L s) e w' := by
  have HC := check_any L o c w hL hc hx hr hv1 hv4 hv5
  obtain ⟨R, hR⟩ : ∃ R, unM L s = R := ⟨_, rfl⟩
  rw [hR]
  by_cases h0 : ¬ (chkM L).1 = 0
  · have hres : Hid (R = ([], (chkM L).1)) := by unfold Hid; rw [← hR]; unfold unM; rw [if_pos h0]
    obtain ⟨ce, hce⟩ : ∃ x, (chkM L).1 = x := ⟨_, rfl⟩
    rw [hce] at HC h0 hres
    have y1 : (ce != 0) = true := by simpa using h0
    clear hx hr hv1 hv4 hv5 hR hce
    go_enter Tryz.func61, Tryz.ntmps61
    go_wp2_with fail
    refine HC.mono ?_
    rintro e W1 ⟨rfl, hb1⟩
    go_wp2_with fail
    refine bodyPost_ret (results_tmp2 rfl _ _ _) rfl ?_
    refine ⟨.slice none 0 0, ?_, ?_, hb1⟩
    · rw [hres.out]
      rfl
    · rw [hres.out]
      exact World.ownsRow_nil _ _ _ _
  replace h0 := Classical.not_not.1 h0
  rw [h0] at HC
  obtain ⟨k1, k2, k3, k4⟩ := chk_ok h0
  have hb0 : ∀ f ∈ L, 0 ≤ f.2 ∧ f.2 ≤ 32 := fun f hf => by have := k3 f hf; omega
  obtain ⟨n, hn⟩ : ∃ n : Nat, sumB L = (n : Int) := ⟨(sumB L).toNat, by have := (sumB_bound L hb0).1; omega⟩
  have hn256 : n ≤ 256 := by omega
  have hn1 : 1 ≤ n := by
    obtain ⟨f0, hf0⟩ : ∃ f, L[0]? = some f := ⟨_, List.getElem?_eq_getElem k1⟩
    have h1 := sumB_take hf0
    have h2 := sumB_take_le hb0 (0 + 1)
    have h3 := k3 f0 (List.mem_of_getElem? hf0)
    have h4 : sumB (L.take 0) = 0 := rfl
    omega
  have HRR : Hid (unM L s = R) := hR
  have hun : unM L s = if hdB n s = false then ([], 46) else (uvL L s, 0) := by unfold unM; rw [if_neg (fun h => h h0), hn, Int.toNat_natCast]
  obtain ⟨f0, hf0⟩ : ∃ f, L[0]? = some f := ⟨_, List.getElem?_eq_getElem k1⟩
  obtain ⟨g, o0, rfl, -⟩ := hr w (Below.refl _ _) 0 f0 hf0
  have HR : Hid (IRF w (some ⟨g, o0, none⟩) L) := hr
  have HK3 : Hid (∀ f ∈ L, 1 ≤ f.2 ∧ f.2 ≤ 32) := k3
  have HB0 : Hid (∀ f ∈ L, 0 ≤ f.2 ∧ f.2 ≤ 32) := hb0
  have HN : Hid (sumB L = (n : Int)) := hn
  obtain ⟨i0, hi, hz0, hz1, hz2⟩ := info_parts info_int
  have HWD : Hid (∀ W : World, Below w.heap.size w W → Calls Tryz.prog 52 #[.slice (some ⟨g, o0, none⟩) L.length c] W fun e w' => e = .returned (.int .i64 (n : Int)) ∧ Below W.heap.size W w') := fun W hW => by
    have := widthOf_any L (some ⟨g, o0, none⟩) c W (by omega) hb0 (hr.later hW)
    rw [hn] at this
    exact this
  have HAL : Hid (∀ W : World, Calls Tryz.prog 97 #[.int .i64 (n : Int)] W fun e w' => e = .returned (.agg #[.int .i64 (n : Int), .int .u64 0, .int .u64 0, .int .u64 0, .int .u64 0, .int .u64 0, .int .u64 0, .int .u64 0, .int .u64 0]) ∧ Below W.heap.size W w') := fun W => all_yes n W (by omega) (by omega)
  have HHS : Hid (∀ W : World, Calls Tryz.prog 98 #[.agg #[.int .i64 (n : Int), .int .u64 0, .int .u64 0, .int .u64 0, .int .u64 0, .int .u64 0, .int .u64 0, .int .u64 0, .int .u64 0], .string ⟨s.toArray⟩] W fun e w' => e = .returned (.bool (hdB n s)) ∧ Below W.heap.size W w') := fun W => has_x n s W hn1 hn256
  cases hh : hdB n s with
  | false =>
    have hres : Hid (R = ([], 46)) := by unfold Hid; rw [← hR, hun, hh, if_pos rfl]
    simp only [hh] at HHS
    clear hx hr hv1 hv4 hv5 hR h0 k3 k4 hb0 hn hf0 hun hh
    go_enter Tryz.func61, Tryz.ntmps61
    go_wp2_with fail
    refine HC.mono ?_
    rintro e W1 ⟨rfl, hb1⟩
    go_wp2_with fail
    refine (HWD.out _ hb1).mono ?_
    rintro e W2 ⟨rfl, hb2⟩
    go_wp2_with fail
    refine (HAL.out _).mono ?_
    rintro e W3 ⟨rfl, hb3⟩
    go_wp2_with fail
    refine (HHS.out _).mono ?_
    rintro e W4 ⟨rfl, hb4⟩
    go_wp2_with fail
    refine bodyPost_ret (results_tmp2 rfl _ _ _) rfl ?_
    refine ⟨.slice none 0 0, ?_, ?_, bel0 (bel0 (bel0 hb1 hb2) hb3) hb4⟩
    · rw [hres.out]
      rfl
    · rw [hres.out]
      exact World.ownsRow_nil _ _ _ _
  | true =>
    have hres : Hid (R = (uvL L s, 0)) := by unfold Hid; rw [← hR, hun, hh, if_neg (by decide)]
    have hh2 := hh
    unfold hdB at hh2
    rw [Bool.and_eq_true, decide_eq_true_eq] at hh2
    have HSL : Hid (s.length = n) := hh2.1
    have HSA : Hid (s.all dg01 = true) := hh2.2
    simp only [hh] at HHS
    clear hx hr hv1 hv4 hv5 hR h0 k3 k4 hb0 hn hf0 hun hh hh2
    go_enter Tryz.func61, Tryz.ntmps61
    go_wp2_with fail
    refine HC.mono ?_
    rintro e W1 ⟨rfl, hb1⟩
    go_wp2_with fail
    refine (HWD.out _ hb1).mono ?_
    rintro e W2 ⟨rfl, hb2⟩
    go_wp2_with fail
    refine (HAL.out _).mono ?_
    rintro e W3 ⟨rfl, hb3⟩
    go_wp2_with fail
    refine (HHS.out _).mono ?_
    rintro e W4 ⟨rfl, hb4⟩
    have hB4 := bel0 (bel0 (bel0 hb1 hb2) hb3) hb4
    have hsz4 := hB4.size
    clear HC HWD HAL HHS hb1 hb2 hb3 hb4
    go_wp2_with (at_make; refine wpList_make_full _ rfl _ _ 42 rfl w.heap.size 3 i0 (.int .i64 0) 1 Tryz.underlying42 hi hz0 hz1 .i64 .i64 _ _ L.length rfl rfl rfl rfl (by rw [hz2]; omega) (by unfold maxLen; omega) hsz4 ?_; intro w5 hO5 hg5)
    have hz5 : (madeCells (Value.int .i64 0).cells (L.length * 1)).toList = ivs (List.replicate L.length 0) := by
      rw [Nat.mul_one]
      have := toList_madeCells_one (.int .i64 0) L.length
      unfold ivs
      rw [List.map_replicate]
      exact this
    rw [hz5] at hO5
    have O5 : Hid (w5.ownsRow w.heap.size 3 1 (.slice (some ⟨W4.heap.size, 0, none⟩) L.length L.length) L.length (ivs (List.replicate L.length 0))) := hO5
    have B5 : Hid (Below w.heap.size w w5) := hB4.grown hg5 hsz4 (fun k e => by cases e)
    clear hO5 hg5 hz5 hB4
    obtain ⟨G, hG⟩ : ∃ G, W4.heap.size = G := ⟨_, rfl⟩
    rw [hG] at O5 hsz4
    try rw [hG]
    go_loopw [29] (fun vk wr => ∃ k : Nat, k ≤ L.length ∧ vk = .int .i64 k ∧ wr.ownsRow w.heap.size 3 1 (.slice (some ⟨G, 0, none⟩) L.length L.length) L.length (ivs ((uvL L s).take k ++ List.replicate (L.length - k) 0)) ∧ Below w.heap.size w wr) (fun vk _ => L.length - (intOf vk).toNat)
    case atStart => exact ⟨0, Nat.zero_le _, rfl, O5.out, B5.out⟩
    case round =>
      clear O5 B5
      obtain ⟨k, hk, rfl, hown, hB⟩ := hrel
      by_cases hlt : k < L.length
      · have j1 : (k : Int) < (L.length : Int) := by omega
        have j0 : (0 : Int) ≤ (k : Int) := by omega
        obtain ⟨f, hf⟩ : ∃ f, L[k]? = some f := ⟨_, List.getElem?_eq_getElem hlt⟩
        have hbits := HK3.out f (List.mem_of_getElem? hf)
        have hst := sumB_take hf
        have hpb := (sumB_bound (L.take k) (fun f hf => HB0.out f (List.mem_of_mem_take hf))).1
        obtain ⟨p, hp⟩ : ∃ p : Nat, sumB (L.take k) = (p : Int) := ⟨(sumB (L.take k)).toNat, by omega⟩
        have hle := sumB_take_le HB0.out (k + 1)
        rw [hst, HN.out, hp] at hle
        obtain ⟨x, bi⟩ := f
        obtain ⟨b, rfl⟩ : ∃ b : Nat, bi = (b : Int) := ⟨bi.toNat, by simp only at hbits; omega⟩
        simp only at hbits hle
        have hU := uvL_at (s := s) hf hp
        have HPT : Hid (∀ W : World, Below w.heap.size w W → Calls Tryz.prog 53 #[.string ⟨s.toArray⟩, .slice (some ⟨g, o0, none⟩) L.length c, .int .i64 (k : Int)] W fun e w' => e = .returned (.string ⟨(subL s p (p + b)).toArray⟩) ∧ Below W.heap.size W w') := fun W hW => part_any s L g o0 c k x b p W hf hp (by rw [HSL.out]; omega) (by rw [HSL.out]; omega) hc (by omega) HB0.out (HR.out.later hW)
        have hYl : (subL s p (p + b)).length ≤ 32 := by unfold subL; rw [List.length_take]; omega
        have HVO : Hid (∀ W : World, Calls Tryz.prog 86 #[.string ⟨(subL s p (p + b)).toArray⟩] W fun e w' => e = .returned (.int .i64 (valF 0 (subL s p (p + b)) : Int)) ∧ Below W.heap.size W w') := fun W => fvalue_any _ W hYl (sub_all HSA.out)
        have e1 : L.length - k = (L.length - (k + 1)) + 1 := by omega
        have hset := ivs_set (uvL L s) k (L.length - (k + 1)) hU
        rw [← e1] at hset
        obtain ⟨Y, hY⟩ : ∃ Y, subL s p (p + b) = Y := ⟨_, rfl⟩
        obtain ⟨vv, hvv⟩ : ∃ v : Nat, valF 0 Y = v := ⟨_, rfl⟩
        simp only [hY] at HPT
        simp only [hY, hvv] at HVO
        rw [hY, hvv] at hset
        have HSET : Hid ((ivs ((uvL L s).take k ++ List.replicate (L.length - k) 0)).set k (.int .i64 (vv : Int)) = ivs ((uvL L s).take (k + 1) ++ List.replicate (L.length - (k + 1)) 0)) := hset
        have HLL : Hid ((ivs ((uvL L s).take k ++ List.replicate (L.length - k) 0)).length = L.length) := by
          unfold Hid ivs
          rw [List.length_map, List.length_append, List.length_take, List.length_replicate, uvL_len]
          omega
        have HO : Hid (wr.ownsRow w.heap.size 3 1 (.slice (some ⟨G, 0, none⟩) L.length L.length) L.length (ivs ((uvL L s).take k ++ List.replicate (L.length - k) 0))) := hown
        clear hf hst hpb hp hU hset hY hvv hown e1 hYl
        go_wp2_with fail
        refine (HPT.out _ hB).mono ?_
        rintro e W6 ⟨rfl, hb6⟩
        go_wp2_with fail
        refine (HVO.out _).mono ?_
        rintro e W7 ⟨rfl, hb7⟩
        have hb67 := bel0 hb6 hb7
        have hB7 := bel0 hB hb67
        have o7 := owns_below HO.out hb67
        have fr : ∀ j, W7.frozen? ⟨G, j, none⟩ = false := o7.frozenAt
        obtain ⟨z, hz⟩ : ∃ z, W7.cell? ⟨G, k, none⟩ = some z := ⟨_, (o7.cellAt k (by omega)).trans (List.getElem?_eq_getElem (by rw [HLL.out]; exact hlt))⟩
        have st := o7.stored k (.int .i64 (vv : Int))
        rw [HSET.out] at st
        have Q1 : Hid ((W7.setCell ⟨G, k, none⟩ (.int .i64 (vv : Int))).ownsRow w.heap.size 3 1 (.slice (some ⟨G, 0, none⟩) L.length L.length) L.length (ivs ((uvL L s).take (k + 1) ++ List.replicate (L.length - (k + 1)) 0))) := st.1
        have Q2 : Hid (Below w.heap.size w (W7.setCell ⟨G, k, none⟩ (.int .i64 (vv : Int)))) := hB7.setCell (p := ⟨G, k, none⟩) hsz4 _
        clear o7 st HPT HVO HO HSET HLL hb6 hb7 hb67 hB7 hB
        go_wp2_with fail
        go_roundw
        case rel => exact ⟨k + 1, by omega, by go_num, Q1.out, Q2.out⟩
        case measure => simp [intOf]; omega
      · have j1 : ¬ (k : Int) < (L.length : Int) := by omega
        obtain rfl : k = L.length := by omega
        rw [Nat.sub_self, List.replicate_zero, List.append_nil, List.take_of_length_le (by rw [uvL_len]; exact Nat.le_refl _)] at hown
        have HO : Hid (wr.ownsRow w.heap.size 3 1 (.slice (some ⟨G, 0, none⟩) L.length L.length) L.length (ivs (uvL L s))) := hown
        clear hown
        go_wp2_with fail
        refine bodyPost_ret (results_tmp2 rfl _ _ _) rfl ?_
        refine ⟨.slice (some ⟨G, 0, none⟩) L.length L.length, ?_, ?_, hB⟩
        · rw [hres.out]
          rfl
        · rw [hres.out]
          show wr.ownsRow _ _ _ _ (uvL L s).length _
          rw [uvL_len]
          exact HO.out
set_option maxRecDepth 100000 in
set_option maxHeartbeats 8000000 in
theorem refUnpack_any (L : List IFld) (o : Option Addr) (c : Nat) (s : List UInt8) (w : World) (hL : L.length ≤ 281474976710656) (hx : ∀ f ∈ L, f.1.length ≤ 281474976710656) (hr : IRF w o L) :
    Calls Tryz.prog 62 #[.slice o L.length c, .string ⟨s.toArray⟩] w fun e w' => unR w (unM L s) e w' := by
  have HC := refCheck_any L o c w hL hx hr
  obtain ⟨R, hR⟩ : ∃ R, unM L s = R := ⟨_, rfl⟩
  rw [hR]
  by_cases h0 : ¬ (chkM L).1 = 0
  · have hres : Hid (R = ([], (chkM L).1)) := by unfold Hid; rw [← hR]; unfold unM; rw [if_pos h0]
    obtain ⟨ce, hce⟩ : ∃ x, (chkM L).1 = x := ⟨_, rfl⟩
    rw [hce] at HC h0 hres
    have y1 : (ce != 0) = true := by simpa using h0
    clear hx hr hR hce
    go_enter Tryz.func62, Tryz.ntmps62
    go_wp2_with fail
    refine HC.mono ?_
    rintro e W1 ⟨rfl, hb1⟩
    go_wp2_with fail
    refine bodyPost_ret (results_tmp2 rfl _ _ _) rfl ?_
    refine ⟨.slice none 0 0, ?_, ?_, hb1⟩
    · rw [hres.out]
      rfl
    · rw [hres.out]
      exact World.ownsRow_nil _ _ _ _
  replace h0 := Classical.not_not.1 h0
  rw [h0] at HC
  obtain ⟨k1, k2, k3, k4⟩ := chk_ok h0
  have hb0 : ∀ f ∈ L, 0 ≤ f.2 ∧ f.2 ≤ 32 := fun f hf => by have := k3 f hf; omega
  obtain ⟨n, hn⟩ : ∃ n : Nat, sumB L = (n : Int) := ⟨(sumB L).toNat, by have := (sumB_bound L hb0).1; omega⟩
  have hn256 : n ≤ 256 := by omega
  have hn1 : 1 ≤ n := by
    obtain ⟨f0, hf0⟩ : ∃ f, L[0]? = some f := ⟨_, List.getElem?_eq_getElem k1⟩
    have h1 := sumB_take hf0
    have h2 := sumB_take_le hb0 (0 + 1)
    have h3 := k3 f0 (List.mem_of_getElem? hf0)
    have h4 : sumB (L.take 0) = 0 := rfl
    omega
  have HRR : Hid (unM L s = R) := hR
  have hun : unM L s = if hdB n s = false then ([], 46) else (uvL L s, 0) := by unfold unM; rw [if_neg (fun h => h h0), hn, Int.toNat_natCast]
  obtain ⟨f0, hf0⟩ : ∃ f, L[0]? = some f := ⟨_, List.getElem?_eq_getElem k1⟩
  obtain ⟨g, o0, rfl, -⟩ := hr w (Below.refl _ _) 0 f0 hf0
  have HR : Hid (IRF w (some ⟨g, o0, none⟩) L) := hr
  have HK3 : Hid (∀ f ∈ L, 1 ≤ f.2 ∧ f.2 ≤ 32) := k3
  have HB0 : Hid (∀ f ∈ L, 0 ≤ f.2 ∧ f.2 ≤ 32) := hb0
  have HN : Hid (sumB L = (n : Int)) := hn
  obtain ⟨i0, hi, hz0, hz1, hz2⟩ := info_parts info_int
  have HWD : Hid (∀ W : World, Below w.heap.size w W → Calls Tryz.prog 35 #[.slice (some ⟨g, o0, none⟩) L.length c] W fun e w' => e = .returned (.int .i64 (n : Int)) ∧ Below W.heap.size W w') := fun W hW => by
    have := refWidth_any L (some ⟨g, o0, none⟩) c W (by omega) hb0 (hr.later hW)
    rw [hn] at this
    exact this
  have HHS : Hid (∀ W : World, Calls Tryz.prog 45 #[.string ⟨s.toArray⟩, .string ⟨#[48, 49]⟩, .int .i64 (n : Int)] W fun e w' => e = .returned (.bool (hdB n s)) ∧ Below W.heap.size W w') := fun W => refOf_any n s W hn256
  cases hh : hdB n s with
  | false =>
    have hres : Hid (R = ([], 46)) := by unfold Hid; rw [← hR, hun, hh, if_pos rfl]
    simp only [hh] at HHS
    clear hx hr hR h0 k3 k4 hb0 hn hf0 hun hh
    go_enter Tryz.func62, Tryz.ntmps62
    go_wp2_with fail
    refine HC.mono ?_
    rintro e W1 ⟨rfl, hb1⟩
    go_wp2_with fail
    refine (HWD.out _ hb1).mono ?_
    rintro e W2 ⟨rfl, hb2⟩
    go_wp2_with fail
    refine (HHS.out _).mono ?_
    rintro e W4 ⟨rfl, hb4⟩
    go_wp2_with fail
    refine bodyPost_ret (results_tmp2 rfl _ _ _) rfl ?_
    refine ⟨.slice none 0 0, ?_, ?_, bel0 (bel0 hb1 hb2) hb4⟩
    · rw [hres.out]
      rfl
    · rw [hres.out]
      exact World.ownsRow_nil _ _ _ _
  | true =>
    have hres : Hid (R = (uvL L s, 0)) := by unfold Hid; rw [← hR, hun, hh, if_neg (by decide)]
    have hh2 := hh
    unfold hdB at hh2
    rw [Bool.and_eq_true, decide_eq_true_eq] at hh2
    have HSL : Hid (s.length = n) := hh2.1
    simp only [hh] at HHS
    clear hx hr hR h0 k3 k4 hb0 hn hf0 hun hh hh2
    go_enter Tryz.func62, Tryz.ntmps62
    go_wp2_with fail
    refine HC.mono ?_
    rintro e W1 ⟨rfl, hb1⟩
    go_wp2_with fail
    refine (HWD.out _ hb1).mono ?_
    rintro e W2 ⟨rfl, hb2⟩
    go_wp2_with fail
    refine (HHS.out _).mono ?_
    rintro e W4 ⟨rfl, hb4⟩
    have hB4 := bel0 (bel0 hb1 hb2) hb4
    clear HC HWD HHS hb1 hb2 hb4
    go_wp2_with fail
    go_loopw [9, 10, 11] (fun v vp vk wr => ∃ (k p : Nat), vk = .int .i64 k ∧ k ≤ L.length ∧ vp = .int .i64 p ∧ Hid (sumB (L.take k) = (p : Int)) ∧ wr.ownsRow w.heap.size 3 1 v k (ivs ((uvL L s).take k)) ∧ Below w.heap.size w wr) (fun _ _ vk _ => L.length - (intOf vk).toNat)
    case atStart => exact ⟨0, 0, rfl, Nat.zero_le _, rfl, rfl, World.ownsRow_nil _ _ _ _, hB4⟩
    case round =>
      clear hB4
      obtain ⟨k, p, rfl, hk, rfl, hp, hown, hB⟩ := hrel
      by_cases hlt : k < L.length
      · have j1 : (k : Int) < (L.length : Int) := by omega
        have j0 : (0 : Int) ≤ (k : Int) := by omega
        obtain ⟨f, hf⟩ : ∃ f, L[k]? = some f := ⟨_, List.getElem?_eq_getElem hlt⟩
        have hbits := HK3.out f (List.mem_of_getElem? hf)
        have hst := sumB_take hf
        have hle := sumB_take_le HB0.out (k + 1)
        rw [hst, HN.out, hp.out] at hle
        rw [hp.out] at hst
        have XF : Hid (∀ W : World, Below w.heap.size w W → W.cell? ⟨g, o0 + k * 2 + 1, none⟩ = some (.int .i64 f.2)) := fun W hW => by
          obtain ⟨g3, q3, h1, -, h2⟩ := HR.out W hW k f hf
          injection h1 with h1
          injection h1 with h1 h4
          subst h1 h4
          exact h2
        obtain ⟨x, bi⟩ := f
        obtain ⟨b, rfl⟩ : ∃ b : Nat, bi = (b : Int) := ⟨bi.toNat, by simp only at hbits; omega⟩
        simp only at hbits hle hst XF
        have hU := uvL_at (s := s) hf hp.out
        have hYl : (subL s p (p + b)).length ≤ 32 := by unfold subL; rw [List.length_take]; omega
        have HVO : Hid (∀ W : World, Calls Tryz.prog 47 #[.string ⟨(subL s p (p + b)).toArray⟩] W fun e w' => e = .returned (.int .i64 (valF 0 (subL s p (p + b)) : Int)) ∧ w' = W) := fun W => refValue_any _ W hYl
        have HTK : Hid (ivs ((uvL L s).take (k + 1)) = ivs ((uvL L s).take k) ++ [.int .i64 (valF 0 (subL s p (p + b)) : Int)]) := by unfold Hid ivs; rw [List.take_add_one, hU]; simp
        have hE := ext_sub s p (p + b)
        obtain ⟨Y, hY⟩ : ∃ Y, subL s p (p + b) = Y := ⟨_, rfl⟩
        obtain ⟨vv, hvv⟩ : ∃ v : Nat, valF 0 Y = v := ⟨_, rfl⟩
        simp only [hY, hvv] at HVO HTK
        rw [hY] at hE
        have HST : Hid (sumB (L.take (k + 1)) = ((p + b : Nat) : Int)) := by unfold Hid; rw [hst]; omega
        have m0 : (0 : Int) ≤ (p : Int) := by omega
        have m1 : (p : Int) ≤ (p : Int) + (b : Int) := by omega
        have m2 : (p : Int) + (b : Int) ≤ (s.length : Int) := by rw [HSL.out]; omega
        have e9 : IntKind.i64.wrap ((p : Int) + (b : Int)) = (p : Int) + (b : Int) := by rw [IntKind.wrap_i64]; omega
        have t9 : ((p : Int) + (b : Int)).toNat = p + b := by omega
        have z1 := XF.out wr hB
        have hBs := hB.size
        obtain ⟨pv2, cv2, rfl⟩ := shapeP hown
        clear hf hst hU hY hvv hYl hp
        go_wp2_with fail
        refine (HVO.out _).mono ?_
        rintro e W6 ⟨rfl, rfl⟩
        go_wp2_with (at_builtin; refine wpList_append_own _ rfl _ _ 42 rfl w.heap.size 3 i0 _ 1 8 Tryz.underlying42 hi hz0 hz1 hz2 rfl (by decide) _ _ _ rfl (hown.alloc _) ⟨_, 0, none⟩ 1 1 [.int .i64 (vv : Int)] rfl rfl (World.news_of_block (cs := #[.int .i64 (vv : Int)]) (t := 3) (fr := (0, 0)) (alloc_get _ _)) (by simp [Value.oneCell']) (by unfold maxLen; omega) (by omega) (by simp; omega) ?_; intro v5 w5 oB hg5 _; have hB5 := (hB.alloc hBs _).grown hg5 (by simp; omega) (fun k e => (hown.lt k e).1); have z5 := XF.out w5 hB5)
        go_roundw
        case rel => exact ⟨k + 1, p + b, by go_num, by omega, by go_num, HST, by rw [HTK.out]; exact oB, hB5⟩
        case measure => simp [intOf]; omega
      · have j1 : ¬ (k : Int) < (L.length : Int) := by omega
        obtain rfl : k = L.length := by omega
        rw [List.take_of_length_le (by rw [uvL_len]; exact Nat.le_refl _)] at hown
        obtain ⟨pv2, cv2, rfl⟩ := shapeP hown
        have HO : Hid (wr.ownsRow w.heap.size 3 1 (.slice pv2 L.length cv2) L.length (ivs (uvL L s))) := hown
        clear hown
        go_wp2_with fail
        refine bodyPost_ret (results_tmp2 rfl _ _ _) rfl ?_
        refine ⟨.slice pv2 L.length cv2, ?_, ?_, hB⟩
        · rw [hres.out]
          rfl
        · rw [hres.out]
          show wr.ownsRow _ _ _ _ (uvL L s).length _
          rw [uvL_len]
          exact HO.out
end Go.Proofs.YtepokgainceidaaGreatDoor

import Derived.Test.YtclgjdhobdncjaaDoorC2
namespace Go.Proofs.YtclgjdhobdncjaaDoor
open Go.RowKit
/-- how many characters at the beginning are hexadecimal digits (no more than so many are read), and their number -/
def hexC : Nat → List (Int × Nat) → Nat → Nat × Nat
  | 0, _, n => (0, n)
  | _ + 1, [], n => (0, n)
  | f + 1, c :: r, n => if 0 ≤ hexI c.1 then ((hexC f r (16 * n + (hexI c.1).toNat)).1 + 1, (hexC f r (16 * n + (hexI c.1).toNat)).2) else (0, n)
theorem hexC_no {f : Nat} {C : List (Int × Nat)} {k : Nat} {c : Int × Nat} (h : C[k]? = some c) (hc : ¬ 0 ≤ hexI c.1) (n : Nat) : hexC f (C.drop k) n = (0, n) := by
  obtain ⟨hk, rfl⟩ := List.getElem?_eq_some_iff.1 h
  rw [List.drop_eq_getElem_cons hk]
  cases f with
  | zero => rfl
  | succ f => rw [hexC, if_neg hc]
theorem hexC_yes {f : Nat} {C : List (Int × Nat)} {k : Nat} {c : Int × Nat} (h : C[k]? = some c) (hc : 0 ≤ hexI c.1) (n : Nat) : hexC (f + 1) (C.drop k) n = ((hexC f (C.drop (k + 1)) (16 * n + (hexI c.1).toNat)).1 + 1, (hexC f (C.drop (k + 1)) (16 * n + (hexI c.1).toNat)).2) := by
  obtain ⟨hk, rfl⟩ := List.getElem?_eq_some_iff.1 h
  rw [List.drop_eq_getElem_cons hk, hexC, if_pos hc]
theorem hexI_lt (r : Int) : -1 ≤ hexI r ∧ hexI r < 16 := by
  unfold hexI
  repeat' split
  all_goals omega
theorem shl_or32 (m d : Nat) (hm : m < 1048576) (hd : d < 16) : bits .or .i32 ((m : Int) * 16) (d : Int) = ((16 * m + d : Nat) : Int) := by
  have h1 : (m : Int) * 16 = ((16 * m : Nat) : Int) := by omega
  rw [h1]
  have a1 : (BitVec.ofInt 32 ((16 * m : Nat) : Int)).toNat = 16 * m := by
    rw [BitVec.ofInt_natCast, BitVec.toNat_ofNat]; exact Nat.mod_eq_of_lt (by omega)
  have a2 : (BitVec.ofInt 32 (d : Int)).toNat = d := by
    rw [BitVec.ofInt_natCast, BitVec.toNat_ofNat]; exact Nat.mod_eq_of_lt (by omega)
  have a3 : 16 * m ||| d = 16 * m + d := by
    have := Nat.two_pow_add_eq_or_of_lt (i := 4) (b := d) (by omega) m
    rw [show (16 : Nat) = 2 ^ 4 by decide]
    exact this.symm
  show IntKind.i32.wrap ((BitVec.ofInt 32 ((16 * m : Nat) : Int) ||| BitVec.ofInt 32 (d : Int)).toNat : Int) = _
  rw [BitVec.toNat_or, a1, a2, a3, IntKind.wrap_i32]
  omega
set_option maxRecDepth 100000 in
set_option maxHeartbeats 1000000 in
theorem hexAt_any (C : List (Int × Nat)) (ad : Addr) (cap most : Nat) (w : World) (hmost : most ≤ 6) (hC0 : CH w ad C) (hr0 : ∀ c ∈ C, -2 ≤ c.1 ∧ c.1 ≤ 1114111) (hend0 : ∃ (k : Nat) (c : Int × Nat), C[k]? = some c ∧ ¬ 0 ≤ hexI c.1) :
    Calls Tryd.prog 30 #[.slice (some ad) C.length cap, .int .i64 (most : Int)] w fun e w' => e = .returned (.tuple #[.int .i32 ((hexC most C 0).2 : Int), .int .i64 ((hexC most C 0).1 : Int)]) ∧ w' = w := by
  have hC : Hid (CH w ad C) := hC0
  have hr : Hid (∀ c ∈ C, -2 ≤ c.1 ∧ c.1 ≤ 1114111) := hr0
  obtain ⟨ke, ce, hke, hce0⟩ := hend0
  have hce : Hid (¬ 0 ≤ hexI ce.1) := hce0
  clear hce0
  clear hC0 hr0
  go_enter Tryd.func30, Tryd.ntmps30
  go_wp2_with fail
  go_loop [6, 7] (fun vv vn => ∃ (n f m : Nat), vv = .int .i32 m ∧ vn = .int .i64 n ∧ Hid (n + f = most ∧ n ≤ ke ∧ m < 16 ^ n ∧ hexC most C 0 = ((hexC f (C.drop n) m).1 + n, (hexC f (C.drop n) m).2))) (fun _ vn => most - (intOf vn).toNat)
  case atStart => exact ⟨0, most, 0, rfl, rfl, by omega, Nat.zero_le _, by decide, by simp⟩
  case round =>
    obtain ⟨n, f, m, rfl, rfl, hh⟩ := hrel
    obtain ⟨hnf, hnk, hm, hq⟩ := hh.out
    have hke2 := (List.getElem?_eq_some_iff.1 hke).1
    cases f with
    | zero =>
      have i1 : ¬ (n : Int) < (most : Int) := by omega
      have h0 : hexC 0 (C.drop n) m = (0, m) := rfl
      rw [h0, Nat.zero_add] at hq
      have HQ : Hid (hexC most C 0 = (n, m)) := hq
      clear hq h0 hh hnf hm
      go_wp2_with fail
      go_ret2
      exact ⟨by rw [HQ.out]; rfl, rfl⟩
    | succ f =>
      have i1 : (n : Int) < (most : Int) := by omega
      have hnl : n < C.length := by omega
      have i2 : (n : Int) < (C.length : Int) := by omega
      have i0 : (0 : Int) ≤ (n : Int) := by omega
      obtain ⟨c, hc⟩ : ∃ c, C[n]? = some c := ⟨_, List.getElem?_eq_getElem hnl⟩
      obtain ⟨x0, x1⟩ := hC.out n c hc
      obtain ⟨r0, r1⟩ := hr.out c (List.mem_of_getElem? hc)
      have HV := fun W => hexValue_any c.1 W r0 r1
      obtain ⟨q0, q1⟩ := hexI_lt c.1
      by_cases hp : 0 ≤ hexI c.1
      · obtain ⟨d, hd⟩ : ∃ d : Nat, hexI c.1 = d := ⟨(hexI c.1).toNat, by omega⟩
        rw [hexC_yes hc hp, hd, show ((d : Int)).toNat = d from Int.toNat_natCast d] at hq
        have hm2 : m < 1048576 := Nat.lt_of_lt_of_le hm (Nat.pow_le_pow_right (j := 5) (show 16 > 0 by decide) (by omega))
        have hne : n ≠ ke := fun e => by
          have h1 := hce.out
          rw [e, hke] at hc
          rw [← Option.some.inj hc] at hp
          omega
        have HH : Hid (n + 1 + f = most ∧ n + 1 ≤ ke ∧ 16 * m + d < 16 ^ (n + 1) ∧ hexC most C 0 = ((hexC f (C.drop (n + 1)) (16 * m + d)).1 + (n + 1), (hexC f (C.drop (n + 1)) (16 * m + d)).2)) := ⟨by omega, by omega, by rw [Nat.pow_succ]; omega, by rw [hq]; simp; omega⟩
        have hb := shl_or32 m d hm2 (by omega)
        have jd : (0 : Int) ≤ (d : Int) := by omega
        rw [hd] at HV
        obtain ⟨c0, hc0⟩ : ∃ z, c.1 = z := ⟨_, rfl⟩
        rw [hc0] at x0 HV
        have hcast : ((16 * m + d : Nat) : Int) = 16 * (m : Int) + (d : Int) := by omega
        have HZ : Hid (n + (f + 1) = most) := hnf
        clear hq hh hp hd hm hne hnf hc0 r0 r1 q0 q1 hcast
        go_wp2_with fail
        refine (HV _).mono ?_
        rintro e w2 ⟨rfl, rfl⟩
        go_wp2_with fail
        refine (HV _).mono ?_
        rintro e w3 ⟨rfl, rfl⟩
        go_wp2_with fail
        go_round
        case rel => exact ⟨n + 1, f, 16 * m + d, by go_num, by go_num, HH⟩
        case measure => have := HZ.out; simp [intOf]; omega
      · rw [hexC_no hc hp, Nat.zero_add] at hq
        have HQ : Hid (hexC most C 0 = (n, m)) := hq
        obtain ⟨z, hz⟩ : ∃ z, hexI c.1 = z := ⟨_, rfl⟩
        rw [hz] at HV hp
        have jz : ¬ (0 : Int) ≤ z := hp
        obtain ⟨c0, hc0⟩ : ∃ z, c.1 = z := ⟨_, rfl⟩
        rw [hc0] at x0 HV
        clear hq hh hm hnf hc0 r0 r1 q0 q1 hz hp
        go_wp2_with fail
        refine (HV _).mono ?_
        rintro e w2 ⟨rfl, rfl⟩
        go_wp2_with fail
        go_ret2
        exact ⟨by rw [HQ.out]; rfl, rfl⟩
end Go.Proofs.YtclgjdhobdncjaaDoor

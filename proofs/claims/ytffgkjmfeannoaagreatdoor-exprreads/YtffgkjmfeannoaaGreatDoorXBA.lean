import Derived.Test.YtffgkjmfeannoaaGreatDoorXAQ
import Derived.Test.YtffgkjmfeannoaaGreatDoorXAS
import Derived.Test.YtffgkjmfeannoaaGreatDoorXAR
import Derived.Deep.QuietTactic
import Derived.Test.YtffgkjmfeannoaaGreatDoorXAF
namespace Go.Proofs.YtffgkjmfeannoaaGreatDoor
open Go.RowKit Go.Shelf
set_option maxRecDepth 100000 in
theorem refLetter_any (x : Nat) (w : World) : Calls Tryz.prog 67 #[.int .u8 (x : Int)] w fun e w' => e = .returned (.bool (letX x)) ∧ w' = w := by
  by_cases a1 : 65 ≤ x
  · by_cases a2 : x ≤ 90
    · have j1 : (65 : Int) ≤ (x : Int) := by omega
      have j2 : (x : Int) ≤ 90 := by omega
      have hr : Hid (letX x = true) := by unfold Hid letX; simp; omega
      go_enter Tryz.func67, Tryz.ntmps67
      go_wp2_with fail
      go_ret
      exact ⟨by rw [hr.out]; first | rfl | simp_all, rfl⟩
    · by_cases a3 : 97 ≤ x
      · by_cases a4 : x ≤ 122
        · have j1 : (65 : Int) ≤ (x : Int) := by omega
          have j2 : ¬ (x : Int) ≤ 90 := by omega
          have j3 : (97 : Int) ≤ (x : Int) := by omega
          have j4 : (x : Int) ≤ 122 := by omega
          have hr : Hid (letX x = true) := by unfold Hid letX; simp; omega
          go_enter Tryz.func67, Tryz.ntmps67
          go_wp2_with fail
          go_ret
          exact ⟨by rw [hr.out]; first | rfl | simp_all, rfl⟩
        · have j1 : (65 : Int) ≤ (x : Int) := by omega
          have j2 : ¬ (x : Int) ≤ 90 := by omega
          have j3 : (97 : Int) ≤ (x : Int) := by omega
          have j4 : ¬ (x : Int) ≤ 122 := by omega
          have j5 : ((x : Int) == 95) = false := by rw [beq_eq_false_iff_ne]; omega
          have hr : Hid (letX x = false) := by unfold Hid letX; simp; omega
          go_enter Tryz.func67, Tryz.ntmps67
          go_wp2_with fail
          go_ret
          exact ⟨by rw [hr.out]; first | rfl | simp_all, rfl⟩
      · by_cases a4 : x = 95
        · subst a4
          have hr : Hid (letX 95 = true) := show letX 95 = true by decide
          go_enter Tryz.func67, Tryz.ntmps67
          go_wp2_with fail
          go_ret
          exact ⟨by rw [hr.out]; first | rfl | simp_all, rfl⟩
        · have j1 : (65 : Int) ≤ (x : Int) := by omega
          have j2 : ¬ (x : Int) ≤ 90 := by omega
          have j3 : ¬ (97 : Int) ≤ (x : Int) := by omega
          have j5 : ((x : Int) == 95) = false := by rw [beq_eq_false_iff_ne]; omega
          have hr : Hid (letX x = false) := by unfold Hid letX; simp; omega
          go_enter Tryz.func67, Tryz.ntmps67
          go_wp2_with fail
          go_ret
          exact ⟨by rw [hr.out]; first | rfl | simp_all, rfl⟩
  · have j1 : ¬ (65 : Int) ≤ (x : Int) := by omega
    have j3 : ¬ (97 : Int) ≤ (x : Int) := by omega
    have j5 : ((x : Int) == 95) = false := by rw [beq_eq_false_iff_ne]; omega
    have hr : Hid (letX x = false) := by unfold Hid letX; simp; omega
    go_enter Tryz.func67, Tryz.ntmps67
    go_wp2_with fail
    go_ret
    exact ⟨by rw [hr.out]; first | rfl | simp_all, rfl⟩
set_option maxRecDepth 100000 in
theorem refDigit_any (x : Nat) (w : World) : Calls Tryz.prog 69 #[.int .u8 (x : Int)] w fun e w' => e = .returned (.bool (digX x)) ∧ w' = w := by
  by_cases a1 : 48 ≤ x
  · by_cases a2 : x ≤ 57
    · have j1 : (48 : Int) ≤ (x : Int) := by omega
      have j2 : (x : Int) ≤ 57 := by omega
      have hr : Hid (digX x = true) := by unfold Hid digX; simp; omega
      go_enter Tryz.func69, Tryz.ntmps69
      go_wp2_with fail
      go_ret
      exact ⟨by rw [hr.out]; first | rfl | simp_all, rfl⟩
    · have j1 : (48 : Int) ≤ (x : Int) := by omega
      have j2 : ¬ (x : Int) ≤ 57 := by omega
      have hr : Hid (digX x = false) := by unfold Hid digX; simp; omega
      go_enter Tryz.func69, Tryz.ntmps69
      go_wp2_with fail
      go_ret
      exact ⟨by rw [hr.out]; first | rfl | simp_all, rfl⟩
  · have j1 : ¬ (48 : Int) ≤ (x : Int) := by omega
    have hr : Hid (digX x = false) := by unfold Hid digX; simp; omega
    go_enter Tryz.func69, Tryz.ntmps69
    go_wp2_with fail
    go_ret
    exact ⟨by rw [hr.out]; first | rfl | simp_all, rfl⟩
set_option maxRecDepth 100000 in
theorem refBlank_any (x : Nat) (w : World) : Calls Tryz.prog 47 #[.int .u8 (x : Int)] w fun e w' => e = .returned (.bool (blaX x)) ∧ w' = w := by
  by_cases a1 : x = 32
  · subst a1
    go_enter Tryz.func47, Tryz.ntmps47
    go_wp2_with fail
    go_ret
    exact ⟨rfl, rfl⟩
  · by_cases a2 : x = 9
    · subst a2
      go_enter Tryz.func47, Tryz.ntmps47
      go_wp2_with fail
      go_ret
      exact ⟨rfl, rfl⟩
    · by_cases a3 : x = 13
      · subst a3
        go_enter Tryz.func47, Tryz.ntmps47
        go_wp2_with fail
        go_ret
        exact ⟨rfl, rfl⟩
      · have j1 : ((x : Int) == 32) = false := by rw [beq_eq_false_iff_ne]; omega
        have j2 : ((x : Int) == 9) = false := by rw [beq_eq_false_iff_ne]; omega
        have j3 : ((x : Int) == 13) = false := by rw [beq_eq_false_iff_ne]; omega
        have hr : Hid (blaX x = false) := by unfold Hid blaX; simp; omega
        go_enter Tryz.func47, Tryz.ntmps47
        go_wp2_with fail
        go_ret
        exact ⟨by rw [hr.out]; first | rfl | simp_all, rfl⟩
set_option maxRecDepth 100000 in
theorem refWord_any (x : Nat) (w : World) : Calls Tryz.prog 70 #[.int .u8 (x : Int)] w fun e w' => e = .returned (.bool (letX x || digX x)) ∧ w' = w := by
  have H1 := refLetter_any x w
  have H2 := refDigit_any x w
  obtain ⟨p, hp⟩ : ∃ p, letX x = p := ⟨_, rfl⟩
  obtain ⟨q, hq⟩ : ∃ q, digX x = q := ⟨_, rfl⟩
  rw [hp] at H1 ⊢
  rw [hq] at H2 ⊢
  clear hp hq
  cases p with
  | true =>
    go_enter Tryz.func70, Tryz.ntmps70
    go_wp2_with fail
    refine H1.mono ?_
    rintro e w2 ⟨rfl, rfl⟩
    go_wp2_with fail
    go_ret
    exact ⟨rfl, rfl⟩
  | false =>
    go_enter Tryz.func70, Tryz.ntmps70
    go_wp2_with fail
    refine H1.mono ?_
    rintro e w2 ⟨rfl, rfl⟩
    go_wp2_with fail
    refine H2.mono ?_
    rintro e w2 ⟨rfl, rfl⟩
    go_wp2_with fail
    go_ret
    exact ⟨rfl, rfl⟩
theorem inW_bt {l : List UInt8} {i : Nat} (h : i < l.length) : inW l i = (letX (bt l i) || digX (bt l i)) := by
  unfold inW
  rw [kl_bt h, letX_cls (bt_lt l i), digX_cls (bt_lt l i)]
theorem inW_end {l : List UInt8} {i : Nat} (h : ¬ i < l.length) : inW l i = false := by
  unfold inW
  rw [kl0.2 h]
  rfl
set_option maxRecDepth 100000 in
theorem refRun_any (l : List UInt8) (i : Nat) (w : World) (hi : i ≤ l.length) (hs : l.length ≤ 281474976710656) (I : Int) (hI : I = (i : Int)) :
    Calls Tryz.prog 68 #[.string ⟨l.toArray⟩, .int .i64 I] w fun e w' => e = .returned (.int .i64 (wrun l i : Int)) ∧ w' = w := by
  subst hI
  go_enter Tryz.func68, Tryz.ntmps68
  go_wp2_with fail
  go_loopw [1] (fun v wr => ∃ k : Nat, k ≤ l.length ∧ v = .int .i64 k ∧ wrun l k = wrun l i ∧ wr = w) (fun v _ => l.length - (intOf v).toNat)
  case atStart => exact ⟨i, hi, rfl, rfl, rfl⟩
  case round =>
    obtain ⟨k, hk, rfl, hr, rfl⟩ := hrel
    by_cases hlt : k < l.length
    · have j0 : (0 : Int) ≤ (k : Int) := by omega
      have j1 : (k : Int) < (l.length : Int) := by omega
      obtain ⟨c, hc, hlc⟩ := byte_get l k hlt
      have hb := bt_of hlc
      have hw := inW_bt hlt
      rw [hb] at hw
      have HW := refWord_any c.toNat wr
      cases hq : (letX c.toNat || digX c.toNat) with
      | true =>
        rw [hq] at HW hw
        have HI : Hid (wrun l (k + 1) = wrun l i) := by rw [← wrun_yes hw]; exact hr
        clear hr hw hb hq
        go_wp2_with fail
        refine HW.mono ?_
        rintro e w2 ⟨rfl, rfl⟩
        go_wp2_with fail
        go_roundw
        case rel => exact ⟨k + 1, by omega, by go_num, HI.out, trivial⟩
        case measure => simp [intOf]; omega
      | false =>
        rw [hq] at HW hw
        have HI : Hid (wrun l i = k) := by rw [← hr]; exact wrun_no hw
        clear hr hw hb hq
        go_wp2_with fail
        refine HW.mono ?_
        rintro e w2 ⟨rfl, rfl⟩
        go_wp2_with fail
        go_ret
        exact ⟨by rw [HI.out]; rfl, rfl⟩
    · have j1 : ¬ (k : Int) < (l.length : Int) := by omega
      have HI : Hid (wrun l i = k) := by rw [← hr]; exact wrun_no (inW_end hlt)
      clear hr
      go_wp2_with fail
      go_ret
      exact ⟨by rw [HI.out]; rfl, rfl⟩
set_option maxRecDepth 100000 in
theorem refColumn_any (l : List UInt8) (i : Nat) (w : World) (hi : i ≤ l.length) (hs : l.length ≤ 281474976710656) (hr : RE l i) :
    Calls Tryz.prog 49 #[.string ⟨l.toArray⟩, .int .i64 (i : Int)] w fun e w' => e = .returned (.int .i64 ((ci l i + 1 : Nat) : Int)) ∧ w' = w := by
  have HR : Hid (RE l i) := hr
  clear hr
  go_enter Tryz.func49, Tryz.ntmps49
  go_wp2_with fail
  go_loopw [5, 6] (fun vn va wr => ∃ (n k : Nat), k ≤ i ∧ va = .int .i64 k ∧ vn = .int .i64 n ∧ n = ci l k + 1 ∧ n ≤ k + 1 ∧ Hid (RE l k) ∧ wr = w) (fun _ va _ => i - (intOf va).toNat)
  case atStart => exact ⟨1, 0, Nat.zero_le _, rfl, rfl, by unfold ci; simp, by omega, RE.zero l, rfl⟩
  case round =>
    obtain ⟨n, k, hk, rfl, rfl, hn, hn2, hrk, rfl⟩ := hrel
    by_cases hlt : k < i
    · have j1 : (k : Int) < (i : Int) := by omega
      obtain ⟨s1, s2, s3⟩ := hrk.out.step HR.out hlt hi
      have hp := dc_pos l k
      have HC := refSize_any l k wr (by omega) hs
      obtain ⟨d, hd⟩ : ∃ d, (dc l k).2 = d := ⟨_, rfl⟩
      rw [hd] at HC s1 s2 s3 hp
      have H2 : Hid (ci l (k + d) = ci l k + 1) := s2
      have H3 : Hid (RE l (k + d)) := s3
      have HN : Hid (n = ci l k + 1) := hn
      clear s2 s3 hd hn hrk
      go_wp2_with fail
      refine HC.mono ?_
      rintro e w2 ⟨rfl, rfl⟩
      go_wp2_with fail
      go_roundw
      case rel => exact ⟨n + 1, k + d, by omega, by go_num, by go_num, by rw [H2.out, HN.out], by omega, H3, trivial⟩
      case measure => simp [intOf]; omega
    · have j1 : ¬ (k : Int) < (i : Int) := by omega
      obtain rfl : k = i := by omega
      have HN : Hid (ci l k + 1 = n) := hn.symm
      clear hn hrk
      go_wp2_with fail
      go_ret
      exact ⟨by rw [show ((ci l k : Int) + 1) = (n : Int) by have := HN.out; omega]; rfl, rfl⟩
def xdgs : List UInt8 := [48, 49, 120]
theorem xdgs_has (c : UInt8) : xdgs.contains c = is01x c := by
  have h : ∀ n : Fin 256, xdgs.contains (UInt8.ofNat n.val) = is01x (UInt8.ofNat n.val) := by decide +kernel
  have := h ⟨c.toNat, c.toNat_lt⟩
  rw [UInt8.ofNat_toNat] at this
  exact this
theorem xdgs_take (k : Nat) (c d : UInt8) (h : xdgs[k]? = some d) : (xdgs.take (k + 1)).contains c = ((xdgs.take k).contains c || c == d) := by
  rw [List.take_add_one, h, List.contains_append]
  show ((xdgs.take k).contains c || [d].contains c) = _
  rw [List.contains_cons, List.contains_nil, Bool.or_false]
set_option maxRecDepth 100000 in
theorem allx_any (l : List UInt8) (w : World) (hs : l.length ≤ 281474976710656) :
    Calls Tryz.prog 83 #[.string ⟨l.toArray⟩, .string ⟨#[48, 49, 120]⟩] w fun e w' => e = .returned (.bool (l.all is01x)) ∧ Below w.heap.size w w' := by
  go_enter Tryz.func83, Tryz.ntmps83
  go_wp2
  go_loopw [5] (fun i wr => ∃ k : Nat, k ≤ l.length ∧ i = .int .i64 k ∧ (∀ j c, j < k → l[j]? = some c → is01x c = true) ∧ Below w.heap.size w wr) (fun i _ => l.length - (intOf i).toNat)
  case atStart => exact ⟨0, Nat.zero_le _, rfl, fun j c hj => by omega, Below.refl _ _⟩
  case round =>
    obtain ⟨k, hk, rfl, hn, hB⟩ := hrel
    by_cases hlt : k < l.length
    · have i1 : (k : Int) < (l.length : Int) := by omega
      obtain ⟨c, hc, hlc⟩ := byte_get l k hlt
      have HN : Hid (∀ j c, j < k → l[j]? = some c → is01x c = true) := hn
      clear hn
      rename World => wq
      go_wp2_with fail
      go_loopw [6, 7] (fun b j wr => ∃ m : Nat, m ≤ 3 ∧ j = .int .i64 m ∧ b = .bool ((xdgs.take m).contains c) ∧ Below w.heap.size w wr) (fun _ j _ => 3 - (intOf j).toNat)
      case atStart => exact ⟨0, by omega, rfl, rfl, hB⟩
      case round =>
        clear hB
        obtain ⟨m, hm, rfl, rfl, hB⟩ := hrel
        by_cases hlm : m < 3
        · have i2 : (m : Int) < 3 := by omega
          obtain ⟨d, hd0, hld⟩ := byte_get xdgs m hlm
          have hd : ∀ h', (ByteArray.mk #[48, 49, 120])[m]'h' = d := hd0
          have ht := xdgs_take m c d hld
          clear hd0
          obtain ⟨x, hx⟩ : ∃ x, (xdgs.take m).contains c = x := ⟨_, rfl⟩
          obtain ⟨y, hy⟩ : ∃ y, (xdgs.take (m + 1)).contains c = y := ⟨_, rfl⟩
          rw [hx, hy] at ht
          have HY : Hid ((xdgs.take (m + 1)).contains c = y) := hy
          rw [hx]
          clear hx hy
          by_cases hcd : c = d
          · subst hcd
            obtain rfl : y = true := by rw [ht]; simp
            clear ht
            go_wp2_with fail
            go_quiet (fail)
            go_wp2_with fail
            go_roundw
            case rel => exact ⟨m + 1, by omega, by go_num, by rw [HY.out], bel_drewN _ hB⟩
            case measure => simp [intOf]; omega
          · have hne := u8_ne hcd
            obtain rfl : y = x := by rw [ht, beq_eq_false_iff_ne.2 hcd]; simp
            clear ht
            go_wp2_with fail
            go_quiet (fail)
            go_wp2_with fail
            go_roundw
            case rel => exact ⟨m + 1, by omega, by go_num, by rw [HY.out], bel_drewN _ hB⟩
            case measure => simp [intOf]; omega
        · have i2 : ¬ (m : Int) < 3 := by omega
          obtain rfl : m = 3 := by omega
          have hx : (xdgs.take 3).contains c = is01x c := xdgs_has c
          rw [hx]
          by_cases hcd : is01x c = true
          · rw [hcd]
            have HN2 : Hid (∀ j c, j < k + 1 → l[j]? = some c → is01x c = true) := fun j e hj he => by
              rcases Nat.lt_or_ge j k with h | h
              · exact HN.out j e h he
              · obtain rfl : j = k := by omega
                rw [hlc] at he; injection he with he; rw [← he]; exact hcd
            go_wp2_with fail
            go_roundw
            case rel => exact ⟨k + 1, by omega, by go_num, HN2.out, hB⟩
            case measure => simp [intOf]; omega
          · have hr : Hid (l.all is01x = false) := by
              unfold Hid
              cases ha : l.all is01x with
              | false => rfl
              | true =>
                rw [List.all_eq_true] at ha
                exact absurd (ha c (List.mem_of_getElem? hlc)) hcd
            rw [Bool.eq_false_iff.2 hcd]
            go_wp2_with fail
            go_ret
            exact ⟨by rw [hr.out]; rfl, hB⟩
    · have i1 : ¬ (k : Int) < (l.length : Int) := by omega
      have hr : Hid (l.all is01x = true) := by
        unfold Hid
        rw [List.all_eq_true]
        intro x hx
        obtain ⟨j, hj, rfl⟩ := List.mem_iff_getElem.1 hx
        exact hn j _ (by omega) (List.getElem?_eq_getElem hj)
      clear hn
      go_wp2_with fail
      go_ret
      exact ⟨by rw [hr.out]; rfl, hB⟩
set_option maxRecDepth 100000 in
theorem refPattern_any (t : List UInt8) (w : World) (h0 : t[0]? = some 37) (hs : t.length ≤ 281474976710656) :
    Calls Tryz.prog 72 #[.string ⟨t.toArray⟩] w fun e w' => e = .returned (.bool (patX t)) ∧ Below w.heap.size w w' := by
  have hl0 : 0 < t.length := (List.getElem?_eq_some_iff.1 h0).1
  obtain ⟨c, hc, hlc⟩ := byte_get t 0 hl0
  obtain rfl : c = 37 := by rw [h0] at hlc; exact (Option.some.inj hlc).symm
  clear hlc h0
  by_cases a1 : 2 ≤ t.length
  · have i1 : (2 : Int) ≤ (t.length : Int) := by omega
    by_cases a2 : t.length ≤ 33
    · have i2 : (t.length : Int) ≤ 33 := by omega
      have i3 : (1 : Int) ≤ (t.length : Int) := by omega
      have HA := allx_any (t.drop 1) w (by simp; omega)
      obtain ⟨q, hq⟩ : ∃ q, (t.drop 1).all is01x = q := ⟨_, rfl⟩
      have hr : Hid (patX t = q) := by unfold Hid patX; rw [hq]; simp [a1, a2]
      rw [hq] at HA
      have hE : (ByteArray.mk t.toArray).extract 1 t.length = ⟨(t.drop 1).toArray⟩ := ext_drop t 1
      obtain ⟨T, hT⟩ : ∃ T, t.drop 1 = T := ⟨_, rfl⟩
      rw [hT] at HA hE
      clear hq hT
      go_enter Tryz.func72, Tryz.ntmps72
      go_wp2_with fail
      refine HA.mono ?_
      rintro e w1 ⟨rfl, hb1⟩
      go_wp2_with fail
      go_ret
      exact ⟨by rw [hr.out]; rfl, hb1⟩
    · have i2 : ¬ (t.length : Int) ≤ 33 := by omega
      have hr : Hid (patX t = false) := by unfold Hid patX; simp [a2]
      go_enter Tryz.func72, Tryz.ntmps72
      go_wp2_with fail
      go_ret
      exact ⟨by rw [hr.out]; rfl, Below.refl _ _⟩
  · have i1 : ¬ (2 : Int) ≤ (t.length : Int) := by omega
    have hr : Hid (patX t = false) := by unfold Hid patX; simp [a1]
    go_enter Tryz.func72, Tryz.ntmps72
    go_wp2_with fail
    go_ret
    exact ⟨by rw [hr.out]; rfl, Below.refl _ _⟩
abbrev signsD : Array Value := #[.string ⟨#[33, 61]⟩, .string ⟨#[60, 61]⟩, .string ⟨#[62, 61]⟩, .string ⟨#[46, 46]⟩, .string ⟨#[45, 62]⟩, .string ⟨#[40]⟩, .string ⟨#[41]⟩, .string ⟨#[33]⟩, .string ⟨#[61]⟩, .string ⟨#[60]⟩, .string ⟨#[62]⟩, .string ⟨#[38]⟩, .string ⟨#[124]⟩, .string ⟨#[44]⟩, .string ⟨#[58]⟩, .string ⟨#[47]⟩, .string ⟨#[]⟩]
def SR (w : World) : Prop := ∃ t fr, w.heap[1]? = some (.cells signsD t fr)
theorem SR.below {w W : World} (h : SR w) (hb : Below w.heap.size w W) : SR W := by
  obtain ⟨t, fr, h⟩ := h
  exact ⟨t, fr, (hb.block _ (lt_of_get h)).trans h⟩
theorem SR.cell {w : World} (h : SR w) (j : Nat) : w.cell? ⟨1, j, none⟩ = signsD[j]? := by
  obtain ⟨t, fr, h⟩ := h
  exact cell_of_row w _ j _ _ _ h
theorem signsD_at (k : Nat) (z : List UInt8) (h : signsL[k]? = some z) : signsD[k]? = some (.string ⟨z.toArray⟩) := by
  match k, h with
  | 0, h => obtain rfl := Option.some.inj h; rfl
  | 1, h => obtain rfl := Option.some.inj h; rfl
  | 2, h => obtain rfl := Option.some.inj h; rfl
  | 3, h => obtain rfl := Option.some.inj h; rfl
  | 4, h => obtain rfl := Option.some.inj h; rfl
  | 5, h => obtain rfl := Option.some.inj h; rfl
  | 6, h => obtain rfl := Option.some.inj h; rfl
  | 7, h => obtain rfl := Option.some.inj h; rfl
  | 8, h => obtain rfl := Option.some.inj h; rfl
  | 9, h => obtain rfl := Option.some.inj h; rfl
  | 10, h => obtain rfl := Option.some.inj h; rfl
  | 11, h => obtain rfl := Option.some.inj h; rfl
  | 12, h => obtain rfl := Option.some.inj h; rfl
  | 13, h => obtain rfl := Option.some.inj h; rfl
  | 14, h => obtain rfl := Option.some.inj h; rfl
  | 15, h => obtain rfl := Option.some.inj h; rfl
  | k + 16, h => simp at h
def isSg (s : List UInt8) : Bool := decide (s ∈ signsL)
set_option maxRecDepth 100000 in
theorem refSign_any (s : List UInt8) (w : World) (hg : SR w) : Calls Tryz.prog 74 #[.string ⟨s.toArray⟩] w fun e w' => e = .returned (.bool (isSg s)) ∧ w' = w := by
  have HG : Hid (SR w) := hg
  clear hg
  go_enter Tryz.func74, Tryz.ntmps74
  go_wp2_with fail
  go_loop [3] (fun vk => ∃ k : Nat, vk = .int .i64 k ∧ k ≤ 16 ∧ Hid (∀ (j : Nat) (z : List UInt8), j < k → signsL[j]? = some z → z ≠ s)) (fun vk => 16 - (intOf vk).toNat)
  case atStart => exact ⟨0, rfl, by omega, fun j z hj => by omega⟩
  case round =>
    obtain ⟨k, rfl, hk, hno⟩ := hrel
    by_cases hk5 : k < 16
    · have hk5' : (k : Int) < 16 := by omega
      have j0 : (0 : Int) ≤ (k : Int) := by omega
      have j17 : (k : Int) < 17 := by omega
      obtain ⟨z, hz⟩ : ∃ z, signsL[k]? = some z := ⟨_, List.getElem?_eq_getElem hk5⟩
      have hcell : w.cell? ⟨1, k, none⟩ = some (.string ⟨z.toArray⟩) := (HG.out.cell k).trans (signsD_at k z hz)
      have HZ : Hid (signsL[k]? = some z) := hz
      clear hz
      by_cases hzs : z = s
      · subst hzs
        have hr : Hid (isSg z = true) := decide_eq_true (List.mem_of_getElem? HZ.out)
        go_wp2_with fail
        go_ret
        exact ⟨by rw [hr.out]; rfl, rfl⟩
      · have hne : (z == s) = false := beq_eq_false_iff_ne.2 hzs
        have HN : Hid (∀ (j : Nat) (z : List UInt8), j < k + 1 → signsL[j]? = some z → z ≠ s) := fun j y hj hy => by
          rcases Nat.lt_or_ge j k with h | h
          · exact hno.out j y h hy
          · obtain rfl : j = k := by omega
            have := HZ.out
            rw [hy] at this
            rw [Option.some.inj this]
            exact hzs
        clear hno
        go_wp2_with fail
        go_round
        case rel => exact ⟨k + 1, by go_num, by omega, HN⟩
        case measure => simp [intOf]; omega
    · have hk5' : ¬ (k : Int) < 16 := by omega
      have hr : Hid (isSg s = false) := by
        refine decide_eq_false (fun hm => ?_)
        obtain ⟨j, hj, e⟩ := List.mem_iff_getElem.1 hm
        have h16 : signsL.length = 16 := rfl
        exact hno.out j s (by omega) (by rw [List.getElem?_eq_getElem hj, e]) rfl
      go_wp2_with fail
      go_ret
      exact ⟨by rw [hr.out]; rfl, rfl⟩
end Go.Proofs.YtffgkjmfeannoaaGreatDoor
namespace Go.Proofs.YtffgkjmfeannoaaGreatDoor
open Go.RowKit
set_option maxRecDepth 100000 in
set_option maxHeartbeats 2000000 in
theorem refInside_at (l : List UInt8) (i : Nat) (w : World) (hi : i < l.length) (hs : l.length ≤ 281474976710656) (HE0 : escC l) :
    Calls Tryz.prog 73 #[.string ⟨l.toArray⟩, .int .i64 (i : Int)] w fun e w' => e = .returned (.tuple #[.string ⟨(insS l (i + 1) []).1.toArray⟩, .int .i64 ((insS l (i + 1) []).2.1 : Int), .int .i64 ((insS l (i + 1) []).2.2 : Int)]) ∧ Below w.heap.size w w' := by
  have HE : Hid (escC l) := HE0
  clear HE0
  have hi2 : (i : Int) < 281474976710656 := by omega
  go_enter Tryz.func73, Tryz.ntmps73
  go_wp2_with fail
  have HI0 : Hid (i < l.length) := hi
  clear hi hi2
  go_loopw [7, 8] (fun vs vj wr => ∃ (said : List UInt8) (j : Nat), vs = .string ⟨said.toArray⟩ ∧ vj = .int .i64 j ∧ said.length ≤ j ∧ 1 ≤ j ∧ j ≤ 281474976710657 ∧ insS l j said = insS l (i + 1) [] ∧ Below w.heap.size w wr) (fun _ vj _ => l.length - (intOf vj).toNat)
  case atStart => exact ⟨[], i + 1, rfl, by go_num, by simp, by omega, by have := HI0.out; omega, rfl, Below.refl _ _⟩
  case round =>
    obtain ⟨said, j, rfl, rfl, hsj, hj1, hj2, hins, hB⟩ := hrel
    by_cases hlt : j < l.length
    · have j0 : (0 : Int) ≤ (j : Int) := by omega
      have j1 : (j : Int) < (l.length : Int) := by omega
      have j3 : ¬ (l.length : Int) ≤ (j : Int) := by omega
      obtain ⟨c, hc, hlc⟩ := byte_get l j hlt
      have hb := bt_of hlc
      rw [insS, if_pos hlt] at hins
      by_cases g34 : c = 34
      · rw [if_pos (by rw [hb, g34]; rfl)] at hins
        have HR : Hid (insS l (i + 1) [] = (said, j + 1, 0)) := hins.symm
        subst g34
        clear hins hb
        go_wp2_with fail
        refine bodyPost_ret (results_three _ _ _ _ _ ⟨rfl, rfl, rfl⟩) rfl ?_
        exact ⟨by rw [HR.out]; rfl, hB⟩
      · have b34 : ¬ bt l j = 34 := fun e => g34 (UInt8.toNat_inj.1 (by rw [← hb, e]; rfl))
        have n34 : ((c.toNat : Int) == 34) = false := u8_ne (d := 34) g34
        have m34 : ((c.toNat : Int) != 34) = true := by rw [bne, n34]; rfl
        rw [if_neg b34] at hins
        by_cases g92 : c = 92
        · rw [if_pos (by rw [hb, g92]; rfl)] at hins
          have HC := HE.out j wr hlt
          subst g92
          by_cases hz : (escS l j).1 = 0
          · rw [if_pos hz] at hins
            have HR : Hid (insS l (i + 1) [] = ([], j, 34)) := hins.symm
            rw [hz] at HC
            clear hins hb
            go_wp2_with fail
            refine HC.mono ?_
            rintro e w2 ⟨rfl, hb2⟩
            go_wp2_with fail
            refine bodyPost_ret (results_three _ _ _ _ _ ⟨rfl, rfl, rfl⟩) rfl ?_
            exact ⟨by rw [HR.out]; rfl, bel0 hB hb2⟩
          · rw [if_neg hz] at hins
            obtain ⟨hq1, hq2⟩ := escS_end l j (by omega)
            obtain ⟨k, hk⟩ : ∃ k, (escS l j).1 = k := ⟨_, rfl⟩
            obtain ⟨b, hbb⟩ : ∃ b, (escS l j).2 = b := ⟨_, rfl⟩
            rw [hk, hbb] at HC hins hq2
            rw [hk] at hz hq1
            have kz : ((k : Int) == 0) = false := by rw [beq_eq_false_iff_ne]; omega
            have HI : Hid (insS l (j + k) (said ++ b) = insS l (i + 1) []) := hins
            clear hins hb hk hbb
            go_wp2_with fail
            refine HC.mono ?_
            rintro e w2 ⟨rfl, hb2⟩
            have hcat := cat_bytes said b
            go_wp2_with fail
            go_roundw
            case rel => exact ⟨said ++ b, j + k, by rw [← hcat], by go_num, by simp; omega, by omega, by omega, HI.out, bel0 hB hb2⟩
            case measure => simp [intOf]; omega
        · have b92 : ¬ bt l j = 92 := fun e => g92 (UInt8.toNat_inj.1 (by rw [← hb, e]; rfl))
          have n92 : ((c.toNat : Int) == 92) = false := u8_ne (d := 92) g92
          rw [if_neg b92] at hins
          have HC := refSize_any l j wr hlt hs
          by_cases hbad : lo1 l j = true ∨ bt l j < 32 ∨ bt l j = 127
          · rw [if_pos hbad] at hins
            have HR : Hid (insS l (i + 1) [] = ([], j, 33)) := hins.symm
            rw [hb] at hbad
            clear hins hb
            obtain ⟨k, hk⟩ : ∃ k, (dc l j).2 = k := ⟨_, rfl⟩
            obtain ⟨lo, hlo⟩ : ∃ lo, lo1 l j = lo := ⟨_, rfl⟩
            rw [hk, hlo] at HC
            rw [hlo] at hbad
            clear hk hlo
            cases lo with
            | true =>
              clear hbad
              go_wp2_with fail
              refine HC.mono ?_
              rintro e w2 ⟨rfl, rfl⟩
              go_wp2_with fail
              refine bodyPost_ret (results_three _ _ _ _ _ ⟨rfl, rfl, rfl⟩) rfl ?_
              exact ⟨by rw [HR.out]; rfl, hB⟩
            | false =>
              by_cases c32 : c.toNat < 32
              · have d32 : (c.toNat : Int) < 32 := by omega
                clear hbad
                go_wp2_with fail
                refine HC.mono ?_
                rintro e w2 ⟨rfl, rfl⟩
                go_wp2_with fail
                refine bodyPost_ret (results_three _ _ _ _ _ ⟨rfl, rfl, rfl⟩) rfl ?_
                exact ⟨by rw [HR.out]; rfl, hB⟩
              · have d32 : ¬ (c.toNat : Int) < 32 := by omega
                obtain rfl : c = 127 := by
                  rcases hbad with h | h | h
                  · cases h
                  · exact absurd h c32
                  · exact UInt8.toNat_inj.1 h
                clear hbad
                go_wp2_with fail
                refine HC.mono ?_
                rintro e w2 ⟨rfl, rfl⟩
                go_wp2_with fail
                refine bodyPost_ret (results_three _ _ _ _ _ ⟨rfl, rfl, rfl⟩) rfl ?_
                exact ⟨by rw [HR.out]; rfl, hB⟩
          · rw [if_neg hbad] at hins
            have hlo : lo1 l j = false := Bool.eq_false_iff.2 (fun h => hbad (.inl h))
            rw [hlo] at HC
            rw [hb] at hbad
            have c32 : ¬ (c.toNat : Int) < 32 := by omega
            have c127 : ((c.toNat : Int) == 127) = false := by rw [beq_eq_false_iff_ne]; omega
            have hp := dc_pos l j
            have hle := dc_le l j hlt
            obtain ⟨k, hk⟩ : ∃ k, (dc l j).2 = k := ⟨_, rfl⟩
            rw [hk] at HC hins hp hle
            have HI : Hid (insS l (j + k) (said ++ (l.drop j).take k) = insS l (i + 1) []) := hins
            have hE := fun W => slice_str l j k hle W
            have hcat := cat_bytes said ((l.drop j).take k)
            have hlen : ((l.drop j).take k).length = k := by simp; omega
            obtain ⟨T, hT⟩ : ∃ T, (l.drop j).take k = T := ⟨_, rfl⟩
            rw [hT] at HI hE hcat hlen
            clear hins hb hk hbad hT hlo
            go_wp2_with fail
            refine HC.mono ?_
            rintro e w2 ⟨rfl, rfl⟩
            go_wp2_with fail
            go_roundw
            case rel => exact ⟨said ++ T, j + k, by rw [← hcat], by go_num, by simp; omega, by omega, by omega, HI.out, hB⟩
            case measure => simp [intOf]; omega
    · have j1 : ¬ (j : Int) < (l.length : Int) := by omega
      have j3 : (l.length : Int) ≤ (j : Int) := by omega
      rw [insS, if_neg hlt] at hins
      have HR : Hid (insS l (i + 1) [] = ([], l.length, 32)) := hins.symm
      clear hins
      go_wp2_with fail
      refine bodyPost_ret (results_three _ _ _ _ _ ⟨rfl, rfl, rfl⟩) rfl ?_
      exact ⟨by rw [HR.out]; rfl, hB⟩
end Go.Proofs.YtffgkjmfeannoaaGreatDoor

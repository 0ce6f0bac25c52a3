import Derived.Test.YtepokgainceidaaGreatDoorXAA
import Derived.Test.YtepokgainceidaaGreatDoorXBE
import Derived.Lib.OthersKept
import Derived.Test.YtepokgainceidaaGreatDoorXBD
namespace Go.Proofs.YtepokgainceidaaGreatDoor
open Go.RowKit Go.Shelf
theorem and0 (x : Int) : bits .and .u64 0 x = 0 := by
  show IntKind.u64.wrap ((BitVec.ofInt 64 0 &&& BitVec.ofInt 64 x).toNat : Int) = 0
  rw [show BitVec.ofInt 64 0 = 0#64 from rfl, BitVec.zero_and]
  rfl
theorem at_x (n p : Nat) (w : World) (h1 : p < 256) : Calls Tryz.prog 123 #[.agg #[.int .i64 (n : Int), .int .u64 0, .int .u64 0, .int .u64 0, .int .u64 0, .int .u64 0, .int .u64 0, .int .u64 0, .int .u64 0], .int .i64 (p : Int)] w fun e w' => e = .returned (.int .u8 120) ∧ Below w.heap.size w w' := by
  have e : ∀ r : Nat, (bits .and .u64 0 ((2 ^ r : Nat) : Int) == 0) = true := fun r => by rw [and0]; rfl
  have hr : p % 64 < 64 := Nat.mod_lt _ (by decide)
  rcases (show p / 64 = 0 ∨ p / 64 = 1 ∨ p / 64 = 2 ∨ p / 64 = 3 by omega) with h | h | h | h
  · have := at_0 n 0 0 0 0 0 0 0 0 p (p % 64) w hr (by omega)
    rw [if_pos (e _)] at this
    exact this
  · have := at_1 n 0 0 0 0 0 0 0 0 p (p % 64) w hr (by omega)
    rw [if_pos (e _)] at this
    exact this
  · have := at_2 n 0 0 0 0 0 0 0 0 p (p % 64) w hr (by omega)
    rw [if_pos (e _)] at this
    exact this
  · have := at_3 n 0 0 0 0 0 0 0 0 p (p % 64) w hr (by omega)
    rw [if_pos (e _)] at this
    exact this
def dg01 (c : UInt8) : Bool := c == 48 || c == 49
def hdB (n : Nat) (s : List UInt8) : Bool := decide (s.length = n) && s.all dg01
theorem hdB_no {n : Nat} {s : List UInt8} {k : Nat} {c : UInt8} (h : s[k]? = some c) (hc : dg01 c = false) : hdB n s = false := by
  cases hb : hdB n s with
  | false => rfl
  | true =>
    unfold hdB at hb
    rw [Bool.and_eq_true] at hb
    have := List.all_eq_true.1 hb.2 c (List.mem_of_getElem? h)
    rw [hc] at this
    cases this
theorem hdB_yes {n : Nat} {s : List UInt8} (hl : s.length = n) (h : ∀ (k : Nat) (c : UInt8), s[k]? = some c → dg01 c = true) : hdB n s = true := by
  unfold hdB
  rw [decide_eq_true hl, Bool.true_and, List.all_eq_true]
  intro c hc
  obtain ⟨k, hk⟩ := List.getElem?_of_mem hc
  exact h k c hk
set_option maxRecDepth 100000 in
set_option maxHeartbeats 8000000 in
theorem has_x (n : Nat) (s : List UInt8) (w : World) (h1 : 1 ≤ n) (h2 : n ≤ 256) : Calls Tryz.prog 98 #[.agg #[.int .i64 (n : Int), .int .u64 0, .int .u64 0, .int .u64 0, .int .u64 0, .int .u64 0, .int .u64 0, .int .u64 0, .int .u64 0], .string ⟨s.toArray⟩] w fun e w' => e = .returned (.bool (hdB n s)) ∧ Below w.heap.size w w' := by
  obtain ⟨V, hV⟩ : ∃ V : World, w.alloc (Obj.cells #[.int .i64 (n : Int), .int .u64 0, .int .u64 0, .int .u64 0, .int .u64 0, .int .u64 0, .int .u64 0, .int .u64 0, .int .u64 0] 123) = V := ⟨_, rfl⟩
  have vB : Below w.heap.size w V := by rw [← hV]; exact (Below.refl _ _).alloc (Nat.le_refl _) _
  have v0 : V.heap[w.heap.size]? = some (.cells #[.int .i64 (n : Int), .int .u64 0, .int .u64 0, .int .u64 0, .int .u64 0, .int .u64 0, .int .u64 0, .int .u64 0, .int .u64 0] 123) := by rw [← hV]; exact alloc_get _ _
  obtain ⟨S0, hS0⟩ : ∃ S0, w.heap.size = S0 := ⟨_, rfl⟩
  have XC : Hid (∀ W : World, Below V.heap.size V W → W.heap[S0]? = some (.cells #[.int .i64 (n : Int), .int .u64 0, .int .u64 0, .int .u64 0, .int .u64 0, .int .u64 0, .int .u64 0, .int .u64 0, .int .u64 0] 123)) := fun W hW => by rw [← hS0]; exact keepblk hW v0
  have n0 : V.cell? ⟨S0, 0, none⟩ = some (.int .i64 (n : Int)) := by rw [← hS0]; exact cell_of_row _ _ 0 _ _ _ v0
  have HAT : Hid (∀ (p : Nat) (W : World), p < 256 → Calls Tryz.prog 123 #[.agg #[.int .i64 (n : Int), .int .u64 0, .int .u64 0, .int .u64 0, .int .u64 0, .int .u64 0, .int .u64 0, .int .u64 0, .int .u64 0], .int .i64 (p : Int)] W fun e w' => e = .returned (.int .u8 120) ∧ Below W.heap.size W w') := fun p W hp => at_x n p W hp
  have i0 : ((n : Int) == 0) = false := beq_eq_false_iff_ne.2 (by omega)
  clear v0
  by_cases hl : s.length = n
  · have i1 : ((s.length : Int) != (n : Int)) = false := by rw [hl]; simp
    obtain ⟨q, hq⟩ : ∃ q, hdB n s = q := ⟨_, rfl⟩
    rw [hq]
    have HNO : Hid (∀ (k : Nat) (c : UInt8), s[k]? = some c → dg01 c = false → q = false) := fun k c h hc => by rw [← hq]; exact hdB_no h hc
    have HYES : Hid ((∀ (k : Nat) (c : UInt8), s[k]? = some c → dg01 c = true) → q = true) := fun h => by rw [← hq]; exact hdB_yes hl h
    have HL : Hid (s.length = n) := hl
    have HVB : Hid (Below w.heap.size w V) := vB
    clear hq hl vB
    go_enter Tryz.func98, Tryz.ntmps98
    go_wp2_with fail
    go_loopw [20] (fun vk wr => ∃ k : Nat, vk = .int .i64 k ∧ k ≤ n ∧ Hid (∀ (j : Nat) (c : UInt8), j < k → s[j]? = some c → dg01 c = true) ∧ Below V.heap.size V wr) (fun vk _ => n - (intOf vk).toNat)
    case atStart => exact ⟨0, rfl, Nat.zero_le _, fun j c hj => by omega, Below.refl _ _⟩
    case round =>
      obtain ⟨k, rfl, hk, hno, hB⟩ := hrel
      by_cases hlt : k < n
      · have j0 : (0 : Int) ≤ (k : Int) := by omega
        have j1 : (k : Int) < (n : Int) := by omega
        have j2 : (k : Int) < (s.length : Int) := by rw [HL.out]; omega
        obtain ⟨c, hc, hlc⟩ := byte_get s k (by rw [HL.out]; exact hlt)
        have hk256 : k < 256 := by omega
        have HNK : Hid (dg01 c = false → q = false) := HNO.out k c hlc
        have HNX : Hid (dg01 c = true → ∀ (j : Nat) (d : UInt8), j < k + 1 → s[j]? = some d → dg01 d = true) := fun h j d hj hd => by
          rcases Nat.lt_or_ge j k with h3 | h3
          · exact hno.out j d h3 hd
          · obtain rfl : j = k := by omega
            rw [hlc] at hd
            rw [← Option.some.inj hd]
            exact h
        clear hlc hno
        go_wp2_with fail
        refine quiet_lit3 (C := fun W => Below V.heap.size V W) (by kernel_rfl) (by kernel_rfl) (show Below _ _ _ from hB.drew) ?_
        go_big_quiet_want
        go_big_quiet_op
        go_big_quiet_on
        go_big_quiet_want
        go_big_quiet_op
        go_big_quiet_on
        go_big_quiet_want
        refine ⟨.int .u8 (c.toNat : Int), fun W hW => ?_, ?_⟩
        · go_simp
        go_big_quiet_on
        simp only [Act.put, List.setIfInBounds_toArray, List.set_cons_zero, List.set_cons_succ]
        go_big_quiet_want
        refine ⟨.agg #[.int .i64 (n : Int), .int .u64 0, .int .u64 0, .int .u64 0, .int .u64 0, .int .u64 0, .int .u64 0, .int .u64 0, .int .u64 0], fun W hW => ?_, ?_⟩
        · have hx := XC.out W hW
          have z : ∀ j, W.cell? ⟨S0, j, none⟩ = (#[.int .i64 (n : Int), .int .u64 0, .int .u64 0, .int .u64 0, .int .u64 0, .int .u64 0, .int .u64 0, .int .u64 0, .int .u64 0] : Array Value)[j]? := fun j => cell_of_row _ _ j _ _ _ hx
          go_simp
        go_big_quiet_on
        simp only [Act.put, List.setIfInBounds_toArray, List.set_cons_zero, List.set_cons_succ]
        go_big_quiet_want
        go_big_quiet_op
        go_big_quiet_on
        go_big_quiet_want
        refine ⟨.int .u8 120, fun W hW => ?_, ?_⟩
        · go_simp
          refine (HAT.out k W hk256).mono ?_
          rintro e w7 ⟨rfl, hb⟩
          exact ⟨rfl, bel0 hW hb⟩
        go_big_quiet_on
        simp only [Act.put, List.setIfInBounds_toArray, List.set_cons_zero, List.set_cons_succ]
        go_big_quiet_want
        go_big_quiet_op
        go_big_quiet_on
        go_big_quiet_want
        go_big_quiet_op
        go_big_quiet_on
        refine wpQuiet_nil ?_
        intro W hW
        by_cases c48 : c = 48
        · have HN2 : Hid (∀ (j : Nat) (d : UInt8), j < k + 1 → s[j]? = some d → dg01 d = true) := HNX.out (by rw [c48]; rfl)
          subst c48
          clear HNX HNK
          go_wp2_with fail
          go_roundw
          case rel => exact ⟨k + 1, by go_num, by omega, HN2, hW⟩
          case measure => simp [intOf]; omega
        · have d48 : ((c.toNat : Int) == 48) = false := u8_ne (d := 48) c48
          have e48 : ((c.toNat : Int) != 48) = true := by rw [bne, d48]; rfl
          by_cases c49 : c = 49
          · have HN2 : Hid (∀ (j : Nat) (d : UInt8), j < k + 1 → s[j]? = some d → dg01 d = true) := HNX.out (by rw [c49]; rfl)
            subst c49
            clear HNX HNK
            go_wp2_with fail
            go_roundw
            case rel => exact ⟨k + 1, by go_num, by omega, HN2, hW⟩
            case measure => simp [intOf]; omega
          · have d49 : ((c.toNat : Int) == 49) = false := u8_ne (d := 49) c49
            have e49 : ((c.toNat : Int) != 49) = true := by rw [bne, d49]; rfl
            obtain rfl : q = false := HNK.out (by unfold dg01; rw [beq_eq_false_iff_ne.2 c48, beq_eq_false_iff_ne.2 c49]; rfl)
            clear HNX HNK
            go_wp2_with fail
            go_ret
            exact ⟨rfl, by first | exact bel0 HVB.out hW | (rw [← hS0]; exact bel0 HVB.out hW)⟩
      · have j1 : ¬ (k : Int) < (n : Int) := by omega
        obtain rfl : q = true := HYES.out (fun j d hd => hno.out j d (by have := (List.getElem?_eq_some_iff.1 hd).1; rw [HL.out] at this; omega) hd)
        go_wp2_with fail
        go_ret
        exact ⟨rfl, by first | exact bel0 HVB.out hB | (rw [← hS0]; exact bel0 HVB.out hB)⟩
  · have i1 : ((s.length : Int) != (n : Int)) = true := by simp only [bne_iff_ne]; omega
    have hr : Hid (hdB n s = false) := by unfold Hid hdB; rw [decide_eq_false hl]; rfl
    clear XC HAT
    go_enter Tryz.func98, Tryz.ntmps98
    go_wp2_with fail
    go_ret
    exact ⟨by rw [hr.out]; rfl, by first | exact vB | (rw [← hS0]; exact vB)⟩
def valF : Nat → List UInt8 → Nat
  | v, [] => v
  | v, c :: r => valF (2 * v + (if c = 49 then 1 else 0)) r
theorem valF_step {s : List UInt8} {k : Nat} {c : UInt8} (h : s[k]? = some c) (v : Nat) : valF v (s.drop k) = valF (2 * v + (if c = 49 then 1 else 0)) (s.drop (k + 1)) := by
  obtain ⟨hk, e⟩ := List.getElem?_eq_some_iff.1 h
  rw [List.drop_eq_getElem_cons hk, e, valF]
set_option maxRecDepth 100000 in
set_option maxHeartbeats 4000000 in
theorem refValue_any (s : List UInt8) (w : World) (hs : s.length ≤ 32) : Calls Tryz.prog 47 #[.string ⟨s.toArray⟩] w fun e w' => e = .returned (.int .i64 (valF 0 s : Int)) ∧ w' = w := by
  obtain ⟨q, hq⟩ : ∃ q, valF 0 s = q := ⟨_, rfl⟩
  have HQ : Hid (valF 0 (s.drop 0) = q) := hq
  rw [hq]
  clear hq
  go_enter Tryz.func47, Tryz.ntmps47
  go_wp2_with fail
  go_loopw [3, 4] (fun vs vk wr => ∃ (k v : Nat), vk = .int .i64 k ∧ k ≤ s.length ∧ vs = .int .i64 v ∧ v < 2 ^ k ∧ Hid (valF v (s.drop k) = q) ∧ wr = w) (fun _ vk _ => s.length - (intOf vk).toNat)
  case atStart => exact ⟨0, 0, rfl, Nat.zero_le _, rfl, by decide, HQ, rfl⟩
  case round =>
    clear HQ
    obtain ⟨k, v, rfl, hk, rfl, hv, hrun, rfl⟩ := hrel
    have hp : 2 ^ k ≤ 2 ^ 32 := Nat.pow_le_pow_right (by decide) (by omega)
    have hp1 : 2 ^ (k + 1) = 2 * 2 ^ k := by rw [Nat.pow_succ, Nat.mul_comm]
    by_cases hlt : k < s.length
    · have j0 : (0 : Int) ≤ (k : Int) := by omega
      have j1 : (k : Int) < (s.length : Int) := by omega
      obtain ⟨c, hc, hlc⟩ := byte_get s k hlt
      have hst := hrun.out
      rw [valF_step hlc] at hst
      have e1 : IntKind.i64.wrap (2 * (v : Int)) = 2 * (v : Int) := by rw [IntKind.wrap_i64]; omega
      have e2 : IntKind.i64.wrap (2 * (v : Int) + 1) = 2 * (v : Int) + 1 := by rw [IntKind.wrap_i64]; omega
      by_cases c49 : c = 49
      · rw [if_pos c49] at hst
        have HST : Hid (valF (2 * v + 1) (s.drop (k + 1)) = q) := hst
        subst c49
        clear hst hrun hlc
        go_wp2_with fail
        go_roundw
        case rel => exact ⟨k + 1, 2 * v + 1, by go_num, by omega, by go_num, by omega, HST, by first | rfl | trivial⟩
        case measure => simp [intOf]; omega
      · rw [if_neg c49] at hst
        have HST : Hid (valF (2 * v + 0) (s.drop (k + 1)) = q) := hst
        have d49 : ((c.toNat : Int) == 49) = false := u8_ne (d := 49) c49
        clear hst hrun hlc
        go_wp2_with fail
        go_roundw
        case rel => exact ⟨k + 1, 2 * v + 0, by go_num, by omega, by go_num, by omega, HST, by first | rfl | trivial⟩
        case measure => simp [intOf]; omega
    · have j1 : ¬ (k : Int) < (s.length : Int) := by omega
      obtain rfl : v = q := by rw [← hrun.out, List.drop_eq_nil_of_le (by omega)]; rfl
      clear hrun
      go_wp2_with fail
      go_ret
      exact ⟨rfl, rfl⟩
set_option maxRecDepth 100000 in
set_option maxHeartbeats 4000000 in
theorem fvalue_any (s : List UInt8) (w : World) (hs : s.length ≤ 32) (hd : s.all dg01 = true) : Calls Tryz.prog 86 #[.string ⟨s.toArray⟩] w fun e w' => e = .returned (.int .i64 (valF 0 s : Int)) ∧ Below w.heap.size w w' := by
  obtain ⟨q, hq⟩ : ∃ q, valF 0 s = q := ⟨_, rfl⟩
  have HQ : Hid (valF 0 (s.drop 0) = q) := hq
  have HD : Hid (s.all dg01 = true) := hd
  rw [hq]
  clear hq hd
  obtain ⟨KB, hKB⟩ : ∃ KB, w.heap.size = KB := ⟨_, rfl⟩
  have Hk0 : (w.iter ⟨s.toArray⟩ 0).heap[KB]? = some (.stringIter ⟨s.toArray⟩ 0) := by rw [← hKB]; exact World.iter_heap _ _ _
  have Hb0 : Below w.heap.size w (w.iter ⟨s.toArray⟩ 0) := (Below.refl _ _).alloc (Nat.le_refl _) _
  have hKw : w.heap.size ≤ KB := Nat.le_of_eq hKB
  go_enter Tryz.func86, Tryz.ntmps86
  go_wp2_with fail
  try simp only [hKB]
  go_loopw [3] (fun vs wr => ∃ (k v : Nat), k ≤ s.length ∧ vs = .int .i64 v ∧ v < 2 ^ k ∧ Hid (valF v (s.drop k) = q) ∧ wr.heap[KB]? = some (.stringIter ⟨s.toArray⟩ k) ∧ Below w.heap.size w wr) (fun _ wr => s.length - wr.iterPos KB)
  case atStart => exact ⟨0, 0, Nat.zero_le _, rfl, by decide, HQ, Hk0, Hb0⟩
  case round =>
    clear HQ Hk0 Hb0
    obtain ⟨k, v, hk, rfl, hv, hrun, hkb, hB⟩ := hrel
    have hp : 2 ^ k ≤ 2 ^ 32 := Nat.pow_le_pow_right (by decide) (by omega)
    have hp1 : 2 ^ (k + 1) = 2 * 2 ^ k := by rw [Nat.pow_succ, Nat.mul_comm]
    by_cases hlt : k < s.length
    · obtain ⟨c, hc, hlc⟩ := byte_get s k hlt
      have hc01 := List.all_eq_true.1 HD.out c (List.mem_of_getElem? hlc)
      have hsz : k < (⟨s.toArray⟩ : ByteArray).size := by simpa [ByteArray.size] using hlt
      have hcl : c.toNat < 128 := by
        unfold dg01 at hc01
        rw [Bool.or_eq_true, beq_iff_eq, beq_iff_eq] at hc01
        rcases hc01 with e | e <;> rw [e] <;> decide
      have hnx0 := fun ty => Lib.run_next_ascii_at (P := Tryz.prog) wr KB ⟨s.toArray⟩ k ty hkb hsz (by rw [hc hsz]; exact hcl)
      simp only [hc hsz] at hnx0
      have hk2 := Lib.iterAt_heap wr KB ⟨s.toArray⟩ k (k + 1) hkb
      have hb2 := Lib.below_iterAt hB hKw ⟨s.toArray⟩ (k + 1)
      obtain ⟨W2, hW2⟩ : ∃ W2, wr.iterAt KB ⟨s.toArray⟩ (k + 1) = W2 := ⟨_, rfl⟩
      rw [hW2] at hk2 hb2
      have hnx : ∀ ty, (Instr.next (.pointer (some ⟨KB, 0, none⟩)) true ty).run Tryz.prog wr = .ok (.tuple #[.bool true, .int .i64 (k : Int), .int .i32 (c.toNat : Int)]) W2 := fun ty => by rw [← hW2]; exact hnx0 ty
      have hst := hrun.out
      rw [valF_step hlc] at hst
      have hm5 : W2.iterPos KB = k + 1 := iterPos_of hk2
      have hm0 : wr.iterPos KB = k := iterPos_of hkb
      have HM : Hid (s.length - W2.iterPos KB < s.length - wr.iterPos KB) := by unfold Hid; rw [hm5, hm0]; omega
      clear hnx0 hW2 hm5 hm0 hrun hlc hkb hB
      have e1 : wrap64 ((v : Int) * 2) = 2 * (v : Int) := by rw [w64 (by omega) (by omega)]; omega
      have e2 : IntKind.i64.wrap (2 * (v : Int) + 1) = 2 * (v : Int) + 1 := by rw [IntKind.wrap_i64]; omega
      by_cases c49 : c = 49
      · rw [if_pos c49] at hst
        have HST : Hid (valF (2 * v + 1) (s.drop (k + 1)) = q) := hst
        subst c49
        clear hst
        go_wp2_with fail
        go_roundw
        case rel => exact ⟨k + 1, 2 * v + 1, by omega, by go_num, by omega, HST, hk2, hb2⟩
        case measure => exact HM.out
      · rw [if_neg c49] at hst
        have HST : Hid (valF (2 * v + 0) (s.drop (k + 1)) = q) := hst
        have d49 : ((c.toNat : Int) == 49) = false := u8_ne (d := 49) c49
        clear hst
        go_wp2_with fail
        go_roundw
        case rel => exact ⟨k + 1, 2 * v + 0, by omega, by go_num, by omega, HST, hk2, hb2⟩
        case measure => exact HM.out
    · obtain rfl : v = q := by rw [← hrun.out, List.drop_eq_nil_of_le (by omega)]; rfl
      have hnx := fun ty => Lib.run_next_end_at (P := Tryz.prog) wr KB ⟨s.toArray⟩ k ty hkb (by simpa [ByteArray.size] using hlt)
      clear hrun hkb
      go_wp2_with fail
      go_ret
      exact ⟨rfl, by first | exact hB | (rw [← hKB]; exact hB)⟩
set_option maxRecDepth 100000 in
set_option maxHeartbeats 4000000 in
theorem part_any (s : List UInt8) (L : List IFld) (g o0 c i : Nat) (x : List UInt8) (b p : Nat) (w : World) (hfi : L[i]? = some (x, (b : Int))) (hp : sumB (L.take i) = (p : Int)) (hpb : p + b ≤ s.length) (hn : s.length ≤ 256) (hc : L.length ≤ c) (hL : L.length ≤ 4096) (hf : ∀ f ∈ L, 0 ≤ f.2 ∧ f.2 ≤ 32) (hr : IRF w (some ⟨g, o0, none⟩) L) :
    Calls Tryz.prog 53 #[.string ⟨s.toArray⟩, .slice (some ⟨g, o0, none⟩) L.length c, .int .i64 (i : Int)] w fun e w' => e = .returned (.string ⟨(subL s p (p + b)).toArray⟩) ∧ Below w.heap.size w w' := by
  have hil : i < L.length := (List.getElem?_eq_some_iff.1 hfi).1
  have htl : (L.take i).length = i := by rw [List.length_take]; omega
  have HW := widthOf_any (L.take i) (some ⟨g, o0, none⟩) c w (by omega) (fun f hf' => hf f (List.mem_of_mem_take hf')) (hr.take i)
  rw [hp, htl] at HW
  have j0 : (0 : Int) ≤ (i : Int) := by omega
  have j1 : (i : Int) ≤ (c : Int) := by omega
  have j2 : (i : Int) < (L.length : Int) := by omega
  have m0 : (0 : Int) ≤ (p : Int) := by omega
  have m1 : (p : Int) ≤ (p : Int) + (b : Int) := by omega
  have m2 : (p : Int) + (b : Int) ≤ (s.length : Int) := by omega
  have e9 : IntKind.i64.wrap ((p : Int) + (b : Int)) = (p : Int) + (b : Int) := by rw [IntKind.wrap_i64]; omega
  have t9 : ((p : Int) + (b : Int)).toNat = p + b := by omega
  have XF : Hid (∀ W : World, Below w.heap.size w W → W.cell? ⟨g, o0 + i * 2 + 1, none⟩ = some (.int .i64 (b : Int))) := fun W hW => by
    obtain ⟨g3, q3, h1, -, h2⟩ := hr W hW i _ hfi
    injection h1 with h1
    injection h1 with h1 h4
    subst h1 h4
    exact h2
  have hE := ext_sub s p (p + b)
  obtain ⟨Y, hY⟩ : ∃ Y, subL s p (p + b) = Y := ⟨_, rfl⟩
  rw [hY] at hE ⊢
  clear hY hf hr hfi hp htl
  go_enter Tryz.func53, Tryz.ntmps53
  go_wp2_with fail
  refine HW.mono ?_
  rintro e W1 ⟨rfl, hb1⟩
  have z0 := XF.out W1 hb1
  go_wp2_with fail
  go_ret
  exact ⟨by first | rfl | (rw [← hE]; rfl), hb1⟩
theorem info_int : (Tryz.prog.info? 3).map (fun i => (i.zero, i.size, i.bytes)) = some (some (.int .i64 0), 1, 8) := by kernel_rfl
def ivs (V : List Int) : List Value := V.map fun v => .int .i64 v
theorem IRV_own {W : World} {B n : Nat} {o : Option Addr} {c : Nat} {V : List Int} (h : W.ownsRow B 3 1 (.slice o n c) n (ivs V)) (hn : V.length = n) : IRV W o V := fun W' hW k f hf => by
  have hk := (List.getElem?_eq_some_iff.1 hf).1
  obtain ⟨g, rfl⟩ := own_at h (by omega)
  have h2 := owns_below h hW
  exact ⟨g, 0, rfl, by rw [Nat.zero_add]; exact (h2.cellAt k (by omega)).trans (by simp [ivs, hf])⟩
end Go.Proofs.YtepokgainceidaaGreatDoor

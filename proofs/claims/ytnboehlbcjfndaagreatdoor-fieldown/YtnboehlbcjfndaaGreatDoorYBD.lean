import Derived.Test.YtnboehlbcjfndaaGreatDoorYBB
import Derived.Test.YtnboehlbcjfndaaGreatDoorYBC
import Derived.Test.YtnboehlbcjfndaaGreatDoorYAA
namespace Go.Proofs.YtnboehlbcjfndaaGreatDoor
open Go.RowKit Go.Shelf
end Go.Proofs.YtnboehlbcjfndaaGreatDoor
namespace Go.Proofs.YtnboehlbcjfndaaGreatDoor
open Go.RowKit Go.Shelf
theorem and0 (x : Int) : bits .and .u64 0 x = 0 := by
  show IntKind.u64.wrap ((BitVec.ofInt 64 0 &&& BitVec.ofInt 64 x).toNat : Int) = 0
  rw [show BitVec.ofInt 64 0 = 0#64 from rfl, BitVec.zero_and]
  rfl
theorem at_x (n p : Nat) (w : World) (h1 : p < 256) : Calls Tryz.prog 94 #[.agg #[.int .i64 (n : Int), .int .u64 0, .int .u64 0, .int .u64 0, .int .u64 0, .int .u64 0, .int .u64 0, .int .u64 0, .int .u64 0], .int .i64 (p : Int)] w fun e w' => e = .returned (.int .u8 120) ∧ Below w.heap.size w w' := by
  have e : ∀ r : Nat, (bits .and .u64 0 ((2 ^ r : Nat) : Int) == 0) = true := fun r => by rw [and0]; rfl
  have hr : p % 64 < 64 := Nat.mod_lt _ (by decide)
  rcases (show p / 64 = 0 ∨ p / 64 = 1 ∨ p / 64 = 2 ∨ p / 64 = 3 by omega) with h | h | h | h
  · have := at_0 n 0 0 0 0 0 0 0 0 p (p % 64) w hr (by omega)
    rw [if_pos (e _)] at this
    exact this
  · have := at_1 n 0 0 0 0 0 0 0 0 p (p % 64) w hr (by omega)
    rw [if_pos (e _)] at this
    exact this
  · have := at_2 n 0 0 0 0 0 0 0 0 p (p % 64) w hr (by omega)
    rw [if_pos (e _)] at this
    exact this
  · have := at_3 n 0 0 0 0 0 0 0 0 p (p % 64) w hr (by omega)
    rw [if_pos (e _)] at this
    exact this
def dg01 (c : UInt8) : Bool := c == 48 || c == 49
def hdB (n : Nat) (s : List UInt8) : Bool := decide (s.length = n) && s.all dg01
theorem hdB_no {n : Nat} {s : List UInt8} {k : Nat} {c : UInt8} (h : s[k]? = some c) (hc : dg01 c = false) : hdB n s = false := by
  cases hb : hdB n s with
  | false => rfl
  | true =>
    unfold hdB at hb
    rw [Bool.and_eq_true] at hb
    have := List.all_eq_true.1 hb.2 c (List.mem_of_getElem? h)
    rw [hc] at this
    cases this
theorem hdB_yes {n : Nat} {s : List UInt8} (hl : s.length = n) (h : ∀ (k : Nat) (c : UInt8), s[k]? = some c → dg01 c = true) : hdB n s = true := by
  unfold hdB
  rw [decide_eq_true hl, Bool.true_and, List.all_eq_true]
  intro c hc
  obtain ⟨k, hk⟩ := List.getElem?_of_mem hc
  exact h k c hk
set_option maxRecDepth 100000 in
set_option maxHeartbeats 8000000 in
theorem has_x (n : Nat) (s : List UInt8) (w : World) (h1 : 1 ≤ n) (h2 : n ≤ 256) : Calls Tryz.prog 60 #[.agg #[.int .i64 (n : Int), .int .u64 0, .int .u64 0, .int .u64 0, .int .u64 0, .int .u64 0, .int .u64 0, .int .u64 0, .int .u64 0], .string ⟨s.toArray⟩] w fun e w' => e = .returned (.bool (hdB n s)) ∧ Below w.heap.size w w' := by
  obtain ⟨V, hV⟩ : ∃ V : World, w.alloc (Obj.cells #[.int .i64 (n : Int), .int .u64 0, .int .u64 0, .int .u64 0, .int .u64 0, .int .u64 0, .int .u64 0, .int .u64 0, .int .u64 0] 106) = V := ⟨_, rfl⟩
  have vB : Below w.heap.size w V := by rw [← hV]; exact (Below.refl _ _).alloc (Nat.le_refl _) _
  have v0 : V.heap[w.heap.size]? = some (.cells #[.int .i64 (n : Int), .int .u64 0, .int .u64 0, .int .u64 0, .int .u64 0, .int .u64 0, .int .u64 0, .int .u64 0, .int .u64 0] 106) := by rw [← hV]; exact alloc_get _ _
  obtain ⟨S0, hS0⟩ : ∃ S0, w.heap.size = S0 := ⟨_, rfl⟩
  have XC : Hid (∀ W : World, Below V.heap.size V W → W.heap[S0]? = some (.cells #[.int .i64 (n : Int), .int .u64 0, .int .u64 0, .int .u64 0, .int .u64 0, .int .u64 0, .int .u64 0, .int .u64 0, .int .u64 0] 106)) := fun W hW => by rw [← hS0]; exact keepblk hW v0
  have n0 : V.cell? ⟨S0, 0, none⟩ = some (.int .i64 (n : Int)) := by rw [← hS0]; exact cell_of_row _ _ 0 _ _ _ v0
  have HAT : Hid (∀ (p : Nat) (W : World), p < 256 → Calls Tryz.prog 94 #[.agg #[.int .i64 (n : Int), .int .u64 0, .int .u64 0, .int .u64 0, .int .u64 0, .int .u64 0, .int .u64 0, .int .u64 0, .int .u64 0], .int .i64 (p : Int)] W fun e w' => e = .returned (.int .u8 120) ∧ Below W.heap.size W w') := fun p W hp => at_x n p W hp
  have i0 : ((n : Int) == 0) = false := beq_eq_false_iff_ne.2 (by omega)
  clear v0
  by_cases hl : s.length = n
  · have i1 : ((s.length : Int) != (n : Int)) = false := by rw [hl]; simp
    obtain ⟨q, hq⟩ : ∃ q, hdB n s = q := ⟨_, rfl⟩
    rw [hq]
    have HNO : Hid (∀ (k : Nat) (c : UInt8), s[k]? = some c → dg01 c = false → q = false) := fun k c h hc => by rw [← hq]; exact hdB_no h hc
    have HYES : Hid ((∀ (k : Nat) (c : UInt8), s[k]? = some c → dg01 c = true) → q = true) := fun h => by rw [← hq]; exact hdB_yes hl h
    have HL : Hid (s.length = n) := hl
    have HVB : Hid (Below w.heap.size w V) := vB
    clear hq hl vB
    go_enter Tryz.func60, Tryz.ntmps60
    go_wp2_with fail
    go_loopw [20] (fun vk wr => ∃ k : Nat, vk = .int .i64 k ∧ k ≤ n ∧ Hid (∀ (j : Nat) (c : UInt8), j < k → s[j]? = some c → dg01 c = true) ∧ Below V.heap.size V wr) (fun vk _ => n - (intOf vk).toNat)
    case atStart => exact ⟨0, rfl, Nat.zero_le _, fun j c hj => by omega, Below.refl _ _⟩
    case round =>
      obtain ⟨k, rfl, hk, hno, hB⟩ := hrel
      by_cases hlt : k < n
      · have j0 : (0 : Int) ≤ (k : Int) := by omega
        have j1 : (k : Int) < (n : Int) := by omega
        have j2 : (k : Int) < (s.length : Int) := by rw [HL.out]; omega
        obtain ⟨c, hc, hlc⟩ := byte_get s k (by rw [HL.out]; exact hlt)
        have hk256 : k < 256 := by omega
        have HNK : Hid (dg01 c = false → q = false) := HNO.out k c hlc
        have HNX : Hid (dg01 c = true → ∀ (j : Nat) (d : UInt8), j < k + 1 → s[j]? = some d → dg01 d = true) := fun h j d hj hd => by
          rcases Nat.lt_or_ge j k with h3 | h3
          · exact hno.out j d h3 hd
          · obtain rfl : j = k := by omega
            rw [hlc] at hd
            rw [← Option.some.inj hd]
            exact h
        clear hlc hno
        go_wp2_with fail
        refine quiet_lit3 (C := fun W => Below V.heap.size V W) (by kernel_rfl) (by kernel_rfl) (show Below _ _ _ from hB.drew) ?_
        go_big_quiet_want
        go_big_quiet_op
        go_big_quiet_on
        go_big_quiet_want
        go_big_quiet_op
        go_big_quiet_on
        go_big_quiet_want
        refine ⟨.int .u8 (c.toNat : Int), fun W hW => ?_, ?_⟩
        · go_simp
        go_big_quiet_on
        simp only [Act.put, List.setIfInBounds_toArray, List.set_cons_zero, List.set_cons_succ]
        go_big_quiet_want
        refine ⟨.agg #[.int .i64 (n : Int), .int .u64 0, .int .u64 0, .int .u64 0, .int .u64 0, .int .u64 0, .int .u64 0, .int .u64 0, .int .u64 0], fun W hW => ?_, ?_⟩
        · have hx := XC.out W hW
          have z : ∀ j, W.cell? ⟨S0, j, none⟩ = (#[.int .i64 (n : Int), .int .u64 0, .int .u64 0, .int .u64 0, .int .u64 0, .int .u64 0, .int .u64 0, .int .u64 0, .int .u64 0] : Array Value)[j]? := fun j => cell_of_row _ _ j _ _ _ hx
          go_simp
        go_big_quiet_on
        simp only [Act.put, List.setIfInBounds_toArray, List.set_cons_zero, List.set_cons_succ]
        go_big_quiet_want
        go_big_quiet_op
        go_big_quiet_on
        go_big_quiet_want
        refine ⟨.int .u8 120, fun W hW => ?_, ?_⟩
        · go_simp
          refine (HAT.out k W hk256).mono ?_
          rintro e w7 ⟨rfl, hb⟩
          exact ⟨rfl, bel0 hW hb⟩
        go_big_quiet_on
        simp only [Act.put, List.setIfInBounds_toArray, List.set_cons_zero, List.set_cons_succ]
        go_big_quiet_want
        go_big_quiet_op
        go_big_quiet_on
        go_big_quiet_want
        go_big_quiet_op
        go_big_quiet_on
        refine wpQuiet_nil ?_
        intro W hW
        by_cases c48 : c = 48
        · have HN2 : Hid (∀ (j : Nat) (d : UInt8), j < k + 1 → s[j]? = some d → dg01 d = true) := HNX.out (by rw [c48]; rfl)
          subst c48
          clear HNX HNK
          go_wp2_with fail
          go_roundw
          case rel => exact ⟨k + 1, by go_num, by omega, HN2, hW⟩
          case measure => simp [intOf]; omega
        · have d48 : ((c.toNat : Int) == 48) = false := u8_ne (d := 48) c48
          have e48 : ((c.toNat : Int) != 48) = true := by rw [bne, d48]; rfl
          by_cases c49 : c = 49
          · have HN2 : Hid (∀ (j : Nat) (d : UInt8), j < k + 1 → s[j]? = some d → dg01 d = true) := HNX.out (by rw [c49]; rfl)
            subst c49
            clear HNX HNK
            go_wp2_with fail
            go_roundw
            case rel => exact ⟨k + 1, by go_num, by omega, HN2, hW⟩
            case measure => simp [intOf]; omega
          · have d49 : ((c.toNat : Int) == 49) = false := u8_ne (d := 49) c49
            have e49 : ((c.toNat : Int) != 49) = true := by rw [bne, d49]; rfl
            obtain rfl : q = false := HNK.out (by unfold dg01; rw [beq_eq_false_iff_ne.2 c48, beq_eq_false_iff_ne.2 c49]; rfl)
            clear HNX HNK
            go_wp2_with fail
            go_ret
            exact ⟨rfl, by first | exact bel0 HVB.out hW | (rw [← hS0]; exact bel0 HVB.out hW)⟩
      · have j1 : ¬ (k : Int) < (n : Int) := by omega
        obtain rfl : q = true := HYES.out (fun j d hd => hno.out j d (by have := (List.getElem?_eq_some_iff.1 hd).1; rw [HL.out] at this; omega) hd)
        go_wp2_with fail
        go_ret
        exact ⟨rfl, by first | exact bel0 HVB.out hB | (rw [← hS0]; exact bel0 HVB.out hB)⟩
  · have i1 : ((s.length : Int) != (n : Int)) = true := by simp only [bne_iff_ne]; omega
    have hr : Hid (hdB n s = false) := by unfold Hid hdB; rw [decide_eq_false hl]; rfl
    clear XC HAT
    go_enter Tryz.func60, Tryz.ntmps60
    go_wp2_with fail
    go_ret
    exact ⟨by rw [hr.out]; rfl, by first | exact vB | (rw [← hS0]; exact vB)⟩
def valF : Nat → List UInt8 → Nat
  | v, [] => v
  | v, c :: r => valF (2 * v + (if c = 49 then 1 else 0)) r
theorem valF_step {s : List UInt8} {k : Nat} {c : UInt8} (h : s[k]? = some c) (v : Nat) : valF v (s.drop k) = valF (2 * v + (if c = 49 then 1 else 0)) (s.drop (k + 1)) := by
  obtain ⟨hk, e⟩ := List.getElem?_eq_some_iff.1 h
  rw [List.drop_eq_getElem_cons hk, e, valF]
end Go.Proofs.YtnboehlbcjfndaaGreatDoor

import Derived.Test.YtodhcnjkiollaaaGreatDoorZ35
import Derived.Test.YtodhcnjkiollaaaGreatDoorZ1
import Derived.Lib.OthersKept
namespace Go.Proofs.YtodhcnjkiollaaaGreatDoor
open Go.RowKit Go.Shelf
set_option maxRecDepth 100000 in
set_option maxHeartbeats 2000000 in
theorem refWidth_any (L : List IFld) (o : Option Addr) (c : Nat) (w : World) (hL : L.length ≤ 4096) (hf : ∀ f ∈ L, 0 ≤ f.2 ∧ f.2 ≤ 32) (hr : IRF w o L) :
    Calls Tryz.prog 40 #[.slice o L.length c] w fun e w' => e = .returned (.int .i64 (sumB L)) ∧ Below w.heap.size w w' := by
  have HR : Hid (IRF w o L) := hr
  have HF : Hid (∀ f ∈ L, 0 ≤ f.2 ∧ f.2 ≤ 32) := hf
  clear hr hf
  go_enter Tryz.func40, Tryz.ntmps40
  go_wp2_with fail
  go_loopw [3, 4] (fun vs vk wr => ∃ k : Nat, vk = .int .i64 k ∧ k ≤ L.length ∧ vs = .int .i64 (sumB (L.take k)) ∧ Below w.heap.size w wr) (fun _ vk _ => L.length - (intOf vk).toNat)
  case atStart => exact ⟨0, rfl, Nat.zero_le _, rfl, Below.refl _ _⟩
  case round =>
    obtain ⟨k, rfl, hk, rfl, hB⟩ := hrel
    by_cases hlt : k < L.length
    · have j1 : (k : Int) < (L.length : Int) := by omega
      have j0 : (0 : Int) ≤ (k : Int) := by omega
      obtain ⟨f, hf⟩ : ∃ f, L[k]? = some f := ⟨_, List.getElem?_eq_getElem hlt⟩
      obtain ⟨g, o0, rfl, p0, p1⟩ := HR.out wr hB k f hf
      have hs := sumB_take hf
      have hbd := sumB_bound (L.take k) (fun g hg => HF.out g (List.mem_of_mem_take hg))
      have hfb := HF.out f (List.mem_of_getElem? hf)
      have hlen : (L.take k).length = k := by rw [List.length_take]; omega
      rw [hlen] at hbd
      obtain ⟨y, n⟩ := f
      simp only at p0 p1 hs hfb
      obtain ⟨s, hs0⟩ : ∃ s, sumB (L.take k) = s := ⟨_, rfl⟩
      rw [hs0] at hs hbd
      have HS : Hid (sumB (L.take (k + 1)) = s + n) := hs
      rw [hs0]
      clear hf hs hlen hs0
      have e1 : IntKind.i64.wrap (s + n) = s + n := by rw [IntKind.wrap_i64]; omega
      go_wp2_with fail
      go_roundw
      case rel => exact ⟨k + 1, by go_num, by omega, by rw [HS.out], hB⟩
      case measure => simp [intOf]; omega
    · have j1 : ¬ (k : Int) < (L.length : Int) := by omega
      rw [List.take_of_length_le (by omega)]
      go_wp2_with fail
      go_ret
      exact ⟨rfl, hB⟩
/-- where a field's places begin, and its number -/
def plM (L : List IFld) (x : List UInt8) : Int × Int := if idxF L x < 0 then (-1, -1) else (sumB (L.take (idxF L x).toNat), idxF L x)
set_option maxRecDepth 100000 in
set_option maxHeartbeats 4000000 in
theorem refPlace_any (L : List IFld) (o : Option Addr) (c : Nat) (x : List UInt8) (w : World) (hL : L.length ≤ 4096) (hf : ∀ f ∈ L, 0 ≤ f.2 ∧ f.2 ≤ 32) (hr : IRF w o L) :
    Calls Tryz.prog 39 #[.slice o L.length c, .string ⟨x.toArray⟩] w fun e w' => e = .returned (.tuple #[.int .i64 (plM L x).1, .int .i64 (plM L x).2]) ∧ Below w.heap.size w w' := by
  have HR : Hid (IRF w o L) := hr
  have HF : Hid (∀ f ∈ L, 0 ≤ f.2 ∧ f.2 ≤ 32) := hf
  obtain ⟨R, hR⟩ : ∃ R, plM L x = R := ⟨_, rfl⟩
  rw [hR]
  have HI0 : Hid (idxG 0 (L.drop 0) x = idxF L x) := rfl
  have HRR : Hid (plM L x = R) := hR
  clear hr hf hR
  go_enter Tryz.func39, Tryz.ntmps39
  go_wp2_with fail
  go_loopw [6, 7] (fun vs vk wr => ∃ k : Nat, vk = .int .i64 k ∧ k ≤ L.length ∧ vs = .int .i64 (sumB (L.take k)) ∧ Hid (idxG k (L.drop k) x = idxF L x) ∧ Below w.heap.size w wr) (fun _ vk _ => L.length - (intOf vk).toNat)
  case atStart => exact ⟨0, rfl, Nat.zero_le _, rfl, HI0, Below.refl _ _⟩
  case round =>
    clear HI0
    obtain ⟨k, rfl, hk, rfl, hidx, hB⟩ := hrel
    by_cases hlt : k < L.length
    · have j1 : (k : Int) < (L.length : Int) := by omega
      have j0 : (0 : Int) ≤ (k : Int) := by omega
      obtain ⟨f, hf⟩ : ∃ f, L[k]? = some f := ⟨_, List.getElem?_eq_getElem hlt⟩
      obtain ⟨g, o0, rfl, p0, p1⟩ := HR.out wr hB k f hf
      have hs := sumB_take hf
      have hbd := sumB_bound (L.take k) (fun g hg => HF.out g (List.mem_of_mem_take hg))
      have hfb := HF.out f (List.mem_of_getElem? hf)
      have hlen : (L.take k).length = k := by rw [List.length_take]; omega
      rw [hlen] at hbd
      have hx2 := hidx.out
      rw [idxG_step hf] at hx2
      obtain ⟨y, n⟩ := f
      simp only at p0 p1 hs hfb hx2
      by_cases hy : y = x
      · rw [if_pos hy] at hx2
        have HRES : Hid (R = (sumB (L.take k), (k : Int))) := by
          unfold Hid
          rw [← HRR.out]
          unfold plM
          rw [← hx2, if_neg (by omega), Int.toNat_natCast]
        have y0 : (y == x) = true := beq_iff_eq.2 hy
        obtain ⟨s, hs0⟩ : ∃ s, sumB (L.take k) = s := ⟨_, rfl⟩
        rw [hs0] at HRES
        rw [hs0]
        clear hf hs hlen hs0 hx2 hidx hy hbd
        go_wp2_with fail
        refine bodyPost_ret (results_tmp2 rfl _ _ _) rfl ?_
        exact ⟨by rw [HRES.out]; rfl, hB⟩
      · rw [if_neg hy] at hx2
        have y0 : (y == x) = false := beq_eq_false_iff_ne.2 hy
        have HX : Hid (idxG (k + 1) (L.drop (k + 1)) x = idxF L x) := hx2
        obtain ⟨s, hs0⟩ : ∃ s, sumB (L.take k) = s := ⟨_, rfl⟩
        rw [hs0] at hs hbd
        have HS : Hid (sumB (L.take (k + 1)) = s + n) := hs
        rw [hs0]
        clear hf hs hlen hs0 hx2 hidx hy
        have e1 : IntKind.i64.wrap (s + n) = s + n := by rw [IntKind.wrap_i64]; omega
        go_wp2_with fail
        go_roundw
        case rel => exact ⟨k + 1, by go_num, by omega, by rw [HS.out], HX, hB⟩
        case measure => simp [intOf]; omega
    · have j1 : ¬ (k : Int) < (L.length : Int) := by omega
      have HRES : Hid (R = (-1, -1)) := by
        unfold Hid
        rw [← HRR.out]
        unfold plM
        rw [← hidx.out, List.drop_eq_nil_of_le (by omega)]
        exact if_pos (show (-1 : Int) < 0 by decide)
      clear hidx
      go_wp2_with fail
      refine bodyPost_ret (results_tmp2 rfl _ _ _) rfl ?_
      exact ⟨by rw [HRES.out]; rfl, hB⟩
theorem putL_eq {acc D : List UInt8} {p : Nat} (h : p + D.length ≤ acc.length) : (acc.take p ++ D) ++ acc.drop (p + D.length) = putL acc p D := by
  have e : acc = acc.take p ++ ((acc.drop p).take D.length ++ acc.drop (p + D.length)) := by
    rw [← List.drop_drop, List.take_append_drop, List.take_append_drop]
  have hl : (acc.take p).length = p := by rw [List.length_take]; omega
  have := putL_mid D (acc.take p) ((acc.drop p).take D.length) (acc.drop (p + D.length)) (by rw [List.length_take, List.length_drop]; omega)
  rw [← e, hl] at this
  rw [this, List.append_assoc]
end Go.Proofs.YtodhcnjkiollaaaGreatDoor
namespace Go.Proofs.YtodhcnjkiollaaaGreatDoor
open Go.RowKit Go.Shelf
theorem and0 (x : Int) : bits .and .u64 0 x = 0 := by
  show IntKind.u64.wrap ((BitVec.ofInt 64 0 &&& BitVec.ofInt 64 x).toNat : Int) = 0
  rw [show BitVec.ofInt 64 0 = 0#64 from rfl, BitVec.zero_and]
  rfl
theorem at_x (n p : Nat) (w : World) (h1 : p < 256) : Calls Tryz.prog 60 #[.agg #[.int .i64 (n : Int), .int .u64 0, .int .u64 0, .int .u64 0, .int .u64 0, .int .u64 0, .int .u64 0, .int .u64 0, .int .u64 0], .int .i64 (p : Int)] w fun e w' => e = .returned (.int .u8 120) ∧ Below w.heap.size w w' := by
  have e : ∀ r : Nat, (bits .and .u64 0 ((2 ^ r : Nat) : Int) == 0) = true := fun r => by rw [and0]; rfl
  have hr : p % 64 < 64 := Nat.mod_lt _ (by decide)
  rcases (show p / 64 = 0 ∨ p / 64 = 1 ∨ p / 64 = 2 ∨ p / 64 = 3 by omega) with h | h | h | h
  · have := at_0 n 0 0 0 0 0 0 0 0 p (p % 64) w hr (by omega)
    rw [if_pos (e _)] at this
    exact this
  · have := at_1 n 0 0 0 0 0 0 0 0 p (p % 64) w hr (by omega)
    rw [if_pos (e _)] at this
    exact this
  · have := at_2 n 0 0 0 0 0 0 0 0 p (p % 64) w hr (by omega)
    rw [if_pos (e _)] at this
    exact this
  · have := at_3 n 0 0 0 0 0 0 0 0 p (p % 64) w hr (by omega)
    rw [if_pos (e _)] at this
    exact this
/-- a digit of a header -/
def dg01 (c : UInt8) : Bool := c == 48 || c == 49
/-- is it a header of that width -/
def hdB (n : Nat) (s : List UInt8) : Bool := decide (s.length = n) && s.all dg01
theorem hdB_no {n : Nat} {s : List UInt8} {k : Nat} {c : UInt8} (h : s[k]? = some c) (hc : dg01 c = false) : hdB n s = false := by
  cases hb : hdB n s with
  | false => rfl
  | true =>
    unfold hdB at hb
    rw [Bool.and_eq_true] at hb
    have := List.all_eq_true.1 hb.2 c (List.mem_of_getElem? h)
    rw [hc] at this
    cases this
theorem hdB_yes {n : Nat} {s : List UInt8} (hl : s.length = n) (h : ∀ (k : Nat) (c : UInt8), s[k]? = some c → dg01 c = true) : hdB n s = true := by
  unfold hdB
  rw [decide_eq_true hl, Bool.true_and, List.all_eq_true]
  intro c hc
  obtain ⟨k, hk⟩ := List.getElem?_of_mem hc
  exact h k c hk
set_option maxRecDepth 100000 in
set_option maxHeartbeats 8000000 in
theorem has_x (n : Nat) (s : List UInt8) (w : World) (h1 : 1 ≤ n) (h2 : n ≤ 256) : Calls Tryz.prog 32 #[.agg #[.int .i64 (n : Int), .int .u64 0, .int .u64 0, .int .u64 0, .int .u64 0, .int .u64 0, .int .u64 0, .int .u64 0, .int .u64 0], .string ⟨s.toArray⟩] w fun e w' => e = .returned (.bool (hdB n s)) ∧ Below w.heap.size w w' := by
  obtain ⟨V, hV⟩ : ∃ V : World, w.alloc (Obj.cells #[.int .i64 (n : Int), .int .u64 0, .int .u64 0, .int .u64 0, .int .u64 0, .int .u64 0, .int .u64 0, .int .u64 0, .int .u64 0] 71) = V := ⟨_, rfl⟩
  have vB : Below w.heap.size w V := by rw [← hV]; exact (Below.refl _ _).alloc (Nat.le_refl _) _
  have v0 : V.heap[w.heap.size]? = some (.cells #[.int .i64 (n : Int), .int .u64 0, .int .u64 0, .int .u64 0, .int .u64 0, .int .u64 0, .int .u64 0, .int .u64 0, .int .u64 0] 71) := by rw [← hV]; exact alloc_get _ _
  obtain ⟨S0, hS0⟩ : ∃ S0, w.heap.size = S0 := ⟨_, rfl⟩
  have XC : Hid (∀ W : World, Below V.heap.size V W → W.heap[S0]? = some (.cells #[.int .i64 (n : Int), .int .u64 0, .int .u64 0, .int .u64 0, .int .u64 0, .int .u64 0, .int .u64 0, .int .u64 0, .int .u64 0] 71)) := fun W hW => by rw [← hS0]; exact keepblk hW v0
  have n0 : V.cell? ⟨S0, 0, none⟩ = some (.int .i64 (n : Int)) := by rw [← hS0]; exact cell_of_row _ _ 0 _ _ _ v0
  have HAT : Hid (∀ (p : Nat) (W : World), p < 256 → Calls Tryz.prog 60 #[.agg #[.int .i64 (n : Int), .int .u64 0, .int .u64 0, .int .u64 0, .int .u64 0, .int .u64 0, .int .u64 0, .int .u64 0, .int .u64 0], .int .i64 (p : Int)] W fun e w' => e = .returned (.int .u8 120) ∧ Below W.heap.size W w') := fun p W hp => at_x n p W hp
  have i0 : ((n : Int) == 0) = false := beq_eq_false_iff_ne.2 (by omega)
  clear v0
  by_cases hl : s.length = n
  · have i1 : ((s.length : Int) != (n : Int)) = false := by rw [hl]; simp
    obtain ⟨q, hq⟩ : ∃ q, hdB n s = q := ⟨_, rfl⟩
    rw [hq]
    have HNO : Hid (∀ (k : Nat) (c : UInt8), s[k]? = some c → dg01 c = false → q = false) := fun k c h hc => by rw [← hq]; exact hdB_no h hc
    have HYES : Hid ((∀ (k : Nat) (c : UInt8), s[k]? = some c → dg01 c = true) → q = true) := fun h => by rw [← hq]; exact hdB_yes hl h
    have HL : Hid (s.length = n) := hl
    have HVB : Hid (Below w.heap.size w V) := vB
    clear hq hl vB
    go_enter Tryz.func32, Tryz.ntmps32
    go_wp2_with fail
    go_loopw [20] (fun vk wr => ∃ k : Nat, vk = .int .i64 k ∧ k ≤ n ∧ Hid (∀ (j : Nat) (c : UInt8), j < k → s[j]? = some c → dg01 c = true) ∧ Below V.heap.size V wr) (fun vk _ => n - (intOf vk).toNat)
    case atStart => exact ⟨0, rfl, Nat.zero_le _, fun j c hj => by omega, Below.refl _ _⟩
    case round =>
      obtain ⟨k, rfl, hk, hno, hB⟩ := hrel
      by_cases hlt : k < n
      · have j0 : (0 : Int) ≤ (k : Int) := by omega
        have j1 : (k : Int) < (n : Int) := by omega
        have j2 : (k : Int) < (s.length : Int) := by rw [HL.out]; omega
        obtain ⟨c, hc, hlc⟩ := byte_get s k (by rw [HL.out]; exact hlt)
        have hk256 : k < 256 := by omega
        have HNK : Hid (dg01 c = false → q = false) := HNO.out k c hlc
        have HNX : Hid (dg01 c = true → ∀ (j : Nat) (d : UInt8), j < k + 1 → s[j]? = some d → dg01 d = true) := fun h j d hj hd => by
          rcases Nat.lt_or_ge j k with h3 | h3
          · exact hno.out j d h3 hd
          · obtain rfl : j = k := by omega
            rw [hlc] at hd
            rw [← Option.some.inj hd]
            exact h
        clear hlc hno
        go_wp2_with fail
        refine quiet_lit3 (C := fun W => Below V.heap.size V W) (by kernel_rfl) (by kernel_rfl) (show Below _ _ _ from hB.drew) ?_
        go_big_quiet_want
        go_big_quiet_op
        go_big_quiet_on
        go_big_quiet_want
        go_big_quiet_op
        go_big_quiet_on
        go_big_quiet_want
        refine ⟨.int .u8 (c.toNat : Int), fun W hW => ?_, ?_⟩
        · go_simp
        go_big_quiet_on
        simp only [Act.put, List.setIfInBounds_toArray, List.set_cons_zero, List.set_cons_succ]
        go_big_quiet_want
        refine ⟨.agg #[.int .i64 (n : Int), .int .u64 0, .int .u64 0, .int .u64 0, .int .u64 0, .int .u64 0, .int .u64 0, .int .u64 0, .int .u64 0], fun W hW => ?_, ?_⟩
        · have hx := XC.out W hW
          have z : ∀ j, W.cell? ⟨S0, j, none⟩ = (#[.int .i64 (n : Int), .int .u64 0, .int .u64 0, .int .u64 0, .int .u64 0, .int .u64 0, .int .u64 0, .int .u64 0, .int .u64 0] : Array Value)[j]? := fun j => cell_of_row _ _ j _ _ _ hx
          go_simp
        go_big_quiet_on
        simp only [Act.put, List.setIfInBounds_toArray, List.set_cons_zero, List.set_cons_succ]
        go_big_quiet_want
        go_big_quiet_op
        go_big_quiet_on
        go_big_quiet_want
        refine ⟨.int .u8 120, fun W hW => ?_, ?_⟩
        · go_simp
          refine (HAT.out k W hk256).mono ?_
          rintro e w7 ⟨rfl, hb⟩
          exact ⟨rfl, bel0 hW hb⟩
        go_big_quiet_on
        simp only [Act.put, List.setIfInBounds_toArray, List.set_cons_zero, List.set_cons_succ]
        go_big_quiet_want
        go_big_quiet_op
        go_big_quiet_on
        go_big_quiet_want
        go_big_quiet_op
        go_big_quiet_on
        refine wpQuiet_nil ?_
        intro W hW
        by_cases c48 : c = 48
        · have HN2 : Hid (∀ (j : Nat) (d : UInt8), j < k + 1 → s[j]? = some d → dg01 d = true) := HNX.out (by rw [c48]; rfl)
          subst c48
          clear HNX HNK
          go_wp2_with fail
          go_roundw
          case rel => exact ⟨k + 1, by go_num, by omega, HN2, hW⟩
          case measure => simp [intOf]; omega
        · have d48 : ((c.toNat : Int) == 48) = false := u8_ne (d := 48) c48
          have e48 : ((c.toNat : Int) != 48) = true := by rw [bne, d48]; rfl
          by_cases c49 : c = 49
          · have HN2 : Hid (∀ (j : Nat) (d : UInt8), j < k + 1 → s[j]? = some d → dg01 d = true) := HNX.out (by rw [c49]; rfl)
            subst c49
            clear HNX HNK
            go_wp2_with fail
            go_roundw
            case rel => exact ⟨k + 1, by go_num, by omega, HN2, hW⟩
            case measure => simp [intOf]; omega
          · have d49 : ((c.toNat : Int) == 49) = false := u8_ne (d := 49) c49
            have e49 : ((c.toNat : Int) != 49) = true := by rw [bne, d49]; rfl
            obtain rfl : q = false := HNK.out (by unfold dg01; rw [beq_eq_false_iff_ne.2 c48, beq_eq_false_iff_ne.2 c49]; rfl)
            clear HNX HNK
            go_wp2_with fail
            go_ret
            exact ⟨rfl, by first | exact bel0 HVB.out hW | (rw [← hS0]; exact bel0 HVB.out hW)⟩
      · have j1 : ¬ (k : Int) < (n : Int) := by omega
        obtain rfl : q = true := HYES.out (fun j d hd => hno.out j d (by have := (List.getElem?_eq_some_iff.1 hd).1; rw [HL.out] at this; omega) hd)
        go_wp2_with fail
        go_ret
        exact ⟨rfl, by first | exact bel0 HVB.out hB | (rw [← hS0]; exact bel0 HVB.out hB)⟩
  · have i1 : ((s.length : Int) != (n : Int)) = true := by simp only [bne_iff_ne]; omega
    have hr : Hid (hdB n s = false) := by unfold Hid hdB; rw [decide_eq_false hl]; rfl
    clear XC HAT
    go_enter Tryz.func32, Tryz.ntmps32
    go_wp2_with fail
    go_ret
    exact ⟨by rw [hr.out]; rfl, by first | exact vB | (rw [← hS0]; exact vB)⟩
/-- the number of digits -/
def valF : Nat → List UInt8 → Nat
  | v, [] => v
  | v, c :: r => valF (2 * v + (if c = 49 then 1 else 0)) r
theorem valF_step {s : List UInt8} {k : Nat} {c : UInt8} (h : s[k]? = some c) (v : Nat) : valF v (s.drop k) = valF (2 * v + (if c = 49 then 1 else 0)) (s.drop (k + 1)) := by
  obtain ⟨hk, e⟩ := List.getElem?_eq_some_iff.1 h
  rw [List.drop_eq_getElem_cons hk, e, valF]
set_option maxRecDepth 100000 in
set_option maxHeartbeats 4000000 in
theorem refValue_any (s : List UInt8) (w : World) (hs : s.length ≤ 32) : Calls Tryz.prog 48 #[.string ⟨s.toArray⟩] w fun e w' => e = .returned (.int .i64 (valF 0 s : Int)) ∧ w' = w := by
  obtain ⟨q, hq⟩ : ∃ q, valF 0 s = q := ⟨_, rfl⟩
  have HQ : Hid (valF 0 (s.drop 0) = q) := hq
  rw [hq]
  clear hq
  go_enter Tryz.func48, Tryz.ntmps48
  go_wp2_with fail
  go_loopw [3, 4] (fun vs vk wr => ∃ (k v : Nat), vk = .int .i64 k ∧ k ≤ s.length ∧ vs = .int .i64 v ∧ v < 2 ^ k ∧ Hid (valF v (s.drop k) = q) ∧ wr = w) (fun _ vk _ => s.length - (intOf vk).toNat)
  case atStart => exact ⟨0, 0, rfl, Nat.zero_le _, rfl, by decide, HQ, rfl⟩
  case round =>
    clear HQ
    obtain ⟨k, v, rfl, hk, rfl, hv, hrun, rfl⟩ := hrel
    have hp : 2 ^ k ≤ 2 ^ 32 := Nat.pow_le_pow_right (by decide) (by omega)
    have hp1 : 2 ^ (k + 1) = 2 * 2 ^ k := by rw [Nat.pow_succ, Nat.mul_comm]
    by_cases hlt : k < s.length
    · have j0 : (0 : Int) ≤ (k : Int) := by omega
      have j1 : (k : Int) < (s.length : Int) := by omega
      obtain ⟨c, hc, hlc⟩ := byte_get s k hlt
      have hst := hrun.out
      rw [valF_step hlc] at hst
      have e1 : IntKind.i64.wrap (2 * (v : Int)) = 2 * (v : Int) := by rw [IntKind.wrap_i64]; omega
      have e2 : IntKind.i64.wrap (2 * (v : Int) + 1) = 2 * (v : Int) + 1 := by rw [IntKind.wrap_i64]; omega
      by_cases c49 : c = 49
      · rw [if_pos c49] at hst
        have HST : Hid (valF (2 * v + 1) (s.drop (k + 1)) = q) := hst
        subst c49
        clear hst hrun hlc
        go_wp2_with fail
        go_roundw
        case rel => exact ⟨k + 1, 2 * v + 1, by go_num, by omega, by go_num, by omega, HST, by first | rfl | trivial⟩
        case measure => simp [intOf]; omega
      · rw [if_neg c49] at hst
        have HST : Hid (valF (2 * v + 0) (s.drop (k + 1)) = q) := hst
        have d49 : ((c.toNat : Int) == 49) = false := u8_ne (d := 49) c49
        clear hst hrun hlc
        go_wp2_with fail
        go_roundw
        case rel => exact ⟨k + 1, 2 * v + 0, by go_num, by omega, by go_num, by omega, HST, by first | rfl | trivial⟩
        case measure => simp [intOf]; omega
    · have j1 : ¬ (k : Int) < (s.length : Int) := by omega
      obtain rfl : v = q := by rw [← hrun.out, List.drop_eq_nil_of_le (by omega)]; rfl
      clear hrun
      go_wp2_with fail
      go_ret
      exact ⟨rfl, rfl⟩
end Go.Proofs.YtodhcnjkiollaaaGreatDoor
namespace Go.Proofs.YtodhcnjkiollaaaGreatDoor
open Go.RowKit Go.Shelf
set_option maxRecDepth 100000 in
set_option maxHeartbeats 4000000 in
theorem fvalue_any (s : List UInt8) (w : World) (hs : s.length ≤ 32) (hd : s.all dg01 = true) : Calls Tryz.prog 33 #[.string ⟨s.toArray⟩] w fun e w' => e = .returned (.int .i64 (valF 0 s : Int)) ∧ Below w.heap.size w w' := by
  obtain ⟨q, hq⟩ : ∃ q, valF 0 s = q := ⟨_, rfl⟩
  have HQ : Hid (valF 0 (s.drop 0) = q) := hq
  have HD : Hid (s.all dg01 = true) := hd
  rw [hq]
  clear hq hd
  obtain ⟨KB, hKB⟩ : ∃ KB, w.heap.size = KB := ⟨_, rfl⟩
  have Hk0 : (w.iter ⟨s.toArray⟩ 0).heap[KB]? = some (.stringIter ⟨s.toArray⟩ 0) := by rw [← hKB]; exact World.iter_heap _ _ _
  have Hb0 : Below w.heap.size w (w.iter ⟨s.toArray⟩ 0) := (Below.refl _ _).alloc (Nat.le_refl _) _
  have hKw : w.heap.size ≤ KB := Nat.le_of_eq hKB
  go_enter Tryz.func33, Tryz.ntmps33
  go_wp2_with fail
  try simp only [hKB]
  go_loopw [3] (fun vs wr => ∃ (k v : Nat), k ≤ s.length ∧ vs = .int .i64 v ∧ v < 2 ^ k ∧ Hid (valF v (s.drop k) = q) ∧ wr.heap[KB]? = some (.stringIter ⟨s.toArray⟩ k) ∧ Below w.heap.size w wr) (fun _ wr => s.length - wr.iterPos KB)
  case atStart => exact ⟨0, 0, Nat.zero_le _, rfl, by decide, HQ, Hk0, Hb0⟩
  case round =>
    clear HQ Hk0 Hb0
    obtain ⟨k, v, hk, rfl, hv, hrun, hkb, hB⟩ := hrel
    have hp : 2 ^ k ≤ 2 ^ 32 := Nat.pow_le_pow_right (by decide) (by omega)
    have hp1 : 2 ^ (k + 1) = 2 * 2 ^ k := by rw [Nat.pow_succ, Nat.mul_comm]
    by_cases hlt : k < s.length
    · obtain ⟨c, hc, hlc⟩ := byte_get s k hlt
      have hc01 := List.all_eq_true.1 HD.out c (List.mem_of_getElem? hlc)
      have hsz : k < (⟨s.toArray⟩ : ByteArray).size := by simpa [ByteArray.size] using hlt
      have hcl : c.toNat < 128 := by
        unfold dg01 at hc01
        rw [Bool.or_eq_true, beq_iff_eq, beq_iff_eq] at hc01
        rcases hc01 with e | e <;> rw [e] <;> decide
      have hnx0 := fun ty => Lib.run_next_ascii_at (P := Tryz.prog) wr KB ⟨s.toArray⟩ k ty hkb hsz (by rw [hc hsz]; exact hcl)
      simp only [hc hsz] at hnx0
      have hk2 := Lib.iterAt_heap wr KB ⟨s.toArray⟩ k (k + 1) hkb
      have hb2 := Lib.below_iterAt hB hKw ⟨s.toArray⟩ (k + 1)
      obtain ⟨W2, hW2⟩ : ∃ W2, wr.iterAt KB ⟨s.toArray⟩ (k + 1) = W2 := ⟨_, rfl⟩
      rw [hW2] at hk2 hb2
      have hnx : ∀ ty, (Instr.next (.pointer (some ⟨KB, 0, none⟩)) true ty).run Tryz.prog wr = .ok (.tuple #[.bool true, .int .i64 (k : Int), .int .i32 (c.toNat : Int)]) W2 := fun ty => by rw [← hW2]; exact hnx0 ty
      have hst := hrun.out
      rw [valF_step hlc] at hst
      have hm5 : W2.iterPos KB = k + 1 := iterPos_of hk2
      have hm0 : wr.iterPos KB = k := iterPos_of hkb
      have HM : Hid (s.length - W2.iterPos KB < s.length - wr.iterPos KB) := by unfold Hid; rw [hm5, hm0]; omega
      clear hnx0 hW2 hm5 hm0 hrun hlc hkb hB
      have e1 : wrap64 ((v : Int) * 2) = 2 * (v : Int) := by rw [w64 (by omega) (by omega)]; omega
      have e2 : IntKind.i64.wrap (2 * (v : Int) + 1) = 2 * (v : Int) + 1 := by rw [IntKind.wrap_i64]; omega
      by_cases c49 : c = 49
      · rw [if_pos c49] at hst
        have HST : Hid (valF (2 * v + 1) (s.drop (k + 1)) = q) := hst
        subst c49
        clear hst
        go_wp2_with fail
        go_roundw
        case rel => exact ⟨k + 1, 2 * v + 1, by omega, by go_num, by omega, HST, hk2, hb2⟩
        case measure => exact HM.out
      · rw [if_neg c49] at hst
        have HST : Hid (valF (2 * v + 0) (s.drop (k + 1)) = q) := hst
        have d49 : ((c.toNat : Int) == 49) = false := u8_ne (d := 49) c49
        clear hst
        go_wp2_with fail
        go_roundw
        case rel => exact ⟨k + 1, 2 * v + 0, by omega, by go_num, by omega, HST, hk2, hb2⟩
        case measure => exact HM.out
    · obtain rfl : v = q := by rw [← hrun.out, List.drop_eq_nil_of_le (by omega)]; rfl
      have hnx := fun ty => Lib.run_next_end_at (P := Tryz.prog) wr KB ⟨s.toArray⟩ k ty hkb (by simpa [ByteArray.size] using hlt)
      clear hrun hkb
      go_wp2_with fail
      go_ret
      exact ⟨rfl, by first | exact hB | (rw [← hKB]; exact hB)⟩
set_option maxRecDepth 100000 in
set_option maxHeartbeats 4000000 in
theorem part_any (s : List UInt8) (L : List IFld) (g o0 c i : Nat) (x : List UInt8) (b p : Nat) (w : World) (hfi : L[i]? = some (x, (b : Int))) (hp : sumB (L.take i) = (p : Int)) (hpb : p + b ≤ s.length) (hn : s.length ≤ 256) (hc : L.length ≤ c) (hL : L.length ≤ 4096) (hf : ∀ f ∈ L, 0 ≤ f.2 ∧ f.2 ≤ 32) (hr : IRF w (some ⟨g, o0, none⟩) L) :
    Calls Tryz.prog 34 #[.string ⟨s.toArray⟩, .slice (some ⟨g, o0, none⟩) L.length c, .int .i64 (i : Int)] w fun e w' => e = .returned (.string ⟨(subL s p (p + b)).toArray⟩) ∧ Below w.heap.size w w' := by
  have hil : i < L.length := (List.getElem?_eq_some_iff.1 hfi).1
  have htl : (L.take i).length = i := by rw [List.length_take]; omega
  have HW := widthOf_any (L.take i) (some ⟨g, o0, none⟩) c w (by omega) (fun f hf' => hf f (List.mem_of_mem_take hf')) (hr.take i)
  rw [hp, htl] at HW
  have j0 : (0 : Int) ≤ (i : Int) := by omega
  have j1 : (i : Int) ≤ (c : Int) := by omega
  have j2 : (i : Int) < (L.length : Int) := by omega
  have m0 : (0 : Int) ≤ (p : Int) := by omega
  have m1 : (p : Int) ≤ (p : Int) + (b : Int) := by omega
  have m2 : (p : Int) + (b : Int) ≤ (s.length : Int) := by omega
  have e9 : IntKind.i64.wrap ((p : Int) + (b : Int)) = (p : Int) + (b : Int) := by rw [IntKind.wrap_i64]; omega
  have t9 : ((p : Int) + (b : Int)).toNat = p + b := by omega
  have XF : Hid (∀ W : World, Below w.heap.size w W → W.cell? ⟨g, o0 + i * 2 + 1, none⟩ = some (.int .i64 (b : Int))) := fun W hW => by
    obtain ⟨g3, q3, h1, -, h2⟩ := hr W hW i _ hfi
    injection h1 with h1
    injection h1 with h1 h4
    subst h1 h4
    exact h2
  have hE := ext_sub s p (p + b)
  obtain ⟨Y, hY⟩ : ∃ Y, subL s p (p + b) = Y := ⟨_, rfl⟩
  rw [hY] at hE ⊢
  clear hY hf hr hfi hp htl
  go_enter Tryz.func34, Tryz.ntmps34
  go_wp2_with fail
  refine HW.mono ?_
  rintro e W1 ⟨rfl, hb1⟩
  have z0 := XF.out W1 hb1
  go_wp2_with fail
  go_ret
  exact ⟨by first | rfl | (rw [← hE]; rfl), hb1⟩
end Go.Proofs.YtodhcnjkiollaaaGreatDoor
namespace Go.Proofs.YtodhcnjkiollaaaGreatDoor
open Go.RowKit Go.Shelf
theorem info_int : (Tryz.prog.info? 3).map (fun i => (i.zero, i.size, i.bytes)) = some (some (.int .i64 0), 1, 8) := by kernel_rfl
def ivs (V : List Int) : List Value := V.map fun v => .int .i64 v
theorem IRV_own {W : World} {B n : Nat} {o : Option Addr} {c : Nat} {V : List Int} (h : W.ownsRow B 3 1 (.slice o n c) n (ivs V)) (hn : V.length = n) : IRV W o V := fun W' hW k f hf => by
  have hk := (List.getElem?_eq_some_iff.1 hf).1
  obtain ⟨g, rfl⟩ := own_at h (by omega)
  have h2 := owns_below h hW
  exact ⟨g, 0, rfl, by rw [Nat.zero_add]; exact (h2.cellAt k (by omega)).trans (by simp [ivs, hf])⟩
end Go.Proofs.YtodhcnjkiollaaaGreatDoor
namespace Go.Proofs.YtodhcnjkiollaaaGreatDoor
open Go.RowKit Go.Shelf
set_option maxRecDepth 100000 in
set_option maxHeartbeats 8000000 in
theorem refOf_any (n : Nat) (s : List UInt8) (w : World) (h2 : n ≤ 256) : Calls Tryz.prog 46 #[.string ⟨s.toArray⟩, .string ⟨#[48, 49]⟩, .int .i64 (n : Int)] w fun e w' => e = .returned (.bool (hdB n s)) ∧ Below w.heap.size w w' := by
  by_cases hl : ¬ s.length = n
  · have i1 : ((s.length : Int) != (n : Int)) = true := by simp only [bne_iff_ne]; omega
    have hr : Hid (hdB n s = false) := by unfold Hid hdB; rw [decide_eq_false hl]; rfl
    go_enter Tryz.func46, Tryz.ntmps46
    go_wp2_with fail
    go_ret
    exact ⟨by rw [hr.out]; rfl, Below.refl _ _⟩
  replace hl := Classical.not_not.1 hl
  have i1 : ((s.length : Int) != (n : Int)) = false := by rw [hl]; simp
  obtain ⟨q, hq⟩ : ∃ q, hdB n s = q := ⟨_, rfl⟩
  rw [hq]
  have HNO : Hid (∀ (k : Nat) (c : UInt8), s[k]? = some c → dg01 c = false → q = false) := fun k c h hc => by rw [← hq]; exact hdB_no h hc
  have HYES : Hid ((∀ (k : Nat) (c : UInt8), s[k]? = some c → dg01 c = true) → q = true) := fun h => by rw [← hq]; exact hdB_yes hl h
  have HL : Hid (s.length = n) := hl
  have hs256 : s.length ≤ 256 := by omega
  clear hq hl
  go_enter Tryz.func46, Tryz.ntmps46
  go_wp2_with fail
  go_loopw [7] (fun vk wr => ∃ k : Nat, vk = .int .i64 k ∧ k ≤ s.length ∧ Hid (∀ (j : Nat) (c : UInt8), j < k → s[j]? = some c → dg01 c = true) ∧ Below w.heap.size w wr) (fun vk _ => s.length - (intOf vk).toNat)
  case atStart => exact ⟨0, rfl, Nat.zero_le _, fun j c hj => by omega, Below.refl _ _⟩
  case round =>
    obtain ⟨k, rfl, hk, hno, hB⟩ := hrel
    by_cases hlt : k < s.length
    · have j0 : (0 : Int) ≤ (k : Int) := by omega
      have j1 : (k : Int) < (s.length : Int) := by omega
      obtain ⟨c, hc, hlc⟩ := byte_get s k hlt
      have HNK : Hid (dg01 c = false → q = false) := HNO.out k c hlc
      have HNX : Hid (dg01 c = true → ∀ (j : Nat) (d : UInt8), j < k + 1 → s[j]? = some d → dg01 d = true) := fun h j d hj hd => by
        rcases Nat.lt_or_ge j k with h3 | h3
        · exact hno.out j d h3 hd
        · obtain rfl : j = k := by omega
          rw [hlc] at hd
          rw [← Option.some.inj hd]
          exact h
      clear hlc hno
      go_wp2_with fail
      go_loopw [8, 9] (fun vf vj wi => ∃ (j : Nat) (f : Bool), vj = .int .i64 j ∧ j ≤ 2 ∧ vf = .bool f ∧ Hid ((j = 0 → f = false) ∧ (j = 1 → f = (c == 48)) ∧ (j = 2 → f = dg01 c)) ∧ Below w.heap.size w wi) (fun _ vj _ => 2 - (intOf vj).toNat)
      case atStart => exact ⟨0, false, rfl, by omega, rfl, ⟨fun _ => rfl, fun h => by omega, fun h => by omega⟩, hB⟩
      case round =>
        clear hB
        obtain ⟨j, f, rfl, hj, rfl, hf, hB⟩ := hrel
        rcases (show j = 0 ∨ j = 1 ∨ j = 2 by omega) with hj0 | hj1 | hj2
        · obtain rfl : f = false := hf.out.1 hj0
          have q0 : (j : Int) < 2 := by omega
          have q1 : (0 : Int) ≤ (j : Int) := by omega
          have HJ : Hid (j = 0) := hj0
          obtain ⟨e0, he0⟩ : ∃ e, (c == 48) = e := ⟨_, rfl⟩
          have HE : Hid ((((c.toNat : Int)) == 48) = e0) := by
            unfold Hid
            rw [← he0, Bool.eq_iff_iff, beq_iff_eq, beq_iff_eq]
            exact ⟨fun h => UInt8.toNat_inj.1 (by show c.toNat = 48; omega), fun h => by rw [h]; rfl⟩
          have HF2 : Hid ((j + 1 = 0 → e0 = false) ∧ (j + 1 = 1 → e0 = (c == 48)) ∧ (j + 1 = 2 → e0 = dg01 c)) := ⟨fun h => by omega, fun _ => he0.symm, fun h => by have := HJ.out; omega⟩
          clear hf hj0 he0
          go_wp2_with fail
          refine quiet_lit3 (C := fun W => Below w.heap.size w W) (by kernel_rfl) (by kernel_rfl) (show Below _ _ _ from hB.drew) ?_
          go_big_quiet_want
          go_big_quiet_op
          go_big_quiet_on
          go_big_quiet_want
          go_big_quiet_op
          go_big_quiet_on
          go_big_quiet_want
          go_big_quiet_op
          go_big_quiet_on
          go_big_quiet_want
          go_big_quiet_op
          go_big_quiet_on
          go_big_quiet_want
          refine ⟨.int .u8 (c.toNat : Int), fun W hW => ?_, ?_⟩
          · go_simp
          go_big_quiet_on
          simp only [Act.put, List.setIfInBounds_toArray, List.set_cons_zero, List.set_cons_succ]
          go_big_quiet_want
          go_big_quiet_op
          go_big_quiet_on
          go_big_quiet_want
          go_big_quiet_op
          go_big_quiet_on
          go_big_quiet_want
          refine ⟨.int .u8 48, fun W hW => ?_, ?_⟩
          · have hj0 := HJ.out
            subst hj0
            go_simp
            rfl
          go_big_quiet_on
          simp only [Act.put, List.setIfInBounds_toArray, List.set_cons_zero, List.set_cons_succ]
          go_big_quiet_want
          refine ⟨.bool e0, fun W hW => ?_, ?_⟩
          · go_simp
            exact HE.out
          go_big_quiet_on
          simp only [Act.put, List.setIfInBounds_toArray, List.set_cons_zero, List.set_cons_succ]
          go_big_quiet_want
          refine ⟨.bool e0, fun W hW => ?_, ?_⟩
          · go_simp
          go_big_quiet_on
          simp only [Act.put, List.setIfInBounds_toArray, List.set_cons_zero, List.set_cons_succ]
          go_big_quiet_want
          go_big_quiet_op
          go_big_quiet_on
          refine wpQuiet_nil ?_
          intro W hW
          go_wp2_with fail
          go_roundw
          case rel => exact ⟨j + 1, e0, by go_num, by have := HJ.out; omega, rfl, HF2, hW⟩
          case measure => simp [intOf]; omega
        · have hf1 : f = (c == 48) := hf.out.2.1 hj1
          have q0 : (j : Int) < 2 := by omega
          have q1 : (0 : Int) ≤ (j : Int) := by omega
          have HJ : Hid (j = 1) := hj1
          cases f with
          | true =>
            have HF2 : Hid ((j + 1 = 0 → true = false) ∧ (j + 1 = 1 → true = (c == 48)) ∧ (j + 1 = 2 → true = dg01 c)) := ⟨fun h => by omega, fun h => by have := HJ.out; omega, fun _ => by unfold dg01; rw [← hf1]; rfl⟩
            clear hf hj1 hf1
            go_wp2_with fail
            refine quiet_lit3 (C := fun W => Below w.heap.size w W) (by kernel_rfl) (by kernel_rfl) (show Below _ _ _ from hB.drew) ?_
            go_big_quiet_want
            go_big_quiet_op
            go_big_quiet_on
            go_big_quiet_want
            go_big_quiet_op
            go_big_quiet_on
            go_big_quiet_skip
            go_big_quiet_skip
            go_big_quiet_skip
            go_big_quiet_skip
            go_big_quiet_skip
            go_big_quiet_skip
            go_big_quiet_skip
            go_big_quiet_want
            refine ⟨.bool true, fun W hW => ?_, ?_⟩
            · go_simp
            go_big_quiet_on
            simp only [Act.put, List.setIfInBounds_toArray, List.set_cons_zero, List.set_cons_succ]
            go_big_quiet_want
            go_big_quiet_op
            go_big_quiet_on
            refine wpQuiet_nil ?_
            intro W hW
            go_wp2_with fail
            go_roundw
            case rel => exact ⟨j + 1, true, by go_num, by have := HJ.out; omega, rfl, HF2, hW⟩
            case measure => simp [intOf]; omega
          | false =>
            obtain ⟨e0, he0⟩ : ∃ e, (c == 49) = e := ⟨_, rfl⟩
            have HE : Hid ((((c.toNat : Int)) == 49) = e0) := by
              unfold Hid
              rw [← he0, Bool.eq_iff_iff, beq_iff_eq, beq_iff_eq]
              exact ⟨fun h => UInt8.toNat_inj.1 (by show c.toNat = 49; omega), fun h => by rw [h]; rfl⟩
            have HF2 : Hid ((j + 1 = 0 → e0 = false) ∧ (j + 1 = 1 → e0 = (c == 48)) ∧ (j + 1 = 2 → e0 = dg01 c)) := ⟨fun h => by omega, fun h => by have := HJ.out; omega, fun _ => by unfold dg01; rw [← hf1, he0]; rfl⟩
            clear hf hj1 hf1 he0
            go_wp2_with fail
            refine quiet_lit3 (C := fun W => Below w.heap.size w W) (by kernel_rfl) (by kernel_rfl) (show Below _ _ _ from hB.drew) ?_
            go_big_quiet_want
            go_big_quiet_op
            go_big_quiet_on
            go_big_quiet_want
            go_big_quiet_op
            go_big_quiet_on
            go_big_quiet_want
            go_big_quiet_op
            go_big_quiet_on
            go_big_quiet_want
            go_big_quiet_op
            go_big_quiet_on
            go_big_quiet_want
            refine ⟨.int .u8 (c.toNat : Int), fun W hW => ?_, ?_⟩
            · go_simp
            go_big_quiet_on
            simp only [Act.put, List.setIfInBounds_toArray, List.set_cons_zero, List.set_cons_succ]
            go_big_quiet_want
            go_big_quiet_op
            go_big_quiet_on
            go_big_quiet_want
            go_big_quiet_op
            go_big_quiet_on
            go_big_quiet_want
            refine ⟨.int .u8 49, fun W hW => ?_, ?_⟩
            · have hj0 := HJ.out
              subst hj0
              go_simp
              rfl
            go_big_quiet_on
            simp only [Act.put, List.setIfInBounds_toArray, List.set_cons_zero, List.set_cons_succ]
            go_big_quiet_want
            refine ⟨.bool e0, fun W hW => ?_, ?_⟩
            · go_simp
              exact HE.out
            go_big_quiet_on
            simp only [Act.put, List.setIfInBounds_toArray, List.set_cons_zero, List.set_cons_succ]
            go_big_quiet_want
            refine ⟨.bool e0, fun W hW => ?_, ?_⟩
            · go_simp
            go_big_quiet_on
            simp only [Act.put, List.setIfInBounds_toArray, List.set_cons_zero, List.set_cons_succ]
            go_big_quiet_want
            go_big_quiet_op
            go_big_quiet_on
            refine wpQuiet_nil ?_
            intro W hW
            go_wp2_with fail
            go_roundw
            case rel => exact ⟨j + 1, e0, by go_num, by have := HJ.out; omega, rfl, HF2, hW⟩
            case measure => simp [intOf]; omega
        · have hf2 : f = dg01 c := hf.out.2.2 hj2
          have q0 : ¬ (j : Int) < 2 := by omega
          clear hf hj2
          cases f with
          | true =>
            have HN2 : Hid (∀ (j : Nat) (d : UInt8), j < k + 1 → s[j]? = some d → dg01 d = true) := HNX.out hf2.symm
            clear HNX HNK hf2
            go_wp2_with fail
            go_roundw
            case rel => exact ⟨k + 1, by go_num, by omega, HN2, hB⟩
            case measure => simp [intOf]; omega
          | false =>
            obtain rfl : q = false := HNK.out hf2.symm
            clear HNX HNK hf2
            go_wp2_with fail
            go_ret
            exact ⟨rfl, hB⟩
    · have j1 : ¬ (k : Int) < (s.length : Int) := by omega
      obtain rfl : q = true := HYES.out (fun j d hd => hno.out j d (by have := (List.getElem?_eq_some_iff.1 hd).1; omega) hd)
      go_wp2_with fail
      go_ret
      exact ⟨rfl, hB⟩
/-- where a field's places begin -/
def plN (L : List IFld) (i : Nat) : Nat := (sumB (L.take i)).toNat
/-- the values of a header's fields -/
def uvL (L : List IFld) (s : List UInt8) : List Int := (List.range L.length).map fun i => (valF 0 (subL s (plN L i) (plN L i + (L.getD i ([], 0)).2.toNat)) : Int)
/-- what Unpack answers -/
def unM (L : List IFld) (s : List UInt8) : List Int × Int := if (chkM L).1 ≠ 0 then ([], (chkM L).1) else if hdB (sumB L).toNat s = false then ([], 46) else (uvL L s, 0)
theorem uvL_len (L : List IFld) (s : List UInt8) : (uvL L s).length = L.length := by simp [uvL]
theorem uvL_at {L : List IFld} {s : List UInt8} {k p b : Nat} {x : List UInt8} (hf : L[k]? = some (x, (b : Int))) (hp : sumB (L.take k) = (p : Int)) : (uvL L s)[k]? = some (valF 0 (subL s p (p + b)) : Int) := by
  have hk := (List.getElem?_eq_some_iff.1 hf).1
  unfold uvL plN
  rw [List.getElem?_map, List.getElem?_range hk, Option.map_some, hp, Int.toNat_natCast]
  simp [List.getD, hf]
def unR (w : World) (R : List Int × Int) (e : Ending) (w' : World) : Prop := ∃ v, e = .returned (.tuple #[v, .int .i64 R.2]) ∧ w'.ownsRow w.heap.size 3 1 v R.1.length (ivs R.1) ∧ Below w.heap.size w w'
theorem ivs_set (V : List Int) (k m : Nat) {v : Int} (hv : V[k]? = some v) : (ivs (V.take k ++ List.replicate (m + 1) 0)).set k (.int .i64 v) = ivs (V.take (k + 1) ++ List.replicate m 0) := by
  have hk := (List.getElem?_eq_some_iff.1 hv).1
  have hl : (V.take k).length = k := by rw [List.length_take]; omega
  unfold ivs
  rw [← List.map_set, List.set_append_right _ _ (by omega), hl, Nat.sub_self, List.replicate_succ, List.set_cons_zero, List.take_add_one, hv, List.append_assoc]
  rfl
theorem sub_all {s : List UInt8} {a b : Nat} (h : s.all dg01 = true) : (subL s a b).all dg01 = true := by
  rw [List.all_eq_true] at h ⊢
  intro c hc
  unfold subL at hc
  exact h c (List.mem_of_mem_drop (List.mem_of_mem_take hc))
set_option maxRecDepth 100000 in
set_option maxHeartbeats 8000000 in
theorem unpack_any (L : List IFld) (o : Option Addr) (c : Nat) (s : List UInt8) (w : World) (hL : L.length ≤ 281474976710656) (hc : L.length ≤ c) (hx : ∀ f ∈ L, f.1.length ≤ 281474976710656) (hr : IRF w o L) (hv1 : SH w) (hv4 : SG w) (hv5 : VW w) :
    Calls Tryz.prog 11 #[.slice o L.length c, .string ⟨s.toArray⟩] w fun e w' => unR w (unM L s) e w' := by
  have HC := check_any L o c w hL hc hx hr hv1 hv4 hv5
  obtain ⟨R, hR⟩ : ∃ R, unM L s = R := ⟨_, rfl⟩
  rw [hR]
  by_cases h0 : ¬ (chkM L).1 = 0
  · have hres : Hid (R = ([], (chkM L).1)) := by unfold Hid; rw [← hR]; unfold unM; rw [if_pos h0]
    obtain ⟨ce, hce⟩ : ∃ x, (chkM L).1 = x := ⟨_, rfl⟩
    rw [hce] at HC h0 hres
    have y1 : (ce != 0) = true := by simpa using h0
    clear hx hr hv1 hv4 hv5 hR hce
    go_enter Tryz.func11, Tryz.ntmps11
    go_wp2_with fail
    refine HC.mono ?_
    rintro e W1 ⟨rfl, hb1⟩
    go_wp2_with fail
    refine bodyPost_ret (results_tmp2 rfl _ _ _) rfl ?_
    refine ⟨.slice none 0 0, ?_, ?_, hb1⟩
    · rw [hres.out]
      rfl
    · rw [hres.out]
      exact World.ownsRow_nil _ _ _ _
  replace h0 := Classical.not_not.1 h0
  rw [h0] at HC
  obtain ⟨k1, k2, k3, k4⟩ := chk_ok h0
  have hb0 : ∀ f ∈ L, 0 ≤ f.2 ∧ f.2 ≤ 32 := fun f hf => by have := k3 f hf; omega
  obtain ⟨n, hn⟩ : ∃ n : Nat, sumB L = (n : Int) := ⟨(sumB L).toNat, by have := (sumB_bound L hb0).1; omega⟩
  have hn256 : n ≤ 256 := by omega
  have hn1 : 1 ≤ n := by
    obtain ⟨f0, hf0⟩ : ∃ f, L[0]? = some f := ⟨_, List.getElem?_eq_getElem k1⟩
    have h1 := sumB_take hf0
    have h2 := sumB_take_le hb0 (0 + 1)
    have h3 := k3 f0 (List.mem_of_getElem? hf0)
    have h4 : sumB (L.take 0) = 0 := rfl
    omega
  have HRR : Hid (unM L s = R) := hR
  have hun : unM L s = if hdB n s = false then ([], 46) else (uvL L s, 0) := by unfold unM; rw [if_neg (fun h => h h0), hn, Int.toNat_natCast]
  obtain ⟨f0, hf0⟩ : ∃ f, L[0]? = some f := ⟨_, List.getElem?_eq_getElem k1⟩
  obtain ⟨g, o0, rfl, -⟩ := hr w (Below.refl _ _) 0 f0 hf0
  have HR : Hid (IRF w (some ⟨g, o0, none⟩) L) := hr
  have HK3 : Hid (∀ f ∈ L, 1 ≤ f.2 ∧ f.2 ≤ 32) := k3
  have HB0 : Hid (∀ f ∈ L, 0 ≤ f.2 ∧ f.2 ≤ 32) := hb0
  have HN : Hid (sumB L = (n : Int)) := hn
  obtain ⟨i0, hi, hz0, hz1, hz2⟩ := info_parts info_int
  have HWD : Hid (∀ W : World, Below w.heap.size w W → Calls Tryz.prog 31 #[.slice (some ⟨g, o0, none⟩) L.length c] W fun e w' => e = .returned (.int .i64 (n : Int)) ∧ Below W.heap.size W w') := fun W hW => by
    have := widthOf_any L (some ⟨g, o0, none⟩) c W (by omega) hb0 (hr.later hW)
    rw [hn] at this
    exact this
  have HAL : Hid (∀ W : World, Calls Tryz.prog 30 #[.int .i64 (n : Int)] W fun e w' => e = .returned (.agg #[.int .i64 (n : Int), .int .u64 0, .int .u64 0, .int .u64 0, .int .u64 0, .int .u64 0, .int .u64 0, .int .u64 0, .int .u64 0]) ∧ Below W.heap.size W w') := fun W => all_yes n W (by omega) (by omega)
  have HHS : Hid (∀ W : World, Calls Tryz.prog 32 #[.agg #[.int .i64 (n : Int), .int .u64 0, .int .u64 0, .int .u64 0, .int .u64 0, .int .u64 0, .int .u64 0, .int .u64 0, .int .u64 0], .string ⟨s.toArray⟩] W fun e w' => e = .returned (.bool (hdB n s)) ∧ Below W.heap.size W w') := fun W => has_x n s W hn1 hn256
  cases hh : hdB n s with
  | false =>
    have hres : Hid (R = ([], 46)) := by unfold Hid; rw [← hR, hun, hh, if_pos rfl]
    simp only [hh] at HHS
    clear hx hr hv1 hv4 hv5 hR h0 k3 k4 hb0 hn hf0 hun hh
    go_enter Tryz.func11, Tryz.ntmps11
    go_wp2_with fail
    refine HC.mono ?_
    rintro e W1 ⟨rfl, hb1⟩
    go_wp2_with fail
    refine (HWD.out _ hb1).mono ?_
    rintro e W2 ⟨rfl, hb2⟩
    go_wp2_with fail
    refine (HAL.out _).mono ?_
    rintro e W3 ⟨rfl, hb3⟩
    go_wp2_with fail
    refine (HHS.out _).mono ?_
    rintro e W4 ⟨rfl, hb4⟩
    go_wp2_with fail
    refine bodyPost_ret (results_tmp2 rfl _ _ _) rfl ?_
    refine ⟨.slice none 0 0, ?_, ?_, bel0 (bel0 (bel0 hb1 hb2) hb3) hb4⟩
    · rw [hres.out]
      rfl
    · rw [hres.out]
      exact World.ownsRow_nil _ _ _ _
  | true =>
    have hres : Hid (R = (uvL L s, 0)) := by unfold Hid; rw [← hR, hun, hh, if_neg (by decide)]
    have hh2 := hh
    unfold hdB at hh2
    rw [Bool.and_eq_true, decide_eq_true_eq] at hh2
    have HSL : Hid (s.length = n) := hh2.1
    have HSA : Hid (s.all dg01 = true) := hh2.2
    simp only [hh] at HHS
    clear hx hr hv1 hv4 hv5 hR h0 k3 k4 hb0 hn hf0 hun hh hh2
    go_enter Tryz.func11, Tryz.ntmps11
    go_wp2_with fail
    refine HC.mono ?_
    rintro e W1 ⟨rfl, hb1⟩
    go_wp2_with fail
    refine (HWD.out _ hb1).mono ?_
    rintro e W2 ⟨rfl, hb2⟩
    go_wp2_with fail
    refine (HAL.out _).mono ?_
    rintro e W3 ⟨rfl, hb3⟩
    go_wp2_with fail
    refine (HHS.out _).mono ?_
    rintro e W4 ⟨rfl, hb4⟩
    have hB4 := bel0 (bel0 (bel0 hb1 hb2) hb3) hb4
    have hsz4 := hB4.size
    clear HC HWD HAL HHS hb1 hb2 hb3 hb4
    go_wp2_with (at_make; refine wpList_make_full _ rfl _ _ 22 rfl w.heap.size 3 i0 (.int .i64 0) 1 Tryz.underlying22 hi hz0 hz1 .i64 .i64 _ _ L.length rfl rfl rfl rfl (by rw [hz2]; omega) (by unfold maxLen; omega) hsz4 ?_; intro w5 hO5 hg5)
    have hz5 : (madeCells (Value.int .i64 0).cells (L.length * 1)).toList = ivs (List.replicate L.length 0) := by
      rw [Nat.mul_one]
      have := toList_madeCells_one (.int .i64 0) L.length
      unfold ivs
      rw [List.map_replicate]
      exact this
    rw [hz5] at hO5
    have O5 : Hid (w5.ownsRow w.heap.size 3 1 (.slice (some ⟨W4.heap.size, 0, none⟩) L.length L.length) L.length (ivs (List.replicate L.length 0))) := hO5
    have B5 : Hid (Below w.heap.size w w5) := hB4.grown hg5 hsz4 (fun k e => by cases e)
    clear hO5 hg5 hz5 hB4
    obtain ⟨G, hG⟩ : ∃ G, W4.heap.size = G := ⟨_, rfl⟩
    rw [hG] at O5 hsz4
    try rw [hG]
    go_loopw [29] (fun vk wr => ∃ k : Nat, k ≤ L.length ∧ vk = .int .i64 k ∧ wr.ownsRow w.heap.size 3 1 (.slice (some ⟨G, 0, none⟩) L.length L.length) L.length (ivs ((uvL L s).take k ++ List.replicate (L.length - k) 0)) ∧ Below w.heap.size w wr) (fun vk _ => L.length - (intOf vk).toNat)
    case atStart => exact ⟨0, Nat.zero_le _, rfl, O5.out, B5.out⟩
    case round =>
      clear O5 B5
      obtain ⟨k, hk, rfl, hown, hB⟩ := hrel
      by_cases hlt : k < L.length
      · have j1 : (k : Int) < (L.length : Int) := by omega
        have j0 : (0 : Int) ≤ (k : Int) := by omega
        obtain ⟨f, hf⟩ : ∃ f, L[k]? = some f := ⟨_, List.getElem?_eq_getElem hlt⟩
        have hbits := HK3.out f (List.mem_of_getElem? hf)
        have hst := sumB_take hf
        have hpb := (sumB_bound (L.take k) (fun f hf => HB0.out f (List.mem_of_mem_take hf))).1
        obtain ⟨p, hp⟩ : ∃ p : Nat, sumB (L.take k) = (p : Int) := ⟨(sumB (L.take k)).toNat, by omega⟩
        have hle := sumB_take_le HB0.out (k + 1)
        rw [hst, HN.out, hp] at hle
        obtain ⟨x, bi⟩ := f
        obtain ⟨b, rfl⟩ : ∃ b : Nat, bi = (b : Int) := ⟨bi.toNat, by simp only at hbits; omega⟩
        simp only at hbits hle
        have hU := uvL_at (s := s) hf hp
        have HPT : Hid (∀ W : World, Below w.heap.size w W → Calls Tryz.prog 34 #[.string ⟨s.toArray⟩, .slice (some ⟨g, o0, none⟩) L.length c, .int .i64 (k : Int)] W fun e w' => e = .returned (.string ⟨(subL s p (p + b)).toArray⟩) ∧ Below W.heap.size W w') := fun W hW => part_any s L g o0 c k x b p W hf hp (by rw [HSL.out]; omega) (by rw [HSL.out]; omega) hc (by omega) HB0.out (HR.out.later hW)
        have hYl : (subL s p (p + b)).length ≤ 32 := by unfold subL; rw [List.length_take]; omega
        have HVO : Hid (∀ W : World, Calls Tryz.prog 33 #[.string ⟨(subL s p (p + b)).toArray⟩] W fun e w' => e = .returned (.int .i64 (valF 0 (subL s p (p + b)) : Int)) ∧ Below W.heap.size W w') := fun W => fvalue_any _ W hYl (sub_all HSA.out)
        have e1 : L.length - k = (L.length - (k + 1)) + 1 := by omega
        have hset := ivs_set (uvL L s) k (L.length - (k + 1)) hU
        rw [← e1] at hset
        obtain ⟨Y, hY⟩ : ∃ Y, subL s p (p + b) = Y := ⟨_, rfl⟩
        obtain ⟨vv, hvv⟩ : ∃ v : Nat, valF 0 Y = v := ⟨_, rfl⟩
        simp only [hY] at HPT
        simp only [hY, hvv] at HVO
        rw [hY, hvv] at hset
        have HSET : Hid ((ivs ((uvL L s).take k ++ List.replicate (L.length - k) 0)).set k (.int .i64 (vv : Int)) = ivs ((uvL L s).take (k + 1) ++ List.replicate (L.length - (k + 1)) 0)) := hset
        have HLL : Hid ((ivs ((uvL L s).take k ++ List.replicate (L.length - k) 0)).length = L.length) := by
          unfold Hid ivs
          rw [List.length_map, List.length_append, List.length_take, List.length_replicate, uvL_len]
          omega
        have HO : Hid (wr.ownsRow w.heap.size 3 1 (.slice (some ⟨G, 0, none⟩) L.length L.length) L.length (ivs ((uvL L s).take k ++ List.replicate (L.length - k) 0))) := hown
        clear hf hst hpb hp hU hset hY hvv hown e1 hYl
        go_wp2_with fail
        refine (HPT.out _ hB).mono ?_
        rintro e W6 ⟨rfl, hb6⟩
        go_wp2_with fail
        refine (HVO.out _).mono ?_
        rintro e W7 ⟨rfl, hb7⟩
        have hb67 := bel0 hb6 hb7
        have hB7 := bel0 hB hb67
        have o7 := owns_below HO.out hb67
        have fr : ∀ j, W7.frozen? ⟨G, j, none⟩ = false := o7.frozenAt
        obtain ⟨z, hz⟩ : ∃ z, W7.cell? ⟨G, k, none⟩ = some z := ⟨_, (o7.cellAt k (by omega)).trans (List.getElem?_eq_getElem (by rw [HLL.out]; exact hlt))⟩
        have st := o7.stored k (.int .i64 (vv : Int))
        rw [HSET.out] at st
        have Q1 : Hid ((W7.setCell ⟨G, k, none⟩ (.int .i64 (vv : Int))).ownsRow w.heap.size 3 1 (.slice (some ⟨G, 0, none⟩) L.length L.length) L.length (ivs ((uvL L s).take (k + 1) ++ List.replicate (L.length - (k + 1)) 0))) := st.1
        have Q2 : Hid (Below w.heap.size w (W7.setCell ⟨G, k, none⟩ (.int .i64 (vv : Int)))) := hB7.setCell (p := ⟨G, k, none⟩) hsz4 _
        clear o7 st HPT HVO HO HSET HLL hb6 hb7 hb67 hB7 hB
        go_wp2_with fail
        go_roundw
        case rel => exact ⟨k + 1, by omega, by go_num, Q1.out, Q2.out⟩
        case measure => simp [intOf]; omega
      · have j1 : ¬ (k : Int) < (L.length : Int) := by omega
        obtain rfl : k = L.length := by omega
        rw [Nat.sub_self, List.replicate_zero, List.append_nil, List.take_of_length_le (by rw [uvL_len]; exact Nat.le_refl _)] at hown
        have HO : Hid (wr.ownsRow w.heap.size 3 1 (.slice (some ⟨G, 0, none⟩) L.length L.length) L.length (ivs (uvL L s))) := hown
        clear hown
        go_wp2_with fail
        refine bodyPost_ret (results_tmp2 rfl _ _ _) rfl ?_
        refine ⟨.slice (some ⟨G, 0, none⟩) L.length L.length, ?_, ?_, hB⟩
        · rw [hres.out]
          rfl
        · rw [hres.out]
          show wr.ownsRow _ _ _ _ (uvL L s).length _
          rw [uvL_len]
          exact HO.out
end Go.Proofs.YtodhcnjkiollaaaGreatDoor
namespace Go.Proofs.YtodhcnjkiollaaaGreatDoor
open Go.RowKit Go.Shelf
/-- a digit's bit -/
def b01 (c : UInt8) : Nat := if c = 49 then 1 else 0
theorem valF_app : ∀ (A B : List UInt8) (v : Nat), valF v (A ++ B) = valF (valF v A) B
  | [], B, v => rfl
  | c :: A, B, v => by
    rw [List.cons_append, valF, valF]
    exact valF_app A B _
theorem valF_lin : ∀ (Y : List UInt8) (v : Nat), valF v Y = v * 2 ^ Y.length + valF 0 Y ∧ valF 0 Y < 2 ^ Y.length
  | [], v => ⟨by simp [valF], by simp [valF]⟩
  | c :: Y, v => by
    obtain ⟨h1, h2⟩ := valF_lin Y (2 * v + (if c = 49 then 1 else 0))
    obtain ⟨h3, -⟩ := valF_lin Y (2 * 0 + (if c = 49 then 1 else 0))
    rw [valF, valF, h1, h3, List.length_cons, Nat.pow_succ]
    obtain ⟨P, hP⟩ : ∃ P, 2 ^ Y.length = P := ⟨_, rfl⟩
    rw [hP] at h2 ⊢
    by_cases hc : c = 49
    · rw [if_pos hc, Nat.add_mul, Nat.mul_comm P 2, ← Nat.mul_assoc, Nat.mul_comm v 2]
      omega
    · rw [if_neg hc, Nat.add_mul, Nat.mul_comm P 2, ← Nat.mul_assoc, Nat.mul_comm v 2]
      omega
theorem bit01 {c : UInt8} (h : dg01 c = true) : UInt8.ofNat (48 + b01 c) = c := by
  unfold dg01 at h
  rw [Bool.or_eq_true, beq_iff_eq, beq_iff_eq] at h
  rcases h with rfl | rfl <;> rfl
/-- a text of digits is its number's digits -/
theorem digL_valF {Y : List UInt8} (h : Y.all dg01 = true) : digL Y.length (valF 0 Y) 0 = Y := by
  apply List.ext_getElem?
  intro j
  by_cases hj : j < Y.length
  · rw [digL_get _ _ _ (Nat.zero_le _) j hj, if_pos (by omega), List.getElem?_eq_getElem hj]
    have hc := List.all_eq_true.1 h Y[j] (List.getElem_mem hj)
    have e : Y = Y.take j ++ (Y[j] :: Y.drop (j + 1)) := by rw [← List.drop_eq_getElem_cons hj, List.take_append_drop]
    have hv : valF 0 Y = (2 * valF 0 (Y.take j) + b01 Y[j]) * 2 ^ (Y.length - 1 - j) + valF 0 (Y.drop (j + 1)) := by
      conv => lhs; rw [e]
      rw [valF_app, valF, (valF_lin (Y.drop (j + 1)) _).1, List.length_drop, show Y.length - (j + 1) = Y.length - 1 - j by omega]
      rfl
    have hlt := (valF_lin (Y.drop (j + 1)) 0).2
    rw [List.length_drop, show Y.length - (j + 1) = Y.length - 1 - j by omega] at hlt
    have hpos : 0 < 2 ^ (Y.length - 1 - j) := Nat.pow_pos (by decide)
    have hd : valF 0 Y / 2 ^ (Y.length - 1 - j) = 2 * valF 0 (Y.take j) + b01 Y[j] := by
      rw [hv, Nat.mul_comm, Nat.mul_add_div hpos, Nat.div_eq_of_lt hlt, Nat.add_zero]
    unfold bitB
    rw [hd]
    have hb : b01 Y[j] < 2 := by unfold b01; split <;> omega
    rw [show (2 * valF 0 (Y.take j) + b01 Y[j]) % 2 = b01 Y[j] by omega, bit01 hc]
  · rw [List.getElem?_eq_none (by rw [digL_len _ _ _ (Nat.zero_le _)]; omega), List.getElem?_eq_none (by omega)]
theorem valF_lt (Y : List UInt8) : valF 0 Y < 2 ^ Y.length := (valF_lin Y 0).2
theorem bitB_01 (b v p : Nat) : dg01 (bitB b v p) = true := by
  unfold bitB
  rcases (show v / 2 ^ (b - 1 - p) % 2 = 0 ∨ v / 2 ^ (b - 1 - p) % 2 = 1 by omega) with h | h <;> rw [h] <;> rfl
theorem digL_01 (b v : Nat) : (digL b v 0).all dg01 = true := by
  rw [← digL0, List.all_eq_true]
  intro c hc
  obtain ⟨p, -, rfl⟩ := List.mem_map.1 hc
  exact bitB_01 b v p
theorem valF_bits (b v : Nat) : ∀ (m j a : Nat), j + m = b → valF a ((List.range' j m).map (bitB b v)) = a * 2 ^ m + v % 2 ^ m
  | 0, j, a, h => by simp [valF, Nat.mod_one]
  | m + 1, j, a, h => by
    rw [List.range'_succ, List.map_cons, valF, valF_bits b v m (j + 1) _ (by omega)]
    have hb : (if bitB b v j = 49 then 1 else 0) = v / 2 ^ m % 2 := by
      unfold bitB
      rw [show b - 1 - j = m by omega]
      rcases (show v / 2 ^ m % 2 = 0 ∨ v / 2 ^ m % 2 = 1 by omega) with h | h <;> rw [h] <;> rfl
    rw [hb]
    have hm : v % 2 ^ (m + 1) = (v / 2 ^ m % 2) * 2 ^ m + v % 2 ^ m := by
      rw [Nat.pow_succ, Nat.mod_mul, Nat.mul_comm (2 ^ m), Nat.add_comm]
    rw [hm, Nat.add_mul, Nat.pow_succ]
    obtain ⟨P, hP⟩ : ∃ P, 2 ^ m = P := ⟨_, rfl⟩
    rw [hP, Nat.mul_comm 2 a, Nat.mul_assoc, Nat.mul_comm 2 P]
    omega
/-- the number of a number's digits -/
theorem valF_digL {b v : Nat} (h : v < 2 ^ b) : valF 0 (digL b v 0) = v := by
  rw [← digL0, List.range_eq_range', valF_bits b v b 0 0 (by omega), Nat.zero_mul, Nat.zero_add, Nat.mod_eq_of_lt h]
/-- when a list of fields is a layout -/
theorem chkL_of : ∀ (rest seen : List IFld), (∀ f ∈ rest, sizB f = true ∧ nmB f.1 = true) → (∀ f ∈ rest, ∀ g ∈ seen, g.1 ≠ f.1) → (rest.map (·.1)).Nodup → (∀ k, sumB (seen ++ rest.take k) ≤ 256) → chkL seen rest = (0, 0)
  | [], seen, _, _, _, _ => rfl
  | f :: r, seen, h1, h2, h3, h4 => by
    obtain ⟨s1, s2⟩ := h1 f (by simp)
    have hix : ¬ 0 ≤ idxF seen f.1 := by
      rw [idxF_ge]
      rintro ⟨g, hg, he⟩
      exact h2 f (by simp) g hg he
    have hw := h4 1
    rw [show (f :: r).take 1 = [f] from rfl] at hw
    have hb : badF seen f = false := by
      unfold badF
      rw [s1, s2, decide_eq_false hix, decide_eq_false (show ¬ 256 < sumB (seen ++ [f]) by omega)]
      rfl
    rw [List.map_cons, List.nodup_cons] at h3
    rw [chkL, hb, if_neg (by decide)]
    refine chkL_of r (seen ++ [f]) (fun g hg => h1 g (by simp [hg])) (fun g hg e he => ?_) h3.2 (fun k => ?_)
    · rcases List.mem_append.1 he with h | h
      · exact h2 g (by simp [hg]) e h
      · rw [List.mem_singleton.1 h]
        exact fun heq => h3.1 (by rw [heq]; exact List.mem_map_of_mem hg)
    · have := h4 (k + 1)
      rw [List.take_succ_cons] at this
      rw [List.append_assoc]
      exact this
theorem chk_of {L : List IFld} (h0 : 0 < L.length) (h12 : L.length ≤ 12) (h1 : ∀ f ∈ L, sizB f = true ∧ nmB f.1 = true) (h3 : (L.map (·.1)).Nodup) (h4 : sumB L ≤ 256) : chkM L = (0, 0) := by
  unfold chkM
  rw [if_neg (by omega), if_neg (by omega)]
  refine chkL_of L [] h1 (fun f hf g hg => by cases hg) h3 (fun k => ?_)
  have hb : ∀ f ∈ L, 0 ≤ f.2 ∧ f.2 ≤ 32 := fun f hf => by
    have := (h1 f hf).1
    unfold sizB at this
    simp only [Bool.and_eq_true, decide_eq_true_eq] at this
    omega
  have := sumB_take_le hb k
  rw [List.nil_append]
  omega
/-- the digits of all values, one field behind the other -/
def catD : List IFld → List Int → List UInt8
  | f :: L, v :: V => digL f.2.toNat v.toNat 0 ++ catD L V
  | _, _ => []
theorem pkF_cat : ∀ (L : List IFld) (V : List Int) (acc : List UInt8), (∀ (k : Nat) (f : IFld) (v : Int), L[k]? = some f → V[k]? = some v → 0 ≤ v ∧ v ≤ ((2 ^ f.2.toNat - 1 : Nat) : Int)) → pkF L V acc = (acc ++ catD L V, 0)
  | [], V, acc, _ => by simp [pkF, catD]
  | f :: L, [], acc, _ => by simp [pkF, catD]
  | f :: L, v :: V, acc, h => by
    rw [pkF, if_pos (h 0 f v rfl rfl), pkF_cat L V _ (fun k f' v' h1 h2 => h (k + 1) f' v' (by simpa using h1) (by simpa using h2)), catD, List.append_assoc]
end Go.Proofs.YtodhcnjkiollaaaGreatDoor

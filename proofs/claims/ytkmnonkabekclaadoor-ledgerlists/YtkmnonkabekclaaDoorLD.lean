import Derived.Test.YtkmnonkabekclaaDoorUA
import Derived.Test.YtkmnonkabekclaaDoorLC
import Derived.Laws.BitsAll
import Derived.Laws.ShiftsVar
namespace Go.Proofs.YtkmnonkabekclaaDoor
open Go.RowKit
/-- bytes lie there -/
def BR (w : World) (p : Option Addr) (l : List UInt8) : Prop := ∀ (k : Nat) (x : UInt8), l[k]? = some x → ∃ g o, p = some ⟨g, o, none⟩ ∧ w.cell? ⟨g, o + k, none⟩ = some (.int .u8 (x.toNat : Int))
theorem BR.below {w w' : World} {p : Option Addr} {l : List UInt8} (h : BR w p l) (hb : Below w.heap.size w w') : BR w' p l := fun k x hx => by
  obtain ⟨g, o, rfl, hc⟩ := h k x hx
  exact ⟨g, o, rfl, (hb.cell (World.block_lt_of_cell? w _ hc)).trans hc⟩
theorem BR.at {w : World} {g o : Nat} {l : List UInt8} (h : BR w (some ⟨g, o, none⟩) l) {k : Nat} {x : UInt8} (hx : l[k]? = some x) : w.cell? ⟨g, o + k, none⟩ = some (.int .u8 (x.toNat : Int)) := by
  obtain ⟨g', o', e, hc⟩ := h k x hx
  injection e with e
  injection e with e1 e2
  subst e1 e2
  exact hc
theorem wr_in {n : Int} (h : -9223372036854775808 ≤ n ∧ n ≤ 9223372036854775807) : wrap64 n = n := by unfold wrap64; omega
/-- the sum's table -/
def TBS (W : World) (b : Nat) : Prop := ∀ m t : Nat, tB[m]? = some t → W.cell? ⟨b, m, none⟩ = some (.int .u32 (t : Int))
theorem TBS_new {W : World} {b : Nat} (h : W.heap[b]? = some (.cells (tB.map (fun (t : Nat) => Value.int .u32 (t : Int))).toArray 78 (0, 0))) : TBS W b := fun m t ht => by
  rw [(cellsZ h).1]
  simp [ht]
theorem and15 {y : Nat} (h : y < 4294967296) : bits .and .u32 (y : Int) 15 = ((y % 16 : Nat) : Int) := by
  have := u32_and_nat y 15 h (by decide)
  rw [show ((15 : Nat) : Int) = 15 from rfl] at this
  rw [this, show (15 : Nat) = 2 ^ 4 - 1 from rfl, Nat.and_two_pow_sub_one_eq_mod]
theorem xor32 {a b : Nat} (ha : a < 4294967296) (hb : b < 4294967296) : bits .xor .u32 (a : Int) (b : Int) = ((a ^^^ b : Nat) : Int) := u32_xor_nat a b ha hb
theorem xor32d {a b : Nat} (ha : a < 4294967296) (hb : b < 4294967296) : bits .xor .u32 ((a : Int) / 16) (b : Int) = ((a / 16 ^^^ b : Nat) : Int) := by
  rw [show ((a : Int) / 16) = ((a / 16 : Nat) : Int) by omega]
  exact u32_xor_nat _ b (by omega) hb
theorem take_snoc {l : List UInt8} {i : Nat} {x : UInt8} (h : l[i]? = some x) : l.take (i + 1) = l.take i ++ [x] := by rw [List.take_add_one, h]; rfl
set_option maxRecDepth 100000 in
set_option maxHeartbeats 1000000 in
theorem sum_any (l : List UInt8) (p : Option Addr) (c : Nat) (w : World) (hL : l.length ≤ 281474976710656) (hr : BR w p l) :
    Calls Tryd.prog 18 #[.slice p l.length c] w fun e w' => e = .returned (.int .i64 (sumN l)) ∧ Below w.heap.size w w' := by
  have HR : Hid (BR w p l) := hr
  clear hr
  go_enter Tryd.func18, Tryd.ntmps18
  go_wp2_with fail
  go_loopw [4, 10] (fun vr vi wr => ∃ i r : Nat, vi = .int .i64 i ∧ i ≤ l.length ∧ vr = .int .u32 r ∧ r < 4294967296 ∧ Hid (r = sumR 4294967295 (l.take i)) ∧ Below w.heap.size w wr ∧ Hid (TBS wr w.heap.size)) (fun _ vi _ => l.length - (intOf vi).toNat)
  case atStart => exact ⟨0, 4294967295, rfl, Nat.zero_le _, rfl, by decide, rfl, (Below.refl _ _).alloc (Nat.le_refl _) _, TBS_new (alloc_getZ _ _)⟩
  case round =>
    obtain ⟨i, r, rfl, hi, rfl, hr32, hs, hB, hT⟩ := hrel
    by_cases hlt : i < l.length
    · have j1 : (i : Int) < (l.length : Int) := by omega
      have j0 : (0 : Int) ≤ (i : Int) := by omega
      obtain ⟨x, hx⟩ : ∃ x, l[i]? = some x := ⟨_, List.getElem?_eq_getElem hlt⟩
      obtain ⟨g, o, rfl, hc⟩ := (HR.out.below hB) i x hx
      have hx8 := x.toNat_lt
      have hnew : sumR 4294967295 (l.take (i + 1)) = stB r x.toNat := by rw [take_snoc hx, sumR_snoc, ← hs.out]
      obtain ⟨X, hX⟩ : ∃ X, x.toNat = X := ⟨_, rfl⟩
      rw [hX] at hc hx8 hnew
      have e1 := xor32 (b := X) hr32 (by omega)
      obtain ⟨t1, ht1, hl1, hg1⟩ := g4_tab (r ^^^ X)
      have y32 : r ^^^ X < 4294967296 := xor_lt32 hr32 (by omega)
      have z32 := g4_lt y32
      obtain ⟨t2, ht2, hl2, hg2⟩ := g4_tab (g4 (r ^^^ X))
      have e2 := and15 y32
      have e3 := xor32d (b := t1) y32 hl1
      rw [← hg1] at e3
      have e4 := and15 z32
      have e5 := xor32d (b := t2) z32 hl2
      rw [← hg2] at e5
      have c1 := hT.out _ _ ht1
      have c2 := hT.out _ _ ht2
      have hst : stB r X = g4 (g4 (r ^^^ X)) := rfl
      rw [← hst] at e5
      have s32 := stB_lt hr32 hx8
      obtain ⟨Z, hZ⟩ : ∃ Z, stB r X = Z := ⟨_, rfl⟩
      rw [hZ] at e5 hnew s32
      have HN : Hid (Z = sumR 4294967295 (l.take (i + 1))) := hnew.symm
      clear hnew hst hZ hg1 hg2 hs hX
      generalize r ^^^ X = Y at *
      generalize g4 Y = G at *
      have q1 : Y % 16 < 16 := Nat.mod_lt _ (by decide)
      have q2 : G % 16 < 16 := Nat.mod_lt _ (by decide)
      generalize Y % 16 = m1 at *
      generalize G % 16 = m2 at *
      have q3 : (m1 : Int) < 16 := by omega
      have q4 : (m2 : Int) < 16 := by omega
      have q5 : (0 : Int) ≤ (m1 : Int) := by omega
      have q6 : (0 : Int) ≤ (m2 : Int) := by omega
      go_wp2_with fail
      go_roundw
      case rel => exact ⟨i + 1, Z, rfl, by omega, rfl, s32, HN, hB, hT⟩
      case measure => simp only [intOf]; omega
    · obtain rfl : i = l.length := by omega
      have e0 : wrap64 (bits .xor .u32 IntKind.u32.max (r : Int)) = (sumN l : Int) := by
        have h1 := xor32 (a := 4294967295) (b := r) (by decide) hr32
        rw [show IntKind.u32.max = ((4294967295 : Nat) : Int) from rfl, h1, wr_in (by have := xor_lt32 (a := 4294967295) (b := r) (by decide) hr32; omega), Nat.xor_comm]
        rw [hs.out, List.take_length]
        rfl
      go_wp2_with fail
      go_ret
      exact ⟨rfl, hB⟩
end Go.Proofs.YtkmnonkabekclaaDoor

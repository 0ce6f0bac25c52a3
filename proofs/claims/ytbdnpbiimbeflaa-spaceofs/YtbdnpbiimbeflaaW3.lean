import Derived.Test.YtbdnpbiimbeflaaW2
import Derived.Laws.IdiomStrings
namespace Go.Proofs.Ytbdnpbiimbeflaa
open Go.RowKit

theorem info_u8 : (Try.prog.info? 5).map (fun i => (i.zero, i.size, i.bytes)) = some (some (.int .u8 0), 1, 1) := by kernel_rfl

theorem grown_of_below {w w' : World} (h : Below w.heap.size w w') (row : Option Nat) : w.grownBy w' row :=
  ⟨h.os, h.tape, h.output, h.size, fun k hk _ => h.block k hk⟩

theorem owns_below {w w' : World} {base : Nat} {e : TypeId} {size : Nat} {v : Value} {n : Nat} {xs : List Value} (h : w.ownsRow base e size v n xs) (hb : Below w.heap.size w w') : w'.ownsRow base e size v n xs := by
  refine h.kept (grown_of_below hb none) ?_
  cases v.ownBlock <;> simp

/-- the cells of a text's bytes -/
def bys (t : List UInt8) : List Value := t.map fun b => .int .u8 (b.toNat : Int)
/-- the row behind k bytes -/
def rowAt (t : List UInt8) (k : Nat) : List Value := bys (t.take k) ++ List.replicate (t.length - k) (.int .u8 0)

theorem rowAt_len (t : List UInt8) (k : Nat) (h : k ≤ t.length) : (rowAt t k).length = t.length := by simp [rowAt, bys]; omega
theorem rowAt_all (t : List UInt8) : rowAt t t.length = bys t := by simp [rowAt]
theorem rowAt_zero (t : List UInt8) : rowAt t 0 = List.replicate t.length (.int .u8 0) := by simp [rowAt, bys]
theorem rowAt_get (t : List UInt8) (k : Nat) (h : k < t.length) : (rowAt t k)[k]? = some (.int .u8 0) := by
  unfold rowAt bys
  rw [List.getElem?_append_right (by simp; omega)]
  have h1 : min k t.length = k := by omega
  have h2 : 0 < t.length - k := by omega
  simp [h1, h2]
theorem rowAt_succ (t : List UInt8) (k : Nat) (h : k < t.length) : (rowAt t k).set k (.int .u8 (t[k].toNat : Int)) = rowAt t (k + 1) := by
  unfold rowAt bys
  have hs : t.take (k + 1) = t.take k ++ [t[k]] := List.take_succ_eq_append_getElem h
  have : t.length - k = (t.length - (k + 1)) + 1 := by omega
  rw [this, List.replicate_succ, List.set_append_right _ _ (by simp; omega), hs, List.map_append]
  simp [Nat.min_eq_left (Nat.le_of_lt h)]

theorem add_plain (b o j : Nat) : (⟨b, o, none⟩ : Addr).add j = ⟨b, o + j, none⟩ := by unfold Addr.add; split <;> simp_all

/-- 'string(b)' of a row of the call's own -/
theorem conv_owned (W : World) (B g cap : Nat) (t : List UInt8) (hown : W.ownsRow B 5 1 (.slice (some ⟨g, 0, none⟩) t.length cap) t.length (bys t)) :
    (convert 97 9 (.slice (some ⟨g, 0, none⟩) t.length cap)).run Try.prog W = .ok (.string ⟨t.toArray⟩) W := by
  refine run_convert_bytes_back _ _ _ 5 _ _ t Try.underlying97 Try.underlying5 Try.underlying9 ?_
  intro j hj
  have := hown.cellAt j (by omega)
  rw [add_plain, Nat.zero_add, this]
  simp [bys, List.getElem?_eq_getElem hj]

set_option maxHeartbeats 400000 in
theorem text_any (t : List UInt8) (w : World) (hg : good t = true) :
    Calls Try.prog 28 #[cubeV t] w fun e w' => e = .returned (.string ⟨t.toArray⟩) ∧ Below w.heap.size w w' := by
  have hl := good_len hg
  obtain ⟨i0, hi, hz0, hz1, hz2⟩ := info_parts info_u8
  unfold cubeV cv
  go_enter Try.func28, Try.ntmps28
  go_wp2_with (at_make; refine wpList_make_full _ rfl _ _ 97 rfl (w.heap.size + 1) 5 i0 (.int .u8 0) 1 Try.underlying97 hi hz0 hz1 .i64 .i64 _ _ t.length rfl rfl rfl rfl (by rw [hz2]; omega) (by unfold maxLen; omega) (by simp) ?_; intro w1 hown hgrow)
  have hB : Below (w.heap.size + 1) (w.alloc (.cells #[.int .i64 (t.length : Int), .int .u64 (FW t 0 : Int), .int .u64 (FW t 1 : Int), .int .u64 (FW t 2 : Int), .int .u64 (FW t 3 : Int), .int .u64 (OW t 0 : Int), .int .u64 (OW t 1 : Int), .int .u64 (OW t 2 : Int), .int .u64 (OW t 3 : Int)] 28)) w1 := (Below.refl _ _).grown hgrow (by simp) (fun k h => by cases h)
  have hown' : w1.ownsRow (w.heap.size + 1) 5 1 (.slice (some ⟨w.heap.size + 1, 0, none⟩) t.length t.length) t.length (rowAt t 0) := by
    rw [rowAt_zero]
    have h1 : (madeCells (Value.int IntKind.u8 0).cells (t.length * 1)).toList = List.replicate t.length (.int .u8 0) := by rw [Nat.mul_one]; exact toList_madeCells_one _ _
    rw [h1] at hown
    simpa using hown
  clear hown hgrow
  go_loopw [10] (fun i wr => ∃ k : Nat, k ≤ t.length ∧ i = .int .i64 k ∧ wr.ownsRow (w.heap.size + 1) 5 1 (.slice (some ⟨w.heap.size + 1, 0, none⟩) t.length t.length) t.length (rowAt t k) ∧ Below (w.heap.size + 1) (w.alloc (.cells #[.int .i64 (t.length : Int), .int .u64 (FW t 0 : Int), .int .u64 (FW t 1 : Int), .int .u64 (FW t 2 : Int), .int .u64 (FW t 3 : Int), .int .u64 (OW t 0 : Int), .int .u64 (OW t 1 : Int), .int .u64 (OW t 2 : Int), .int .u64 (OW t 3 : Int)] 28)) wr) (fun i _ => t.length - (intOf i).toNat)
  case atStart => exact ⟨0, Nat.zero_le _, rfl, hown', hB⟩
  case round =>
    clear hB hown'
    obtain ⟨k, hk, rfl, hown, hB⟩ := hrel
    have hc : ∀ b o, b < w.heap.size + 1 → wr.cell? ⟨b, o, none⟩ = (w.alloc (.cells #[.int .i64 (t.length : Int), .int .u64 (FW t 0 : Int), .int .u64 (FW t 1 : Int), .int .u64 (FW t 2 : Int), .int .u64 (FW t 3 : Int), .int .u64 (OW t 0 : Int), .int .u64 (OW t 1 : Int), .int .u64 (OW t 2 : Int), .int .u64 (OW t 3 : Int)] 28)).cell? ⟨b, o, none⟩ := fun b o h => hB.cell (p := ⟨b, o, none⟩) h
    have hsz : w.heap.size + 1 ≤ wr.heap.size := by have := hB.size; simpa using this
    by_cases hlt : k < t.length
    · go_wp2_with (go_at_call 48; refine (at_any t _ k _ hg rfl hlt).mono ?_; rintro e w2 ⟨rfl, hb2⟩; have hown2 := owns_below hown hb2; have hc2 := (hown2.cellAt k (by omega)).trans (rowAt_get t k hlt); have hf2 := hown2.frozenAt k)
      go_roundw
      case rel =>
        refine ⟨k + 1, by omega, by go_num, ?_, ?_⟩
        · have := hown2.stored k (.int .u8 (t[k].toNat : Int))
          rw [rowAt_succ t k hlt] at this
          exact this.1
        · exact (hB.trans (hb2.mono hsz)).setCell (Nat.le_refl _) _
      case measure => simp [intOf]; omega
    · have hkn : k = t.length := by omega
      subst hkn
      rw [rowAt_all] at hown
      have hcv := conv_owned wr (w.heap.size + 1) (w.heap.size + 1) t.length t hown
      go_wp2
      go_ret
      exact ⟨rfl, ((Below.refl _ _).alloc (Nat.le_refl _) _).trans (hB.mono (by omega))⟩
end Go.Proofs.Ytbdnpbiimbeflaa

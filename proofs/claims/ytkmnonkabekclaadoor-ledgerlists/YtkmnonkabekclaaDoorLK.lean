import Derived.Test.YtkmnonkabekclaaDoorLJ
namespace Go.Proofs.YtkmnonkabekclaaDoor
open Go.RowKit
theorem fx_len : (enB 1 4 [55]).length = 21 := by decide +kernel
theorem fx_err : enE 1 4 [55] = 0 := by decide +kernel
theorem fx_read : rcE (enB 1 4 [55]) 0 = 0 ∧ rcR (enB 1 4 [55]) 0 = ⟨1, 4, [55]⟩ ∧ rcN (enB 1 4 [55]) 0 = 21 := by
  have e : enB 1 4 [55] = encL 1 4 [55] := by unfold enB; rw [fx_err]; rfl
  obtain ⟨h1, h2, h3, h4, h5⟩ := rd_enc (s := 1) (k := 4) (t := [55]) (by decide) (by decide) []
  rw [List.append_nil] at h1 h2 h3 h4 h5
  have hE : rcE (encL 1 4 [55]) 0 = 0 := by unfold rcE; rw [if_neg (by rw [encL_len]; decide)]; exact h1
  rw [e]
  refine ⟨hE, ?_, ?_⟩
  · rw [rcR, if_pos hE, rdR]
    show (⟨rdS (encL 1 4 [55]), rdK (encL 1 4 [55]), rdT (encL 1 4 [55])⟩ : Rec) = _
    rw [h2, h3, h5]
  · rw [rcN, if_pos hE]
    show (0 : Int) + (rdN (encL 1 4 [55]) : Int) + 20 = 21
    rw [h4]
    rfl
set_option maxRecDepth 100000 in
set_option maxHeartbeats 2000000 in
theorem fixed_any (w : World) : Calls Tryd.prog 12 #[] w fun e w' => e = .returned (.bool true) ∧ Below w.heap.size w w' := by
  have HE := encode_any 1 4 [55] w
  rw [fx_err] at HE
  have HE2 : Hid (Calls Tryd.prog 28 #[.agg #[.int .i64 1, .int .i64 4, .string ⟨[55].toArray⟩]] w fun e w' => ∃ v, e = .returned (.tuple #[v, .int .i64 (0 : Nat)]) ∧ OB w' w.heap.size v (enB 1 4 [55]) ∧ Below w.heap.size w w') := HE
  clear HE
  go_enter Tryd.func12, Tryd.ntmps12
  go_wp2_with fail
  refine HE2.out.mono ?_
  rintro e W1 ⟨v, rfl, o1, b1⟩
  obtain ⟨p, c, rfl, hc⟩ := o1.shape
  rw [fx_len] at hc
  rw [fx_len]
  have HR := read_any (enB 1 4 [55]) p 21 c 0 W1 fx_len (by decide) hc (by have := o1.br; exact this)
  have HR2 : Hid (Calls Tryd.prog 13 #[.slice p 21 c, .int .i64 0] W1 fun e w' => e = .returned (.tuple #[.agg #[.int .i64 1, .int .i64 4, .string ⟨#[55]⟩], .int .i64 21, .int .i64 0]) ∧ Below W1.heap.size W1 w') := by
    refine HR.mono ?_
    rintro e w' ⟨h1, h2⟩
    obtain ⟨x1, x2, x3⟩ := fx_read
    rw [x1, x2, x3] at h1
    exact ⟨h1, h2⟩
  clear HR HE2 o1
  go_wp2_with fail
  refine HR2.out.mono ?_
  rintro e W2 ⟨rfl, b2⟩
  go_wp2_with fail
  go_ret
  exact ⟨rfl, belAZ (bel0Z b1 b2) _⟩
theorem back_ok {D : List UInt8} {a : Int} (h : rcE D a = 0) : ∃ A N : Nat, a = A ∧ rdN (D.drop A) = N ∧ rdE (D.drop A) = 0 ∧ A + N + 20 ≤ D.length ∧ rcR D a = rdR (D.drop A) ∧ rcN D a = ((A + N + 20 : Nat) : Int) := by
  have h0 := h
  unfold rcE at h
  split at h
  · cases h
  · rename_i ha
    obtain ⟨A, rfl⟩ : ∃ A : Nat, a = A := ⟨a.toNat, by omega⟩
    rw [Int.toNat_natCast] at h
    have h3 := (rdE_ok h).2.2.1
    rw [List.length_drop] at h3
    refine ⟨A, rdN (D.drop A), rfl, rfl, h, by omega, ?_, ?_⟩
    · rw [rcR, if_pos h0, Int.toNat_natCast]
    · rw [rcN, if_pos h0, Int.toNat_natCast]
      omega
theorem enE_ok {d : List UInt8} (h : rdE d = 0) : enE (rdS d) (rdK d) (rdT d) = 0 ∧ enB (rdS d) (rdK d) (rdT d) = d.take (rdN d + 20) := by
  obtain ⟨-, hh, -, -⟩ := rdE_ok h
  have h1 : enE (rdS d) (rdK d) (rdT d) = 0 := by
    unfold enE
    rw [if_neg (by rw [rdT_len h]; have := hh.2.2; omega), mB_nat, decide_eq_true hh.2.1]
    rfl
  refine ⟨h1, ?_⟩
  unfold enB
  rw [h1, enc_rd h]
  rfl
end Go.Proofs.YtkmnonkabekclaaDoor

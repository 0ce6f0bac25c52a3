import Derived.Test.YtjbfkknpkldhjaaLJ
namespace Go.Proofs.Ytjbfkknpkldhjaa
open Go.RowKit
theorem fx_len : (enB 1 4 [55]).length = 21 := by decide +kernel
theorem fx_err : enE 1 4 [55] = 0 := by decide +kernel
theorem fx_read : rcE (enB 1 4 [55]) 0 = 0 ∧ rcR (enB 1 4 [55]) 0 = ⟨1, 4, [55]⟩ ∧ rcN (enB 1 4 [55]) 0 = 21 := by
  have e : enB 1 4 [55] = encL 1 4 [55] := by unfold enB; rw [fx_err]; rfl
  obtain ⟨h1, h2, h3, h4, h5⟩ := rd_enc (s := 1) (k := 4) (t := [55]) (by decide) (by decide) []
  rw [List.append_nil] at h1 h2 h3 h4 h5
  have hE : rcE (encL 1 4 [55]) 0 = 0 := by unfold rcE; rw [if_neg (by rw [encL_len]; decide)]; exact h1
  rw [e]
  refine ⟨hE, ?_, ?_⟩
  · rw [rcR, if_pos hE, rdR]
    show (⟨rdS (encL 1 4 [55]), rdK (encL 1 4 [55]), rdT (encL 1 4 [55])⟩ : Rec) = _
    rw [h2, h3, h5]
  · rw [rcN, if_pos hE]
    show (0 : Int) + (rdN (encL 1 4 [55]) : Int) + 20 = 21
    rw [h4]
    rfl
set_option maxRecDepth 100000 in
set_option maxHeartbeats 2000000 in
theorem fixed_any (w : World) : Calls Try.prog 12 #[] w fun e w' => e = .returned (.bool true) ∧ Below w.heap.size w w' := by
  have HE := encode_any 1 4 [55] w
  rw [fx_err] at HE
  have HE2 : Hid (Calls Try.prog 14 #[.agg #[.int .i64 1, .int .i64 4, .string ⟨[55].toArray⟩]] w fun e w' => ∃ v, e = .returned (.tuple #[v, .int .i64 (0 : Nat)]) ∧ OB w' w.heap.size v (enB 1 4 [55]) ∧ Below w.heap.size w w') := HE
  clear HE
  go_enter Try.func12, Try.ntmps12
  go_wp2_with fail
  refine HE2.out.mono ?_
  rintro e W1 ⟨v, rfl, o1, b1⟩
  obtain ⟨p, c, rfl, hc⟩ := o1.shape
  rw [fx_len] at hc
  rw [fx_len]
  have HR := read_any (enB 1 4 [55]) p 21 c 0 W1 fx_len (by decide) hc (by have := o1.br; exact this)
  have HR2 : Hid (Calls Try.prog 13 #[.slice p 21 c, .int .i64 0] W1 fun e w' => e = .returned (.tuple #[.agg #[.int .i64 1, .int .i64 4, .string ⟨#[55]⟩], .int .i64 21, .int .i64 0]) ∧ Below W1.heap.size W1 w') := by
    refine HR.mono ?_
    rintro e w' ⟨h1, h2⟩
    obtain ⟨x1, x2, x3⟩ := fx_read
    rw [x1, x2, x3] at h1
    exact ⟨h1, h2⟩
  clear HR HE2 o1
  go_wp2_with fail
  refine HR2.out.mono ?_
  rintro e W2 ⟨rfl, b2⟩
  go_wp2_with fail
  go_ret
  exact ⟨rfl, belAZ (bel0Z b1 b2) _⟩
theorem back_ok {D : List UInt8} {a : Int} (h : rcE D a = 0) : ∃ A N : Nat, a = A ∧ rdN (D.drop A) = N ∧ rdE (D.drop A) = 0 ∧ A + N + 20 ≤ D.length ∧ rcR D a = rdR (D.drop A) ∧ rcN D a = ((A + N + 20 : Nat) : Int) := by
  have h0 := h
  unfold rcE at h
  split at h
  · cases h
  · rename_i ha
    obtain ⟨A, rfl⟩ : ∃ A : Nat, a = A := ⟨a.toNat, by omega⟩
    rw [Int.toNat_natCast] at h
    have h3 := (rdE_ok h).2.2.1
    rw [List.length_drop] at h3
    refine ⟨A, rdN (D.drop A), rfl, rfl, h, by omega, ?_, ?_⟩
    · rw [rcR, if_pos h0, Int.toNat_natCast]
    · rw [rcN, if_pos h0, Int.toNat_natCast]
      omega
theorem enE_ok {d : List UInt8} (h : rdE d = 0) : enE (rdS d) (rdK d) (rdT d) = 0 ∧ enB (rdS d) (rdK d) (rdT d) = d.take (rdN d + 20) := by
  obtain ⟨-, hh, -, -⟩ := rdE_ok h
  have h1 : enE (rdS d) (rdK d) (rdT d) = 0 := by
    unfold enE
    rw [if_neg (by rw [rdT_len h]; have := hh.2.2; omega), mB_nat, decide_eq_true hh.2.1]
    rfl
  refine ⟨h1, ?_⟩
  unfold enB
  rw [h1, enc_rd h]
  rfl
set_option maxRecDepth 100000 in
set_option maxHeartbeats 4000000 in
theorem ledgerBack_walk (D : List UInt8) (p : Option Addr) (n c : Nat) (a : Int) (w : World) (hn : D.length = n) (hc : n ≤ c) (hr : BR w p D) (_ : (Lit.int .i64 a).wf = true) :
    Calls Try.prog 4 #[.slice p n c, .int .i64 a] w fun e w' => e = .returned (.bool true) ∧ Below w.heap.size w w' := by
  have HF : Hid (Calls Try.prog 12 #[] w fun e w' => e = .returned (.bool true) ∧ Below w.heap.size w w') := fixed_any w
  have HR : Hid (BR w p D) := hr
  have HN : Hid (D.length = n) := hn
  clear hr hn
  by_cases h1 : 200000 < n
  · have h1' : (200000 : Int) < (n : Int) := by omega
    go_enter Try.func4, Try.ntmps4
    go_wp2_with fail
    refine HF.out.mono ?_
    rintro e W1 ⟨rfl, b1⟩
    go_wp2_with fail
    go_ret
    exact ⟨rfl, b1⟩
  · have h1' : ¬ (200000 : Int) < (n : Int) := by omega
    go_enter Try.func4, Try.ntmps4
    go_wp2_with fail
    refine HF.out.mono ?_
    rintro e W1 ⟨rfl, b1⟩
    have HRD := read_any D p n c a W1 HN.out (by omega) hc (HR.out.below b1)
    clear HF
    by_cases hE : rcE D a = 0
    · obtain ⟨A, N, rfl, hN, hd0, hlen, hR, hX⟩ := back_ok hE
      rw [HN.out] at hlen
      obtain ⟨x1, x2⟩ := enE_ok hd0
      obtain ⟨g, o, rfl⟩ := HR.out.some (by rw [HN.out]; omega)
      have HRD2 : Hid (Calls Try.prog 13 #[.slice (some ⟨g, o, none⟩) n c, .int .i64 A] W1 fun e w' => e = .returned (.tuple #[.agg #[.int .i64 (rdS (D.drop A) : Int), .int .i64 (rdK (D.drop A) : Int), .string ⟨(rdT (D.drop A)).toArray⟩], .int .i64 ((A + N + 20 : Nat) : Int), .int .i64 0]) ∧ Below W1.heap.size W1 w') := by
        refine HRD.mono ?_
        rintro e w' ⟨h1, h2⟩
        rw [hR, hX, hE] at h1
        exact ⟨h1, h2⟩
      have HXB : Hid (enE (rdS (D.drop A)) (rdK (D.drop A)) (rdT (D.drop A)) = 0 ∧ enB (rdS (D.drop A)) (rdK (D.drop A)) (rdT (D.drop A)) = (D.drop A).take (N + 20)) := ⟨x1, by rw [x2, hN]⟩
      obtain ⟨X, hXe⟩ : ∃ X, A + N + 20 = X := ⟨_, rfl⟩
      rw [hXe] at HRD2
      have HXA : Hid (N + 20 = X - A) := (show N + 20 = X - A by omega)
      have y1 : A ≤ X := by omega
      have y2 : X ≤ n := by omega
      have y3 : A < c := by omega
      have z1 : (A : Int) ≤ (X : Int) := by omega
      have z2 : (X : Int) ≤ (n : Int) := by omega
      have z3 : (X : Int) ≤ (c : Int) := by omega
      have z4 : (0 : Int) ≤ (A : Int) := by omega
      have z5 : (0 : Int) ≤ (X : Int) := by omega
      have z6 : ((X : Int) - (A : Int) == ((X - A : Nat) : Int)) = true := by simp only [beq_iff_eq]; omega
      clear HRD hE hN hd0 hR hX x1 x2 hXe hlen
      go_wp2_with fail
      refine HRD2.out.mono ?_
      rintro e W2 ⟨rfl, b2⟩
      generalize rdS (D.drop A) = S at *
      generalize rdK (D.drop A) = K at *
      generalize rdT (D.drop A) = T at *
      go_upto_region 5 with fail
      obtain ⟨W3, hW3⟩ : ∃ W3, W2.alloc (.cells #[.int .i64 (S : Int), .int .i64 (K : Int), .string ⟨T.toArray⟩] 28 (0, 0)) = W3 := ⟨_, rfl⟩
      have b3 : Below W2.heap.size W2 W3 := by rw [← hW3]; exact (Below.refl _ _).alloc (Nat.le_refl _) _
      obtain ⟨r0, r1, r2⟩ : RBX W3 W2.heap.size S K T := by rw [← hW3]; exact RBX_new (alloc_getZ _ _)
      have B3 : Hid (Below w.heap.size w W3) := bel0Z (bel0Z b1 b2) b3
      rw [hW3]
      clear hW3 b3 b2 b1 HRD2
      have HEN := encode_any S K T W3
      rw [HXB.out.1, HXB.out.2] at HEN
      go_wp2_with fail
      refine HEN.mono ?_
      rintro e W4 ⟨v, rfl, o4, b4⟩
      obtain ⟨p4, c4, rfl, hc4⟩ := o4.shape
      have hl4 : ((D.drop A).take (N + 20)).length = X - A := by rw [List.length_take, List.length_drop, HN.out, HXA.out]; omega
      have HO4 : Hid (BR W4 p4 ((D.drop A).take (N + 20))) := o4.br
      have HBY := bytes_any ((D.drop A).take (N + 20)) (some ⟨g, o + A, none⟩) p4 (c - A) c4 (X - A) W4 hl4 (by omega) ((br_drop (HR.out.below (bel0Z B3.out b4)) A).take _) HO4.out
      have B4 : Hid (Below w.heap.size w W4) := bel0Z B3.out b4
      rw [hl4]
      clear o4 hl4 hc4 b4 HEN r0 r1 r2
      go_wp2_with fail
      refine HBY.mono ?_
      rintro e W5 ⟨rfl, b5⟩
      go_wp2_with fail
      go_ret
      exact ⟨rfl, bel0Z B4.out b5⟩
    · have HRD2 : Hid (Calls Try.prog 13 #[.slice p n c, .int .i64 a] W1 fun e w' => e = .returned (.tuple #[.agg #[.int .i64 0, .int .i64 0, .string ⟨#[]⟩], .int .i64 0, .int .i64 (rcE D a : Int)]) ∧ Below W1.heap.size W1 w') := by
        refine HRD.mono ?_
        rintro e w' ⟨h1, h2⟩
        rw [rcR, rcN, if_neg hE, if_neg hE] at h1
        exact ⟨h1, h2⟩
      have e5 : ((rcE D a : Int) != 0) = true := by simp only [bne_iff_ne, ne_eq]; omega
      clear HRD hE
      generalize rcE D a = E at *
      go_wp2_with fail
      refine HRD2.out.mono ?_
      rintro e W2 ⟨rfl, b2⟩
      go_wp2_with fail
      go_ret
      exact ⟨rfl, belAZ (bel0Z b1 b2) _⟩
end Go.Proofs.Ytjbfkknpkldhjaa

import Derived.Test.YtffgkjmfeannoaaGreatDoorXBS
import Derived.Test.YtffgkjmfeannoaaGreatDoorXBT
import Derived.Test.YtffgkjmfeannoaaGreatDoorXBE
namespace Go.Proofs.YtffgkjmfeannoaaGreatDoor.Ex
open Go.RowKit
variable {w0 W X : World} {b : Nat} {pt : Option Addr} {ct : Nat} {L : List XTok} {i m e : Nat} {Q : List Nat} {out : List Nd}
theorem dn_not {c : Nat} (h1 : c ≠ 33) (Q : List Nat) : dnP (c :: Q) = c :: Q ∧ dnO (c :: Q) = [] := by
  constructor
  · unfold dnP; split
    · rename_i h; injection h with h _; exact absurd h h1
    · rfl
  · unfold dnO; split
    · rename_i h; injection h with h _; exact absurd h h1
    · rfl
theorem flush_dn : ∀ Q : List Nat, dnO Q ++ flush (dnP Q) = flush Q
  | [] => rfl
  | c :: Q => by
    by_cases h : c = 33
    · subst h
      show nd 4 :: (dnO Q ++ flush (dnP Q)) = flush (33 :: Q)
      rw [flush_dn Q, flush_cons]
      rfl
    · obtain ⟨h1, h2⟩ := dn_not h Q
      rw [h1, h2]
      rfl
theorem dn_len : ∀ Q : List Nat, (dnP Q).length ≤ Q.length
  | [] => Nat.le_refl _
  | c :: Q => by
    by_cases h : c = 33
    · subst h
      have := dn_len Q
      show (dnP Q).length ≤ _
      simp only [List.length_cons]
      omega
    · rw [(dn_not h Q).1]
      exact Nat.le_refl _
def INV (n i : Nat) (Q : List Nat) (m : Nat) (out : List Nd) : Prop := i ≤ n ∧ Q.length ≤ i ∧ m ≤ 64 ∧ out.length + (flush Q).length ≤ m
theorem INV.done {n : Nat} (h : INV n i Q m out) : INV n i (dnP Q) m (out ++ dnO Q) := by
  obtain ⟨h1, h2, h3, h4⟩ := h
  have h5 := dn_len Q
  have h6 := congrArg List.length (flush_dn Q)
  rw [List.length_append] at h6
  refine ⟨h1, by omega, h3, ?_⟩
  rw [List.length_append]
  omega
theorem opX_inv {LT : List Tk} {v : Bool} {i' m' : Nat} {Q' : List Nat} {out' : List Nd} (h : INV LT.length i Q m out) (hx : opX LT i Q m out = .ok (v, i', Q', m', out')) : INV LT.length i' Q' m' out' := by
  obtain ⟨h1, h2, h3, h4⟩ := h
  unfold opX at hx
  split at hx
  · rename_i ht
    have := tk_in ht (by intro h; cases h)
    split at hx
    · cases hx
    · split at hx
      · cases hx
      · simp only [Except.ok.injEq, Prod.mk.injEq] at hx
        obtain ⟨_, rfl, rfl, rfl, rfl⟩ := hx
        refine ⟨by omega, by simp only [List.length_cons]; omega, by omega, ?_⟩
        rw [flush_cons, List.length_append]
        have : (sgn 33).length = 1 := rfl
        omega
  · rename_i ht
    have := tk_in ht (by intro h; cases h)
    split at hx
    · cases hx
    · simp only [Except.ok.injEq, Prod.mk.injEq] at hx
      obtain ⟨_, rfl, rfl, rfl, rfl⟩ := hx
      refine ⟨by omega, by simp only [List.length_cons]; omega, by omega, ?_⟩
      rw [flush_cons, List.length_append]
      have : (sgn 40).length = 0 := rfl
      omega
  · have he := lfV_end (m := m) (out := out) (tk_out (Nat.le_refl LT.length)) h1
    cases hl : lfV LT i m out with
    | error p => rw [hl] at hx; cases hx
    | ok q =>
      obtain ⟨qi, qm, qo⟩ := q
      rw [hl] at hx he
      simp only [Except.ok.injEq, Prod.mk.injEq] at hx he
      obtain ⟨_, rfl, rfl, rfl, rfl⟩ := hx
      have k1 := lfV_prog hl
      have k2 := lfV_le hl h3
      have k3 := lfV_len hl
      exact ⟨he, by omega, k2, by omega⟩
theorem chX_k {LT : List Tk} {k i' m' : Nat} {Q' : List Nat} {out' : List Nd} (hx : chX LT i Q m out = .ok (k, i', Q', m', out')) : k = 0 ∨ k = 1 ∨ k = 2 := by
  unfold chX at hx
  split at hx <;> split at hx <;> first | (cases hx; done) | (simp only [Except.ok.injEq, Prod.mk.injEq] at hx; omega)
theorem past_inv {f : Nat → Bool} {x : Nat} {n : Nat} (h : INV n i Q m out) (hi : i + 1 ≤ n) (hm : ¬ 64 ≤ m) (hx : (sgn x).length ≤ 1) : INV n (i + 1) (x :: past f Q) (m + 1) (out ++ flush (upto f Q)) := by
  obtain ⟨h1, h2, h3, h4⟩ := h
  have h5 := past_len f Q
  have h6 := congrArg List.length (flush_split f Q)
  rw [List.length_append] at h6
  refine ⟨hi, by simp only [List.length_cons]; omega, by omega, ?_⟩
  rw [flush_cons, List.length_append, List.length_append]
  omega
theorem chX_inv {LT : List Tk} {k i' m' : Nat} {Q' : List Nat} {out' : List Nd} (h : INV LT.length i Q m out) (hx : chX LT i Q m out = .ok (k, i', Q', m', out')) (hk : k ≠ 2) : INV LT.length i' Q' m' out' := by
  unfold chX at hx
  split at hx
  · rename_i ht
    have := tk_in ht (by intro h; cases h)
    split at hx
    · cases hx
    · rename_i hm
      simp only [Except.ok.injEq, Prod.mk.injEq] at hx
      obtain ⟨_, rfl, rfl, rfl, rfl⟩ := hx
      exact past_inv h (by omega) hm (by decide)
  · rename_i ht
    have := tk_in ht (by intro h; cases h)
    split at hx
    · cases hx
    · rename_i hm
      simp only [Except.ok.injEq, Prod.mk.injEq] at hx
      obtain ⟨_, rfl, rfl, rfl, rfl⟩ := hx
      exact past_inv h (by omega) hm (by decide)
  · rename_i ht
    have := tk_in ht (by intro h; cases h)
    split at hx
    · simp only [Except.ok.injEq, Prod.mk.injEq] at hx
      obtain ⟨_, rfl, rfl, rfl, rfl⟩ := hx
      obtain ⟨h1, h2, h3, h4⟩ := h
      have h5 := past_len (· != 40) Q
      have h6 := congrArg List.length (flush_split (· != 40) Q)
      rw [List.length_append] at h6
      have h7 : (past (· != 40) Q).tail.length ≤ (past (· != 40) Q).length := by rw [List.length_tail]; omega
      have h8 : (flush (past (· != 40) Q).tail).length ≤ (flush (past (· != 40) Q)).length := by
        cases past (· != 40) Q with
        | nil => exact Nat.le_refl _
        | cons a t => rw [List.tail_cons, flush_cons, List.length_append]; omega
      have h9 : INV LT.length (i + 1) (past (· != 40) Q).tail m (out ++ flush (upto (· != 40) Q)) := ⟨by omega, by omega, h3, by rw [List.length_append]; omega⟩
      exact h9.done
    · simp only [Except.ok.injEq, Prod.mk.injEq] at hx
      exact absurd hx.1.symm hk
  · split at hx
    · cases hx
    · simp only [Except.ok.injEq, Prod.mk.injEq] at hx
      exact absurd hx.1.symm hk
def LPS (w0 : World) (b : Nat) (pt : Option Addr) (ct : Nat) (L : List XTok) (R : DR) (gk : Nat) (want : Bool) (W : World) : Prop :=
  (∃ i Q m out, DS w0 b pt ct L W i Q out m 0 ∧ dM (L.map clX) gk want i Q m out = some R ∧ INV (L.map clX).length i Q m out) ∨
  (∃ p, R = .error p ∧ p.1 ≠ 0 ∧ ∃ Q out m, DS w0 b pt ct L W p.2 Q out m p.1)
theorem res_yr (tmps : Array Value) (W : World) (x y z : Value) (h : tmps[4]?.getD undef = x ∧ tmps[5]?.getD undef = y ∧ tmps[6]?.getD undef = z) : (results Tryz.f6 tmps).run Tryz.prog W = .ok (.tuple #[x, y, z]) W := by
  simp [results, h.1, h.2.1, h.2.2, go_sem]
def RDM (w : World) (R : DR) (e : Ending) (w' : World) : Prop := match R with
  | .error p => e = .returned (.tuple #[.slice none 0 0, .int .i64 (p.2 : Int), .int .i64 (p.1 : Int)]) ∧ p.1 ≠ 0
  | .ok q => ∃ v, e = .returned (.tuple #[v, .int .i64 (q.1 : Int), .int .i64 0]) ∧ OWN w' w.heap.size v q.2
set_option maxRecDepth 100000 in
set_option maxHeartbeats 16000000 in
theorem yread (L : List XTok) (p : Option Addr) (n c : Nat) (f : Int) (w : World) (hn : L.length = n) (hlen : n ≤ 90000) (hX : XR w p L) (hS : shT L) :
    Calls Tryz.prog 6 #[.slice p n c, .int .i64 f] w (RDN L (L.map clX) f w) := by
  subst hn
  by_cases hf : f < 0 ∨ (L.length : Int) < f
  · have HE : Hid (RDN L (L.map clX) f w (.returned (.tuple #[.slice none 0 0, .int .i64 0, .int .i64 1])) w) := ⟨.inl ⟨hf, rfl⟩, Below.refl _ _⟩
    rcases Int.lt_or_le f 0 with h0 | h0
    · clear hf
      go_enter Tryz.func6, Tryz.ntmps6
      go_wp2_with fail
      refine bodyPost_ret (res_yr _ _ _ _ _ ⟨rfl, rfl, rfl⟩) rfl ?_
      exact HE.out
    · have h1 : ¬ f < 0 := by omega
      have h2 : (L.length : Int) < f := by omega
      clear hf h0
      go_enter Tryz.func6, Tryz.ntmps6
      go_wp2_with fail
      refine bodyPost_ret (res_yr _ _ _ _ _ ⟨rfl, rfl, rfl⟩) rfl ?_
      exact HE.out
  · obtain ⟨i, rfl⟩ : ∃ i : Nat, f = i := ⟨f.toNat, by omega⟩
    have h1 : ¬ (i : Int) < 0 := by omega
    have h2 : ¬ (L.length : Int) < (i : Int) := by omega
    have hil : i ≤ L.length := by omega
    have hst : DS w w.heap.size p c L (w.alloc (.cells #[.slice p L.length c, .int .i64 (i : Int), .slice none 0 0, .slice none 0 0, .int .i64 0, .int .i64 0] 44 (0, 0))) i [] [] 0 0 :=
      ⟨⟨.slice none 0 0, .slice none 0 0, alloc_getZ _ _, World.ownsRow_nil _ _ _ _, World.ownsRow_nil _ _ _ _⟩, belAZ (Below.refl _ _) _⟩
    obtain ⟨r, hr⟩ : ∃ r, rdX (L.map clX) i = r := ⟨_, rfl⟩
    obtain ⟨k, hk⟩ := read_sim (rdX_some (L.map clX) i)
    have hk := hk 0
    rw [Nat.zero_add, hr] at hk
    have H0 : Hid (LPS w w.heap.size p c L (outR r) k true (w.alloc (.cells #[.slice p L.length c, .int .i64 (i : Int), .slice none 0 0, .slice none 0 0, .int .i64 0, .int .i64 0] 44 (0, 0)))) := .inl ⟨i, [], 0, [], hst, hk, by rw [List.length_map]; exact hil, Nat.zero_le _, by omega, by simp [flush]⟩
    have HFIN : Hid (∀ e w', Below w.heap.size w w' → RDM w (outR r) e w' → RDN L (L.map clX) (i : Int) w e w') := fun e w' hbl hm => ⟨.inr ⟨i, rfl, hil, by
      rw [hr]
      cases r with
      | error q => exact hm
      | ok q => exact hm⟩, hbl⟩
    have HOP : Hid (∀ U i1 Q1 m1 out1, DS w w.heap.size p c L U i1 Q1 out1 m1 0 → INV (L.map clX).length i1 Q1 m1 out1 → Calls Tryz.prog 12 #[.pointer (some ⟨w.heap.size, 0, none⟩)] U (OPQ w w.heap.size p c L (opX (L.map clX) i1 Q1 m1 out1))) := fun U i1 Q1 m1 out1 hU hI => by
      obtain ⟨g1, g2, g3, g4⟩ := hI
      rw [List.length_map] at g1
      exact operand_any hX (Nat.le_refl _) (by omega) hS g1 g3 (by omega) (by omega) hU
    have HCH : Hid (∀ U i1 Q1 m1 out1, DS w w.heap.size p c L U i1 Q1 out1 m1 0 → INV (L.map clX).length i1 Q1 m1 out1 → Calls Tryz.prog 14 #[.pointer (some ⟨w.heap.size, 0, none⟩)] U (CHQ w w.heap.size p c L (chX (L.map clX) i1 Q1 m1 out1))) := fun U i1 Q1 m1 out1 hU hI => by
      obtain ⟨g1, g2, g3, g4⟩ := hI
      rw [List.length_map] at g1
      exact chain_any hX (Nat.le_refl _) (by omega) (by omega) g3 (by omega) (by omega) hU
    have HDN : Hid (∀ U i1 Q1 m1 out1, DS w w.heap.size p c L U i1 Q1 out1 m1 0 → INV (L.map clX).length i1 Q1 m1 out1 → Calls Tryz.prog 13 #[.pointer (some ⟨w.heap.size, 0, none⟩)] U fun en W' => en = .returned (.tuple #[]) ∧ DS w w.heap.size p c L W' i1 (dnP Q1) (out1 ++ dnO Q1) m1 0) := fun U i1 Q1 m1 out1 hU hI => by
      obtain ⟨g1, g2, g3, g4⟩ := hI
      rw [List.length_map] at g1
      exact done_any (Nat.le_refl _) (by omega) (by omega) hU
    obtain ⟨R, hR⟩ : ∃ R, outR r = R := ⟨_, rfl⟩
    rw [hR] at H0 HFIN
    clear hf hst hX hr hk hR hS hil hlen
    go_enter Tryz.func6, Tryz.ntmps6
    go_wp2_with fail
    go_loopg [8] k (fun gk vw wr => ∃ want : Bool, vw = .bool want ∧ Hid (LPS w w.heap.size p c L R gk want wr))
    case atStart => exact ⟨true, rfl, H0⟩
    case round =>
      clear H0
      obtain ⟨want, rfl, H⟩ := hrel
      rcases H.out with ⟨i1, Q1, m1, out1, s1, hd, hI⟩ | ⟨q, hq, hq0, Q1, out1, m1, s1⟩
      · clear H
        cases gk with
        | zero => exfalso; rw [dM] at hd; cases hd
        | succ g =>
        have c5 := s1.cells.2.2.2.1
        have HI := hideL hI
        cases want with
        | true =>
          rw [dM_op] at hd
          have HD0 := hideL hd
          have HO := HOP.out wr _ _ _ _ s1 hI
          clear s1 hd hI
          go_wp2_with fail
          refine HO.mono ?_
          rintro en W1 ⟨v, rfl, hO⟩
          clear HO
          unfold OPM at hO
          cases hx : opX (L.map clX) i1 Q1 m1 out1 with
          | error q =>
            rw [hx] at hO HD0
            obtain ⟨hq0, Q2, out2, m2, s2⟩ := hO
            obtain ⟨q1, q2⟩ := q
            simp only at hq0 s2
            have c6 := s2.cells.2.2.2.1
            have y1 : ((q1 : Int) == 0) = false := beq_eq_false_iff_ne.2 (by omega)
            have HL : Hid (LPS w w.heap.size p c L R g true W1) := .inr ⟨(q1, q2), (Option.some.inj HD0.out).symm, hq0, Q2, out2, m2, s2⟩
            clear hq0 s2 hx HD0
            cases v with
            | true =>
              go_wp2_with fail
              go_roundg g
              case measure => omega
              case rel => exact ⟨true, rfl, HL⟩
            | false =>
              go_wp2_with fail
              go_roundg g
              case measure => omega
              case rel => exact ⟨true, rfl, HL⟩
          | ok q =>
            obtain ⟨v', i2, Q2, m2, out2⟩ := q
            rw [hx] at hO HD0
            obtain ⟨rfl, s2⟩ := hO
            simp only at s2
            have c6 := s2.cells.2.2.2.1
            have hI2 := opX_inv HI.out hx
            cases v with
            | false =>
              have HL : Hid (LPS w w.heap.size p c L R g true W1) := .inl ⟨i2, Q2, m2, out2, s2, HD0.out, hI2⟩
              clear s2 hx HD0 hI2
              go_wp2_with fail
              go_roundg g
              case measure => omega
              case rel => exact ⟨true, rfl, HL⟩
            | true =>
              have HN := HDN.out W1 _ _ _ _ s2 hI2
              have HI2 := hideL hI2
              clear s2 hx hI2
              go_wp2_with fail
              refine HN.mono ?_
              rintro en W2 ⟨rfl, s3⟩
              have HL : Hid (LPS w w.heap.size p c L R g false W2) := .inl ⟨i2, _, m2, _, s3, HD0.out, HI2.out.done⟩
              clear HN s3 HD0
              go_wp2_with fail
              go_roundg g
              case measure => omega
              case rel => exact ⟨false, rfl, HL⟩
        | false =>
          rw [dM_ch] at hd
          have HD0 := hideL hd
          have HO := HCH.out wr _ _ _ _ s1 hI
          clear s1 hd hI
          go_wp2_with fail
          refine HO.mono ?_
          rintro en W1 ⟨v, rfl, hO⟩
          clear HO
          unfold CHM at hO
          cases hx : chX (L.map clX) i1 Q1 m1 out1 with
          | error q =>
            rw [hx] at hO HD0
            obtain ⟨hv, hq0, Q2, out2, m2, s2⟩ := hO
            have HL : Hid (∀ wn, LPS w w.heap.size p c L R g wn W1) := fun wn => .inr ⟨q, (Option.some.inj HD0.out).symm, hq0, Q2, out2, m2, s2⟩
            clear hq0 s2 hx HD0
            rcases hv with rfl | rfl
            · go_wp2_with fail
              go_roundg g
              case measure => omega
              case rel => exact ⟨false, rfl, HL.out _⟩
            · go_wp2_with fail
              go_roundg g
              case measure => omega
              case rel => exact ⟨true, rfl, HL.out _⟩
          | ok q =>
            obtain ⟨k2, i2, Q2, m2, out2⟩ := q
            rw [hx] at hO HD0
            obtain ⟨hv, s2⟩ := hO
            simp only at hv s2
            rcases chX_k hx with rfl | rfl | rfl
            · rw [if_neg (by decide)] at hv
              have HL : Hid (LPS w w.heap.size p c L R g false W1) := .inl ⟨i2, Q2, m2, out2, s2, HD0.out, chX_inv HI.out hx (by decide)⟩
              subst hv
              clear s2 hx HD0
              go_wp2_with fail
              go_roundg g
              case measure => omega
              case rel => exact ⟨false, rfl, HL⟩
            · rw [if_neg (by decide)] at hv
              have HL : Hid (LPS w w.heap.size p c L R g true W1) := .inl ⟨i2, Q2, m2, out2, s2, HD0.out, chX_inv HI.out hx (by decide)⟩
              subst hv
              clear s2 hx HD0
              go_wp2_with fail
              go_roundg g
              case measure => omega
              case rel => exact ⟨true, rfl, HL⟩
            · rw [if_pos rfl] at hv
              subst hv
              have c1 := s2.cells.2.1
              obtain ⟨⟨vo, vn, a1, a2, a3⟩, a4⟩ := s2
              have c3 : W1.cell? ⟨w.heap.size, 3, none⟩ = some vn := by rw [(cellsZ a1).1]; rfl
              obtain ⟨pv, cv, rfl⟩ := shapeZ a3
              have HE : Hid (R = .ok (i2, out2)) := (Option.some.inj HD0.out).symm
              have HB : Hid (Below w.heap.size w W1 ∧ OWN W1 w.heap.size (.slice pv out2.length cv) out2) := ⟨a4, a3⟩
              clear a1 a2 a3 a4 hx HD0 c5
              go_wp2_with fail
              go_quiet (fail)
              go_wp2_with fail
              refine bodyPost_ret (res_yr _ _ _ _ _ ⟨rfl, rfl, rfl⟩) rfl ?_
              refine HFIN.out _ _ (bel_drewZ nq HB.out.1) ?_
              rw [HE.out]
              exact ⟨_, rfl, HB.out.2.below (bel_drewZ nq (Below.refl _ _))⟩
      · obtain ⟨q1, q2⟩ := q
        simp only at hq0 s1
        have c5 := s1.cells.2.2.2.1
        have c1 := s1.cells.2.1
        have y1 : ((q1 : Int) == 0) = false := beq_eq_false_iff_ne.2 (by omega)
        have HE : Hid (R = .error (q1, q2) ∧ q1 ≠ 0 ∧ Below w.heap.size w wr) := ⟨hq, hq0, s1.2⟩
        clear H hq hq0 s1
        go_wp2_with fail
        go_quiet (fail)
        go_wp2_with fail
        refine bodyPost_ret (res_yr _ _ _ _ _ ⟨rfl, rfl, rfl⟩) rfl ?_
        refine HFIN.out _ _ (bel_drewZ nq HE.out.2.2) ?_
        rw [HE.out.1]
        exact ⟨rfl, HE.out.2.1⟩
end Go.Proofs.YtffgkjmfeannoaaGreatDoor.Ex
namespace Go.Proofs.YtffgkjmfeannoaaGreatDoor.Ex
open Go.RowKit
theorem res_yp (tmps : Array Value) (W : World) (x y z : Value) (h : tmps[2]?.getD undef = x ∧ tmps[3]?.getD undef = y ∧ tmps[4]?.getD undef = z) : (results Tryz.f10 tmps).run Tryz.prog W = .ok (.tuple #[x, y, z]) W := by
  simp [results, h.1, h.2.1, h.2.2, go_sem]
set_option maxRecDepth 100000 in
set_option maxHeartbeats 4000000 in
theorem column_any {W : World} {g N c : Nat} {L : List XTok} {k : Nat} (h : XR W (some ⟨g, 0, none⟩) L) (hN : L.length = N) (hk : k < L.length) (_hl : N ≤ 100000) :
    Calls Tryz.prog 17 #[.slice (some ⟨g, 0, none⟩) N c, .int .i64 (k : Int)] W fun e W' => e = .returned (.int .i64 (tokAt L k).2.2.2) ∧ Below W.heap.size W W' := by
  have h3 := (XR_at h hk).2
  have j0 : (k : Int) < (N : Int) := by omega
  have j1 : k < N := by omega
  obtain ⟨cc, hcc⟩ : ∃ cc, (tokAt L k).2.2.2 = cc := ⟨_, rfl⟩
  rw [hcc] at h3 ⊢
  clear h hN hk hcc
  go_enter Tryz.func17, Tryz.ntmps17
  go_wp2_with fail
  go_ret
  exact ⟨rfl, Below.refl _ _⟩
set_option maxRecDepth 100000 in
set_option maxHeartbeats 8000000 in
theorem yparse_any (l : List UInt8) (w : World) (hm : l.length ≤ 281474976710656) (hT : SR w) :
    Calls Tryz.prog 10 #[.string ⟨l.toArray⟩] w (PSQ (psX l) w) := by
  have HSC := refScan_any l w hm hT
  have HRI := hideL (rd_in l)
  have HCN := hideL (scan_count l)
  have HSH := hideL (shT_scan l)
  have HPX : Hid (psX l = if (scanM l).2.1 ≠ 0 then .error ((scanM l).2.1, ((scanM l).2.2.2 : Int)) else if (scanM l).1.length = 0 then .error (50, 0) else psT ((scanM l).1.map toX)) := rfl
  obtain ⟨S, hS⟩ : ∃ S, scanM l = S := ⟨_, rfl⟩
  rw [hS] at HRI HCN HSH HPX HSC
  obtain ⟨D, s1, s2, s3⟩ := S
  obtain ⟨R, hR⟩ : ∃ R, psX l = R := ⟨_, rfl⟩
  rw [hR] at HPX ⊢
  simp only at HSC HRI HCN HSH HPX
  clear hT hS hR hm
  by_cases he : s1 = 0
  · subst he
    by_cases hn : D.length = 0
    · have hr : R = .error (50, 0) := by rw [HPX.out, if_neg (by decide), if_pos hn]
      subst hr
      obtain rfl := List.length_eq_zero_iff.1 hn
      clear HPX HRI HSH HCN hn
      go_enter Tryz.func10, Tryz.ntmps10
      go_wp2_with fail
      refine HSC.mono ?_
      rintro e W1 ⟨v, rfl, o1, b1⟩
      obtain ⟨pv, cv, rfl⟩ := shapeZ o1
      have HB := hideL b1
      clear o1 b1 HSC
      go_wp2_with fail
      refine bodyPost_ret (res_yp _ _ _ _ _ ⟨rfl, rfl, rfl⟩) rfl ?_
      exact ⟨rfl, HB.out⟩
    · have hr : R = psT (D.map toX) := by rw [HPX.out, if_neg (by decide), if_neg hn]
      have hri := HRI.out rfl hn
      have y1 : ((D.length : Int) == 0) = false := beq_eq_false_iff_ne.2 (by omega)
      have HD : Hid (D.length ≤ 32769 ∧ D.length ≠ 0) := ⟨HCN.out, hn⟩
      clear HPX HRI HCN hn
      obtain ⟨r, hrd⟩ : ∃ r, rdX ((D.map toX).map clX) 0 = r := ⟨_, rfl⟩
      unfold psT at hr
      rw [hrd] at hri hr
      have HRD := hideL hrd
      have HRR := hideL hr
      have HIN : Hid (inR (D.map toX).length r) := hri
      clear hrd hr hri
      go_enter Tryz.func10, Tryz.ntmps10
      go_wp2_with fail
      refine HSC.mono ?_
      rintro e W1 ⟨v, rfl, o1, b1⟩
      obtain ⟨pv, cv, rfl⟩ := shapeZ o1
      obtain ⟨g, rfl⟩ := own_someZ o1 HD.out.2
      have hxr := XR_own o1
      have HRC := yread (D.map toX) (some ⟨g, 0, none⟩) D.length cv 0 W1 (List.length_map _) (by have := HD.out.1; omega) hxr HSH.out
      have HB := hideL b1
      have HXR := hideL hxr
      obtain ⟨N, hN⟩ : ∃ N, D.length = N := ⟨_, rfl⟩
      rw [hN] at HRC y1 HD ⊢
      have HN : Hid ((D.map toX).length = N) := by show (D.map toX).length = N; rw [List.length_map, hN]
      obtain ⟨L, hL⟩ : ∃ L, D.map toX = L := ⟨_, rfl⟩
      rw [hL] at HRC HRD HRR HIN HXR HN
      clear o1 b1 HSC hxr hN hL HSH
      go_wp2_with fail
      refine HRC.mono ?_
      rintro e W2 ⟨he, b2⟩
      have HE : Hid (rdE W1.heap.size r e W2) := by
        rcases he with ⟨h, _⟩ | ⟨i, hi, _, h⟩
        · exfalso; omega
        · have : i = 0 := by omega
          subst this
          rw [HRD.out] at h
          exact h
      have HB2 := hideL b2
      clear he b2 HRC HRD
      cases r with
      | error p =>
        obtain ⟨pn, pp⟩ := p
        obtain ⟨rfl, hp0⟩ := HE.out
        have y2 : ((pn : Int) == 0) = false := beq_eq_false_iff_ne.2 (by simp only at hp0; omega)
        have y3 : ((pn : Int) != 0) = true := by simp only [bne, y2]; rfl
        have j0 : (pp : Int) < (N : Int) := by have h1 : pp < L.length := HIN.out; have := HN.out; omega
        have j1 : pp < N := by omega
        have HCO := column_any (c := cv) (HXR.out.below HB2.out) HN.out (by have := HN.out; omega : pp < L.length) (by have := HD.out.1; omega)
        have HBF : Hid (Below w.heap.size w W2) := bel0Z HB.out HB2.out
        have HR2 : Hid (R = .error (pn, (tokAt L pp).2.2.2)) := HRR.out
        obtain ⟨cc, hcc⟩ : ∃ cc, (tokAt L pp).2.2.2 = cc := ⟨_, rfl⟩
        rw [hcc] at HCO HR2
        clear hp0 HE HIN HRR hcc j0 j1
        go_wp2_with fail
        refine HCO.mono ?_
        rintro e W3 ⟨rfl, b3⟩
        have HB3 : Hid (Below w.heap.size w W3) := bel0Z HBF.out b3
        clear HCO b3
        go_wp2_with fail
        refine bodyPost_ret (res_yp _ _ _ _ _ ⟨rfl, rfl, rfl⟩) rfl ?_
        rw [HR2.out]
        exact ⟨rfl, HB3.out⟩
      | ok q =>
        obtain ⟨qi, qm, qo⟩ := q
        obtain ⟨v, rfl, hv⟩ := HE.out
        simp only at hv
        obtain ⟨qv, qc, rfl⟩ := shapeZ hv
        have HV : Hid (OWN W2 W1.heap.size (.slice qv qo.length qc) qo) := hv
        have hin : qi < L.length := HIN.out
        have j0 : (qi : Int) < (N : Int) := by have := HN.out; omega
        have j1 : qi < N := by omega
        obtain ⟨hk0, hk3⟩ := XR_at (HXR.out.below HB2.out) hin
        have HBF : Hid (Below w.heap.size w W2) := bel0Z HB.out HB2.out
        simp only at HRR
        clear hv HE HIN
        by_cases hkd : (tokAt L qi).1 = 1
        · rw [if_neg (fun h => h hkd)] at HRR
          rw [hkd] at hk0
          by_cases hl : qi + 1 < L.length
          · rw [if_pos hl] at HRR
            obtain ⟨q1, hq1⟩ : ∃ q1, q1 = qi + 1 := ⟨_, rfl⟩
            have y4 : IntKind.i64.wrap ((qi : Int) + 1) = (q1 : Int) := by have := HD.out.1; rw [IntKind.wrap_i64]; omega
            have j2 : (q1 : Int) < (N : Int) := by have := HN.out; omega
            have j3 : q1 < N := by omega
            have hk4 := (XR_at (HXR.out.below HB2.out) hl).2
            rw [← hq1] at hk4 HRR
            obtain ⟨cc, hcc⟩ : ∃ cc, (tokAt L q1).2.2.2 = cc := ⟨_, rfl⟩
            rw [hcc] at hk4 HRR
            clear hq1 hl hkd hk3 hcc hin
            go_wp2_with fail
            go_quiet (fail)
            go_wp2_with fail
            refine bodyPost_ret (res_yp _ _ _ _ _ ⟨rfl, rfl, rfl⟩) rfl ?_
            rw [HRR.out]
            exact ⟨rfl, bel_drewZ nq HBF.out⟩
          · rw [if_neg hl] at HRR
            obtain ⟨q1, hq1⟩ : ∃ q1, q1 = qi + 1 := ⟨_, rfl⟩
            have y4 : IntKind.i64.wrap ((qi : Int) + 1) = (q1 : Int) := by have := HD.out.1; rw [IntKind.wrap_i64]; omega
            have j2 : ¬ (q1 : Int) < (N : Int) := by have := HN.out; omega
            clear hq1 hl hkd hk3 hin
            go_wp2_with fail
            refine bodyPost_ret (res_yp _ _ _ _ _ ⟨rfl, rfl, rfl⟩) rfl ?_
            rw [HRR.out]
            exact ⟨⟨_, rfl, own_baseZ HV.out HB.out.size⟩, HBF.out⟩
        · rw [if_pos hkd] at HRR
          obtain ⟨kk, hkk⟩ : ∃ kk, (tokAt L qi).1 = kk := ⟨_, rfl⟩
          obtain ⟨cc, hcc⟩ : ∃ cc, (tokAt L qi).2.2.2 = cc := ⟨_, rfl⟩
          rw [hkk] at hk0 hkd
          rw [hcc] at hk3 HRR
          have y4 : (kk == 1) = false := beq_eq_false_iff_ne.2 hkd
          have y6 : (kk != 1) = true := by simp only [bne, y4]; rfl
          clear hkd hkk hcc hin
          go_wp2_with fail
          go_quiet (fail)
          go_wp2_with fail
          refine bodyPost_ret (res_yp _ _ _ _ _ ⟨rfl, rfl, rfl⟩) rfl ?_
          rw [HRR.out]
          exact ⟨rfl, bel_drewZ nq HBF.out⟩
  · have hr : R = .error (s1, (s3 : Int)) := by rw [HPX.out, if_pos he]
    subst hr
    have y1 : ((s1 : Int) == 0) = false := beq_eq_false_iff_ne.2 (by omega)
    have y2 : ((s1 : Int) != 0) = true := by simp only [bne, y1]; rfl
    clear HPX HRI HSH HCN he
    go_enter Tryz.func10, Tryz.ntmps10
    go_wp2_with fail
    refine HSC.mono ?_
    rintro e W1 ⟨v, rfl, o1, b1⟩
    have HB := hideL b1
    clear o1 b1 HSC
    go_wp2_with fail
    refine bodyPost_ret (res_yp _ _ _ _ _ ⟨rfl, rfl, rfl⟩) rfl ?_
    exact ⟨rfl, HB.out⟩
end Go.Proofs.YtffgkjmfeannoaaGreatDoor.Ex
namespace Go.Proofs.YtffgkjmfeannoaaGreatDoor.Ex
open Go.RowKit
theorem nds_at : ∀ (out : List Nd) (k : Nat) (x : Nd), out[k]? = some x → ∀ (j : Nat) (v : Value), (ndC x)[j]? = some v → (nds out)[k * 8 + j]? = some v
  | [], k, x, h, j, v, hv => by simp at h
  | y :: r, 0, x, h, j, v, hv => by
    have h : y = x := by simpa using h
    subst h
    show (ndC y ++ nds r)[0 * 8 + j]? = some v
    have hj : j < (ndC y).length := by
      rcases Nat.lt_or_ge j (ndC y).length with h1 | h1
      · exact h1
      · rw [List.getElem?_eq_none h1] at hv; cases hv
    rw [Nat.zero_mul, Nat.zero_add, List.getElem?_append_left hj]
    exact hv
  | y :: r, k + 1, x, h, j, v, hv => by
    show (ndC y ++ nds r)[(k + 1) * 8 + j]? = some v
    have h8 : (ndC y).length = 8 := rfl
    rw [List.getElem?_append_right (by omega), h8, show (k + 1) * 8 + j - 8 = k * 8 + j by omega]
    exact nds_at r k x (by simpa using h) j v hv
theorem OWN_at {W : World} {B g n c : Nat} {out : List Nd} {k : Nat} {x : Nd} (h : OWN W B (.slice (some ⟨g, 0, none⟩) n c) out) (hk : out[k]? = some x) :
    W.cell? ⟨g, k * 8, none⟩ = some (.int .i64 (x.k : Int)) ∧ W.cell? ⟨g, k * 8 + 1, none⟩ = some (.string ⟨x.t.f.toArray⟩) ∧ W.cell? ⟨g, k * 8 + 2, none⟩ = some (.int .i64 (x.t.o : Int)) ∧ W.cell? ⟨g, k * 8 + 3, none⟩ = some (.int .i64 (x.t.fm : Int)) ∧ W.cell? ⟨g, k * 8 + 4, none⟩ = some (.int .i64 x.t.lo) ∧ W.cell? ⟨g, k * 8 + 5, none⟩ = some (.int .i64 x.t.hi) ∧ W.cell? ⟨g, k * 8 + 6, none⟩ = some (.int .i64 x.t.ln) ∧ W.cell? ⟨g, k * 8 + 7, none⟩ = some (.string ⟨x.t.p.toArray⟩) := by
  have hc : ∀ j v, (ndC x)[j]? = some v → W.cell? ⟨g, k * 8 + j, none⟩ = some v := fun j v hv => own_atZ h (nds_at out k x hk j v hv)
  exact ⟨hc 0 _ rfl, hc 1 _ rfl, hc 2 _ rfl, hc 3 _ rfl, hc 4 _ rfl, hc 5 _ rfl, hc 6 _ rfl, hc 7 _ rfl⟩
set_option maxRecDepth 100000 in
set_option maxHeartbeats 8000000 in
theorem alike_any {W : World} {B1 B2 : Nat} {v1 v2 : Value} {out : List Nd} (h1 : OWN W B1 v1 out) (h2 : OWN W B2 v2 out) (hl : out.length ≤ 100000) :
    Calls Tryz.prog 8 #[v1, v2] W fun e W' => e = .returned (.bool true) ∧ Below W.heap.size W W' := by
  obtain ⟨p1, c1, rfl⟩ := shapeZ h1
  obtain ⟨p2, c2, rfl⟩ := shapeZ h2
  obtain ⟨N, hN⟩ : ∃ N, out.length = N := ⟨_, rfl⟩
  have HK : Hid (∀ (k : Nat) (U : World), Below W.heap.size W U → k < N → ∃ (g1 g2 : Nat) (x : Nd), p1 = some ⟨g1, 0, none⟩ ∧ p2 = some ⟨g2, 0, none⟩ ∧
      (U.cell? ⟨g1, k * 8, none⟩ = some (.int .i64 (x.k : Int)) ∧ U.cell? ⟨g1, k * 8 + 1, none⟩ = some (.string ⟨x.t.f.toArray⟩) ∧ U.cell? ⟨g1, k * 8 + 2, none⟩ = some (.int .i64 (x.t.o : Int)) ∧ U.cell? ⟨g1, k * 8 + 3, none⟩ = some (.int .i64 (x.t.fm : Int)) ∧ U.cell? ⟨g1, k * 8 + 4, none⟩ = some (.int .i64 x.t.lo) ∧ U.cell? ⟨g1, k * 8 + 5, none⟩ = some (.int .i64 x.t.hi) ∧ U.cell? ⟨g1, k * 8 + 6, none⟩ = some (.int .i64 x.t.ln) ∧ U.cell? ⟨g1, k * 8 + 7, none⟩ = some (.string ⟨x.t.p.toArray⟩)) ∧
      (U.cell? ⟨g2, k * 8, none⟩ = some (.int .i64 (x.k : Int)) ∧ U.cell? ⟨g2, k * 8 + 1, none⟩ = some (.string ⟨x.t.f.toArray⟩) ∧ U.cell? ⟨g2, k * 8 + 2, none⟩ = some (.int .i64 (x.t.o : Int)) ∧ U.cell? ⟨g2, k * 8 + 3, none⟩ = some (.int .i64 (x.t.fm : Int)) ∧ U.cell? ⟨g2, k * 8 + 4, none⟩ = some (.int .i64 x.t.lo) ∧ U.cell? ⟨g2, k * 8 + 5, none⟩ = some (.int .i64 x.t.hi) ∧ U.cell? ⟨g2, k * 8 + 6, none⟩ = some (.int .i64 x.t.ln) ∧ U.cell? ⟨g2, k * 8 + 7, none⟩ = some (.string ⟨x.t.p.toArray⟩))) := fun k U hU hk => by
    obtain ⟨g1, rfl⟩ := own_someZ h1 (by omega)
    obtain ⟨g2, rfl⟩ := own_someZ h2 (by omega)
    obtain ⟨x, hx⟩ : ∃ x, out[k]? = some x := ⟨_, List.getElem?_eq_getElem (by omega)⟩
    exact ⟨g1, g2, x, rfl, rfl, OWN_at (own_belZ h1 hU) hx, OWN_at (own_belZ h2 hU) hx⟩
  rw [hN] at hl ⊢
  clear h1 h2 hN
  go_enter Tryz.func8, Tryz.ntmps8
  go_wp2_with fail
  go_loopw [5] (fun vi wr => ∃ k : Nat, vi = .int .i64 (k : Int) ∧ k ≤ N ∧ Hid (Below W.heap.size W wr)) (fun vi _ => N - (intOf vi).toNat)
  case atStart => exact ⟨0, rfl, Nat.zero_le _, Below.refl _ _⟩
  case round =>
    obtain ⟨k, rfl, hk, HB⟩ := hrel
    by_cases hlt : k < N
    · obtain ⟨g1, g2, x, rfl, rfl, ⟨a0, a1, a2, a3, a4, a5, a6, a7⟩, ⟨b0, b1, b2, b3, b4, b5, b6, b7⟩⟩ := HK.out k wr HB.out hlt
      have j0 : (0 : Int) ≤ (k : Int) := by omega
      have j1 : (k : Int) < (N : Int) := by omega
      go_wp2_with fail
      go_quiet (fail)
      go_wp2_with fail
      go_roundw
      case rel => exact ⟨k + 1, by go_num, by omega, bel_drewZ nq HB.out⟩
      case measure => simp [intOf]; omega
    · obtain rfl : k = N := by omega
      have j1 : ¬ (k : Int) < (k : Int) := by omega
      go_wp2_with fail
      go_ret
      exact ⟨rfl, HB.out⟩
theorem rd_len {LT : List Tk} {i qi qm : Nat} {qo : List Nd} (h : rdX LT i = .ok (qi, qm, qo)) : qo.length ≤ 64 := by
  have := pX_len LT _ _ _ _ _ _ _ _ _ ((rdX_some LT i).trans (by rw [h]))
  obtain ⟨h1, h2, _⟩ := this
  have := h2 (by omega)
  simp only [List.length_nil] at h1
  omega
set_option maxRecDepth 100000 in
set_option maxHeartbeats 4000000 in
theorem num_any (z : Int) (w : World) : Calls Tryz.prog 7 #[.int .i64 z] w fun e w' => e = .returned (.int .i64 z) ∧ w' = w := by
  go_enter Tryz.func7, Tryz.ntmps7
  go_wp2_with fail
  go_ret
  exact ⟨rfl, rfl⟩
theorem OS.below {w W : World} (h : OS w) (hb : Below w.heap.size w W) : OS W := by
  obtain ⟨t, fr, h⟩ := h
  exact ⟨t, fr, keepZ hb h⟩
end Go.Proofs.YtffgkjmfeannoaaGreatDoor.Ex
namespace Go.Proofs.YtffgkjmfeannoaaGreatDoor.Ex
open Go.RowKit
def psE (r : Except (Nat × Int) (List Nd)) : Nat := match r with | .error p => p.1 | .ok _ => 0
def psC (r : Except (Nat × Int) (List Nd)) : Int := match r with | .error p => p.2 | .ok _ => 0
def psO (r : Except (Nat × Int) (List Nd)) : List Nd := match r with | .error _ => [] | .ok o => o
theorem PSQ_one {r : Except (Nat × Int) (List Nd)} {w w' : World} {e : Ending} (h : PSQ r w e w') : ∃ v, e = .returned (.tuple #[v, .int .i64 (psE r : Int), .int .i64 (psC r)]) ∧ OWN w' w.heap.size v (psO r) ∧ Below w.heap.size w w' := by
  obtain ⟨h1, h2⟩ := h
  cases r with
  | error p => exact ⟨_, h1, World.ownsRow_nil _ _ _ _, h2⟩
  | ok o =>
    obtain ⟨v, h3, h4⟩ := h1
    exact ⟨v, h3, h4, h2⟩
theorem psX_len (l : List UInt8) : (psO (psX l)).length ≤ 64 := by
  unfold psX
  split
  · exact Nat.zero_le _
  · split
    · exact Nat.zero_le _
    · unfold psT
      cases hr : rdX (((scanM l).1.map toX).map clX) 0 with
      | error p => exact Nat.zero_le _
      | ok q =>
        obtain ⟨qi, qm, qo⟩ := q
        simp only
        split
        · exact Nat.zero_le _
        · split
          · exact Nat.zero_le _
          · exact rd_len hr
set_option maxRecDepth 100000 in
set_option maxHeartbeats 8000000 in
theorem exprParses_walk (l : List UInt8) (w : World) (hm : l.length ≤ 281474976710656) (hT : TAB w) (hO : ∀ U, Below w.heap.size w U → OS U) (hR : SR w) :
    Calls Tryz.prog 4 #[.string ⟨l.toArray⟩] w fun e w' => e = .returned (.bool true) ∧ Below w.heap.size w w' := by
  have H1 := xparse_any l w hm hT hO
  have H2 : Hid (∀ U, Below w.heap.size w U → Calls Tryz.prog 10 #[.string ⟨l.toArray⟩] U (PSQ (psX l) U)) := fun U hU => yparse_any l U hm (hR.below hU)
  have HLN := hideL (psX_len l)
  obtain ⟨r, hr⟩ : ∃ r, psX l = r := ⟨_, rfl⟩
  rw [hr] at H1 H2 HLN
  clear hT hO hR hm hr
  go_enter Tryz.func4, Tryz.ntmps4
  go_wp2_with fail
  refine H1.mono ?_
  intro e W1 hq
  obtain ⟨v1, rfl, o1, b1⟩ := PSQ_one hq
  have HA := H2.out W1 b1
  have H3 : Hid (OWN W1 w.heap.size v1 (psO r) ∧ Below w.heap.size w W1) := ⟨o1, b1⟩
  obtain ⟨p1, c1, rfl⟩ := shapeZ o1
  clear hq o1 b1 H1 H2
  go_wp2_with fail
  refine HA.mono ?_
  intro e W2 hq
  obtain ⟨v2, rfl, o2, b2⟩ := PSQ_one hq
  have H4 : Hid (OWN W2 w.heap.size (.slice p1 (psO r).length c1) (psO r) ∧ OWN W2 W1.heap.size v2 (psO r) ∧ Below w.heap.size w W2) := ⟨own_belZ H3.out.1 b2, o2, bel0Z H3.out.2 b2⟩
  obtain ⟨p2, c2, rfl⟩ := shapeZ o2
  have HAL : Hid (∀ U, Below W2.heap.size W2 U → Calls Tryz.prog 8 #[.slice p1 (psO r).length c1, .slice p2 (psO r).length c2] U fun e W' => e = .returned (.bool true) ∧ Below U.heap.size U W') := fun U hU => alike_any (own_belZ H4.out.1 hU) (own_belZ H4.out.2.1 hU) (by have := HLN.out; omega)
  clear hq o2 b2 HA H3
  go_wp2_with fail
  refine (num_any _ W2).mono ?_
  rintro e W3 ⟨rfl, hw3⟩
  obtain rfl := hw3.symm
  have HL := HAL.out W2 (Below.refl _ _)
  clear HAL
  go_wp2_with fail
  refine HL.mono ?_
  rintro e W4 ⟨rfl, b4⟩
  have HF : Hid (Below w.heap.size w W4) := bel0Z H4.out.2.2 b4
  clear HL b4 H4
  go_wp2_with fail
  go_ret
  exact ⟨rfl, HF.out⟩
end Go.Proofs.YtffgkjmfeannoaaGreatDoor.Ex
namespace Go.Proofs.YtffgkjmfeannoaaGreatDoor
open Go.RowKit
theorem exprParses_walk (s : ByteArray) (w : World) (hs : s.size ≤ 281474976710656) (hv1 : SH w) (hv4 : SG w) (hv5 : VW w) (hg : SR w) (ho : Ex.OS w) :
    Calls Tryz.prog 4 #[.string s] w fun e w' => e = .returned (.bool true) ∧ Below w.heap.size w w' := by
  obtain ⟨l, rfl⟩ : ∃ l : List UInt8, s = ⟨l.toArray⟩ := ⟨s.data.toList, by simp⟩
  have hl : l.length ≤ 281474976710656 := by
    have e : (ByteArray.mk l.toArray).size = l.length := by simp [ByteArray.size]
    omega
  exact Ex.exprParses_walk l w hl (fun U hU => ⟨hv1.below hU, hv4.below hU, hv5.below hU⟩) (fun U hU => ho.below hU) hg
end Go.Proofs.YtffgkjmfeannoaaGreatDoor

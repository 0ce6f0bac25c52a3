import Derived.Test.YtffgkjmfeannoaaGreatDoorXBQ
import Derived.Deep.LoopGhost
import Derived.Deep.Cut
import Derived.Deep.CutRange
namespace Go.Proofs.YtffgkjmfeannoaaGreatDoor.Ex
open Go.RowKit
variable {w0 W X : World} {b : Nat} {pt : Option Addr} {ct : Nat} {L : List XTok} {i m e : Nat} {Q : List Nat} {out : List Nd}
def chX (LT : List Tk) (i : Nat) (Q : List Nat) (m : Nat) (out : List Nd) : Except (Nat × Nat) (Nat × Nat × List Nat × Nat × List Nd) :=
  match tk LT i with
  | .amp => if 64 ≤ m then .error (51, i) else .ok (1, i + 1, 38 :: past (· == 38) Q, m + 1, out ++ flush (upto (· == 38) Q))
  | .bar => if 64 ≤ m then .error (51, i) else .ok (1, i + 1, 124 :: past (fun c => c == 38 || c == 124) Q, m + 1, out ++ flush (upto (fun c => c == 38 || c == 124) Q))
  | .cls => if 40 ∈ Q then .ok (0, i + 1, dnP (past (· != 40) Q).tail, m, out ++ flush (upto (· != 40) Q) ++ dnO (past (· != 40) Q).tail) else .ok (2, i, [], m, out ++ flush Q)
  | _ => if 40 ∈ Q then .error (50, i) else .ok (2, i, [], m, out ++ flush Q)
theorem dM_ch {LT : List Tk} (n : Nat) : dM LT (n + 1) false i Q m out = match chX LT i Q m out with
    | .error e => some (.error e)
    | .ok (0, i', Q', m', out') => dM LT n false i' Q' m' out'
    | .ok (1, i', Q', m', out') => dM LT n true i' Q' m' out'
    | .ok (_, i', _, _, out') => some (.ok (i', out')) := by
  rw [dM]
  unfold chX
  cases h : tk LT i with
  | amp => simp only; split <;> rfl
  | bar => simp only; split <;> rfl
  | cls => simp only; split <;> rfl
  | _ => simp only; split <;> rfl
theorem chX_amp (h : isS (tokAt L i) [38] = true) : chX (L.map clX) i Q m out = if 64 ≤ m then .error (51, i) else .ok (1, i + 1, 38 :: past (· == 38) Q, m + 1, out ++ flush (upto (· == 38) Q)) := by
  unfold chX
  rw [tk_cl, (is_amp (nB := ofB 2) (nV := nV0) (pB := ofB 5) _).1 h]
theorem chX_bar (h : isS (tokAt L i) [124] = true) : chX (L.map clX) i Q m out = if 64 ≤ m then .error (51, i) else .ok (1, i + 1, 124 :: past (fun c => c == 38 || c == 124) Q, m + 1, out ++ flush (upto (fun c => c == 38 || c == 124) Q)) := by
  unfold chX
  rw [tk_cl, (is_bar (nB := ofB 2) (nV := nV0) (pB := ofB 5) _).1 h]
theorem chX_else (h1 : isS (tokAt L i) [38] = false) (h2 : isS (tokAt L i) [124] = false) : chX (L.map clX) i Q m out = if 40 ∈ Q then (if isS (tokAt L i) [41] = true then .ok (0, i + 1, dnP (past (· != 40) Q).tail, m, out ++ flush (upto (· != 40) Q) ++ dnO (past (· != 40) Q).tail) else .error (50, i)) else .ok (2, i, [], m, out ++ flush Q) := by
  unfold chX
  split
  · rename_i h
    rw [tk_cl] at h
    rw [(is_amp (nB := ofB 2) (nV := nV0) (pB := ofB 5) _).2 h] at h1
    cases h1
  · rename_i h
    rw [tk_cl] at h
    rw [(is_bar (nB := ofB 2) (nV := nV0) (pB := ofB 5) _).2 h] at h2
    cases h2
  · rename_i h
    rw [tk_cl] at h
    rw [if_pos ((is_cls (nB := ofB 2) (nV := nV0) (pB := ofB 5) _).2 h)]
  · rename_i h3 h4 h
    rw [tk_cl] at h
    have : ¬ isS (tokAt L i) [41] = true := fun h9 => h ((is_cls (nB := ofB 2) (nV := nV0) (pB := ofB 5) _).1 h9)
    rw [if_neg this]
theorem past_len (f : Nat → Bool) (Q : List Nat) : (past f Q).length ≤ Q.length := by
  have h := congrArg List.length (List.takeWhile_append_dropWhile (p := f) (l := Q))
  rw [List.length_append] at h
  unfold past
  omega
theorem flush_split (f : Nat → Bool) (Q : List Nat) : flush (upto f Q) ++ flush (past f Q) = flush Q := by rw [← flush_app]; unfold upto past; rw [List.takeWhile_append_dropWhile]
def PPS (w0 : World) (b : Nat) (pt : Option Addr) (ct : Nat) (L : List XTok) (i m e : Nat) (f : Nat → Bool) (P : List Nat) (O : List Nd) (W : World) (Q : List Nat) (out : List Nd) : Prop := DS w0 b pt ct L W i Q out m e ∧ past f Q = P ∧ out ++ flush (upto f Q) = O ∧ out.length + (flush Q).length ≤ 1000 ∧ Q.length ≤ 90000 ∧ w0.heap.size ≤ b
theorem PPS.start (f : Nat → Bool) (hb : w0.heap.size ≤ b) (hq : Q.length ≤ 90000) (hout : out.length + (flush Q).length ≤ 1000) (h : DS w0 b pt ct L W i Q out m e) : PPS w0 b pt ct L i m e f (past f Q) (out ++ flush (upto f Q)) W Q out := ⟨h, rfl, rfl, hout, hq, hb⟩
theorem PPS.step {f : Nat → Bool} {P : List Nat} {O : List Nd} {c : Nat} (h : PPS w0 b pt ct L i m e f P O W (c :: Q) out) (hf : f c = true) (s : DS w0 b pt ct L X i Q (out ++ sgn c) m e) : PPS w0 b pt ct L i m e f P O X Q (out ++ sgn c) := by
  obtain ⟨_, h1, h2, h3, h4, h5⟩ := h
  refine ⟨s, ?_, ?_, ?_, ?_, h5⟩
  · rw [← h1]; simp [past, hf]
  · rw [← h2]
    have : upto f (c :: Q) = c :: upto f Q := by simp [upto, hf]
    rw [this, flush_cons, List.append_assoc]
  · rw [flush_cons, List.length_append] at h3
    rw [List.length_append]
    omega
  · simp only [List.length_cons] at h4; omega
theorem PPS.stop {f : Nat → Bool} {P : List Nat} {O : List Nd} (h : PPS w0 b pt ct L i m e f P O W Q out) (hf : ∀ c Q', Q = c :: Q' → f c = false) (s : DS w0 b pt ct L X i Q out m e) : DS w0 b pt ct L X i P O m e ∧ P.length ≤ 90000 ∧ O.length + (flush P).length ≤ 1000 ∧ Q = P := by
  obtain ⟨_, h1, h2, h3, h4, h5⟩ := h
  cases Q with
  | nil =>
    have e1 : P = [] := by rw [← h1]; rfl
    have e2 : O = out := by rw [← h2]; show out ++ [] = out; rw [List.append_nil]
    subst e1 e2
    exact ⟨s, h4, h3, rfl⟩
  | cons c Q =>
    have hc := hf c Q rfl
    have e1 : P = c :: Q := by rw [← h1]; simp [past, hc]
    have e2 : O = out := by
      rw [← h2]
      have : upto f (c :: Q) = [] := by simp [upto, hc]
      rw [this]
      show out ++ [] = out
      rw [List.append_nil]
    subst e1 e2
    exact ⟨s, h4, h3, rfl⟩
theorem head_cons {c : Nat} (h : Q.headD 0 = c) (hc : c ≠ 0) : ∃ Q', Q = c :: Q' := by
  cases Q with
  | nil => exact absurd h.symm hc
  | cons d Q => exact ⟨Q, by rw [← h]; rfl⟩
theorem mem_take {l : List Nat} {k x : Nat} (h : l[k]? = some x) : (40 ∈ l.take (k + 1)) ↔ (40 ∈ l.take k ∨ x = 40) := by
  rw [List.take_add_one, h, List.mem_append]
  constructor
  · rintro (h | h)
    · exact .inl h
    · right; simp at h; exact h.symm
  · rintro (h | h)
    · exact .inl h
    · right; simp [h]
def CLQ (w0 : World) (b : Nat) (pt : Option Addr) (ct : Nat) (L : List XTok) (i : Nat) (Q : List Nat) (m : Nat) (out : List Nd) (en : Ending) (W' : World) : Prop :=
  if 40 ∈ Q then en = .returned (.bool true) ∧ (if isS (tokAt L i) [41] = true then DS w0 b pt ct L W' (i + 1) (dnP (past (· != 40) Q).tail) (out ++ flush (upto (· != 40) Q) ++ dnO (past (· != 40) Q).tail) m 0 else DS w0 b pt ct L W' i Q out m 50)
  else en = .returned (.bool false) ∧ DS w0 b pt ct L W' i Q out m 0
set_option maxRecDepth 100000 in
set_option maxHeartbeats 8000000 in
theorem closing_any (hX : XR w0 pt L) (hb : w0.heap.size ≤ b) (hlen : L.length ≤ 100000) (hil : i ≤ 100000) (hq : Q.length ≤ 90000) (hout : out.length + (flush Q).length ≤ 1000) (h : DS w0 b pt ct L W i Q out m 0) :
    Calls Tryz.prog 29 #[.pointer (some ⟨b, 0, none⟩)] W (CLQ w0 b pt ct L i Q m out) := by
  obtain ⟨p, c, c2, hp⟩ := h.pile
  have c1 := h.cells.2.1
  have HB : Hid (w0.heap.size ≤ b ∧ i ≤ 100000 ∧ Q.length ≤ 90000 ∧ out.length + (flush Q).length ≤ 1000) := ⟨hb, hil, hq, hout⟩
  have HSG : Hid (∀ U, DS w0 b pt ct L U i Q out m 0 → Calls Tryz.prog 21 #[.pointer (some ⟨b, 0, none⟩), .int .i64 (i : Int), .string ⟨[41].toArray⟩] U fun en W' => en = .returned (.bool (isS (tokAt L i) [41])) ∧ DS w0 b pt ct L W' i Q out m 0) := fun U hU => (sign_any i [41] hX hlen hU).mono fun en W' he => ⟨he.1, by rw [he.2]; exact hU⟩
  have HFL : Hid (∀ U, DS w0 b pt ct L U i Q out m 0 → Calls Tryz.prog 26 #[.pointer (some ⟨b, 0, none⟩), .int .i64 50, .int .i64 (i : Int)] U fun en W' => en = .returned (.tuple #[]) ∧ DS w0 b pt ct L W' i Q out m 50) := fun U hU => (fail0_any 50 i hb hU).mono fun en W' he => ⟨he.1, he.2.1⟩
  have HS := hideL h
  obtain ⟨R, hR⟩ : ∃ R, Q.reverse = R := ⟨_, rfl⟩
  have HM : Hid (40 ∈ Q ↔ 40 ∈ R) := by show 40 ∈ Q ↔ 40 ∈ R; rw [← hR, List.mem_reverse]
  have hRl : Q.length = R.length := by rw [← hR, List.length_reverse]
  rw [hR] at hp
  have HP := hideL hp
  rw [hRl] at c2 hq
  have y5 : IntKind.i64.wrap ((i : Int) + 1) = (i : Int) + 1 := by rw [IntKind.wrap_i64]; omega
  clear h hp hR hb hRl hX hlen hil hout
  go_enter Tryz.func29, Tryz.ntmps29
  go_wp2_with fail
  go_loopw [3, 4] (fun vs vi wr => ∃ (k : Nat) (B : Bool), vi = .int .i64 (k : Int) ∧ vs = .bool B ∧ k ≤ R.length ∧ Hid (B = decide (40 ∈ R.take k)) ∧ wr = W) (fun _ vi _ => R.length - (intOf vi).toNat)
  case atStart => exact ⟨0, false, rfl, rfl, Nat.zero_le _, by show false = _; simp, rfl⟩
  case round =>
    obtain ⟨k, B, rfl, rfl, hk, HN, rfl⟩ := hrel
    by_cases hlt : k < R.length
    · have j0 : (0 : Int) ≤ (k : Int) := by omega
      have j1 : (k : Int) < (R.length : Int) := by omega
      obtain ⟨x, hx⟩ : ∃ x, R[k]? = some x := ⟨_, List.getElem?_eq_getElem hlt⟩
      obtain ⟨g, rfl, hc⟩ := HP.out k x hx
      have hT := mem_take hx
      cases B with
      | true =>
        have HN2 : Hid (true = decide (40 ∈ R.take (k + 1))) := (decide_eq_true (hT.2 (.inl (of_decide_eq_true HN.out.symm)))).symm
        clear hT hx HN
        go_wp2_with fail
        go_roundw
        case rel => exact ⟨k + 1, true, by go_num, by rfl, by omega, HN2, by first | rfl | trivial⟩
        case measure => simp [intOf]; omega
      | false =>
        by_cases h1 : x = 40
        · have HN2 : Hid (true = decide (40 ∈ R.take (k + 1))) := (decide_eq_true (hT.2 (.inr h1))).symm
          subst h1
          clear hT hx HN
          go_wp2_with fail
          go_roundw
          case rel => exact ⟨k + 1, true, by go_num, by rfl, by omega, HN2, by first | rfl | trivial⟩
          case measure => simp [intOf]; omega
        · have y1 : ((x : Int) == 40) = false := beq_eq_false_iff_ne.2 (by omega)
          have HN2 : Hid (false = decide (40 ∈ R.take (k + 1))) := (decide_eq_false (fun h9 => (hT.1 h9).elim (fun h9 => (of_decide_eq_false HN.out.symm) h9) h1)).symm
          clear hT hx HN h1
          go_wp2_with fail
          go_roundw
          case rel => exact ⟨k + 1, false, by go_num, by rfl, by omega, HN2, by first | rfl | trivial⟩
          case measure => simp [intOf]; omega
    · obtain rfl : k = R.length := by omega
      have j1 : ¬ (R.length : Int) < (R.length : Int) := by omega
      rw [List.take_length] at HN
      cases B with
      | false =>
        have hno : 40 ∉ Q := fun h9 => (of_decide_eq_false HN.out.symm) (HM.out.1 h9)
        have HE : Hid (CLQ w0 b pt ct L i Q m out (.returned (.bool false)) wr) := by
          show CLQ _ _ _ _ _ _ _ _ _ _ _
          unfold CLQ
          rw [if_neg hno]
          exact ⟨rfl, HS.out⟩
        clear hno HN hlt
        go_wp2_with fail
        go_ret
        exact HE.out
      | true =>
        have hin : 40 ∈ Q := HM.out.2 (of_decide_eq_true HN.out.symm)
        have HIN := hideL hin
        have HQ : Hid (∀ W', (if isS (tokAt L i) [41] = true then DS w0 b pt ct L W' (i + 1) (dnP (past (· != 40) Q).tail) (out ++ flush (upto (· != 40) Q) ++ dnO (past (· != 40) Q).tail) m 0 else DS w0 b pt ct L W' i Q out m 50) → CLQ w0 b pt ct L i Q m out (.returned (.bool true)) W') := fun W' h9 => by
          unfold CLQ
          rw [if_pos hin]
          exact ⟨rfl, h9⟩
        have HA := HSG.out _ HS.out
        clear HN hlt hin
        cases hs : isS (tokAt L i) [41] with
        | false =>
          rw [hs] at HA HQ
          simp only [if_neg Bool.false_ne_true] at HQ
          clear hs
          go_wp2_with fail
          refine HA.mono ?_
          rintro en W1 ⟨rfl, s1⟩
          have d1 := s1.cells.2.1
          have HF := HFL.out W1 s1
          clear HA s1
          go_wp2_with fail
          refine HF.mono ?_
          rintro en W2 ⟨rfl, s2⟩
          have HD := hideL (HQ.out W2 s2)
          clear HF s2 HQ
          go_wp2_with fail
          go_ret
          exact HD.out
        | true =>
          rw [hs] at HA HQ
          simp only at HQ
          clear hs
          go_wp2_with fail
          refine HA.mono ?_
          rintro en W1 ⟨rfl, s1⟩
          have H0 : Hid (PPS w0 b pt ct L i m 0 (· != 40) (past (· != 40) Q) (out ++ flush (upto (· != 40) Q)) W1 Q out) := PPS.start _ HB.out.1 HB.out.2.2.1 HB.out.2.2.2 s1
          obtain ⟨P, hPP⟩ : ∃ P, past (· != 40) Q = P := ⟨_, rfl⟩
          obtain ⟨O, hO⟩ : ∃ O, out ++ flush (upto (· != 40) Q) = O := ⟨_, rfl⟩
          rw [hPP, hO] at H0 HQ
          have HPI : Hid (40 ∈ Q) := HIN.out
          clear HA s1 hPP hO c1 c2
          go_wp2_with fail
          go_loopg [] (Q.length) (fun gk wr => ∃ Q' out', gk = List.length Q' ∧ Hid (PPS w0 b pt ct L i m 0 (· != 40) P O wr Q' out') ∧ Hid (40 ∈ Q'))
          case atStart => exact ⟨Q, out, rfl, H0, HPI⟩
          case round =>
            clear H0
            obtain ⟨Q', out', hk, H, HI⟩ := hrel
            obtain ⟨s0, e1, e2, e3, e4, e5⟩ := H.out
            have HT := top_any (by omega) s0
            have HK := hideL hk
            clear s0 e1 e2 e3 e4 e5 hk
            cases Q' with
            | nil => exact absurd HI.out (by simp)
            | cons c' Q' =>
              simp only [List.headD_cons] at HT
              by_cases h1 : c' = 40
              · subst h1
                go_wp2_with fail
                refine HT.mono ?_
                rintro en W2 ⟨rfl, s2⟩
                obtain ⟨s3, z1, z2, z3⟩ := H.out.stop (fun c Q9 h9 => by injection h9 with h9 _; subst h9; rfl) s2
                rw [← z3] at s3 z1 z2
                obtain ⟨g9, cap, k1, k2, k4⟩ := s3.popped HB.out.1
                have k3 := s3.cells.2.2.2.2 2
                have HZ : Hid (Q'.length ≤ 90000 ∧ O.length + (flush Q').length ≤ 1000) := by
                  simp only [List.length_cons] at z1
                  rw [flush_cons, List.length_append] at z2
                  exact ⟨by omega, by omega⟩
                rw [← z3] at HQ
                simp only [List.tail_cons] at HQ
                obtain ⟨N, hN⟩ : ∃ N, Q'.length + 1 = N := ⟨_, rfl⟩
                obtain ⟨M, hM⟩ : ∃ M, Q'.length = M := ⟨_, rfl⟩
                have y1 : IntKind.i64.wrap ((N : Int) - 1) = (M : Int) := by have := HZ.out.1; rw [IntKind.wrap_i64]; omega
                have j5 : M ≤ N := by omega
                have j6 : M ≤ cap := by omega
                rw [hN] at k1 k2
                rw [hM] at k4
                have HD := hideL k4
                clear HT s2 s3 z1 z2 z3 k4 hN hM HK H HI HPI HIN HM HP
                go_wp2_with fail
                refine quiet_last (C := fun U => ∃ n, U = W2.drewN n) (by kernel_rfl) (by kernel_rfl) (by kernel_rfl) (by kernel_rfl) ⟨1, rfl⟩ ?_
                simp only [List.dropLast_cons_cons, List.dropLast_singleton]
                repeat (quiet_step (fail))
                refine wpQuiet_nil ?_
                rintro W6 ⟨nq, rfl⟩
                refine wpOp_goE rfl rfl ?_
                go_simp
                obtain ⟨W7, hW7⟩ : ∃ W7, W7 = (W2.drewN nq).setCell ⟨b, 2, none⟩ (.slice (some ⟨g9, 0, none⟩) M cap) := ⟨_, rfl⟩
                have HD7 : Hid (DS w0 b pt ct L W7 i Q' O m 0) := by show DS _ _ _ _ _ _ _ _ _ _ _; rw [hW7]; exact HD.out.drewSet nq
                rw [← hW7]
                clear hW7 HD k1 k2 k3
                obtain ⟨d0, d1, d4, d5, df⟩ := HD7.out.cells
                have f1 := df 1
                have HD8 := hideL (HD7.out.set HB.out.1 (i' := i + 1) (m' := m) (e' := 0) 1 (.int .i64 ((i : Int) + 1)) (fun vo vn => by simp))
                have HDN := done_any HB.out.1 HZ.out.1 HZ.out.2 HD8.out
                clear HD7 d0 d4 d5 df HD8
                go_wp2_with fail
                refine HDN.mono ?_
                rintro en W9 ⟨rfl, s9⟩
                have HD9 := hideL (HQ.out W9 s9)
                clear HDN s9 HQ
                go_wp2_with fail
                go_ret
                exact HD9.out
              · have y2 : ((c' : Int) == 40) = false := beq_eq_false_iff_ne.2 (by omega)
                have y3 : ((c' : Int) != 40) = true := by simp only [bne, y2]; rfl
                have HC : Hid ((c' != 40) = true ∧ 40 ∈ Q') := ⟨by simp [h1], by have := HI.out; simp only [List.mem_cons] at this; rcases this with h9 | h9; exact absurd h9.symm h1; exact h9⟩
                clear h1
                go_wp2_with fail
                refine HT.mono ?_
                rintro en W2 ⟨rfl, s2⟩
                have HPO := pop_any HB.out.1 (by have := H.out.2.2.2.2.1; simp only [List.length_cons] at this; omega) (by have := H.out.2.2.2.1; omega) s2
                clear HT s2
                go_wp2_with fail
                refine HPO.mono ?_
                rintro en W3 ⟨rfl, s3⟩
                have HD := hideL (H.out.step HC.out.1 s3)
                clear HPO s3
                go_wp2_with fail
                go_roundg (List.length Q')
                case measure => have := HK.out; simp only [List.length_cons] at this; omega
                case rel => exact ⟨Q', _, rfl, HD, HC.out.2⟩
end Go.Proofs.YtffgkjmfeannoaaGreatDoor.Ex
namespace Go.Proofs.YtffgkjmfeannoaaGreatDoor.Ex
open Go.RowKit
variable {w0 W X : World} {b : Nat} {pt : Option Addr} {ct : Nat} {L : List XTok} {i m e : Nat} {Q : List Nat} {out : List Nd}
theorem past_all : ∀ Q : List Nat, past (fun _ => true) Q = []
  | [] => rfl
  | _ :: t => past_all t
theorem upto_all : ∀ Q : List Nat, upto (fun _ => true) Q = Q
  | [] => rfl
  | c :: t => congrArg (c :: ·) (upto_all t)
def CHM (w0 : World) (b : Nat) (pt : Option Addr) (ct : Nat) (L : List XTok) (r : Except (Nat × Nat) (Nat × Nat × List Nat × Nat × List Nd)) (v : Int) (W' : World) : Prop := match r with
  | .error p => (v = 0 ∨ v = 1) ∧ p.1 ≠ 0 ∧ ∃ Q' out' m', DS w0 b pt ct L W' p.2 Q' out' m' p.1
  | .ok q => v = (if q.1 = 2 then -1 else (q.1 : Int)) ∧ DS w0 b pt ct L W' q.2.1 q.2.2.1 q.2.2.2.2 q.2.2.2.1 0
def CHQ (w0 : World) (b : Nat) (pt : Option Addr) (ct : Nat) (L : List XTok) (r : Except (Nat × Nat) (Nat × Nat × List Nat × Nat × List Nd)) (en : Ending) (W' : World) : Prop := ∃ v : Int, en = .returned (.int .i64 v) ∧ CHM w0 b pt ct L r v W'
set_option maxRecDepth 100000 in
set_option maxHeartbeats 16000000 in
theorem chain_any (hX : XR w0 pt L) (hb : w0.heap.size ≤ b) (hlen : L.length ≤ 100000) (hil : i ≤ 100000) (hm : m ≤ 64) (hq : Q.length ≤ 90000) (hout : out.length + (flush Q).length ≤ 1000) (h : DS w0 b pt ct L W i Q out m 0) :
    Calls Tryz.prog 14 #[.pointer (some ⟨b, 0, none⟩)] W (CHQ w0 b pt ct L (chX (L.map clX) i Q m out)) := by
  obtain ⟨R, hR⟩ : ∃ R, chX (L.map clX) i Q m out = R := ⟨_, rfl⟩
  have HB : Hid (w0.heap.size ≤ b ∧ i ≤ 100000 ∧ m ≤ 64 ∧ Q.length ≤ 90000 ∧ out.length + (flush Q).length ≤ 1000) := ⟨hb, hil, hm, hq, hout⟩
  have HSG : Hid (∀ (sg : List UInt8) U, DS w0 b pt ct L U i Q out m 0 → Calls Tryz.prog 21 #[.pointer (some ⟨b, 0, none⟩), .int .i64 (i : Int), .string ⟨sg.toArray⟩] U fun en W' => en = .returned (.bool (isS (tokAt L i) sg)) ∧ DS w0 b pt ct L W' i Q out m 0) := fun sg U hU => (sign_any i sg hX hlen hU).mono fun en W' he => ⟨he.1, by rw [he.2]; exact hU⟩
  have HMK : Hid (∀ U, DS w0 b pt ct L U i Q out m 0 → Calls Tryz.prog 23 #[.pointer (some ⟨b, 0, none⟩)] U fun en W' => en = .returned (.tuple #[]) ∧ DS w0 b pt ct L W' i Q out (m + 1) (if 64 ≤ m then 51 else 0)) := fun U hU => make1_any hb (by omega) hU
  have HCL : Hid (∀ U, DS w0 b pt ct L U i Q out m 0 → Calls Tryz.prog 29 #[.pointer (some ⟨b, 0, none⟩)] U (CLQ w0 b pt ct L i Q m out)) := fun U hU => closing_any hX hb hlen hil hq hout hU
  have HR0 := hideL hR
  rw [hR]
  have HS0 := hideL h
  have c1 := h.cells.2.1
  have y5 : IntKind.i64.wrap ((i : Int) + 1) = (i : Int) + 1 := by rw [IntKind.wrap_i64]; omega
  clear hX hb hlen hil hm hout hq h hR
  have HA1 := HSG.out [38] W HS0.out
  go_enter Tryz.func14, Tryz.ntmps14
  go_wp2_with fail
  cases hs : isS (tokAt L i) [38] with
  | true =>
    rw [hs] at HA1
    refine HA1.mono ?_
    rintro en W1 ⟨rfl, s1⟩
    clear HA1 HS0 c1
    rw [chX_amp hs] at HR0
    obtain ⟨P, hPP⟩ : ∃ P, past (fun c => c == 38) Q = P := ⟨_, rfl⟩
    obtain ⟨O, hO⟩ : ∃ O, out ++ flush (upto (fun c => c == 38) Q) = O := ⟨_, rfl⟩
    obtain ⟨E, hE0⟩ : ∃ E, E = (if 64 ≤ m then 51 else 0) := ⟨_, rfl⟩
    rw [← hE0] at HMK
    have HRE : Hid (R = if E ≠ 0 then .error (E, i) else .ok (1, i + 1, 38 :: P, m + 1, O)) := by
      show R = _
      rw [← HR0.out, hE0, ← hPP, ← hO]
      by_cases h2 : 64 ≤ m
      · rw [if_pos h2, if_pos h2]; rfl
      · rw [if_neg h2, if_neg h2]; rfl
    have HM1 := HMK.out W1 s1
    have HPO : Hid (past (fun c => c == 38) Q = P ∧ out ++ flush (upto (fun c => c == 38) Q) = O) := ⟨hPP, hO⟩
    clear hs hE0 HR0 HMK HSG HCL s1 hPP hO
    go_wp2_with fail
    refine HM1.mono ?_
    rintro en W2 ⟨rfl, s2⟩
    have H0 : Hid (PPS w0 b pt ct L i (m + 1) E (fun c => c == 38) P O W2 Q out) := by
      have := PPS.start (fun c => c == 38) HB.out.1 HB.out.2.2.2.1 HB.out.2.2.2.2 s2
      rw [HPO.out.1, HPO.out.2] at this
      exact this
    clear HM1 s2 HPO
    go_wp2_with fail
    go_loopg [] (Q.length) (fun gk wr => ∃ Q' out', gk = List.length Q' ∧ Hid (PPS w0 b pt ct L i (m + 1) E (fun c => c == 38) P O wr Q' out'))
    case atStart => exact ⟨Q, out, rfl, H0⟩
    case round =>
      clear H0
      obtain ⟨Q', out', hk, H⟩ := hrel
      have HT := top_any (by have := H.out.2.2.2.2.1; omega) H.out.1
      have HK := hideL hk
      clear hk
      by_cases h38 : Q'.headD 0 = 38
      · obtain ⟨Q9, rfl⟩ := head_cons h38 (by decide)
        simp only [List.headD_cons] at HT
        clear h38
        go_wp2_with fail
        refine HT.mono ?_
        rintro en V0 ⟨rfl, t0⟩
        have HPO := pop_any HB.out.1 (by have := H.out.2.2.2.2.1; simp only [List.length_cons] at this; omega) (by have := H.out.2.2.2.1; omega) t0
        clear HT t0
        go_wp2_with fail
        refine HPO.mono ?_
        rintro en W3 ⟨rfl, s3⟩
        have HD := hideL (H.out.step rfl s3)
        clear HPO s3
        go_wp2_with fail
        go_roundg (List.length Q9)
        case measure => have := HK.out; simp only [List.length_cons] at this; omega
        case rel => exact ⟨Q9, _, rfl, HD⟩
      · have HST : Hid (∀ c Q9, Q' = c :: Q9 → (fun c => c == 38) c = false) := fun c Q9 h9 => by subst h9; simp only [List.headD_cons] at h38; simp [h38]
        obtain ⟨d9, hd9⟩ : ∃ d9, Q'.headD 0 = d9 := ⟨_, rfl⟩
        rw [hd9] at HT h38
        have y38 : ((d9 : Int) == 38) = false := beq_eq_false_iff_ne.2 (by omega)
        have HD9 := hideL hd9
        clear h38 HK hd9
        go_wp2_with fail
        refine HT.mono ?_
        rintro en V0 ⟨rfl, t0⟩
        obtain ⟨s3, z1, z2, z3⟩ := H.out.stop HST.out t0
        obtain ⟨vo, q9, n9, c9, W3, p1, hr, p2, p3, hd⟩ := s3.pushB 38 HB.out.1 z1
        have HR : Hid ((Builtin.append_ #[42, 42] 42 #[vo, .slice (some ⟨V0.heap.size, 0, none⟩) 1 1]).run Tryz.prog (V0.alloc (.cells #[.int .u8 38] 5 (0, 0))) = .ok (.slice q9 n9 c9) W3) := hr
        obtain ⟨x0, x1, x4, x5, xf⟩ := hd.cells
        have xf1 := xf 1
        have HD := hideL hd
        clear hr hd xf x0 x4 z1 z2 z3 s3 HT t0 H HST HD9
        by_cases hE : E = 0
        · subst hE
          have HD2 := hideL (HD.out.set HB.out.1 (i' := i + 1) (m' := m + 1) (e' := 0) 1 (.int .i64 ((i : Int) + 1)) (fun vo vn => by simp))
          have HF : Hid (CHM w0 b pt ct L R 1 ((W3.setCell ⟨b, 2, none⟩ (.slice q9 n9 c9)).setCell ⟨b, 1, none⟩ (.int .i64 ((i : Int) + 1)))) := by
            rw [HRE.out, if_neg (fun h => h rfl)]
            exact ⟨rfl, HD2.out⟩
          clear HRE HD HD2
          go_wp2_with (at_builtin; refine wpList_runZ rfl _ _ 42 rfl rfl rfl HR.out ?_; clear HR)
          go_ret
          exact ⟨1, rfl, HF.out⟩
        · have w1 : ((E : Int) == 0) = false := beq_eq_false_iff_ne.2 (by omega)
          have HF : Hid (CHM w0 b pt ct L R 1 (W3.setCell ⟨b, 2, none⟩ (.slice q9 n9 c9))) := by
            rw [HRE.out, if_pos hE]
            exact ⟨.inr rfl, hE, _, _, _, HD.out⟩
          clear HRE HD hE
          go_wp2_with (at_builtin; refine wpList_runZ rfl _ _ 42 rfl rfl rfl HR.out ?_; clear HR)
          go_ret
          exact ⟨1, rfl, HF.out⟩
  | false =>
    rw [hs] at HA1
    have HN38 := hideL hs
    refine HA1.mono ?_
    rintro en W1 ⟨rfl, s1⟩
    clear HA1 HS0 c1
    have HA2 := HSG.out [124] W1 s1
    have c1 := s1.cells.2.1
    clear s1 hs
    go_wp2_with fail
    cases hs : isS (tokAt L i) [124] with
    | true =>
      rw [hs] at HA2
      refine HA2.mono ?_
      rintro en W1 ⟨rfl, s1⟩
      clear HA2 c1
      rw [chX_bar hs] at HR0
      obtain ⟨P, hPP⟩ : ∃ P, past (fun c => c == 38 || c == 124) Q = P := ⟨_, rfl⟩
      obtain ⟨O, hO⟩ : ∃ O, out ++ flush (upto (fun c => c == 38 || c == 124) Q) = O := ⟨_, rfl⟩
      obtain ⟨E, hE0⟩ : ∃ E, E = (if 64 ≤ m then 51 else 0) := ⟨_, rfl⟩
      rw [← hE0] at HMK
      have HRE : Hid (R = if E ≠ 0 then .error (E, i) else .ok (1, i + 1, 124 :: P, m + 1, O)) := by
        show R = _
        rw [← HR0.out, hE0, ← hPP, ← hO]
        by_cases h2 : 64 ≤ m
        · rw [if_pos h2, if_pos h2]; rfl
        · rw [if_neg h2, if_neg h2]; rfl
      have HM1 := HMK.out W1 s1
      have HPO : Hid (past (fun c => c == 38 || c == 124) Q = P ∧ out ++ flush (upto (fun c => c == 38 || c == 124) Q) = O) := ⟨hPP, hO⟩
      clear hs hE0 HR0 HMK HSG HCL s1 hPP hO
      go_wp2_with fail
      refine HM1.mono ?_
      rintro en W2 ⟨rfl, s2⟩
      have H0 : Hid (PPS w0 b pt ct L i (m + 1) E (fun c => c == 38 || c == 124) P O W2 Q out) := by
        have := PPS.start (fun c => c == 38 || c == 124) HB.out.1 HB.out.2.2.2.1 HB.out.2.2.2.2 s2
        rw [HPO.out.1, HPO.out.2] at this
        exact this
      clear HM1 s2 HPO
      go_wp2_with fail
      go_loopg [] (Q.length) (fun gk wr => ∃ Q' out', gk = List.length Q' ∧ Hid (PPS w0 b pt ct L i (m + 1) E (fun c => c == 38 || c == 124) P O wr Q' out'))
      case atStart => exact ⟨Q, out, rfl, H0⟩
      case round =>
        clear H0
        obtain ⟨Q', out', hk, H⟩ := hrel
        have HT := top_any (by have := H.out.2.2.2.2.1; omega) H.out.1
        have HK := hideL hk
        clear hk
        by_cases h38 : Q'.headD 0 = 38
        · obtain ⟨Q9, rfl⟩ := head_cons h38 (by decide)
          simp only [List.headD_cons] at HT
          clear h38
          go_wp2_with fail
          refine HT.mono ?_
          rintro en V0 ⟨rfl, t0⟩
          have HPO := pop_any HB.out.1 (by have := H.out.2.2.2.2.1; simp only [List.length_cons] at this; omega) (by have := H.out.2.2.2.1; omega) t0
          clear HT t0
          go_wp2_with fail
          refine HPO.mono ?_
          rintro en W3 ⟨rfl, s3⟩
          have HD := hideL (H.out.step rfl s3)
          clear HPO s3
          go_wp2_with fail
          go_roundg (List.length Q9)
          case measure => have := HK.out; simp only [List.length_cons] at this; omega
          case rel => exact ⟨Q9, _, rfl, HD⟩
        · by_cases h124 : Q'.headD 0 = 124
          · obtain ⟨Q9, rfl⟩ := head_cons h124 (by decide)
            simp only [List.headD_cons] at HT
            clear h124
            go_wp2_with fail
            refine HT.mono ?_
            rintro en V0 ⟨rfl, t0⟩
            have HT := top_any (by have := H.out.2.2.2.2.1; omega) t0
            simp only [List.headD_cons] at HT
            clear t0
            go_wp2_with fail
            refine HT.mono ?_
            rintro en V1 ⟨rfl, t1⟩
            have HPO := pop_any HB.out.1 (by have := H.out.2.2.2.2.1; simp only [List.length_cons] at this; omega) (by have := H.out.2.2.2.1; omega) t1
            clear HT t1
            go_wp2_with fail
            refine HPO.mono ?_
            rintro en W3 ⟨rfl, s3⟩
            have HD := hideL (H.out.step rfl s3)
            clear HPO s3
            go_wp2_with fail
            go_roundg (List.length Q9)
            case measure => have := HK.out; simp only [List.length_cons] at this; omega
            case rel => exact ⟨Q9, _, rfl, HD⟩
          · have HST : Hid (∀ c Q9, Q' = c :: Q9 → (fun c => c == 38 || c == 124) c = false) := fun c Q9 h9 => by subst h9; simp only [List.headD_cons] at h38 h124; simp [h38, h124]
            obtain ⟨d9, hd9⟩ : ∃ d9, Q'.headD 0 = d9 := ⟨_, rfl⟩
            rw [hd9] at HT h38 h124
            have y38 : ((d9 : Int) == 38) = false := beq_eq_false_iff_ne.2 (by omega)
            have y124 : ((d9 : Int) == 124) = false := beq_eq_false_iff_ne.2 (by omega)
            have HD9 := hideL hd9
            clear h38 h124 HK hd9
            go_wp2_with fail
            refine HT.mono ?_
            rintro en V0 ⟨rfl, t0⟩
            have HT := top_any (by have := H.out.2.2.2.2.1; omega) t0
            rw [HD9.out] at HT
            clear t0
            go_wp2_with fail
            refine HT.mono ?_
            rintro en V1 ⟨rfl, t1⟩
            obtain ⟨s3, z1, z2, z3⟩ := H.out.stop HST.out t1
            obtain ⟨vo, q9, n9, c9, W3, p1, hr, p2, p3, hd⟩ := s3.pushB 124 HB.out.1 z1
            have HR : Hid ((Builtin.append_ #[42, 42] 42 #[vo, .slice (some ⟨V1.heap.size, 0, none⟩) 1 1]).run Tryz.prog (V1.alloc (.cells #[.int .u8 124] 5 (0, 0))) = .ok (.slice q9 n9 c9) W3) := hr
            obtain ⟨x0, x1, x4, x5, xf⟩ := hd.cells
            have xf1 := xf 1
            have HD := hideL hd
            clear hr hd xf x0 x4 z1 z2 z3 s3 HT t1 H HST HD9
            by_cases hE : E = 0
            · subst hE
              have HD2 := hideL (HD.out.set HB.out.1 (i' := i + 1) (m' := m + 1) (e' := 0) 1 (.int .i64 ((i : Int) + 1)) (fun vo vn => by simp))
              have HF : Hid (CHM w0 b pt ct L R 1 ((W3.setCell ⟨b, 2, none⟩ (.slice q9 n9 c9)).setCell ⟨b, 1, none⟩ (.int .i64 ((i : Int) + 1)))) := by
                rw [HRE.out, if_neg (fun h => h rfl)]
                exact ⟨rfl, HD2.out⟩
              clear HRE HD HD2
              go_wp2_with (at_builtin; refine wpList_runZ rfl _ _ 42 rfl rfl rfl HR.out ?_; clear HR)
              go_ret
              exact ⟨1, rfl, HF.out⟩
            · have w1 : ((E : Int) == 0) = false := beq_eq_false_iff_ne.2 (by omega)
              have HF : Hid (CHM w0 b pt ct L R 1 (W3.setCell ⟨b, 2, none⟩ (.slice q9 n9 c9))) := by
                rw [HRE.out, if_pos hE]
                exact ⟨.inr rfl, hE, _, _, _, HD.out⟩
              clear HRE HD hE
              go_wp2_with (at_builtin; refine wpList_runZ rfl _ _ 42 rfl rfl rfl HR.out ?_; clear HR)
              go_ret
              exact ⟨1, rfl, HF.out⟩
    | false =>
      rw [hs] at HA2
      refine HA2.mono ?_
      rintro en W1 ⟨rfl, s1⟩
      clear HA2 c1
      rw [chX_else HN38.out hs] at HR0
      have HC1 := HCL.out W1 s1
      clear HN38 hs HMK HSG HCL s1
      go_wp2_with fail
      refine HC1.mono ?_
      intro en W2 hc
      clear HC1
      unfold CLQ at hc
      by_cases hin : 40 ∈ Q
      · rw [if_pos hin] at hc HR0
        obtain ⟨rfl, hc⟩ := hc
        have HF : Hid (CHM w0 b pt ct L R 0 W2) := by
          rw [← HR0.out]
          by_cases h41 : isS (tokAt L i) [41] = true
          · rw [if_pos h41] at hc ⊢
            exact ⟨rfl, hc⟩
          · rw [if_neg h41] at hc ⊢
            exact ⟨.inl rfl, by simp, _, _, _, hc⟩
        clear hc hin HR0
        go_wp2_with fail
        go_ret
        exact ⟨0, rfl, HF.out⟩
      · rw [if_neg hin] at hc HR0
        obtain ⟨rfl, hc⟩ := hc
        have H0 : Hid (PPS w0 b pt ct L i m 0 (fun _ => true) [] (out ++ flush Q) W2 Q out) := by
          have := PPS.start (fun _ => true) HB.out.1 HB.out.2.2.2.1 HB.out.2.2.2.2 hc
          have e1 : past (fun _ => true) Q = [] := past_all Q
          have e2 : upto (fun _ => true) Q = Q := upto_all Q
          rw [e1, e2] at this
          exact this
        clear hc hin
        go_wp2_with fail
        go_loopg [] (Q.length) (fun gk wr => ∃ Q' out', gk = List.length Q' ∧ Hid (PPS w0 b pt ct L i m 0 (fun _ => true) [] (out ++ flush Q) wr Q' out'))
        case atStart => exact ⟨Q, out, rfl, H0⟩
        case round =>
          clear H0
          obtain ⟨Q', out', hk, H⟩ := hrel
          obtain ⟨p, c, c2, hp⟩ := H.out.1.pile
          have HK := hideL hk
          clear hk hp
          cases Q' with
          | nil =>
            simp only [List.length_nil] at c2
            have HF : Hid (CHM w0 b pt ct L R (-1) wr) := by
              rw [← HR0.out]
              exact ⟨rfl, (H.out.stop (fun c Q9 h9 => by cases h9) H.out.1).1⟩
            clear HR0 H
            go_wp2_with fail
            go_ret
            exact ⟨-1, rfl, HF.out⟩
          | cons x Q' =>
            obtain ⟨N, hN⟩ : ∃ N, List.length (x :: Q') = N := ⟨_, rfl⟩
            rw [hN] at c2
            have j1 : (0 : Int) < (N : Int) := by simp only [List.length_cons] at hN; omega
            have HPO := pop_any HB.out.1 (by have := H.out.2.2.2.2.1; simp only [List.length_cons] at this; omega) (by have := H.out.2.2.2.1; omega) H.out.1
            clear hN
            go_wp2_with fail
            refine HPO.mono ?_
            rintro en W3 ⟨rfl, s3⟩
            have HD := hideL (H.out.step rfl s3)
            clear HPO s3
            go_wp2_with fail
            go_roundg (List.length Q')
            case measure => have := HK.out; simp only [List.length_cons] at this; omega
            case rel => exact ⟨Q', _, rfl, HD⟩
end Go.Proofs.YtffgkjmfeannoaaGreatDoor.Ex

import Derived.Test.YtffgkjmfeannoaaGreatDoorXBL
namespace Go.Proofs.YtffgkjmfeannoaaGreatDoor.Ex
open Go.RowKit
variable {w0 W X : World} {b : Nat} {pt : Option Addr} {ct : Nat} {L : List XTok} {i o m : Nat} {out : List Nd}
theorem fldT (a c d : Int) (x : ByteArray) (w : World) : (Instr.field 24 (.agg #[.int .i64 a, .string x, .int .i64 c, .int .i64 d]) 1).run Tryz.prog w = .ok (.string x) w := by
  simp [Instr.field, run_underlying Tryz.underlying24, go_sem, asAgg]
theorem ext_drop1 (x : List UInt8) : ByteArray.extract ⟨x.toArray⟩ 1 x.length = ⟨(x.drop 1).toArray⟩ := ByteArray.ext (by simp; exact List.take_of_length_le (by simp))
theorem ofB_len {k : Nat} {x : List UInt8} (h : ofB k x = true) : x.length ≤ 16384 ∧ 1 ≤ x.length := by
  unfold ofB at h
  constructor
  · rcases Nat.lt_or_ge 16384 x.length with h1 | h1
    · unfold scanM at h
      rw [if_pos h1] at h
      cases h
    · exact h1
  · cases x with
    | nil =>
      have e : (scanM []).1 = [] := by rfl
      rw [e] at h
      cases h
    | cons c x => simp
theorem patB_len {t : XTok} (h : patB t = true) : t.2.1.length ≤ 16384 ∧ 1 ≤ t.2.1.length := ofB_len (k := 5) (by
  unfold patB at h
  exact (Bool.and_eq_true _ _ ▸ h : _ ∧ _).2)
def VLQ (w0 : World) (b : Nat) (pt : Option Addr) (ct : Nat) (L : List XTok) (o m : Nat) (out : List Nd) (bt : Nat) (r : Except Nat (Nat × Ts)) (e : Ending) (W' : World) : Prop :=
  match r with
  | .error p => e = .returned (.bool false) ∧ ST w0 b pt ct L W' p o m out
  | .ok q => e = .returned (.bool true) ∧ ST w0 b pt ct L W' q.1 o m out ∧ BT W' bt (tsB q.2)
def SB (w0 : World) (b : Nat) (pt : Option Addr) (ct : Nat) (L : List XTok) (o m : Nat) (out : List Nd) (bt : Nat) (W : World) (i : Nat) (t : Ts) : Prop := ST w0 b pt ct L W i o m out ∧ BT W bt (tsB t)
theorem SB.below {bt : Nat} {t : Ts} (h : SB w0 b pt ct L o m out bt W i t) (hb : Below W.heap.size W X) : SB w0 b pt ct L o m out bt X i t := ⟨h.1.below hb, h.2.below hb⟩
theorem SB.put {bt : Nat} {t t' : Ts} (h : SB w0 b pt ct L o m out bt W i t) (hbt : w0.heap.size ≤ bt) (j : Nat) (u : Value) (hj : (tsB t).setIfInBounds j u = tsB t') : SB w0 b pt ct L o m out bt (W.setCell ⟨bt, j, none⟩ u) i t' := ⟨h.1.other h.2 hbt u, by rw [← hj]; exact h.2.set u⟩
theorem SB.on {bt : Nat} {t : Ts} (h : SB w0 b pt ct L o m out bt W i t) (hb : w0.heap.size ≤ b) (hi : i < L.length) : SB w0 b pt ct L o m out bt (W.setCell ⟨b, 1, none⟩ (.int .i64 ((i : Int) + 1))) (i + 1) t := ⟨h.1.set hb (i' := i + 1) (o' := o) (m' := m) 1 _ (by omega) (fun vn => by simp), h.2.other (bt_ne h.2 h.1) _⟩
theorem SB.cells {bt : Nat} {t : Ts} (h : SB w0 b pt ct L o m out bt W i t) : W.cell? ⟨b, 1, none⟩ = some (.int .i64 (i : Int)) ∧ (∀ j, W.frozen? ⟨b, j, none⟩ = false) ∧ W.cell? ⟨bt, 1, none⟩ = some (.int .i64 (t.o : Int)) ∧ W.cell? ⟨bt, 2, none⟩ = some (.int .i64 (t.fm : Int)) ∧ W.cell? ⟨bt, 6, none⟩ = some (.string ⟨t.p.toArray⟩) ∧ ∀ j, W.frozen? ⟨bt, j, none⟩ = false := by
  obtain ⟨c0, c1, c2, c3, cf⟩ := h.1.cells
  have g := (cellsZ h.2).1
  exact ⟨c1, cf, by rw [g]; rfl, by rw [g]; rfl, by rw [g]; rfl, (cellsZ h.2).2⟩
set_option maxRecDepth 100000 in
set_option maxHeartbeats 16000000 in
theorem value_w (bt : Nat) (f : List UInt8) (op : Nat) (hX : XR w0 pt L) (hb : w0.heap.size ≤ b) (hlen : L.length ≤ 100000) (hT : TAB w0) (hS : shT L) (hbt : w0.heap.size ≤ bt) (hop : 1 ≤ op ∧ op ≤ 6) (h : SB w0 b pt ct L o m out bt W i ⟨f, op, 0, 0, 0, 0, []⟩) :
    Calls Tryz.prog 87 #[.pointer (some ⟨b, 0, none⟩), .pointer (some ⟨bt, 0, none⟩)] W (VLQ w0 b pt ct L o m out bt (vlX L i f op)) := by
  have HOF : Hid (∀ U j t, SB w0 b pt ct L o m out bt U j t → Calls Tryz.prog 56 #[.pointer (some ⟨b, 0, none⟩), .int .i64 5] U fun e W' => e = .returned (.bool (patB (tokAt L j))) ∧ SB w0 b pt ct L o m out bt W' j t) := fun U j t hU => (isOf_any 5 hX hlen hT hS hU.1).mono fun e W' he => ⟨he.1, hU.below he.2⟩
  have HAT : Hid (∀ sg U j t, SB w0 b pt ct L o m out bt U j t → Calls Tryz.prog 35 #[.pointer (some ⟨b, 0, none⟩), .string ⟨sg.toArray⟩] U fun e W' => e = .returned (.bool (isS (tokAt L j) sg)) ∧ SB w0 b pt ct L o m out bt W' j t) := fun sg U j t hU => (isAt_any sg hX hlen hU.1).mono fun e W' he => ⟨he.1, hU.below he.2⟩
  have HTK : Hid (∀ U j t, SB w0 b pt ct L o m out bt U j t → Calls Tryz.prog 50 #[.pointer (some ⟨b, 0, none⟩)] U fun e W' => e = .returned (tokV (tokAt L j)) ∧ SB w0 b pt ct L o m out bt W' j t) := fun U j t hU => (token_any hX hlen hU.1).mono fun e W' he => ⟨he.1, hU.below he.2⟩
  have HNM : Hid (∀ U j (t : Ts) (k : Nat) (z0 : Int), (tsB t)[k]? = some (.int .i64 z0) → SB w0 b pt ct L o m out bt U j t → Calls Tryz.prog 96 #[.pointer (some ⟨b, 0, none⟩), .pointer (some ⟨bt, k, none⟩)] U fun e W' => (nvX (tokAt L j) = none ∧ e = .returned (.bool false) ∧ SB w0 b pt ct L o m out bt W' j t) ∨ (∃ v, nvX (tokAt L j) = some v ∧ e = .returned (.bool true) ∧ ST w0 b pt ct L W' (j + 1) o m out ∧ BT W' bt ((tsB t).setIfInBounds k (.int .i64 v)))) := fun U j t k z0 hz hU => number_any bt k (tsB t) hX hb hlen hT hS hU.1 hU.2 hbt z0 hz (nvX_in L j)
  have HP : Hid (w0.heap.size ≤ b ∧ w0.heap.size ≤ bt ∧ L.length ≤ 100000 ∧ (patB (tokAt L i) = true → i < L.length ∧ (tokAt L i).2.1.length ≤ 16384 ∧ 1 ≤ (tokAt L i).2.1.length)) := ⟨hb, hbt, hlen, fun hp => ⟨patB_in hp, patB_len hp⟩⟩
  have HSB : Hid (SB w0 b pt ct L o m out bt W i ⟨f, op, 0, 0, 0, 0, []⟩) := h
  clear hX hlen hT hS hb hbt
  obtain ⟨g1, gf1, g2, g3, g4, gf2⟩ := h.cells
  clear h
  rcases (show op = 1 ∨ op = 2 ∨ 3 ≤ op by omega) with rfl | rfl | h3
  · have H1 := HOF.out W i _ HSB.out
    simp only at g2
    cases hpt : patB (tokAt L i) with
    | true =>
      have HR : Hid (vlX L i f 1 = .ok (i + 1, ⟨f, 1, 4, 0, 0, 0, (tokAt L i).2.1.drop 1⟩)) := by show vlX _ _ _ _ = _; unfold vlX; rw [if_pos ⟨by omega, hpt⟩]
      obtain ⟨HIL, HLN⟩ := HP.out.2.2.2 hpt
      rw [hpt] at H1
      obtain ⟨⟨tk, tx, tl, tc⟩, ht⟩ : ∃ t, tokAt L i = t := ⟨_, rfl⟩
      rw [ht] at HLN HR
      have HTK2 : Hid (∀ U t, SB w0 b pt ct L o m out bt U i t → Calls Tryz.prog 50 #[.pointer (some ⟨b, 0, none⟩)] U fun e W' => e = .returned (.agg #[.int .i64 tk, .string ⟨tx.toArray⟩, .int .i64 tl, .int .i64 tc]) ∧ SB w0 b pt ct L o m out bt W' i t) := fun U t hU => by
        have := HTK.out U i t hU
        rw [ht] at this
        exact this
      simp only at HLN HR
      obtain ⟨hl1, hl2⟩ := HLN
      have HCL : Hid (∀ U, Calls Tryz.prog 30 #[.string ⟨(tx.drop 1).toArray⟩] U fun e w' => e = .returned (.string ⟨(tx.drop 1).toArray⟩) ∧ Below U.heap.size U w') := fun U => clone_any (tx.drop 1) U (by rw [List.length_drop]; omega)
      have HI := hideL HIL
      obtain ⟨ty, hty⟩ : ∃ y, tx.drop 1 = y := ⟨_, rfl⟩
      have HEX : Hid (ByteArray.extract ⟨tx.toArray⟩ 1 tx.length = ⟨ty.toArray⟩) := by show ByteArray.extract _ _ _ = _; rw [ext_drop1, hty]
      rw [hty] at HR HCL
      clear hty
      have hsz : 1 ≤ ByteArray.size ⟨tx.toArray⟩ := by simp [ByteArray.size]; omega
      clear hpt ht HIL
      go_enter Tryz.func87, Tryz.ntmps87
      go_wp2_with fail
      refine H1.mono ?_
      rintro e W1 ⟨rfl, s1⟩
      have HT1 := HTK2.out W1 _ s1
      have hfl := fldT
      clear H1
      go_wp2_with fail
      refine HT1.mono ?_
      rintro e W2 ⟨rfl, s2⟩
      have HS2 := hideL s2
      have HC2 : Calls Tryz.prog 30 #[.string (ByteArray.extract ⟨tx.toArray⟩ 1 tx.length)] W2 fun e w' => e = .returned (.string ⟨ty.toArray⟩) ∧ Below W2.heap.size W2 w' := by rw [HEX.out]; exact HCL.out W2
      clear HT1 s1 s2
      go_wp2_with fail
      refine HC2.mono ?_
      rintro e W3 ⟨rfl, b3⟩
      have s3 := HS2.out.below b3
      obtain ⟨c1, cf1, c2, c3, c4, cf2⟩ := s3.cells
      have fz := cf2 2
      have s4 := s3.put HP.out.2.1 (t' := ⟨f, 1, 4, 0, 0, 0, []⟩) 2 (.int .i64 4) rfl
      obtain ⟨d1, df1, d2, d3, d4, df2⟩ := s4.cells
      have fz1 := df2 6
      have s5 := s4.put HP.out.2.1 (t' := ⟨f, 1, 4, 0, 0, 0, ty⟩) 6 (.string ⟨ty.toArray⟩) rfl
      obtain ⟨e1, ef1, e2, e3, e4, ef2⟩ := s5.cells
      have fz2 := ef1 1
      have s6 := s5.on HP.out.1 HI.out
      have y5 : IntKind.i64.wrap ((i : Int) + 1) = (i : Int) + 1 := by have := HI.out; have := HP.out.2.2.1; rw [IntKind.wrap_i64]; omega
      have HF := hideL s6
      clear HC2 b3 s3 s4 s5 s6 c1 c2 c4 cf1 cf2 d1 d2 d3 df1 df2 e2 e3 e4 ef1 ef2
      go_wp2_with fail
      go_ret
      rw [HR.out]
      exact ⟨rfl, HF.out.1, HF.out.2⟩
    | false =>
      have HPF := hideL hpt
      rw [hpt] at H1
      clear hpt
      go_enter Tryz.func87, Tryz.ntmps87
      go_wp2_with fail
      refine H1.mono ?_
      rintro e W1 ⟨rfl, s1⟩
      have s2 := s1.put HP.out.2.1 (t' := ⟨f, 1, 1, 0, 0, 0, []⟩) 2 (.int .i64 1) rfl
      obtain ⟨c1, cf1, c2, c3, c4, cf2⟩ := s1.cells
      have fz := cf2 2
      have HN1 := HNM.out _ i _ 3 0 rfl s2
      clear H1 cf1 cf2 s2 c4 c2 c1
      go_wp2_with fail
      refine HN1.mono ?_
      rintro e W2 (⟨hn, rfl, s3⟩ | ⟨v, hn, rfl, s3, s4⟩)
      · have HR : Hid (vlX L i f 1 = .error i) := by show vlX _ _ _ _ = _; unfold vlX; rw [HPF.out, hn, if_neg (fun h => absurd h.2 (by decide))]
        have HF := hideL s3
        clear hn s3 HN1 s1 c3 fz
        go_wp2_with fail
        go_ret
        rw [HR.out]
        exact ⟨rfl, HF.out.1⟩
      · have s5 : SB w0 b pt ct L o m out bt W2 (i + 1) ⟨f, 1, 1, v, 0, 0, []⟩ := ⟨s3, s4⟩
        have HN := hideL hn
        obtain ⟨i1, hi1⟩ : ∃ k, k = i + 1 := ⟨_, rfl⟩
        rw [← hi1] at s5
        have HI1 := hideL hi1
        have HA1 := HAT.out [47] W2 i1 _ s5
        clear hn s3 s4 HN1 s1 c3 fz s5 hi1
        cases hsl : isS (tokAt L i1) [47] with
        | true =>
          rw [hsl] at HA1
          have HSL := hideL hsl
          have HI := hideL (isS_in hsl)
          clear hsl
          go_wp2_with fail
          refine HA1.mono ?_
          rintro e W3 ⟨rfl, s6⟩
          obtain ⟨c1, cf1, c2, c3, c4, cf2⟩ := s6.cells
          have fz := cf2 2
          have s7 := s6.put HP.out.2.1 (t' := ⟨f, 1, 2, v, 0, 0, []⟩) 2 (.int .i64 2) rfl
          obtain ⟨d1, df1, d2, d3, d4, df2⟩ := s7.cells
          have fz1 := df1 1
          have s8 := s7.on HP.out.1 HI.out
          have HN2 := HNM.out _ _ _ 5 0 rfl s8
          have y5 : IntKind.i64.wrap ((i1 : Int) + 1) = (i1 : Int) + 1 := by have := HI.out; have := HP.out.2.2.1; rw [IntKind.wrap_i64]; omega
          clear HA1 cf1 cf2 s6 s7 s8 c4 c2 df1 df2 d2 d3 d4 c1
          go_wp2_with fail
          refine HN2.mono ?_
          rintro e W4 (⟨hn, rfl, s9⟩ | ⟨v2, hn, rfl, s9, s10⟩)
          · have HR : Hid (vlX L i f 1 = .error (i1 + 1)) := by show vlX _ _ _ _ = _; unfold vlX; rw [HPF.out, HN.out, if_neg (fun h => absurd h.2 (by decide))]; simp only; rw [if_neg (by omega), ← HI1.out, HSL.out, if_pos rfl, show i + 2 = i1 + 1 by rw [HI1.out], hn, HI1.out]
            have HF := hideL s9
            clear hn s9 HN2 d1 c3 fz fz1
            go_wp2_with fail
            go_ret
            rw [HR.out]
            exact ⟨rfl, HF.out.1⟩
          · have HR : Hid (vlX L i f 1 = .ok (i1 + 1 + 1, ⟨f, 1, 2, v, 0, v2, []⟩)) := by show vlX _ _ _ _ = _; unfold vlX; rw [HPF.out, HN.out, if_neg (fun h => absurd h.2 (by decide))]; simp only; rw [if_neg (by omega), ← HI1.out, HSL.out, if_pos rfl, show i + 2 = i1 + 1 by rw [HI1.out], hn, HI1.out]
            have HF := hideL (And.intro s9 s10)
            clear hn s9 s10 HN2 d1 c3 fz fz1
            go_wp2_with fail
            go_ret
            rw [HR.out]
            exact ⟨rfl, HF.out.1, HF.out.2⟩
        | false =>
          rw [hsl] at HA1
          have HSL := hideL hsl
          clear hsl
          go_wp2_with fail
          refine HA1.mono ?_
          rintro e W3 ⟨rfl, s6⟩
          have HA2 := HAT.out [46, 46] W3 i1 _ s6
          clear HA1 s6
          cases hsp : isS (tokAt L i1) [46, 46] with
          | true =>
            rw [hsp] at HA2
            have HSP := hideL hsp
            have HI := hideL (isS_in hsp)
            clear hsp
            go_wp2_with fail
            refine HA2.mono ?_
            rintro e W4 ⟨rfl, s6⟩
            obtain ⟨c1, cf1, c2, c3, c4, cf2⟩ := s6.cells
            have fz := cf2 2
            have s7 := s6.put HP.out.2.1 (t' := ⟨f, 1, 3, v, 0, 0, []⟩) 2 (.int .i64 3) rfl
            obtain ⟨d1, df1, d2, d3, d4, df2⟩ := s7.cells
            have fz1 := df1 1
            have s8 := s7.on HP.out.1 HI.out
            have HN2 := HNM.out _ _ _ 4 0 rfl s8
            have y5 : IntKind.i64.wrap ((i1 : Int) + 1) = (i1 : Int) + 1 := by have := HI.out; have := HP.out.2.2.1; rw [IntKind.wrap_i64]; omega
            clear HA2 cf1 cf2 s6 s7 s8 c4 c2 df1 df2 d2 d3 d4 c1
            go_wp2_with fail
            refine HN2.mono ?_
            rintro e W5 (⟨hn, rfl, s9⟩ | ⟨v2, hn, rfl, s9, s10⟩)
            · have HR : Hid (vlX L i f 1 = .error (i1 + 1)) := by show vlX _ _ _ _ = _; unfold vlX; rw [HPF.out, HN.out, if_neg (fun h => absurd h.2 (by decide))]; simp only; rw [if_neg (by omega), ← HI1.out, HSL.out, if_neg (by decide), HSP.out, if_pos rfl, show i + 2 = i1 + 1 by rw [HI1.out], hn, HI1.out]
              have HF := hideL s9
              clear hn s9 HN2 d1 c3 fz fz1
              go_wp2_with fail
              go_ret
              rw [HR.out]
              exact ⟨rfl, HF.out.1⟩
            · have HR : Hid (vlX L i f 1 = .ok (i1 + 1 + 1, ⟨f, 1, 3, v, v2, 0, []⟩)) := by show vlX _ _ _ _ = _; unfold vlX; rw [HPF.out, HN.out, if_neg (fun h => absurd h.2 (by decide))]; simp only; rw [if_neg (by omega), ← HI1.out, HSL.out, if_neg (by decide), HSP.out, if_pos rfl, show i + 2 = i1 + 1 by rw [HI1.out], hn, HI1.out]
              have HF := hideL (And.intro s9 s10)
              clear hn s9 s10 HN2 d1 c3 fz fz1
              go_wp2_with fail
              go_ret
              rw [HR.out]
              exact ⟨rfl, HF.out.1, HF.out.2⟩
          | false =>
            rw [hsp] at HA2
            have HR : Hid (vlX L i f 1 = .ok (i1, ⟨f, 1, 1, v, 0, 0, []⟩)) := by show vlX _ _ _ _ = _; unfold vlX; rw [HPF.out, HN.out, if_neg (fun h => absurd h.2 (by decide))]; simp only; rw [if_neg (by omega), ← HI1.out, HSL.out, if_neg (by decide), hsp, if_neg (by decide)]
            clear hsp
            go_wp2_with fail
            refine HA2.mono ?_
            rintro e W4 ⟨rfl, s6⟩
            have HF := hideL s6
            clear s6 HA2
            go_wp2_with fail
            go_ret
            rw [HR.out]
            exact ⟨rfl, HF.out.1, HF.out.2⟩
  · have H1 := HOF.out W i _ HSB.out
    simp only at g2
    cases hpt : patB (tokAt L i) with
    | true =>
      have HR : Hid (vlX L i f 2 = .ok (i + 1, ⟨f, 2, 4, 0, 0, 0, (tokAt L i).2.1.drop 1⟩)) := by show vlX _ _ _ _ = _; unfold vlX; rw [if_pos ⟨by omega, hpt⟩]
      obtain ⟨HIL, HLN⟩ := HP.out.2.2.2 hpt
      rw [hpt] at H1
      obtain ⟨⟨tk, tx, tl, tc⟩, ht⟩ : ∃ t, tokAt L i = t := ⟨_, rfl⟩
      rw [ht] at HLN HR
      have HTK2 : Hid (∀ U t, SB w0 b pt ct L o m out bt U i t → Calls Tryz.prog 50 #[.pointer (some ⟨b, 0, none⟩)] U fun e W' => e = .returned (.agg #[.int .i64 tk, .string ⟨tx.toArray⟩, .int .i64 tl, .int .i64 tc]) ∧ SB w0 b pt ct L o m out bt W' i t) := fun U t hU => by
        have := HTK.out U i t hU
        rw [ht] at this
        exact this
      simp only at HLN HR
      obtain ⟨hl1, hl2⟩ := HLN
      have HCL : Hid (∀ U, Calls Tryz.prog 30 #[.string ⟨(tx.drop 1).toArray⟩] U fun e w' => e = .returned (.string ⟨(tx.drop 1).toArray⟩) ∧ Below U.heap.size U w') := fun U => clone_any (tx.drop 1) U (by rw [List.length_drop]; omega)
      have HI := hideL HIL
      obtain ⟨ty, hty⟩ : ∃ y, tx.drop 1 = y := ⟨_, rfl⟩
      have HEX : Hid (ByteArray.extract ⟨tx.toArray⟩ 1 tx.length = ⟨ty.toArray⟩) := by show ByteArray.extract _ _ _ = _; rw [ext_drop1, hty]
      rw [hty] at HR HCL
      clear hty
      have hsz : 1 ≤ ByteArray.size ⟨tx.toArray⟩ := by simp [ByteArray.size]; omega
      clear hpt ht HIL
      go_enter Tryz.func87, Tryz.ntmps87
      go_wp2_with fail
      refine H1.mono ?_
      rintro e W1 ⟨rfl, s1⟩
      have HT1 := HTK2.out W1 _ s1
      have hfl := fldT
      clear H1
      go_wp2_with fail
      refine HT1.mono ?_
      rintro e W2 ⟨rfl, s2⟩
      have HS2 := hideL s2
      have HC2 : Calls Tryz.prog 30 #[.string (ByteArray.extract ⟨tx.toArray⟩ 1 tx.length)] W2 fun e w' => e = .returned (.string ⟨ty.toArray⟩) ∧ Below W2.heap.size W2 w' := by rw [HEX.out]; exact HCL.out W2
      clear HT1 s1 s2
      go_wp2_with fail
      refine HC2.mono ?_
      rintro e W3 ⟨rfl, b3⟩
      have s3 := HS2.out.below b3
      obtain ⟨c1, cf1, c2, c3, c4, cf2⟩ := s3.cells
      have fz := cf2 2
      have s4 := s3.put HP.out.2.1 (t' := ⟨f, 2, 4, 0, 0, 0, []⟩) 2 (.int .i64 4) rfl
      obtain ⟨d1, df1, d2, d3, d4, df2⟩ := s4.cells
      have fz1 := df2 6
      have s5 := s4.put HP.out.2.1 (t' := ⟨f, 2, 4, 0, 0, 0, ty⟩) 6 (.string ⟨ty.toArray⟩) rfl
      obtain ⟨e1, ef1, e2, e3, e4, ef2⟩ := s5.cells
      have fz2 := ef1 1
      have s6 := s5.on HP.out.1 HI.out
      have y5 : IntKind.i64.wrap ((i : Int) + 1) = (i : Int) + 1 := by have := HI.out; have := HP.out.2.2.1; rw [IntKind.wrap_i64]; omega
      have HF := hideL s6
      clear HC2 b3 s3 s4 s5 s6 c1 c2 c4 cf1 cf2 d1 d2 d3 df1 df2 e2 e3 e4 ef1 ef2
      go_wp2_with fail
      go_ret
      rw [HR.out]
      exact ⟨rfl, HF.out.1, HF.out.2⟩
    | false =>
      have HPF := hideL hpt
      rw [hpt] at H1
      clear hpt
      go_enter Tryz.func87, Tryz.ntmps87
      go_wp2_with fail
      refine H1.mono ?_
      rintro e W1 ⟨rfl, s1⟩
      have s2 := s1.put HP.out.2.1 (t' := ⟨f, 2, 1, 0, 0, 0, []⟩) 2 (.int .i64 1) rfl
      obtain ⟨c1, cf1, c2, c3, c4, cf2⟩ := s1.cells
      have fz := cf2 2
      have HN1 := HNM.out _ i _ 3 0 rfl s2
      clear H1 cf1 cf2 s2 c4 c2 c1
      go_wp2_with fail
      refine HN1.mono ?_
      rintro e W2 (⟨hn, rfl, s3⟩ | ⟨v, hn, rfl, s3, s4⟩)
      · have HR : Hid (vlX L i f 2 = .error i) := by show vlX _ _ _ _ = _; unfold vlX; rw [HPF.out, hn, if_neg (fun h => absurd h.2 (by decide))]
        have HF := hideL s3
        clear hn s3 HN1 s1 c3 fz
        go_wp2_with fail
        go_ret
        rw [HR.out]
        exact ⟨rfl, HF.out.1⟩
      · have s5 : SB w0 b pt ct L o m out bt W2 (i + 1) ⟨f, 2, 1, v, 0, 0, []⟩ := ⟨s3, s4⟩
        have HN := hideL hn
        obtain ⟨i1, hi1⟩ : ∃ k, k = i + 1 := ⟨_, rfl⟩
        rw [← hi1] at s5
        have HI1 := hideL hi1
        have HA1 := HAT.out [47] W2 i1 _ s5
        clear hn s3 s4 HN1 s1 c3 fz s5 hi1
        cases hsl : isS (tokAt L i1) [47] with
        | true =>
          rw [hsl] at HA1
          have HSL := hideL hsl
          have HI := hideL (isS_in hsl)
          clear hsl
          go_wp2_with fail
          refine HA1.mono ?_
          rintro e W3 ⟨rfl, s6⟩
          obtain ⟨c1, cf1, c2, c3, c4, cf2⟩ := s6.cells
          have fz := cf2 2
          have s7 := s6.put HP.out.2.1 (t' := ⟨f, 2, 2, v, 0, 0, []⟩) 2 (.int .i64 2) rfl
          obtain ⟨d1, df1, d2, d3, d4, df2⟩ := s7.cells
          have fz1 := df1 1
          have s8 := s7.on HP.out.1 HI.out
          have HN2 := HNM.out _ _ _ 5 0 rfl s8
          have y5 : IntKind.i64.wrap ((i1 : Int) + 1) = (i1 : Int) + 1 := by have := HI.out; have := HP.out.2.2.1; rw [IntKind.wrap_i64]; omega
          clear HA1 cf1 cf2 s6 s7 s8 c4 c2 df1 df2 d2 d3 d4 c1
          go_wp2_with fail
          refine HN2.mono ?_
          rintro e W4 (⟨hn, rfl, s9⟩ | ⟨v2, hn, rfl, s9, s10⟩)
          · have HR : Hid (vlX L i f 2 = .error (i1 + 1)) := by show vlX _ _ _ _ = _; unfold vlX; rw [HPF.out, HN.out, if_neg (fun h => absurd h.2 (by decide))]; simp only; rw [if_neg (by omega), ← HI1.out, HSL.out, if_pos rfl, show i + 2 = i1 + 1 by rw [HI1.out], hn, HI1.out]
            have HF := hideL s9
            clear hn s9 HN2 d1 c3 fz fz1
            go_wp2_with fail
            go_ret
            rw [HR.out]
            exact ⟨rfl, HF.out.1⟩
          · have HR : Hid (vlX L i f 2 = .ok (i1 + 1 + 1, ⟨f, 2, 2, v, 0, v2, []⟩)) := by show vlX _ _ _ _ = _; unfold vlX; rw [HPF.out, HN.out, if_neg (fun h => absurd h.2 (by decide))]; simp only; rw [if_neg (by omega), ← HI1.out, HSL.out, if_pos rfl, show i + 2 = i1 + 1 by rw [HI1.out], hn, HI1.out]
            have HF := hideL (And.intro s9 s10)
            clear hn s9 s10 HN2 d1 c3 fz fz1
            go_wp2_with fail
            go_ret
            rw [HR.out]
            exact ⟨rfl, HF.out.1, HF.out.2⟩
        | false =>
          rw [hsl] at HA1
          have HSL := hideL hsl
          clear hsl
          go_wp2_with fail
          refine HA1.mono ?_
          rintro e W3 ⟨rfl, s6⟩
          have HA2 := HAT.out [46, 46] W3 i1 _ s6
          clear HA1 s6
          cases hsp : isS (tokAt L i1) [46, 46] with
          | true =>
            rw [hsp] at HA2
            have HSP := hideL hsp
            have HI := hideL (isS_in hsp)
            clear hsp
            go_wp2_with fail
            refine HA2.mono ?_
            rintro e W4 ⟨rfl, s6⟩
            obtain ⟨c1, cf1, c2, c3, c4, cf2⟩ := s6.cells
            have fz := cf2 2
            have s7 := s6.put HP.out.2.1 (t' := ⟨f, 2, 3, v, 0, 0, []⟩) 2 (.int .i64 3) rfl
            obtain ⟨d1, df1, d2, d3, d4, df2⟩ := s7.cells
            have fz1 := df1 1
            have s8 := s7.on HP.out.1 HI.out
            have HN2 := HNM.out _ _ _ 4 0 rfl s8
            have y5 : IntKind.i64.wrap ((i1 : Int) + 1) = (i1 : Int) + 1 := by have := HI.out; have := HP.out.2.2.1; rw [IntKind.wrap_i64]; omega
            clear HA2 cf1 cf2 s6 s7 s8 c4 c2 df1 df2 d2 d3 d4 c1
            go_wp2_with fail
            refine HN2.mono ?_
            rintro e W5 (⟨hn, rfl, s9⟩ | ⟨v2, hn, rfl, s9, s10⟩)
            · have HR : Hid (vlX L i f 2 = .error (i1 + 1)) := by show vlX _ _ _ _ = _; unfold vlX; rw [HPF.out, HN.out, if_neg (fun h => absurd h.2 (by decide))]; simp only; rw [if_neg (by omega), ← HI1.out, HSL.out, if_neg (by decide), HSP.out, if_pos rfl, show i + 2 = i1 + 1 by rw [HI1.out], hn, HI1.out]
              have HF := hideL s9
              clear hn s9 HN2 d1 c3 fz fz1
              go_wp2_with fail
              go_ret
              rw [HR.out]
              exact ⟨rfl, HF.out.1⟩
            · have HR : Hid (vlX L i f 2 = .ok (i1 + 1 + 1, ⟨f, 2, 3, v, v2, 0, []⟩)) := by show vlX _ _ _ _ = _; unfold vlX; rw [HPF.out, HN.out, if_neg (fun h => absurd h.2 (by decide))]; simp only; rw [if_neg (by omega), ← HI1.out, HSL.out, if_neg (by decide), HSP.out, if_pos rfl, show i + 2 = i1 + 1 by rw [HI1.out], hn, HI1.out]
              have HF := hideL (And.intro s9 s10)
              clear hn s9 s10 HN2 d1 c3 fz fz1
              go_wp2_with fail
              go_ret
              rw [HR.out]
              exact ⟨rfl, HF.out.1, HF.out.2⟩
          | false =>
            rw [hsp] at HA2
            have HR : Hid (vlX L i f 2 = .ok (i1, ⟨f, 2, 1, v, 0, 0, []⟩)) := by show vlX _ _ _ _ = _; unfold vlX; rw [HPF.out, HN.out, if_neg (fun h => absurd h.2 (by decide))]; simp only; rw [if_neg (by omega), ← HI1.out, HSL.out, if_neg (by decide), hsp, if_neg (by decide)]
            clear hsp
            go_wp2_with fail
            refine HA2.mono ?_
            rintro e W4 ⟨rfl, s6⟩
            have HF := hideL s6
            clear s6 HA2
            go_wp2_with fail
            go_ret
            rw [HR.out]
            exact ⟨rfl, HF.out.1, HF.out.2⟩
  · have y1 : ((op : Int) == 1) = false := beq_eq_false_iff_ne.2 (by omega)
    have y2 : ((op : Int) == 2) = false := beq_eq_false_iff_ne.2 (by omega)
    have y3 : ((op : Int) != 1) = true := by simp only [bne, y1]; rfl
    have y4 : ((op : Int) != 2) = true := by simp only [bne, y2]; rfl
    have h3' : ¬ op ≤ 2 := by omega
    have s2 := HSB.out.put HP.out.2.1 (t' := ⟨f, op, 1, 0, 0, 0, []⟩) 2 (.int .i64 1) rfl
    have fz := gf2 2
    have HN1 := HNM.out _ i _ 3 0 rfl s2
    have H3 : Hid (2 < op ∧ ¬ op ≤ 2) := ⟨by omega, h3'⟩
    simp only at g2 g3
    clear s2 gf1 gf2 g1 g4 h3 h3'
    go_enter Tryz.func87, Tryz.ntmps87
    go_wp2_with fail
    refine HN1.mono ?_
    rintro e W2 (⟨hn, rfl, s3⟩ | ⟨v, hn, rfl, s3, s4⟩)
    · have HR : Hid (vlX L i f op = .error i) := by show vlX _ _ _ _ = _; unfold vlX; rw [hn, if_neg (fun h => absurd h.1 H3.out.2)]
      have HF := hideL s3
      clear hn s3 HN1 fz
      go_wp2_with fail
      go_ret
      rw [HR.out]
      exact ⟨rfl, HF.out.1⟩
    · have HR : Hid (vlX L i f op = .ok (i + 1, ⟨f, op, 1, v, 0, 0, []⟩)) := by show vlX _ _ _ _ = _; unfold vlX; rw [hn, if_neg (fun h => absurd h.1 H3.out.2)]; simp only; rw [if_pos H3.out.1]
      have HF := hideL (And.intro s3 s4)
      clear hn s3 s4 HN1 fz
      go_wp2_with fail
      go_ret
      rw [HR.out]
      exact ⟨rfl, HF.out.1, HF.out.2⟩
end Go.Proofs.YtffgkjmfeannoaaGreatDoor.Ex
namespace Go.Proofs.YtffgkjmfeannoaaGreatDoor.Ex
open Go.RowKit
variable {w0 W X : World} {b : Nat} {pt : Option Addr} {ct : Nat} {L : List XTok} {i o m : Nat} {out : List Nd}
def tsR (L : List XTok) (i m : Nat) (f : List UInt8) (out : List Nd) : PR := match tsX L i f with
  | .error p => .error (50, p)
  | .ok q => .ok (q.1, m, out ++ [⟨3, q.2⟩])
theorem opN_le (t : XTok) : opN t ≤ 6 := by
  rcases opN_cl (nB := ofB 2) (nV := nV0) (pB := ofB 5) t with h | h
  · omega
  · exact h.2.1
theorem opN_in (h : opN (tokAt L i) ≠ 0) : i < L.length := by
  refine tok_lt rfl fun h0 => h ?_
  unfold opN isS
  simp [h0]
set_option maxRecDepth 100000 in
set_option maxHeartbeats 16000000 in
theorem test_w (f : List UInt8) (hf : f.length ≤ 16384) (hX : XR w0 pt L) (hb : w0.heap.size ≤ b) (hlen : L.length ≤ 100000) (hT : TAB w0) (hS : shT L) (hO : ∀ U, Below w0.heap.size w0 U → OS U) (hout : out.length ≤ 1000) (h : ST w0 b pt ct L W i o m out) :
    Calls Tryz.prog 76 #[.pointer (some ⟨b, 0, none⟩), .string ⟨f.toArray⟩] W (RT w0 b pt ct L o (tsR L i m f out)) := by
  have HC := clone_any f W hf
  have HOP : Hid (∀ U, Below W.heap.size W U → Calls Tryz.prog 86 #[.pointer (some ⟨b, 0, none⟩)] U fun e W' => e = .returned (.int .i64 (opN (tokAt L i) : Int)) ∧ Below U.heap.size U W') := fun U hU => op_any hX hlen hO (h.below hU)
  obtain ⟨N, hN⟩ : ∃ N, opN (tokAt L i) = N := ⟨_, rfl⟩
  have HN6 : Hid (N ≤ 6 ∧ (N ≠ 0 → i < L.length)) := ⟨by rw [← hN]; exact opN_le _, fun h0 => opN_in (by rw [hN]; exact h0)⟩
  have HTS : Hid (tsX L i f = if N = 0 then .error i else vlX L (i + 1) f N) := by show tsX L i f = _; unfold tsX; rw [hN]
  rw [hN] at HOP
  have HV : Hid (∀ U bt i1, w0.heap.size ≤ bt → i1 = i + 1 → 1 ≤ N → SB w0 b pt ct L o m out bt U i1 ⟨f, N, 0, 0, 0, 0, []⟩ → Calls Tryz.prog 87 #[.pointer (some ⟨b, 0, none⟩), .pointer (some ⟨bt, 0, none⟩)] U (VLQ w0 b pt ct L o m out bt (vlX L i1 f N))) := fun U bt i1 h1 h2 h3 h4 => value_w bt f N hX hb hlen hT hS h1 ⟨h3, HN6.out.1⟩ h4
  have HAD : Hid (∀ U i1 (x : Nd), ST w0 b pt ct L U i1 o m out → Calls Tryz.prog 52 #[.pointer (some ⟨b, 0, none⟩), .agg #[.int .i64 (x.k : Int), .string ⟨x.t.f.toArray⟩, .int .i64 (x.t.o : Int), .int .i64 (x.t.fm : Int), .int .i64 x.t.lo, .int .i64 x.t.hi, .int .i64 x.t.ln, .string ⟨x.t.p.toArray⟩]] U fun e W' => e = .returned (.tuple #[]) ∧ ST w0 b pt ct L W' i1 o m (out ++ [x])) := fun U i1 x hU => add_any x hU hb hout
  have HS : Hid (ST w0 b pt ct L W i o m out ∧ w0.heap.size ≤ b ∧ L.length ≤ 100000) := ⟨h, hb, hlen⟩
  clear hX hb hlen hT hS hO hout h hN hf
  go_enter Tryz.func76, Tryz.ntmps76
  go_wp2_with fail
  refine HC.mono ?_
  rintro e W1 ⟨rfl, b1⟩
  have HO1 := HOP.out W1 b1
  have HB1 := hideL b1
  clear HC b1
  go_wp2_with fail
  refine HO1.mono ?_
  rintro e W2 ⟨rfl, b2⟩
  have HB2 : Hid (Below W.heap.size W W2) := bel0Z HB1.out b2
  clear HO1 b2 HB1
  have hbx : BT (W2.alloc (.cells #[.string ⟨f.toArray⟩, .int .i64 (N : Int), .int .i64 0, .int .i64 0, .int .i64 0, .int .i64 0, .string ⟨#[]⟩] 48 (0, 0))) W2.heap.size (tsB ⟨f, N, 0, 0, 0, 0, []⟩) := alloc_getZ _ _
  have HLE : Hid (w0.heap.size ≤ W2.heap.size) := (HS.out.1.below HB2.out).2.1.size
  have HSB : Hid (SB w0 b pt ct L o m out W2.heap.size (W2.alloc (.cells #[.string ⟨f.toArray⟩, .int .i64 (N : Int), .int .i64 0, .int .i64 0, .int .i64 0, .int .i64 0, .string ⟨#[]⟩] 48 (0, 0))) i ⟨f, N, 0, 0, 0, 0, []⟩) := ⟨HS.out.1.below (belAZ HB2.out _), hbx⟩
  clear hbx HB2
  by_cases h0 : N = 0
  · subst h0
    have HR : Hid (tsR L i m f out = .error (50, i)) := by show tsR L i m f out = _; unfold tsR; rw [HTS.out, if_pos rfl]
    go_wp2_with fail
    go_ret
    rw [HR.out]
    exact ⟨rfl, (by show (50 : Nat) ≠ 0; decide), m, out, HSB.out.1⟩
  · have y1 : ((N : Int) == 0) = false := beq_eq_false_iff_ne.2 (by omega)
    obtain ⟨i1, hi1⟩ : ∃ k, k = i + 1 := ⟨_, rfl⟩
    have HR : Hid (tsR L i m f out = match vlX L i1 f N with | .error p => .error (50, p) | .ok q => .ok (q.1, m, out ++ [⟨3, q.2⟩])) := by show tsR L i m f out = _; unfold tsR; rw [HTS.out, if_neg h0, hi1]
    obtain ⟨c1, cf1, c2, c3, c4, cf2⟩ := HSB.out.cells
    have sb2 := HSB.out.on HS.out.2.1 (HN6.out.2 h0)
    rw [← hi1] at sb2
    have HV1 := HV.out _ _ i1 HLE.out hi1 (by omega) sb2
    have fz := cf1 1
    have y5 : IntKind.i64.wrap ((i : Int) + 1) = (i : Int) + 1 := by have := HN6.out.2 h0; have := HS.out.2.2; rw [IntKind.wrap_i64]; omega
    clear sb2 cf1 h0 hi1 c2 c3 c4 cf2
    go_wp2_with fail
    refine HV1.mono ?_
    intro e W4 he
    cases hr : vlX L i1 f N with
    | error p =>
      rw [hr] at he HR
      obtain ⟨rfl, hst⟩ := he
      have HF := hideL hst
      clear hst HV1 hr
      go_wp2_with fail
      go_ret
      rw [HR.out]
      exact ⟨rfl, (by show (50 : Nat) ≠ 0; decide), m, out, HF.out⟩
    | ok q =>
      rw [hr] at he HR
      obtain ⟨j, t⟩ := q
      obtain ⟨rfl, hst, hbx⟩ := he
      simp only at hst hbx HR
      have HA := HAD.out W4 j ⟨3, t⟩ hst
      have g := (cellsZ hbx).1
      have g0 : W4.cell? ⟨W2.heap.size, 0, none⟩ = some (.string ⟨t.f.toArray⟩) := by rw [g]; rfl
      have g1 : W4.cell? ⟨W2.heap.size, 1, none⟩ = some (.int .i64 (t.o : Int)) := by rw [g]; rfl
      have g2 : W4.cell? ⟨W2.heap.size, 2, none⟩ = some (.int .i64 (t.fm : Int)) := by rw [g]; rfl
      have g3 : W4.cell? ⟨W2.heap.size, 3, none⟩ = some (.int .i64 t.lo) := by rw [g]; rfl
      have g4 : W4.cell? ⟨W2.heap.size, 4, none⟩ = some (.int .i64 t.hi) := by rw [g]; rfl
      have g5 : W4.cell? ⟨W2.heap.size, 5, none⟩ = some (.int .i64 t.ln) := by rw [g]; rfl
      have g6 : W4.cell? ⟨W2.heap.size, 6, none⟩ = some (.string ⟨t.p.toArray⟩) := by rw [g]; rfl
      clear hst HV1 hr g hbx
      go_wp2_with fail
      refine HA.mono ?_
      rintro e W5 ⟨rfl, h5⟩
      have HF := hideL h5
      clear HA h5
      go_wp2_with fail
      go_ret
      rw [HR.out]
      exact ⟨rfl, HF.out⟩
end Go.Proofs.YtffgkjmfeannoaaGreatDoor.Ex

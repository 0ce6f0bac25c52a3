import Derived.Test.YtffgkjmfeannoaaGreatDoorXBM
import Derived.Test.YtffgkjmfeannoaaGreatDoorXBH
import Derived.Test.YtffgkjmfeannoaaGreatDoorXAZ
import Derived.Test.YtffgkjmfeannoaaGreatDoorXBE
namespace Go.Proofs.YtffgkjmfeannoaaGreatDoor.Ex
open Go.RowKit
variable {w0 W X : World} {b : Nat} {pt : Option Addr} {ct : Nat} {L : List XTok} {i o m : Nat} {out : List Nd}
theorem nmB_two {t : XTok} (h : nmB (ofB 2) t = true) : t.1 = 2 ∧ ofB 2 t.2.1 = true := by
  unfold nmB at h
  have := (Bool.and_eq_true _ _ ▸ h : _ ∧ _)
  exact ⟨beq_iff_eq.1 this.1, this.2⟩
def lfX (L : List XTok) (i m : Nat) (out : List Nd) : PR :=
  if m = 64 then .error (51, i)
  else if (tokAt L i).2.1 = [97, 110, 121] then .ok (i + 1, m + 1, out ++ [nd 1])
  else if (tokAt L i).2.1 = [110, 111, 110, 101] then .ok (i + 1, m + 1, out ++ [nd 2])
  else tsR L (i + 1) (m + 1) (tokAt L i).2.1 out
theorem lfX_eq (h : nmB (ofB 2) (tokAt L i) = true) : lfV (L.map clX) i m out = lfX L i m out := by
  obtain ⟨h2, ho⟩ := nmB_two h
  unfold lfV lfX
  rw [tk_cl]
  have hc : cl (ofB 2) nV0 (ofB 5) (tokAt L i) = if (tokAt L i).2.1 = [97, 110, 121] then .any else if (tokAt L i).2.1 = [110, 111, 110, 101] then .non else .nm (tokAt L i).2.1 := by
    unfold cl
    rw [if_neg (by rw [h2]; decide), if_pos h2, ho, if_pos rfl]
  rw [hc]
  by_cases e1 : (tokAt L i).2.1 = [97, 110, 121]
  · rw [if_pos e1, if_pos e1]
  · rw [if_neg e1, if_neg e1]
    by_cases e2 : (tokAt L i).2.1 = [110, 111, 110, 101]
    · rw [if_pos e2, if_pos e2]
    · rw [if_neg e2, if_neg e2]
      simp only
      unfold tsR
      rw [tsX_eq]
      by_cases h64 : m = 64
      · rw [if_pos h64, if_pos h64]
      · rw [if_neg h64, if_neg h64]
        cases tsX L (i + 1) (tokAt L i).2.1 with
        | error p => rfl
        | ok q => rfl
set_option maxRecDepth 100000 in
set_option maxHeartbeats 8000000 in
theorem leaf_w (hX : XR w0 pt L) (hb : w0.heap.size ≤ b) (hlen : L.length ≤ 100000) (hT : TAB w0) (hS : shT L) (hO : ∀ U, Below w0.heap.size w0 U → OS U) (hok : out.length ≤ m ∧ m ≤ 64) (h : ST w0 b pt ct L W i o m out) (hnm : nmB (ofB 2) (tokAt L i) = true) :
    Calls Tryz.prog 57 #[.pointer (some ⟨b, 0, none⟩)] W (RT w0 b pt ct L o (lfV (L.map clX) i m out)) := by
  rw [lfX_eq hnm]
  obtain ⟨h2, ho2⟩ := nmB_two hnm
  have hil : i < L.length := tok_lt rfl (by rw [h2]; decide)
  have hfl := ofB_len ho2
  have HT := token_any hX hlen h
  have HC : Hid (∀ U, ST w0 b pt ct L U i o m out → Calls Tryz.prog 51 #[.pointer (some ⟨b, 0, none⟩)] U fun e W' => (m = 64 ∧ e = .returned (.int .i64 51) ∧ ST w0 b pt ct L W' i o m out) ∨ (m ≠ 64 ∧ e = .returned (.int .i64 0) ∧ ST w0 b pt ct L W' (i + 1) o (m + 1) out)) := fun U hU => count_any hU hb hil hlen hok.2
  have HTS : Hid (∀ U i1 m1 f, f.length ≤ 16384 → ST w0 b pt ct L U i1 o m1 out → Calls Tryz.prog 76 #[.pointer (some ⟨b, 0, none⟩), .string ⟨f.toArray⟩] U (RT w0 b pt ct L o (tsR L i1 m1 f out))) := fun U i1 m1 f hf hU => test_w f hf hX hb hlen hT hS hO (by omega) hU
  have HAD : Hid (∀ U i1 m1 (x : Nd), ST w0 b pt ct L U i1 o m1 out → Calls Tryz.prog 52 #[.pointer (some ⟨b, 0, none⟩), .agg #[.int .i64 (x.k : Int), .string ⟨x.t.f.toArray⟩, .int .i64 (x.t.o : Int), .int .i64 (x.t.fm : Int), .int .i64 x.t.lo, .int .i64 x.t.hi, .int .i64 x.t.ln, .string ⟨x.t.p.toArray⟩]] U fun e W' => e = .returned (.tuple #[]) ∧ ST w0 b pt ct L W' i1 o m1 (out ++ [x])) := fun U i1 m1 x hU => add_any x hU hb (by omega)
  have HS := hideL h
  obtain ⟨R, hR⟩ : ∃ R, lfX L i m out = R := ⟨_, rfl⟩
  have HR := hideL hR
  unfold lfX at HR
  rw [hR]
  clear hR hX hb hlen hT hS hO hok h hnm h2 ho2 hil
  obtain ⟨⟨tk, tx, tl, tc⟩, ht⟩ : ∃ t, tokAt L i = t := ⟨_, rfl⟩
  rw [ht] at HT HR hfl
  clear ht
  unfold tokV at HT
  simp only at HT HR hfl
  have HFL := hideL hfl
  have hfld := fldT
  clear hfl
  go_enter Tryz.func57, Tryz.ntmps57
  go_wp2_with fail
  refine HT.mono ?_
  rintro e W1 ⟨rfl, b1⟩
  have HC1 := HC.out W1 (HS.out.below b1)
  clear HT b1
  go_wp2_with fail
  refine HC1.mono ?_
  rintro e W2 (⟨h64, rfl, hs2⟩ | ⟨h64, rfl, hs2⟩)
  · have HF : Hid (R = .error (51, i) ∧ ST w0 b pt ct L W2 i o m out) := ⟨by rw [← HR.out, if_pos h64], hs2⟩
    clear h64 hs2 HC1 HR
    go_wp2_with fail
    go_ret
    rw [HF.out.1]
    exact ⟨rfl, (by show (51 : Nat) ≠ 0; decide), m, out, HF.out.2⟩
  · rw [if_neg h64] at HR
    clear h64 HC1
    by_cases e1 : tx = [97, 110, 121]
    · rw [if_pos e1] at HR
      subst e1
      have HA := HAD.out W2 _ _ (nd 1) hs2
      unfold nd ts0 at HA
      simp only at HA
      clear hs2
      go_wp2_with fail
      refine HA.mono ?_
      rintro e W3 ⟨rfl, hs3⟩
      have HF : Hid (R = .ok (i + 1, m + 1, out ++ [nd 1]) ∧ ST w0 b pt ct L W3 (i + 1) o (m + 1) (out ++ [nd 1])) := ⟨HR.out.symm, hs3⟩
      clear hs3 HA HR
      go_wp2_with fail
      go_ret
      rw [HF.out.1]
      exact ⟨rfl, HF.out.2⟩
    · rw [if_neg e1] at HR
      have y1 : (tx == [97, 110, 121]) = false := beq_eq_false_iff_ne.2 e1
      by_cases e2 : tx = [110, 111, 110, 101]
      · rw [if_pos e2] at HR
        subst e2
        have HA := HAD.out W2 _ _ (nd 2) hs2
        unfold nd ts0 at HA
        simp only at HA
        clear hs2
        go_wp2_with fail
        refine HA.mono ?_
        rintro e W3 ⟨rfl, hs3⟩
        have HF : Hid (R = .ok (i + 1, m + 1, out ++ [nd 2]) ∧ ST w0 b pt ct L W3 (i + 1) o (m + 1) (out ++ [nd 2])) := ⟨HR.out.symm, hs3⟩
        clear hs3 HA HR
        go_wp2_with fail
        go_ret
        rw [HF.out.1]
        exact ⟨rfl, HF.out.2⟩
      · rw [if_neg e2] at HR
        have y2 : (tx == [110, 111, 110, 101]) = false := beq_eq_false_iff_ne.2 e2
        have HA := HTS.out W2 _ _ tx HFL.out.1 hs2
        rw [HR.out] at HA
        clear hs2
        go_wp2_with fail
        refine HA.mono ?_
        intro e W3 hs3
        obtain ⟨z, rfl⟩ := hs3.int
        have HF := hideL hs3
        clear hs3 HA HR
        go_wp2_with fail
        go_ret
        exact HF.out
theorem LEAF_of (hX : XR w0 pt L) (hb : w0.heap.size ≤ b) (hlen : L.length ≤ 100000) (hT : TAB w0) (hS : shT L) (hO : ∀ U, Below w0.heap.size w0 U → OS U) : LEAF w0 b pt ct L (ofB 2) (L.map clX) where
  of := fun _ _ _ _ _ h => isOf_any 2 hX hlen hT hS h
  lf := fun _ _ _ _ _ h hok hnm => leaf_w hX hb hlen hT hS hO hok h hnm
theorem xread (L : List XTok) (p : Option Addr) (n c : Nat) (f : Int) (w : World) (hn : L.length = n) (hlen : n ≤ 100000) (hX : XR w p L) (hT : TAB w) (hS : shT L) (hO : ∀ U, Below w.heap.size w U → OS U) :
    Calls Tryz.prog 5 #[.slice p n c, .int .i64 f] w (RDN L (L.map clX) f w) := xread_any L p n c f w hn hlen hX fun _ hb => LEAF_of hX hb (by omega) hT hS hO
end Go.Proofs.YtffgkjmfeannoaaGreatDoor.Ex
namespace Go.Proofs.YtffgkjmfeannoaaGreatDoor.Ex
variable {L : List Tk} {E i m : Nat} {out : List Nd}
theorem adv (hE : tk L E = .oth) (hi : i ≤ E) {u : Tk} (h : tk L i = u) (hu : u ≠ .oth) : i + 1 ≤ E := by
  rcases Nat.lt_or_ge i E with h1 | h1
  · exact h1
  · have : i = E := by omega
    subst this
    exact absurd (h.symm.trans hE) hu
theorem tsV_end (hE : tk L E = .oth) (hi : i ≤ E) (f : List UInt8) : match tsV L i f with | .error p => p ≤ E | .ok q => q.1 ≤ E := by
  unfold tsV
  cases h0 : tk L i with
  | op o =>
    have a1 := adv hE hi h0 nofun
    simp only
    by_cases h2 : o ≤ 2
    · rw [if_pos h2]
      cases h1 : tk L (i + 1) with
      | pat p => exact adv hE a1 h1 nofun
      | num v =>
        have a2 := adv hE a1 h1 nofun
        simp only
        cases h3 : tk L (i + 2) with
        | slash =>
          have a3 := adv hE a2 h3 nofun
          simp only
          cases h4 : tk L (i + 3) with
          | num w => exact adv hE a3 h4 nofun
          | _ => exact a3
        | span =>
          have a3 := adv hE a2 h3 nofun
          simp only
          cases h4 : tk L (i + 3) with
          | num w => exact adv hE a3 h4 nofun
          | _ => exact a3
        | _ => exact a2
      | _ => exact a1
    · rw [if_neg h2]
      cases h1 : tk L (i + 1) with
      | num v => exact adv hE a1 h1 nofun
      | _ => exact a1
  | _ => exact hi
theorem lfV_end (hE : tk L E = .oth) (hi : i ≤ E) : match lfV L i m out with | .error p => p.2 ≤ E | .ok q => q.1 ≤ E := by
  unfold lfV
  cases h0 : tk L i with
  | any =>
    have a1 := adv hE hi h0 nofun
    simp only
    by_cases h : m = 64
    · rw [if_pos h]; exact hi
    · rw [if_neg h]; exact a1
  | non =>
    have a1 := adv hE hi h0 nofun
    simp only
    by_cases h : m = 64
    · rw [if_pos h]; exact hi
    · rw [if_neg h]; exact a1
  | nm t =>
    have a1 := adv hE hi h0 nofun
    simp only
    by_cases h : m = 64
    · rw [if_pos h]; exact hi
    · rw [if_neg h]
      have := tsV_end hE a1 t
      cases hq : tsV L (i + 1) t with
      | error p => rw [hq] at this; exact this
      | ok q => rw [hq] at this; exact this
  | _ => exact hi
def leE (E : Nat) (r : PR) : Prop := match r with | .error p => p.2 ≤ E | .ok q => q.1 ≤ E
theorem pX_end (hE : tk L E = .oth) : ∀ (n c o i m : Nat) (out : List Nd) (r : PR), i ≤ E → pX L n c o i m out = some r → leE E r
  | 0, c, o, i, m, out, r, hi, h => by rw [pX] at h; cases h
  | n + 1, 0, o, i, m, out, r, hi, h => by
    rw [pX] at h
    cases hq : pX L n 2 o i m out with
    | none => rw [hq] at h; cases h
    | some q =>
      have h1 := pX_end hE n 2 o i m out q hi hq
      rw [hq] at h
      cases q with
      | error p => rw [← Option.some.inj h]; exact h1
      | ok p => exact pX_end hE n 1 _ _ _ _ _ h1 h
  | n + 1, 1, o, i, m, out, r, hi, h => by
    rw [pX] at h
    by_cases hb : tk L i = .bar
    · rw [hb] at h
      simp only at h
      have a1 := adv hE hi hb nofun
      by_cases h64 : m = 64
      · rw [if_pos h64] at h; rw [← Option.some.inj h]; exact hi
      · rw [if_neg h64] at h
        cases hq : pX L n 2 o (i + 1) (m + 1) out with
        | none => rw [hq] at h; cases h
        | some q =>
          have h1 := pX_end hE n 2 _ _ _ _ q a1 hq
          rw [hq] at h
          cases q with
          | error p => rw [← Option.some.inj h]; exact h1
          | ok p => exact pX_end hE n 1 _ _ _ _ _ h1 h
    · split at h
      · rename_i h9; exact absurd h9 hb
      · rw [← Option.some.inj h]; exact hi
  | n + 1, 2, o, i, m, out, r, hi, h => by
    rw [pX] at h
    cases hq : pX L n 4 o i m out with
    | none => rw [hq] at h; cases h
    | some q =>
      have h1 := pX_end hE n 4 o i m out q hi hq
      rw [hq] at h
      cases q with
      | error p => rw [← Option.some.inj h]; exact h1
      | ok p => exact pX_end hE n 3 _ _ _ _ _ h1 h
  | n + 1, 3, o, i, m, out, r, hi, h => by
    rw [pX] at h
    by_cases hb : tk L i = .amp
    · rw [hb] at h
      simp only at h
      have a1 := adv hE hi hb nofun
      by_cases h64 : m = 64
      · rw [if_pos h64] at h; rw [← Option.some.inj h]; exact hi
      · rw [if_neg h64] at h
        cases hq : pX L n 4 o (i + 1) (m + 1) out with
        | none => rw [hq] at h; cases h
        | some q =>
          have h1 := pX_end hE n 4 _ _ _ _ q a1 hq
          rw [hq] at h
          cases q with
          | error p => rw [← Option.some.inj h]; exact h1
          | ok p => exact pX_end hE n 3 _ _ _ _ _ h1 h
    · split at h
      · rename_i h9; exact absurd h9 hb
      · rw [← Option.some.inj h]; exact hi
  | n + 1, c + 4, o, i, m, out, r, hi, h => by
    rw [pX] at h
    by_cases hb : tk L i = .bang
    · rw [hb] at h
      simp only at h
      have a1 := adv hE hi hb nofun
      by_cases h32 : o = 32
      · rw [if_pos h32] at h; rw [← Option.some.inj h]; exact hi
      · rw [if_neg h32] at h
        by_cases h64 : m = 64
        · rw [if_pos h64] at h; rw [← Option.some.inj h]; exact hi
        · rw [if_neg h64] at h
          cases hq : pX L n 4 (o + 1) (i + 1) (m + 1) out with
          | none => rw [hq] at h; cases h
          | some q =>
            have h1 := pX_end hE n 4 _ _ _ _ q a1 hq
            rw [hq] at h
            cases q with
            | error p => rw [← Option.some.inj h]; exact h1
            | ok p => rw [← Option.some.inj h]; exact h1
    · by_cases hc : tk L i = .opn
      · rw [hc] at h
        simp only at h
        have a1 := adv hE hi hc nofun
        by_cases h32 : o = 32
        · rw [if_pos h32] at h; rw [← Option.some.inj h]; exact hi
        · rw [if_neg h32] at h
          cases hq : pX L n 0 (o + 1) (i + 1) m out with
          | none => rw [hq] at h; cases h
          | some q =>
            have h1 := pX_end hE n 0 _ _ _ _ q a1 hq
            rw [hq] at h
            cases q with
            | error p => rw [← Option.some.inj h]; exact h1
            | ok p =>
              obtain ⟨i', m', out'⟩ := p
              simp only at h
              by_cases hd : tk L i' = .cls
              · rw [hd] at h
                rw [← Option.some.inj h]
                exact adv hE h1 hd nofun
              · split at h
                · rename_i h9; exact absurd h9 hd
                · rw [← Option.some.inj h]; exact h1
      · split at h
        · rename_i h9; exact absurd h9 hb
        · rename_i h9; exact absurd h9 hc
        · rw [← Option.some.inj h]
          exact lfV_end hE hi
end Go.Proofs.YtffgkjmfeannoaaGreatDoor.Ex
namespace Go.Proofs.YtffgkjmfeannoaaGreatDoor.Ex
open Go.RowKit Go.Shelf
def nameB (x : List UInt8) : Bool := decide (0 < x.length) && (decide (x.length ≤ 24) && (letX (bt x 0) && x.all (fun c => letX c.toNat || digX c.toNat)))
theorem inW_bt {x : List UInt8} {j : Nat} (hj : j < x.length) : inW x j = (letX (bt x j) || digX (bt x j)) := by
  unfold inW
  rw [kl_bt hj, letX_cls (bt_lt x j), digX_cls (bt_lt x j)]
theorem wrun_all {x : List UInt8} : ∀ (m j : Nat), x.length - j ≤ m → j ≤ x.length → (∀ k, j ≤ k → k < x.length → inW x k = true) → wrun x j = x.length
  | m, j, hm, hj, h => by
    rcases Nat.lt_or_ge j x.length with hlt | hge
    · match m, hm with
      | 0, hm => omega
      | m + 1, hm =>
        rw [wrun_yes (h j (Nat.le_refl _) hlt)]
        exact wrun_all m (j + 1) (by omega) hlt (fun k h1 h2 => h k (by omega) h2)
    · have : inW x j = false := by
        unfold inW
        rw [kl0.2 (by omega)]
        rfl
      rw [wrun_no this]
      omega
theorem name_good {x : List UInt8} (h : nameB x = true) : goodT 2 x := by
  unfold nameB at h
  simp only [Bool.and_eq_true, decide_eq_true_eq] at h
  obtain ⟨h0, h24, hl, ha⟩ := h
  have hw : ∀ k, 0 ≤ k → k < x.length → inW x k = true := fun k _ hk => by
    rw [inW_bt hk]
    have := List.all_eq_true.1 ha x[k] (List.getElem_mem hk)
    rw [bt_of (List.getElem?_eq_getElem hk)]
    exact this
  have h3 : kl x 0 = 3 := by
    rw [letX_cls (bt_lt x 0), decide_eq_true_eq] at hl
    rw [kl_bt h0]
    exact hl
  have hr := wrun_all _ 0 (Nat.le_refl _) (Nat.zero_le _) hw
  have hd : dotA x x.length 3 = false := by
    unfold dotA
    rw [kl0.2 (show ¬ x.length + 1 < x.length by omega)]
    simp
  obtain ⟨b1, b2, b3, b4, b5⟩ := tok_name h0 h3 hr hd
  exact ⟨h0, by omega, by omega, by omega, b5, by rw [b3, if_neg (by omega)]⟩
theorem good_name {x : List UInt8} (h : goodT 2 x) : nameB x = true := by
  obtain ⟨h0, h1, h2, h8, hC, hE⟩ := h
  have h3 : kl x 0 = 3 := Classical.byContradiction (fun h3 => by
    unfold tokC endF at hC
    rw [if_neg h3] at hC
    by_cases h4 : kl x 0 = 4
    · rw [if_pos h4, if_neg (by decide), if_neg (by decide), if_pos rfl] at hC
      simp at hC
    · rw [if_neg h4] at hC
      by_cases h6 : kl x 0 = 6
      · rw [if_pos h6, if_neg (by decide), if_neg (by decide), if_neg (by decide), if_pos rfl] at hC
        simp at hC
      · rw [if_neg h6] at hC
        by_cases h7 : kl x 0 = 7
        · rw [if_pos h7, if_neg (by decide), if_neg (by decide), if_neg (by decide), if_neg (by decide)] at hC
          simp at hC
        · rw [if_neg h7] at hC
          simp at hC)
  cases hd : dotA x (wrun x 0) 3 with
  | true =>
    have := (tok_port h0 h3 rfl hd rfl).2.2.2.2.2.2
    rw [hC] at this
    simp at this
  | false =>
    obtain ⟨b1, b2, b3, b4, b5⟩ := tok_name h0 h3 rfl hd
    rw [hC] at b5
    have e := (Prod.mk.inj b5).2
    have h24 : ¬ 24 < wrun x 0 - 0 := fun hh => by rw [hE, if_pos hh] at b3; cases b3
    have hl : letX (bt x 0) = true := by
      rw [letX_cls (bt_lt x 0), decide_eq_true_eq, ← kl_bt h0]
      exact h3
    have ha : x.all (fun c => letX c.toNat || digX c.toNat) = true := by
      rw [List.all_eq_true]
      intro c hc
      obtain ⟨k, hk, rfl⟩ := List.getElem_of_mem hc
      have := wrun_in (l := x) _ 0 (Nat.le_refl _) k (Nat.zero_le _) (by omega)
      rw [inW_bt hk, bt_of (List.getElem?_eq_getElem hk)] at this
      exact this
    unfold nameB
    rw [hl, ha, decide_eq_true h0, decide_eq_true (by omega)]
    rfl
theorem flat_cons (ln : List KT) (Ls : List (List KT)) : flat (ln :: Ls) = ln ++ (1, [10]) :: flat Ls := by
  unfold flat
  simp
theorem totLs_cons (ln : List KT) (Ls : List (List KT)) : totLs (ln :: Ls) = totL ln + totLs Ls := by unfold totLs; simp
theorem len_line2 : ∀ (ln : List KT), goodL ln → ln.length ≤ totL ln
  | [], _ => Nat.le_refl _
  | t :: ln, hg => by
    have ht := (hg t (by simp)).1
    have e : totL (t :: ln) = t.2.length + totL ln := by unfold totL; simp
    have i1 := len_line2 ln (fun u hu => hg u (by simp [hu]))
    simp only [List.length_cons]
    omega
theorem totL_mem : ∀ {ln : List KT} {t : KT}, t ∈ ln → t.2.length ≤ totL ln
  | u :: ln, t, h => by
    have e : totL (u :: ln) = u.2.length + totL ln := by unfold totL; simp
    rcases List.mem_cons.1 h with rfl | h
    · omega
    · have := totL_mem h
      omega
theorem flat_len : ∀ (Ls : List (List KT)), goodLs Ls → ∀ t ∈ flat Ls, t.2.length ≤ totLs Ls
  | [], _, t, h => by cases h
  | ln :: Ls, hg, t, h => by
    obtain ⟨hne, hgl⟩ := hg ln (by simp)
    have h1 : 0 < ln.length := List.length_pos_iff.2 hne
    have h2 := len_line2 ln hgl
    rw [flat_cons] at h
    rw [totLs_cons]
    rcases List.mem_append.1 h with h | h
    · have := totL_mem h
      omega
    · rcases List.mem_cons.1 h with rfl | h
      · simp
        omega
      · have := flat_len Ls (fun x hx => hg x (by simp [hx])) t h
        omega
theorem scan_texts (l : List UInt8) (t : Tok) (ht : t ∈ (scanM l).1) : t.2.1.length ≤ 16384 := by
  by_cases h : l.length ≤ 16384
  · by_cases he : (scanM l).2.1 = 0
    · obtain ⟨Ls, h1, h2, h3⟩ := scan_ls l h he
      have hm : (t.1, t.2.1) ∈ flat Ls := by
        rw [← h1]
        unfold kt
        exact List.mem_map.2 ⟨t, ht, rfl⟩
      have := flat_len Ls h2 _ hm
      simp only at this
      omega
    · have h0 : (scanM l).1 = [] := by
        have := (run_done l (l.length + 1) 0 1 0 [] (by omega)).2
        unfold scanM at he ⊢
        rw [if_neg (by omega)] at he ⊢
        exact this he
      rw [h0] at ht
      cases ht
  · have e : scanM l = ([], 2, 0, 0) := by unfold scanM; rw [if_pos (by omega)]
    rw [e] at ht
    cases ht
theorem scan_count (l : List UInt8) : (scanM l).1.length ≤ 32769 := by
  by_cases h : l.length ≤ 16384
  · have e : scanM l = runM (l.length + 1) l 0 1 0 [] := by unfold scanM; rw [if_neg (by omega)]
    have := run_len l (l.length + 1) 0 1 0 []
    rw [e]
    simp only [List.length_nil] at this
    omega
  · have e : scanM l = ([], 2, 0, 0) := by unfold scanM; rw [if_pos (by omega)]
    rw [e]
    simp
theorem scan_ended (l : List UInt8) (he : (scanM l).2.1 = 0) : ended (scanM l).1 := by
  by_cases h : l.length ≤ 16384
  · have := (run_done l (l.length + 1) 0 1 0 [] (by omega)).1
    unfold scanM at he ⊢
    rw [if_neg (by omega)] at he ⊢
    exact (this he).1
  · have e : scanM l = ([], 2, 0, 0) := by unfold scanM; rw [if_pos (by omega)]
    rw [e] at he
    cases he
theorem ofB_good {k : Nat} {x : List UInt8} (h : ofB k x = true) (_hk : k ≠ 1) : goodT k x := by
  unfold ofB at h
  have hl : x.length ≤ 16384 := (ofB_len (k := k) h).1
  cases hD : (scanM x).1 with
  | nil => rw [hD] at h; cases h
  | cons a D =>
    rw [hD] at h
    simp only at h
    rw [Bool.and_eq_true, beq_iff_eq, beq_iff_eq] at h
    have he : (scanM x).2.1 = 0 := Classical.byContradiction (fun hne => by
      have h0 : (scanM x).1 = [] := by
        have := (run_done x (x.length + 1) 0 1 0 [] (by omega)).2
        unfold scanM at hne ⊢
        rw [if_neg (by omega)] at hne ⊢
        exact this hne
      rw [h0] at hD
      cases hD)
    obtain ⟨Ls, g1, g2, g3⟩ := scan_ls x hl he
    rw [hD] at g1
    have g4 : flat Ls = (a.1, a.2.1) :: kt D := g1.symm
    cases Ls with
    | nil => cases g4
    | cons ln Ls =>
      obtain ⟨hne, hgl⟩ := g2 ln (by simp)
      cases ln with
      | nil => exact absurd rfl hne
      | cons u ln =>
        have e1 : u = (a.1, a.2.1) := List.head_eq_of_cons_eq g4
        have hg := hgl u (by simp)
        rw [e1, h.1, h.2] at hg
        exact hg
theorem good_ofB {k : Nat} {x : List UInt8} (h : goodT k x) (hl : x.length ≤ 16384) : ofB k x = true := by
  obtain ⟨c, hc⟩ := scan_one h hl
  unfold ofB
  rw [hc]
  simp
theorem ofB_name (x : List UInt8) : ofB 2 x = nameB x := by
  rw [Bool.eq_iff_iff]
  constructor
  · exact fun h => good_name (ofB_good h (by decide))
  · intro h
    refine good_ofB (name_good h) ?_
    unfold nameB at h
    simp only [Bool.and_eq_true, decide_eq_true_eq] at h
    omega
def patD (x : List UInt8) : Bool := match x with
  | 37 :: d => decide (1 ≤ d.length) && (decide (d.length ≤ 32) && d.all is01x)
  | _ => false
theorem pat_first {x : List UInt8} (h : kl x 0 = 6) : ∃ d, x = 37 :: d := by
  cases x with
  | nil =>
    rw [kl0.2 (by simp)] at h
    cases h
  | cons c d =>
    rw [kl_bt (by simp)] at h
    have e : bt (c :: d) 0 = c.toNat := rfl
    rw [e] at h
    have h2 : ∀ y : Fin 256, cls (y.val : Int) = 6 → y.val = 37 := by decide +kernel
    have h3 := h2 ⟨c.toNat, UInt8.toNat_lt _⟩ h
    have h4 : c = 37 := UInt8.toNat_inj.1 h3
    exact ⟨d, by rw [h4]⟩
theorem sub_whole (x : List UInt8) : subL x 0 x.length = x := by
  unfold subL
  simp
theorem good_pat {x : List UInt8} (h : goodT 5 x) : patD x = true := by
  obtain ⟨h0, h1, h2, h8, hC, hE⟩ := h
  have h6 : kl x 0 = 6 := Classical.byContradiction (fun h6 => by
    unfold tokC endF at hC
    by_cases h3 : kl x 0 = 3
    · rw [if_pos h3, if_pos rfl] at hC
      split at hC <;> simp at hC
    · rw [if_neg h3] at hC
      by_cases h4 : kl x 0 = 4
      · rw [if_pos h4, if_neg (by decide), if_neg (by decide), if_pos rfl] at hC
        simp at hC
      · rw [if_neg h4, if_neg h6] at hC
        by_cases h7 : kl x 0 = 7
        · rw [if_pos h7, if_neg (by decide), if_neg (by decide), if_neg (by decide), if_neg (by decide)] at hC
          simp at hC
        · rw [if_neg h7] at hC
          simp at hC)
  obtain ⟨d, rfl⟩ := pat_first h6
  unfold tokE at hE
  rw [if_neg (by rw [h6]; exact fun h => absurd h.1 (by decide)), hC] at hE
  simp only at hE
  rw [sub_whole] at hE
  unfold faultE at hE
  rw [if_neg (by decide), if_neg (by decide), if_pos rfl] at hE
  by_cases hf : (37 :: d).drop 1 = [] ∨ 32 < ((37 :: d).drop 1).length ∨ ((37 :: d).drop 1).all is01x = false
  · rw [if_pos hf] at hE
    cases hE
  · have e : (37 :: d : List UInt8).drop 1 = d := rfl
    rw [e] at hf
    unfold patD
    have a1 : 1 ≤ d.length := by
      cases d with
      | nil => exact absurd (.inl rfl) hf
      | cons c d => simp
    have a2 : d.length ≤ 32 := Nat.le_of_not_lt fun h => hf (.inr (.inl h))
    have a3 : d.all is01x = true := by
      cases hq : d.all is01x with
      | true => rfl
      | false => exact absurd (.inr (.inr hq)) hf
    show (decide (1 ≤ d.length) && (decide (d.length ≤ 32) && d.all is01x)) = true
    rw [decide_eq_true a1, decide_eq_true a2, a3]
    rfl
theorem pat_good {x : List UInt8} (h : patD x = true) : goodT 5 x := by
  unfold patD at h
  split at h
  · rename_i d
    simp only [Bool.and_eq_true, decide_eq_true_eq] at h
    obtain ⟨a1, a2, a3⟩ := h
    have h0 : 0 < (37 :: d : List UInt8).length := by simp
    have h6 : kl (37 :: d) 0 = 6 := by
      rw [kl_bt h0]
      rfl
    have hw : ∀ k, 1 ≤ k → k < (37 :: d : List UInt8).length → inW (37 :: d) k = true := fun k h1 hk => by
      rw [inW_bt hk]
      obtain ⟨j, rfl⟩ : ∃ j, k = j + 1 := ⟨k - 1, by omega⟩
      have hj : j < d.length := by simpa using hk
      have := List.all_eq_true.1 a3 d[j] (List.getElem_mem hj)
      rw [bt_of (show (37 :: d)[j + 1]? = some d[j] by simp [hj])]
      unfold is01x at this
      simp only [Bool.or_eq_true, beq_iff_eq] at this
      rcases this with (h | h) | h <;> rw [h] <;> decide
    have hr := wrun_all _ 1 (Nat.le_refl _) (by omega) hw
    have hC : tokC (37 :: d) 0 = (5, (37 :: d : List UInt8).length) := by
      unfold tokC endF
      rw [if_neg (by rw [h6]; decide), if_neg (by rw [h6]; decide), if_pos h6, if_neg (by decide), if_neg (by decide), if_neg (by decide), if_pos rfl, hr]
    refine ⟨h0, by rw [h6]; decide, by rw [h6]; decide, by rw [h6]; decide, hC, ?_⟩
    unfold tokE
    rw [if_neg (by rw [h6]; exact fun h => absurd h.1 (by decide)), hC]
    simp only
    rw [sub_whole]
    unfold faultE
    rw [if_neg (by decide), if_neg (by decide), if_pos rfl, if_neg]
    intro hf
    have e : (37 :: d : List UInt8).drop 1 = d := rfl
    rw [e] at hf
    rcases hf with hf | hf | hf
    · rw [hf] at a1; simp at a1
    · omega
    · rw [a3] at hf; cases hf
  · cases h
theorem ofB_pat (x : List UInt8) : ofB 5 x = patD x := by
  rw [Bool.eq_iff_iff]
  constructor
  · exact fun h => good_pat (ofB_good h (by decide))
  · intro h
    refine good_ofB (pat_good h) ?_
    unfold patD at h
    split at h
    · simp only [Bool.and_eq_true, decide_eq_true_eq] at h
      simp only [List.length_cons]
      omega
    · cases h
end Go.Proofs.YtffgkjmfeannoaaGreatDoor.Ex

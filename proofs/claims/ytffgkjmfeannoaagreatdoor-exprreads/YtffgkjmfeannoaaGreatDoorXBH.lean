import Derived.Test.YtffgkjmfeannoaaGreatDoorXBF
import Derived.Test.YtffgkjmfeannoaaGreatDoorXBG
namespace Go.Proofs.YtffgkjmfeannoaaGreatDoor.Ex
theorem lfV_len {L : List Tk} {i m : Nat} {out : List Nd} {i' m' : Nat} {out' : List Nd} (h : lfV L i m out = .ok (i', m', out')) : out'.length + m = out.length + m' := by
  unfold lfV at h
  split at h
  · split at h
    · cases h
    · injection h with h; injection h with _ h; injection h with h1 h2; subst h1 h2; simp; omega
  · split at h
    · cases h
    · injection h with h; injection h with _ h; injection h with h1 h2; subst h1 h2; simp; omega
  · split at h
    · cases h
    · split at h
      · cases h
      · injection h with h; injection h with _ h; injection h with h1 h2; subst h1 h2; simp; omega
  · cases h
theorem pX_len (L : List Tk) : ∀ (n c o i m : Nat) (out : List Nd) (i' m' : Nat) (out' : List Nd), pX L n c o i m out = some (.ok (i', m', out')) → out'.length + m = out.length + m' ∧ (m ≤ 64 → m' ≤ 64) ∧ (i ≤ L.length → i' ≤ L.length)
  | 0, c, o, i, m, out, i', m', out', h => by simp [pX] at h
  | n + 1, 0, o, i, m, out, i', m', out', h => by
    rw [pX] at h
    split at h
    · cases h
    · cases h
    · rename_i a b c hp
      have h1 := pX_len L n 2 _ _ _ _ _ _ _ hp
      have h2 := pX_len L n 1 _ _ _ _ _ _ _ h
      exact ⟨by omega, fun hm => h2.2.1 (h1.2.1 hm), fun hi => h2.2.2 (h1.2.2 hi)⟩
  | n + 1, 1, o, i, m, out, i', m', out', h => by
    rw [pX] at h
    split at h
    · rename_i hb
      have hi := tk_in hb (by intro h; cases h)
      split at h
      · cases h
      · split at h
        · cases h
        · cases h
        · rename_i a b c hp
          have h1 := pX_len L n 2 _ _ _ _ _ _ _ hp
          have h2 := pX_len L n 1 _ _ _ _ _ _ _ h
          simp only [List.length_append, List.length_singleton] at h2
          exact ⟨by omega, fun hm => h2.2.1 (h1.2.1 (by omega)), fun _ => h2.2.2 (h1.2.2 (by omega))⟩
    · injection h with h
      injection h with h
      injection h with h0 h
      injection h with h1 h2
      subst h0 h1 h2
      exact ⟨rfl, fun h => h, fun h => h⟩
  | n + 1, 2, o, i, m, out, i', m', out', h => by
    rw [pX] at h
    split at h
    · cases h
    · cases h
    · rename_i a b c hp
      have h1 := pX_len L n 4 _ _ _ _ _ _ _ hp
      have h2 := pX_len L n 3 _ _ _ _ _ _ _ h
      exact ⟨by omega, fun hm => h2.2.1 (h1.2.1 hm), fun hi => h2.2.2 (h1.2.2 hi)⟩
  | n + 1, 3, o, i, m, out, i', m', out', h => by
    rw [pX] at h
    split at h
    · rename_i hb
      have hi := tk_in hb (by intro h; cases h)
      split at h
      · cases h
      · split at h
        · cases h
        · cases h
        · rename_i a b c hp
          have h1 := pX_len L n 4 _ _ _ _ _ _ _ hp
          have h2 := pX_len L n 3 _ _ _ _ _ _ _ h
          simp only [List.length_append, List.length_singleton] at h2
          exact ⟨by omega, fun hm => h2.2.1 (h1.2.1 (by omega)), fun _ => h2.2.2 (h1.2.2 (by omega))⟩
    · injection h with h
      injection h with h
      injection h with h0 h
      injection h with h1 h2
      subst h0 h1 h2
      exact ⟨rfl, fun h => h, fun h => h⟩
  | n + 1, c + 4, o, i, m, out, i', m', out', h => by
    rw [pX] at h
    split at h
    · rename_i hb
      have hi := tk_in hb (by intro h; cases h)
      split at h
      · cases h
      · split at h
        · cases h
        · split at h
          · cases h
          · cases h
          · rename_i a b c hp
            have h1 := pX_len L n 4 _ _ _ _ _ _ _ hp
            injection h with h
            injection h with h
            injection h with h0 h
            injection h with h2 h3
            subst h0 h2 h3
            simp only [List.length_append, List.length_singleton]
            exact ⟨by omega, fun hm => h1.2.1 (by omega), fun _ => h1.2.2 (by omega)⟩
    · rename_i hb
      have hi := tk_in hb (by intro h; cases h)
      split at h
      · cases h
      · split at h
        · cases h
        · cases h
        · rename_i a b c hp
          have h1 := pX_len L n 0 _ _ _ _ _ _ _ hp
          split at h
          · rename_i hb2
            have hi2 := tk_in hb2 (by intro h; cases h)
            injection h with h
            injection h with h
            injection h with h0 h
            injection h with h2 h3
            subst h0 h2 h3
            exact ⟨by omega, fun hm => h1.2.1 hm, fun _ => by omega⟩
          · cases h
    · have hl := Option.some.inj h
      refine ⟨lfV_len hl, fun hm => lfV_le hl hm, fun _ => ?_⟩
      unfold lfV at hl
      split at hl
      · rename_i hb
        have hi := tk_in hb (by intro h; cases h)
        split at hl
        · cases hl
        · injection hl with hl; injection hl with hl _; omega
      · rename_i hb
        have hi := tk_in hb (by intro h; cases h)
        split at hl
        · cases hl
        · injection hl with hl; injection hl with hl _; omega
      · split at hl
        · cases hl
        · split at hl
          · cases hl
          · rename_i ht
            injection hl with hl
            injection hl with hl _
            subst hl
            unfold tsV at ht
            split at ht
            · split at ht
              · split at ht
                · rename_i hb
                  have := tk_in hb (by intro h; cases h)
                  injection ht with ht; injection ht with ht _; omega
                · rename_i hb
                  have := tk_in hb (by intro h; cases h)
                  split at ht
                  · split at ht
                    · rename_i hb
                      have := tk_in hb (by intro h; cases h)
                      injection ht with ht; injection ht with ht _; omega
                    · cases ht
                  · split at ht
                    · rename_i hb
                      have := tk_in hb (by intro h; cases h)
                      injection ht with ht; injection ht with ht _; omega
                    · cases ht
                  · injection ht with ht; injection ht with ht _; omega
                · cases ht
              · split at ht
                · rename_i hb
                  have := tk_in hb (by intro h; cases h)
                  injection ht with ht; injection ht with ht _; omega
                · cases ht
            · cases ht
      · cases hl
end Go.Proofs.YtffgkjmfeannoaaGreatDoor.Ex
namespace Go.Proofs.YtffgkjmfeannoaaGreatDoor.Ex
open Go.RowKit
variable {w0 W X : World} {b : Nat} {pt : Option Addr} {ct : Nat} {L : List XTok} {i o m : Nat} {out : List Nd}
def RT (w0 : World) (b : Nat) (pt : Option Addr) (ct : Nat) (L : List XTok) (o : Nat) (r : PR) (e : Ending) (W' : World) : Prop :=
  match r with
  | .error p => e = .returned (.int .i64 (p.1 : Int)) ∧ p.1 ≠ 0 ∧ ∃ m' out', ST w0 b pt ct L W' p.2 o m' out'
  | .ok q => e = .returned (.int .i64 0) ∧ ST w0 b pt ct L W' q.1 o q.2.1 q.2.2
def mkR (kd i m : Nat) (rb : PR) : PR := if m = 64 then .error (51, i) else match rb with
  | .error e => .error e
  | .ok q => .ok (q.1, q.2.1, q.2.2 ++ [nd kd])
set_option maxRecDepth 100000 in
set_option maxHeartbeats 4000000 in
theorem making_C (kd : Nat) (rb : PR) (h : ST w0 b pt ct L W i o m out) (hb : w0.heap.size ≤ b) (hi : i < L.length) (hlen : L.length ≤ 100000) (hok : out.length ≤ m ∧ m ≤ 64)
    (HP : m ≠ 64 → ∀ W', ST w0 b pt ct L W' (i + 1) o (m + 1) out → Calls Tryz.prog 19 #[.pointer (some ⟨b, 0, none⟩)] W' (RT w0 b pt ct L o rb))
    (hrb : ∀ q, rb = .ok q → q.2.2.length + (m + 1) = out.length + q.2.1 ∧ q.2.1 ≤ 64) :
    Calls Tryz.prog 36 #[.pointer (some ⟨b, 0, none⟩), .int .i64 (kd : Int), .func (.func 19) #[.pointer (some ⟨b, 0, none⟩)] #[]] W (RT w0 b pt ct L o (mkR kd i m rb)) := by
  have HC := count_any h hb hi hlen hok.2
  have HPH : Hid (m ≠ 64 → ∀ W', ST w0 b pt ct L W' (i + 1) o (m + 1) out → Calls Tryz.prog 19 #[.pointer (some ⟨b, 0, none⟩)] W' (RT w0 b pt ct L o rb)) := HP
  have HRB : Hid (∀ q, rb = .ok q → q.2.2.length + (m + 1) = out.length + q.2.1 ∧ q.2.1 ≤ 64) := hrb
  have HOK : Hid (out.length ≤ m ∧ m ≤ 64 ∧ w0.heap.size ≤ b) := ⟨hok.1, hok.2, hb⟩
  clear h HP hrb hok hb hi hlen
  by_cases h64 : m = 64
  · have HE : Hid (mkR kd i m rb = .error (51, i)) := by show mkR kd i m rb = _; unfold mkR; rw [if_pos h64]
    rw [HE.out]
    have HC2 : Hid (Calls Tryz.prog 51 #[.pointer (some ⟨b, 0, none⟩)] W fun e W' => e = .returned (.int .i64 51) ∧ ST w0 b pt ct L W' i o m out) := HC.mono fun e W' h => by
      rcases h with ⟨_, h1, h2⟩ | ⟨h1, _⟩
      · exact ⟨h1, h2⟩
      · exact absurd h64 h1
    clear HC h64 HE
    go_enter Tryz.func36, Tryz.ntmps36
    go_wp2_with fail
    refine HC2.out.mono ?_
    rintro e W1 ⟨rfl, h1⟩
    go_wp2_with fail
    go_ret
    exact ⟨rfl, (by show (51 : Nat) ≠ 0; decide), m, out, h1⟩
  · have HC2 : Hid (Calls Tryz.prog 51 #[.pointer (some ⟨b, 0, none⟩)] W fun e W' => e = .returned (.int .i64 0) ∧ ST w0 b pt ct L W' (i + 1) o (m + 1) out) := HC.mono fun e W' h => by
      rcases h with ⟨h1, _⟩ | ⟨_, h1, h2⟩
      · exact absurd h1 h64
      · exact ⟨h1, h2⟩
    have HPP : Hid (∀ W', ST w0 b pt ct L W' (i + 1) o (m + 1) out → Calls Tryz.prog 19 #[.pointer (some ⟨b, 0, none⟩)] W' (RT w0 b pt ct L o rb)) := HPH.out h64
    cases rb with
    | error p =>
      obtain ⟨n, q⟩ := p
      have HE : Hid (mkR kd i m (.error (n, q)) = .error (n, q)) := by show mkR kd i m _ = _; unfold mkR; rw [if_neg h64]
      rw [HE.out]
      clear HC h64 HE HPH
      go_enter Tryz.func36, Tryz.ntmps36
      go_wp2_with fail
      refine HC2.out.mono ?_
      rintro e W1 ⟨rfl, h1⟩
      have HP1 := HPP.out W1 h1
      clear HC2 h1
      go_wp2_with fail
      refine HP1.mono ?_
      rintro e W2 ⟨rfl, hn, h2⟩
      have HN : Hid (n ≠ 0 ∧ ∃ m' out', ST w0 b pt ct L W2 q o m' out') := ⟨hn, h2⟩
      have y1 : ((n : Int) == 0) = false := beq_eq_false_iff_ne.2 (by simp only at hn; omega)
      have y2 : ((n : Int) != 0) = true := by simp only [bne, y1]; rfl
      clear HP1 hn h2
      go_wp2_with fail
      go_ret
      exact ⟨rfl, HN.out.1, HN.out.2⟩
    | ok p =>
      obtain ⟨i', m', out'⟩ := p
      have HE : Hid (mkR kd i m (.ok (i', m', out')) = .ok (i', m', out' ++ [nd kd])) := by show mkR kd i m _ = _; unfold mkR; rw [if_neg h64]
      rw [HE.out]
      have HL : Hid (out'.length ≤ 1000) := by
        have h1 := HRB.out _ rfl
        have h2 := HOK.out
        show out'.length ≤ 1000
        simp only at h1
        omega
      clear HC h64 HE HPH HRB
      go_enter Tryz.func36, Tryz.ntmps36
      go_wp2_with fail
      refine HC2.out.mono ?_
      rintro e W1 ⟨rfl, h1⟩
      have HP1 := HPP.out W1 h1
      clear HC2 h1
      go_wp2_with fail
      refine HP1.mono ?_
      rintro e W2 ⟨rfl, h2⟩
      have HA := add_any (nd kd) h2 HOK.out.2.2 HL.out
      clear HP1 h2
      unfold nd ts0 at HA
      simp only at HA
      go_wp2_with fail
      refine HA.mono ?_
      rintro e W3 ⟨rfl, h3⟩
      have HF : Hid (ST w0 b pt ct L W3 i' o m' (out' ++ [nd kd])) := h3
      clear HA h3
      go_wp2_with fail
      go_ret
      exact ⟨rfl, HF.out⟩
set_option maxRecDepth 100000 in
set_option maxHeartbeats 4000000 in
theorem making_F (kd : Nat) (rb : PR) (h : ST w0 b pt ct L W i o m out) (hb : w0.heap.size ≤ b) (hi : i < L.length) (hlen : L.length ≤ 100000) (hok : out.length ≤ m ∧ m ≤ 64)
    (HP : m ≠ 64 → ∀ W', ST w0 b pt ct L W' (i + 1) o (m + 1) out → Calls Tryz.prog 37 #[.pointer (some ⟨b, 0, none⟩)] W' (RT w0 b pt ct L o rb))
    (hrb : ∀ q, rb = .ok q → q.2.2.length + (m + 1) = out.length + q.2.1 ∧ q.2.1 ≤ 64) :
    Calls Tryz.prog 36 #[.pointer (some ⟨b, 0, none⟩), .int .i64 (kd : Int), .func (.func 37) #[.pointer (some ⟨b, 0, none⟩)] #[]] W (RT w0 b pt ct L o (mkR kd i m rb)) := by
  have HC := count_any h hb hi hlen hok.2
  have HPH : Hid (m ≠ 64 → ∀ W', ST w0 b pt ct L W' (i + 1) o (m + 1) out → Calls Tryz.prog 37 #[.pointer (some ⟨b, 0, none⟩)] W' (RT w0 b pt ct L o rb)) := HP
  have HRB : Hid (∀ q, rb = .ok q → q.2.2.length + (m + 1) = out.length + q.2.1 ∧ q.2.1 ≤ 64) := hrb
  have HOK : Hid (out.length ≤ m ∧ m ≤ 64 ∧ w0.heap.size ≤ b) := ⟨hok.1, hok.2, hb⟩
  clear h HP hrb hok hb hi hlen
  by_cases h64 : m = 64
  · have HE : Hid (mkR kd i m rb = .error (51, i)) := by show mkR kd i m rb = _; unfold mkR; rw [if_pos h64]
    rw [HE.out]
    have HC2 : Hid (Calls Tryz.prog 51 #[.pointer (some ⟨b, 0, none⟩)] W fun e W' => e = .returned (.int .i64 51) ∧ ST w0 b pt ct L W' i o m out) := HC.mono fun e W' h => by
      rcases h with ⟨_, h1, h2⟩ | ⟨h1, _⟩
      · exact ⟨h1, h2⟩
      · exact absurd h64 h1
    clear HC h64 HE
    go_enter Tryz.func36, Tryz.ntmps36
    go_wp2_with fail
    refine HC2.out.mono ?_
    rintro e W1 ⟨rfl, h1⟩
    go_wp2_with fail
    go_ret
    exact ⟨rfl, (by show (51 : Nat) ≠ 0; decide), m, out, h1⟩
  · have HC2 : Hid (Calls Tryz.prog 51 #[.pointer (some ⟨b, 0, none⟩)] W fun e W' => e = .returned (.int .i64 0) ∧ ST w0 b pt ct L W' (i + 1) o (m + 1) out) := HC.mono fun e W' h => by
      rcases h with ⟨h1, _⟩ | ⟨_, h1, h2⟩
      · exact absurd h1 h64
      · exact ⟨h1, h2⟩
    have HPP : Hid (∀ W', ST w0 b pt ct L W' (i + 1) o (m + 1) out → Calls Tryz.prog 37 #[.pointer (some ⟨b, 0, none⟩)] W' (RT w0 b pt ct L o rb)) := HPH.out h64
    cases rb with
    | error p =>
      obtain ⟨n, q⟩ := p
      have HE : Hid (mkR kd i m (.error (n, q)) = .error (n, q)) := by show mkR kd i m _ = _; unfold mkR; rw [if_neg h64]
      rw [HE.out]
      clear HC h64 HE HPH
      go_enter Tryz.func36, Tryz.ntmps36
      go_wp2_with fail
      refine HC2.out.mono ?_
      rintro e W1 ⟨rfl, h1⟩
      have HP1 := HPP.out W1 h1
      clear HC2 h1
      go_wp2_with fail
      refine HP1.mono ?_
      rintro e W2 ⟨rfl, hn, h2⟩
      have HN : Hid (n ≠ 0 ∧ ∃ m' out', ST w0 b pt ct L W2 q o m' out') := ⟨hn, h2⟩
      have y1 : ((n : Int) == 0) = false := beq_eq_false_iff_ne.2 (by simp only at hn; omega)
      have y2 : ((n : Int) != 0) = true := by simp only [bne, y1]; rfl
      clear HP1 hn h2
      go_wp2_with fail
      go_ret
      exact ⟨rfl, HN.out.1, HN.out.2⟩
    | ok p =>
      obtain ⟨i', m', out'⟩ := p
      have HE : Hid (mkR kd i m (.ok (i', m', out')) = .ok (i', m', out' ++ [nd kd])) := by show mkR kd i m _ = _; unfold mkR; rw [if_neg h64]
      rw [HE.out]
      have HL : Hid (out'.length ≤ 1000) := by
        have h1 := HRB.out _ rfl
        have h2 := HOK.out
        show out'.length ≤ 1000
        simp only at h1
        omega
      clear HC h64 HE HPH HRB
      go_enter Tryz.func36, Tryz.ntmps36
      go_wp2_with fail
      refine HC2.out.mono ?_
      rintro e W1 ⟨rfl, h1⟩
      have HP1 := HPP.out W1 h1
      clear HC2 h1
      go_wp2_with fail
      refine HP1.mono ?_
      rintro e W2 ⟨rfl, h2⟩
      have HA := add_any (nd kd) h2 HOK.out.2.2 HL.out
      clear HP1 h2
      unfold nd ts0 at HA
      simp only at HA
      go_wp2_with fail
      refine HA.mono ?_
      rintro e W3 ⟨rfl, h3⟩
      have HF : Hid (ST w0 b pt ct L W3 i' o m' (out' ++ [nd kd])) := h3
      clear HA h3
      go_wp2_with fail
      go_ret
      exact ⟨rfl, HF.out⟩
end Go.Proofs.YtffgkjmfeannoaaGreatDoor.Ex

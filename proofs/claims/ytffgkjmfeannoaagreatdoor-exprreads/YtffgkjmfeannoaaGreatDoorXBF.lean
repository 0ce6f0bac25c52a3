import Derived.RowKit
namespace Go.Proofs.YtffgkjmfeannoaaGreatDoor.Ex
inductive Tk
  | bang | opn | cls | amp | bar | slash | span
  | op (o : Nat)
  | any | non | nm (t : List UInt8)
  | num (v : Int) | pat (p : List UInt8)
  | oth
structure Ts where
  f : List UInt8
  o : Nat
  fm : Nat
  lo : Int
  hi : Int
  ln : Int
  p : List UInt8
def ts0 : Ts := ⟨[], 0, 0, 0, 0, 0, []⟩
structure Nd where
  k : Nat
  t : Ts
def nd (k : Nat) : Nd := ⟨k, ts0⟩
def tk (L : List Tk) (i : Nat) : Tk := L.getD i .oth
def tsV (L : List Tk) (i : Nat) (f : List UInt8) : Except Nat (Nat × Ts) :=
  match tk L i with
  | .op o =>
    if o ≤ 2 then
      match tk L (i + 1) with
      | .pat p => .ok (i + 2, ⟨f, o, 4, 0, 0, 0, p⟩)
      | .num v =>
        match tk L (i + 2) with
        | .slash => match tk L (i + 3) with
          | .num w => .ok (i + 4, ⟨f, o, 2, v, 0, w, []⟩)
          | _ => .error (i + 3)
        | .span => match tk L (i + 3) with
          | .num w => .ok (i + 4, ⟨f, o, 3, v, w, 0, []⟩)
          | _ => .error (i + 3)
        | _ => .ok (i + 2, ⟨f, o, 1, v, 0, 0, []⟩)
      | _ => .error (i + 1)
    else
      match tk L (i + 1) with
      | .num v => .ok (i + 2, ⟨f, o, 1, v, 0, 0, []⟩)
      | _ => .error (i + 1)
  | _ => .error i
abbrev PR := Except (Nat × Nat) (Nat × Nat × List Nd)
def lfV (L : List Tk) (i m : Nat) (out : List Nd) : PR :=
  match tk L i with
  | .any => if m = 64 then .error (51, i) else .ok (i + 1, m + 1, out ++ [nd 1])
  | .non => if m = 64 then .error (51, i) else .ok (i + 1, m + 1, out ++ [nd 2])
  | .nm t => if m = 64 then .error (51, i) else
    match tsV L (i + 1) t with
    | .error p => .error (50, p)
    | .ok (j, ts) => .ok (j, m + 1, out ++ [⟨3, ts⟩])
  | _ => .error (50, i)
def pX (L : List Tk) : Nat → Nat → Nat → Nat → Nat → List Nd → Option PR
  | 0, _, _, _, _, _ => none
  | n + 1, 0, o, i, m, out =>
    match pX L n 2 o i m out with
    | none => none
    | some (.error e) => some (.error e)
    | some (.ok (i', m', out')) => pX L n 1 o i' m' out'
  | n + 1, 1, o, i, m, out =>
    match tk L i with
    | .bar => if m = 64 then some (.error (51, i)) else
      match pX L n 2 o (i + 1) (m + 1) out with
      | none => none
      | some (.error e) => some (.error e)
      | some (.ok (i', m', out')) => pX L n 1 o i' m' (out' ++ [nd 6])
    | _ => some (.ok (i, m, out))
  | n + 1, 2, o, i, m, out =>
    match pX L n 4 o i m out with
    | none => none
    | some (.error e) => some (.error e)
    | some (.ok (i', m', out')) => pX L n 3 o i' m' out'
  | n + 1, 3, o, i, m, out =>
    match tk L i with
    | .amp => if m = 64 then some (.error (51, i)) else
      match pX L n 4 o (i + 1) (m + 1) out with
      | none => none
      | some (.error e) => some (.error e)
      | some (.ok (i', m', out')) => pX L n 3 o i' m' (out' ++ [nd 5])
    | _ => some (.ok (i, m, out))
  | n + 1, _ + 4, o, i, m, out =>
    match tk L i with
    | .bang => if o = 32 then some (.error (53, i)) else if m = 64 then some (.error (51, i)) else
      match pX L n 4 (o + 1) (i + 1) (m + 1) out with
      | none => none
      | some (.error e) => some (.error e)
      | some (.ok (i', m', out')) => some (.ok (i', m', out' ++ [nd 4]))
    | .opn => if o = 32 then some (.error (53, i)) else
      match pX L n 0 (o + 1) (i + 1) m out with
      | none => none
      | some (.error e) => some (.error e)
      | some (.ok (i', m', out')) => match tk L i' with
        | .cls => some (.ok (i' + 1, m', out'))
        | _ => some (.error (50, i'))
    | _ => some (lfV L i m out)
def deep (Q : List Nat) : Nat := (Q.filter (fun c => c == 40 || c == 33)).length
def sgn (c : Nat) : List Nd := if c = 33 then [nd 4] else if c = 38 then [nd 5] else if c = 124 then [nd 6] else []
def flush (P : List Nat) : List Nd := P.flatMap sgn
def dnP : List Nat → List Nat
  | 33 :: Q => dnP Q
  | Q => Q
def dnO : List Nat → List Nd
  | 33 :: Q => nd 4 :: dnO Q
  | _ => []
def upto (f : Nat → Bool) (Q : List Nat) : List Nat := Q.takeWhile f
def past (f : Nat → Bool) (Q : List Nat) : List Nat := Q.dropWhile f
abbrev DR := Except (Nat × Nat) (Nat × List Nd)
def dM (L : List Tk) : Nat → Bool → Nat → List Nat → Nat → List Nd → Option DR
  | 0, _, _, _, _, _ => none
  | n + 1, true, i, Q, m, out =>
    match tk L i with
    | .bang => if 32 ≤ deep Q then some (.error (53, i)) else if 64 ≤ m then some (.error (51, i)) else dM L n true (i + 1) (33 :: Q) (m + 1) out
    | .opn => if 32 ≤ deep Q then some (.error (53, i)) else dM L n true (i + 1) (40 :: Q) m out
    | _ => match lfV L i m out with
      | .error e => some (.error e)
      | .ok (i', m', out') => dM L n false i' (dnP Q) m' (out' ++ dnO Q)
  | n + 1, false, i, Q, m, out =>
    match tk L i with
    | .amp => if 64 ≤ m then some (.error (51, i)) else dM L n true (i + 1) (38 :: past (· == 38) Q) (m + 1) (out ++ flush (upto (· == 38) Q))
    | .bar => if 64 ≤ m then some (.error (51, i)) else dM L n true (i + 1) (124 :: past (fun c => c == 38 || c == 124) Q) (m + 1) (out ++ flush (upto (fun c => c == 38 || c == 124) Q))
    | .cls => if 40 ∈ Q then dM L n false (i + 1) (dnP (past (· != 40) Q).tail) m (out ++ flush (upto (· != 40) Q) ++ dnO (past (· != 40) Q).tail) else some (.ok (i, out ++ flush Q))
    | _ => if 40 ∈ Q then some (.error (50, i)) else some (.ok (i, out ++ flush Q))
def toD (L : List Tk) (w : Bool) (i : Nat) (Q : List Nat) (m : Nat) (out : List Nd) (w' : Bool) (i' : Nat) (Q' : List Nat) (m' : Nat) (out' : List Nd) : Prop := ∃ k, ∀ N, dM L (N + k) w i Q m out = dM L N w' i' Q' m' out'
def toE (L : List Tk) (w : Bool) (i : Nat) (Q : List Nat) (m : Nat) (out : List Nd) (e : Nat × Nat) : Prop := ∃ k, ∀ N, dM L (N + k) w i Q m out = some (.error e)
variable {L : List Tk} {w w' : Bool} {i i' m m' o : Nat} {Q Q' : List Nat} {out out' : List Nd}
theorem toD.refl : toD L w i Q m out w i Q m out := ⟨0, fun _ => rfl⟩
theorem toD.trans {w2 i2 Q2 m2 out2} (h : toD L w i Q m out w' i' Q' m' out') (h2 : toD L w' i' Q' m' out' w2 i2 Q2 m2 out2) : toD L w i Q m out w2 i2 Q2 m2 out2 := by
  obtain ⟨k, h⟩ := h
  obtain ⟨k2, h2⟩ := h2
  exact ⟨k2 + k, fun N => by rw [← Nat.add_assoc, h, h2]⟩
theorem toD.err {e} (h : toD L w i Q m out w' i' Q' m' out') (h2 : toE L w' i' Q' m' out' e) : toE L w i Q m out e := by
  obtain ⟨k, h⟩ := h
  obtain ⟨k2, h2⟩ := h2
  exact ⟨k2 + k, fun N => by rw [← Nat.add_assoc, h, h2]⟩
theorem toD.step (h : ∀ N, dM L (N + 1) w i Q m out = dM L N w' i' Q' m' out') : toD L w i Q m out w' i' Q' m' out' := ⟨1, h⟩
theorem toE.step {e} (h : ∀ N, dM L (N + 1) w i Q m out = some (.error e)) : toE L w i Q m out e := ⟨1, h⟩
def plainQ : List Nat → Prop
  | c :: _ => c = 40
  | [] => True
def chainQ : List Nat → Prop
  | c :: _ => c = 40 ∨ c = 124
  | [] => True
theorem plainQ.chain {Q : List Nat} (h : plainQ Q) : chainQ Q := by
  cases Q with
  | nil => trivial
  | cons c Q => exact .inl h
theorem deep_bang (Q : List Nat) : deep (33 :: Q) = deep Q + 1 := by simp [deep]
theorem deep_opn (Q : List Nat) : deep (40 :: Q) = deep Q + 1 := by simp [deep]
theorem deep_amp (Q : List Nat) : deep (38 :: Q) = deep Q := by simp [deep]
theorem deep_bar (Q : List Nat) : deep (124 :: Q) = deep Q := by simp [deep]
def penC (P : List Nat) : Prop := P = [] ∨ P = [38]
def penE (P : List Nat) : Prop := P = [] ∨ P = [38] ∨ P = [124] ∨ P = [38, 124]
theorem past_amp {P Q : List Nat} (hP : penC P) (hQ : chainQ Q) : upto (· == 38) (P ++ Q) = P ∧ past (· == 38) (P ++ Q) = Q := by
  have h0 : upto (· == 38) Q = [] ∧ past (· == 38) Q = Q := by
    cases Q with
    | nil => exact ⟨rfl, rfl⟩
    | cons c Q =>
      have : c ≠ 38 := by rcases hQ with rfl | rfl <;> decide
      exact ⟨by simp [upto, this], by simp [past, this]⟩
  unfold upto past at h0 ⊢
  rcases hP with rfl | rfl
  · exact h0
  · exact ⟨by simp [h0.1], by simp [h0.2]⟩
theorem past_bar {P Q : List Nat} (hP : penE P) (hQ : plainQ Q) : upto (fun c => c == 38 || c == 124) (P ++ Q) = P ∧ past (fun c => c == 38 || c == 124) (P ++ Q) = Q := by
  have h0 : upto (fun c => c == 38 || c == 124) Q = [] ∧ past (fun c => c == 38 || c == 124) Q = Q := by
    cases Q with
    | nil => exact ⟨rfl, rfl⟩
    | cons c Q =>
      have hc : c = 40 := hQ
      subst hc
      exact ⟨by simp [upto], by simp [past]⟩
  unfold upto past at h0 ⊢
  rcases hP with rfl | rfl | rfl | rfl
  · exact h0
  · exact ⟨by simp [h0.1], by simp [h0.2]⟩
  · exact ⟨by simp [h0.1], by simp [h0.2]⟩
  · exact ⟨by simp [h0.1], by simp [h0.2]⟩
theorem past_opn {P Q : List Nat} (hP : penE P) : upto (· != 40) (P ++ 40 :: Q) = P ∧ past (· != 40) (P ++ 40 :: Q) = 40 :: Q := by
  unfold upto past
  rcases hP with rfl | rfl | rfl | rfl <;> simp
theorem penE_no {P : List Nat} (hP : penE P) : 40 ∉ P := by rcases hP with rfl | rfl | rfl | rfl <;> decide
end Go.Proofs.YtffgkjmfeannoaaGreatDoor.Ex
namespace Go.Proofs.YtffgkjmfeannoaaGreatDoor.Ex
variable {L : List Tk}
def OKF (L : List Tk) (Q : List Nat) (i m : Nat) (out : List Nd) : PR → Prop
  | .error e => toE L true i Q m out e
  | .ok (i', m', out') => m' ≤ 64 ∧ toD L true i Q m out false i' (dnP Q) m' (out' ++ dnO Q)
def OKC (L : List Tk) (w : Bool) (Q P : List Nat) (i m : Nat) (d : List Nd) : PR → Prop
  | .error e => toE L w i (P ++ Q) m d e
  | .ok (i', m', out') => m' ≤ 64 ∧ tk L i' ≠ .amp ∧ ∃ P' d', penC P' ∧ d' ++ flush P' = out' ∧ toD L w i (P ++ Q) m d false i' (P' ++ Q) m' d'
def OKE (L : List Tk) (w : Bool) (Q P : List Nat) (i m : Nat) (d : List Nd) : PR → Prop
  | .error e => toE L w i (P ++ Q) m d e
  | .ok (i', m', out') => m' ≤ 64 ∧ tk L i' ≠ .amp ∧ tk L i' ≠ .bar ∧ ∃ P' d', penE P' ∧ d' ++ flush P' = out' ∧ toD L w i (P ++ Q) m d false i' (P' ++ Q) m' d'
theorem dn_chain {Q : List Nat} (h : chainQ Q) : dnP Q = Q ∧ dnO Q = [] := by
  cases Q with
  | nil => exact ⟨rfl, rfl⟩
  | cons c Q =>
    rcases h with rfl | rfl
    · exact ⟨rfl, rfl⟩
    · exact ⟨rfl, rfl⟩
theorem lfV_le {i m : Nat} {out : List Nd} {i' m' : Nat} {out' : List Nd} (h : lfV L i m out = .ok (i', m', out')) (hm : m ≤ 64) : m' ≤ 64 := by
  unfold lfV at h
  split at h
  · split at h
    · cases h
    · injection h with h
      injection h with _ h
      injection h with h _
      omega
  · split at h
    · cases h
    · injection h with h
      injection h with _ h
      injection h with h _
      omega
  · split at h
    · cases h
    · split at h
      · cases h
      · injection h with h
        injection h with _ h
        injection h with h _
        omega
  · cases h
theorem leaf_ok {Q : List Nat} {i m : Nat} {out : List Nd} (h1 : tk L i ≠ .bang) (h2 : tk L i ≠ .opn) (hm : m ≤ 64) : OKF L Q i m out (lfV L i m out) := by
  have hd : ∀ N, dM L (N + 1) true i Q m out = match lfV L i m out with
      | .error e => some (.error e)
      | .ok (i', m', out') => dM L N false i' (dnP Q) m' (out' ++ dnO Q) := fun N => by
    rw [dM]
    split
    · rename_i h; exact absurd h h1
    · rename_i h; exact absurd h h2
    · rfl
  cases hl : lfV L i m out with
  | error e =>
    rw [hl] at hd
    exact toE.step hd
  | ok x =>
    obtain ⟨i', m', out'⟩ := x
    rw [hl] at hd
    exact ⟨lfV_le hl hm, toD.step hd⟩
theorem flush_app (A B : List Nat) : flush (A ++ B) = flush A ++ flush B := by simp [flush]
theorem sim (L : List Tk) : ∀ n : Nat,
    (∀ o i m out r Q, pX L n 4 o i m out = some r → deep Q = o → o ≤ 32 → m ≤ 64 → OKF L Q i m out r) ∧
    (∀ o i m d r Q P, pX L n 3 o i m (d ++ flush P) = some r → deep Q = o → o ≤ 32 → chainQ Q → penC P → m ≤ 64 → OKC L false Q P i m d r) ∧
    (∀ o i m d r Q, pX L n 2 o i m d = some r → deep Q = o → o ≤ 32 → chainQ Q → m ≤ 64 → OKC L true Q [] i m d r) ∧
    (∀ o i m d r Q P, pX L n 1 o i m (d ++ flush P) = some r → deep Q = o → o ≤ 32 → plainQ Q → penE P → m ≤ 64 → tk L i ≠ .amp → OKE L false Q P i m d r) ∧
    (∀ o i m d r Q, pX L n 0 o i m d = some r → deep Q = o → o ≤ 32 → plainQ Q → m ≤ 64 → OKE L true Q [] i m d r)
  | 0 => by
    refine ⟨?_, ?_, ?_, ?_, ?_⟩ <;> intros <;> simp [pX] at *
  | n + 1 => by
    obtain ⟨iF, iL3, iC, iL1, iE⟩ := sim L n
    refine ⟨fun o i m out r Q h hQ ho hm => ?_, fun o i m d r Q P h hQ ho hc hP hm => ?_, fun o i m d r Q h hQ ho hc hm => ?_, fun o i m d r Q P h hQ ho hc hP hm ha => ?_, fun o i m d r Q h hQ ho hc hm => ?_⟩
    · -- a factor
      have hleaf : tk L i ≠ .bang → tk L i ≠ .opn → r = lfV L i m out := fun h1 h2 => by
        rw [pX] at h
        split at h
        · rename_i h3; exact absurd h3 h1
        · rename_i h3; exact absurd h3 h2
        · exact (Option.some.inj h).symm
      by_cases h1 : tk L i = .bang
      · rw [pX, h1] at h
        simp only at h
        have hd : ∀ N, dM L (N + 1) true i Q m out = if 32 ≤ deep Q then some (.error (53, i)) else if 64 ≤ m then some (.error (51, i)) else dM L N true (i + 1) (33 :: Q) (m + 1) out := fun N => by rw [dM, h1]
        by_cases h32 : o = 32
        · rw [if_pos h32] at h
          obtain rfl := Option.some.inj h
          exact toE.step (fun N => by rw [hd, if_pos (by omega)])
        rw [if_neg h32] at h
        by_cases h64 : m = 64
        · rw [if_pos h64] at h
          obtain rfl := Option.some.inj h
          exact toE.step (fun N => by rw [hd, if_neg (by omega), if_pos (by omega)])
        rw [if_neg h64] at h
        have st : toD L true i Q m out true (i + 1) (33 :: Q) (m + 1) out := toD.step (fun N => by rw [hd, if_neg (by omega), if_neg (by omega)])
        cases hp : pX L n 4 (o + 1) (i + 1) (m + 1) out with
        | none => rw [hp] at h; cases h
        | some x =>
          have ih := iF _ _ _ _ _ (33 :: Q) hp (by rw [deep_bang, hQ]) (by omega) (by omega)
          rw [hp] at h
          cases x with
          | error e =>
            obtain rfl := Option.some.inj h
            exact st.err ih
          | ok y =>
            obtain ⟨i', m', out'⟩ := y
            obtain rfl := Option.some.inj h
            refine ⟨ih.1, st.trans ?_⟩
            have := ih.2
            rw [dnP, dnO] at this
            rw [List.append_assoc]
            exact this
      · by_cases h2 : tk L i = .opn
        · rw [pX, h2] at h
          simp only at h
          have hd : ∀ N, dM L (N + 1) true i Q m out = if 32 ≤ deep Q then some (.error (53, i)) else dM L N true (i + 1) (40 :: Q) m out := fun N => by rw [dM, h2]
          by_cases h32 : o = 32
          · rw [if_pos h32] at h
            obtain rfl := Option.some.inj h
            exact toE.step (fun N => by rw [hd, if_pos (by omega)])
          rw [if_neg h32] at h
          have st : toD L true i Q m out true (i + 1) (40 :: Q) m out := toD.step (fun N => by rw [hd, if_neg (by omega)])
          cases hp : pX L n 0 (o + 1) (i + 1) m out with
          | none => rw [hp] at h; cases h
          | some x =>
            have ih := iE _ _ _ _ _ (40 :: Q) hp (by rw [deep_opn, hQ]) (by omega) rfl hm
            rw [hp] at h
            cases x with
            | error e =>
              obtain rfl := Option.some.inj h
              exact st.err ih
            | ok y =>
              obtain ⟨i', m', out'⟩ := y
              obtain ⟨hm', ha, hb, P, d', hP, he, hr⟩ := ih
              have hin : 40 ∈ P ++ 40 :: Q := by simp
              obtain ⟨p1, p2⟩ := past_opn (Q := Q) hP
              by_cases hcl : tk L i' = .cls
              · simp only [hcl] at h
                obtain rfl := Option.some.inj h
                refine ⟨hm', st.trans (hr.trans (toD.step (fun N => ?_)))⟩
                rw [dM, hcl]
                simp only
                rw [if_pos hin, p1, p2, he]
                rfl
              · have hr2 : r = .error (50, i') := by
                  simp only at h
                  exact (Option.some.inj h).symm
                subst hr2
                refine st.err (hr.err (toE.step (fun N => ?_)))
                rw [dM]
                split
                · rename_i h9; exact absurd h9 ha
                · rename_i h9; exact absurd h9 hb
                · rename_i h9; exact absurd h9 hcl
                · rw [if_pos hin]
        · rw [hleaf h1 h2]
          exact leaf_ok h1 h2 hm
    · -- a chain's loop
      obtain ⟨p1, p2⟩ := past_amp hP hc
      by_cases h1 : tk L i = .amp
      · rw [pX, h1] at h
        simp only at h
        have hd : ∀ N, dM L (N + 1) false i (P ++ Q) m d = if 64 ≤ m then some (.error (51, i)) else dM L N true (i + 1) (38 :: Q) (m + 1) (d ++ flush P) := fun N => by rw [dM, h1]; simp only; rw [p1, p2]
        by_cases h64 : m = 64
        · rw [if_pos h64] at h
          obtain rfl := Option.some.inj h
          exact toE.step (fun N => by rw [hd, if_pos (by omega)])
        rw [if_neg h64] at h
        have st : toD L false i (P ++ Q) m d true (i + 1) (38 :: Q) (m + 1) (d ++ flush P) := toD.step (fun N => by rw [hd, if_neg (by omega)])
        cases hp : pX L n 4 o (i + 1) (m + 1) (d ++ flush P) with
        | none => rw [hp] at h; cases h
        | some x =>
          have ih := iF _ _ _ _ _ (38 :: Q) hp (by rw [deep_amp, hQ]) ho (by omega)
          rw [hp] at h
          cases x with
          | error e =>
            obtain rfl := Option.some.inj h
            exact st.err ih
          | ok y =>
            obtain ⟨i', m', out'⟩ := y
            obtain ⟨hm', hr⟩ := ih
            have e0 : dnP (38 :: Q) = [38] ++ Q := rfl
            have e1 : out' ++ dnO (38 :: Q) = out' := by show out' ++ [] = out'; simp
            rw [e0, e1] at hr
            have h' : pX L n 3 o i' m' (out' ++ flush [38]) = some r := h
            have ih2 := iL3 o i' m' out' r Q [38] h' hQ ho hc (.inr rfl) hm'
            have st2 := st.trans hr
            cases r with
            | error e => exact st2.err ih2
            | ok y =>
              obtain ⟨i2, m2, o2⟩ := y
              obtain ⟨a1, a2, P', d', a3, a4, a5⟩ := ih2
              exact ⟨a1, a2, P', d', a3, a4, st2.trans a5⟩
      · have hr : r = .ok (i, m, d ++ flush P) := by
          rw [pX] at h
          split at h
          · rename_i h9; exact absurd h9 h1
          · exact (Option.some.inj h).symm
        subst hr
        exact ⟨hm, h1, P, d, hP, rfl, toD.refl⟩
    · -- a chain
      obtain ⟨e1, e2⟩ := dn_chain hc
      rw [pX] at h
      cases hp : pX L n 4 o i m d with
      | none => rw [hp] at h; cases h
      | some x =>
        have ih := iF _ _ _ _ _ Q hp hQ ho hm
        rw [hp] at h
        cases x with
        | error e =>
          obtain rfl := Option.some.inj h
          exact ih
        | ok y =>
          obtain ⟨i', m', out'⟩ := y
          obtain ⟨hm', hr⟩ := ih
          rw [e1, e2, List.append_nil] at hr
          have h' : pX L n 3 o i' m' (out' ++ flush []) = some r := by
            have e9 : out' ++ flush [] = out' := by show out' ++ [] = out'; simp
            rw [e9]; exact h
          have ih2 := iL3 o i' m' out' r Q [] h' hQ ho hc (.inl rfl) hm'
          cases r with
          | error e => exact hr.err ih2
          | ok y =>
            obtain ⟨i2, m2, o2⟩ := y
            obtain ⟨a1, a2, P', d', a3, a4, a5⟩ := ih2
            exact ⟨a1, a2, P', d', a3, a4, hr.trans a5⟩
    · -- an expression's loop
      obtain ⟨p1, p2⟩ := past_bar hP hc
      by_cases h1 : tk L i = .bar
      · rw [pX, h1] at h
        simp only at h
        have hd : ∀ N, dM L (N + 1) false i (P ++ Q) m d = if 64 ≤ m then some (.error (51, i)) else dM L N true (i + 1) (124 :: Q) (m + 1) (d ++ flush P) := fun N => by rw [dM, h1]; simp only; rw [p1, p2]
        by_cases h64 : m = 64
        · rw [if_pos h64] at h
          obtain rfl := Option.some.inj h
          exact toE.step (fun N => by rw [hd, if_pos (by omega)])
        rw [if_neg h64] at h
        have st : toD L false i (P ++ Q) m d true (i + 1) (124 :: Q) (m + 1) (d ++ flush P) := toD.step (fun N => by rw [hd, if_neg (by omega)])
        cases hp : pX L n 2 o (i + 1) (m + 1) (d ++ flush P) with
        | none => rw [hp] at h; cases h
        | some x =>
          have ih := iC _ _ _ _ _ (124 :: Q) hp (by rw [deep_bar, hQ]) ho (.inr rfl) (by omega)
          rw [hp] at h
          cases x with
          | error e =>
            obtain rfl := Option.some.inj h
            exact st.err ih
          | ok y =>
            obtain ⟨i', m', out'⟩ := y
            obtain ⟨hm', ham, P', d', hP', he', hr⟩ := ih
            have h' : pX L n 1 o i' m' (d' ++ flush (P' ++ [124])) = some r := by
              rw [flush_app, ← List.append_assoc, he']
              exact h
            have hP2 : penE (P' ++ [124]) := by
              rcases hP' with rfl | rfl
              · exact .inr (.inr (.inl rfl))
              · exact .inr (.inr (.inr rfl))
            have ih2 := iL1 o i' m' d' r Q (P' ++ [124]) h' hQ ho hc hP2 hm' ham
            have eQ : P' ++ 124 :: Q = (P' ++ [124]) ++ Q := by simp
            rw [eQ] at hr
            have st2 := st.trans hr
            cases r with
            | error e => exact st2.err ih2
            | ok y =>
              obtain ⟨i2, m2, o2⟩ := y
              obtain ⟨a1, a2, b2, P3, d3, a3, a4, a5⟩ := ih2
              exact ⟨a1, a2, b2, P3, d3, a3, a4, st2.trans a5⟩
      · have hr : r = .ok (i, m, d ++ flush P) := by
          rw [pX] at h
          split at h
          · rename_i h9; exact absurd h9 h1
          · exact (Option.some.inj h).symm
        subst hr
        exact ⟨hm, ha, h1, P, d, hP, rfl, toD.refl⟩
    · -- an expression
      rw [pX] at h
      cases hp : pX L n 2 o i m d with
      | none => rw [hp] at h; cases h
      | some x =>
        have ih := iC _ _ _ _ _ Q hp hQ ho hc.chain hm
        rw [hp] at h
        cases x with
        | error e =>
          obtain rfl := Option.some.inj h
          exact ih
        | ok y =>
          obtain ⟨i', m', out'⟩ := y
          obtain ⟨hm', ham, P', d', hP', he', hr⟩ := ih
          have h' : pX L n 1 o i' m' (d' ++ flush P') = some r := by rw [he']; exact h
          have hP2 : penE P' := by
            rcases hP' with rfl | rfl
            · exact .inl rfl
            · exact .inr (.inl rfl)
          have ih2 := iL1 o i' m' d' r Q P' h' hQ ho hc hP2 hm' ham
          cases r with
          | error e => exact hr.err ih2
          | ok y =>
            obtain ⟨i2, m2, o2⟩ := y
            obtain ⟨a1, a2, b2, P3, d3, a3, a4, a5⟩ := ih2
            exact ⟨a1, a2, b2, P3, d3, a3, a4, hr.trans a5⟩
def outR : PR → DR
  | .error e => .error e
  | .ok (i, _, out) => .ok (i, out)
theorem read_sim {n i : Nat} {r : PR} (h : pX L n 0 0 i 0 [] = some r) : ∃ k, ∀ N, dM L (N + k) true i [] 0 [] = some (outR r) := by
  have hs := (sim L n).2.2.2.2 0 i 0 [] r [] h rfl (by omega) trivial (by omega)
  cases r with
  | error e => exact hs
  | ok y =>
    obtain ⟨i', m', out'⟩ := y
    obtain ⟨hm', ha, hb, P, d, hP, he, k, hr⟩ := hs
    refine ⟨1 + k, fun N => ?_⟩
    rw [← Nat.add_assoc]
    have h1 := hr (N + 1)
    rw [List.nil_append, List.append_nil] at h1
    have hno := penE_no hP
    rw [h1, dM]
    split
    · rename_i h9; exact absurd h9 ha
    · rename_i h9; exact absurd h9 hb
    · rw [if_neg hno, he]; rfl
    · rw [if_neg hno, he]; rfl
end Go.Proofs.YtffgkjmfeannoaaGreatDoor.Ex
namespace Go.Proofs.YtffgkjmfeannoaaGreatDoor.Ex
variable {L : List Tk}
theorem tsV_prog {i : Nat} {f : List UInt8} {j : Nat} {t : Ts} (h : tsV L i f = .ok (j, t)) : i < j := by
  unfold tsV at h
  repeat' split at h
  all_goals first | (cases h; done) | (injection h with h; injection h with h _; omega)
theorem lfV_prog {i m : Nat} {out : List Nd} {i' m' : Nat} {out' : List Nd} (h : lfV L i m out = .ok (i', m', out')) : i < i' := by
  unfold lfV at h
  split at h
  · split at h
    · cases h
    · injection h with h
      injection h with h _
      omega
  · split at h
    · cases h
    · injection h with h
      injection h with h _
      omega
  · split at h
    · cases h
    · split at h
      · cases h
      · rename_i ht
        have := tsV_prog ht
        injection h with h
        injection h with h _
        omega
  · cases h
theorem pX_prog (L : List Tk) : ∀ (n c o i m : Nat) (out : List Nd) (i' m' : Nat) (out' : List Nd), pX L n c o i m out = some (.ok (i', m', out')) → i ≤ i' ∧ (c ≠ 1 → c ≠ 3 → i < i')
  | 0, c, o, i, m, out, i', m', out', h => by simp [pX] at h
  | n + 1, 0, o, i, m, out, i', m', out', h => by
    rw [pX] at h
    split at h
    · cases h
    · cases h
    · rename_i a b c hp
      have h1 := pX_prog L n 2 _ _ _ _ _ _ _ hp
      have h2 := pX_prog L n 1 _ _ _ _ _ _ _ h
      have := h1.2 (by decide) (by decide)
      exact ⟨by omega, fun _ _ => by omega⟩
  | n + 1, 1, o, i, m, out, i', m', out', h => by
    rw [pX] at h
    split at h
    · split at h
      · cases h
      · split at h
        · cases h
        · cases h
        · rename_i a b c hp
          have h1 := pX_prog L n 2 _ _ _ _ _ _ _ hp
          have h2 := pX_prog L n 1 _ _ _ _ _ _ _ h
          exact ⟨by omega, fun h _ => absurd rfl h⟩
    · injection h with h
      injection h with h
      injection h with h _
      exact ⟨by omega, fun h _ => absurd rfl h⟩
  | n + 1, 2, o, i, m, out, i', m', out', h => by
    rw [pX] at h
    split at h
    · cases h
    · cases h
    · rename_i a b c hp
      have h1 := pX_prog L n 4 _ _ _ _ _ _ _ hp
      have h2 := pX_prog L n 3 _ _ _ _ _ _ _ h
      have := h1.2 (by decide) (by decide)
      exact ⟨by omega, fun _ _ => by omega⟩
  | n + 1, 3, o, i, m, out, i', m', out', h => by
    rw [pX] at h
    split at h
    · split at h
      · cases h
      · split at h
        · cases h
        · cases h
        · rename_i a b c hp
          have h1 := pX_prog L n 4 _ _ _ _ _ _ _ hp
          have h2 := pX_prog L n 3 _ _ _ _ _ _ _ h
          exact ⟨by omega, fun _ h => absurd rfl h⟩
    · injection h with h
      injection h with h
      injection h with h _
      exact ⟨by omega, fun _ h => absurd rfl h⟩
  | n + 1, c + 4, o, i, m, out, i', m', out', h => by
    rw [pX] at h
    have key : i < i' := by
      split at h
      · split at h
        · cases h
        · split at h
          · cases h
          · split at h
            · cases h
            · cases h
            · rename_i a b c hp
              have h1 := pX_prog L n 4 _ _ _ _ _ _ _ hp
              injection h with h
              injection h with h
              injection h with h _
              omega
      · split at h
        · cases h
        · split at h
          · cases h
          · cases h
          · rename_i a b c hp
            have h1 := pX_prog L n 0 _ _ _ _ _ _ _ hp
            split at h
            · injection h with h
              injection h with h
              injection h with h _
              omega
            · cases h
      · exact lfV_prog (Option.some.inj h)
    exact ⟨by omega, fun _ _ => key⟩
theorem tk_out {i : Nat} (h : L.length ≤ i) : tk L i = .oth := by
  unfold tk
  rw [List.getD_eq_getElem?_getD, List.getElem?_eq_none h]
  rfl
theorem tk_in {i : Nat} {t : Tk} (h : tk L i = t) (ht : t ≠ .oth) : i < L.length := by
  rcases Nat.lt_or_ge i L.length with h1 | h1
  · exact h1
  · rw [tk_out h1] at h
    exact absurd h.symm ht
def need (c k : Nat) : Nat := 3 * k + (if c = 0 then 3 else if c = 2 then 2 else 1)
theorem pX_some (L : List Tk) : ∀ (n c o i m : Nat) (out : List Nd), need c (L.length - i) ≤ n → ∃ r, pX L n c o i m out = some r
  | 0, c, o, i, m, out, h => by unfold need at h; split at h <;> (try split at h) <;> omega
  | n + 1, 0, o, i, m, out, h => by
    unfold need at h
    simp only [if_pos] at h
    obtain ⟨r, hr⟩ := pX_some L n 2 o i m out (by unfold need; simp; omega)
    rw [pX, hr]
    cases r with
    | error e => exact ⟨_, rfl⟩
    | ok y =>
      obtain ⟨i', m', out'⟩ := y
      have := (pX_prog L n 2 _ _ _ _ _ _ _ hr).1
      exact pX_some L n 1 o i' m' out' (by unfold need; simp; omega)
  | n + 1, 1, o, i, m, out, h => by
    unfold need at h
    simp at h
    rw [pX]
    split
    · rename_i hb
      have := tk_in hb (by intro h; cases h)
      split
      · exact ⟨_, rfl⟩
      · obtain ⟨r, hr⟩ := pX_some L n 2 o (i + 1) (m + 1) out (by unfold need; simp; omega)
        rw [hr]
        cases r with
        | error e => exact ⟨_, rfl⟩
        | ok y =>
          obtain ⟨i', m', out'⟩ := y
          have := (pX_prog L n 2 _ _ _ _ _ _ _ hr).1
          exact pX_some L n 1 o i' m' (out' ++ [nd 6]) (by unfold need; simp; omega)
    · exact ⟨_, rfl⟩
  | n + 1, 2, o, i, m, out, h => by
    unfold need at h
    simp at h
    obtain ⟨r, hr⟩ := pX_some L n 4 o i m out (by unfold need; simp; omega)
    rw [pX, hr]
    cases r with
    | error e => exact ⟨_, rfl⟩
    | ok y =>
      obtain ⟨i', m', out'⟩ := y
      have := (pX_prog L n 4 _ _ _ _ _ _ _ hr).1
      exact pX_some L n 3 o i' m' out' (by unfold need; simp; omega)
  | n + 1, 3, o, i, m, out, h => by
    unfold need at h
    simp at h
    rw [pX]
    split
    · rename_i hb
      have := tk_in hb (by intro h; cases h)
      split
      · exact ⟨_, rfl⟩
      · obtain ⟨r, hr⟩ := pX_some L n 4 o (i + 1) (m + 1) out (by unfold need; simp; omega)
        rw [hr]
        cases r with
        | error e => exact ⟨_, rfl⟩
        | ok y =>
          obtain ⟨i', m', out'⟩ := y
          have := (pX_prog L n 4 _ _ _ _ _ _ _ hr).1
          exact pX_some L n 3 o i' m' (out' ++ [nd 5]) (by unfold need; simp; omega)
    · exact ⟨_, rfl⟩
  | n + 1, c + 4, o, i, m, out, h => by
    unfold need at h
    simp at h
    rw [pX]
    split
    · rename_i hb
      have := tk_in hb (by intro h; cases h)
      split
      · exact ⟨_, rfl⟩
      · split
        · exact ⟨_, rfl⟩
        · obtain ⟨r, hr⟩ := pX_some L n 4 (o + 1) (i + 1) (m + 1) out (by unfold need; simp; omega)
          rw [hr]
          cases r with
          | error e => exact ⟨_, rfl⟩
          | ok y => exact ⟨_, rfl⟩
    · rename_i hb
      have := tk_in hb (by intro h; cases h)
      split
      · exact ⟨_, rfl⟩
      · obtain ⟨r, hr⟩ := pX_some L n 0 (o + 1) (i + 1) m out (by unfold need; simp; omega)
        rw [hr]
        cases r with
        | error e => exact ⟨_, rfl⟩
        | ok y =>
          obtain ⟨i', m', out'⟩ := y
          simp only
          split <;> exact ⟨_, rfl⟩
    · exact ⟨_, rfl⟩
end Go.Proofs.YtffgkjmfeannoaaGreatDoor.Ex

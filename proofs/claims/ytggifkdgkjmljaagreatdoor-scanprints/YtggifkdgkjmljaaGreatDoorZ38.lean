import Derived.Test.YtggifkdgkjmljaaGreatDoorZ37
import Derived.Test.YtggifkdgkjmljaaGreatDoorZ1
import Derived.WalkKit
import Derived.Below
import Derived.BigQuiet
import Derived.Test.YtggifkdgkjmljaaGreatDoorZ5
import Derived.Deep.QuietTactic
import Derived.Test.YtggifkdgkjmljaaGreatDoorZ7
import Derived.Test.YtggifkdgkjmljaaGreatDoorZ35
namespace Go.Proofs.YtggifkdgkjmljaaGreatDoor
open Go.RowKit Go.Shelf
def toI (t : Tok) : ITok := ((t.1 : Int), t.2.1, (t.2.2.1 : Int), (t.2.2.2 : Int))
def kI (t : ITok) : Int × List UInt8 := (t.1, t.2.1)
def kK (t : KT) : Int × List UInt8 := ((t.1 : Int), t.2)
theorem toI_kt (L : List Tok) : (L.map toI).map kI = (kt L).map kK := by
  unfold kt
  rw [List.map_map, List.map_map]
  rfl
theorem tokB_k {t : ITok} {u : KT} (h : kI t = kK u) : tokB t = tokB ((u.1 : Int), u.2, 0, 0) := by
  obtain ⟨h1, h2⟩ := Prod.mk.inj h
  unfold tokB
  simp only
  rw [h1, h2]
theorem likeB_k {t t' u : ITok} (h : kI t = kI t') : likeB t u = likeB t' u := by
  obtain ⟨h1, h2⟩ := Prod.mk.inj h
  unfold likeB
  rw [h1, h2]
theorem joinB_k {t s : ITok} {u v : KT} (h1 : kI t = kK u) (h2 : kI s = kK v) : joinB t s = joinK u v := by
  unfold joinK joinB
  congr 1
  funext z
  rw [likeB_k (t := t) (t' := ((u.1 : Int), u.2, 0, 0)) h1, likeB_k (t := s) (t' := ((v.1 : Int), v.2, 0, 0)) h2]
/-- lines of tokens, by kinds and texts -/
def linK : Int → List KT → Bool
  | last, [] => last == 1
  | last, t :: r => if (!tokB ((t.1 : Int), t.2, 0, 0) || ((t.1 : Int) == 1 && last == 1)) = true then false else linK (t.1 : Int) r
theorem lin_k : ∀ (L : List ITok) (Ks : List KT) (last : Int), L.map kI = Ks.map kK → linF last L = linK last Ks
  | [], [], last, _ => rfl
  | [], k :: Ks, last, h => by cases h
  | t :: L, [], last, h => by cases h
  | t :: L, k :: Ks, last, h => by
    rw [List.map_cons, List.map_cons] at h
    have h1 := List.head_eq_of_cons_eq h
    have h2 := List.tail_eq_of_cons_eq h
    have e : t.1 = (k.1 : Int) := (Prod.mk.inj h1).1
    rw [linF, linK, tokB_k h1, e, lin_k L Ks _ h2]
theorem tokB_good {K : Nat} {X : List UInt8} (h : goodT K X) (hX : X.length ≤ 16384) : tokB ((K : Int), X, 0, 0) = true := by
  obtain ⟨c, hc⟩ := scan_one h hX
  have hk := goodT_kind h
  unfold tokB
  rw [if_neg (show ¬ ((K : Int), X, (0 : Int), (0 : Int)).1 = 1 by show ¬ (K : Int) = 1; omega)]
  show oneT (scanM X).1 (K : Int) X = true
  rw [hc]
  unfold oneT
  simp
theorem linK_line : ∀ (ln : List KT) (last : Int) (rest : List KT), goodL ln → (∀ t ∈ ln, t.2.length ≤ 16384) → (ln ≠ [] ∨ last ≠ 1) → linK last (ln ++ (1, [10]) :: rest) = linK 1 rest
  | [], last, rest, _, _, h => by
    have hl : last ≠ 1 := h.resolve_left (fun h => h rfl)
    have e : (last == 1) = false := beq_eq_false_iff_ne.2 hl
    show linK last ((1, [10]) :: rest) = _
    rw [linK, e]
    simp [tokB]
  | t :: ln, last, rest, hg, hx, _ => by
    have ht := hg t (by simp)
    have hk := goodT_kind ht
    have e : ((t.1 : Int) == 1) = false := by rw [beq_eq_false_iff_ne]; omega
    show linK last (t :: (ln ++ (1, [10]) :: rest)) = _
    rw [linK, tokB_good ht (hx t (by simp)), e]
    simp only [Bool.not_true, Bool.false_and, Bool.or_false, Bool.false_eq_true, if_false]
    exact linK_line ln _ rest (fun u hu => hg u (by simp [hu])) (fun u hu => hx u (by simp [hu])) (.inr (by omega))
theorem flat_cons (ln : List KT) (Ls : List (List KT)) : flat (ln :: Ls) = ln ++ (1, [10]) :: flat Ls := by
  unfold flat
  simp
theorem totL_mem : ∀ {ln : List KT} {t : KT}, t ∈ ln → t.2.length ≤ totL ln
  | u :: ln, t, h => by
    have e : totL (u :: ln) = u.2.length + totL ln := by unfold totL; simp
    rcases List.mem_cons.1 h with rfl | h
    · omega
    · have := totL_mem h
      omega
theorem totLs_cons (ln : List KT) (Ls : List (List KT)) : totLs (ln :: Ls) = totL ln + totLs Ls := by unfold totLs; simp
theorem linK_flat : ∀ (Ls : List (List KT)), goodLs Ls → totLs Ls ≤ 16384 → linK 1 (flat Ls) = true
  | [], _, _ => rfl
  | ln :: Ls, hg, ht => by
    rw [totLs_cons] at ht
    obtain ⟨hne, hgl⟩ := hg ln (by simp)
    rw [flat_cons, linK_line ln 1 _ hgl (fun t h => by have := totL_mem h; omega) (.inl hne)]
    exact linK_flat Ls (fun x hx => hg x (by simp [hx])) (by omega)
theorem gap_k {p : Option ITok} {pk : Option KT} {t : ITok} {k : KT} (hp : p.map kI = pk.map kK) (h : kI t = kK k) : gapB p t = gapK pk k := by
  cases p with
  | none =>
    cases pk with
    | none => rfl
    | some v => cases hp
  | some u =>
    cases pk with
    | none => cases hp
    | some v =>
      have hv : kI u = kK v := Option.some.inj hp
      unfold gapB gapK
      simp only
      rw [joinB_k hv h]
theorem prF_k : ∀ (L : List ITok) (Ks : List KT) (p : Option ITok) (pk : Option KT) (acc : List UInt8), L.map kI = Ks.map kK → p.map kI = pk.map kK → acc.length ≤ 16384 → prF p L acc = if 16384 < (acc ++ prT pk Ks).length then none else some (acc ++ prT pk Ks)
  | [], [], p, pk, acc, _, _, ha => by
    show some acc = _
    rw [show prT pk [] = [] from rfl, List.append_nil, if_neg (by omega)]
  | [], k :: Ks, _, _, _, h, _, _ => by cases h
  | t :: L, [], _, _, _, h, _, _ => by cases h
  | t :: L, k :: Ks, p, pk, acc, h, hp, ha => by
    rw [List.map_cons, List.map_cons] at h
    have h1 := List.head_eq_of_cons_eq h
    have h2 := List.tail_eq_of_cons_eq h
    have e : t.2.1 = k.2 := (Prod.mk.inj h1).2
    have hT : acc ++ prT pk (k :: Ks) = (acc ++ gapK pk k ++ k.2) ++ prT (some k) Ks := by
      show acc ++ (gapK pk k ++ (k.2 ++ prT (some k) Ks)) = _
      simp
    show (if 16384 < ((acc ++ gapB p t) ++ t.2.1).length then none else prF (some t) L ((acc ++ gapB p t) ++ t.2.1)) = _
    rw [gap_k hp h1, e, hT]
    by_cases hb : 16384 < (acc ++ gapK pk k ++ k.2).length
    · rw [if_pos hb, if_pos (by rw [List.length_append]; omega)]
    · rw [if_neg hb]
      exact prF_k L Ks (some t) (some k) _ h2 (congrArg some h1) (by omega)
/-- what Print makes of lines of tokens -/
theorem print_ls {L : List ITok} {Ls : List (List KT)} (h : L.map kI = (flat Ls).map kK) (hg : goodLs Ls) (ht : totLs Ls ≤ 16384) : printM L = if 16384 < L.length ∨ 16384 < (prT none (flat Ls)).length then ([], 2) else (prT none (flat Ls), 0) := by
  unfold printM
  by_cases h1 : 16384 < L.length
  · rw [if_pos h1, if_pos (.inl h1)]
  · rw [if_neg h1, if_neg (by rw [lin_k L _ 1 h, linK_flat Ls hg ht]; decide), prF_k L (flat Ls) none none [] h rfl (by simp), List.nil_append]
    by_cases h2 : 16384 < (prT none (flat Ls)).length
    · rw [if_pos h2, if_pos (.inr h2)]
      rfl
    · rw [if_neg h2, if_neg (fun hh => hh.elim h1 h2)]
      rfl
theorem len_line : ∀ (ln : List KT) (p : Option KT), goodL ln → ln.length ≤ totL ln ∧ (prT p ln).length ≤ totL ln + ln.length
  | [], _, _ => ⟨Nat.le_refl _, Nat.le_refl _⟩
  | t :: ln, p, hg => by
    have ht := (hg t (by simp)).1
    have e : totL (t :: ln) = t.2.length + totL ln := by unfold totL; simp
    obtain ⟨i1, i2⟩ := len_line ln (some t) (fun u hu => hg u (by simp [hu]))
    have hgap : (gapK p t).length ≤ 1 := by
      unfold gapK
      split
      · split <;> simp
      · simp
    have hp : prT p (t :: ln) = gapK p t ++ (t.2 ++ prT (some t) ln) := rfl
    rw [hp]
    simp only [List.length_append, List.length_cons]
    omega
theorem len_ls : ∀ (Ls : List (List KT)), goodLs Ls → (flat Ls).length ≤ 2 * totLs Ls ∧ (prT none (flat Ls)).length ≤ 3 * totLs Ls
  | [], _ => ⟨by simp [flat], by simp [flat, prT]⟩
  | ln :: Ls, hg => by
    obtain ⟨hne, hgl⟩ := hg ln (by simp)
    obtain ⟨i1, i2⟩ := len_ls Ls (fun x hx => hg x (by simp [hx]))
    obtain ⟨j1, j2⟩ := len_line ln none hgl
    have h1 : 0 < ln.length := List.length_pos_iff.2 hne
    rw [totLs_cons, flat_cons, prT_end]
    simp only [List.length_append, List.length_cons]
    omega
/-- what Print makes of a text's tokens; and what becomes of that -/
theorem settles (l : List UInt8) (h : l.length ≤ 16384) (he : (scanM l).2.1 = 0) :
    (printM ((scanM l).1.map toI) = ([], 2) ∧ 5461 < l.length) ∨
    ∃ S, printM ((scanM l).1.map toI) = (S, 0) ∧ S.length ≤ 16384 ∧ (scanM S).2 = (0, 0, 0) ∧ kt (scanM S).1 = kt (scanM l).1 ∧ printM ((scanM S).1.map toI) = (S, 0) := by
  obtain ⟨Ls, h1, h2, h3⟩ := scan_ls l h he
  obtain ⟨b1, b2⟩ := len_ls Ls h2
  have hlen : ∀ M : List Tok, kt M = flat Ls → (M.map toI).length = (flat Ls).length := fun M hM => by
    rw [← hM]
    unfold kt
    simp
  have hk : ∀ M : List Tok, kt M = flat Ls → (M.map toI).map kI = (flat Ls).map kK := fun M hM => by rw [toI_kt, hM]
  have hp := print_ls (hk _ h1) h2 (by omega)
  by_cases hb : 16384 < ((scanM l).1.map toI).length ∨ 16384 < (prT none (flat Ls)).length
  · rw [if_pos hb] at hp
    have := hlen _ h1
    exact .inl ⟨hp, by omega⟩
  · rw [if_neg hb] at hp
    obtain ⟨s1, s2⟩ := scan_print Ls h2 (by omega)
    have hp2 := print_ls (hk _ s2) h2 (by omega)
    have := hlen _ h1
    rw [if_neg (by rw [hlen _ s2]; omega)] at hp2
    exact .inr ⟨_, hp, by omega, s1, by rw [s2, h1], hp2⟩
end Go.Proofs.YtggifkdgkjmljaaGreatDoor
namespace Go.Proofs.YtggifkdgkjmljaaGreatDoor
open Go.RowKit Go.Shelf
/-- a text that is one token -/
theorem tokB_inv {t : ITok} (h : tokB t = true) : (t.1 = 1 ∧ t.2.1 = [10]) ∨ ∃ K : Nat, t.1 = (K : Int) ∧ goodT K t.2.1 := by
  have hl := tokB_len h
  unfold tokB at h
  split at h
  · rename_i h1
    exact .inl ⟨h1, beq_iff_eq.1 h⟩
  · right
    unfold oneT at h
    split at h
    · rename_i D a b hD
      rw [Bool.and_eq_true, beq_iff_eq, beq_iff_eq] at h
      have he : (scanM t.2.1).2.1 = 0 := Classical.byContradiction (fun hne => by
        have h0 : (scanM t.2.1).1 = [] := by
          have := (run_done t.2.1 (t.2.1.length + 1) 0 1 0 [] (by omega)).2
          unfold scanM at hne ⊢
          rw [if_neg (by omega)] at hne ⊢
          exact this hne
        rw [h0] at hD
        cases hD)
      obtain ⟨Ls, g1, g2, g3⟩ := scan_ls t.2.1 hl he
      rw [hD] at g1
      have g4 : flat Ls = [(a.1, a.2.1), (b.1, b.2.1)] := g1.symm
      cases Ls with
      | nil => cases g4
      | cons ln Ls =>
        obtain ⟨hne, hgl⟩ := g2 ln (by simp)
        cases ln with
        | nil => exact absurd rfl hne
        | cons u ln =>
          rw [flat_cons] at g4
          have e1 := List.head_eq_of_cons_eq g4
          refine ⟨a.1, h.1.symm, ?_⟩
          have hg := hgl u (by simp)
          rw [e1] at hg
          rw [← h.2]
          exact hg
    · cases h
theorem lin_ls : ∀ (L : List ITok) (last : Int) (cur : List KT), goodL cur → (cur = [] ↔ last = 1) → linF last L = true → ∃ Ls, cur.map kK ++ L.map kI = (flat Ls).map kK ∧ goodLs Ls
  | [], last, cur, _, hc, h => by
    have h1 : last = 1 := beq_iff_eq.1 h
    refine ⟨[], ?_, fun ln hln => by cases hln⟩
    rw [hc.2 h1]
    rfl
  | t :: L, last, cur, hg, hc, h => by
    rw [linF] at h
    split at h
    · cases h
    · rename_i hn
      have hb : tokB t = true := by
        cases hb : tokB t with
        | true => rfl
        | false => exact absurd (by rw [hb]; rfl) hn
      rcases tokB_inv hb with ⟨h1, h2⟩ | ⟨K, h1, h2⟩
      · have hl : last ≠ 1 := fun e => hn (by rw [h1, e]; simp)
        have hne : cur ≠ [] := fun e => hl (hc.1 e)
        rw [h1] at h
        obtain ⟨Ls, e1, e2⟩ := lin_ls L 1 [] (fun u hu => by cases hu) ⟨fun _ => rfl, fun _ => rfl⟩ h
        refine ⟨cur :: Ls, ?_, fun ln hln => ?_⟩
        · rw [flat_cons, List.map_append, List.map_cons, List.map_cons, ← e1]
          have : kI t = kK (1, [10]) := Prod.ext h1 h2
          rw [this]
          rfl
        · rcases List.mem_cons.1 hln with rfl | hln
          · exact ⟨hne, hg⟩
          · exact e2 ln hln
      · have hk := goodT_kind h2
        obtain ⟨Ls, e1, e2⟩ := lin_ls L t.1 (cur ++ [(K, t.2.1)]) (fun u hu => by
          rcases List.mem_append.1 hu with e | e
          · exact hg u e
          · rw [List.mem_singleton.1 e]
            exact h2) ⟨fun e => by simp at e, fun e => by omega⟩ h
        refine ⟨Ls, ?_, e2⟩
        rw [← e1, List.map_append, List.append_assoc, List.map_cons]
        have : kI t = kK (K, t.2.1) := Prod.ext h1 rfl
        rw [this]
        rfl
/-- whatever Print writes is read as the same tokens -/
theorem prints_back (L : List ITok) {S : List UInt8} (h : printM L = (S, 0)) : S.length ≤ 16384 ∧ (scanM S).2 = (0, 0, 0) ∧ (scanM S).1.map (fun t => kI (toI t)) = L.map kI := by
  unfold printM at h
  split at h
  · cases h
  · split at h
    · cases h
    · rename_i h1 h2
      have hlin : linF 1 L = true := by
        cases hb : linF 1 L with
        | true => rfl
        | false => exact absurd hb h2
      obtain ⟨Ls, e1, e2⟩ := lin_ls L 1 [] (fun u hu => by cases hu) ⟨fun _ => rfl, fun _ => rfl⟩ hlin
      have e3 : L.map kI = (flat Ls).map kK := e1
      rw [prF_k L (flat Ls) none none [] e3 rfl (by simp), List.nil_append] at h
      by_cases hb : 16384 < (prT none (flat Ls)).length
      · rw [if_pos hb] at h
        cases h
      · rw [if_neg hb] at h
        have hS : prT none (flat Ls) = S := (Prod.mk.inj h).1
        obtain ⟨s1, s2⟩ := scan_print Ls e2 (by omega)
        rw [hS] at s1 s2 hb
        refine ⟨by omega, s1, ?_⟩
        rw [e3, ← s2]
        unfold kt
        rw [List.map_map]
        rfl
end Go.Proofs.YtggifkdgkjmljaaGreatDoor
namespace Go.Proofs.YtggifkdgkjmljaaGreatDoor
open Go.RowKit
/-- a hexadecimal digit -/
def hx (d : Nat) : UInt8 := if d < 10 then UInt8.ofNat (48 + d) else UInt8.ofNat (87 + d)
/-- a number in hexadecimal digits -/
def hexN (n : Nat) : List UInt8 := if n < 16 then [hx n] else hexN (n / 16) ++ [hx (n % 16)]
abbrev hexT : ByteArray := { data := #[48, 49, 50, 51, 52, 53, 54, 55, 56, 57, 97, 98, 99, 100, 101, 102] }
theorem hx_ext (d : Nat) (hd : d < 16) : hexT.extract d (d + 1) = ⟨#[hx d]⟩ := by
  have h : ∀ d : Fin 16, hexT.extract d.val (d.val + 1) = ⟨#[hx d.val]⟩ := by decide
  exact h ⟨d, hd⟩
theorem hx_get (d : Nat) (hd : d < 16) : hexT.data[d]? = some (hx d) := by
  have h : ∀ d : Fin 16, hexT.data[d.val]? = some (hx d.val) := by decide
  exact h ⟨d, hd⟩
theorem hx_slice (d : Nat) (hd : d < 16) (W : World) : Sem.run Tryz.prog (Instr.slice 9 (Value.string { data := #[48, 49, 50, 51, 52, 53, 54, 55, 56, 57, 97, 98, 99, 100, 101, 102] }) (some (.int .i64 (d : Int))) (some (.int .i64 ((d : Int) + 1))) none) W = .ok (.string ⟨#[hx d]⟩) W := by
  rw [run_slice_string _ _ _ _ _ _ _ Tryz.underlying9 (by omega) (by omega) (by show _ ≤ (16 : Int); omega)]
  have h2 : ((d : Int) + 1).toNat = d + 1 := by omega
  have h3 : ((d : Int)).toNat = d := by omega
  rw [h2, h3]
  exact congrArg (fun x => Result.ok (Value.string x) W) (hx_ext d hd)
theorem hexN_len (n : Nat) : (hexN n).length ≤ n + 1 := by
  induction n using Nat.strongRecOn with
  | ind n ih =>
  rw [hexN]
  split
  · simp
  · have := ih (n / 16) (by omega)
    rw [List.length_append, List.length_singleton]
    omega
end Go.Proofs.YtggifkdgkjmljaaGreatDoor
namespace Go.Proofs.YtggifkdgkjmljaaGreatDoor
open Go.RowKit
/-- a byte, told by its number -/
def looS (x : Nat) : List UInt8 := [92, 120, hx (x / 16), hx (x % 16)]
theorem hx_slice8 (d : Nat) (hd : d < 16) (W : World) : Sem.run Tryz.prog (Instr.slice 9 (Value.string { data := #[48, 49, 50, 51, 52, 53, 54, 55, 56, 57, 97, 98, 99, 100, 101, 102] }) (some (.int .u8 (d : Int))) (some (.int .u8 ((d : Int) + 1))) none) W = .ok (.string ⟨#[hx d]⟩) W := by
  rw [run_slice_string _ _ _ _ _ _ _ Tryz.underlying9 (by omega) (by omega) (by show _ ≤ (16 : Int); omega)]
  have h2 : ((d : Int) + 1).toNat = d + 1 := by omega
  have h3 : ((d : Int)).toNat = d := by omega
  rw [h2, h3]
  exact congrArg (fun x => Result.ok (Value.string x) W) (hx_ext d hd)
/-- characters that are not seen -/
def unsN (n : Nat) : Bool := decide ((128 ≤ n ∧ n ≤ 159) ∨ (8203 ≤ n ∧ n ≤ 8207) ∨ (8232 ≤ n ∧ n ≤ 8238) ∨ n = 65279)
/-- the number of a character by its bytes -/
def codI (s : List UInt8) : Nat → Int
  | 0 => ((s.getD 0 0).toNat : Int) - (if s.length = 2 then 192 else if s.length = 3 then 224 else if s.length = 4 then 240 else 0)
  | j + 1 => 64 * codI s j + ((s.getD (j + 1) 0).toNat : Int) - 128
theorem codI_le (s : List UInt8) (j : Nat) (hj : j ≤ 3) : -1000000000 ≤ codI s j ∧ codI s j ≤ 1000000000 := by
  have b : ∀ i, ((s.getD i 0).toNat : Int) < 256 := fun i => by have := (s.getD i 0).toNat_lt; omega
  have b0 := b 0
  have b1 := b 1
  have b2 := b 2
  have b3 := b 3
  have h0 : -240 ≤ codI s 0 ∧ codI s 0 < 256 := by
    simp only [codI]
    by_cases h2 : s.length = 2
    · rw [if_pos h2]; omega
    · rw [if_neg h2]
      by_cases h3 : s.length = 3
      · rw [if_pos h3]; omega
      · rw [if_neg h3]
        by_cases h4 : s.length = 4
        · rw [if_pos h4]; omega
        · rw [if_neg h4]; omega
  have e1 : codI s 1 = 64 * codI s 0 + ((s.getD 1 0).toNat : Int) - 128 := rfl
  have e2 : codI s 2 = 64 * codI s 1 + ((s.getD 2 0).toNat : Int) - 128 := rfl
  have e3 : codI s 3 = 64 * codI s 2 + ((s.getD 3 0).toNat : Int) - 128 := rfl
  match j, hj with
  | 0, _ => omega
  | 1, _ => omega
  | 2, _ => omega
  | 3, _ => omega
end Go.Proofs.YtggifkdgkjmljaaGreatDoor
namespace Go.Proofs.YtggifkdgkjmljaaGreatDoor
open Go.RowKit
/-- the bytes of the character at a place -/
def own (l : List UInt8) (i : Nat) : List UInt8 := (l.drop i).take (dc l i).2
theorem own_len (l : List UInt8) (i : Nat) (h : i < l.length) : (own l i).length = (dc l i).2 := by
  have := dc_le l i h
  unfold own
  simp
  omega
theorem own_get (l : List UInt8) (i j : Nat) (h : j < (dc l i).2) : (own l i).getD j 0 = l.getD (i + j) 0 := by
  unfold own
  simp [List.getD, h, List.getElem?_drop]
theorem dc_wid (l : List UInt8) (i : Nat) : (dc l i).2 ≤ 4 := by
  unfold dc
  rcases Lib.decodeN_shape (l.length - i) (bt l i) (bt l (i + 1)) (bt l (i + 2)) (bt l (i + 3)) with ⟨a1, e⟩ | ⟨a1, a2, a3, a4, e⟩ | ⟨a1, a2, a3, a4, a5, a6, e⟩ | ⟨a1, a2, a3, a4, a5, a6, a7, e⟩ | e
  all_goals rw [e]
  all_goals simp
/-- the number by the bytes is the character's -/
theorem cod_dc (l : List UInt8) (i : Nat) (h : i < l.length) (hlo : lo1 l i = false) : codI (own l i) ((own l i).length - 1) = ((dc l i).1 : Int) := by
  have hne : ¬ (dc l i = (65533, 1)) := of_decide_eq_false hlo
  have hol := own_len l i h
  rw [hol]
  have hg := own_get l i
  have hb : ∀ j, ((l.getD (i + j) 0).toNat : Int) = (bt l (i + j) : Int) := fun j => rfl
  have hd : dc l i = Lib.decodeN (l.length - i) (bt l i) (bt l (i + 1)) (bt l (i + 2)) (bt l (i + 3)) := rfl
  rcases Lib.decodeN_shape (l.length - i) (bt l i) (bt l (i + 1)) (bt l (i + 2)) (bt l (i + 3)) with ⟨a1, e⟩ | ⟨a1, a2, a3, a4, e⟩ | ⟨a1, a2, a3, a4, a5, a6, e⟩ | ⟨a1, a2, a3, a4, a5, a6, a7, e⟩ | e
  all_goals rw [e] at hd
  all_goals rw [hd] at hg hol
  all_goals simp only at hg hol
  · rw [hd]
    show codI (own l i) 0 = _
    rw [codI, hol, hg 0 (by omega), hb]
    simp
  · rw [hd]
    simp only [codI, hol]
    rw [hg 0 (by omega), hg 1 (by omega), hb, hb]
    simp only [Nat.add_zero, if_true]
    omega
  · rw [hd]
    simp only [codI, hol]
    rw [hg 0 (by omega), hg 1 (by omega), hg 2 (by omega), hb, hb, hb]
    simp only [Nat.add_zero, if_true, Nat.reduceEqDiff, if_false]
    omega
  · rw [hd]
    simp only [codI, hol]
    rw [hg 0 (by omega), hg 1 (by omega), hg 2 (by omega), hg 3 (by omega), hb, hb, hb, hb]
    simp only [Nat.add_zero, if_true, Nat.reduceEqDiff, if_false]
    omega
  · exact absurd hd hne
/-- how a character is told in a quoted text -/
def saiS (s : List UInt8) (n : Nat) : List UInt8 :=
  if s = [34] then [92, 34] else if s = [92] then [92, 92] else if s = [10] then [92, 110] else if s = [13] then [92, 114] else if s = [9] then [92, 116]
  else if n < 32 ∨ n = 127 then looS n
  else if unsN n = true then [92, 117, 123] ++ hexN n ++ [125] else s
theorem codI_small (s : List UInt8) (n : Nat) (h : codI s (s.length - 1) = (n : Int)) (h1 : 1 ≤ s.length) (h4 : s.length ≤ 4) : n ≤ 1000000000 := by
  have := codI_le s (s.length - 1) (by omega)
  omega
end Go.Proofs.YtggifkdgkjmljaaGreatDoor
namespace Go.Proofs.YtggifkdgkjmljaaGreatDoor
open Go.RowKit Go.Shelf
theorem decN_short {l : List UInt8} {t v : Nat} (h : decN l t = some v) : l.length ≤ 10 := by
  unfold decN at h
  split at h
  · rename_i hc; exact hc.2.2.2.1
  · cases h
theorem quadK_short : ∀ (k n : Nat) (l : List UInt8) (v : Nat), quadK k n l = some v → l.length ≤ 11 * (k + 1)
  | 0, n, l, v, h => by
    rw [quadK] at h
    cases hd : decN l 255 with
    | none => rw [hd] at h; cases h
    | some x => have := decN_short hd; omega
  | k + 1, n, l, v, h => by
    rw [quadK] at h
    by_cases hi : Lib.indexByte l 46 < 0
    · rw [if_pos hi] at h; cases h
    · rw [if_neg hi] at h
      have hlt := idx_lt l 46
      cases hd : decN (l.take (Lib.indexByte l 46).toNat) 255 with
      | none => rw [hd] at h; cases h
      | some x =>
        rw [hd] at h
        have h1 := decN_short hd
        have h2 := quadK_short k _ _ v h
        rw [List.length_take] at h1
        rw [List.length_drop] at h2
        omega
/-- a number's text is short -/
theorem numN_short {l : List UInt8} {v : Nat} (h : numN l = some v) : l.length ≤ 44 := by
  unfold numN at h
  split at h
  · have := quadK_short 3 0 l v h; omega
  · split at h
    · rename_i hc; omega
    · split at h
      · rename_i hc; omega
      · have := decN_short h; omega
theorem esc_ten (l : List UInt8) (j : Nat) : (escS l j).1 ≤ 10 := by
  rcases esc_cases l j with h | h | h | h
  · omega
  · omega
  · omega
  · rw [h]
    unfold brS
    split
    · simp
    · split
      · simp
      · have := (hexRun_le 6 (l.drop (j + 3)) 0).2
        simp only
        omega
/-- a quoted text that says little is short -/
theorem ins_short (l : List UInt8) : ∀ (m j : Nat) (s : List UInt8), l.length - j ≤ m → (insS l j s).2.2 = 0 → (insS l j s).2.1 + 10 * s.length ≤ j + 10 * (insS l j s).1.length + 1 := by
  intro m
  induction m with
  | zero =>
    intro j s hm he
    rw [insS, if_neg (by omega)] at he
    cases he
  | succ m ih =>
    intro j s hm he
    rw [insS] at he ⊢
    by_cases hlt : j < l.length
    · rw [if_pos hlt] at he ⊢
      by_cases h34 : bt l j = 34
      · rw [if_pos h34]
        simp only
        omega
      · rw [if_neg h34] at he ⊢
        by_cases h92 : bt l j = 92
        · rw [if_pos h92] at he ⊢
          by_cases hz : (escS l j).1 = 0
          · rw [if_pos hz] at he; cases he
          · rw [if_neg hz] at he ⊢
            have i1 := ih (j + (escS l j).1) (s ++ (escS l j).2) (by omega) he
            have i2 := esc_ten l j
            have i3 := List.length_pos_iff.2 (escS_ne l j (by omega))
            rw [List.length_append] at i1
            omega
        · rw [if_neg h92] at he ⊢
          by_cases h33 : lo1 l j = true ∨ bt l j < 32 ∨ bt l j = 127
          · rw [if_pos h33] at he; cases he
          · rw [if_neg h33] at he ⊢
            have p1 := dc_pos l j
            have p2 := dc_le l j hlt
            have p3 := dc_wid l j
            have i1 := ih (j + (dc l j).2) (s ++ (l.drop j).take (dc l j).2) (by omega) he
            rw [List.length_append, List.length_take, List.length_drop] at i1
            omega
    · rw [if_neg hlt] at he
      cases he
/-- what is wholly a token is short -/
theorem tok_short {x : List UInt8} {K : Nat} (h0 : 0 < x.length) (hn : ∀ j, j < x.length → kl x j ≠ 1) (h : tokR4 x 0 = (K, x.length, 0)) : x.length ≤ 16384 := by
  unfold tokR4 at h
  by_cases h4 : kl x 0 = 4
  · rw [if_pos h4] at h
    cases hv : numN (subL x 0 (nrun x 0)) with
    | none =>
      rw [hv, if_pos rfl] at h
      have := (Prod.mk.inj (Prod.mk.inj h).2).2
      omega
    | some v =>
      rw [hv, if_neg (by simp)] at h
      have e := (Prod.mk.inj (Prod.mk.inj h).2).1
      have := numN_short hv
      rw [sub_len (num_run h0 h4).2] at this
      omega
  rw [if_neg h4] at h
  have hE : tokE x 0 = 0 := Classical.byContradiction (fun he => by
    rw [tokR3_no he rfl rfl] at h
    exact he (Prod.mk.inj (Prod.mk.inj h).2).2)
  rw [tokR3_ok hE rfl rfl] at h
  have hJ := (Prod.mk.inj (Prod.mk.inj h).2).1
  by_cases h3 : kl x 0 = 3
  · cases hd : dotA x (wrun x 0) 3 with
    | false =>
      obtain ⟨b1, b2, b3, b4, b5⟩ := tok_name h0 h3 rfl hd
      by_cases h24 : 24 < wrun x 0 - 0
      · rw [if_pos h24] at b3; omega
      · rw [if_neg h24] at b4; omega
    | true =>
      obtain ⟨b1, b2, b3, b4, b5, b6, b7⟩ := tok_port h0 h3 rfl hd rfl
      by_cases h24 : 24 < wrun x 0 - 0 ∨ 24 < wrun x (wrun x 0 + 1) - wrun x 0 - 1
      · rw [if_pos h24] at b5; omega
      · rw [if_neg h24] at b6; omega
  by_cases h6 : kl x 0 = 6
  · obtain ⟨b1, b2, b3, b4, b5⟩ := tok_pat h0 h6
    cases hp : patX (subL x 0 (wrun x (0 + 1))) with
    | false => rw [hp] at b4; simp at b4; omega
    | true =>
      rw [hp, if_pos rfl] at b5
      have hl := sub_len (i := 0) b2
      unfold patX at hp
      simp only [Bool.and_eq_true, decide_eq_true_eq] at hp
      omega
  by_cases h7 : kl x 0 = 7
  · obtain ⟨b1, b2, b3⟩ := tok_quo h0 hn h7
    by_cases hz : (insS x (0 + 1) []).2.2 = 0
    · by_cases h256 : 256 < (insS x (0 + 1) []).1.length
      · have := (b2 hz h256).1; omega
      · have q := (b3 hz h256).2.1
        have := ins_short x _ (0 + 1) [] (Nat.le_refl _) hz
        simp only [List.length_nil] at this
        omega
    · have := (b1 hz).1; omega
  · obtain ⟨b1, b2, b3⟩ := tok_sign h3 h4 h6 h7
    have hs : sgn (x.drop 0) ≤ 2 := by
      unfold sgn
      cases hf : signsL.find? (fun s => Lib.hasPrefix (x.drop 0) s) with
      | none => simp
      | some z =>
        have hm := List.mem_of_find?_eq_some hf
        have h2 : ∀ s ∈ signsL, s.length ≤ 2 := by decide
        simp only [Option.map_some, Option.getD_some]
        exact h2 z hm
    omega
/-- whether a text is wholly one token of its kind, as the document asks it -/
theorem tokB_eq {k : Int} {x : List UInt8} (a b : Int) (hk : k ≠ 1) (h0 : 0 < x.length) (hn : ∀ j, j < x.length → kl x j ≠ 1) (h2 : kl x 0 ≠ 2) (h8 : kl x 0 ≠ 8) : tokB (k, x, a, b) = decide (tokR4 x 0 = (k.toNat, x.length, 0) ∧ 0 ≤ k) := by
  rw [Bool.eq_iff_iff, decide_eq_true_eq]
  constructor
  · intro h
    have hl := tokB_len h
    rcases tokB_inv h with ⟨h1, _⟩ | ⟨K, h1, g0, g1, g2, g8, gC, gE⟩
    · exact absurd h1 hk
    · simp only at h1 g0 gC gE hl
      subst h1
      refine ⟨?_, by omega⟩
      rw [tokR4_short h0 hl, tokR3_ok gE (by rw [gC]) (by rw [tok_same gE, gC])]
      rfl
  · rintro ⟨h, h9⟩
    have hs := tok_short h0 hn h
    rw [tokR4_short h0 hs] at h
    have hE : tokE x 0 = 0 := Classical.byContradiction (fun he => by
      rw [tokR3_no he rfl rfl] at h
      exact he (Prod.mk.inj (Prod.mk.inj h).2).2)
    rw [tokR3_ok hE rfl rfl] at h
    have e1 := (Prod.mk.inj h).1
    have e2 := (Prod.mk.inj (Prod.mk.inj h).2).1
    rw [tok_same hE] at e2
    have hg : goodT k.toNat x := ⟨h0, hn 0 h0, h2, h8, Prod.ext e1 e2, hE⟩
    have := tokB_good hg hs
    rw [show ((k.toNat : Nat) : Int) = k by omega] at this
    exact this
theorem tokB_nl {k : Int} {x : List UInt8} (a b : Int) (hk : k ≠ 1) (h : 10 ∈ x) : tokB (k, x, a, b) = false := by
  cases hb : tokB (k, x, a, b) with
  | false => rfl
  | true =>
    rcases tokB_inv hb with ⟨h1, _⟩ | ⟨K, h1, hg⟩
    · exact absurd h1 hk
    · exact absurd rfl (goodT_nonl hg 10 h)
theorem tokB_bad {k : Int} {x : List UInt8} (a b : Int) (hk : k ≠ 1) (h : x.length = 0 ∨ kl x 0 = 2 ∨ kl x 0 = 8) : tokB (k, x, a, b) = false := by
  cases hb : tokB (k, x, a, b) with
  | false => rfl
  | true =>
    rcases tokB_inv hb with ⟨h1, _⟩ | ⟨K, h1, g0, g1, g2, g8, gC, gE⟩
    · exact absurd h1 hk
    · simp only at g0 g2 g8
      omega
end Go.Proofs.YtggifkdgkjmljaaGreatDoor

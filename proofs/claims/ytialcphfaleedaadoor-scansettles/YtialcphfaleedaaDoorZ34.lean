import Derived.Test.YtialcphfaleedaaDoorZ22
import Derived.Test.YtialcphfaleedaaDoorZ23
import Derived.Test.YtialcphfaleedaaDoorZ33
namespace Go.Proofs.YtialcphfaleedaaDoor
open Go.RowKit Go.Shelf
theorem scan_a : ∃ p q, scanM [97] = ([(2, [97], p), (1, [10], q)], 0, 0, 0) := by
  have hk : kl [97] 0 = 3 := by decide
  have hk1 : kl [97] 1 = 0 := kl0.2 (by decide)
  have hw : wrun [97] 1 = 1 := wrun_no (by unfold inW; rw [hk1]; rfl)
  have hd : ¬ dotA [97] 1 3 = true := by unfold dotA; rw [hk1]; simp
  have htc : tokC [97] 0 = (2, 1) := by
    unfold tokC
    rw [if_pos hk]
    show (if dotA [97] (wrun [97] 1) 3 = true then ((3 : Nat), wrun [97] (wrun [97] 1 + 1)) else (2, wrun [97] 1)) = _
    rw [hw, if_neg hd]
  have hs : subL [97] 0 1 = [97] := rfl
  have hf : faultE 2 [97] = 0 := by
    unfold faultE
    have hp : parts [97] = [[97]] := by rw [parts, if_pos (by decide)]
    rw [if_pos (.inl rfl), hp]
    rfl
  have h7 : ¬ (kl [97] 0 = 7 ∧ quoE [97] 0 ≠ 0) := fun h => by omega
  have he : tokE [97] 0 = 0 := by
    unfold tokE
    rw [if_neg h7, htc]
    exact hf
  have hj : tokJ [97] 0 = 1 := by
    unfold tokJ
    rw [if_neg h7, htc]
    exact if_pos hf
  unfold scanM
  rw [if_neg (by decide)]
  show ∃ p q, runM 2 [97] 0 1 0 [] = _
  rw [runM_tok (by omega) (by omega) (by omega) (by omega) he, hj, htc, hs, runM_end (.inr hk1)]
  unfold lendM
  rw [if_pos hk1]
  exact ⟨_, _, rfl⟩
/-- what Scan answers of two texts with a newline between -/
theorem scan_joins (a b : List UInt8) (h : a.length + b.length + 1 ≤ 16384) : scanM (a ++ [10] ++ b) = if (scanM a).2.1 ≠ 0 then scanM a else shR (scanM a).1 (nls a + 1) (scanM b) := by
  have e : ∀ l : List UInt8, l.length ≤ 16384 → scanM l = textM l 1 [] := fun l hl => by unfold scanM; rw [if_neg (by omega)]; rfl
  rw [e _ (by simp; omega), e a (by omega), e b (by omega), ← text_joins]
  simp
theorem scan_done (a : List UInt8) (h : a.length ≤ 16384) : ((scanM a).2.1 = 0 → (scanM a).2 = (0, 0, 0)) ∧ ((scanM a).2.1 ≠ 0 → (scanM a).1 = []) := by
  unfold scanM
  rw [if_neg (by omega)]
  have := run_done a (a.length + 1) 0 1 0 [] (by omega)
  exact ⟨fun h => (this.1 h).2, this.2⟩
theorem own_slice {w : World} {B e sz n : Nat} {v : Value} {xs : List Value} (h : w.ownsRow B e sz v n xs) : ∃ o c, v = .slice o n c := by
  rcases h.2 with hh | ⟨g, c, cur, h1, h2, h3, h4⟩
  · exact ⟨none, 0, by rw [hh.2]; exact hh.1⟩
  · exact ⟨_, c, h1⟩
end Go.Proofs.YtialcphfaleedaaDoor
namespace Go.Proofs.YtialcphfaleedaaDoor
open Go.RowKit Go.Shelf
theorem cat10 (a b : List UInt8) : ByteArray.mk a.toArray ++ ByteArray.mk #[10] ++ ByteArray.mk b.toArray = ⟨(a ++ [10] ++ b).toArray⟩ := ByteArray.ext (by simp)
/-- Scan's answer at a text, in plain words -/
def SA1 (w : World) (T : ByteArray) (r : Res) : Prop := ∀ W : World, Below w.heap.size w W → Calls Tryd.prog 7 #[.string T] W fun e w' =>
  ∃ o c, e = .returned (.tuple #[.slice o r.1.length c, .int .i64 (r.2.1 : Int), .int .i64 (r.2.2.1 : Int), .int .i64 (r.2.2.2 : Int)]) ∧ w'.ownsRow W.heap.size 29 4 (.slice o r.1.length c) r.1.length (tcels r.1) ∧ Below W.heap.size W w' ∧ Below w.heap.size w w'
theorem sa1 {w : World} (hv1 : SH w) (hv4 : SG w) (hv5 : VW w) (l : List UInt8) (hl : l.length ≤ 16384) : SA1 w ⟨l.toArray⟩ (scanM l) := fun W hW => by
  have h := scan_any l W (by omega) (hv1.below hW) (hv4.below hW) (FOK_of (hv5.below hW))
  refine h.mono ?_
  rintro e w' ⟨v, h1, h2, h3⟩
  obtain ⟨o, c, rfl⟩ := own_slice h2
  exact ⟨o, c, h1, h2, h3, bel0 hW h3⟩
set_option maxRecDepth 100000 in
set_option maxHeartbeats 2000000 in
theorem joins_err (a b : List UInt8) (w : World) (hv1 : SH w) (hv4 : SG w) (hv5 : VW w) (hl : a.length + b.length + 1 ≤ 16384) (he : (scanM a).2.1 ≠ 0) :
    Calls Tryd.prog 3 #[.string ⟨a.toArray⟩, .string ⟨b.toArray⟩] w fun e w' => e = .returned (.bool true) ∧ Below w.heap.size w w' := by
  have hj : scanM (a ++ [10] ++ b) = scanM a := (scan_joins a b hl).trans (if_pos he)
  have hn := (scan_done a (by omega)).2 he
  obtain ⟨p, q, hA⟩ := scan_a
  have S1 := sa1 hv1 hv4 hv5 (a ++ [10] ++ b) (by simp; omega)
  have S2 := sa1 hv1 hv4 hv5 a (by omega)
  have S3 := sa1 hv1 hv4 hv5 b (by omega)
  have S4 := sa1 hv1 hv4 hv5 [97] (by decide)
  have S5 : ∀ W : World, Below w.heap.size w W → Calls Tryd.prog 8 #[.string ⟨a.toArray⟩] W fun e w' => e = .returned (.int .i64 (nls a : Int)) ∧ Below w.heap.size w w' := fun W hW => (lines_any a W (by omega)).mono (fun e w' h => ⟨h.1, bel0 hW h.2⟩)
  have hnl := nls_le a
  rw [hj] at S1
  rw [hA] at S4
  obtain ⟨rA, hrA⟩ : ∃ r, scanM a = r := ⟨_, rfl⟩
  obtain ⟨rB, hrB⟩ : ∃ r, scanM b = r := ⟨_, rfl⟩
  rw [hrA] at S1 S2 he hn
  rw [hrB] at S3
  obtain ⟨LA, e1, e2, e3⟩ := rA
  obtain ⟨LB, f1, f2, f3⟩ := rB
  simp only at hn he
  subst hn
  obtain ⟨T, hT⟩ : ∃ T : ByteArray, (ByteArray.mk a.toArray ++ ByteArray.mk #[10] ++ ByteArray.mk b.toArray) = T := ⟨_, rfl⟩
  rw [← cat10, hT] at S1
  replace S1 : Hid (SA1 w T ([], e1, e2, e3)) := S1
  replace S2 : Hid (SA1 w ⟨a.toArray⟩ ([], e1, e2, e3)) := S2
  replace S3 : Hid (SA1 w ⟨b.toArray⟩ (LB, f1, f2, f3)) := S3
  replace S4 : Hid (SA1 w ⟨#[97]⟩ ([(2, [97], p), (1, [10], q)], 0, 0, 0)) := S4
  obtain ⟨d, hd⟩ : ∃ d, nls a = d := ⟨_, rfl⟩
  rw [hd] at S5 hnl
  replace S5 : Hid (∀ W : World, Below w.heap.size w W → Calls Tryd.prog 8 #[.string ⟨a.toArray⟩] W fun e w' => e = .returned (.int .i64 (d : Int)) ∧ Below w.heap.size w w') := S5
  have i1 : ¬ (16384 : Int) < (a.length : Int) + (b.length : Int) + 1 := by omega
  have i2 : ((e1 : Int) == 0) = false := by simp; omega
  clear hv1 hv4 hv5 hj hA hrA hrB hd
  go_enter Tryd.func3, Tryd.ntmps3
  go_wp2_with fail
  refine (S1.out _ (Below.refl _ _)).mono ?_
  rintro e W1 ⟨o1, c1, rfl, -, -, hb1⟩
  go_wp2_with fail
  refine (S2.out _ hb1).mono ?_
  rintro e W2 ⟨o2, c2, rfl, -, -, hb2⟩
  go_wp2_with fail
  refine (S3.out _ hb2).mono ?_
  rintro e W3 ⟨o3, c3, rfl, -, -, hb3⟩
  go_wp2_with fail
  refine (S5.out _ hb3).mono ?_
  rintro e W4 ⟨rfl, hb4⟩
  go_wp2_with fail
  refine (S4.out _ hb4).mono ?_
  rintro e W5 ⟨o5, c5, rfl, -, -, hb5⟩
  go_wp2_with fail
  go_ret
  exact ⟨rfl, hb5⟩
end Go.Proofs.YtialcphfaleedaaDoor
namespace Go.Proofs.YtialcphfaleedaaDoor
open Go.RowKit Go.Shelf
theorem endT_lines {D : List Tok} {line col M : Nat} (hD : ∀ t ∈ D, t.2.2.1 ≤ M) (hl : line ≤ M) : ∀ t ∈ endT D line col, t.2.2.1 ≤ M := by
  unfold endT
  intro t ht
  cases h : D.getLast? with
  | none => simp only [h] at ht; exact hD t ht
  | some u =>
    simp only [h] at ht
    split at ht
    · exact hD t ht
    · rcases List.mem_append.1 ht with h | h
      · exact hD t h
      · rw [List.mem_singleton.1 h]; exact hl
theorem run_lines (l : List UInt8) (M : Nat) : ∀ (f j line hb : Nat) (D : List Tok), l.length - j < f → line + (l.length - j) ≤ M → (∀ t ∈ D, t.2.2.1 ≤ M) → (∀ t ∈ (runM f l j line hb D).1, t.2.2.1 ≤ M) ∧ (runM f l j line hb D).2.2.1 ≤ M
  | 0, j, line, hb, D, hf, hm, hD => by omega
  | f + 1, j, line, hb, D, hf, hm, hD => by
    have hend : ∀ e, j ≤ e → (∀ t ∈ (lendM f l e line hb D).1, t.2.2.1 ≤ M) ∧ (lendM f l e line hb D).2.2.1 ≤ M := fun e he => by
      unfold lendM
      by_cases h0 : kl l e = 0
      · rw [if_pos h0]
        exact ⟨endT_lines hD (by omega), Nat.zero_le _⟩
      · have hlt : e < l.length := Classical.byContradiction (fun h => h0 (kl0.2 h))
        rw [if_neg h0]
        exact run_lines l M f _ _ _ _ (by omega) (by omega) (endT_lines hD (by omega))
    by_cases h10 : kl l j = 1 ∨ kl l j = 0
    · rw [runM_end h10]
      exact hend j (Nat.le_refl _)
    have h1 : kl l j ≠ 1 := fun e => h10 (.inl e)
    have h0 : kl l j ≠ 0 := fun e => h10 (.inr e)
    have hj : j < l.length := Classical.byContradiction (fun e => h0 (kl0.2 e))
    by_cases h2 : kl l j = 2
    · rw [runM_blank h2]
      exact run_lines l M f _ _ _ _ (by omega) (by omega) hD
    by_cases h8 : kl l j = 8
    · rw [runM_hash h8]
      have := cend_ge (l := l) _ (j + 1) (Nat.le_refl _)
      exact hend _ (by omega)
    by_cases he : tokE l j = 0
    · obtain ⟨a1, a2⟩ := tok_adv hj h1 he
      rw [runM_tok h2 h8 h1 h0 he]
      refine run_lines l M f _ _ _ _ (by omega) (by omega) (fun t ht => ?_)
      rcases List.mem_append.1 ht with h | h
      · exact hD t h
      · rw [List.mem_singleton.1 h]
        show line ≤ M
        omega
    · rw [runM_err h2 h8 h1 h0 he]
      exact ⟨fun t ht => by simp at ht, by show line ≤ M; omega⟩
theorem scan_lines (l : List UInt8) (h : l.length ≤ 16384) : (∀ t ∈ (scanM l).1, t.2.2.1 ≤ 16385) ∧ (scanM l).2.2.1 ≤ 16385 := by
  unfold scanM
  rw [if_neg (by omega)]
  exact run_lines l 16385 (l.length + 1) 0 1 0 [] (by omega) (by omega) (fun t ht => by simp at ht)
set_option maxRecDepth 100000 in
set_option maxHeartbeats 2000000 in
theorem joins_err2 (a b : List UInt8) (w : World) (hv1 : SH w) (hv4 : SG w) (hv5 : VW w) (hl : a.length + b.length + 1 ≤ 16384) (ha : (scanM a).2.1 = 0) (he : (scanM b).2.1 ≠ 0) :
    Calls Tryd.prog 3 #[.string ⟨a.toArray⟩, .string ⟨b.toArray⟩] w fun e w' => e = .returned (.bool true) ∧ Below w.heap.size w w' := by
  have hj : scanM (a ++ [10] ++ b) = ((scanM b).1, (scanM b).2.1, (scanM b).2.2.1 + (nls a + 1), (scanM b).2.2.2) := by
    rw [scan_joins a b hl, if_neg (fun h => h ha)]
    exact if_pos he
  have h0 := (scan_done a (by omega)).1 ha
  have hn := (scan_done b (by omega)).2 he
  have hln := (scan_lines b (by omega)).2
  obtain ⟨p, q, hA⟩ := scan_a
  have S1 := sa1 hv1 hv4 hv5 (a ++ [10] ++ b) (by simp; omega)
  have S2 := sa1 hv1 hv4 hv5 a (by omega)
  have S3 := sa1 hv1 hv4 hv5 b (by omega)
  have S4 := sa1 hv1 hv4 hv5 [97] (by decide)
  have S5 : ∀ W : World, Below w.heap.size w W → Calls Tryd.prog 8 #[.string ⟨a.toArray⟩] W fun e w' => e = .returned (.int .i64 (nls a : Int)) ∧ Below w.heap.size w w' := fun W hW => (lines_any a W (by omega)).mono (fun e w' h => ⟨h.1, bel0 hW h.2⟩)
  have hnl := nls_le a
  rw [hj] at S1
  rw [hA] at S4
  obtain ⟨rA, hrA⟩ : ∃ r, scanM a = r := ⟨_, rfl⟩
  obtain ⟨rB, hrB⟩ : ∃ r, scanM b = r := ⟨_, rfl⟩
  rw [hrA] at S2 h0
  rw [hrB] at S1 S3 he hn hln
  obtain ⟨LA, rA⟩ := rA
  obtain ⟨LB, f1, f2, f3⟩ := rB
  simp only at hn he hln h0
  subst hn h0
  obtain ⟨T, hT⟩ : ∃ T : ByteArray, (ByteArray.mk a.toArray ++ ByteArray.mk #[10] ++ ByteArray.mk b.toArray) = T := ⟨_, rfl⟩
  rw [← cat10, hT] at S1
  obtain ⟨d, hd⟩ : ∃ d, nls a = d := ⟨_, rfl⟩
  rw [hd] at S1 S5 hnl
  replace S1 : Hid (SA1 w T ([], f1, f2 + (d + 1), f3)) := S1
  replace S2 : Hid (SA1 w ⟨a.toArray⟩ (LA, 0, 0, 0)) := S2
  replace S3 : Hid (SA1 w ⟨b.toArray⟩ ([], f1, f2, f3)) := S3
  replace S4 : Hid (SA1 w ⟨#[97]⟩ ([(2, [97], p), (1, [10], q)], 0, 0, 0)) := S4
  replace S5 : Hid (∀ W : World, Below w.heap.size w W → Calls Tryd.prog 8 #[.string ⟨a.toArray⟩] W fun e w' => e = .returned (.int .i64 (d : Int)) ∧ Below w.heap.size w w') := S5
  have i1 : ¬ (16384 : Int) < (a.length : Int) + (b.length : Int) + 1 := by omega
  have i2 : ((f1 : Int) == 0) = false := by simp; omega
  have i3 : (((f2 + (d + 1) : Nat) : Int) == (f2 : Int) + ((d : Int) + 1)) = true := by simp
  clear hv1 hv4 hv5 hj hA hrA hrB hd
  go_enter Tryd.func3, Tryd.ntmps3
  go_wp2_with fail
  refine (S1.out _ (Below.refl _ _)).mono ?_
  rintro e W1 ⟨o1, c1, rfl, -, -, hb1⟩
  go_wp2_with fail
  refine (S2.out _ hb1).mono ?_
  rintro e W2 ⟨o2, c2, rfl, -, -, hb2⟩
  go_wp2_with fail
  refine (S3.out _ hb2).mono ?_
  rintro e W3 ⟨o3, c3, rfl, -, -, hb3⟩
  go_wp2_with fail
  refine (S5.out _ hb3).mono ?_
  rintro e W4 ⟨rfl, hb4⟩
  go_wp2_with fail
  refine (S4.out _ hb4).mono ?_
  rintro e W5 ⟨o5, c5, rfl, -, -, hb5⟩
  go_wp2_with fail
  go_ret
  exact ⟨rfl, hb5⟩
set_option maxRecDepth 100000 in
theorem joins_long (a b : List UInt8) (w : World) (h1 : a.length ≤ 281474976710656) (h2 : b.length ≤ 281474976710656) (hl : 16384 < a.length + b.length + 1) :
    Calls Tryd.prog 3 #[.string ⟨a.toArray⟩, .string ⟨b.toArray⟩] w fun e w' => e = .returned (.bool true) ∧ Below w.heap.size w w' := by
  have i1 : (16384 : Int) < (a.length : Int) + (b.length : Int) + 1 := by omega
  go_enter Tryd.func3, Tryd.ntmps3
  go_wp2_with fail
  go_ret
  exact ⟨rfl, Below.refl _ _⟩
end Go.Proofs.YtialcphfaleedaaDoor
namespace Go.Proofs.YtialcphfaleedaaDoor
open Go.RowKit Go.Shelf
theorem own_le {w : World} {B e sz n : Nat} {v : Value} {xs : List Value} (h : w.ownsRow B e sz v n xs) : n ≤ maxLen := by
  rcases h.2 with hh | ⟨g, c, cur, h1, h2, h3, h4, h5, _⟩
  · rw [hh.2]; exact Nat.zero_le _
  · exact Nat.le_trans h4 h5
theorem own_at {w : World} {B e sz n c : Nat} {o : Option Addr} {xs : List Value} (h : w.ownsRow B e sz (.slice o n c) n xs) (hn : 0 < n) : ∃ g, o = some ⟨g, 0, none⟩ := by
  obtain ⟨g, cap, e⟩ := own_form h hn
  cases e
  exact ⟨g, rfl⟩
set_option maxRecDepth 100000 in
set_option maxHeartbeats 4000000 in
theorem joins_ok (a b : List UInt8) (w : World) (hv1 : SH w) (hv4 : SG w) (hv5 : VW w) (hl : a.length + b.length + 1 ≤ 16384) (ha : (scanM a).2.1 = 0) (he : (scanM b).2.1 = 0) :
    Calls Tryd.prog 3 #[.string ⟨a.toArray⟩, .string ⟨b.toArray⟩] w fun e w' => e = .returned (.bool true) ∧ Below w.heap.size w w' := by
  have h0 := (scan_done a (by omega)).1 ha
  have hn := (scan_done b (by omega)).1 he
  have hj : scanM (a ++ [10] ++ b) = ((scanM a).1 ++ shT (nls a + 1) (scanM b).1, 0, 0, 0) := by
    rw [scan_joins a b hl, if_neg (fun h => h ha)]
    refine (if_neg (fun h => h he)).trans ?_
    rw [hn]
  have hln := (scan_lines b (by omega)).1
  obtain ⟨p, q, hA⟩ := scan_a
  have S1 := sa1 hv1 hv4 hv5 (a ++ [10] ++ b) (by simp; omega)
  have S2 := sa1 hv1 hv4 hv5 a (by omega)
  have S3 := sa1 hv1 hv4 hv5 b (by omega)
  have S4 := sa1 hv1 hv4 hv5 [97] (by decide)
  have S5 : ∀ W : World, Below w.heap.size w W → Calls Tryd.prog 8 #[.string ⟨a.toArray⟩] W fun e w' => e = .returned (.int .i64 (nls a : Int)) ∧ Below W.heap.size W w' ∧ Below w.heap.size w w' := fun W hW => (lines_any a W (by omega)).mono (fun e w' h => ⟨h.1, h.2, bel0 hW h.2⟩)
  have hnl := nls_le a
  rw [hj] at S1
  rw [hA] at S4
  obtain ⟨rA, hrA⟩ : ∃ r, scanM a = r := ⟨_, rfl⟩
  obtain ⟨rB, hrB⟩ : ∃ r, scanM b = r := ⟨_, rfl⟩
  rw [hrA] at S1 S2 h0
  rw [hrB] at S1 S3 hn hln
  obtain ⟨LA, rA⟩ := rA
  obtain ⟨LB, rB⟩ := rB
  simp only at hn hln h0
  subst hn h0
  obtain ⟨T, hT⟩ : ∃ T : ByteArray, (ByteArray.mk a.toArray ++ ByteArray.mk #[10] ++ ByteArray.mk b.toArray) = T := ⟨_, rfl⟩
  rw [← cat10, hT] at S1
  obtain ⟨d, hd⟩ : ∃ d, nls a = d := ⟨_, rfl⟩
  rw [hd] at S1 S5 hnl
  obtain ⟨LJ, hLJ⟩ : ∃ L, LA ++ shT (d + 1) LB = L := ⟨_, rfl⟩
  have hlen : LJ.length = LA.length + LB.length := by rw [← hLJ]; simp [shT]
  have g1 : Hid (∀ k t, LA[k]? = some t → LJ[k]? = some t) := fun k t h => by
    rw [← hLJ, List.getElem?_append_left (List.getElem?_eq_some_iff.1 h).1]
    exact h
  have g2 : Hid (∀ k (t : Tok), LB[k]? = some t → LJ[LA.length + k]? = some (t.1, t.2.1, t.2.2.1 + (d + 1), t.2.2.2)) := fun k t h => by
    rw [← hLJ, List.getElem?_append_right (by omega), Nat.add_sub_cancel_left]
    unfold shT
    rw [List.getElem?_map, h]
    rfl
  have g3 : Hid (∀ k (t : Tok), LB[k]? = some t → t.2.2.1 ≤ 16385) := fun k t h => hln t (List.mem_of_getElem? h)
  simp only [hLJ] at S1
  replace S1 : Hid (SA1 w T (LJ, 0, 0, 0)) := S1
  replace S2 : Hid (SA1 w ⟨a.toArray⟩ (LA, 0, 0, 0)) := S2
  replace S3 : Hid (SA1 w ⟨b.toArray⟩ (LB, 0, 0, 0)) := S3
  replace S4 : Hid (SA1 w ⟨#[97]⟩ ([(2, [97], p), (1, [10], q)], 0, 0, 0)) := S4
  replace S5 : Hid (∀ W : World, Below w.heap.size w W → Calls Tryd.prog 8 #[.string ⟨a.toArray⟩] W fun e w' => e = .returned (.int .i64 (d : Int)) ∧ Below W.heap.size W w' ∧ Below w.heap.size w w') := S5
  have i1 : ¬ (16384 : Int) < (a.length : Int) + (b.length : Int) + 1 := by omega
  have i3 : ((LJ.length : Int) == (LA.length : Int) + (LB.length : Int)) = true := by simp; omega
  clear hv1 hv4 hv5 hj hA hrA hrB hd hln hLJ ha he
  go_enter Tryd.func3, Tryd.ntmps3
  go_wp2_with fail
  refine (S1.out _ (Below.refl _ _)).mono ?_
  rintro e W1 ⟨o1, c1, rfl, w1, -, hb1⟩
  replace w1 := (show Hid _ from w1)
  go_wp2_with fail
  refine (S2.out _ hb1).mono ?_
  rintro e W2 ⟨o2, c2, rfl, w2, l2, hb2⟩
  replace w2 := (show Hid _ from w2)
  replace l2 := (show Hid _ from l2)
  go_wp2_with fail
  refine (S3.out _ hb2).mono ?_
  rintro e W3 ⟨o3, c3, rfl, w3, l3, hb3⟩
  replace w3 := (show Hid _ from w3)
  replace l3 := (show Hid _ from l3)
  go_wp2_with fail
  refine (S5.out _ hb3).mono ?_
  rintro e W4 ⟨rfl, l4, hb4⟩
  replace l4 := (show Hid _ from l4)
  go_wp2_with fail
  refine (S4.out _ hb4).mono ?_
  rintro e W5 ⟨o5, c5, rfl, -, l5, hb5⟩
  have m1 : LA.length ≤ maxLen := own_le w2.out
  have m2 : LB.length ≤ maxLen := own_le w3.out
  have m3 : LJ.length ≤ maxLen := own_le w1.out
  have x1 : Hid (W5.ownsRow w.heap.size 29 4 (.slice o1 LJ.length c1) LJ.length (tcels LJ)) := owns_below (owns_below (owns_below (owns_below w1.out l2.out) l3.out) l4.out) l5
  have x2 : Hid (W5.ownsRow W1.heap.size 29 4 (.slice o2 LA.length c2) LA.length (tcels LA)) := owns_below (owns_below (owns_below w2.out l3.out) l4.out) l5
  have x3 : Hid (W5.ownsRow W2.heap.size 29 4 (.slice o3 LB.length c3) LB.length (tcels LB)) := owns_below (owns_below w3.out l4.out) l5
  unfold maxLen at m1 m2 m3
  clear w1 w2 w3 l2 l3 l4 l5 hb1 hb2 hb3 hb4 S1 S2 S3 S4 S5
  go_wp2_with fail
  go_loopw [22] (fun i wr => ∃ k : Nat, k ≤ LA.length ∧ i = .int .i64 k ∧ Below W5.heap.size W5 wr) (fun i _ => LA.length - (intOf i).toNat)
  case atStart => exact ⟨0, Nat.zero_le _, rfl, Below.refl _ _⟩
  case round =>
    obtain ⟨k, hk, rfl, hB⟩ := hrel
    by_cases hlt : k < LA.length
    · have j1 : (k : Int) < (LA.length : Int) := by omega
      have j2 : (k : Int) < (LA.length : Int) + (LB.length : Int) := by omega
      have j0 : (0 : Int) ≤ (k : Int) := by omega
      obtain ⟨G1, rfl⟩ := own_at x1.out (by omega)
      obtain ⟨G2, rfl⟩ := own_at x2.out (by omega)
      obtain ⟨t, ht⟩ : ∃ t, LA[k]? = some t := ⟨_, List.getElem?_eq_getElem hlt⟩
      have X1 : Hid (∀ W, Below W5.heap.size W5 W → W.cell? ⟨G1, k * 4, none⟩ = some (.int .i64 (t.1 : Int)) ∧ W.cell? ⟨G1, k * 4 + 1, none⟩ = some (.string ⟨t.2.1.toArray⟩) ∧ W.cell? ⟨G1, k * 4 + 2, none⟩ = some (.int .i64 (t.2.2.1 : Int)) ∧ W.cell? ⟨G1, k * 4 + 3, none⟩ = some (.int .i64 (t.2.2.2 : Int))) := fun W hW => tok_cell (owns_below x1.out hW) (g1.out k t ht)
      have X2 : Hid (∀ W, Below W5.heap.size W5 W → W.cell? ⟨G2, k * 4, none⟩ = some (.int .i64 (t.1 : Int)) ∧ W.cell? ⟨G2, k * 4 + 1, none⟩ = some (.string ⟨t.2.1.toArray⟩) ∧ W.cell? ⟨G2, k * 4 + 2, none⟩ = some (.int .i64 (t.2.2.1 : Int)) ∧ W.cell? ⟨G2, k * 4 + 3, none⟩ = some (.int .i64 (t.2.2.2 : Int))) := fun W hW => tok_cell (owns_below x2.out hW) ht
      clear x1 x2 x3 g1 g2 g3 hlen i3
      go_wp2_with fail
      refine quiet_lit3 (C := fun W => Below W5.heap.size W5 W) (by kernel_rfl) (by kernel_rfl) (show Below _ _ _ from hB.drew) ?_
      go_big_quiet_want
      go_big_quiet_op
      go_big_quiet_on
      go_big_quiet_want
      go_big_quiet_op
      go_big_quiet_on
      go_big_quiet_want
      refine ⟨.pointer (some ⟨G1, k * 4, none⟩), fun W hW => ?_, ?_⟩
      · go_simp
      go_big_quiet_on
      simp only [Act.put, List.setIfInBounds_toArray, List.set_cons_zero, List.set_cons_succ]
      go_big_quiet_want
      refine ⟨tagg t, fun W hW => ?_, ?_⟩
      · obtain ⟨p0, p1, p2, p3⟩ := X1.out W hW
        go_simp
        rfl
      go_big_quiet_on
      simp only [Act.put, List.setIfInBounds_toArray, List.set_cons_zero, List.set_cons_succ]
      go_big_quiet_want
      go_big_quiet_op
      go_big_quiet_on
      go_big_quiet_want
      go_big_quiet_op
      go_big_quiet_on
      go_big_quiet_want
      refine ⟨.pointer (some ⟨G2, k * 4, none⟩), fun W hW => ?_, ?_⟩
      · go_simp
      go_big_quiet_on
      simp only [Act.put, List.setIfInBounds_toArray, List.set_cons_zero, List.set_cons_succ]
      go_big_quiet_want
      refine ⟨tagg t, fun W hW => ?_, ?_⟩
      · obtain ⟨p0, p1, p2, p3⟩ := X2.out W hW
        go_simp
        rfl
      go_big_quiet_on
      simp only [Act.put, List.setIfInBounds_toArray, List.set_cons_zero, List.set_cons_succ]
      go_big_quiet_want
      refine ⟨.bool true, fun W hW => ?_, ?_⟩
      · go_simp
        refine (same_any t W).mono ?_
        rintro e w7 ⟨rfl, hb⟩
        exact ⟨rfl, bel0 hW hb⟩
      go_big_quiet_on
      simp only [Act.put, List.setIfInBounds_toArray, List.set_cons_zero, List.set_cons_succ]
      go_big_quiet_want
      refine ⟨.bool false, fun W hW => ?_, ?_⟩
      · go_simp
      go_big_quiet_on
      simp only [Act.put, List.setIfInBounds_toArray, List.set_cons_zero, List.set_cons_succ]
      refine wpQuiet_nil ?_
      intro W hW
      go_wp2_with fail
      go_roundw
      case rel => exact ⟨k + 1, by omega, by go_num, hW⟩
      case measure => simp [intOf]; omega
    · have j1 : ¬ (k : Int) < (LA.length : Int) := by omega
      rename World => wq
      have x1' : Hid (wq.ownsRow w.heap.size 29 4 (.slice o1 LJ.length c1) LJ.length (tcels LJ)) := owns_below x1.out hB
      have x3' : Hid (wq.ownsRow W2.heap.size 29 4 (.slice o3 LB.length c3) LB.length (tcels LB)) := owns_below x3.out hB
      have hb0 : Hid (Below w.heap.size w wq) := bel0 hb5 hB
      clear x1 x2 x3 g1 hB hb5 hlt hk
      have HL : Hid (LJ.length = LA.length + LB.length) := hlen
      clear hlen i3
      go_wp2_with fail
      clear j1
      go_loopw [23] (fun i wr => ∃ k : Nat, k ≤ LB.length ∧ i = .int .i64 k ∧ Below wq.heap.size wq wr) (fun i _ => LB.length - (intOf i).toNat)
      case atStart => exact ⟨0, Nat.zero_le _, rfl, Below.refl _ _⟩
      case round =>
        obtain ⟨k, hk, rfl, hB⟩ := hrel
        by_cases hlt : k < LB.length
        · have j1 : (k : Int) < (LB.length : Int) := by omega
          have j2 : (LA.length : Int) + (k : Int) < (LJ.length : Int) := by have := HL.out; omega
          have j0 : (0 : Int) ≤ (k : Int) := by omega
          have j3 : (0 : Int) ≤ (LA.length : Int) + (k : Int) := by omega
          obtain ⟨G1, rfl⟩ := own_at x1'.out (by omega)
          obtain ⟨G3, rfl⟩ := own_at x3'.out (by omega)
          obtain ⟨t, ht⟩ : ∃ t, LB[k]? = some t := ⟨_, List.getElem?_eq_getElem hlt⟩
          obtain ⟨p0, p1, p2, p3⟩ := tok_cell (owns_below x3'.out hB) ht
          have h3 := g3.out k t ht
          have h3' : (t.2.2.1 : Int) ≤ 16385 := by omega
          have hd' : (d : Int) ≤ 16384 := by omega
          have j4 : (LA.length : Int) + (k : Int) < (LA.length : Int) + (LB.length : Int) := by omega
          obtain ⟨O, hO⟩ : ∃ O : Obj, Obj.cells #[.int .i64 (t.1 : Int), .string ⟨t.2.1.toArray⟩, .int .i64 ((t.2.2.1 : Int) + ((d : Int) + 1)), .int .i64 (t.2.2.2 : Int)] 29 = O := ⟨_, rfl⟩
          obtain ⟨u, hu⟩ : ∃ u : Tok, u = (t.1, t.2.1, t.2.2.1 + (d + 1), t.2.2.2) := ⟨_, rfl⟩
          have HWR : Hid (IntKind.i64.wrap ((LA.length : Int) + (k : Int)) = (LA.length : Int) + (k : Int)) := by unfold Hid; rw [IntKind.wrap_i64]; omega
          have X1 : Hid (∀ W, Below (wr.alloc O).heap.size (wr.alloc O) W → W.cell? ⟨G1, (LA.length + k) * 4, none⟩ = some (.int .i64 (u.1 : Int)) ∧ W.cell? ⟨G1, (LA.length + k) * 4 + 1, none⟩ = some (.string ⟨u.2.1.toArray⟩) ∧ W.cell? ⟨G1, (LA.length + k) * 4 + 2, none⟩ = some (.int .i64 (u.2.2.1 : Int)) ∧ W.cell? ⟨G1, (LA.length + k) * 4 + 3, none⟩ = some (.int .i64 (u.2.2.2 : Int))) := fun W hW => tok_cell (owns_below (owns_below x1'.out hB) (bel1 hW)) (by rw [hu]; exact g2.out k t ht)
          have X2 : Hid (∀ W, Below (wr.alloc O).heap.size (wr.alloc O) W → W.cell? ⟨wr.heap.size, 0, none⟩ = some (.int .i64 (u.1 : Int)) ∧ W.cell? ⟨wr.heap.size, 1, none⟩ = some (.string ⟨u.2.1.toArray⟩) ∧ W.cell? ⟨wr.heap.size, 2, none⟩ = some (.int .i64 (u.2.2.1 : Int)) ∧ W.cell? ⟨wr.heap.size, 3, none⟩ = some (.int .i64 (u.2.2.2 : Int))) := fun W hW => by
            have hc : ∀ m, W.cell? ⟨wr.heap.size, m, none⟩ = (wr.alloc O).cell? ⟨wr.heap.size, m, none⟩ := fun m => hW.cell (by simp)
            rw [hc, hc, hc, hc, ← hO, cells_new, cells_new, cells_new, cells_new, hu]
            refine ⟨rfl, rfl, ?_, rfl⟩
            exact congrArg some (congrArg (Value.int .i64) (show (t.2.2.1 : Int) + ((d : Int) + 1) = ((t.2.2.1 + (d + 1) : Nat) : Int) by omega))
          have hO' : Hid (Obj.cells #[.int .i64 (t.1 : Int), .string ⟨t.2.1.toArray⟩, .int .i64 ((t.2.2.1 : Int) + ((d : Int) + 1)), .int .i64 (t.2.2.2 : Int)] 29 = O) := hO
          clear hu hO
          go_wp2_with fail
          rw [hO'.out]
          clear p0 p1 p2 p3 x1' x3' g2 g3 hO'
          refine quiet_lit3 (C := fun W => Below (wr.alloc O).heap.size (wr.alloc O) W) (by kernel_rfl) (by kernel_rfl) (show Below _ _ _ from (Below.refl _ _).drew) ?_
          go_big_quiet_want
          go_big_quiet_op
          go_big_quiet_on
          go_big_quiet_want
          go_big_quiet_op
          go_big_quiet_on
          go_big_quiet_want
          refine ⟨.int .i64 ((LA.length : Nat) : Int), fun W hW => ?_, ?_⟩
          · go_simp
          go_big_quiet_on
          simp only [Act.put, List.setIfInBounds_toArray, List.set_cons_zero, List.set_cons_succ]
          go_big_quiet_want
          go_big_quiet_op
          go_big_quiet_on
          go_big_quiet_want
          refine ⟨.int .i64 ((LA.length : Int) + (k : Int)), fun W hW => ?_, ?_⟩
          · have hwr := HWR.out
            go_simp
          go_big_quiet_on
          simp only [Act.put, List.setIfInBounds_toArray, List.set_cons_zero, List.set_cons_succ]
          go_big_quiet_want
          refine ⟨.pointer (some ⟨G1, (LA.length + k) * 4, none⟩), fun W hW => ?_, ?_⟩
          · have e4 : ((LA.length : Int) + (k : Int)).toNat = LA.length + k := by omega
            go_simp
          go_big_quiet_on
          simp only [Act.put, List.setIfInBounds_toArray, List.set_cons_zero, List.set_cons_succ]
          go_big_quiet_want
          refine ⟨tagg u, fun W hW => ?_, ?_⟩
          · obtain ⟨p0, p1, p2, p3⟩ := X1.out W hW
            go_simp
            rfl
          go_big_quiet_on
          simp only [Act.put, List.setIfInBounds_toArray, List.set_cons_zero, List.set_cons_succ]
          go_big_quiet_want
          refine ⟨tagg u, fun W hW => ?_, ?_⟩
          · obtain ⟨p0, p1, p2, p3⟩ := X2.out W hW
            go_simp
            rfl
          go_big_quiet_on
          simp only [Act.put, List.setIfInBounds_toArray, List.set_cons_zero, List.set_cons_succ]
          go_big_quiet_want
          refine ⟨.bool true, fun W hW => ?_, ?_⟩
          · go_simp
            refine (same_any u W).mono ?_
            rintro e w7 ⟨rfl, hb⟩
            exact ⟨rfl, by have := bel0 hW hb; simpa using this⟩
          go_big_quiet_on
          simp only [Act.put, List.setIfInBounds_toArray, List.set_cons_zero, List.set_cons_succ]
          go_big_quiet_want
          refine ⟨.bool false, fun W hW => ?_, ?_⟩
          · go_simp
          go_big_quiet_on
          simp only [Act.put, List.setIfInBounds_toArray, List.set_cons_zero, List.set_cons_succ]
          refine wpQuiet_nil ?_
          intro W hW
          go_wp2_with fail
          go_roundw
          case rel => exact ⟨k + 1, by omega, by go_num, bel0 hB (bel1 hW)⟩
          case measure => simp [intOf]; omega
        · have j1 : ¬ (k : Int) < (LB.length : Int) := by omega
          go_wp2_with fail
          go_ret
          exact ⟨rfl, bel0 hb0.out hB⟩
end Go.Proofs.YtialcphfaleedaaDoor
namespace Go.Proofs.YtialcphfaleedaaDoor
open Go.RowKit Go.Shelf
theorem scanJoins_all (a b : List UInt8) (w : World) (h1 : a.length ≤ 281474976710656) (h2 : b.length ≤ 281474976710656) (hv1 : SH w) (hv4 : SG w) (hv5 : VW w) :
    Calls Tryd.prog 3 #[.string ⟨a.toArray⟩, .string ⟨b.toArray⟩] w fun e w' => e = .returned (.bool true) ∧ Below w.heap.size w w' := by
  by_cases hl : a.length + b.length + 1 ≤ 16384
  · by_cases ha : (scanM a).2.1 = 0
    · by_cases hb : (scanM b).2.1 = 0
      · exact joins_ok a b w hv1 hv4 hv5 hl ha hb
      · exact joins_err2 a b w hv1 hv4 hv5 hl ha hb
    · exact joins_err a b w hv1 hv4 hv5 hl ha
  · exact joins_long a b w h1 h2 (by omega)
theorem scanJoins_walk (s t : ByteArray) (w : World) (h1 : s.size ≤ 281474976710656) (h2 : t.size ≤ 281474976710656) (hv1 : SH w) (hv4 : SG w) (hv5 : VW w) :
    Calls Tryd.prog 3 #[.string s, .string t] w fun e w' => e = .returned (.bool true) ∧ Below w.heap.size w w' := by
  obtain ⟨a, rfl⟩ : ∃ l : List UInt8, s = ⟨l.toArray⟩ := ⟨s.data.toList, by simp⟩
  obtain ⟨b, rfl⟩ : ∃ l : List UInt8, t = ⟨l.toArray⟩ := ⟨t.data.toList, by simp⟩
  have e : ∀ l : List UInt8, (ByteArray.mk l.toArray).size = l.length := fun l => by simp [ByteArray.size]
  rw [e] at h1 h2
  exact scanJoins_all a b w h1 h2 hv1 hv4 hv5
end Go.Proofs.YtialcphfaleedaaDoor

import Derived.Test.YtclgjdhobdncjaaDoorG2
import Derived.Test.YtclgjdhobdncjaaDoorCE
namespace Go.Proofs.YtclgjdhobdncjaaDoor
open Go.RowKit
theorem ins_quo (s : List UInt8) : ∀ (m i : Nat) (P : List UInt8), s.length - i ≤ m → i ≤ s.length → insS (P ++ (quoL s i ++ [34])) P.length (s.take i) = (s, (P ++ (quoL s i ++ [34])).length, 0) := by
  intro m
  induction m with
  | zero =>
    intro i P hm hi
    rw [quoL_end (by omega)]
    have h0 := bt_shift P ([] ++ [34]) 0
    rw [Nat.add_zero] at h0
    rw [insS, if_pos (by simp), h0, if_pos (by rfl), List.take_of_length_le (by omega)]
    simp
  | succ m ih =>
    intro i P hm hi
    by_cases h : i < s.length
    · have hp := dc_pos s i
      have hle := dc_le s i h
      have hst := ins_piece s i h P (quoL s (i + (dc s i).2) ++ [34]) (s.take i)
      have htk : s.take i ++ own s i = s.take (i + (dc s i).2) := by unfold own; rw [List.take_add]
      rw [htk] at hst
      have hq : quoL s i ++ [34] = pcS s i ++ (quoL s (i + (dc s i).2) ++ [34]) := by rw [quoL_lt h, List.append_assoc]
      rw [hq, hst]
      have hih := ih (i + (dc s i).2) (P ++ pcS s i) (by omega) hle
      rw [List.length_append, List.append_assoc] at hih
      exact hih
    · rw [quoL_end h]
      have h0 := bt_shift P ([] ++ [34]) 0
      rw [Nat.add_zero] at h0
      rw [insS, if_pos (by simp), h0, if_pos (by rfl), List.take_of_length_le (by omega)]
      simp
theorem quoL_len (s : List UInt8) : ∀ (m i : Nat), s.length - i ≤ m → (quoL s i).length ≤ 12 * (s.length - i) := by
  intro m
  induction m with
  | zero => intro i hm; rw [quoL_end (by omega)]; simp
  | succ m ih =>
    intro i hm
    by_cases h : i < s.length
    · have hp := dc_pos s i
      have hle := dc_le s i h
      have h1 := pcS_len s i h
      have h2 := ih (i + (dc s i).2) (by omega)
      rw [quoL_lt h, List.length_append]
      omega
    · rw [quoL_end h]; simp
/-- what a text's one form says is the text -/
theorem unq_quo (s : List UInt8) (hs : s.length ≤ 256) : unqS ([34] ++ quoL s 0 ++ [34]) = (s, 0, 0) := by
  have hl := quoL_len s _ 0 (Nat.le_refl _)
  have hi := ins_quo s _ 0 [34] (Nat.le_refl _) (Nat.zero_le _)
  rw [List.append_assoc]
  obtain ⟨Q, hQ⟩ : ∃ Q, [34] ++ (quoL s 0 ++ [34]) = Q := ⟨_, rfl⟩
  have hQl : Q.length = (quoL s 0).length + 2 := by rw [← hQ]; simp
  have hb : bt Q 0 = 34 := by rw [← hQ]; rfl
  have hne : Q ≠ [] := fun e => by rw [e] at hQl; simp at hQl
  rw [hQ] at hi ⊢
  have hi2 : insS Q 1 [] = (s, Q.length, 0) := hi
  unfold unqS
  rw [if_neg (by omega), if_neg (fun e => e.elim hne (fun e => e hb)), hi2]
  simp only
  rw [if_neg (by simp), if_neg (by omega), if_neg (by omega)]
theorem unq_len (l : List UInt8) (h : (unqS l).2.1 = 0) : (unqS l).1.length ≤ 256 := by
  revert h
  unfold unqS
  by_cases g1 : 16384 < l.length
  · rw [if_pos g1]; intro h; exact absurd h (by decide)
  rw [if_neg g1]
  by_cases g2 : l = [] ∨ bt l 0 ≠ 34
  · rw [if_pos g2]; intro h; exact absurd h (by decide)
  rw [if_neg g2]
  by_cases g3 : (insS l 1 []).2.2 ≠ 0
  · rw [if_pos g3]; intro h; exact absurd h g3
  rw [if_neg g3]
  by_cases g4 : (insS l 1 []).2.1 < l.length
  · rw [if_pos g4]; intro h; exact absurd (show 32 = 0 from h) (by decide)
  rw [if_neg g4]
  by_cases g5 : 256 < (insS l 1 []).1.length
  · rw [if_pos g5]; intro h; exact absurd h (by decide)
  rw [if_neg g5]
  intro _
  show (insS l 1 []).1.length ≤ 256
  omega
theorem unq_err (l : List UInt8) (h : (unqS l).2.1 ≠ 0) : (unqS l).1 = [] := by
  revert h
  unfold unqS
  by_cases g1 : 16384 < l.length
  · rw [if_pos g1]; intro _; rfl
  rw [if_neg g1]
  by_cases g2 : l = [] ∨ bt l 0 ≠ 34
  · rw [if_pos g2]; intro _; rfl
  rw [if_neg g2]
  by_cases g3 : (insS l 1 []).2.2 ≠ 0
  · rw [if_pos g3]; intro _; rfl
  rw [if_neg g3]
  by_cases g4 : (insS l 1 []).2.1 < l.length
  · rw [if_pos g4]; intro _; rfl
  rw [if_neg g4]
  by_cases g5 : 256 < (insS l 1 []).1.length
  · rw [if_pos g5]; intro _; rfl
  rw [if_neg g5]
  intro h
  exact absurd rfl h
theorem unq_41 : unqS [34, 92, 120, 52, 49, 34] = ([65], 0, 0) := by
  have h2 : insS [34, 92, 120, 52, 49, 34] 5 [65] = ([65], 6, 0) := by
    rw [insS, if_pos (by decide), if_pos (by decide)]
  have he : escS [34, 92, 120, 52, 49, 34] 1 = (4, [65]) := by decide
  have h1 : insS [34, 92, 120, 52, 49, 34] 1 [] = ([65], 6, 0) := by
    rw [insS, if_pos (by decide), if_neg (by decide), if_pos (by decide), he, if_neg (by decide)]
    exact h2
  unfold unqS
  rw [if_neg (by decide), if_neg (by decide), h1]
  rfl
theorem quo_A : quoS [65] = ([34, 65, 34], 0) := by
  have h1 : quoL [65] 1 = [] := quoL_end (by decide)
  have h0 : quoL [65] 0 = [65] := by
    rw [quoL_lt (by decide)]
    have hp : pcS [65] 0 = [65] := by decide
    have hd : (dc [65] 0).2 = 1 := by decide
    rw [hp, hd, h1]
    rfl
  unfold quoS
  rw [if_neg (by decide), h0]
  rfl
set_option maxRecDepth 100000 in
set_option maxHeartbeats 1000000 in
theorem scanSaysAlike_walk (s : ByteArray) (w : World) (hs : s.size ≤ 281474976710656) (hv1 : SH w) (hv2 : UN w) (hv3 : DB w) :
    Calls Tryd.prog 4 #[.string s] w fun e w' => e = .returned (.bool true) ∧ Below w.heap.size w w' := by
  have hv : Hid (SH w ∧ UN w ∧ DB w) := ⟨hv1, hv2, hv3⟩
  clear hv1 hv2 hv3
  obtain ⟨l, rfl⟩ : ∃ l : List UInt8, s = ⟨l.toArray⟩ := ⟨s.data.toList, by simp⟩
  have hl : l.length ≤ 281474976710656 := by have e : (ByteArray.mk l.toArray).size = l.length := by simp [ByteArray.size]
                                             omega
  have qc : ∀ (t : List UInt8) (W : World), t.length ≤ 281474976710656 → Below w.heap.size w W → Calls Tryd.prog 6 #[.string ⟨t.toArray⟩] W fun e w' => e = .returned (.tuple #[.string ⟨(quoS t).1.toArray⟩, .int .i64 ((quoS t).2 : Int)]) ∧ Below w.heap.size w w' := fun t W ht hW =>
    (quote_any t W ht (hv.out.1.below hW) (hv.out.2.1.below hW) (hv.out.2.2.below hW)).mono (fun e w' h => ⟨h.1, bel0 hW h.2⟩)
  have uc : ∀ (t : List UInt8) (W : World), t.length ≤ 281474976710656 → Below w.heap.size w W → Calls Tryd.prog 8 #[.string ⟨t.toArray⟩] W fun e w' => e = .returned (.tuple #[.string ⟨(unqS t).1.toArray⟩, .int .i64 ((unqS t).2.1 : Int), .int .i64 ((unqS t).2.2 : Int)]) ∧ Below w.heap.size w w' := fun t W ht hW =>
    (unquote_any t W ht (hv.out.1.below hW)).mono (fun e w' h => ⟨h.1, bel0 hW h.2⟩)
  have c1 : Hid (∀ W, Below w.heap.size w W → Calls Tryd.prog 8 #[.string ⟨#[34, 92, 120, 52, 49, 34]⟩] W fun e w' => e = .returned (.tuple #[.string ⟨#[65]⟩, .int .i64 0, .int .i64 0]) ∧ Below w.heap.size w w') := fun W hW => by
    have h := uc [34, 92, 120, 52, 49, 34] W (by decide) hW
    rw [unq_41] at h
    exact h
  have c2 : Hid (∀ W, Below w.heap.size w W → Calls Tryd.prog 6 #[.string ⟨#[65]⟩] W fun e w' => e = .returned (.tuple #[.string ⟨#[34, 65, 34]⟩, .int .i64 0]) ∧ Below w.heap.size w w') := fun W hW => by
    have h := qc [65] W (by decide) hW
    rw [quo_A] at h
    exact h
  have c3 := fun W hW => uc l W hl hW
  by_cases hE : (unqS l).2.1 = 0
  · have h256 := unq_len l hE
    rw [hE] at c3
    obtain ⟨S, hS⟩ : ∃ S, (unqS l).1 = S := ⟨_, rfl⟩
    obtain ⟨A, hA⟩ : ∃ A, (unqS l).2.2 = A := ⟨_, rfl⟩
    rw [hS] at h256
    simp only [hS, hA] at c3
    have hq : quoS S = ([34] ++ quoL S 0 ++ [34], 0) := if_neg (by omega)
    have c4 := fun W hW => qc S W (by omega) hW
    have hql := quoL_len S _ 0 (Nat.le_refl _)
    have c5 := fun W hW => uc ([34] ++ quoL S 0 ++ [34]) W (by simp; omega) hW
    rw [unq_quo S h256] at c5
    rw [hq] at c4
    simp only at c4 c5
    obtain ⟨Q, hQ⟩ : ∃ Q, [34] ++ quoL S 0 ++ [34] = Q := ⟨_, rfl⟩
    rw [hQ] at c4 c5
    have C3 : Hid (∀ W, Below w.heap.size w W → Calls Tryd.prog 8 #[.string ⟨l.toArray⟩] W fun e w' => e = .returned (.tuple #[.string ⟨S.toArray⟩, .int .i64 0, .int .i64 A]) ∧ Below w.heap.size w w') := c3
    have C4 : Hid (∀ W, Below w.heap.size w W → Calls Tryd.prog 6 #[.string ⟨S.toArray⟩] W fun e w' => e = .returned (.tuple #[.string ⟨Q.toArray⟩, .int .i64 0]) ∧ Below w.heap.size w w') := c4
    have C5 : Hid (∀ W, Below w.heap.size w W → Calls Tryd.prog 8 #[.string ⟨Q.toArray⟩] W fun e w' => e = .returned (.tuple #[.string ⟨S.toArray⟩, .int .i64 0, .int .i64 0]) ∧ Below w.heap.size w w') := c5
    clear hQ hq hS hA hE c3 c4 c5 qc uc hql h256 hs
    go_enter Tryd.func4, Tryd.ntmps4
    go_wp2_with fail
    refine (c1.out _ (Below.refl _ _)).mono ?_
    rintro e W1 ⟨rfl, hb1⟩
    go_wp2_with fail
    refine (c2.out _ hb1).mono ?_
    rintro e W2 ⟨rfl, hb2⟩
    go_wp2_with fail
    refine (C3.out _ hb2).mono ?_
    rintro e W3 ⟨rfl, hb3⟩
    go_wp2_with fail
    refine (C4.out _ hb3).mono ?_
    rintro e W4 ⟨rfl, hb4⟩
    go_wp2_with fail
    refine (C5.out _ hb4).mono ?_
    rintro e W5 ⟨rfl, hb5⟩
    go_wp2_with fail
    go_ret
    exact ⟨rfl, hb5⟩
  · have he := unq_err l hE
    obtain ⟨E, hE2⟩ : ∃ E, (unqS l).2.1 = E := ⟨_, rfl⟩
    obtain ⟨A, hA⟩ : ∃ A, (unqS l).2.2 = A := ⟨_, rfl⟩
    simp only [he, hE2, hA] at c3
    rw [hE2] at hE
    have C3 : Hid (∀ W, Below w.heap.size w W → Calls Tryd.prog 8 #[.string ⟨l.toArray⟩] W fun e w' => e = .returned (.tuple #[.string ⟨#[]⟩, .int .i64 E, .int .i64 A]) ∧ Below w.heap.size w w') := c3
    have k1 : ((E : Int) == 0) = false := by rw [beq_eq_false_iff_ne]; omega
    have k2 : ((E : Int) != 0) = true := by rw [bne, k1]; rfl
    clear hA hE2 hE he c3 qc uc hs
    go_enter Tryd.func4, Tryd.ntmps4
    go_wp2_with fail
    refine (c1.out _ (Below.refl _ _)).mono ?_
    rintro e W1 ⟨rfl, hb1⟩
    go_wp2_with fail
    refine (c2.out _ hb1).mono ?_
    rintro e W2 ⟨rfl, hb2⟩
    go_wp2_with fail
    refine (C3.out _ hb2).mono ?_
    rintro e W3 ⟨rfl, hb3⟩
    go_wp2_with fail
    go_ret
    exact ⟨rfl, hb3⟩
end Go.Proofs.YtclgjdhobdncjaaDoor

import Derived.Test.YtclgjdhobdncjaaDoorQ3
namespace Go.Proofs.YtclgjdhobdncjaaDoor
open Go.RowKit
set_option maxRecDepth 100000 in
set_option maxHeartbeats 1000000 in
theorem refSaid_any (s : List UInt8) (n : Nat) (w : World) (h1 : 1 ≤ s.length) (h4 : s.length ≤ 4) (hn : codI s (s.length - 1) = (n : Int)) :
    Calls Tryd.prog 14 #[.string ⟨s.toArray⟩] w fun e w' => e = .returned (.string ⟨(saiS s n).toArray⟩) ∧ Below w.heap.size w w' := by
  have hnm := codI_small s n hn h1 h4
  have HC := fun W => refCode_any s W h1 h4
  rw [hn] at HC
  clear hn
  by_cases g34 : s = [34]
  · have hr : Hid (saiS s n = [92, 34]) := by unfold Hid saiS; rw [if_pos g34]
    rw [hr.out]
    subst g34
    clear HC
    go_enter Tryd.func14, Tryd.ntmps14
    go_wp2_with fail
    go_ret
    exact ⟨rfl, Below.refl _ _⟩
  by_cases g92 : s = [92]
  · have hr : Hid (saiS s n = [92, 92]) := by unfold Hid saiS; rw [if_neg g34, if_pos g92]
    rw [hr.out]
    subst g92
    clear HC
    go_enter Tryd.func14, Tryd.ntmps14
    go_wp2_with fail
    go_ret
    exact ⟨rfl, Below.refl _ _⟩
  by_cases g10 : s = [10]
  · have hr : Hid (saiS s n = [92, 110]) := by unfold Hid saiS; rw [if_neg g34, if_neg g92, if_pos g10]
    rw [hr.out]
    subst g10
    clear HC
    go_enter Tryd.func14, Tryd.ntmps14
    go_wp2_with fail
    go_ret
    exact ⟨rfl, Below.refl _ _⟩
  by_cases g13 : s = [13]
  · have hr : Hid (saiS s n = [92, 114]) := by unfold Hid saiS; rw [if_neg g34, if_neg g92, if_neg g10, if_pos g13]
    rw [hr.out]
    subst g13
    clear HC
    go_enter Tryd.func14, Tryd.ntmps14
    go_wp2_with fail
    go_ret
    exact ⟨rfl, Below.refl _ _⟩
  by_cases g9 : s = [9]
  · have hr : Hid (saiS s n = [92, 116]) := by unfold Hid saiS; rw [if_neg g34, if_neg g92, if_neg g10, if_neg g13, if_pos g9]
    rw [hr.out]
    subst g9
    clear HC
    go_enter Tryd.func14, Tryd.ntmps14
    go_wp2_with fail
    go_ret
    exact ⟨rfl, Below.refl _ _⟩
  have hS : saiS s n = if n < 32 ∨ n = 127 then looS n else if unsN n = true then [92, 117, 123] ++ hexN n ++ [125] else s := by unfold saiS; rw [if_neg g34, if_neg g92, if_neg g10, if_neg g13, if_neg g9]
  have e34 : (s == [34]) = false := beq_eq_false_iff_ne.2 g34
  have e92 : (s == [92]) = false := beq_eq_false_iff_ne.2 g92
  have e10 : (s == [10]) = false := beq_eq_false_iff_ne.2 g10
  have e13 : (s == [13]) = false := beq_eq_false_iff_ne.2 g13
  have e9 : (s == [9]) = false := beq_eq_false_iff_ne.2 g9
  clear g34 g92 g10 g13 g9
  by_cases b1 : n < 32 ∨ n = 127
  · rw [if_pos b1] at hS
    have hr : Hid (saiS s n = looS n) := hS
    rw [hr.out]
    have HL := fun W => refLoose_any n (by omega) W
    clear hS hr
    rcases b1 with b1 | b1
    · have i1 : (n : Int) < 32 := by omega
      have i8 : IntKind.u8.wrap (n : Int) = (n : Int) := by rw [IntKind.wrap_u8]; omega
      go_enter Tryd.func14, Tryd.ntmps14
      go_wp2_with fail
      refine (HC _).mono ?_
      rintro e w1 ⟨rfl, hb1⟩
      go_wp2_with fail
      refine (HL _).mono ?_
      rintro e w2 ⟨rfl, hb2⟩
      go_wp2_with fail
      go_ret
      exact ⟨rfl, bel0 hb1 hb2⟩
    · subst b1
      go_enter Tryd.func14, Tryd.ntmps14
      go_wp2_with fail
      refine (HC _).mono ?_
      rintro e w1 ⟨rfl, hb1⟩
      go_wp2_with fail
      refine (HL _).mono ?_
      rintro e w2 ⟨rfl, hb2⟩
      go_wp2_with fail
      go_ret
      exact ⟨rfl, bel0 hb1 hb2⟩
  · rw [if_neg b1] at hS
    have i1 : ¬ (n : Int) < 32 := by omega
    have i2 : ((n : Int) == 127) = false := by rw [beq_eq_false_iff_ne]; omega
    have HU := fun W => refUnseen_any n W
    by_cases b2 : unsN n = true
    · rw [if_pos b2] at hS
      rw [b2] at HU
      have HB := fun W => refBased_any n W (by omega)
      have hhl := hexN_len n
      have hr : Hid (saiS s n = [92, 117, 123] ++ hexN n ++ [125]) := hS
      rw [hr.out]
      have hcat0 : (ByteArray.mk #[92, 117, 123]) ++ (ByteArray.mk (hexN n).toArray) ++ (ByteArray.mk #[125]) = ⟨([92, 117, 123] ++ hexN n ++ [125]).toArray⟩ := by rw [← cat_bytes, ← cat_bytes]
      obtain ⟨T, hT⟩ : ∃ T, [92, 117, 123] ++ hexN n ++ [125] = T := ⟨_, rfl⟩
      rw [hT] at hcat0 ⊢
      have hcat : Hid ((ByteArray.mk #[92, 117, 123]) ++ (ByteArray.mk (hexN n).toArray) ++ (ByteArray.mk #[125]) = ⟨T.toArray⟩) := hcat0
      clear hS hr b2 hcat0 hT
      go_enter Tryd.func14, Tryd.ntmps14
      go_wp2_with fail
      refine (HC _).mono ?_
      rintro e w1 ⟨rfl, hb1⟩
      go_wp2_with fail
      refine (HU _).mono ?_
      rintro e w2 ⟨rfl, hb2⟩
      go_wp2_with fail
      refine (HB _).mono ?_
      rintro e w3 ⟨rfl, hb3⟩
      go_wp2_with fail
      go_ret
      exact ⟨congrArg (fun x => Ending.returned (Value.string x)) hcat.out, bel0 (bel0 hb1 hb2) hb3⟩
    · rw [if_neg b2] at hS
      have b3 : unsN n = false := by simpa using b2
      rw [b3] at HU
      have hr : Hid (saiS s n = s) := hS
      rw [hr.out]
      clear hS hr b2 b3
      go_enter Tryd.func14, Tryd.ntmps14
      go_wp2_with fail
      refine (HC _).mono ?_
      rintro e w1 ⟨rfl, hb1⟩
      go_wp2_with fail
      refine (HU _).mono ?_
      rintro e w2 ⟨rfl, hb2⟩
      go_wp2_with fail
      go_ret
      exact ⟨rfl, bel0 hb1 hb2⟩
/-- how the character at a place is told -/
def pcS (l : List UInt8) (i : Nat) : List UInt8 := if lo1 l i = true then looS (bt l i) else saiS (own l i) (dc l i).1
def quoL (l : List UInt8) (i : Nat) : List UInt8 := if i < l.length then pcS l i ++ quoL l (i + (dc l i).2) else []
termination_by l.length - i
decreasing_by
  have := dc_pos l i
  omega
theorem quoL_lt {l : List UInt8} {i : Nat} (h : i < l.length) : quoL l i = pcS l i ++ quoL l (i + (dc l i).2) := by rw [quoL, if_pos h]
theorem quoL_end {l : List UInt8} {i : Nat} (h : ¬ i < l.length) : quoL l i = [] := by rw [quoL, if_neg h]
/-- what Quote answers -/
def quoS (l : List UInt8) : List UInt8 × Nat := if 256 < l.length then ([], 37) else ([34] ++ quoL l 0 ++ [34], 0)
end Go.Proofs.YtclgjdhobdncjaaDoor

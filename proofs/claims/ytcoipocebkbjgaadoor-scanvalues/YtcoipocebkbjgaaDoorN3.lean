import Derived.Test.YtcoipocebkbjgaaDoorN2
import Derived.Deep.RegionWith
import Derived.Deep.DeepCutAuto
namespace Go.Proofs.YtcoipocebkbjgaaDoor
open Go.RowKit
theorem cat7 (a b c d : List UInt8) : ByteArray.mk a.toArray ++ ByteArray.mk #[46] ++ ByteArray.mk b.toArray ++ ByteArray.mk #[46] ++ ByteArray.mk c.toArray ++ ByteArray.mk #[46] ++ ByteArray.mk d.toArray = ⟨(a ++ [46] ++ b ++ [46] ++ c ++ [46] ++ d).toArray⟩ := ByteArray.ext (by simp)
def quadL (n : Nat) : List UInt8 := Lib.decDigits (n / 16777216) ++ [46] ++ Lib.decDigits (n / 65536 % 256) ++ [46] ++ Lib.decDigits (n / 256 % 256) ++ [46] ++ Lib.decDigits (n % 256)
def numL (v : Int) (d : Bool) : List UInt8 := if v < 0 ∨ 4294967295 < v then [] else if d then quadL v.toNat else Lib.decDigits v.toNat
def numE (v : Int) : Int := if v < 0 ∨ 4294967295 < v then 31 else 0
set_option maxRecDepth 100000 in
theorem refNumber_any (v : Int) (d : Bool) (w : World) :
    Calls Tryd.prog 10 #[.int .i64 v, .bool d] w fun e w' => e = .returned (.tuple #[.string ⟨(numL v d).toArray⟩, .int .i64 (numE v)]) ∧ Below w.heap.size w w' := by
  by_cases h : v < 0 ∨ 4294967295 < v
  · have e1 : numL v d = [] := if_pos h
    have e2 : numE v = 31 := if_pos h
    rw [e1, e2]
    go_enter Tryd.func10, Tryd.ntmps10
    rcases h with h | h
    · go_wp2
      go_ret2
      exact ⟨rfl, Below.refl _ _⟩
    · have h0 : ¬ v < 0 := by omega
      go_wp2
      go_ret2
      exact ⟨rfl, Below.refl _ _⟩
  · obtain ⟨n, rfl⟩ : ∃ n : Nat, v = n := ⟨v.toNat, by omega⟩
    have e2 : numE n = 0 := if_neg h
    have h0 : ¬ (n : Int) < 0 := by omega
    have h1 : ¬ (4294967295 : Int) < (n : Int) := by omega
    have hc : Hid (∀ (m : Nat) W, m ≤ n → Below w.heap.size w W → Calls Tryd.prog 21 #[.int .i64 (m : Int)] W fun e w' => e = .returned (.string ⟨(Lib.decDigits m).toArray⟩) ∧ Below w.heap.size w w') := fun m W hm hW => (plain_any m W (by omega)).mono (fun e w' h => ⟨h.1, bel0 hW h.2⟩)
    cases d
    · have e1 : numL n false = Lib.decDigits n := by unfold numL; rw [if_neg h]; simp
      rw [e1, e2]
      go_enter Tryd.func10, Tryd.ntmps10
      go_wp2_with fail
      refine (hc.out n _ (Nat.le_refl _) (by first | exact Below.refl _ _ | exact (Below.refl _ _).drew)).mono ?_
      rintro e W1 ⟨rfl, hb⟩
      go_wp2
      go_ret2
      exact ⟨rfl, hb⟩
    · have e1 : numL n true = quadL n := by unfold numL; rw [if_neg h]; simp
      have eq : quadL n = Lib.decDigits (n / 16777216) ++ [46] ++ Lib.decDigits (n / 65536 % 256) ++ [46] ++ Lib.decDigits (n / 256 % 256) ++ [46] ++ Lib.decDigits (n % 256) := rfl
      obtain ⟨A, hA⟩ : ∃ A, Lib.decDigits (n / 16777216) = A := ⟨_, rfl⟩
      have lA : A.length ≤ 4294967296 := by have := dec_len (n / 16777216); rw [hA] at this; omega
      have cA : Hid (∀ W, Below w.heap.size w W → Calls Tryd.prog 21 #[.int .i64 ((n : Int) / 16777216)] W fun e w' => e = .returned (.string ⟨A.toArray⟩) ∧ Below w.heap.size w w') := fun W hW => by
        have e : ((n : Int) / 16777216) = ((n / 16777216 : Nat) : Int) := by omega
        rw [e, ← hA]
        exact hc.out _ W (by omega) hW
      obtain ⟨B, hB⟩ : ∃ B, Lib.decDigits (n / 65536 % 256) = B := ⟨_, rfl⟩
      have lB : B.length ≤ 4294967296 := by have := dec_len (n / 65536 % 256); rw [hB] at this; omega
      have cB : Hid (∀ W, Below w.heap.size w W → Calls Tryd.prog 21 #[.int .i64 ((n : Int) / 65536 % 256)] W fun e w' => e = .returned (.string ⟨B.toArray⟩) ∧ Below w.heap.size w w') := fun W hW => by
        have e : ((n : Int) / 65536 % 256) = ((n / 65536 % 256 : Nat) : Int) := by omega
        rw [e, ← hB]
        exact hc.out _ W (by omega) hW
      obtain ⟨C, hC⟩ : ∃ C, Lib.decDigits (n / 256 % 256) = C := ⟨_, rfl⟩
      have lC : C.length ≤ 4294967296 := by have := dec_len (n / 256 % 256); rw [hC] at this; omega
      have cC : Hid (∀ W, Below w.heap.size w W → Calls Tryd.prog 21 #[.int .i64 ((n : Int) / 256 % 256)] W fun e w' => e = .returned (.string ⟨C.toArray⟩) ∧ Below w.heap.size w w') := fun W hW => by
        have e : ((n : Int) / 256 % 256) = ((n / 256 % 256 : Nat) : Int) := by omega
        rw [e, ← hC]
        exact hc.out _ W (by omega) hW
      obtain ⟨D, hD⟩ : ∃ D, Lib.decDigits (n % 256) = D := ⟨_, rfl⟩
      have lD : D.length ≤ 4294967296 := by have := dec_len (n % 256); rw [hD] at this; omega
      have cD : Hid (∀ W, Below w.heap.size w W → Calls Tryd.prog 21 #[.int .i64 ((n : Int) % 256)] W fun e w' => e = .returned (.string ⟨D.toArray⟩) ∧ Below w.heap.size w w') := fun W hW => by
        have e : ((n : Int) % 256) = ((n % 256 : Nat) : Int) := by omega
        rw [e, ← hD]
        exact hc.out _ W (by omega) hW
      rw [e1, e2, eq, hA, hB, hC, hD]
      clear hA hB hC hD eq e1 e2 hc
      go_enter Tryd.func10, Tryd.ntmps10
      go_wp2_with fail
      refine (cA.out _ (Below.refl _ _)).mono ?_
      rintro e W1 ⟨rfl, hb1⟩
      go_wp2_with fail
      refine (cB.out _ hb1).mono ?_
      rintro e W2 ⟨rfl, hb2⟩
      go_wp2_with fail
      refine (cC.out _ hb2).mono ?_
      rintro e W3 ⟨rfl, hb3⟩
      go_wp2_with fail
      refine (cD.out _ hb3).mono ?_
      rintro e W4 ⟨rfl, hb4⟩
      go_wp2
      go_ret2
      exact ⟨by rw [← cat7]; rfl, hb4⟩
end Go.Proofs.YtcoipocebkbjgaaDoor

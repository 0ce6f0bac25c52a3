import Derived.Test.YtdkhdkfjadalpaaDoorH4
import Derived.Lib.UnsafeStr
import Derived.Deep.AppendLies
namespace Go.Proofs.YtdkhdkfjadalpaaDoor
open Go.RowKit Go.Shelf
theorem info_u8 : (Tryd.prog.info? 5).map (fun i => (i.zero, i.size, i.bytes)) = some (some (.int .u8 0), 1, 1) := by kernel_rfl
theorem byteCells_append (a b : List UInt8) : Lib.byteCells (a ++ b) = Lib.byteCells a ++ Lib.byteCells b := by simp [Lib.byteCells]
theorem conv_own {W : World} {B : Nat} {v : Value} (T : List UInt8) (h : W.ownsRow B 5 1 v T.length (Lib.byteCells T)) : Sem.run Tryd.prog (convert 36 9 v) W = .ok (.string ⟨T.toArray⟩) W := by
  rcases h.2 with ⟨rfl, h0⟩ | ⟨g, c, cur, rfl, _⟩
  · obtain rfl := List.length_eq_zero_iff.1 h0
    rw [run_convert_bytes_string W _ _ 5 _ _ _ Tryd.underlying36 Tryd.underlying5 Tryd.underlying9]
    rfl
  · exact run_convert_bytes_back W _ _ 5 ⟨g, 0, none⟩ c T Tryd.underlying36 Tryd.underlying5 Tryd.underlying9 (fun j hj => h.cells rfl _ _ (by simp [Lib.byteCells, List.getElem?_eq_getElem hj]))
theorem stx_len (L : List (List UInt8)) : (stx L).length = L.length := by simp [stx]
theorem own_form {w : World} {B e sz n : Nat} {v : Value} {xs : List Value} (h : w.ownsRow B e sz v n xs) (hn : 0 < n) : ∃ g cap, v = .slice (some ⟨g, 0, none⟩) n cap := by
  rcases h.2 with hh | ⟨g, c, cur, h1, h2, h3, h4⟩
  · omega
  · exact ⟨g, c, h1⟩
theorem stx_get (L : List (List UInt8)) (i : Nat) (h : i < L.length) : (stx L)[i]? = some (Value.string ⟨(L[i]).toArray⟩) := by simp [stx, List.getElem?_eq_getElem h]
theorem add0 (g m : Nat) : (⟨g, 0, none⟩ : Addr).add m = ⟨g, m, none⟩ := by unfold Addr.add; split <;> simp_all
theorem pow_pred (k : Nat) : 2 ^ k - 1 + 1 = 2 ^ k := by
  have : 0 < 2 ^ k := Nat.pow_pos (by decide)
  omega
/-- Cover's error -/
def covE (b lo hi : Int) : Nat :=
  if b < 1 ∨ 32 < b then 1
  else if ¬ (0 ≤ lo ∧ lo ≤ ((2 ^ b.toNat - 1 : Nat) : Int)) ∨ ¬ (0 ≤ hi ∧ hi ≤ ((2 ^ b.toNat - 1 : Nat) : Int)) then 42
  else if hi < lo then 43 else 0
def covL (b lo hi : Int) : List (List UInt8) := if covE b lo hi = 0 then cov b.toNat lo.toNat hi.toNat else []
def cvR (w : World) (b lo hi : Int) (e : Ending) (w' : World) : Prop := ∃ v, e = .returned (.tuple #[v, .int .i64 (covE b lo hi : Int)]) ∧ w'.ownsRow w.heap.size 9 1 v (covL b lo hi).length (stx (covL b lo hi)) ∧ Below w.heap.size w w'
theorem cvR_nil {w w' : World} {b lo hi : Int} {n : Nat} {e : Ending} (h : covE b lo hi = n) (hn : n ≠ 0) (he : e = .returned (.tuple #[.slice none 0 0, .int .i64 (n : Int)])) (hb : Below w.heap.size w w') : cvR w b lo hi e w' := by
  refine ⟨.slice none 0 0, by rw [h]; exact he, ?_, hb⟩
  have : covL b lo hi = [] := by unfold covL; rw [if_neg (by rw [h]; exact hn)]
  rw [this]
  exact World.ownsRow_nil _ _ _ _
set_option maxRecDepth 100000 in
set_option maxHeartbeats 1000000 in
theorem cover_any (b lo hi : Int) (w : World) (hdb : DB w) :
    Calls Tryd.prog 5 #[.int .i64 b, .int .i64 lo, .int .i64 hi] w fun e w' => cvR w b lo hi e w' := by
  by_cases h1 : b < 1
  · have hr : Hid (covE b lo hi = 1) := if_pos (.inl h1)
    go_enter Tryd.func5, Tryd.ntmps5
    go_wp2_with fail
    go_ret2
    exact cvR_nil hr.out (by decide) rfl (Below.refl _ _)
  · by_cases h2 : 32 < b
    · have hr : Hid (covE b lo hi = 1) := if_pos (.inr h2)
      go_enter Tryd.func5, Tryd.ntmps5
      go_wp2_with fail
      go_ret2
      exact cvR_nil hr.out (by decide) rfl (Below.refl _ _)
    · obtain ⟨n, rfl⟩ : ∃ n : Nat, b = (n : Int) := ⟨b.toNat, by omega⟩
      have HF := fun v W => fits_any v n (by omega) W
      have hE : covE (n : Int) lo hi = if ¬ (0 ≤ lo ∧ lo ≤ ((2 ^ n - 1 : Nat) : Int)) ∨ ¬ (0 ≤ hi ∧ hi ≤ ((2 ^ n - 1 : Nat) : Int)) then 42 else if hi < lo then 43 else 0 := by
        unfold covE
        rw [if_neg (by omega), Int.toNat_natCast]
      by_cases g1 : 0 ≤ lo ∧ lo ≤ ((2 ^ n - 1 : Nat) : Int)
      · have F1 := fun W => HF lo W
        rw [decide_eq_true g1] at F1
        by_cases g2 : 0 ≤ hi ∧ hi ≤ ((2 ^ n - 1 : Nat) : Int)
        · have F2 := fun W => HF hi W
          rw [decide_eq_true g2] at F2
          rw [if_neg (by rintro (h | h); exact h g1; exact h g2)] at hE
          by_cases g3 : hi < lo
          · rw [if_pos g3] at hE
            have hr : Hid (covE (n : Int) lo hi = 43) := hE
            clear hE HF g1 g2
            go_enter Tryd.func5, Tryd.ntmps5
            go_wp2_with fail
            refine (F1 _).mono ?_
            rintro e w1 ⟨rfl, rfl⟩
            go_wp2_with fail
            refine (F2 _).mono ?_
            rintro e w2 ⟨rfl, rfl⟩
            go_wp2_with fail
            go_ret2
            exact cvR_nil hr.out (by decide) rfl (Below.refl _ _)
          · rw [if_neg g3] at hE
            obtain ⟨l, rfl⟩ : ∃ l : Nat, lo = (l : Int) := ⟨lo.toNat, by omega⟩
            obtain ⟨h, rfl⟩ : ∃ h : Nat, hi = (h : Int) := ⟨hi.toNat, by omega⟩
            have hp0 : 0 < 2 ^ n := Nat.pow_pos (by decide)
            have HP := prefixes_any n l h (by omega) (by omega) (by omega) (by omega) w hdb
            have hcl : covL (n : Int) (l : Int) (h : Int) = cov n l h := by unfold covL; rw [if_pos hE]; simp
            rw [← hcl] at HP
            have hr : Hid (covE (n : Int) (l : Int) (h : Int) = 0) := hE
            clear hE HF g1 g2 hcl hp0 hdb
            go_enter Tryd.func5, Tryd.ntmps5
            go_wp2_with fail
            refine (F1 _).mono ?_
            rintro e w1 ⟨rfl, rfl⟩
            go_wp2_with fail
            refine (F2 _).mono ?_
            rintro e w2 ⟨rfl, rfl⟩
            go_wp2_with fail
            refine HP.mono ?_
            rintro e w3 ⟨v3, rfl, ho3, hb3⟩
            go_wp2_with fail
            go_ret2
            exact ⟨v3, by rw [hr.out]; rfl, ho3, hb3⟩
        · have F2 := fun W => HF hi W
          rw [decide_eq_false g2] at F2
          rw [if_pos (.inr g2)] at hE
          have hr : Hid (covE (n : Int) lo hi = 42) := hE
          clear hE HF g1 g2
          go_enter Tryd.func5, Tryd.ntmps5
          go_wp2_with fail
          refine (F1 _).mono ?_
          rintro e w1 ⟨rfl, rfl⟩
          go_wp2_with fail
          refine (F2 _).mono ?_
          rintro e w2 ⟨rfl, rfl⟩
          go_wp2_with fail
          go_ret2
          exact cvR_nil hr.out (by decide) rfl (Below.refl _ _)
      · have F1 := fun W => HF lo W
        rw [decide_eq_false g1] at F1
        rw [if_pos (.inl g1)] at hE
        have hr : Hid (covE (n : Int) lo hi = 42) := hE
        clear hE HF g1
        go_enter Tryd.func5, Tryd.ntmps5
        go_wp2_with fail
        refine (F1 _).mono ?_
        rintro e w1 ⟨rfl, rfl⟩
        go_wp2_with fail
        go_ret2
        exact cvR_nil hr.out (by decide) rfl (Below.refl _ _)
end Go.Proofs.YtdkhdkfjadalpaaDoor

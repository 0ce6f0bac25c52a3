import Derived.Test.YtclgjdhobdncjaaDoorK0
import Derived.WalkKit
import Derived.Below
import Derived.BigQuiet
namespace Go.Proofs.YtclgjdhobdncjaaDoor
open Go.RowKit
/-- a hexadecimal digit -/
def hx (d : Nat) : UInt8 := if d < 10 then UInt8.ofNat (48 + d) else UInt8.ofNat (87 + d)
/-- a number in hexadecimal digits -/
def hexN (n : Nat) : List UInt8 := if n < 16 then [hx n] else hexN (n / 16) ++ [hx (n % 16)]
abbrev hexT : ByteArray := { data := #[48, 49, 50, 51, 52, 53, 54, 55, 56, 57, 97, 98, 99, 100, 101, 102] }
theorem hx_ext (d : Nat) (hd : d < 16) : hexT.extract d (d + 1) = ⟨#[hx d]⟩ := by
  have h : ∀ d : Fin 16, hexT.extract d.val (d.val + 1) = ⟨#[hx d.val]⟩ := by decide
  exact h ⟨d, hd⟩
theorem hx_get (d : Nat) (hd : d < 16) : hexT.data[d]? = some (hx d) := by
  have h : ∀ d : Fin 16, hexT.data[d.val]? = some (hx d.val) := by decide
  exact h ⟨d, hd⟩
theorem hx_slice (d : Nat) (hd : d < 16) (W : World) : Sem.run Tryd.prog (Instr.slice 9 (Value.string { data := #[48, 49, 50, 51, 52, 53, 54, 55, 56, 57, 97, 98, 99, 100, 101, 102] }) (some (.int .i64 (d : Int))) (some (.int .i64 ((d : Int) + 1))) none) W = .ok (.string ⟨#[hx d]⟩) W := by
  rw [run_slice_string _ _ _ _ _ _ _ Tryd.underlying9 (by omega) (by omega) (by show _ ≤ (16 : Int); omega)]
  have h2 : ((d : Int) + 1).toNat = d + 1 := by omega
  have h3 : ((d : Int)).toNat = d := by omega
  rw [h2, h3]
  exact congrArg (fun x => Result.ok (Value.string x) W) (hx_ext d hd)
theorem hexN_len (n : Nat) : (hexN n).length ≤ n + 1 := by
  induction n using Nat.strongRecOn with
  | ind n ih =>
  rw [hexN]
  split
  · simp
  · have := ih (n / 16) (by omega)
    rw [List.length_append, List.length_singleton]
    omega
set_option maxRecDepth 100000 in
theorem refBased_any (n : Nat) : ∀ (w : World), n < 4294967296 →
    Calls Tryd.prog 24 #[.int .i64 (n : Int)] w fun e w' => e = .returned (.string ⟨(hexN n).toArray⟩) ∧ Below w.heap.size w w' := by
  induction n using Nat.strongRecOn with
  | ind n ih =>
  intro w hn
  by_cases h : n < 16
  · have hs := hx_slice n h
    have i1 : (n : Int) < 16 := by omega
    have e : hexN n = [hx n] := by rw [hexN, if_pos h]
    rw [e]
    clear ih
    go_enter Tryd.func24, Tryd.ntmps24
    go_wp2
    go_ret
    exact ⟨by simp, Below.refl _ _⟩
  · have i1 : ¬ (n : Int) < 16 := by omega
    have e : hexN n = hexN (n / 16) ++ [hx (n % 16)] := by rw [hexN, if_neg h]
    rw [e]
    obtain ⟨m, hm⟩ : ∃ m, n / 16 = m := ⟨_, rfl⟩
    obtain ⟨d, hd⟩ : ∃ d, n % 16 = d := ⟨_, rfl⟩
    have hs := hx_slice d (by omega)
    have hc : Hid (∀ W, Below w.heap.size w W → Calls Tryd.prog 24 #[.int .i64 (m : Int)] W fun e w' => e = .returned (.string ⟨(hexN m).toArray⟩) ∧ Below w.heap.size w w') := fun W hW => (ih m (by omega) W (by omega)).mono (fun e w' h => ⟨h.1, bel0 hW h.2⟩)
    go_enter Tryd.func24, Tryd.ntmps24
    go_wp2
    refine quiet_lit3 (C := fun W => Below w.heap.size w W) (by kernel_rfl) (by kernel_rfl) (show Below _ _ _ from (Below.refl _ _).drew) ?_
    go_big_quiet_want
    go_big_quiet_op
    go_big_quiet_on
    go_big_quiet_want
    go_big_quiet_op
    refine ⟨.int .i64 (m : Int), fun W hW => by go_num, ?_⟩
    go_big_quiet_on
    go_big_quiet_want
    refine ⟨.string ⟨(hexN m).toArray⟩, fun W hW => ?_, ?_⟩
    · go_simp
      refine (hc.out W hW).mono ?_
      rintro e w' ⟨rfl, hb⟩
      exact ⟨rfl, hb⟩
    go_big_quiet_on
    simp only [Act.put, List.setIfInBounds_toArray, List.set_cons_zero, List.set_cons_succ]
    go_big_quiet_want
    go_big_quiet_op
    go_big_quiet_on
    go_big_quiet_want
    go_big_quiet_op
    refine ⟨.int .i64 (d : Int), fun W hW => by go_num, ?_⟩
    go_big_quiet_on
    go_big_quiet_want
    go_big_quiet_op
    go_big_quiet_on
    go_big_quiet_want
    go_big_quiet_op
    refine ⟨.int .i64 (d : Int), fun W hW => by go_num, ?_⟩
    go_big_quiet_on
    go_big_quiet_want
    go_big_quiet_op
    refine ⟨.int .i64 ((d : Int) + 1), fun W hW => rfl, ?_⟩
    go_big_quiet_on
    go_big_quiet_want
    refine ⟨.string ⟨#[hx d]⟩, fun W hW => ?_, ?_⟩
    · have hs' := hs W
      go_simp
    go_big_quiet_on
    simp only [Act.put, List.setIfInBounds_toArray, List.set_cons_zero, List.set_cons_succ]
    go_big_quiet_want
    go_big_quiet_op
    have hl := hexN_len m
    refine ⟨.string ⟨(hexN m ++ [hx d]).toArray⟩, fun W hW => ?_, ?_⟩
    · rw [if_neg (by omega)]; exact ⟨rfl, by rw [← cat_bytes]⟩
    go_big_quiet_on
    go_big_quiet_want
    go_big_quiet_op
    go_big_quiet_on
    refine wpQuiet_nil ?_
    intro W hW
    go_wp2
    go_ret
    refine ⟨?_, hW⟩
    rw [hm, hd]
    simp
end Go.Proofs.YtclgjdhobdncjaaDoor

import Derived.Test.YtcoipocebkbjgaaDoorG
import Derived.WalkKit
import Derived.Below
import Derived.BigQuiet
import Derived.Lib.ItoaNum
namespace Go.Proofs.YtcoipocebkbjgaaDoor
open Go.RowKit
theorem dig_slice (d : Nat) (hd : d < 10) (W : World) : Sem.run Tryd.prog (Instr.slice 9 (Value.string { data := #[48, 49, 50, 51, 52, 53, 54, 55, 56, 57, 97, 98, 99, 100, 101, 102] }) (some (.int .i64 (d : Int))) (some (.int .i64 ((d : Int) + 1))) none) W = .ok (.string ⟨#[UInt8.ofNat (48 + d)]⟩) W := by
  rw [run_slice_string _ _ _ _ _ _ _ Tryd.underlying9 (by omega) (by omega) (by show _ ≤ (16 : Int); omega)]
  have h : ∀ d : Fin 10, (ByteArray.mk #[48, 49, 50, 51, 52, 53, 54, 55, 56, 57, 97, 98, 99, 100, 101, 102]).extract d.val (d.val + 1) = ⟨#[UInt8.ofNat (48 + d.val)]⟩ := by decide
  have h2 : ((d : Int) + 1).toNat = d + 1 := by omega
  have h3 : ((d : Int)).toNat = d := by omega
  rw [h2, h3]
  exact congrArg (fun x => Result.ok (Value.string x) W) (h ⟨d, hd⟩)
theorem dec_len (n : Nat) : (Lib.decDigits n).length ≤ n + 1 := by
  induction n using Nat.strongRecOn with
  | ind n ih =>
  rw [Lib.decDigits]
  split
  · simp
  · have := ih (n / 10) (by omega)
    rw [List.length_append, List.length_singleton]
    omega
theorem cat_bytes (a b : List UInt8) : (ByteArray.mk a.toArray) ++ (ByteArray.mk b.toArray) = ⟨(a ++ b).toArray⟩ := ByteArray.ext (by simp)
set_option maxRecDepth 100000 in
theorem plain_any (n : Nat) : ∀ (w : World), n < 4294967296 →
    Calls Tryd.prog 21 #[.int .i64 (n : Int)] w fun e w' => e = .returned (.string ⟨(Lib.decDigits n).toArray⟩) ∧ Below w.heap.size w w' := by
  induction n using Nat.strongRecOn with
  | ind n ih =>
  intro w hn
  by_cases h : n < 10
  · have hs := dig_slice n h
    have i1 : (n : Int) < 10 := by omega
    have e : Lib.decDigits n = [UInt8.ofNat (48 + n)] := by rw [Lib.decDigits, dif_pos h]
    rw [e]
    clear ih
    go_enter Tryd.func21, Tryd.ntmps21
    go_wp2
    go_ret
    exact ⟨by simp, Below.refl _ _⟩
  · have i1 : ¬ (n : Int) < 10 := by omega
    have e : Lib.decDigits n = Lib.decDigits (n / 10) ++ [UInt8.ofNat (48 + n % 10)] := by rw [Lib.decDigits, dif_neg h]
    rw [e]
    obtain ⟨m, hm⟩ : ∃ m, n / 10 = m := ⟨_, rfl⟩
    obtain ⟨d, hd⟩ : ∃ d, n % 10 = d := ⟨_, rfl⟩
    have hs := dig_slice d (by omega)
    have hc : Hid (∀ W, Below w.heap.size w W → Calls Tryd.prog 21 #[.int .i64 (m : Int)] W fun e w' => e = .returned (.string ⟨(Lib.decDigits m).toArray⟩) ∧ Below w.heap.size w w') := fun W hW => (ih m (by omega) W (by omega)).mono (fun e w' h => ⟨h.1, bel0 hW h.2⟩)
    go_enter Tryd.func21, Tryd.ntmps21
    go_wp2
    refine quiet_lit3 (C := fun W => Below w.heap.size w W) (by kernel_rfl) (by kernel_rfl) (show Below _ _ _ from (Below.refl _ _).drew) ?_
    go_big_quiet_want
    go_big_quiet_op
    go_big_quiet_on
    go_big_quiet_want
    go_big_quiet_op
    refine ⟨.int .i64 (m : Int), fun W hW => by go_num, ?_⟩
    go_big_quiet_on
    go_big_quiet_want
    refine ⟨.string ⟨(Lib.decDigits m).toArray⟩, fun W hW => ?_, ?_⟩
    · go_simp
      refine (hc.out W hW).mono ?_
      rintro e w' ⟨rfl, hb⟩
      exact ⟨rfl, hb⟩
    go_big_quiet_on
    simp only [Act.put, List.setIfInBounds_toArray, List.set_cons_zero, List.set_cons_succ]
    go_big_quiet_want
    go_big_quiet_op
    go_big_quiet_on
    go_big_quiet_want
    go_big_quiet_op
    refine ⟨.int .i64 (d : Int), fun W hW => by go_num, ?_⟩
    go_big_quiet_on
    go_big_quiet_want
    go_big_quiet_op
    go_big_quiet_on
    go_big_quiet_want
    go_big_quiet_op
    refine ⟨.int .i64 (d : Int), fun W hW => by go_num, ?_⟩
    go_big_quiet_on
    go_big_quiet_want
    go_big_quiet_op
    refine ⟨.int .i64 ((d : Int) + 1), fun W hW => rfl, ?_⟩
    go_big_quiet_on
    go_big_quiet_want
    refine ⟨.string ⟨#[UInt8.ofNat (48 + d)]⟩, fun W hW => ?_, ?_⟩
    · have hs' := hs W
      go_simp
    go_big_quiet_on
    simp only [Act.put, List.setIfInBounds_toArray, List.set_cons_zero, List.set_cons_succ]
    go_big_quiet_want
    go_big_quiet_op
    have hl := dec_len m
    refine ⟨.string ⟨(Lib.decDigits m ++ [UInt8.ofNat (48 + d)]).toArray⟩, fun W hW => ?_, ?_⟩
    · rw [if_neg (by omega)]; exact ⟨rfl, by rw [← cat_bytes]; simp⟩
    go_big_quiet_on
    go_big_quiet_want
    go_big_quiet_op
    go_big_quiet_on
    refine wpQuiet_nil ?_
    intro W hW
    go_wp2
    go_ret
    refine ⟨?_, hW⟩
    rw [hm, hd]
    simp
end Go.Proofs.YtcoipocebkbjgaaDoor

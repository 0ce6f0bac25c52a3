import Derived.Test.YtclgjdhobdncjaaDoorE0
namespace Go.Proofs.YtclgjdhobdncjaaDoor
open Go.RowKit
/-- the pieces of a quoted text from a place on: what they say, the place, the error -/
def insS (l : List UInt8) (j : Nat) (said : List UInt8) : List UInt8 × Nat × Nat :=
  if j < l.length then
    if bt l j = 34 then (said, j + 1, 0)
    else if bt l j = 92 then (if (escS l j).1 = 0 then ([], j, 34) else insS l (j + (escS l j).1) (said ++ (escS l j).2))
    else if lo1 l j = true ∨ bt l j < 32 ∨ bt l j = 127 then ([], j, 33)
    else insS l (j + (dc l j).2) (said ++ (l.drop j).take (dc l j).2)
  else ([], l.length, 32)
termination_by l.length - j
decreasing_by
  · omega
  · have := dc_pos l j
    omega
theorem results_three (tmps : Array Value) (W : World) (a b c : Value) (h : tmps.getD 4 undef = a ∧ tmps.getD 5 undef = b ∧ tmps.getD 6 undef = c) : (results Tryd.f16 tmps).run Tryd.prog W = .ok (.tuple #[a, b, c]) W := by
  obtain ⟨h1, h2, h3⟩ := h
  have h1' : tmps[4]?.getD undef = a := by simpa using h1
  have h2' : tmps[5]?.getD undef = b := by simpa using h2
  have h3' : tmps[6]?.getD undef = c := by simpa using h3
  simp [results, h1', h2', h3', go_sem]
theorem slice_str (l : List UInt8) (j k : Nat) (h : j + k ≤ l.length) (W : World) : Sem.run Tryd.prog (Instr.slice 9 (.string ⟨l.toArray⟩) (some (.int .i64 (j : Int))) (some (.int .i64 ((j : Int) + (k : Int)))) none) W = .ok (.string ⟨((l.drop j).take k).toArray⟩) W := by
  have hsz : (ByteArray.mk l.toArray).size = l.length := by simp [ByteArray.size]
  rw [run_slice_string _ _ _ _ _ _ _ Tryd.underlying9 (by omega) (by omega) (by rw [hsz]; omega)]
  have h2 : ((j : Int) + (k : Int)).toNat = j + k := by omega
  have h3 : ((j : Int)).toNat = j := by omega
  rw [h2, h3]
  exact congrArg (fun x => Result.ok (Value.string x) W) (ByteArray.ext (by simp))
def escC (l : List UInt8) : Prop := ∀ (i : Nat) (w : World), i < l.length → Calls Tryd.prog 26 #[.string ⟨l.toArray⟩, .int .i64 (i : Int)] w fun e w' => e = .returned (.tuple #[.int .i64 ((escS l i).1 : Int), .string ⟨(escS l i).2.toArray⟩]) ∧ Below w.heap.size w w'
set_option maxRecDepth 100000 in
set_option maxHeartbeats 2000000 in
theorem refInside_any (l : List UInt8) (w : World) (hs : l.length ≤ 16384) (HE0 : escC l) :
    Calls Tryd.prog 16 #[.string ⟨l.toArray⟩, .int .i64 0] w fun e w' => e = .returned (.tuple #[.string ⟨(insS l 1 []).1.toArray⟩, .int .i64 ((insS l 1 []).2.1 : Int), .int .i64 ((insS l 1 []).2.2 : Int)]) ∧ Below w.heap.size w w' := by
  have HE : Hid (escC l) := HE0
  clear HE0
  go_enter Tryd.func16, Tryd.ntmps16
  go_wp2_with fail
  go_loopw [7, 8] (fun vs vj wr => ∃ (said : List UInt8) (j : Nat), vs = .string ⟨said.toArray⟩ ∧ vj = .int .i64 j ∧ said.length ≤ j ∧ 1 ≤ j ∧ j ≤ 16385 ∧ insS l j said = insS l 1 [] ∧ Below w.heap.size w wr) (fun _ vj _ => l.length - (intOf vj).toNat)
  case atStart => exact ⟨[], 1, rfl, by go_num, by simp, by omega, by omega, rfl, Below.refl _ _⟩
  case round =>
    obtain ⟨said, j, rfl, rfl, hsj, hj1, hj2, hins, hB⟩ := hrel
    by_cases hlt : j < l.length
    · have j0 : (0 : Int) ≤ (j : Int) := by omega
      have j1 : (j : Int) < (l.length : Int) := by omega
      have j3 : ¬ (l.length : Int) ≤ (j : Int) := by omega
      obtain ⟨c, hc, hlc⟩ := byte_get l j hlt
      have hb := bt_of hlc
      rw [insS, if_pos hlt] at hins
      by_cases g34 : c = 34
      · rw [if_pos (by rw [hb, g34]; rfl)] at hins
        have HR : Hid (insS l 1 [] = (said, j + 1, 0)) := hins.symm
        subst g34
        clear hins hb
        go_wp2_with fail
        refine bodyPost_ret (results_three _ _ _ _ _ ⟨rfl, rfl, rfl⟩) rfl ?_
        exact ⟨by rw [HR.out]; rfl, hB⟩
      · have b34 : ¬ bt l j = 34 := fun e => g34 (UInt8.toNat_inj.1 (by rw [← hb, e]; rfl))
        have n34 : ((c.toNat : Int) == 34) = false := u8_ne (d := 34) g34
        have m34 : ((c.toNat : Int) != 34) = true := by rw [bne, n34]; rfl
        rw [if_neg b34] at hins
        by_cases g92 : c = 92
        · rw [if_pos (by rw [hb, g92]; rfl)] at hins
          have HC := HE.out j wr hlt
          subst g92
          by_cases hz : (escS l j).1 = 0
          · rw [if_pos hz] at hins
            have HR : Hid (insS l 1 [] = ([], j, 34)) := hins.symm
            rw [hz] at HC
            clear hins hb
            go_wp2_with fail
            refine HC.mono ?_
            rintro e w2 ⟨rfl, hb2⟩
            go_wp2_with fail
            refine bodyPost_ret (results_three _ _ _ _ _ ⟨rfl, rfl, rfl⟩) rfl ?_
            exact ⟨by rw [HR.out]; rfl, bel0 hB hb2⟩
          · rw [if_neg hz] at hins
            obtain ⟨hq1, hq2⟩ := escS_end l j (by omega)
            obtain ⟨k, hk⟩ : ∃ k, (escS l j).1 = k := ⟨_, rfl⟩
            obtain ⟨b, hbb⟩ : ∃ b, (escS l j).2 = b := ⟨_, rfl⟩
            rw [hk, hbb] at HC hins hq2
            rw [hk] at hz hq1
            have kz : ((k : Int) == 0) = false := by rw [beq_eq_false_iff_ne]; omega
            have HI : Hid (insS l (j + k) (said ++ b) = insS l 1 []) := hins
            clear hins hb hk hbb
            go_wp2_with fail
            refine HC.mono ?_
            rintro e w2 ⟨rfl, hb2⟩
            have hcat := cat_bytes said b
            go_wp2_with fail
            go_roundw
            case rel => exact ⟨said ++ b, j + k, by rw [← hcat], by go_num, by simp; omega, by omega, by omega, HI.out, bel0 hB hb2⟩
            case measure => simp [intOf]; omega
        · have b92 : ¬ bt l j = 92 := fun e => g92 (UInt8.toNat_inj.1 (by rw [← hb, e]; rfl))
          have n92 : ((c.toNat : Int) == 92) = false := u8_ne (d := 92) g92
          rw [if_neg b92] at hins
          have HC := refSize_any l j wr hlt hs
          by_cases hbad : lo1 l j = true ∨ bt l j < 32 ∨ bt l j = 127
          · rw [if_pos hbad] at hins
            have HR : Hid (insS l 1 [] = ([], j, 33)) := hins.symm
            rw [hb] at hbad
            clear hins hb
            obtain ⟨k, hk⟩ : ∃ k, (dc l j).2 = k := ⟨_, rfl⟩
            obtain ⟨lo, hlo⟩ : ∃ lo, lo1 l j = lo := ⟨_, rfl⟩
            rw [hk, hlo] at HC
            rw [hlo] at hbad
            clear hk hlo
            cases lo with
            | true =>
              clear hbad
              go_wp2_with fail
              refine HC.mono ?_
              rintro e w2 ⟨rfl, rfl⟩
              go_wp2_with fail
              refine bodyPost_ret (results_three _ _ _ _ _ ⟨rfl, rfl, rfl⟩) rfl ?_
              exact ⟨by rw [HR.out]; rfl, hB⟩
            | false =>
              by_cases c32 : c.toNat < 32
              · have d32 : (c.toNat : Int) < 32 := by omega
                clear hbad
                go_wp2_with fail
                refine HC.mono ?_
                rintro e w2 ⟨rfl, rfl⟩
                go_wp2_with fail
                refine bodyPost_ret (results_three _ _ _ _ _ ⟨rfl, rfl, rfl⟩) rfl ?_
                exact ⟨by rw [HR.out]; rfl, hB⟩
              · have d32 : ¬ (c.toNat : Int) < 32 := by omega
                obtain rfl : c = 127 := by
                  rcases hbad with h | h | h
                  · cases h
                  · exact absurd h c32
                  · exact UInt8.toNat_inj.1 h
                clear hbad
                go_wp2_with fail
                refine HC.mono ?_
                rintro e w2 ⟨rfl, rfl⟩
                go_wp2_with fail
                refine bodyPost_ret (results_three _ _ _ _ _ ⟨rfl, rfl, rfl⟩) rfl ?_
                exact ⟨by rw [HR.out]; rfl, hB⟩
          · rw [if_neg hbad] at hins
            have hlo : lo1 l j = false := Bool.eq_false_iff.2 (fun h => hbad (.inl h))
            rw [hlo] at HC
            rw [hb] at hbad
            have c32 : ¬ (c.toNat : Int) < 32 := by omega
            have c127 : ((c.toNat : Int) == 127) = false := by rw [beq_eq_false_iff_ne]; omega
            have hp := dc_pos l j
            have hle := dc_le l j hlt
            obtain ⟨k, hk⟩ : ∃ k, (dc l j).2 = k := ⟨_, rfl⟩
            rw [hk] at HC hins hp hle
            have HI : Hid (insS l (j + k) (said ++ (l.drop j).take k) = insS l 1 []) := hins
            have hE := fun W => slice_str l j k hle W
            have hcat := cat_bytes said ((l.drop j).take k)
            have hlen : ((l.drop j).take k).length = k := by simp; omega
            obtain ⟨T, hT⟩ : ∃ T, (l.drop j).take k = T := ⟨_, rfl⟩
            rw [hT] at HI hE hcat hlen
            clear hins hb hk hbad hT hlo
            go_wp2_with fail
            refine HC.mono ?_
            rintro e w2 ⟨rfl, rfl⟩
            go_wp2_with fail
            go_roundw
            case rel => exact ⟨said ++ T, j + k, by rw [← hcat], by go_num, by simp; omega, by omega, by omega, HI.out, hB⟩
            case measure => simp [intOf]; omega
    · have j1 : ¬ (j : Int) < (l.length : Int) := by omega
      have j3 : (l.length : Int) ≤ (j : Int) := by omega
      rw [insS, if_neg hlt] at hins
      have HR : Hid (insS l 1 [] = ([], l.length, 32)) := hins.symm
      clear hins
      go_wp2_with fail
      refine bodyPost_ret (results_three _ _ _ _ _ ⟨rfl, rfl, rfl⟩) rfl ?_
      exact ⟨by rw [HR.out]; rfl, hB⟩
end Go.Proofs.YtclgjdhobdncjaaDoor

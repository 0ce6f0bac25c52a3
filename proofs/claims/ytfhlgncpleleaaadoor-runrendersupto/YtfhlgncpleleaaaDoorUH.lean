import Derived.Test.YtfhlgncpleleaaaDoorUG
namespace Go.Proofs.YtfhlgncpleleaaaDoor
open Go.RowKit Go.Shelf
theorem jt_snoc (sep : List UInt8) (r : List (List UInt8)) (y : List UInt8) : Lib.joinTail sep (r ++ [y]) = Lib.joinTail sep r ++ (sep ++ y) := by simp [Lib.joinTail]
theorem join_snoc {L : List (List UInt8)} {i : Nat} {x : List UInt8} (sep : List UInt8) (h : L[i]? = some x) : Lib.join (L.take (i + 1)) sep = Lib.join (L.take i) sep ++ ((if i = 0 then [] else sep) ++ x) := by
  rw [List.take_add_one, h, Option.toList_some]
  cases L with
  | nil => simp at h
  | cons a r =>
    cases i with
    | zero =>
      show Lib.join [x] sep = Lib.join [] sep ++ ([] ++ x)
      rw [Lib.join_one, Lib.join_nil]
      rfl
    | succ i =>
      rw [if_neg (Nat.succ_ne_zero i), List.take_succ_cons]
      show Lib.join (a :: (r.take i ++ [x])) sep = _
      rw [Lib.join_cons, Lib.join_cons, jt_snoc, List.append_assoc]
theorem join_le (L : List (List UInt8)) (sep : List UInt8) (i : Nat) : (Lib.join (L.take i) sep).length ≤ (Lib.join L sep).length := by
  cases L with
  | nil => simp
  | cons a r =>
    cases i with
    | zero => simp [Lib.join]
    | succ i =>
      rw [List.take_succ_cons, Lib.join_cons, Lib.join_cons]
      have : Lib.joinTail sep r = Lib.joinTail sep (r.take i) ++ Lib.joinTail sep (r.drop i) := by
        unfold Lib.joinTail
        rw [← List.flatten_append, ← List.map_append, List.take_append_drop]
      rw [this]
      simp
set_option maxRecDepth 100000 in
set_option maxHeartbeats 4000000 in
theorem djoin_any (L : List (List UInt8)) (p : Option Addr) (n c : Nat) (sep : List UInt8) (w : World) (hn : L.length = n) (hN : n ≤ 1000000000) (hr : LSR w p L) (hlen : (Lib.join L sep).length ≤ 1000000000000) :
    Calls Tryd.prog 19 #[.slice p n c, .string ⟨sep.toArray⟩] w fun e w' => e = .returned (.string ⟨(Lib.join L sep).toArray⟩) ∧ Below w.heap.size w w' := by
  have HH : Hid (LSR w p L ∧ L.length = n ∧ (Lib.join L sep).length ≤ 1000000000000) := ⟨hr, hn, hlen⟩
  clear hr hn hlen
  go_enter Tryd.func19, Tryd.ntmps19
  go_wp2_with fail
  go_loopw [5, 6] (fun v5 v6 wr => ∃ (i : Nat) (T : List UInt8), v6 = .int .i64 (i : Int) ∧ v5 = .string ⟨T.toArray⟩ ∧ i ≤ n ∧ Hid (Lib.join (L.take i) sep = T ∧ Below w.heap.size w wr)) (fun _ v6 _ => n - (intOf v6).toNat)
  case atStart => exact ⟨0, [], rfl, rfl, Nat.zero_le _, rfl, Below.refl _ _⟩
  case round =>
    obtain ⟨i, T, rfl, rfl, hi, HR⟩ := hrel
    by_cases hlt : i < n
    · have i0 : (0 : Int) ≤ (i : Int) := by omega
      have i1 : (i : Int) < (n : Int) := by omega
      obtain ⟨x, hx⟩ : ∃ x, L[i]? = some x := ⟨_, List.getElem?_eq_getElem (by rw [HH.out.2.1]; exact hlt)⟩
      obtain ⟨g, o0, rfl, hc⟩ := HH.out.1 wr HR.out.2 i x hx
      have hs := join_snoc sep hx
      have hle := join_le L sep (i + 1)
      rw [HR.out.1] at hs
      rw [hs] at hle
      have hle2 := HH.out.2.2
      have HS : Hid (Lib.join (L.take (i + 1)) sep = T ++ ((if i = 0 then [] else sep) ++ x)) := hs
      by_cases h0 : i = 0
      · rw [if_pos h0] at hle
        simp only [List.length_append, List.length_nil] at hle
        have z0 : ¬ (i : Int) > 0 := by omega
        have z1 : ¬ (0 : Int) < (i : Int) := by omega
        have m1 : ¬ 9223372036854775807 < T.length + x.length := by omega
        have HX : Hid (Lib.join (L.take (i + 1)) sep = T ++ x) := by
          have := HS.out
          rw [if_pos h0, List.nil_append] at this
          exact this
        have H0 : Hid (i = 0) := h0
        clear hx hs hle hle2 HS h0
        go_wp2_with fail
        go_roundw
        case rel => exact ⟨i + 1, T ++ x, by go_num, by rw [baA'], by omega, HX.out, HR.out.2⟩
        case measure => simp [intOf]; omega
      · rw [if_neg h0] at hle
        simp only [List.length_append] at hle
        have z0 : (i : Int) > 0 := by omega
        have z1 : (0 : Int) < (i : Int) := by omega
        have m1 : ¬ 9223372036854775807 < T.length + sep.length := by omega
        have m2 : ¬ 9223372036854775807 < T.length + sep.length + x.length := by omega
        have HX : Hid (Lib.join (L.take (i + 1)) sep = T ++ sep ++ x) := by
          have := HS.out
          rw [if_neg h0, ← List.append_assoc] at this
          exact this
        clear hx hs hle hle2 HS h0
        go_wp2_with fail
        go_roundw
        case rel => exact ⟨i + 1, T ++ sep ++ x, by go_num, by rw [baA', baA'], by omega, HX.out, HR.out.2⟩
        case measure => simp [intOf]; omega
    · have i1 : ¬ (i : Int) < (n : Int) := by omega
      have HT : Hid (T = Lib.join L sep) := by
        have := HR.out.1
        rw [List.take_of_length_le (by rw [HH.out.2.1]; omega)] at this
        exact this.symm
      go_wp2_with fail
      go_ret
      exact ⟨by rw [← HT.out]; rfl, HR.out.2⟩
end Go.Proofs.YtfhlgncpleleaaaDoor

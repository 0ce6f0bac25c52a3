import Derived.Test.YtclgjdhobdncjaaDoorQ4
namespace Go.Proofs.YtclgjdhobdncjaaDoor
open Go.RowKit
theorem looS_len (x : Nat) : (looS x).length = 4 := rfl
theorem hexN_le (n : Nat) (h : n < 65536 * 65536) : (hexN n).length ≤ 8 := by
  have step : ∀ k m, m < 16 ^ (k + 1) → (hexN m).length ≤ k + 1 := by
    intro k
    induction k with
    | zero => intro m hm; rw [hexN, if_pos (by omega)]; simp
    | succ k ih =>
      intro m hm
      rw [hexN]
      split
      · simp
      · have := ih (m / 16) (by rw [Nat.pow_succ] at hm; omega)
        rw [List.length_append, List.length_singleton]
        omega
  exact step 7 n (by omega)
theorem saiS_len (s : List UInt8) (n : Nat) (hn : n < 65536 * 65536) (h4 : s.length ≤ 4) : (saiS s n).length ≤ 12 := by
  have := hexN_le n hn
  unfold saiS
  repeat' split
  all_goals simp [looS_len]
  all_goals omega
theorem pcS_len (l : List UInt8) (i : Nat) (h : i < l.length) : (pcS l i).length ≤ 12 := by
  unfold pcS
  split
  · rw [looS_len]; decide
  · have hw := dc_wid l i
    refine saiS_len _ _ ?_ (by rw [own_len l i h]; exact hw)
    by_cases hb : bt l i < 128
    · rw [dc_asc hb]; simp only; omega
    · have := dc_big hb; omega
set_option maxRecDepth 100000 in
set_option maxHeartbeats 1000000 in
theorem refQuote_any (l : List UInt8) (w : World) (hm : l.length ≤ 281474976710656) :
    Calls Tryd.prog 7 #[.string ⟨l.toArray⟩] w fun e w' => e = .returned (.tuple #[.string ⟨(quoS l).1.toArray⟩, .int .i64 ((quoS l).2 : Int)]) ∧ Below w.heap.size w w' := by
  by_cases h1 : 256 < l.length
  · have hr : Hid (quoS l = ([], 37)) := if_pos h1
    have i1 : (256 : Int) < (l.length : Int) := by omega
    rw [hr.out]
    go_enter Tryd.func7, Tryd.ntmps7
    go_wp2_with fail
    go_ret2
    exact ⟨rfl, Below.refl _ _⟩
  · have hr : Hid (quoS l = ([34] ++ quoL l 0 ++ [34], 0)) := if_neg h1
    have i1 : ¬ (256 : Int) < (l.length : Int) := by omega
    rw [hr.out]
    clear hr
    obtain ⟨R, hR⟩ : ∃ R, [34] ++ quoL l 0 = R := ⟨_, rfl⟩
    rw [hR]
    have HR : Hid ([34] ++ quoL l 0 = R) := hR
    clear hR
    go_enter Tryd.func7, Tryd.ntmps7
    go_wp2_with fail
    go_loopw [4, 5] (fun vq vi wr => ∃ (q : List UInt8) (i : Nat), vq = .string ⟨q.toArray⟩ ∧ vi = .int .i64 i ∧ i ≤ l.length ∧ q.length ≤ 1 + 12 * i ∧ q ++ quoL l i = R ∧ Below w.heap.size w wr) (fun _ vi _ => l.length - (intOf vi).toNat)
    case atStart => exact ⟨[34], 0, rfl, by go_num, Nat.zero_le _, by simp, HR.out, Below.refl _ _⟩
    case round =>
      obtain ⟨q, i, rfl, rfl, hil, hql, hq, hB⟩ := hrel
      by_cases hlt : i < l.length
      · have j0 : (0 : Int) ≤ (i : Int) := by omega
        have j1 : (i : Int) < (l.length : Int) := by omega
        obtain ⟨c, hc, hlc⟩ := byte_get l i hlt
        have hb := bt_of hlc
        have HS := fun W => refSize_any l i W hlt (by omega)
        have hp := dc_pos l i
        have hle := dc_le l i hlt
        have hw4 := dc_wid l i
        have hpl := pcS_len l i hlt
        rw [quoL_lt hlt] at hq
        cases hlo : lo1 l i with
        | true =>
          have hpc : pcS l i = looS (bt l i) := by unfold pcS; rw [if_pos hlo]
          have HL := fun W => refLoose_any (bt l i) (bt_lt l i) W
          rw [hb] at HL hpc
          rw [hpc] at hq hpl
          rw [hlo] at HS
          obtain ⟨k, hk⟩ : ∃ k, (dc l i).2 = k := ⟨_, rfl⟩
          rw [hk] at HS hp hle hq
          obtain ⟨T, hT⟩ : ∃ T, looS c.toNat = T := ⟨_, rfl⟩
          rw [hT] at HL hq hpl
          have HQ : Hid ((q ++ T) ++ quoL l (i + k) = R) := by unfold Hid; rw [List.append_assoc]; exact hq
          have hcat := cat_bytes q T
          clear hq hpc hk hT hb hlo hw4 HR
          go_wp2_with fail
          refine (HS _).mono ?_
          rintro e w2 ⟨rfl, rfl⟩
          go_wp2_with fail
          refine (HL _).mono ?_
          rintro e w3 ⟨rfl, hb3⟩
          go_wp2_with fail
          go_roundw
          case rel => exact ⟨q ++ T, i + k, by rw [← hcat], by go_num, by omega, by rw [List.length_append]; omega, HQ.out, bel0 hB hb3⟩
          case measure => simp [intOf]; omega
        | false =>
          have hpc : pcS l i = saiS (own l i) (dc l i).1 := by unfold pcS; rw [if_neg (by rw [hlo]; decide)]
          have hol := own_len l i hlt
          have HL := fun W => refSaid_any (own l i) (dc l i).1 W (by omega) (by omega) (cod_dc l i hlt hlo)
          rw [hpc] at hq hpl
          rw [hlo] at HS
          have hE := fun W => slice_str l i (dc l i).2 hle W
          obtain ⟨T, hT⟩ : ∃ T, saiS (own l i) (dc l i).1 = T := ⟨_, rfl⟩
          rw [hT] at HL hq hpl
          have hE2 : (l.drop i).take (dc l i).2 = own l i := rfl
          rw [hE2] at hE
          obtain ⟨O, hO⟩ : ∃ O, own l i = O := ⟨_, rfl⟩
          rw [hO] at hE HL hol
          obtain ⟨k, hk⟩ : ∃ k, (dc l i).2 = k := ⟨_, rfl⟩
          rw [hk] at HS hp hle hq hE
          have HQ : Hid ((q ++ T) ++ quoL l (i + k) = R) := by unfold Hid; rw [List.append_assoc]; exact hq
          have hcat := cat_bytes q T
          clear hq hpc hk hT hb hlo hw4 HR hol hE2 hO
          go_wp2_with fail
          refine (HS _).mono ?_
          rintro e w2 ⟨rfl, rfl⟩
          go_wp2_with fail
          refine (HL _).mono ?_
          rintro e w3 ⟨rfl, hb3⟩
          go_wp2_with fail
          go_roundw
          case rel => exact ⟨q ++ T, i + k, by rw [← hcat], by go_num, by omega, by rw [List.length_append]; omega, HQ.out, bel0 hB hb3⟩
          case measure => simp [intOf]; omega
      · have j1 : ¬ (i : Int) < (l.length : Int) := by omega
        rw [quoL_end hlt, List.append_nil] at hq
        have hcat := cat_bytes q [34]
        have HQ : Hid (q = R) := hq
        clear hq HR
        go_wp2_with fail
        go_ret2
        exact ⟨by rw [← HQ.out, ← hcat]; rfl, hB⟩
end Go.Proofs.YtclgjdhobdncjaaDoor

import Derived.Test.YtialcphfaleedaaGreatDoorZ23
import Derived.Test.YtialcphfaleedaaGreatDoorZ7
import Derived.Test.YtialcphfaleedaaGreatDoorZ21
namespace Go.Proofs.YtialcphfaleedaaGreatDoor
open Go.RowKit
set_option maxRecDepth 100000 in
set_option maxHeartbeats 2000000 in
theorem refInside_at (l : List UInt8) (i : Nat) (w : World) (hi : i < l.length) (hs : l.length ≤ 16384) (HE0 : escC l) :
    Calls Tryz.prog 48 #[.string ⟨l.toArray⟩, .int .i64 (i : Int)] w fun e w' => e = .returned (.tuple #[.string ⟨(insS l (i + 1) []).1.toArray⟩, .int .i64 ((insS l (i + 1) []).2.1 : Int), .int .i64 ((insS l (i + 1) []).2.2 : Int)]) ∧ Below w.heap.size w w' := by
  have HE : Hid (escC l) := HE0
  clear HE0
  have hi2 : (i : Int) < 16384 := by omega
  go_enter Tryz.func48, Tryz.ntmps48
  go_wp2_with fail
  go_loopw [7, 8] (fun vs vj wr => ∃ (said : List UInt8) (j : Nat), vs = .string ⟨said.toArray⟩ ∧ vj = .int .i64 j ∧ said.length ≤ j ∧ 1 ≤ j ∧ j ≤ 16385 ∧ insS l j said = insS l (i + 1) [] ∧ Below w.heap.size w wr) (fun _ vj _ => l.length - (intOf vj).toNat)
  case atStart => exact ⟨[], i + 1, rfl, by go_num, by simp, by omega, by omega, rfl, Below.refl _ _⟩
  case round =>
    obtain ⟨said, j, rfl, rfl, hsj, hj1, hj2, hins, hB⟩ := hrel
    by_cases hlt : j < l.length
    · have j0 : (0 : Int) ≤ (j : Int) := by omega
      have j1 : (j : Int) < (l.length : Int) := by omega
      have j3 : ¬ (l.length : Int) ≤ (j : Int) := by omega
      obtain ⟨c, hc, hlc⟩ := byte_get l j hlt
      have hb := bt_of hlc
      rw [insS, if_pos hlt] at hins
      by_cases g34 : c = 34
      · rw [if_pos (by rw [hb, g34]; rfl)] at hins
        have HR : Hid (insS l (i + 1) [] = (said, j + 1, 0)) := hins.symm
        subst g34
        clear hins hb
        go_wp2_with fail
        refine bodyPost_ret (results_three _ _ _ _ _ ⟨rfl, rfl, rfl⟩) rfl ?_
        exact ⟨by rw [HR.out]; rfl, hB⟩
      · have b34 : ¬ bt l j = 34 := fun e => g34 (UInt8.toNat_inj.1 (by rw [← hb, e]; rfl))
        have n34 : ((c.toNat : Int) == 34) = false := u8_ne (d := 34) g34
        have m34 : ((c.toNat : Int) != 34) = true := by rw [bne, n34]; rfl
        rw [if_neg b34] at hins
        by_cases g92 : c = 92
        · rw [if_pos (by rw [hb, g92]; rfl)] at hins
          have HC := HE.out j wr hlt
          subst g92
          by_cases hz : (escS l j).1 = 0
          · rw [if_pos hz] at hins
            have HR : Hid (insS l (i + 1) [] = ([], j, 34)) := hins.symm
            rw [hz] at HC
            clear hins hb
            go_wp2_with fail
            refine HC.mono ?_
            rintro e w2 ⟨rfl, hb2⟩
            go_wp2_with fail
            refine bodyPost_ret (results_three _ _ _ _ _ ⟨rfl, rfl, rfl⟩) rfl ?_
            exact ⟨by rw [HR.out]; rfl, bel0 hB hb2⟩
          · rw [if_neg hz] at hins
            obtain ⟨hq1, hq2⟩ := escS_end l j (by omega)
            obtain ⟨k, hk⟩ : ∃ k, (escS l j).1 = k := ⟨_, rfl⟩
            obtain ⟨b, hbb⟩ : ∃ b, (escS l j).2 = b := ⟨_, rfl⟩
            rw [hk, hbb] at HC hins hq2
            rw [hk] at hz hq1
            have kz : ((k : Int) == 0) = false := by rw [beq_eq_false_iff_ne]; omega
            have HI : Hid (insS l (j + k) (said ++ b) = insS l (i + 1) []) := hins
            clear hins hb hk hbb
            go_wp2_with fail
            refine HC.mono ?_
            rintro e w2 ⟨rfl, hb2⟩
            have hcat := cat_bytes said b
            go_wp2_with fail
            go_roundw
            case rel => exact ⟨said ++ b, j + k, by rw [← hcat], by go_num, by simp; omega, by omega, by omega, HI.out, bel0 hB hb2⟩
            case measure => simp [intOf]; omega
        · have b92 : ¬ bt l j = 92 := fun e => g92 (UInt8.toNat_inj.1 (by rw [← hb, e]; rfl))
          have n92 : ((c.toNat : Int) == 92) = false := u8_ne (d := 92) g92
          rw [if_neg b92] at hins
          have HC := refSize_any l j wr hlt hs
          by_cases hbad : lo1 l j = true ∨ bt l j < 32 ∨ bt l j = 127
          · rw [if_pos hbad] at hins
            have HR : Hid (insS l (i + 1) [] = ([], j, 33)) := hins.symm
            rw [hb] at hbad
            clear hins hb
            obtain ⟨k, hk⟩ : ∃ k, (dc l j).2 = k := ⟨_, rfl⟩
            obtain ⟨lo, hlo⟩ : ∃ lo, lo1 l j = lo := ⟨_, rfl⟩
            rw [hk, hlo] at HC
            rw [hlo] at hbad
            clear hk hlo
            cases lo with
            | true =>
              clear hbad
              go_wp2_with fail
              refine HC.mono ?_
              rintro e w2 ⟨rfl, rfl⟩
              go_wp2_with fail
              refine bodyPost_ret (results_three _ _ _ _ _ ⟨rfl, rfl, rfl⟩) rfl ?_
              exact ⟨by rw [HR.out]; rfl, hB⟩
            | false =>
              by_cases c32 : c.toNat < 32
              · have d32 : (c.toNat : Int) < 32 := by omega
                clear hbad
                go_wp2_with fail
                refine HC.mono ?_
                rintro e w2 ⟨rfl, rfl⟩
                go_wp2_with fail
                refine bodyPost_ret (results_three _ _ _ _ _ ⟨rfl, rfl, rfl⟩) rfl ?_
                exact ⟨by rw [HR.out]; rfl, hB⟩
              · have d32 : ¬ (c.toNat : Int) < 32 := by omega
                obtain rfl : c = 127 := by
                  rcases hbad with h | h | h
                  · cases h
                  · exact absurd h c32
                  · exact UInt8.toNat_inj.1 h
                clear hbad
                go_wp2_with fail
                refine HC.mono ?_
                rintro e w2 ⟨rfl, rfl⟩
                go_wp2_with fail
                refine bodyPost_ret (results_three _ _ _ _ _ ⟨rfl, rfl, rfl⟩) rfl ?_
                exact ⟨by rw [HR.out]; rfl, hB⟩
          · rw [if_neg hbad] at hins
            have hlo : lo1 l j = false := Bool.eq_false_iff.2 (fun h => hbad (.inl h))
            rw [hlo] at HC
            rw [hb] at hbad
            have c32 : ¬ (c.toNat : Int) < 32 := by omega
            have c127 : ((c.toNat : Int) == 127) = false := by rw [beq_eq_false_iff_ne]; omega
            have hp := dc_pos l j
            have hle := dc_le l j hlt
            obtain ⟨k, hk⟩ : ∃ k, (dc l j).2 = k := ⟨_, rfl⟩
            rw [hk] at HC hins hp hle
            have HI : Hid (insS l (j + k) (said ++ (l.drop j).take k) = insS l (i + 1) []) := hins
            have hE := fun W => slice_str l j k hle W
            have hcat := cat_bytes said ((l.drop j).take k)
            have hlen : ((l.drop j).take k).length = k := by simp; omega
            obtain ⟨T, hT⟩ : ∃ T, (l.drop j).take k = T := ⟨_, rfl⟩
            rw [hT] at HI hE hcat hlen
            clear hins hb hk hbad hT hlo
            go_wp2_with fail
            refine HC.mono ?_
            rintro e w2 ⟨rfl, rfl⟩
            go_wp2_with fail
            go_roundw
            case rel => exact ⟨said ++ T, j + k, by rw [← hcat], by go_num, by simp; omega, by omega, by omega, HI.out, hB⟩
            case measure => simp [intOf]; omega
    · have j1 : ¬ (j : Int) < (l.length : Int) := by omega
      have j3 : (l.length : Int) ≤ (j : Int) := by omega
      rw [insS, if_neg hlt] at hins
      have HR : Hid (insS l (i + 1) [] = ([], l.length, 32)) := hins.symm
      clear hins
      go_wp2_with fail
      refine bodyPost_ret (results_three _ _ _ _ _ ⟨rfl, rfl, rfl⟩) rfl ?_
      exact ⟨by rw [HR.out]; rfl, hB⟩
end Go.Proofs.YtialcphfaleedaaGreatDoor
namespace Go.Proofs.YtialcphfaleedaaGreatDoor
open Go.RowKit Go.Shelf
theorem wrun_in {l : List UInt8} : ∀ (m j : Nat), l.length - j ≤ m → ∀ k, j ≤ k → k < wrun l j → inW l k = true
  | m, j, hm, k, h1, h2 => by
    cases h : inW l j with
    | false => rw [wrun_no h] at h2; omega
    | true =>
      have hj := (inW_asc h).1
      rw [wrun_yes h] at h2
      rcases Nat.lt_or_ge j k with hk | hk
      · match m, hm with
        | 0, hm => omega
        | m + 1, hm => exact wrun_in m (j + 1) (by omega) k hk h2
      · rw [show k = j by omega]; exact h
theorem inW_46 {l : List UInt8} {k : Nat} (h : inW l k = true) : bt l k ≠ 46 := fun e => by
  have hk := (inW_asc h).1
  have h5 : kl l k = 5 := by rw [kl_bt hk, e]; rfl
  unfold inW at h
  rw [h5] at h
  cases h
theorem sub_dot {l : List UInt8} {i j : Nat} (h : ∀ k, i ≤ k → k < j → bt l k ≠ 46) : Lib.indexByte (subL l i j) 46 < 0 := by
  rw [idx_no (fun k hk e => ?_)]
  · decide
  · obtain ⟨h1, h2⟩ := sub_get e
    exact h (i + k) (by omega) h2 (by rw [bt_of h1]; rfl)
theorem sub_len {l : List UInt8} {i j : Nat} (h : j ≤ l.length) : (subL l i j).length = j - i := by
  unfold subL
  simp
  omega
/-- one name -/
theorem parts_one {l : List UInt8} {i j : Nat} (h : ∀ k, i ≤ k → k < j → bt l k ≠ 46) : parts (subL l i j) = [subL l i j] := parts_neg (sub_dot h)
theorem sub_take {l : List UInt8} {i j k : Nat} (h1 : i ≤ j) (h2 : j ≤ k) : (subL l i k).take (j - i) = subL l i j := by
  unfold subL
  rw [List.take_take, Nat.min_eq_left (by omega)]
theorem sub_drop {l : List UInt8} {i j k : Nat} (h1 : i ≤ j) (h2 : j < k) : (subL l i k).drop (j - i + 1) = subL l (j + 1) k := by
  unfold subL
  rw [List.drop_take, List.drop_drop, show i + (j - i + 1) = j + 1 by omega, show k - i - (j - i + 1) = k - (j + 1) by omega]
/-- two names -/
theorem parts_two {l : List UInt8} {i j k : Nat} (h1 : i ≤ j) (h2 : j < k) (hk : k ≤ l.length) (hd : bt l j = 46) (ha : ∀ m, i ≤ m → m < j → bt l m ≠ 46) (hb : ∀ m, j + 1 ≤ m → m < k → bt l m ≠ 46) : parts (subL l i k) = [subL l i j, subL l (j + 1) k] := by
  have hj : j < l.length := by omega
  have h46 : l[j]? = some 46 := by
    rw [List.getElem?_eq_getElem hj]
    have := bt_of (List.getElem?_eq_getElem hj)
    rw [hd] at this
    exact congrArg some (UInt8.toNat_inj.1 this.symm)
  have hi : Lib.indexByte (subL l i k) 46 = ((j - i : Nat) : Int) := by
    refine idx_eq ?_ (fun m hm e => ?_)
    · unfold subL
      rw [List.getElem?_take, if_pos (by omega), List.getElem?_drop, show i + (j - i) = j by omega]
      exact h46
    · obtain ⟨e1, e2⟩ := sub_get e
      exact ha (i + m) (by omega) (by omega) (by rw [bt_of e1]; rfl)
  rw [parts_pos hi, sub_take h1 (by omega), sub_drop h1 h2, parts_one hb]
/-- the kinds of tokens of a line -/
theorem tok_name {l : List UInt8} {i j : Nat} (hi : i < l.length) (h3 : kl l i = 3) (hj : wrun l i = j) (hd : dotA l j 3 = false) :
    i < j ∧ j ≤ l.length ∧ tokE l i = (if 24 < j - i then 36 else 0) ∧ tokJ l i = (if 24 < j - i then i else j) ∧ tokC l i = (2, j) := by
  have hw : inW l i = true := by unfold inW; rw [h3]; rfl
  have hj' : wrun l (i + 1) = j := by rw [← hj, wrun_yes hw]
  have hg := wrun_ge l _ (i + 1) (Nat.le_refl _)
  rw [hj'] at hg
  have hle := hg.2 hi
  have hC : tokC l i = (2, j) := by unfold tokC endF; rw [if_pos h3, if_pos rfl, hj', hd, if_neg (by decide)]
  have hp := parts_one (l := l) (i := i) (j := j) (fun k h1 h2 => inW_46 (wrun_in _ i (Nat.le_refl _) k h1 (by rw [hj]; exact h2)))
  have hF : faultE 2 (subL l i j) = if 24 < j - i then 36 else 0 := by
    unfold faultE
    rw [if_pos (.inl rfl), hp, List.any_cons, List.any_nil, Bool.or_false, sub_len hle]
    simp
  refine ⟨by omega, hle, ?_, ?_, hC⟩
  · unfold tokE
    rw [hC, if_neg (by omega)]
    exact hF
  · unfold tokJ
    rw [hC, if_neg (by omega), hF]
    by_cases h : 24 < j - i
    · rw [if_pos h, if_pos h, if_neg (by decide)]
    · rw [if_neg h, if_neg h, if_pos rfl]
theorem tok_port {l : List UInt8} {i j k : Nat} (hi : i < l.length) (h3 : kl l i = 3) (hj : wrun l i = j) (hd : dotA l j 3 = true) (hk : wrun l (j + 1) = k) :
    i < j ∧ j + 1 < l.length ∧ j + 1 < k ∧ k ≤ l.length ∧ tokE l i = (if 24 < j - i ∨ 24 < k - j - 1 then 36 else 0) ∧ tokJ l i = (if 24 < j - i ∨ 24 < k - j - 1 then i else k) ∧ tokC l i = (3, k) := by
  have hw : inW l i = true := by unfold inW; rw [h3]; rfl
  have hj' : wrun l (i + 1) = j := by rw [← hj, wrun_yes hw]
  have hg := wrun_ge l _ (i + 1) (Nat.le_refl _)
  rw [hj'] at hg
  have hle := hg.2 hi
  obtain ⟨d1, d2⟩ : kl l j = 5 ∧ kl l (j + 1) = 3 := by unfold dotA at hd; simpa using hd
  obtain ⟨e1, e2⟩ := kl5 d1
  have e3 : j + 1 < l.length := Classical.byContradiction (fun h => by rw [kl0.2 h] at d2; cases d2)
  have hw2 : inW l (j + 1) = true := by unfold inW; rw [d2]; rfl
  have hg2 := wrun_ge l _ (j + 1 + 1) (Nat.le_refl _)
  rw [← wrun_yes hw2, hk] at hg2
  have hle2 := hg2.2 (by omega)
  have hC : tokC l i = (3, k) := by unfold tokC endF; rw [if_pos h3, if_pos rfl, hj', hd, if_pos rfl, hk]
  have hp := parts_two (l := l) (i := i) (j := j) (k := k) (by omega) (by omega) hle2 e2 (fun m h1 h2 => inW_46 (wrun_in _ i (Nat.le_refl _) m h1 (by rw [hj]; exact h2))) (fun m h1 h2 => inW_46 (wrun_in _ (j + 1) (Nat.le_refl _) m h1 (by rw [hk]; exact h2)))
  have hF : faultE 3 (subL l i k) = if 24 < j - i ∨ 24 < k - j - 1 then 36 else 0 := by
    unfold faultE
    rw [if_pos (.inr rfl), hp, List.any_cons, List.any_cons, List.any_nil, Bool.or_false, sub_len (by omega), sub_len hle2, show k - (j + 1) = k - j - 1 by omega]
    simp
  refine ⟨by omega, e3, by omega, hle2, ?_, ?_, hC⟩
  · unfold tokE
    rw [hC, if_neg (by omega)]
    exact hF
  · unfold tokJ
    rw [hC, if_neg (by omega), hF]
    by_cases h : 24 < j - i ∨ 24 < k - j - 1
    · rw [if_pos h, if_pos h, if_neg (by decide)]
    · rw [if_neg h, if_neg h, if_pos rfl]
theorem tok_num {l : List UInt8} {i : Nat} (hi : i < l.length) (hs : l.length ≤ 16384) (h4 : kl l i = 4) :
    i < nrun l i ∧ nrun l i ≤ l.length ∧ tokC l i = (4, nrun l i) ∧ tokE l i = (if numN (subL l i (nrun l i)) = none then 31 else 0) ∧ tokJ l i = (if numN (subL l i (nrun l i)) = none then i else nrun l i) := by
  have hw : (inW l i || dotA l i 4) = true := by unfold inW; rw [h4]; rfl
  have hy := nrun_yes hw
  have hg := nrun_ge l _ (i + 1) (Nat.le_refl _)
  rw [← hy] at hg
  have hle := hg.2 hi
  have hC : tokC l i = (4, nrun l i) := by
    unfold tokC endF
    rw [if_neg (by omega), if_pos h4, if_neg (by decide), if_neg (by decide), if_pos rfl, hy]
  have hF : faultE 4 (subL l i (nrun l i)) = if numN (subL l i (nrun l i)) = none then 31 else 0 := by
    have hl := subL_len l i (nrun l i)
    unfold faultE valE
    rw [if_neg (by decide), if_pos rfl, if_neg (by omega)]
    cases numN (subL l i (nrun l i)) <;> simp
  refine ⟨by omega, hle, hC, ?_, ?_⟩
  · unfold tokE
    rw [hC, if_neg (by omega)]
    exact hF
  · unfold tokJ
    rw [hC, if_neg (by omega), hF]
    cases numN (subL l i (nrun l i)) <;> simp
theorem tok_pat {l : List UInt8} {i : Nat} (hi : i < l.length) (h6 : kl l i = 6) :
    i < wrun l (i + 1) ∧ wrun l (i + 1) ≤ l.length ∧ tokC l i = (5, wrun l (i + 1)) ∧ tokE l i = (if patX (subL l i (wrun l (i + 1))) = true then 0 else 44) ∧ tokJ l i = (if patX (subL l i (wrun l (i + 1))) = true then wrun l (i + 1) else i) := by
  have hg := wrun_ge l _ (i + 1) (Nat.le_refl _)
  have hle := hg.2 hi
  have hC : tokC l i = (5, wrun l (i + 1)) := by
    unfold tokC endF
    rw [if_neg (by omega), if_neg (by omega), if_pos h6, if_neg (by decide), if_neg (by decide), if_neg (by decide), if_pos rfl]
  have hF : faultE 5 (subL l i (wrun l (i + 1))) = if patX (subL l i (wrun l (i + 1))) = true then 0 else 44 := by
    obtain ⟨t, ht⟩ : ∃ t, subL l i (wrun l (i + 1)) = t := ⟨_, rfl⟩
    rw [ht]
    unfold faultE patX
    rw [if_neg (by decide), if_neg (by decide), if_pos rfl]
    have e0 : (t.drop 1 = []) ↔ t.length ≤ 1 := by rw [← List.length_eq_zero_iff, List.length_drop]; omega
    rw [List.length_drop]
    by_cases ha : (t.drop 1).all is01x = true
    · by_cases hb : 2 ≤ t.length ∧ t.length ≤ 33
      · rw [if_neg (fun h => by rcases h with h | h | h <;> first | (rw [e0] at h; omega) | omega | (rw [ha] at h; cases h)), if_pos (by rw [ha]; simp [hb.1, hb.2])]
      · rw [if_pos (by rw [e0]; omega), if_neg (by simp only [Bool.and_eq_true, decide_eq_true_eq]; exact fun h => hb ⟨h.1, h.2.1⟩)]
    · rw [if_pos (.inr (.inr (Bool.eq_false_iff.2 ha))), if_neg (by simp only [Bool.and_eq_true]; exact fun h => ha h.2.2)]
  refine ⟨by omega, hle, hC, ?_, ?_⟩
  · unfold tokE
    rw [hC, if_neg (by omega)]
    exact hF
  · unfold tokJ
    rw [hC, if_neg (by omega), hF]
    cases patX (subL l i (wrun l (i + 1))) <;> simp
theorem tok_quo {l : List UInt8} {i : Nat} (hi : i < l.length) (hn : ∀ j, j < l.length → kl l j ≠ 1) (h7 : kl l i = 7) :
    ((insS l (i + 1) []).2.2 ≠ 0 → tokE l i = (insS l (i + 1) []).2.2 ∧ tokJ l i = (insS l (i + 1) []).2.1) ∧
    ((insS l (i + 1) []).2.2 = 0 → 256 < (insS l (i + 1) []).1.length → tokE l i = 37 ∧ tokJ l i = i) ∧
    ((insS l (i + 1) []).2.2 = 0 → ¬ 256 < (insS l (i + 1) []).1.length → tokE l i = 0 ∧ tokJ l i = (insS l (i + 1) []).2.1 ∧ tokC l i = (6, (insS l (i + 1) []).2.1)) := by
  have hC : tokC l i = (6, quoJ l i) := by
    unfold tokC endF
    rw [if_neg (by omega), if_neg (by omega), if_neg (by omega), if_pos h7, if_neg (by decide), if_neg (by decide), if_neg (by decide), if_neg (by decide)]
  have hf : ∀ t, faultE 6 t = 0 := fun t => by
    unfold faultE
    rw [if_neg (by decide), if_neg (by decide), if_neg (by decide), if_neg (by decide)]
  have h33 : ¬ ((insS l (i + 1) []).2.2 = 33 ∧ kl l (insS l (i + 1) []).2.1 = 1) := fun ⟨h1, h2⟩ => hn _ ((insS_at l _ (i + 1) [] (Nat.le_refl _) hi).2 h1) h2
  have hq : quoE l i = if (insS l (i + 1) []).2.2 = 0 ∧ 256 < (insS l (i + 1) []).1.length then 37 else (insS l (i + 1) []).2.2 := by unfold quoE; rw [if_neg h33]
  refine ⟨fun h => ?_, fun h1 h2 => ?_, fun h1 h2 => ?_⟩
  · have hc : ¬ ((insS l (i + 1) []).2.2 = 0 ∧ 256 < (insS l (i + 1) []).1.length) := fun hh => h hh.1
    have hq1 : quoE l i = (insS l (i + 1) []).2.2 := hq.trans (if_neg hc)
    have hj1 : quoJ l i = (insS l (i + 1) []).2.1 := by unfold quoJ; exact if_neg hc
    have h7' : kl l i = 7 ∧ quoE l i ≠ 0 := ⟨h7, by rw [hq1]; exact h⟩
    exact ⟨by unfold tokE; rw [if_pos h7', hq1], by unfold tokJ; rw [if_pos h7', hj1]⟩
  · have hq1 : quoE l i = 37 := hq.trans (if_pos ⟨h1, h2⟩)
    have hj1 : quoJ l i = i := by unfold quoJ; exact if_pos ⟨h1, h2⟩
    have h7' : kl l i = 7 ∧ quoE l i ≠ 0 := ⟨h7, by rw [hq1]; decide⟩
    exact ⟨by unfold tokE; rw [if_pos h7', hq1], by unfold tokJ; rw [if_pos h7', hj1]⟩
  · have hq1 : quoE l i = 0 := (hq.trans (if_neg (fun hh => h2 hh.2))).trans h1
    have hj1 : quoJ l i = (insS l (i + 1) []).2.1 := by unfold quoJ; exact if_neg (fun hh => h2 hh.2)
    have h7' : ¬ (kl l i = 7 ∧ quoE l i ≠ 0) := fun hh => hh.2 hq1
    exact ⟨by unfold tokE; rw [if_neg h7', hC, hf], by unfold tokJ; rw [if_neg h7', hC, hf, if_pos rfl, hj1], by rw [hC, hj1]⟩
theorem find_eq (a : List UInt8) : ∀ L : List (List UInt8), L.find? (fun s => s == a) = if a ∈ L then some a else none
  | [] => rfl
  | b :: L => by
    rw [List.find?_cons, find_eq a L]
    by_cases h : b = a
    · subst h
      simp
    · have : (b == a) = false := beq_eq_false_iff_ne.2 h
      rw [this]
      simp only [List.mem_cons]
      by_cases h2 : a ∈ L
      · rw [if_pos h2, if_pos (.inr h2)]
      · rw [if_neg h2, if_neg (fun hh => hh.elim (fun e => h e.symm) h2)]
theorem find_cong {α : Type} {p q : α → Bool} : ∀ L : List α, (∀ x ∈ L, p x = q x) → L.find? p = L.find? q := findc
abbrev signs2 : List (List UInt8) := [[33, 61], [60, 61], [62, 61], [46, 46], [45, 62]]
abbrev signs1 : List (List UInt8) := [[40], [41], [33], [61], [60], [62], [38], [124], [44], [58], [47]]
theorem pre_two (x y : UInt8) (r : List UInt8) : ∀ s ∈ signs2, Lib.hasPrefix (x :: y :: r) s = (s == [x, y]) := by
  intro s hs
  have h2 : ∀ s ∈ signs2, s.length = 2 := by decide
  obtain ⟨a, b, rfl⟩ : ∃ a b, s = [a, b] := by
    have := h2 s hs
    match s, this with
    | [a, b], _ => exact ⟨a, b, rfl⟩
  unfold Lib.hasPrefix
  simp [List.isPrefixOf]
theorem pre_one (x : UInt8) (r : List UInt8) : ∀ s ∈ signs1, Lib.hasPrefix (x :: r) s = (s == [x]) := by
  intro s hs
  have h2 : ∀ s ∈ signs1, s.length = 1 := by decide
  obtain ⟨a, rfl⟩ : ∃ a, s = [a] := by
    have := h2 s hs
    match s, this with
    | [a], _ => exact ⟨a, rfl⟩
  unfold Lib.hasPrefix
  simp [List.isPrefixOf]
theorem sgn_two (x y : UInt8) (r : List UInt8) : sgn (x :: y :: r) = if [x, y] ∈ signs2 then 2 else if [x] ∈ signs1 then 1 else 0 := by
  unfold sgn
  rw [show signsL = signs2 ++ signs1 from rfl, List.find?_append, find_cong signs2 (pre_two x y r), find_cong signs1 (pre_one x (y :: r)), find_eq, find_eq]
  by_cases h : [x, y] ∈ signs2
  · rw [if_pos h, if_pos h]; rfl
  · rw [if_neg h, if_neg h]
    by_cases h1 : [x] ∈ signs1
    · rw [if_pos h1, if_pos h1]; rfl
    · rw [if_neg h1, if_neg h1]; rfl
theorem sgn_one (x : UInt8) : sgn [x] = if [x] ∈ signs1 then 1 else 0 := by
  unfold sgn
  have hn : signs2.find? (fun s => Lib.hasPrefix [x] s) = none := by
    rw [List.find?_eq_none]
    intro s hs
    have h2 : ∀ s ∈ signs2, s.length = 2 := by decide
    have := h2 s hs
    match s, this with
    | [a, b], _ => simp [Lib.hasPrefix, List.isPrefixOf]
  rw [show signsL = signs2 ++ signs1 from rfl, List.find?_append, hn, find_cong signs1 (pre_one x []), find_eq]
  by_cases h1 : [x] ∈ signs1
  · rw [if_pos h1, if_pos h1]; rfl
  · rw [if_neg h1, if_neg h1]; rfl
theorem tok_sign {l : List UInt8} {i : Nat} (h3 : kl l i ≠ 3) (h4 : kl l i ≠ 4) (h6 : kl l i ≠ 6) (h7 : kl l i ≠ 7) :
    tokC l i = (7, i + sgn (l.drop i)) ∧ tokE l i = (if sgn (l.drop i) = 0 then 30 else 0) ∧ tokJ l i = i + sgn (l.drop i) := by
  have hC : tokC l i = (7, i + sgn (l.drop i)) := by
    unfold tokC
    rw [if_neg h3, if_neg h4, if_neg h6, if_neg h7]
  have hl := (sgn_pre (l.drop i)).1
  have hF : faultE 7 (subL l i (i + sgn (l.drop i))) = if sgn (l.drop i) = 0 then 30 else 0 := by
    unfold faultE
    rw [if_neg (by decide), if_neg (by decide), if_neg (by decide), if_pos rfl]
    have e : subL l i (i + sgn (l.drop i)) = [] ↔ sgn (l.drop i) = 0 := by
      unfold subL
      rw [← List.length_eq_zero_iff, List.length_take, Nat.add_sub_cancel_left]
      omega
    by_cases h : sgn (l.drop i) = 0
    · rw [if_pos (e.2 h), if_pos h]
    · rw [if_neg (fun hh => h (e.1 hh)), if_neg h]
  refine ⟨hC, ?_, ?_⟩
  · unfold tokE
    rw [hC, if_neg (fun h => h7 h.1)]
    exact hF
  · unfold tokJ
    rw [hC, if_neg (fun h => h7 h.1), hF]
    by_cases h : sgn (l.drop i) = 0
    · rw [if_pos h, if_neg (by decide), h]; rfl
    · rw [if_neg h, if_pos rfl]
end Go.Proofs.YtialcphfaleedaaGreatDoor

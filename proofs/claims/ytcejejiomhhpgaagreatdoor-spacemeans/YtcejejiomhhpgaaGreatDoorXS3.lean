import Derived.Test.YtcejejiomhhpgaaGreatDoorXS1
import Derived.Test.YtcejejiomhhpgaaGreatDoorXS2
import Derived.Test.YtcejejiomhhpgaaGreatDoorXAS
import Derived.Test.YtcejejiomhhpgaaGreatDoorXBN
namespace Go.Proofs.YtcejejiomhhpgaaGreatDoor
open Go.RowKit Go.Shelf
theorem ih_hd {b : Int} {h : List UInt8} (hb : 1 ≤ b) : hdB b h = ihB b h := by
  unfold hdB ihB
  have : (b == 0) = false := by rw [beq_eq_false_iff_ne]; omega
  rw [this]
  simp
theorem rst_of {w : World} {q : Option Addr} {len : Nat} {SL : List ByteArray} (hlen : SL.length = len) (hcell0 : ∀ i, i < len → ∃ ad, q = some ad ∧ w.cell? (ad.add i) = some (.string (SL.getD i ByteArray.empty))) (hsz0 : ∀ s ∈ SL, s.size ≤ maxLen) : RST w q len := fun X hX i hi => by
  obtain ⟨ad, e1, e2⟩ := hcell0 i hi
  have hi' : i < SL.length := by omega
  rw [List.getD_eq_getElem?_getD, List.getElem?_eq_getElem hi', Option.getD_some] at e2
  exact ⟨ad, SL[i].data.toList, e1, (hX.cell (World.block_lt_of_cell? w _ e2)).trans e2, hsz0 _ (List.getElem_mem hi')⟩
set_option maxRecDepth 100000 in
set_option maxHeartbeats 8000000 in
theorem saidS_walk (b : Int) (l : List UInt8) (q : Option Addr) (len cap : Nat) (SL : List ByteArray) (w : World) (hl0 : l.length ≤ 281474976710656) (hlen : SL.length = len) (hcell0 : ∀ i, i < len → ∃ ad, q = some ad ∧ w.cell? (ad.add i) = some (.string (SL.getD i ByteArray.empty))) (hsz0 : ∀ s ∈ SL, s.size ≤ maxLen) (hcap : len ≤ cap) : Calls Tryz.prog 3 #[.int .i64 b, .string ⟨l.toArray⟩, .slice q len cap] w fun e w' => e = .returned (.bool true) ∧ Below w.heap.size w w' := by
  have hl : l.length ≤ maxLen := by unfold maxLen; omega
  have hok := prT_ok b l
  have hbk := pr_back b l
  have hpz := @prE_zero b l
  have hsd : prE b l = 0 → ∀ h, sdB l h = Dn h (prT b l) ∧ sdB (txC (prT b l)) h = Dn h (prT b l) := fun h0 h => by
    refine ⟨sd_pr h h0, ?_⟩
    rw [sd_pr (b := b) h (hbk h0).1, (hbk h0).2]
  have hhs := hs_eq b l
  have hB0 : prE b l = 0 → prB b l = b := fun h => by unfold prB; rw [if_pos h]
  have hB1' : ¬ prE b l = 0 → prB b l = 0 ∧ prT b l = [] := fun h => ⟨by unfold prB; rw [if_neg h], by unfold prT; rw [if_neg h]⟩
  obtain ⟨B1, hB1⟩ : ∃ B, prB b l = B := ⟨_, rfl⟩
  obtain ⟨E1, hE1⟩ : ∃ B, prE b l = B := ⟨_, rfl⟩
  obtain ⟨X1, hX1⟩ : ∃ X, prT b l = X := ⟨_, rfl⟩
  have HP : Hid (∀ W, Calls Tryz.prog 7 #[.int .i64 b, .string ⟨l.toArray⟩] W fun e w' => ∃ V, e = .returned (.tuple #[.agg #[.int .i64 B1, V, .bool false], .int .i64 E1]) ∧ SPL w' W.heap.size V X1 ∧ Below W.heap.size W w') := fun W => by
    have h := sParse_any b l W hl
    unfold PRS at h
    rw [hB1, hE1, hX1] at h
    exact h
  rw [hX1] at hok hsd hhs hB1'
  rw [hE1] at hsd hB0 hB1' hpz
  rw [hB1] at hB0 hB1' hhs
  have h5 := szC_len X1
  have HR : Hid (RST w q len) := rst_of hlen hcell0 hsz0
  have htl := txC_len hok.1 hok.2
  clear hlen hcell0 hsz0 hB1 hE1 hX1 hbk SL
  obtain ⟨n, hn⟩ : ∃ n, X1.length = n := ⟨_, rfl⟩
  go_enter Tryz.func3, Tryz.ntmps3
  go_wp2_with fail
  refine (awake_any _).mono ?_
  rintro e w1 ⟨rfl, hb1⟩
  go_wp2_with fail
  refine (HP.out _).mono ?_
  rintro e w2 ⟨V, rfl, sv, hb2⟩
  obtain ⟨p, c, rfl⟩ := sv.shape
  rw [hn] at sv ⊢
  have HF : Hid (∀ W, Below (w2.alloc (.cells #[.int .i64 B1, .slice p n c, .bool false] 26 (0, 0))).heap.size (w2.alloc (.cells #[.int .i64 B1, .slice p n c, .bool false] 26 (0, 0))) W → ((∀ j, W.cell? ⟨w2.heap.size, j, none⟩ = (#[.int .i64 B1, .slice p n c, .bool false] : Array Value)[j]?) ∧ SPL W 0 (.slice p n c) X1 ∧ RST W q len ∧ Below w.heap.size w W)) := fun W hW => by
    have h2 : Below w2.heap.size w2 W := bel0 (belA (Below.refl _ _) _) hW
    have h1 := bel0 hb1 (bel0 hb2 h2)
    exact ⟨(cells_block (keepblk3 hW (alloc_get _ _))).1, (sv.below h2).base (Nat.zero_le _), HR.out.later h1, h1⟩
  obtain ⟨f1, -⟩ := HF.out (w2.alloc (.cells #[.int .i64 B1, .slice p n c, .bool false] 26 (0, 0))) (Below.refl _ _)
  have HTX : Hid (∀ W, Below (w2.alloc (.cells #[.int .i64 B1, .slice p n c, .bool false] 26 (0, 0))).heap.size (w2.alloc (.cells #[.int .i64 B1, .slice p n c, .bool false] 26 (0, 0))) W → Calls Tryz.prog 8 #[.agg #[.int .i64 B1, .slice p n c, .bool false]] W fun e w' => e = .returned (.string ⟨(txC X1).toArray⟩) ∧ Below W.heap.size W w') := fun W hW => spText_any B1 _ X1 0 W (HF.out W hW).2.1 hok.2 hok.1
  have HBi : Hid (∀ W, Calls Tryz.prog 9 #[.agg #[.int .i64 B1, .slice p n c, .bool false]] W fun e w' => e = .returned (.int .i64 B1) ∧ Below W.heap.size W w') := fun W => bits_any B1 p n c W
  have HHA : Hid (∀ (W : World) (x : List UInt8) (z : Bool), Below (w2.alloc (.cells #[.int .i64 B1, .slice p n c, .bool false] 26 (0, 0))).heap.size (w2.alloc (.cells #[.int .i64 B1, .slice p n c, .bool false] 26 (0, 0))) W → x.length ≤ maxLen → hsB X1 x = z → Calls Tryz.prog 12 #[.agg #[.int .i64 B1, .slice p n c, .bool false], .string ⟨x.toArray⟩] W fun e w' => e = .returned (.bool z) ∧ Below W.heap.size W w') := fun W x z hW hx hz => by
    have h := sHas_any B1 (.slice p n c) X1 0 ⟨x.toArray⟩ W (HF.out W hW).2.1 hok.1 (by omega) (fun t ht => by have := szC_mem t ht; omega) (by simpa [ByteArray.size] using hx)
    have e : (⟨x.toArray⟩ : ByteArray).data.toList = x := rfl
    rw [e, hz] at h
    exact h
  clear sv hb1 hb2 HP HR hn h5
  by_cases hE : E1 = 0
  · subst hE
    obtain rfl : B1 = b := hB0 rfl
    have HSD : Hid (∀ h, sdB l h = Dn h X1 ∧ sdB (txC X1) h = Dn h X1) := hsd rfl
    have HHS : Hid (∀ h, hsB X1 h = (hdB B1 h && X1.any (fun t => tdB t.1 t.2 h))) := hhs
    have HB1 : Hid (1 ≤ B1 ∧ B1 ≤ 256) := ⟨(hpz rfl).1, (hpz rfl).2.1⟩
    have HTL : Hid ((txC X1).length ≤ 281474976710656) := by unfold Hid; omega
    have HLL : Hid (l.length ≤ 281474976710656) := hl0
    clear hsd hhs hB0 hB1' hpz hok htl hl hl0
    go_wp2_with fail
    refine (HTX.out _ (Below.refl _ _)).mono ?_
    rintro e w3 ⟨rfl, hb3⟩
    have HB3 : Hid (Below (w2.alloc (.cells #[.int .i64 B1, .slice p n c, .bool false] 26 (0, 0))).heap.size (w2.alloc (.cells #[.int .i64 B1, .slice p n c, .bool false] 26 (0, 0))) w3) := hb3
    clear f1 hb3
    go_wp2_with fail
    refine (headers_any B1 q len cap _ hcap (HF.out w3 HB3.out).2.2.1).mono ?_
    rintro e w4 ⟨q4, n4, c4, rfl, hn4, hr4, hb4⟩
    have HB4 : Hid (Below (w2.alloc (.cells #[.int .i64 B1, .slice p n c, .bool false] 26 (0, 0))).heap.size (w2.alloc (.cells #[.int .i64 B1, .slice p n c, .bool false] 26 (0, 0))) w4) := bel0 HB3.out hb4
    have HR4 : Hid (RST w4 q4 n4) := hr4
    clear hr4 hb4 HB3 hcap
    go_wp2_with fail
    go_loopw [11] (fun v11 wr => ∃ i : Nat, v11 = .int .i64 (i : Int) ∧ i ≤ n4 ∧ Hid (Below w4.heap.size w4 wr)) (fun v11 _ => n4 - (intOf v11).toNat)
    case atStart => exact ⟨0, rfl, Nat.zero_le _, Below.refl _ _⟩
    case round =>
      obtain ⟨i, rfl, hi, hBr⟩ := hrel
      by_cases hlt : i < n4
      · have j1 : (i : Int) < (n4 : Int) := by omega
        have j0 : (0 : Int) ≤ (i : Int) := by omega
        obtain ⟨ad, x, rfl, hcx, hxl⟩ := HR4.out wr hBr.out i hlt
        obtain ⟨f2, -⟩ := HF.out wr (bel0 HB4.out hBr.out)
        have HIH := isHeader_any B1 ⟨x.toArray⟩ wr (by simpa [ByteArray.size] using hxl)
        have ex : (⟨x.toArray⟩ : ByteArray).data.toList = x := rfl
        rw [ex] at HIH
        obtain ⟨z, hz⟩ : ∃ z, ihB B1 x = z := ⟨_, rfl⟩
        rw [hz] at HIH
        have HI : Hid (Calls Tryz.prog 11 #[.int .i64 B1, .string ⟨x.toArray⟩] wr fun e w' => e = .returned (.bool z) ∧ Below wr.heap.size wr w') := HIH
        have HXL : Hid (x.length ≤ maxLen ∧ ihB B1 x = z) := ⟨hxl, hz⟩
        have HBW : Hid (Below (w2.alloc (.cells #[.int .i64 B1, .slice p n c, .bool false] 26 (0, 0))).heap.size (w2.alloc (.cells #[.int .i64 B1, .slice p n c, .bool false] 26 (0, 0))) wr) := bel0 HB4.out hBr.out
        clear HIH hz ex hxl
        go_wp2_with fail
        refine HI.out.mono ?_
        rintro e w5 ⟨rfl, hb5⟩
        obtain ⟨f3, -⟩ := HF.out w5 (bel0 HBW.out hb5)
        clear f2 hcx HI
        cases z with
        | false =>
          have HH : Hid (hsB X1 x = false) := by
            unfold Hid
            rw [HHS.out, ih_hd HB1.out.1, HXL.out.2]
            rfl
          go_wp2_with fail
          refine (HHA.out w5 x false (bel0 HBW.out hb5) HXL.out.1 HH.out).mono ?_
          rintro e w6 ⟨rfl, hb6⟩
          have HX : Hid (Below w4.heap.size w4 w6) := bel0 hBr.out (bel0 hb5 hb6)
          clear f3 hb5 hb6
          go_wp2_with fail
          go_roundw
          case rel => exact ⟨i + 1, by go_num, by omega, HX⟩
          case measure => simp [intOf]; omega
        | true =>
          obtain ⟨y, hy⟩ : ∃ y, Dn x X1 = y := ⟨_, rfl⟩
          have hdg : x.all digB = true := by
            have h := HXL.out.2
            unfold ihB at h
            exact (Bool.and_eq_true_iff.1 h).2
          have HH : Hid (hsB X1 x = y ∧ sdB l x = y ∧ sdB (txC X1) x = y) := ⟨by rw [hs_dn hdg, hy], by rw [(HSD.out x).1, hy], by rw [(HSD.out x).2, hy]⟩
          have HS1 : Hid (∀ W, Calls Tryz.prog 13 #[.string ⟨l.toArray⟩, .string ⟨x.toArray⟩] W fun e w' => e = .returned (.bool y) ∧ Below W.heap.size W w') := fun W => by
            have h := said_any l x W HLL.out HXL.out.1
            rw [HH.out.2.1] at h
            exact h
          have HS2 : Hid (∀ W, Calls Tryz.prog 13 #[.string ⟨(txC X1).toArray⟩, .string ⟨x.toArray⟩] W fun e w' => e = .returned (.bool y) ∧ Below W.heap.size W w') := fun W => by
            have h := said_any (txC X1) x W HTL.out HXL.out.1
            rw [HH.out.2.2] at h
            exact h
          clear hdg hy
          go_wp2_with fail
          refine (HHA.out w5 x y (bel0 HBW.out hb5) HXL.out.1 HH.out.1).mono ?_
          rintro e w6 ⟨rfl, hb6⟩
          go_wp2_with fail
          refine (HS1.out _).mono ?_
          rintro e w7 ⟨rfl, hb7⟩
          have hb7' := bel0 hb5 (bel0 hb6 hb7)
          obtain ⟨f4, -⟩ := HF.out w7 (bel0 HBW.out hb7')
          clear f3 hb5 hb6 hb7
          cases y
          all_goals
            go_wp2_with fail
            refine (HHA.out w7 x _ (bel0 HBW.out hb7') HXL.out.1 HH.out.1).mono ?_
            rintro e w8 ⟨rfl, hb8⟩
            go_wp2_with fail
            refine (HS2.out _).mono ?_
            rintro e w9 ⟨rfl, hb9⟩
            have HX : Hid (Below w4.heap.size w4 w9) := bel0 hBr.out (bel0 hb7' (bel0 hb8 hb9))
            clear f4 hb7' hb8 hb9
            go_wp2_with fail
            go_roundw
            case rel => exact ⟨i + 1, by go_num, by omega, HX⟩
            case measure => simp [intOf]; omega
      · have j1 : ¬ (i : Int) < (n4 : Int) := by omega
        have HW : Hid (Below w.heap.size w wr) := (HF.out wr (bel0 HB4.out hBr.out)).2.2.2
        clear hBr
        go_wp2_with fail
        go_ret
        exact ⟨rfl, HW.out⟩
  · have e0 : (E1 != 0) = true := by simpa using hE
    obtain ⟨rfl, rfl⟩ := hB1' hE
    clear hsd hhs hB0 hB1' hpz hok htl hE
    go_wp2_with fail
    refine (HTX.out _ (Below.refl _ _)).mono ?_
    rintro e w3 ⟨rfl, hb3⟩
    have HB3 : Hid (Below (w2.alloc (.cells #[.int .i64 0, .slice p n c, .bool false] 26 (0, 0))).heap.size (w2.alloc (.cells #[.int .i64 0, .slice p n c, .bool false] 26 (0, 0))) w3) := hb3
    obtain ⟨f2, -⟩ := HF.out w3 HB3.out
    have ht : txC [] = [110, 111, 110, 101] := rfl
    rw [ht]
    clear f1 hb3
    go_wp2_with fail
    refine (HBi.out _).mono ?_
    rintro e w4 ⟨rfl, hb4⟩
    go_wp2_with fail
    go_ret
    exact ⟨rfl, (HF.out w4 (bel0 HB3.out hb4)).2.2.2⟩
end Go.Proofs.YtcejejiomhhpgaaGreatDoor

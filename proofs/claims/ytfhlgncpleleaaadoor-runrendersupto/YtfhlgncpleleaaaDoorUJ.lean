import Derived.Test.YtfhlgncpleleaaaDoorUI
namespace Go.Proofs.YtfhlgncpleleaaaDoor
open Go.RowKit Go.Shelf
theorem renL_succ {L : List (List UInt8)} {i : Nat} {x : List UInt8} (h : L[i]? = some x) : renL (L.take (i + 1)) = renL (L.take i) ++ (x ++ [10]) := by
  unfold renL
  rw [List.take_add_one, h, Option.toList_some, List.flatMap_append]
  simp
theorem renL_le (L : List (List UInt8)) (i : Nat) : (renL (L.take i)).length ≤ (renL L).length := by
  have : renL L = renL (L.take i) ++ renL (L.drop i) := by
    unfold renL
    rw [← List.flatMap_append, List.take_append_drop]
  rw [this, List.length_append]
  omega
theorem len_renL (L : List (List UInt8)) : L.length ≤ (renL L).length := by
  induction L with
  | nil => simp
  | cons a r ih =>
    show r.length + 1 ≤ (a ++ [10] ++ renL r).length
    rw [List.length_append, List.length_append]
    simp
    omega
theorem stZ_one {L : List (List UInt8)} : ∀ u ∈ stZ L, u.oneCell' = true := fun u hu => by
  unfold stZ at hu
  obtain ⟨x, _, rfl⟩ := List.mem_map.1 hu
  simp [Value.oneCell']
def tdF (Es : List VR) : List (List UInt8) := (rps Es).flatMap tdL
theorem tdF_succ {Es : List VR} {i : Nat} {e : VR} (h : Es[i]? = some e) : tdF (Es.take (i + 1)) = tdF (Es.take i) ++ tdL e.r := by
  unfold tdF rps
  rw [List.take_add_one, h, Option.toList_some, List.map_append, List.flatMap_append]
  simp
theorem tdF_le (Es : List VR) (i : Nat) : (tdF (Es.take i)).length ≤ (tdF Es).length := by
  have : tdF Es = tdF (Es.take i) ++ tdF (Es.drop i) := by
    unfold tdF rps
    rw [← List.flatMap_append, ← List.map_append, List.take_append_drop]
  rw [this, List.length_append]
  omega
theorem tdF_flR (Es : List VR) : renL (tdF Es) = flR Es := renL_flat (rps Es)
theorem rnR_flR {Es : List VR} {i : Nat} {e : VR} (h : Es[i]? = some e) : (rnR e.r).length ≤ (flR Es).length := by
  have h1 := flR_succ h
  have h2 := flR_le Es (i + 1)
  rw [h1, List.length_append] at h2
  omega
set_option maxRecDepth 100000 in
set_option maxHeartbeats 16000000 in
theorem drender_any (s : RS) (Es : List VR) (q : Option Addr) (n c : Nat) (w : World) (hn : Es.length = n) (hr : RDR w q Es) (ht : TBL w) (hB : BND s Es) :
    Calls Tryd.prog 7 #[.agg #[.int .i64 s.k, .int .i64 s.c, .int .i64 s.t, .int .i64 s.l, .slice q n c]] w fun e w' => e = .returned (.string ⟨(rnS s (rps Es)).toArray⟩) ∧ Below w.heap.size w w' := by
  obtain ⟨iS, hiS, hzS0, hzS1, hzS2⟩ := info_parts info_stZ
  obtain ⟨k, cd, tx, ln⟩ := s
  simp only
  obtain ⟨bb, hbb⟩ : ∃ bb, w.heap.size = bb := ⟨_, rfl⟩
  obtain ⟨cdT, hcd⟩ : ∃ T, itL cd = T := ⟨_, rfl⟩
  obtain ⟨lnT, hln⟩ : ∃ T, itL ln = T := ⟨_, rfl⟩
  have lc : cdT.length ≤ 21 := by rw [← hcd]; exact Lib.itoa_length_le cd hB.c0 hB.c1
  have ll : lnT.length ≤ 21 := by rw [← hln]; exact Lib.itoa_length_le ln hB.l0 hB.l1
  have hWA : Below w.heap.size w (w.alloc (.cells #[.int .i64 k, .int .i64 cd, .int .i64 tx, .int .i64 ln, .slice q n c] 25 (0, 0))) := belAZ (Below.refl _ _) _
  have hCL : ∀ U, BLZ (w.alloc (.cells #[.int .i64 k, .int .i64 cd, .int .i64 tx, .int .i64 ln, .slice q n c] 25 (0, 0))) U → ∀ j, U.cell? ⟨bb, j, none⟩ = (#[.int .i64 k, .int .i64 cd, .int .i64 tx, .int .i64 ln, .slice q n c] : Array Value)[j]? := fun U hU => (cellsZ (keepZ (show Below _ _ _ from hU) (by rw [← hbb]; exact alloc_getZ _ _))).1
  have HI1 := itoaU cd hB.c0 hB.c1 (w.alloc (.cells #[.int .i64 k, .int .i64 cd, .int .i64 tx, .int .i64 ln, .slice q n c] 25 (0, 0))) (ht.below hWA)
  have HI2 : Hid (∀ U, Below w.heap.size w U → Calls Tryd.prog 8 #[.int .i64 ln] U fun e w' => e = .returned (.string ⟨lnT.toArray⟩) ∧ Below U.heap.size U w') := fun U hU => by rw [← hln]; exact itoaU ln hB.l0 hB.l1 U (ht.below hU)
  rw [hcd] at HI1
  have HR : Hid (RDR w q Es ∧ TBL w ∧ BND ⟨k, cd, tx, ln⟩ Es ∧ Es.length = n) := ⟨hr, ht, hB, hn⟩
  have HTT : Hid ((renL (tdS ⟨k, cd, tx, ln⟩ (rps Es))).length ≤ 10000000000000) := by
    unfold Hid
    rw [ren_all]
    have h1 := hB.tot
    unfold rnS
    simp only [hcd, hln]
    unfold flR at h1
    repeat' split
    all_goals first | exact Nat.le_trans h1 (by omega) | (simp; omega) | simp
  have hc0 := hCL (w.alloc (.cells #[.int .i64 k, .int .i64 cd, .int .i64 tx, .int .i64 ln, .slice q n c] 25 (0, 0))) (Below.refl _ _)
  have HCLX : Hid (∀ U, BLZ (w.alloc (.cells #[.int .i64 k, .int .i64 cd, .int .i64 tx, .int .i64 ln, .slice q n c] 25 (0, 0))) U → ∀ j, U.cell? ⟨bb, j, none⟩ = (#[.int .i64 k, .int .i64 cd, .int .i64 tx, .int .i64 ln, .slice q n c] : Array Value)[j]?) := hCL
  have HWAX : Hid (Below w.heap.size w (w.alloc (.cells #[.int .i64 k, .int .i64 cd, .int .i64 tx, .int .i64 ln, .slice q n c] 25 (0, 0)))) := hWA
  clear hr ht hB hn hCL hWA
  go_enter Tryd.func7, Tryd.ntmps7
  go_wp2_with fail
  refine HI1.mono ?_
  rintro e w1 ⟨rfl, hb1⟩
  have HI2' := HI2.out w1 (bel0Z HWAX.out hb1)
  have HB1 : Hid (BLZ (w.alloc (.cells #[.int .i64 k, .int .i64 cd, .int .i64 tx, .int .i64 ln, .slice q n c] 25 (0, 0))) w1) := hb1
  have hc1 := HCLX.out w1 hb1
  clear HI1 hc0 hb1
  go_wp2_with fail
  refine HI2'.mono ?_
  rintro e A1 ⟨rfl, hb2⟩
  have HWA : Hid (Below w.heap.size w A1) := bel0Z HWAX.out (HB1.out.trans hb2)
  have HCL : Hid (∀ U, BLZ A1 U → ∀ j, U.cell? ⟨bb, j, none⟩ = (#[.int .i64 k, .int .i64 cd, .int .i64 tx, .int .i64 ln, .slice q n c] : Array Value)[j]?) := fun U hU => HCLX.out U ((HB1.out.trans hb2).trans hU)
  clear HI2' HI2 hc1 hb2 HB1 HCLX HWAX
  have cl := HCL.out A1 (Below.refl _ _)
  go_upto_block 0 with fail
  go_cut [5] from 9 (fun v5 wc => ∃ (pp : Option Addr) (nn cc : Nat), v5 = .slice pp nn cc ∧ nn ≤ 200000000000 ∧ Hid (∃ TS, tdS ⟨k, cd, tx, ln⟩ (rps Es) = TS ∧ TS.length = nn ∧ wc.ownsRow A1.heap.size 9 1 (.slice pp nn cc) nn (stZ TS) ∧ BLZ A1 wc))
  case first =>
    by_cases k1 : k = 1
    · subst k1
      have H0 : Hid (∃ TS, tdF (Es.take 0) = TS ∧ (TS.length = 0 ∧ A1.ownsRow A1.heap.size 9 1 (.slice (none : Option Addr) 0 0) 0 (stZ TS) ∧ BLZ A1 A1)) := ⟨[], rfl, rfl, World.ownsRow_nil _ _ _ _, Below.refl _ _⟩
      have HTS : Hid (tdS (RS.mk 1 cd tx ln) (rps Es) = tdF Es) := by
        unfold Hid tdS
        rw [if_pos rfl]
        rfl
      clear hcd hln
      go_wp2_with fail
      clear cl
      go_loopw [5, 6] (fun v5 v6 wr => ∃ (i m : Nat) (p : Option Addr) (c' : Nat), v6 = .int .i64 (i : Int) ∧ v5 = .slice p m c' ∧ i ≤ n ∧ m ≤ 200000000000 ∧ Hid (∃ TS, tdF (Es.take i) = TS ∧ TS.length = m ∧ wr.ownsRow A1.heap.size 9 1 (.slice p m c') m (stZ TS) ∧ BLZ A1 wr)) (fun _ v6 _ => n - (intOf v6).toNat)
      case atStart => exact ⟨0, 0, none, 0, rfl, rfl, Nat.zero_le _, by omega, H0⟩
      case round =>
        clear H0
        obtain ⟨i, m, p, c', rfl, rfl, hi, hm, HL⟩ := hrel
        obtain ⟨TS, hTS, hT1, hT2, hT3⟩ := HL.out
        have HK : Hid (TS.length = m ∧ wr.ownsRow A1.heap.size 9 1 (.slice p m c') m (stZ TS) ∧ BLZ A1 wr) := ⟨hT1, hT2, hT3⟩
        have HTQ : Hid (tdF (Es.take i) = TS) := hTS
        have cl := HCL.out wr hT3
        clear HL hTS hT1 hT2 hT3
        have hnn : n ≤ 1000000000 := by have := HR.out.2.2.1.cnt; rw [HR.out.2.2.2] at this; exact this
        by_cases hlt : i < n
        · have i0 : (0 : Int) ≤ (i : Int) := by omega
          have i1 : (i : Int) < (n : Int) := by omega
          obtain ⟨e, he⟩ : ∃ e, Es[i]? = some e := ⟨_, List.getElem?_eq_getElem (by rw [HR.out.2.2.2]; exact hlt)⟩
          obtain ⟨⟨g, o0, rfl, hcs⟩, hvo⟩ := HR.out.1 wr (bel0Z HWA.out HK.out.2.2) i e he
          have HD := told_any e wr hvo (by have := rnR_flR he; have := HR.out.2.2.1.tot; omega) (HR.out.2.2.1.each e (List.mem_of_getElem? he))
          have hsu := tdF_succ he
          have hle := tdF_le Es (i + 1)
          have hlr := len_renL (tdF Es)
          rw [tdF_flR] at hlr
          have htot := HR.out.2.2.1.tot
          rw [hsu, HTQ.out, List.length_append, HK.out.1] at hle
          obtain ⟨D, hD⟩ : ∃ D, tdL e.r = D := ⟨_, rfl⟩
          rw [hD] at HD hsu hle
          have HD0 : Hid (D.length ≠ 0) := by unfold Hid; rw [← hD]; unfold tdL; simp
          have hmm : m + D.length ≤ 200000000000 := by omega
          have HSU : Hid (tdF (Es.take (i + 1)) = TS ++ D) := by unfold Hid; rw [hsu, HTQ.out]
          clear hsu hle hlr htot he hD hvo HTQ
          obtain ⟨⟨k1, fd, sp, wi, po, en, fi, li, mo⟩, p1, c1, p2, c2, p3, c3⟩ := e
          unfold VR.vs at HD hcs
          simp only at HD hcs
          have x0 := hcs 0 _ rfl
          have x1 := hcs 1 _ rfl
          have x2 := hcs 2 _ rfl
          have x3 := hcs 3 _ rfl
          have x4 := hcs 4 _ rfl
          have x5 := hcs 5 _ rfl
          have x6 := hcs 6 _ rfl
          have x7 := hcs 7 _ rfl
          have x8 := hcs 8 _ rfl
          rw [Nat.add_zero] at x0
          clear hcs
          go_wp2_with fail
          refine HD.mono ?_
          rintro e w3 ⟨v3, rfl, o3, b3⟩
          obtain ⟨p3', c3', rfl⟩ := o3.shape
          rw [stZ_len] at o3 ⊢
          have oF : w3.ownsRow A1.heap.size 9 1 (.slice p m c') m (stZ TS) := own_belZ HK.out.2.1 b3
          have hbs : A1.heap.size ≤ w3.heap.size := (HK.out.2.2.trans b3).size
          have HB3 : Hid (BLZ A1 w3) := HK.out.2.2.trans b3
          clear HD x0 x1 x2 x3 x4 x5 x6 x7 x8 cl b3
          obtain ⟨g3, rfl⟩ := own_someZ o3 (by rw [stZ_len]; exact HD0.out)
          go_wp2_with (at_builtin; refine wpList_append_own _ rfl _ _ 28 rfl A1.heap.size 9 iS _ 1 16 Tryd.underlying28 hiS hzS0 hzS1 hzS2 rfl (by decide) _ _ _ rfl oF ⟨_, 0, none⟩ D.length c3' (stZ D) rfl (by rw [stZ_len, Nat.mul_one]) (World.ownsRow.cells o3 rfl) stZ_one (by unfold maxLen; omega) (by omega) hbs ?_; intro v9 w9 o9 g9 _)
          obtain ⟨p9, c9, rfl⟩ := shapeZ o9
          have HX : Hid (∃ TS, tdF (Es.take (i + 1)) = TS ∧ TS.length = m + D.length ∧ w9.ownsRow A1.heap.size 9 1 (.slice p9 (m + D.length) c9) (m + D.length) (stZ TS) ∧ BLZ A1 w9) := ⟨TS ++ D, HSU.out, by rw [List.length_append, HK.out.1], by rw [show stZ (TS ++ D) = stZ TS ++ stZ D by simp [stZ]]; exact o9, bel_grZ HB3.out g9 (fun k e => (oF.lt k e).1)⟩
          clear o9 g9 oF hbs o3 HB3 HK HSU
          go_roundw
          case rel => exact ⟨i + 1, m + D.length, p9, c9, by go_num, rfl, by omega, by omega, HX⟩
          case measure => simp [intOf]; omega
        · have i1 : ¬ (i : Int) < (n : Int) := by omega
          have HF : Hid (TS = tdF Es) := by
            have := HTQ.out
            rw [List.take_of_length_le (by rw [HR.out.2.2.2]; omega)] at this
            exact this.symm
          go_wp2_with fail
          go_meet
          exact ⟨p, m, c', rfl, hm, TS, by rw [HTS.out, HF.out], HK.out⟩
    · have k1b : (k == 1) = false := by simpa using k1
      by_cases k2 : k = 2
      · subst k2
        by_cases t1 : tx = 1
        · subst t1
          obtain ⟨X, hX⟩ : ∃ X, [112, 97, 114, 115, 101, 32, 101, 114, 114, 111, 114, 32] ++ cdT ++ [32, 105, 110, 32, 116, 104, 101, 32, 99, 111, 110, 102, 105, 103, 117, 114, 97, 116, 105, 111, 110, 44, 32, 108, 105, 110, 101, 32] ++ lnT = X := ⟨_, rfl⟩
          have e1 : (⟨#[112, 97, 114, 115, 101, 32, 101, 114, 114, 111, 114, 32]⟩ : ByteArray) ++ ⟨cdT.toArray⟩ ++ ⟨#[32, 105, 110, 32, 116, 104, 101, 32, 99, 111, 110, 102, 105, 103, 117, 114, 97, 116, 105, 111, 110, 44, 32, 108, 105, 110, 101, 32]⟩ ++ ⟨lnT.toArray⟩ = ⟨X.toArray⟩ := by rw [← hX, baA' ([112, 97, 114, 115, 101, 32, 101, 114, 114, 111, 114, 32]) (cdT), baA' ([112, 97, 114, 115, 101, 32, 101, 114, 114, 111, 114, 32] ++ cdT) ([32, 105, 110, 32, 116, 104, 101, 32, 99, 111, 110, 102, 105, 103, 117, 114, 97, 116, 105, 111, 110, 44, 32, 108, 105, 110, 101, 32]), baA' ([112, 97, 114, 115, 101, 32, 101, 114, 114, 111, 114, 32] ++ cdT ++ [32, 105, 110, 32, 116, 104, 101, 32, 99, 111, 110, 102, 105, 103, 117, 114, 97, 116, 105, 111, 110, 44, 32, 108, 105, 110, 101, 32]) (lnT)]
          have HTS : Hid (tdS (RS.mk 2 cd 1 ln) (rps Es) = [X]) := by
            unfold Hid tdS
            rw [if_neg (show ¬ _ from k1), if_pos rfl, if_pos rfl]
            rw [show itL (RS.mk 2 cd 1 ln).c = cdT from hcd, show itL (RS.mk 2 cd 1 ln).l = lnT from hln, hX]
          have hO := World.ownsRow_lit (e := 9) (base := A1.heap.size) (size := 1) A1 #[.string ⟨X.toArray⟩] 1 (Nat.le_refl _) (by decide) rfl
          have HKX : Hid ([X].length = 1 ∧ (A1.alloc (.cells #[.string ⟨X.toArray⟩] 9 (0, 0))).ownsRow A1.heap.size 9 1 (.slice (some ⟨A1.heap.size, 0, none⟩) 1 1) 1 (stZ [X]) ∧ BLZ A1 (A1.alloc (.cells #[.string ⟨X.toArray⟩] 9 (0, 0)))) := ⟨rfl, hO, belAZ (Below.refl _ _) _⟩
          clear hX hO hcd hln
          have m0 : ¬ 9223372036854775807 < 12 + cdT.length := by omega
          have m1 : ¬ 9223372036854775807 < cdT.length + 12 + 28 := by omega
          have m2 : ¬ 9223372036854775807 < cdT.length + 12 + 28 + lnT.length := by omega
          have m3 : ¬ 9223372036854775807 < cdT.length + 12 + 20 := by omega
          have m4 : ¬ 9223372036854775807 < cdT.length + 12 + 20 + lnT.length := by omega
          obtain ⟨X9, hX9⟩ : ∃ X, [112, 97, 114, 115, 101, 32, 101, 114, 114, 111, 114, 32] ++ cdT ++ [32, 105, 110, 32, 116, 104, 101, 32, 113, 117, 101, 114, 121, 44, 32, 108, 105, 110, 101, 32] ++ lnT = X := ⟨_, rfl⟩
          have e9 : (⟨#[112, 97, 114, 115, 101, 32, 101, 114, 114, 111, 114, 32]⟩ : ByteArray) ++ ⟨cdT.toArray⟩ ++ ⟨#[32, 105, 110, 32, 116, 104, 101, 32, 113, 117, 101, 114, 121, 44, 32, 108, 105, 110, 101, 32]⟩ ++ ⟨lnT.toArray⟩ = ⟨X9.toArray⟩ := by rw [← hX9, baA' ([112, 97, 114, 115, 101, 32, 101, 114, 114, 111, 114, 32]) (cdT), baA' ([112, 97, 114, 115, 101, 32, 101, 114, 114, 111, 114, 32] ++ cdT) ([32, 105, 110, 32, 116, 104, 101, 32, 113, 117, 101, 114, 121, 44, 32, 108, 105, 110, 101, 32]), baA' ([112, 97, 114, 115, 101, 32, 101, 114, 114, 111, 114, 32] ++ cdT ++ [32, 105, 110, 32, 116, 104, 101, 32, 113, 117, 101, 114, 121, 44, 32, 108, 105, 110, 101, 32]) (lnT)]
          have clA := HCL.out (A1.alloc (.cells #[.string ⟨X9.toArray⟩] 9 (0, 0))) (belAZ (Below.refl _ _) _)
          clear hX9
          go_wp2_with fail
          go_meet
          exact ⟨some ⟨A1.heap.size, 0, none⟩, 1, 1, rfl, by omega, [X], HTS.out, HKX.out⟩
        · have t1b : (tx == 1) = false := by simpa using t1
          obtain ⟨X, hX⟩ : ∃ X, [112, 97, 114, 115, 101, 32, 101, 114, 114, 111, 114, 32] ++ cdT ++ [32, 105, 110, 32, 116, 104, 101, 32, 113, 117, 101, 114, 121, 44, 32, 108, 105, 110, 101, 32] ++ lnT = X := ⟨_, rfl⟩
          have e1 : (⟨#[112, 97, 114, 115, 101, 32, 101, 114, 114, 111, 114, 32]⟩ : ByteArray) ++ ⟨cdT.toArray⟩ ++ ⟨#[32, 105, 110, 32, 116, 104, 101, 32, 113, 117, 101, 114, 121, 44, 32, 108, 105, 110, 101, 32]⟩ ++ ⟨lnT.toArray⟩ = ⟨X.toArray⟩ := by rw [← hX, baA' ([112, 97, 114, 115, 101, 32, 101, 114, 114, 111, 114, 32]) (cdT), baA' ([112, 97, 114, 115, 101, 32, 101, 114, 114, 111, 114, 32] ++ cdT) ([32, 105, 110, 32, 116, 104, 101, 32, 113, 117, 101, 114, 121, 44, 32, 108, 105, 110, 101, 32]), baA' ([112, 97, 114, 115, 101, 32, 101, 114, 114, 111, 114, 32] ++ cdT ++ [32, 105, 110, 32, 116, 104, 101, 32, 113, 117, 101, 114, 121, 44, 32, 108, 105, 110, 101, 32]) (lnT)]
          have HTS : Hid (tdS (RS.mk 2 cd tx ln) (rps Es) = [X]) := by
            unfold Hid tdS
            rw [if_neg (show ¬ _ from k1), if_pos rfl, if_neg (show ¬ _ from t1)]
            rw [show itL (RS.mk 2 cd tx ln).c = cdT from hcd, show itL (RS.mk 2 cd tx ln).l = lnT from hln, hX]
          have hO := World.ownsRow_lit (e := 9) (base := A1.heap.size) (size := 1) A1 #[.string ⟨X.toArray⟩] 1 (Nat.le_refl _) (by decide) rfl
          have HKX : Hid ([X].length = 1 ∧ (A1.alloc (.cells #[.string ⟨X.toArray⟩] 9 (0, 0))).ownsRow A1.heap.size 9 1 (.slice (some ⟨A1.heap.size, 0, none⟩) 1 1) 1 (stZ [X]) ∧ BLZ A1 (A1.alloc (.cells #[.string ⟨X.toArray⟩] 9 (0, 0)))) := ⟨rfl, hO, belAZ (Below.refl _ _) _⟩
          clear hX hO hcd hln
          have m0 : ¬ 9223372036854775807 < 12 + cdT.length := by omega
          have m1 : ¬ 9223372036854775807 < cdT.length + 12 + 28 := by omega
          have m2 : ¬ 9223372036854775807 < cdT.length + 12 + 28 + lnT.length := by omega
          have m3 : ¬ 9223372036854775807 < cdT.length + 12 + 20 := by omega
          have m4 : ¬ 9223372036854775807 < cdT.length + 12 + 20 + lnT.length := by omega
          have clA := HCL.out (A1.alloc (.cells #[.string ⟨X.toArray⟩] 9 (0, 0))) (belAZ (Below.refl _ _) _)
          go_wp2_with fail
          go_meet
          exact ⟨some ⟨A1.heap.size, 0, none⟩, 1, 1, rfl, by omega, [X], HTS.out, HKX.out⟩
      · have k2b : (k == 2) = false := by simpa using k2
        by_cases k3 : k = 3
        · subst k3
          by_cases t1 : tx = 1
          · subst t1
            obtain ⟨X, hX⟩ : ∃ X, [105, 108, 108, 45, 102, 111, 114, 109, 101, 100, 32] ++ cdT ++ [32, 105, 110, 32, 116, 104, 101, 32, 99, 111, 110, 102, 105, 103, 117, 114, 97, 116, 105, 111, 110] = X := ⟨_, rfl⟩
            have e1 : (⟨#[105, 108, 108, 45, 102, 111, 114, 109, 101, 100, 32]⟩ : ByteArray) ++ ⟨cdT.toArray⟩ ++ ⟨#[32, 105, 110, 32, 116, 104, 101, 32, 99, 111, 110, 102, 105, 103, 117, 114, 97, 116, 105, 111, 110]⟩ = ⟨X.toArray⟩ := by rw [← hX, baA' ([105, 108, 108, 45, 102, 111, 114, 109, 101, 100, 32]) (cdT), baA' ([105, 108, 108, 45, 102, 111, 114, 109, 101, 100, 32] ++ cdT) ([32, 105, 110, 32, 116, 104, 101, 32, 99, 111, 110, 102, 105, 103, 117, 114, 97, 116, 105, 111, 110])]
            have HTS : Hid (tdS (RS.mk 3 cd 1 ln) (rps Es) = [X]) := by
              unfold Hid tdS
              rw [if_neg (show ¬ _ from k1), if_neg (show ¬ _ from k2), if_pos rfl, if_pos rfl]
              rw [show itL (RS.mk 3 cd 1 ln).c = cdT from hcd, hX]
            have hO := World.ownsRow_lit (e := 9) (base := A1.heap.size) (size := 1) A1 #[.string ⟨X.toArray⟩] 1 (Nat.le_refl _) (by decide) rfl
            have HKX : Hid ([X].length = 1 ∧ (A1.alloc (.cells #[.string ⟨X.toArray⟩] 9 (0, 0))).ownsRow A1.heap.size 9 1 (.slice (some ⟨A1.heap.size, 0, none⟩) 1 1) 1 (stZ [X]) ∧ BLZ A1 (A1.alloc (.cells #[.string ⟨X.toArray⟩] 9 (0, 0)))) := ⟨rfl, hO, belAZ (Below.refl _ _) _⟩
            clear hX hO hcd hln
            have m0 : ¬ 9223372036854775807 < 11 + cdT.length := by omega
            have m1 : ¬ 9223372036854775807 < cdT.length + 11 + 21 := by omega
            have m2 : ¬ 9223372036854775807 < cdT.length + 11 + 10 := by omega
            have m3 : ¬ 9223372036854775807 < cdT.length + 11 + 10 + lnT.length := by omega
            obtain ⟨X9, hX9⟩ : ∃ X, [105, 108, 108, 45, 102, 111, 114, 109, 101, 100, 32] ++ cdT ++ [32, 105, 110, 32, 113, 117, 101, 114, 121, 32] ++ lnT = X := ⟨_, rfl⟩
            have e9 : (⟨#[105, 108, 108, 45, 102, 111, 114, 109, 101, 100, 32]⟩ : ByteArray) ++ ⟨cdT.toArray⟩ ++ ⟨#[32, 105, 110, 32, 113, 117, 101, 114, 121, 32]⟩ ++ ⟨lnT.toArray⟩ = ⟨X9.toArray⟩ := by rw [← hX9, baA' ([105, 108, 108, 45, 102, 111, 114, 109, 101, 100, 32]) (cdT), baA' ([105, 108, 108, 45, 102, 111, 114, 109, 101, 100, 32] ++ cdT) ([32, 105, 110, 32, 113, 117, 101, 114, 121, 32]), baA' ([105, 108, 108, 45, 102, 111, 114, 109, 101, 100, 32] ++ cdT ++ [32, 105, 110, 32, 113, 117, 101, 114, 121, 32]) (lnT)]
            have clA := HCL.out (A1.alloc (.cells #[.string ⟨X9.toArray⟩] 9 (0, 0))) (belAZ (Below.refl _ _) _)
            clear hX9
            go_wp2_with fail
            go_meet
            exact ⟨some ⟨A1.heap.size, 0, none⟩, 1, 1, rfl, by omega, [X], HTS.out, HKX.out⟩
          · have t1b : (tx == 1) = false := by simpa using t1
            obtain ⟨X, hX⟩ : ∃ X, [105, 108, 108, 45, 102, 111, 114, 109, 101, 100, 32] ++ cdT ++ [32, 105, 110, 32, 113, 117, 101, 114, 121, 32] ++ lnT = X := ⟨_, rfl⟩
            have e1 : (⟨#[105, 108, 108, 45, 102, 111, 114, 109, 101, 100, 32]⟩ : ByteArray) ++ ⟨cdT.toArray⟩ ++ ⟨#[32, 105, 110, 32, 113, 117, 101, 114, 121, 32]⟩ ++ ⟨lnT.toArray⟩ = ⟨X.toArray⟩ := by rw [← hX, baA' ([105, 108, 108, 45, 102, 111, 114, 109, 101, 100, 32]) (cdT), baA' ([105, 108, 108, 45, 102, 111, 114, 109, 101, 100, 32] ++ cdT) ([32, 105, 110, 32, 113, 117, 101, 114, 121, 32]), baA' ([105, 108, 108, 45, 102, 111, 114, 109, 101, 100, 32] ++ cdT ++ [32, 105, 110, 32, 113, 117, 101, 114, 121, 32]) (lnT)]
            have HTS : Hid (tdS (RS.mk 3 cd tx ln) (rps Es) = [X]) := by
              unfold Hid tdS
              rw [if_neg (show ¬ _ from k1), if_neg (show ¬ _ from k2), if_pos rfl, if_neg (show ¬ _ from t1)]
              rw [show itL (RS.mk 3 cd tx ln).c = cdT from hcd, show itL (RS.mk 3 cd tx ln).l = lnT from hln, hX]
            have hO := World.ownsRow_lit (e := 9) (base := A1.heap.size) (size := 1) A1 #[.string ⟨X.toArray⟩] 1 (Nat.le_refl _) (by decide) rfl
            have HKX : Hid ([X].length = 1 ∧ (A1.alloc (.cells #[.string ⟨X.toArray⟩] 9 (0, 0))).ownsRow A1.heap.size 9 1 (.slice (some ⟨A1.heap.size, 0, none⟩) 1 1) 1 (stZ [X]) ∧ BLZ A1 (A1.alloc (.cells #[.string ⟨X.toArray⟩] 9 (0, 0)))) := ⟨rfl, hO, belAZ (Below.refl _ _) _⟩
            clear hX hO hcd hln
            have m0 : ¬ 9223372036854775807 < 11 + cdT.length := by omega
            have m1 : ¬ 9223372036854775807 < cdT.length + 11 + 21 := by omega
            have m2 : ¬ 9223372036854775807 < cdT.length + 11 + 10 := by omega
            have m3 : ¬ 9223372036854775807 < cdT.length + 11 + 10 + lnT.length := by omega
            have clA := HCL.out (A1.alloc (.cells #[.string ⟨X.toArray⟩] 9 (0, 0))) (belAZ (Below.refl _ _) _)
            go_wp2_with fail
            go_meet
            exact ⟨some ⟨A1.heap.size, 0, none⟩, 1, 1, rfl, by omega, [X], HTS.out, HKX.out⟩
        · have k3b : (k == 3) = false := by simpa using k3
          by_cases k4 : k = 4
          · subst k4
            have HTS : Hid (tdS (RS.mk 4 cd tx ln) (rps Es) = [[98, 117, 100, 103, 101, 116, 32, 101, 120, 99, 101, 101, 100, 101, 100]]) := by
              unfold Hid tdS
              rw [if_neg (show ¬ _ from k1), if_neg (show ¬ _ from k2), if_neg (show ¬ _ from k3), if_pos rfl]
            have hO := World.ownsRow_lit (e := 9) (base := A1.heap.size) (size := 1) A1 #[.string ⟨#[98, 117, 100, 103, 101, 116, 32, 101, 120, 99, 101, 101, 100, 101, 100]⟩] 1 (Nat.le_refl _) (by decide) rfl
            have HKX : Hid ([[98, 117, 100, 103, 101, 116, 32, 101, 120, 99, 101, 101, 100, 101, 100]].length = 1 ∧ (A1.alloc (.cells #[.string ⟨#[98, 117, 100, 103, 101, 116, 32, 101, 120, 99, 101, 101, 100, 101, 100]⟩] 9 (0, 0))).ownsRow A1.heap.size 9 1 (.slice (some ⟨A1.heap.size, 0, none⟩) 1 1) 1 (stZ [[98, 117, 100, 103, 101, 116, 32, 101, 120, 99, 101, 101, 100, 101, 100]]) ∧ BLZ A1 (A1.alloc (.cells #[.string ⟨#[98, 117, 100, 103, 101, 116, 32, 101, 120, 99, 101, 101, 100, 101, 100]⟩] 9 (0, 0)))) := ⟨rfl, hO, belAZ (Below.refl _ _) _⟩
            clear hO hcd hln
            go_wp2_with fail
            go_meet
            exact ⟨some ⟨A1.heap.size, 0, none⟩, 1, 1, rfl, by omega, _, HTS.out, HKX.out⟩
          · have k4b : (k == 4) = false := by simpa using k4
            have HTS : Hid (tdS (RS.mk k cd tx ln) (rps Es) = []) := by
              unfold Hid tdS
              rw [if_neg (show ¬ _ from k1), if_neg (show ¬ _ from k2), if_neg (show ¬ _ from k3), if_neg (show ¬ _ from k4)]
            clear hcd hln
            go_wp2_with fail
            go_meet
            exact ⟨none, 0, 0, rfl, by omega, [], HTS.out, rfl, World.ownsRow_nil _ _ _ _, Below.refl _ _⟩
  case rest =>
    clear cl hiS hzS0 hzS1 hzS2 iS lc ll hcd hln
    obtain ⟨pp, nn, cc, rfl, hnn, HK0⟩ := hcut
    rename World => WW
    obtain ⟨TS, hTS, hk⟩ := HK0.out
    have HK : Hid (TS.length = nn ∧ WW.ownsRow A1.heap.size 9 1 (.slice pp nn cc) nn (stZ TS) ∧ BLZ A1 WW) := hk
    have HTS : Hid (tdS ⟨k, cd, tx, ln⟩ (rps Es) = TS) := hTS
    have HTT2 : Hid ((renL TS).length ≤ 10000000000000) := by unfold Hid; rw [← hTS]; exact HTT.out
    clear HK0 hk hTS HTT
    have HTT := HTT2
    clear HTT2
    go_wp2_with fail
    go_loopw [7, 8] (fun v7 v8 wr => ∃ (i : Nat) (T : List UInt8), v8 = .int .i64 (i : Int) ∧ v7 = .string ⟨T.toArray⟩ ∧ i ≤ nn ∧ Hid (renL (TS.take i) = T ∧ Below WW.heap.size WW wr)) (fun _ v8 _ => nn - (intOf v8).toNat)
    case atStart => exact ⟨0, [], rfl, rfl, Nat.zero_le _, rfl, Below.refl _ _⟩
    case round =>
      obtain ⟨i, T, rfl, rfl, hi, HL⟩ := hrel
      by_cases hlt : i < nn
      · have i0 : (0 : Int) ≤ (i : Int) := by omega
        have i1 : (i : Int) < (nn : Int) := by omega
        obtain ⟨x, hx⟩ : ∃ x, TS[i]? = some x := ⟨_, List.getElem?_eq_getElem (by rw [HK.out.1]; exact hlt)⟩
        obtain ⟨g, rfl, hc, -⟩ := (OWZ.below (show OWZ 9 WW A1.heap.size (.slice pp nn cc) (stZ TS) by unfold OWZ; rw [stZ_len, HK.out.1]; exact HK.out.2.1) HL.out.2).cell (stZ_at hx)
        have hs := renL_succ hx
        have hle := renL_le TS (i + 1)
        rw [HL.out.1] at hs
        rw [hs] at hle
        simp only [List.length_append, List.length_cons, List.length_nil] at hle
        have htt := HTT.out
        have m1 : ¬ 9223372036854775807 < T.length + x.length := by omega
        have m2 : ¬ 9223372036854775807 < T.length + x.length + 1 := by omega
        have HX : Hid (renL (TS.take (i + 1)) = T ++ x ++ [10]) := by unfold Hid; rw [hs, List.append_assoc]
        clear hx hs hle htt
        go_wp2_with fail
        go_roundw
        case rel => exact ⟨i + 1, T ++ x ++ [10], by go_num, by rw [baA' T x, show (⟨#[10]⟩ : ByteArray) = ⟨([10] : List UInt8).toArray⟩ from rfl, baA'], by omega, HX.out, HL.out.2⟩
        case measure => simp [intOf]; omega
      · have i1 : ¬ (i : Int) < (nn : Int) := by omega
        have HT : Hid (T = rnS ⟨k, cd, tx, ln⟩ (rps Es)) := by
          have := HL.out.1
          rw [List.take_of_length_le (by rw [HK.out.1]; omega)] at this
          unfold Hid
          rw [← this, ← HTS.out, ren_all]
        have HB9 : Hid (Below w.heap.size w wr) := bel0Z HWA.out (bel0Z HK.out.2.2 HL.out.2)
        go_wp2_with fail
        go_ret
        exact ⟨by rw [← HT.out]; rfl, by rw [← hbb]; exact HB9.out⟩
end Go.Proofs.YtfhlgncpleleaaaDoor

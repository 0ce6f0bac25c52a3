import Derived.Test.YtnfhhdjgjonbaaaOH
import Derived.Test.YtnfhhdjgjonbaaaLV
namespace Go.Proofs.Ytnfhhdjgjonbaaa
open Go.RowKit
theorem hideP {p : Prop} (h : p) : Hid p := h
set_option maxRecDepth 100000 in
set_option maxHeartbeats 32000000 in
theorem ledgerOwn_walk (L : List (Int × List UInt8)) (p : Option Addr) (n c : Nat) (w : World) (hn : L.length = n) (hr : ER w p L) :
    Calls Try.prog 3 #[.slice p n c] w fun e w' => e = .returned (.bool true) ∧ Below w.heap.size w w' := by
  have HN : Hid (L.length = n) := hn
  have HR : Hid (ER w p L) := hr
  have HF := fixed_any w
  clear hn hr
  go_enter Try.func3, Try.ntmps3
  go_wp2_with fail
  refine HF.mono ?_
  rintro e W0 ⟨rfl, b0⟩
  have HB0 : Hid (Below w.heap.size w W0) := b0
  have HS0 : Hid (SO W0 w.heap.size (.slice none 0 0) (.slice none 0 0) (.slice none 0 0) (.slice none 0 0) 0) := SO.start _ _ b0.size
  clear HF b0
  go_wp2_with fail
  go_loopw [4, 5, 6, 7, 8] (fun va vw vr vs vi wr => ∃ (i nk : Nat) (pa pw pr ps : Option Addr) (ca cw cr cs : Nat), vi = .int .i64 (i : Int) ∧ va = .slice pa nk ca ∧ vw = .slice pw nk cw ∧ vr = .slice pr nk cr ∧ vs = .slice ps nk cs ∧ i ≤ n ∧ i ≤ 30 ∧ Hid (nk = 3 * i) ∧ Hid (SO wr w.heap.size (.slice pa nk ca) (.slice pw nk cw) (.slice pr nk cr) (.slice ps nk cs) nk) ∧ Hid (Below w.heap.size w wr)) (fun _ _ _ _ vi _ => 30 - (intOf vi).toNat)
  case atStart => exact ⟨0, 0, none, none, none, none, 0, 0, 0, 0, rfl, rfl, rfl, rfl, rfl, Nat.zero_le _, by omega, rfl, HS0, HB0⟩
  case round =>
    clear HS0 HB0
    obtain ⟨i, nk, pa, pw, pr, ps, ca, cw, cr, cs, rfl, rfl, rfl, rfl, rfl, hin, hi30, hnk, HS, HB⟩ := hrel
    by_cases hlt : i < n
    · have j1 : (i : Int) < (n : Int) := by omega
      have j0 : (0 : Int) ≤ (i : Int) := by omega
      by_cases h30 : i < 30
      · have j2 : (i : Int) < 30 := by omega
        obtain ⟨⟨ek, et⟩, he⟩ : ∃ e, L[i]? = some e := ⟨_, List.getElem?_eq_getElem (by rw [HN.out]; omega)⟩
        obtain ⟨g, o, rfl, c0, c1⟩ := HR.out.below HB.out i (ek, et) he
        simp only at c0 c1
        obtain ⟨T, hT⟩ : ∃ T, et.take 100 = T := ⟨_, rfl⟩
        have hTl : T.length ≤ 100 := by rw [← hT, List.length_take]; omega
        clear he
        go_upto_if 48 with fail
        go_cut [9] from 31 to 96 (fun v9 wz => v9 = .string ⟨T.toArray⟩ ∧ wz = wr)
        case first =>
          by_cases hlong : 100 < et.length
          · have hl' : (100 : Int) < (et.length : Int) := by omega
            have ex : (⟨et.toArray⟩ : ByteArray).extract 0 100 = ⟨T.toArray⟩ := by
              rw [← hT]
              apply ByteArray.ext
              simp [ByteArray.data_extract]
            have hl2 : (100 : Int) ≤ (et.length : Int) := by omega
            clear hT
            go_wp2_with fail
            go_meet
            exact ⟨by first | rfl | rw [ex], rfl⟩
          · have hl' : ¬ (100 : Int) < (et.length : Int) := by omega
            have ex : et = T := by rw [← hT, List.take_of_length_le (by omega)]
            clear hT
            go_wp2_with fail
            go_meet
            exact ⟨by first | rfl | rw [ex], rfl⟩
        case rest =>
          obtain ⟨rfl, rfl⟩ := hcut
          clear c0 c1 hT
          obtain ⟨q, hq⟩ : ∃ q : Nat, i + 1 = q := ⟨_, rfl⟩
          have hq1 : (i : Int) + 1 = (q : Int) := by omega
          have hq2 : IntKind.i64.wrap (q : Int) = (q : Int) := by rw [IntKind.wrap_i64]; omega
          obtain ⟨l, hl⟩ : ∃ l, encL q 1 T = l := ⟨_, rfl⟩
          have hll : Hid (l.length = T.length + 20) := by show l.length = _; rw [← hl, encL_len]
          have HE : Hid (∀ U : World, Calls Try.prog 5 #[.agg #[.int .i64 (q : Int), .int .i64 1, .string ⟨T.toArray⟩]] U fun e w' => ∃ v, e = .returned (.tuple #[v, .int .i64 ((0 : Nat) : Int)]) ∧ OB w' U.heap.size v l ∧ Below U.heap.size U w') := fun U => by
            have h := encode_any (q : Int) 1 T U
            obtain ⟨e1, e2⟩ := ow_enc (q := q) (T := T) (by omega) (by omega) hTl
            rw [e1, e2, hl] at h
            exact h
          have HD : Hid (∀ U : World, Calls Try.prog 6 #[.agg #[.int .i64 (q : Int), .int .i64 1, .string ⟨T.toArray⟩]] U fun e w' => ∃ v, e = .returned (.tuple #[v, .int .i64 ((0 : Nat) : Int)]) ∧ OB w' U.heap.size v l ∧ Below U.heap.size U w') := fun U => by
            have h := dencode_any (q : Int) 1 T U
            obtain ⟨e1, e2⟩ := ow_enc (q := q) (T := T) (by omega) (by omega) hTl
            rw [e1, e2, hl] at h
            exact h
          have HRD : Hid (∀ (U : World) (p1 : Option Addr) (c1 : Nat), l.length ≤ c1 → BR U p1 l → Calls Try.prog 7 #[.slice p1 l.length c1, .int .i64 0] U fun e w' => (∃ N : Int, e = .returned (.tuple #[.agg #[.int .i64 (q : Int), .int .i64 1, .string ⟨T.toArray⟩], .int .i64 N, .int .i64 ((0 : Nat) : Int)])) ∧ Below U.heap.size U w') := fun U p1 c1 h1 h2 => by
            have h := read_any l p1 l.length c1 0 U rfl (by have := hll.out; omega) h1 h2
            refine h.mono ?_
            rintro e w' ⟨h3, h4⟩
            obtain ⟨e1, e2⟩ := ow_read (q := q) (T := T) (by omega) (by omega) hTl
            rw [hl] at e1 e2
            rw [e1, e2] at h3
            exact ⟨⟨_, h3⟩, h4⟩
          clear hl
          go_wp2_with fail
          go_loopw [4, 5, 6, 7, 10] (fun va vw vr vs vj wr2 => ∃ (j nk : Nat) (pa pw pr ps : Option Addr) (ca cw cr cs : Nat), vj = .int .i64 (j : Int) ∧ va = .slice pa nk ca ∧ vw = .slice pw nk cw ∧ vr = .slice pr nk cr ∧ vs = .slice ps nk cs ∧ j ≤ 3 ∧ Hid (nk = 3 * i + j) ∧ Hid (SO wr2 w.heap.size (.slice pa nk ca) (.slice pw nk cw) (.slice pr nk cr) (.slice ps nk cs) nk) ∧ Hid (Below w.heap.size w wr2)) (fun _ _ _ _ vj _ => 3 - (intOf vj).toNat)
          case atStart => exact ⟨0, nk, pa, pw, pr, ps, ca, cw, cr, cs, rfl, rfl, rfl, rfl, rfl, by omega, hnk.out, HS, HB⟩
          case round =>
            clear HS HB hnk
            obtain ⟨j, nk, pa, pw, pr, ps, ca, cw, cr, cs, rfl, rfl, rfl, rfl, rfl, hj3, hnk, HS, HB⟩ := hrel
            by_cases hj : j < 3
            · have jj : (j : Int) < 3 := by omega
              obtain ⟨K, hKn, hKo, x0, x1, hst⟩ := HS.out
              obtain ⟨b11, hb11⟩ : ∃ b, wr.heap.size = b := ⟨_, rfl⟩
              obtain ⟨A, hA⟩ : ∃ A, wr.alloc (.cells #[.int .i64 (q : Int), .int .i64 1, .string ⟨T.toArray⟩] 29 (0, 0)) = A := ⟨_, rfl⟩
              have hstA := hst.box0 hb11 (.int .i64 (q : Int)) (.int .i64 1) (.string ⟨T.toArray⟩)
              rw [hA] at hstA
              have HBA : Hid (Below w.heap.size w A) := by rw [← hA]; exact belAZ HB.out _
              have HSA := hideP <| hstA
              have HKN : Hid (K.length = nk ∧ okK K) := ⟨hKn, hKo⟩
              have u1 := hstA.get0
              obtain ⟨u10, u11, u12⟩ := u1
              clear hst hstA HS HB hKn hKo
              go_wp2_with fail
              refine (HE.out _).mono ?_
              rintro e W1 ⟨v1, rfl, o1, b1⟩
              obtain ⟨p1, c1, rfl, hc1⟩ := o1.shape
              have HS1 := hideP <| HSA.out.nv b1 o1
              have HB1 : Hid (Below w.heap.size w W1) := bel0Z HBA.out b1
              have HO1 : Hid (OB W1 A.heap.size (.slice p1 l.length c1) l) := o1
              obtain ⟨u10, u11, u12⟩ := HS1.out.get0
              clear o1 b1 HSA HBA hA hb11
              go_wp2_with fail
              refine (HD.out _).mono ?_
              rintro e W2 ⟨v2, rfl, o2, b2⟩
              obtain ⟨p2, c2, rfl, hc2⟩ := o2.shape
              have HS2 := hideP <| HS1.out.nu b2 o2
              have HB2 : Hid (Below w.heap.size w W2) := bel0Z HB1.out b2
              have HR2 := HRD.out W2 p1 c1 hc1 (HO1.out.below b2).br
              clear o2 b2 HS1 HB1 HO1 u10 u11 u12
              go_wp2_with fail
              refine HR2.mono ?_
              rintro e W3 ⟨⟨N, rfl⟩, b3⟩
              obtain ⟨b16, hb16⟩ : ∃ b, W3.heap.size = b := ⟨_, rfl⟩
              obtain ⟨W4, hW4⟩ : ∃ A, W3.alloc (.cells #[.int .i64 (q : Int), .int .i64 1, .string ⟨T.toArray⟩] 29 (0, 0)) = A := ⟨_, rfl⟩
              have hst4 := (HS2.out.below b3).box1 hb16 (.int .i64 (q : Int)) (.int .i64 1) (.string ⟨T.toArray⟩)
              rw [hW4] at hst4
              have HB4 : Hid (Below w.heap.size w W4) := by rw [← hW4]; exact belAZ (bel0Z HB2.out b3) _
              have hst5 := hst4.below (belAZ (Below.refl _ W4) (.cells #[.slice p1 l.length c1] 30 (0, 0)))
              obtain ⟨v5, X1, hr1, hs1, ⟨pa', ca', rfl⟩, bb1⟩ := hst5.ta (nb := W4.heap.size) 24 (.slice p1 l.length c1) rfl (alloc_getZ _ _) (by rw [List.length_map, HKN.out.1]; have := hnk.out; omega)
              rw [List.length_map, HKN.out.1] at hr1 hs1
              have HR1 := hideP <| hr1
              have HX1 := hideP <| hs1
              have HBX1 : Hid (Below w.heap.size w X1) := bb1 w (Nat.le_refl _) (belAZ HB4.out _)
              clear hst4 hst5 hr1 hs1 bb1 HS2 HB2 HR2 b3 HB4
              go_upto_region 22 with (at_builtin; refine wpList_runZ rfl _ _ 24 rfl rfl rfl HR1.out ?_; clear HR1)
              clear hW4 hb16
              have hst6 := HX1.out.below (belAZ (Below.refl _ X1) (.cells #[.slice p2 l.length c2] 30 (0, 0)))
              obtain ⟨v6, X2, hr2, hs2, ⟨pw', cw', rfl⟩, bb2⟩ := hst6.tw (nb := X1.heap.size) 24 (.slice p2 l.length c2) rfl (alloc_getZ _ _) (by rw [List.length_map, HKN.out.1]; have := hnk.out; omega)
              rw [List.length_map, HKN.out.1] at hr2 hs2
              have HR2 := hideP <| hr2
              have HX2 := hideP <| hs2
              have HBX2 : Hid (Below w.heap.size w X2) := bb2 w (Nat.le_refl _) (belAZ HBX1.out _)
              obtain ⟨y10, y11, y12⟩ := hs2.get1
              clear hst6 hr2 hs2 bb2 HX1 HBX1
              go_upto_region 23 with (at_builtin; refine wpList_runZ rfl _ _ 24 rfl rfl rfl HR2.out ?_; clear HR2)
              have hst7 := HX2.out.below (belAZ (Below.refl _ X2) (.cells #[.int .i64 (q : Int), .int .i64 1, .string ⟨T.toArray⟩] 29 (0, 0)))
              obtain ⟨v7, X3, hr3, hs3, ⟨pr', cr', rfl⟩, bb3⟩ := hst7.tr (nb := X2.heap.size) 25 (.int .i64 (q : Int)) (.int .i64 1) (.string ⟨T.toArray⟩) ⟨rfl, rfl, rfl⟩ (alloc_getZ _ _) (by have := hnk.out; omega)
              have HR3 := hideP <| hr3
              have HX3 := hideP <| hs3
              have HBX3 : Hid (Below w.heap.size w X3) := bb3 w (Nat.le_refl _) (belAZ HBX2.out _)
              obtain ⟨z10, z11, z12⟩ := hs3.get0
              clear hst7 hr3 hs3 bb3 HX2 HBX2
              go_upto_region 24 with (at_builtin; refine wpList_runZ rfl _ _ 25 rfl rfl rfl HR3.out ?_; clear HR3)
              clear y10 y11 y12
              have hst8 := HX3.out.below (belAZ (Below.refl _ X3) (.cells #[.int .i64 (q : Int), .int .i64 1, .string ⟨T.toArray⟩] 29 (0, 0)))
              obtain ⟨v8, X4, hr4, hs4, ⟨ps', cs', rfl⟩, bb4⟩ := hst8.ts (nb := X3.heap.size) 25 (.int .i64 (q : Int)) (.int .i64 1) (.string ⟨T.toArray⟩) ⟨rfl, rfl, rfl⟩ (alloc_getZ _ _) (by have := hnk.out; omega)
              have HR4 := hideP <| hr4
              have HBX4 : Hid (Below w.heap.size w X4) := bb4 w (Nat.le_refl _) (belAZ HBX3.out _)
              have HSO : Hid (SO X4 w.heap.size (.slice pa' (nk + 1) ca') (.slice pw' (nk + 1) cw') (.slice pr' (nk + 1) cr') (.slice ps' (nk + 1) cs') (nk + 1)) := SO.snoc HKN.out.1 HKN.out.2 ⟨p1, c1, .slice p2 l.length c2, l, q, T⟩ ⟨by show 0 < l.length; have := hll.out; omega, by show l.length ≤ 200; have := hll.out; omega⟩ hs4
              clear hst8 hr4 hs4 bb4 HX3 HBX3
              go_upto_region 14 with (at_builtin; refine wpList_runZ rfl _ _ 25 rfl rfl rfl HR4.out ?_; clear HR4)
              clear z10 z11 z12
              go_wp2_with fail
              exact ⟨⟨j + 1, nk + 1, pa', pw', pr', ps', ca', cw', cr', cs', rfl, rfl, rfl, rfl, rfl, by omega, by have := hnk.out; exact (by omega : nk + 1 = 3 * i + (j + 1)), HSO, HBX4⟩, by simp only [intOf]; omega⟩
            · obtain rfl : j = 3 := by omega
              clear HE HD HRD
              go_wp2_with fail
              go_roundw
              case rel => exact ⟨i + 1, nk, pa, pw, pr, ps, ca, cw, cr, cs, by first | rfl | go_num | rw [hq1], rfl, rfl, rfl, rfl, by omega, by omega, (by have := hnk.out; omega : nk = 3 * (i + 1)), HS, HB⟩
              case measure => simp [intOf]; omega
      · have j2 : ¬ (i : Int) < 30 := by omega
        have hnk2 : nk ≤ 90 := by have := hnk.out; omega
        clear HR hlt h30 hin hi30
        go_wp2_with fail
        rename World => WA
        obtain ⟨K, hKn, hKo, ⟨f, hsep, hga⟩, hBs⟩ := HS.out.ga
        have HK : Hid (K.length = nk ∧ okK K) := ⟨hKn, hKo⟩
        have HGA : Hid (SEP WA w.heap.size f ∧ GA f (.slice pa nk ca) (.slice pw nk cw) (.slice pr nk cr) (.slice ps nk cs) K) := ⟨hsep, hga⟩
        clear hKn hKo hsep hga hBs HS hnk
        go_loopw [19] (fun vi wr => ∃ i : Nat, vi = .int .i64 (i : Int) ∧ i ≤ nk ∧ Hid (Below WA.heap.size WA wr)) (fun vi _ => nk - (intOf vi).toNat)
        case atStart => exact ⟨0, rfl, Nat.zero_le _, Below.refl _ _⟩
        case round =>
          obtain ⟨i, rfl, hi, HW⟩ := hrel
          by_cases hlt : i < nk
          · have j1 : (i : Int) < (nk : Int) := by omega
            have j0 : (0 : Int) ≤ (i : Int) := by omega
            obtain ⟨⟨ep, ec, eu, el, eq, et⟩, he⟩ : ∃ e, K[i]? = some e := ⟨_, List.getElem?_eq_getElem (by rw [HK.out.1]; exact hlt)⟩
            have hel := HK.out.2 _ (List.mem_of_getElem? he)
            simp only at hel
            obtain ⟨ga, gw, gr, gs, pu, cu, rfl, rfl, rfl, rfl, hu, hU⟩ := HGA.out.2.at HGA.out.1 he
            simp only [EO.v] at hU
            obtain ⟨ln, hln⟩ : ∃ ln, el.length = ln := ⟨_, rfl⟩
            rw [hln] at hU hel
            have HC : Hid (∀ U, Below wr.heap.size wr U → (U.cell? ⟨ga, i, none⟩ = some (.slice ep ln ec) ∧ U.cell? ⟨gw, i, none⟩ = some (.slice pu ln cu) ∧ (U.cell? ⟨gr, i * 3, none⟩ = some (.int .i64 (eq : Int)) ∧ U.cell? ⟨gr, i * 3 + 1, none⟩ = some (.int .i64 1) ∧ U.cell? ⟨gr, i * 3 + 2, none⟩ = some (.string ⟨et.toArray⟩)) ∧ (U.cell? ⟨gs, i * 3, none⟩ = some (.int .i64 (eq : Int)) ∧ U.cell? ⟨gs, i * 3 + 1, none⟩ = some (.int .i64 1) ∧ U.cell? ⟨gs, i * 3 + 2, none⟩ = some (.string ⟨et.toArray⟩)) ∧ BR U ep el ∧ BR U pu el)) := fun U h => hU U (bel0Z HW.out h)
            have HBY : Hid (∀ U, BR U ep el → BR U pu el → Calls Try.prog 8 #[.slice ep ln ec, .slice pu ln cu] U fun e w' => e = .returned (.bool true) ∧ Below U.heap.size U w') := fun U h1 h2 => bytes_any el ep pu ec cu ln U hln (by omega) h1 h2
            clear hU hu he hln hel
            go_wp2_with fail
            refine quiet_lit3 (C := fun U => Below wr.heap.size wr U) (by kernel_rfl) (by kernel_rfl) (show Below _ _ _ from (Below.refl _ _).drew) ?_
            go_big_quiet_want
            go_big_quiet_op
            go_big_quiet_on
            go_big_quiet_want
            go_big_quiet_op
            go_big_quiet_on
            go_big_quiet_want
            refine ⟨.pointer (some ⟨ga, i, none⟩), fun W hW => ?_, ?_⟩
            · go_simp
            go_big_quiet_on
            simp only [Act.put, List.setIfInBounds_toArray, List.set_cons_zero, List.set_cons_succ]
            go_big_quiet_want
            refine ⟨.slice ep ln ec, fun W hW => ?_, ?_⟩
            · obtain ⟨k1, k2, ⟨r0, r1, r2⟩, ⟨s0, s1, s2⟩, hb1, hb2⟩ := HC.out W hW
              go_simp
            go_big_quiet_on
            simp only [Act.put, List.setIfInBounds_toArray, List.set_cons_zero, List.set_cons_succ]
            go_big_quiet_want
            go_big_quiet_op
            go_big_quiet_on
            go_big_quiet_want
            go_big_quiet_op
            go_big_quiet_on
            go_big_quiet_want
            refine ⟨.pointer (some ⟨gw, i, none⟩), fun W hW => ?_, ?_⟩
            · go_simp
            go_big_quiet_on
            simp only [Act.put, List.setIfInBounds_toArray, List.set_cons_zero, List.set_cons_succ]
            go_big_quiet_want
            refine ⟨.slice pu ln cu, fun W hW => ?_, ?_⟩
            · obtain ⟨k1, k2, ⟨r0, r1, r2⟩, ⟨s0, s1, s2⟩, hb1, hb2⟩ := HC.out W hW
              go_simp
            go_big_quiet_on
            simp only [Act.put, List.setIfInBounds_toArray, List.set_cons_zero, List.set_cons_succ]
            go_big_quiet_want
            refine ⟨.bool true, fun W hW => ?_, ?_⟩
            · obtain ⟨k1, k2, ⟨r0, r1, r2⟩, ⟨s0, s1, s2⟩, hb1, hb2⟩ := HC.out W hW
              go_simp
              refine (HBY.out W hb1 hb2).mono ?_
              rintro e w7 ⟨rfl, hb⟩
              exact ⟨rfl, bel0Z hW hb⟩
            go_big_quiet_on
            simp only [Act.put, List.setIfInBounds_toArray, List.set_cons_zero, List.set_cons_succ]
            go_big_quiet_want
            refine ⟨.bool false, fun W hW => ?_, ?_⟩
            · go_simp
            go_big_quiet_on
            simp only [Act.put, List.setIfInBounds_toArray, List.set_cons_zero, List.set_cons_succ]
            go_big_quiet_want
            go_big_quiet_op
            go_big_quiet_on
            go_big_quiet_want
            go_big_quiet_op
            go_big_quiet_on
            go_big_quiet_want
            go_big_quiet_op
            go_big_quiet_on
            go_big_quiet_want
            refine ⟨.pointer (some ⟨gr, i * 3, none⟩), fun W hW => ?_, ?_⟩
            · go_simp
            go_big_quiet_on
            simp only [Act.put, List.setIfInBounds_toArray, List.set_cons_zero, List.set_cons_succ]
            go_big_quiet_want
            refine ⟨.agg #[.int .i64 (eq : Int), .int .i64 1, .string ⟨et.toArray⟩], fun W hW => ?_, ?_⟩
            · obtain ⟨k1, k2, ⟨r0, r1, r2⟩, ⟨s0, s1, s2⟩, hb1, hb2⟩ := HC.out W hW
              go_simp
            go_big_quiet_on
            simp only [Act.put, List.setIfInBounds_toArray, List.set_cons_zero, List.set_cons_succ]
            go_big_quiet_want
            go_big_quiet_op
            go_big_quiet_on
            go_big_quiet_want
            go_big_quiet_op
            go_big_quiet_on
            go_big_quiet_want
            refine ⟨.pointer (some ⟨gs, i * 3, none⟩), fun W hW => ?_, ?_⟩
            · go_simp
            go_big_quiet_on
            simp only [Act.put, List.setIfInBounds_toArray, List.set_cons_zero, List.set_cons_succ]
            go_big_quiet_want
            refine ⟨.agg #[.int .i64 (eq : Int), .int .i64 1, .string ⟨et.toArray⟩], fun W hW => ?_, ?_⟩
            · obtain ⟨k1, k2, ⟨r0, r1, r2⟩, ⟨s0, s1, s2⟩, hb1, hb2⟩ := HC.out W hW
              go_simp
            go_big_quiet_on
            simp only [Act.put, List.setIfInBounds_toArray, List.set_cons_zero, List.set_cons_succ]
            go_big_quiet_want
            refine ⟨.bool false, fun W hW => ?_, ?_⟩
            · go_simp
            go_big_quiet_on
            simp only [Act.put, List.setIfInBounds_toArray, List.set_cons_zero, List.set_cons_succ]
            go_big_quiet_want
            refine ⟨.bool false, fun W hW => ?_, ?_⟩
            · go_simp
            go_big_quiet_on
            simp only [Act.put, List.setIfInBounds_toArray, List.set_cons_zero, List.set_cons_succ]
            refine wpQuiet_nil ?_
            intro W5 hW5
            have HB5 : Hid (Below WA.heap.size WA W5) := bel0Z HW.out hW5
            clear HC HBY hW5 HW
            go_wp2_with fail
            exact ⟨⟨i + 1, rfl, by omega, HB5⟩, by simp only [intOf]; omega⟩
          · obtain rfl : i = nk := by omega
            have HC0 : Hid (∃ f, SEP wr w.heap.size f ∧ DOC f (.slice pa i ca) (.slice pr i cr) (.slice ps i cs) K 0 0) := ⟨f, HGA.out.1.below HW.out, HGA.out.2.toC⟩
            have HBC : Hid (Below w.heap.size w wr) := bel0Z HB.out HW.out
            clear HGA HW HB hlt hi
            rename World => WB
            go_wp2_with fail
            go_loopw [20] (fun vi wr => ∃ m : Nat, vi = .int .i64 (m : Int) ∧ m ≤ i ∧ Hid (∃ f, SEP wr w.heap.size f ∧ DOC f (.slice pa i ca) (.slice pr i cr) (.slice ps i cs) K m 0) ∧ Hid (Below w.heap.size w wr)) (fun vi _ => i - (intOf vi).toNat)
            case atStart => exact ⟨0, rfl, Nat.zero_le _, HC0, HBC⟩
            case round =>
              clear HC0 HBC
              obtain ⟨m, rfl, hm, HC, HB⟩ := hrel
              by_cases hlt : m < i
              · have j1 : (m : Int) < (i : Int) := by omega
                have j0 : (0 : Int) ≤ (m : Int) := by omega
                obtain ⟨e, he⟩ : ∃ e, K[m]? = some e := ⟨_, List.getElem?_eq_getElem (by rw [HK.out.1]; exact hlt)⟩
                have hel := HK.out.2 _ (List.mem_of_getElem? he)
                obtain ⟨ga, g, rfl, hep, -, -, -⟩ := HC.out.elim fun f h => h.2.at h.1 he hel.1
                obtain ⟨ln, hln⟩ : ∃ ln, e.l.length = ln := ⟨_, rfl⟩
                obtain ⟨ec, hec⟩ : ∃ ec, e.c = ec := ⟨_, rfl⟩
                have HEN : Hid (K[m]? = some e ∧ e.p = some ⟨g, 0, none⟩ ∧ e.l.length = ln ∧ e.c = ec ∧ 0 < e.l.length) := ⟨he, hep, hln, hec, hel.1⟩
                have hln2 : ln ≤ 200 := by omega
                obtain ⟨mi, hmi⟩ : ∃ mi : Nat, 1 + m = mi := ⟨_, rfl⟩
                have y1 : (1 : Int) + (m : Int) = (mi : Int) := by omega
                have y2 : IntKind.i64.wrap (mi : Int) = (mi : Int) := by rw [IntKind.wrap_i64]; omega
                have y3 : IntKind.u8.wrap (mi : Int) = (mi : Int) := by simp [IntKind.wrap, IntKind.signed, IntKind.bits]; omega
                have HMI : Hid (mkV m = .int .u8 (mi : Int)) := by show mkV m = _; unfold mkV; rw [hmi]
                clear he hep hln hec hel hmi
                rename World => WB2
                go_wp2_with fail
                go_loopw [21] (fun vk wr => ∃ k : Nat, vk = .int .i64 (k : Int) ∧ k ≤ ln ∧ Hid (∃ f, SEP wr w.heap.size f ∧ DOC f (.slice (some ⟨ga, 0, none⟩) i ca) (.slice pr i cr) (.slice ps i cs) K m k) ∧ Hid (Below w.heap.size w wr)) (fun vk _ => ln - (intOf vk).toNat)
                case atStart => exact ⟨0, rfl, Nat.zero_le _, HC, HB⟩
                case round =>
                  clear HC HB
                  obtain ⟨k, rfl, hk, HC, HB⟩ := hrel
                  obtain ⟨fc, hfc1, hfc2⟩ := HC.out
                  obtain ⟨ga', g', hga', hg', hca, hfz, hex⟩ := hfc2.at hfc1 HEN.out.1 HEN.out.2.2.2.2
                  rw [HEN.out.2.1] at hg'
                  cases hga'
                  cases hg'
                  rw [HEN.out.2.2.1, HEN.out.2.2.2.1] at hca
                  have hfk := hfz k
                  rw [HEN.out.2.2.1] at hex
                  have HF : Hid (SEP wr w.heap.size fc ∧ DOC fc (.slice (some ⟨ga, 0, none⟩) i ca) (.slice pr i cr) (.slice ps i cs) K m k) := ⟨hfc1, hfc2⟩
                  have HEX : Hid (∀ m, m < ln → ∃ u, wr.cell? ⟨g, m, none⟩ = some u) := hex
                  clear hfz hfc1 hfc2 hex
                  by_cases hkl : k < ln
                  · have j3 : (k : Int) < (ln : Int) := by omega
                    have j4 : (0 : Int) ≤ (k : Int) := by omega
                    have HX : Hid ((∃ f, SEP (wr.setCell ⟨g, k, none⟩ (.int .u8 (mi : Int))) w.heap.size f ∧ DOC f (.slice (some ⟨ga, 0, none⟩) i ca) (.slice pr i cr) (.slice ps i cs) K m (k + 1)) ∧ Below w.heap.size w (wr.setCell ⟨g, k, none⟩ (.int .u8 (mi : Int)))) := by
                      obtain ⟨f', h1, h2, h3⟩ := HF.out.2.store HF.out.1 HEN.out.1 (by rw [HEN.out.2.2.1]; exact hkl) HEN.out.2.1
                      rw [HMI.out] at h1
                      exact ⟨⟨f', h1, h2⟩, bel_grZ HB.out (gr_setZ _ _ _ _) (fun b e => by cases e; exact h3)⟩
                    obtain ⟨u9, hu9⟩ := HEX.out k hkl
                    clear HF HC HEX
                    go_wp2_with fail
                    exact ⟨⟨k + 1, rfl, by omega, HX.out.1, HX.out.2⟩, by simp only [intOf]; omega⟩
                  · obtain rfl : k = ln := by omega
                    have HX : Hid (∃ f, SEP wr w.heap.size f ∧ DOC f (.slice (some ⟨ga, 0, none⟩) i ca) (.slice pr i cr) (.slice ps i cs) K (m + 1) 0) := ⟨fc, HF.out.1, DOC.next (by rw [HEN.out.2.2.1]; exact HF.out.2) HEN.out.1⟩
                    clear HF HC hkl HEX
                    go_wp2_with fail
                    exact ⟨⟨m + 1, rfl, by omega, HX, HB⟩, by simp only [intOf]; omega⟩
              · obtain rfl : m = i := by omega
                have HD0 : Hid (∃ f Gs, Gs.length = 0 ∧ SEP wr w.heap.size f ∧ DOD f (.slice pa m ca) (.slice pr m cr) (.slice ps m cs) (.slice none 0 0) K Gs) := by
                  obtain ⟨f, h1, h2⟩ := HC.out
                  exact ⟨f, [], rfl, h1, DOC.toD (by rw [HK.out.1]; exact h2)⟩
                clear HC hlt hm
                rename World => WC
                go_wp2_with fail
                go_loopw [22, 23] (fun vm vi wr => ∃ (d : Nat) (pm : Option Addr) (cm : Nat), vi = .int .i64 (d : Int) ∧ vm = .slice pm d cm ∧ d ≤ m ∧ Hid (∃ f Gs, Gs.length = d ∧ SEP wr w.heap.size f ∧ DOD f (.slice pa m ca) (.slice pr m cr) (.slice ps m cs) (.slice pm d cm) K Gs) ∧ Hid (Below w.heap.size w wr)) (fun _ vi _ => m - (intOf vi).toNat)
                case atStart => exact ⟨0, none, 0, rfl, rfl, Nat.zero_le _, HD0, HB⟩
                case round =>
                  clear HD0 HB
                  obtain ⟨d, pm, cm, rfl, rfl, hd, HD, HB⟩ := hrel
                  by_cases hlt : d < m
                  · have j1 : (d : Int) < (m : Int) := by omega
                    have j0 : (0 : Int) ≤ (d : Int) := by omega
                    obtain ⟨e, he⟩ : ∃ e, K[d]? = some e := ⟨_, List.getElem?_eq_getElem (by rw [HK.out.1]; exact hlt)⟩
                    have hel := HK.out.2 _ (List.mem_of_getElem? he)
                    obtain ⟨f0, Gs0, hGl0, hs0, hd0⟩ := HD.out
                    obtain ⟨ga, rfl, hca⟩ := DOD.at hs0 (by rw [hGl0]; exact hd0) he
                    obtain ⟨ln, hln⟩ : ∃ ln, e.l.length = ln := ⟨_, rfl⟩
                    obtain ⟨ec, hec⟩ : ∃ ec, e.c = ec := ⟨_, rfl⟩
                    obtain ⟨ep, hep⟩ : ∃ ep, e.p = ep := ⟨_, rfl⟩
                    unfold EO.v at hca
                    rw [hep, hln, hec] at hca
                    have HEN : Hid (K[d]? = some e ∧ e.l.length = ln) := ⟨he, hln⟩
                    have HG0 : Hid (∃ f Gs, Gs.length = d ∧ SEP wr w.heap.size f ∧ DOG f (.slice (some ⟨ga, 0, none⟩) m ca) (.slice pr m cr) (.slice ps m cs) (.slice pm d cm) K Gs e (.slice ep ln ec) 0) := ⟨f0, Gs0, hGl0, hs0, by
                      have h := DOD.toG hs0 hd0 (by rw [hGl0]; exact he)
                      unfold EO.v at h
                      rw [hep, hln, hec] at h
                      exact h⟩
                    have hln2 : ln ≤ 200 := by omega
                    obtain ⟨gi, hgi⟩ : ∃ gi : Nat, 255 - d = gi := ⟨_, rfl⟩
                    have y1 : (255 : Int) - (d : Int) = (gi : Int) := by omega
                    have y2 : IntKind.i64.wrap (gi : Int) = (gi : Int) := by rw [IntKind.wrap_i64]; omega
                    have y3 : IntKind.u8.wrap (gi : Int) = (gi : Int) := by simp [IntKind.wrap, IntKind.signed, IntKind.bits]; omega
                    have HGI : Hid (gkV d = .int .u8 (gi : Int)) := by show gkV d = _; unfold gkV; rw [hgi]
                    clear he hel hd0 hs0 hGl0 hln hec hep hgi HD
                    rename World => WD2
                    go_wp2_with fail
                    go_loopw [24, 25] (fun vg vk wr => ∃ (k nm : Nat) (pg : Option Addr) (cg : Nat), vk = .int .i64 (k : Int) ∧ vg = .slice pg nm cg ∧ k ≤ 64 ∧ Hid (nm = ln + k) ∧ Hid (∃ f Gs, Gs.length = d ∧ SEP wr w.heap.size f ∧ DOG f (.slice (some ⟨ga, 0, none⟩) m ca) (.slice pr m cr) (.slice ps m cs) (.slice pm d cm) K Gs e (.slice pg nm cg) k) ∧ Hid (Below w.heap.size w wr)) (fun _ vk _ => 64 - (intOf vk).toNat)
                    case atStart => exact ⟨0, ln, ep, ec, rfl, rfl, by omega, rfl, HG0, HB⟩
                    case round =>
                      clear HG0 HB
                      obtain ⟨k, nm, pg, cg, rfl, rfl, hk, hnm, HG, HB⟩ := hrel
                      obtain ⟨f1, Gs1, hGl, hs1, hg1⟩ := HG.out
                      by_cases hkl : k < 64
                      · have j3 : (k : Int) < 64 := by omega
                        have hb := belAZ (Below.refl _ wr) (.cells #[.int .u8 (gi : Int)] 5 (0, 0))
                        obtain ⟨G', X, f', hr1, s1, g1, gr, gb⟩ := DOG.grow (nb := wr.heap.size) (hs1.below hb) hg1 30 (Nat.le_trans HB.out.size hb.size) (by rw [hGl, HGI.out]; exact alloc_getZ _ _) (by rw [HEN.out.2]; exact hln2) (by omega)
                        obtain ⟨pg', cg', rfl⟩ := DOG.shape s1 g1
                        obtain ⟨nm', hnm'⟩ : ∃ nm', e.l.length + (k + 1) = nm' := ⟨_, rfl⟩
                        rw [hnm'] at hr1 g1
                        have HNM : Hid (nm' = ln + (k + 1)) := by show nm' = _; rw [← hnm', HEN.out.2]
                        have HX : Hid ((∃ f Gs, Gs.length = d ∧ SEP X w.heap.size f ∧ DOG f (.slice (some ⟨ga, 0, none⟩) m ca) (.slice pr m cr) (.slice ps m cs) (.slice pm d cm) K Gs e (.slice pg' nm' cg') (k + 1)) ∧ Below w.heap.size w X) := ⟨⟨f', Gs1, hGl, s1, g1⟩, bel_grZ (belAZ HB.out _) gr gb⟩
                        have HR1 := hideP hr1
                        clear hr1 s1 g1 gr gb hb hs1 hg1 hGl hnm' HG
                        go_upto_region 44 with (at_builtin; refine wpList_runZ rfl _ _ 30 rfl rfl rfl HR1.out ?_; clear HR1)
                        go_wp2_with fail
                        exact ⟨⟨k + 1, nm', pg', cg', rfl, rfl, by omega, HNM, HX.out.1, HX.out.2⟩, by simp only [intOf]; omega⟩
                      · obtain rfl : k = 64 := by omega
                        have hb := belAZ (Below.refl _ wr) (.cells #[.slice pg nm cg] 30 (0, 0))
                        have hs2 := hs1.below hb
                        have o := hs2.own (0, 4)
                        rw [hg1.m] at o
                        have o' : (wr.alloc (.cells #[.slice pg nm cg] 30 (0, 0))).ownsRow w.heap.size 30 1 (.slice pm d cm) Gs1.length Gs1 := o
                        obtain ⟨i0, hi0, hz0, hz1, hz2⟩ := info_parts info_sb
                        obtain ⟨vm', X, hr1, o2, g2, n2⟩ := appZ (TS := 24) (nb := wr.heap.size) 24 Try.underlying24 hi0 hz0 hz1 hz2 rfl (by decide) o' (Nat.le_trans HB.out.size hb.size) (news := [.slice pg nm cg]) rfl (World.news_of_block (alloc_getZ _ _)) (fun u hu => by rw [List.mem_singleton.1 hu]; rfl) (by show Gs1.length ≤ 100000; omega) (by decide)
                        have s3 := hs2.upd (0, 4) (r := ⟨30, 1, vm', Gs1.length + 1, Gs1 ++ [Value.slice pg nm cg]⟩) o2 (by rw [hg1.m]; exact g2) (by rw [hg1.m]; exact n2)
                        have bx : Below w.heap.size w X := bel_grZ (belAZ HB.out _) g2 (fun k e => (World.ownsRow.lt o' k e).1)
                        obtain ⟨pm', cm', rfl⟩ : ∃ pm' cm', vm' = .slice pm' (Gs1.length + 1) cm' := shapeZ o2
                        have hD := hg1.more (by rw [hGl]; exact HEN.out.1) (.slice pm' (Gs1.length + 1) cm')
                        have hr2 : (Builtin.append_ #[24, 24] 24 #[.slice pm d cm, .slice (some ⟨wr.heap.size, 0, none⟩) 1 1]).run Try.prog (wr.alloc (.cells #[.slice pg nm cg] 30 (0, 0))) = .ok (.slice pm' (Gs1.length + 1) cm') X := hr1
                        rw [hGl] at hr2
                        have hD2 : DOD (updS f1 (0, 4) ⟨30, 1, .slice pm' (Gs1.length + 1) cm', Gs1.length + 1, Gs1 ++ [.slice pg nm cg]⟩) (.slice (some ⟨ga, 0, none⟩) m ca) (.slice pr m cr) (.slice ps m cs) (.slice pm' (d + 1) cm') K (Gs1 ++ [.slice pg nm cg]) := by
                          have e1 : Value.slice pm' (d + 1) cm' = .slice pm' (Gs1.length + 1) cm' := by rw [hGl]
                          rw [e1]
                          exact hD
                        have HX : Hid ((∃ f Gs, Gs.length = d + 1 ∧ SEP X w.heap.size f ∧ DOD f (.slice (some ⟨ga, 0, none⟩) m ca) (.slice pr m cr) (.slice ps m cs) (.slice pm' (d + 1) cm') K Gs) ∧ Below w.heap.size w X) := ⟨⟨_, Gs1 ++ [.slice pg nm cg], by rw [List.length_append, hGl]; rfl, s3, hD2⟩, bx⟩
                        have HR1 := hideP hr2
                        clear hr1 hr2 o o' o2 g2 n2 s3 bx hD hD2 hs1 hs2 hg1 hGl hb HG hi0 hz0 hz1 hz2
                        go_upto_region 40 with (at_builtin; refine wpList_runZ rfl _ _ 24 rfl rfl rfl HR1.out ?_; clear HR1)
                        go_wp2_with fail
                        exact ⟨⟨d + 1, pm', cm', rfl, rfl, by omega, HX.out.1, HX.out.2⟩, by simp only [intOf]; omega⟩
                  · obtain rfl : d = m := by omega
                    obtain ⟨f9, Gs, hGl, hs9, hd9⟩ := HD.out
                    have HF : Hid (SEP wr w.heap.size f9 ∧ DOD f9 (.slice pa d ca) (.slice pr d cr) (.slice ps d cs) (.slice pm d cm) K Gs ∧ Gs.length = K.length) := ⟨hs9, hd9, by rw [hGl, HK.out.1]⟩
                    clear hs9 hd9 hGl HD hlt hd
                    rename World => WE
                    go_wp2_with fail
                    go_loopw [26] (fun vi wr => ∃ i : Nat, vi = .int .i64 (i : Int) ∧ i ≤ d ∧ Hid (Below WE.heap.size WE wr)) (fun vi _ => d - (intOf vi).toNat)
                    case atStart => exact ⟨0, rfl, Nat.zero_le _, Below.refl _ _⟩
                    case round =>
                      obtain ⟨i, rfl, hi, HW⟩ := hrel
                      by_cases hlt : i < d
                      · have j1 : (i : Int) < (d : Int) := by omega
                        have j0 : (0 : Int) ≤ (i : Int) := by omega
                        obtain ⟨⟨ep, ec, eu, el, eq, et⟩, he⟩ : ∃ e, K[i]? = some e := ⟨_, List.getElem?_eq_getElem (by rw [HK.out.1]; exact hlt)⟩
                        have hel := HK.out.2 _ (List.mem_of_getElem? he)
                        obtain ⟨ga, gm, gr, gs, g, gg, cg, rfl, rfl, rfl, rfl, hep, hU⟩ := HF.out.2.1.fin HF.out.1 HF.out.2.2 he hel.1
                        simp only at hU hep hel
                        obtain ⟨ln, hln⟩ : ∃ ln, el.length = ln := ⟨_, rfl⟩
                        rw [hln] at hU hel
                        obtain ⟨nm, hnm⟩ : ∃ nm, ln + 64 = nm := ⟨_, rfl⟩
                        rw [hnm] at hU
                        have HNM : Hid (ln + 64 = nm) := hnm
                        obtain ⟨mi, hmi⟩ : ∃ mi : Nat, 1 + i = mi := ⟨_, rfl⟩
                        have y1 : (1 : Int) + (i : Int) = (mi : Int) := by omega
                        have y2 : IntKind.i64.wrap (mi : Int) = (mi : Int) := by rw [IntKind.wrap_i64]; omega
                        have y3 : IntKind.u8.wrap (mi : Int) = (mi : Int) := by simp [IntKind.wrap, IntKind.signed, IntKind.bits]; omega
                        obtain ⟨gi, hgi⟩ : ∃ gi : Nat, 255 - i = gi := ⟨_, rfl⟩
                        have z1 : (255 : Int) - (i : Int) = (gi : Int) := by omega
                        have z2 : IntKind.i64.wrap (gi : Int) = (gi : Int) := by rw [IntKind.wrap_i64]; omega
                        have z3 : IntKind.u8.wrap (gi : Int) = (gi : Int) := by simp [IntKind.wrap, IntKind.signed, IntKind.bits]; omega
                        have e1 : mkV i = .int .u8 (mi : Int) := by unfold mkV; rw [hmi]
                        have e2 : gkV i = .int .u8 (gi : Int) := by unfold gkV; rw [hgi]
                        rw [e1, e2] at hU
                        have HC : Hid ((wr.cell? ⟨ga, i, none⟩ = some (.slice (some ⟨g, 0, none⟩) ln ec) ∧ wr.cell? ⟨gm, i, none⟩ = some (.slice (some ⟨gg, 0, none⟩) nm cg) ∧ (wr.cell? ⟨gr, i * 3, none⟩ = some (.int .i64 (eq : Int)) ∧ wr.cell? ⟨gr, i * 3 + 1, none⟩ = some (.int .i64 1) ∧ wr.cell? ⟨gr, i * 3 + 2, none⟩ = some (.string ⟨et.toArray⟩)) ∧ (wr.cell? ⟨gs, i * 3, none⟩ = some (.int .i64 (eq : Int)) ∧ wr.cell? ⟨gs, i * 3 + 1, none⟩ = some (.int .i64 1) ∧ wr.cell? ⟨gs, i * 3 + 2, none⟩ = some (.string ⟨et.toArray⟩)) ∧ (∀ k, k < ln → wr.cell? ⟨g, k, none⟩ = some (.int .u8 (mi : Int)) ∧ wr.cell? ⟨gg, k, none⟩ = some (.int .u8 (mi : Int))) ∧ (∀ k, ln ≤ k → k < nm → wr.cell? ⟨gg, k, none⟩ = some (.int .u8 (gi : Int))))) := hU wr HW.out
                        have hln2 : ln ≤ 200 := by omega
                        have hnm2 : nm ≤ 264 := by omega
                        clear hU he hln hel hnm hmi hgi e1 e2 hep
                        obtain ⟨k1, k2, ⟨r0, r1, r2⟩, ⟨s0, s1, s2⟩, -, -⟩ := HC.out
                        go_wp2_with fail
                        go_loopw [27] (fun vk wr2 => ∃ k : Nat, vk = .int .i64 (k : Int) ∧ k ≤ nm ∧ wr2 = wr) (fun vk _ => nm - (intOf vk).toNat)
                        case atStart => exact ⟨0, rfl, Nat.zero_le _, rfl⟩
                        case round =>
                          obtain ⟨k, rfl, hk, rfl⟩ := hrel
                          have j4 : (0 : Int) ≤ (k : Int) := by omega
                          by_cases hkn : k < nm
                          · have j5 : (k : Int) < (nm : Int) := by omega
                            by_cases hkl : k < ln
                            · have j6 : (k : Int) < (ln : Int) := by omega
                              have j7 : ¬ (ln : Int) ≤ (k : Int) := by omega
                              obtain ⟨x1, x2⟩ := HC.out.2.2.2.2.1 k hkl
                              clear r0 r1 r2 s0 s1 s2
                              go_wp2_with fail
                              exact ⟨⟨k + 1, rfl, by omega, by trivial⟩, by simp only [intOf]; omega⟩
                            · have j6 : ¬ (k : Int) < (ln : Int) := by omega
                              have j7 : (ln : Int) ≤ (k : Int) := by omega
                              have x1 := HC.out.2.2.2.2.2 k (by omega) hkn
                              clear r0 r1 r2 s0 s1 s2
                              go_wp2_with fail
                              exact ⟨⟨k + 1, rfl, by omega, by trivial⟩, by simp only [intOf]; omega⟩
                          · have j5 : ¬ (k : Int) < (nm : Int) := by omega
                            go_wp2_with fail
                            go_quiet (fail)
                            go_wp2_with fail
                            exact ⟨⟨i + 1, rfl, by omega, bel_drewZ nq HW.out⟩, by simp only [intOf]; omega⟩
                      · have j1 : ¬ (i : Int) < (d : Int) := by omega
                        go_wp2_with fail
                        go_ret
                        exact ⟨rfl, bel0Z HB.out HW.out⟩
    · have j1 : ¬ (i : Int) < (n : Int) := by omega
      have hnk2 : nk ≤ 90 := by have := hnk.out; omega
      clear HR hlt hin hi30
      go_wp2_with fail
      rename World => WA
      obtain ⟨K, hKn, hKo, ⟨f, hsep, hga⟩, hBs⟩ := HS.out.ga
      have HK : Hid (K.length = nk ∧ okK K) := ⟨hKn, hKo⟩
      have HGA : Hid (SEP WA w.heap.size f ∧ GA f (.slice pa nk ca) (.slice pw nk cw) (.slice pr nk cr) (.slice ps nk cs) K) := ⟨hsep, hga⟩
      clear hKn hKo hsep hga hBs HS hnk
      go_loopw [19] (fun vi wr => ∃ i : Nat, vi = .int .i64 (i : Int) ∧ i ≤ nk ∧ Hid (Below WA.heap.size WA wr)) (fun vi _ => nk - (intOf vi).toNat)
      case atStart => exact ⟨0, rfl, Nat.zero_le _, Below.refl _ _⟩
      case round =>
        obtain ⟨i, rfl, hi, HW⟩ := hrel
        by_cases hlt : i < nk
        · have j1 : (i : Int) < (nk : Int) := by omega
          have j0 : (0 : Int) ≤ (i : Int) := by omega
          obtain ⟨⟨ep, ec, eu, el, eq, et⟩, he⟩ : ∃ e, K[i]? = some e := ⟨_, List.getElem?_eq_getElem (by rw [HK.out.1]; exact hlt)⟩
          have hel := HK.out.2 _ (List.mem_of_getElem? he)
          simp only at hel
          obtain ⟨ga, gw, gr, gs, pu, cu, rfl, rfl, rfl, rfl, hu, hU⟩ := HGA.out.2.at HGA.out.1 he
          simp only [EO.v] at hU
          obtain ⟨ln, hln⟩ : ∃ ln, el.length = ln := ⟨_, rfl⟩
          rw [hln] at hU hel
          have HC : Hid (∀ U, Below wr.heap.size wr U → (U.cell? ⟨ga, i, none⟩ = some (.slice ep ln ec) ∧ U.cell? ⟨gw, i, none⟩ = some (.slice pu ln cu) ∧ (U.cell? ⟨gr, i * 3, none⟩ = some (.int .i64 (eq : Int)) ∧ U.cell? ⟨gr, i * 3 + 1, none⟩ = some (.int .i64 1) ∧ U.cell? ⟨gr, i * 3 + 2, none⟩ = some (.string ⟨et.toArray⟩)) ∧ (U.cell? ⟨gs, i * 3, none⟩ = some (.int .i64 (eq : Int)) ∧ U.cell? ⟨gs, i * 3 + 1, none⟩ = some (.int .i64 1) ∧ U.cell? ⟨gs, i * 3 + 2, none⟩ = some (.string ⟨et.toArray⟩)) ∧ BR U ep el ∧ BR U pu el)) := fun U h => hU U (bel0Z HW.out h)
          have HBY : Hid (∀ U, BR U ep el → BR U pu el → Calls Try.prog 8 #[.slice ep ln ec, .slice pu ln cu] U fun e w' => e = .returned (.bool true) ∧ Below U.heap.size U w') := fun U h1 h2 => bytes_any el ep pu ec cu ln U hln (by omega) h1 h2
          clear hU hu he hln hel
          go_wp2_with fail
          refine quiet_lit3 (C := fun U => Below wr.heap.size wr U) (by kernel_rfl) (by kernel_rfl) (show Below _ _ _ from (Below.refl _ _).drew) ?_
          go_big_quiet_want
          go_big_quiet_op
          go_big_quiet_on
          go_big_quiet_want
          go_big_quiet_op
          go_big_quiet_on
          go_big_quiet_want
          refine ⟨.pointer (some ⟨ga, i, none⟩), fun W hW => ?_, ?_⟩
          · go_simp
          go_big_quiet_on
          simp only [Act.put, List.setIfInBounds_toArray, List.set_cons_zero, List.set_cons_succ]
          go_big_quiet_want
          refine ⟨.slice ep ln ec, fun W hW => ?_, ?_⟩
          · obtain ⟨k1, k2, ⟨r0, r1, r2⟩, ⟨s0, s1, s2⟩, hb1, hb2⟩ := HC.out W hW
            go_simp
          go_big_quiet_on
          simp only [Act.put, List.setIfInBounds_toArray, List.set_cons_zero, List.set_cons_succ]
          go_big_quiet_want
          go_big_quiet_op
          go_big_quiet_on
          go_big_quiet_want
          go_big_quiet_op
          go_big_quiet_on
          go_big_quiet_want
          refine ⟨.pointer (some ⟨gw, i, none⟩), fun W hW => ?_, ?_⟩
          · go_simp
          go_big_quiet_on
          simp only [Act.put, List.setIfInBounds_toArray, List.set_cons_zero, List.set_cons_succ]
          go_big_quiet_want
          refine ⟨.slice pu ln cu, fun W hW => ?_, ?_⟩
          · obtain ⟨k1, k2, ⟨r0, r1, r2⟩, ⟨s0, s1, s2⟩, hb1, hb2⟩ := HC.out W hW
            go_simp
          go_big_quiet_on
          simp only [Act.put, List.setIfInBounds_toArray, List.set_cons_zero, List.set_cons_succ]
          go_big_quiet_want
          refine ⟨.bool true, fun W hW => ?_, ?_⟩
          · obtain ⟨k1, k2, ⟨r0, r1, r2⟩, ⟨s0, s1, s2⟩, hb1, hb2⟩ := HC.out W hW
            go_simp
            refine (HBY.out W hb1 hb2).mono ?_
            rintro e w7 ⟨rfl, hb⟩
            exact ⟨rfl, bel0Z hW hb⟩
          go_big_quiet_on
          simp only [Act.put, List.setIfInBounds_toArray, List.set_cons_zero, List.set_cons_succ]
          go_big_quiet_want
          refine ⟨.bool false, fun W hW => ?_, ?_⟩
          · go_simp
          go_big_quiet_on
          simp only [Act.put, List.setIfInBounds_toArray, List.set_cons_zero, List.set_cons_succ]
          go_big_quiet_want
          go_big_quiet_op
          go_big_quiet_on
          go_big_quiet_want
          go_big_quiet_op
          go_big_quiet_on
          go_big_quiet_want
          go_big_quiet_op
          go_big_quiet_on
          go_big_quiet_want
          refine ⟨.pointer (some ⟨gr, i * 3, none⟩), fun W hW => ?_, ?_⟩
          · go_simp
          go_big_quiet_on
          simp only [Act.put, List.setIfInBounds_toArray, List.set_cons_zero, List.set_cons_succ]
          go_big_quiet_want
          refine ⟨.agg #[.int .i64 (eq : Int), .int .i64 1, .string ⟨et.toArray⟩], fun W hW => ?_, ?_⟩
          · obtain ⟨k1, k2, ⟨r0, r1, r2⟩, ⟨s0, s1, s2⟩, hb1, hb2⟩ := HC.out W hW
            go_simp
          go_big_quiet_on
          simp only [Act.put, List.setIfInBounds_toArray, List.set_cons_zero, List.set_cons_succ]
          go_big_quiet_want
          go_big_quiet_op
          go_big_quiet_on
          go_big_quiet_want
          go_big_quiet_op
          go_big_quiet_on
          go_big_quiet_want
          refine ⟨.pointer (some ⟨gs, i * 3, none⟩), fun W hW => ?_, ?_⟩
          · go_simp
          go_big_quiet_on
          simp only [Act.put, List.setIfInBounds_toArray, List.set_cons_zero, List.set_cons_succ]
          go_big_quiet_want
          refine ⟨.agg #[.int .i64 (eq : Int), .int .i64 1, .string ⟨et.toArray⟩], fun W hW => ?_, ?_⟩
          · obtain ⟨k1, k2, ⟨r0, r1, r2⟩, ⟨s0, s1, s2⟩, hb1, hb2⟩ := HC.out W hW
            go_simp
          go_big_quiet_on
          simp only [Act.put, List.setIfInBounds_toArray, List.set_cons_zero, List.set_cons_succ]
          go_big_quiet_want
          refine ⟨.bool false, fun W hW => ?_, ?_⟩
          · go_simp
          go_big_quiet_on
          simp only [Act.put, List.setIfInBounds_toArray, List.set_cons_zero, List.set_cons_succ]
          go_big_quiet_want
          refine ⟨.bool false, fun W hW => ?_, ?_⟩
          · go_simp
          go_big_quiet_on
          simp only [Act.put, List.setIfInBounds_toArray, List.set_cons_zero, List.set_cons_succ]
          refine wpQuiet_nil ?_
          intro W5 hW5
          have HB5 : Hid (Below WA.heap.size WA W5) := bel0Z HW.out hW5
          clear HC HBY hW5 HW
          go_wp2_with fail
          exact ⟨⟨i + 1, rfl, by omega, HB5⟩, by simp only [intOf]; omega⟩
        · obtain rfl : i = nk := by omega
          have HC0 : Hid (∃ f, SEP wr w.heap.size f ∧ DOC f (.slice pa i ca) (.slice pr i cr) (.slice ps i cs) K 0 0) := ⟨f, HGA.out.1.below HW.out, HGA.out.2.toC⟩
          have HBC : Hid (Below w.heap.size w wr) := bel0Z HB.out HW.out
          clear HGA HW HB hlt hi
          rename World => WB
          go_wp2_with fail
          go_loopw [20] (fun vi wr => ∃ m : Nat, vi = .int .i64 (m : Int) ∧ m ≤ i ∧ Hid (∃ f, SEP wr w.heap.size f ∧ DOC f (.slice pa i ca) (.slice pr i cr) (.slice ps i cs) K m 0) ∧ Hid (Below w.heap.size w wr)) (fun vi _ => i - (intOf vi).toNat)
          case atStart => exact ⟨0, rfl, Nat.zero_le _, HC0, HBC⟩
          case round =>
            clear HC0 HBC
            obtain ⟨m, rfl, hm, HC, HB⟩ := hrel
            by_cases hlt : m < i
            · have j1 : (m : Int) < (i : Int) := by omega
              have j0 : (0 : Int) ≤ (m : Int) := by omega
              obtain ⟨e, he⟩ : ∃ e, K[m]? = some e := ⟨_, List.getElem?_eq_getElem (by rw [HK.out.1]; exact hlt)⟩
              have hel := HK.out.2 _ (List.mem_of_getElem? he)
              obtain ⟨ga, g, rfl, hep, -, -, -⟩ := HC.out.elim fun f h => h.2.at h.1 he hel.1
              obtain ⟨ln, hln⟩ : ∃ ln, e.l.length = ln := ⟨_, rfl⟩
              obtain ⟨ec, hec⟩ : ∃ ec, e.c = ec := ⟨_, rfl⟩
              have HEN : Hid (K[m]? = some e ∧ e.p = some ⟨g, 0, none⟩ ∧ e.l.length = ln ∧ e.c = ec ∧ 0 < e.l.length) := ⟨he, hep, hln, hec, hel.1⟩
              have hln2 : ln ≤ 200 := by omega
              obtain ⟨mi, hmi⟩ : ∃ mi : Nat, 1 + m = mi := ⟨_, rfl⟩
              have y1 : (1 : Int) + (m : Int) = (mi : Int) := by omega
              have y2 : IntKind.i64.wrap (mi : Int) = (mi : Int) := by rw [IntKind.wrap_i64]; omega
              have y3 : IntKind.u8.wrap (mi : Int) = (mi : Int) := by simp [IntKind.wrap, IntKind.signed, IntKind.bits]; omega
              have HMI : Hid (mkV m = .int .u8 (mi : Int)) := by show mkV m = _; unfold mkV; rw [hmi]
              clear he hep hln hec hel hmi
              rename World => WB2
              go_wp2_with fail
              go_loopw [21] (fun vk wr => ∃ k : Nat, vk = .int .i64 (k : Int) ∧ k ≤ ln ∧ Hid (∃ f, SEP wr w.heap.size f ∧ DOC f (.slice (some ⟨ga, 0, none⟩) i ca) (.slice pr i cr) (.slice ps i cs) K m k) ∧ Hid (Below w.heap.size w wr)) (fun vk _ => ln - (intOf vk).toNat)
              case atStart => exact ⟨0, rfl, Nat.zero_le _, HC, HB⟩
              case round =>
                clear HC HB
                obtain ⟨k, rfl, hk, HC, HB⟩ := hrel
                obtain ⟨fc, hfc1, hfc2⟩ := HC.out
                obtain ⟨ga', g', hga', hg', hca, hfz, hex⟩ := hfc2.at hfc1 HEN.out.1 HEN.out.2.2.2.2
                rw [HEN.out.2.1] at hg'
                cases hga'
                cases hg'
                rw [HEN.out.2.2.1, HEN.out.2.2.2.1] at hca
                have hfk := hfz k
                rw [HEN.out.2.2.1] at hex
                have HF : Hid (SEP wr w.heap.size fc ∧ DOC fc (.slice (some ⟨ga, 0, none⟩) i ca) (.slice pr i cr) (.slice ps i cs) K m k) := ⟨hfc1, hfc2⟩
                have HEX : Hid (∀ m, m < ln → ∃ u, wr.cell? ⟨g, m, none⟩ = some u) := hex
                clear hfz hfc1 hfc2 hex
                by_cases hkl : k < ln
                · have j3 : (k : Int) < (ln : Int) := by omega
                  have j4 : (0 : Int) ≤ (k : Int) := by omega
                  have HX : Hid ((∃ f, SEP (wr.setCell ⟨g, k, none⟩ (.int .u8 (mi : Int))) w.heap.size f ∧ DOC f (.slice (some ⟨ga, 0, none⟩) i ca) (.slice pr i cr) (.slice ps i cs) K m (k + 1)) ∧ Below w.heap.size w (wr.setCell ⟨g, k, none⟩ (.int .u8 (mi : Int)))) := by
                    obtain ⟨f', h1, h2, h3⟩ := HF.out.2.store HF.out.1 HEN.out.1 (by rw [HEN.out.2.2.1]; exact hkl) HEN.out.2.1
                    rw [HMI.out] at h1
                    exact ⟨⟨f', h1, h2⟩, bel_grZ HB.out (gr_setZ _ _ _ _) (fun b e => by cases e; exact h3)⟩
                  obtain ⟨u9, hu9⟩ := HEX.out k hkl
                  clear HF HC HEX
                  go_wp2_with fail
                  exact ⟨⟨k + 1, rfl, by omega, HX.out.1, HX.out.2⟩, by simp only [intOf]; omega⟩
                · obtain rfl : k = ln := by omega
                  have HX : Hid (∃ f, SEP wr w.heap.size f ∧ DOC f (.slice (some ⟨ga, 0, none⟩) i ca) (.slice pr i cr) (.slice ps i cs) K (m + 1) 0) := ⟨fc, HF.out.1, DOC.next (by rw [HEN.out.2.2.1]; exact HF.out.2) HEN.out.1⟩
                  clear HF HC hkl HEX
                  go_wp2_with fail
                  exact ⟨⟨m + 1, rfl, by omega, HX, HB⟩, by simp only [intOf]; omega⟩
            · obtain rfl : m = i := by omega
              have HD0 : Hid (∃ f Gs, Gs.length = 0 ∧ SEP wr w.heap.size f ∧ DOD f (.slice pa m ca) (.slice pr m cr) (.slice ps m cs) (.slice none 0 0) K Gs) := by
                obtain ⟨f, h1, h2⟩ := HC.out
                exact ⟨f, [], rfl, h1, DOC.toD (by rw [HK.out.1]; exact h2)⟩
              clear HC hlt hm
              rename World => WC
              go_wp2_with fail
              go_loopw [22, 23] (fun vm vi wr => ∃ (d : Nat) (pm : Option Addr) (cm : Nat), vi = .int .i64 (d : Int) ∧ vm = .slice pm d cm ∧ d ≤ m ∧ Hid (∃ f Gs, Gs.length = d ∧ SEP wr w.heap.size f ∧ DOD f (.slice pa m ca) (.slice pr m cr) (.slice ps m cs) (.slice pm d cm) K Gs) ∧ Hid (Below w.heap.size w wr)) (fun _ vi _ => m - (intOf vi).toNat)
              case atStart => exact ⟨0, none, 0, rfl, rfl, Nat.zero_le _, HD0, HB⟩
              case round =>
                clear HD0 HB
                obtain ⟨d, pm, cm, rfl, rfl, hd, HD, HB⟩ := hrel
                by_cases hlt : d < m
                · have j1 : (d : Int) < (m : Int) := by omega
                  have j0 : (0 : Int) ≤ (d : Int) := by omega
                  obtain ⟨e, he⟩ : ∃ e, K[d]? = some e := ⟨_, List.getElem?_eq_getElem (by rw [HK.out.1]; exact hlt)⟩
                  have hel := HK.out.2 _ (List.mem_of_getElem? he)
                  obtain ⟨f0, Gs0, hGl0, hs0, hd0⟩ := HD.out
                  obtain ⟨ga, rfl, hca⟩ := DOD.at hs0 (by rw [hGl0]; exact hd0) he
                  obtain ⟨ln, hln⟩ : ∃ ln, e.l.length = ln := ⟨_, rfl⟩
                  obtain ⟨ec, hec⟩ : ∃ ec, e.c = ec := ⟨_, rfl⟩
                  obtain ⟨ep, hep⟩ : ∃ ep, e.p = ep := ⟨_, rfl⟩
                  unfold EO.v at hca
                  rw [hep, hln, hec] at hca
                  have HEN : Hid (K[d]? = some e ∧ e.l.length = ln) := ⟨he, hln⟩
                  have HG0 : Hid (∃ f Gs, Gs.length = d ∧ SEP wr w.heap.size f ∧ DOG f (.slice (some ⟨ga, 0, none⟩) m ca) (.slice pr m cr) (.slice ps m cs) (.slice pm d cm) K Gs e (.slice ep ln ec) 0) := ⟨f0, Gs0, hGl0, hs0, by
                    have h := DOD.toG hs0 hd0 (by rw [hGl0]; exact he)
                    unfold EO.v at h
                    rw [hep, hln, hec] at h
                    exact h⟩
                  have hln2 : ln ≤ 200 := by omega
                  obtain ⟨gi, hgi⟩ : ∃ gi : Nat, 255 - d = gi := ⟨_, rfl⟩
                  have y1 : (255 : Int) - (d : Int) = (gi : Int) := by omega
                  have y2 : IntKind.i64.wrap (gi : Int) = (gi : Int) := by rw [IntKind.wrap_i64]; omega
                  have y3 : IntKind.u8.wrap (gi : Int) = (gi : Int) := by simp [IntKind.wrap, IntKind.signed, IntKind.bits]; omega
                  have HGI : Hid (gkV d = .int .u8 (gi : Int)) := by show gkV d = _; unfold gkV; rw [hgi]
                  clear he hel hd0 hs0 hGl0 hln hec hep hgi HD
                  rename World => WD2
                  go_wp2_with fail
                  go_loopw [24, 25] (fun vg vk wr => ∃ (k nm : Nat) (pg : Option Addr) (cg : Nat), vk = .int .i64 (k : Int) ∧ vg = .slice pg nm cg ∧ k ≤ 64 ∧ Hid (nm = ln + k) ∧ Hid (∃ f Gs, Gs.length = d ∧ SEP wr w.heap.size f ∧ DOG f (.slice (some ⟨ga, 0, none⟩) m ca) (.slice pr m cr) (.slice ps m cs) (.slice pm d cm) K Gs e (.slice pg nm cg) k) ∧ Hid (Below w.heap.size w wr)) (fun _ vk _ => 64 - (intOf vk).toNat)
                  case atStart => exact ⟨0, ln, ep, ec, rfl, rfl, by omega, rfl, HG0, HB⟩
                  case round =>
                    clear HG0 HB
                    obtain ⟨k, nm, pg, cg, rfl, rfl, hk, hnm, HG, HB⟩ := hrel
                    obtain ⟨f1, Gs1, hGl, hs1, hg1⟩ := HG.out
                    by_cases hkl : k < 64
                    · have j3 : (k : Int) < 64 := by omega
                      have hb := belAZ (Below.refl _ wr) (.cells #[.int .u8 (gi : Int)] 5 (0, 0))
                      obtain ⟨G', X, f', hr1, s1, g1, gr, gb⟩ := DOG.grow (nb := wr.heap.size) (hs1.below hb) hg1 30 (Nat.le_trans HB.out.size hb.size) (by rw [hGl, HGI.out]; exact alloc_getZ _ _) (by rw [HEN.out.2]; exact hln2) (by omega)
                      obtain ⟨pg', cg', rfl⟩ := DOG.shape s1 g1
                      obtain ⟨nm', hnm'⟩ : ∃ nm', e.l.length + (k + 1) = nm' := ⟨_, rfl⟩
                      rw [hnm'] at hr1 g1
                      have HNM : Hid (nm' = ln + (k + 1)) := by show nm' = _; rw [← hnm', HEN.out.2]
                      have HX : Hid ((∃ f Gs, Gs.length = d ∧ SEP X w.heap.size f ∧ DOG f (.slice (some ⟨ga, 0, none⟩) m ca) (.slice pr m cr) (.slice ps m cs) (.slice pm d cm) K Gs e (.slice pg' nm' cg') (k + 1)) ∧ Below w.heap.size w X) := ⟨⟨f', Gs1, hGl, s1, g1⟩, bel_grZ (belAZ HB.out _) gr gb⟩
                      have HR1 := hideP hr1
                      clear hr1 s1 g1 gr gb hb hs1 hg1 hGl hnm' HG
                      go_upto_region 44 with (at_builtin; refine wpList_runZ rfl _ _ 30 rfl rfl rfl HR1.out ?_; clear HR1)
                      go_wp2_with fail
                      exact ⟨⟨k + 1, nm', pg', cg', rfl, rfl, by omega, HNM, HX.out.1, HX.out.2⟩, by simp only [intOf]; omega⟩
                    · obtain rfl : k = 64 := by omega
                      have hb := belAZ (Below.refl _ wr) (.cells #[.slice pg nm cg] 30 (0, 0))
                      have hs2 := hs1.below hb
                      have o := hs2.own (0, 4)
                      rw [hg1.m] at o
                      have o' : (wr.alloc (.cells #[.slice pg nm cg] 30 (0, 0))).ownsRow w.heap.size 30 1 (.slice pm d cm) Gs1.length Gs1 := o
                      obtain ⟨i0, hi0, hz0, hz1, hz2⟩ := info_parts info_sb
                      obtain ⟨vm', X, hr1, o2, g2, n2⟩ := appZ (TS := 24) (nb := wr.heap.size) 24 Try.underlying24 hi0 hz0 hz1 hz2 rfl (by decide) o' (Nat.le_trans HB.out.size hb.size) (news := [.slice pg nm cg]) rfl (World.news_of_block (alloc_getZ _ _)) (fun u hu => by rw [List.mem_singleton.1 hu]; rfl) (by show Gs1.length ≤ 100000; omega) (by decide)
                      have s3 := hs2.upd (0, 4) (r := ⟨30, 1, vm', Gs1.length + 1, Gs1 ++ [Value.slice pg nm cg]⟩) o2 (by rw [hg1.m]; exact g2) (by rw [hg1.m]; exact n2)
                      have bx : Below w.heap.size w X := bel_grZ (belAZ HB.out _) g2 (fun k e => (World.ownsRow.lt o' k e).1)
                      obtain ⟨pm', cm', rfl⟩ : ∃ pm' cm', vm' = .slice pm' (Gs1.length + 1) cm' := shapeZ o2
                      have hD := hg1.more (by rw [hGl]; exact HEN.out.1) (.slice pm' (Gs1.length + 1) cm')
                      have hr2 : (Builtin.append_ #[24, 24] 24 #[.slice pm d cm, .slice (some ⟨wr.heap.size, 0, none⟩) 1 1]).run Try.prog (wr.alloc (.cells #[.slice pg nm cg] 30 (0, 0))) = .ok (.slice pm' (Gs1.length + 1) cm') X := hr1
                      rw [hGl] at hr2
                      have hD2 : DOD (updS f1 (0, 4) ⟨30, 1, .slice pm' (Gs1.length + 1) cm', Gs1.length + 1, Gs1 ++ [.slice pg nm cg]⟩) (.slice (some ⟨ga, 0, none⟩) m ca) (.slice pr m cr) (.slice ps m cs) (.slice pm' (d + 1) cm') K (Gs1 ++ [.slice pg nm cg]) := by
                        have e1 : Value.slice pm' (d + 1) cm' = .slice pm' (Gs1.length + 1) cm' := by rw [hGl]
                        rw [e1]
                        exact hD
                      have HX : Hid ((∃ f Gs, Gs.length = d + 1 ∧ SEP X w.heap.size f ∧ DOD f (.slice (some ⟨ga, 0, none⟩) m ca) (.slice pr m cr) (.slice ps m cs) (.slice pm' (d + 1) cm') K Gs) ∧ Below w.heap.size w X) := ⟨⟨_, Gs1 ++ [.slice pg nm cg], by rw [List.length_append, hGl]; rfl, s3, hD2⟩, bx⟩
                      have HR1 := hideP hr2
                      clear hr1 hr2 o o' o2 g2 n2 s3 bx hD hD2 hs1 hs2 hg1 hGl hb HG hi0 hz0 hz1 hz2
                      go_upto_region 40 with (at_builtin; refine wpList_runZ rfl _ _ 24 rfl rfl rfl HR1.out ?_; clear HR1)
                      go_wp2_with fail
                      exact ⟨⟨d + 1, pm', cm', rfl, rfl, by omega, HX.out.1, HX.out.2⟩, by simp only [intOf]; omega⟩
                · obtain rfl : d = m := by omega
                  obtain ⟨f9, Gs, hGl, hs9, hd9⟩ := HD.out
                  have HF : Hid (SEP wr w.heap.size f9 ∧ DOD f9 (.slice pa d ca) (.slice pr d cr) (.slice ps d cs) (.slice pm d cm) K Gs ∧ Gs.length = K.length) := ⟨hs9, hd9, by rw [hGl, HK.out.1]⟩
                  clear hs9 hd9 hGl HD hlt hd
                  rename World => WE
                  go_wp2_with fail
                  go_loopw [26] (fun vi wr => ∃ i : Nat, vi = .int .i64 (i : Int) ∧ i ≤ d ∧ Hid (Below WE.heap.size WE wr)) (fun vi _ => d - (intOf vi).toNat)
                  case atStart => exact ⟨0, rfl, Nat.zero_le _, Below.refl _ _⟩
                  case round =>
                    obtain ⟨i, rfl, hi, HW⟩ := hrel
                    by_cases hlt : i < d
                    · have j1 : (i : Int) < (d : Int) := by omega
                      have j0 : (0 : Int) ≤ (i : Int) := by omega
                      obtain ⟨⟨ep, ec, eu, el, eq, et⟩, he⟩ : ∃ e, K[i]? = some e := ⟨_, List.getElem?_eq_getElem (by rw [HK.out.1]; exact hlt)⟩
                      have hel := HK.out.2 _ (List.mem_of_getElem? he)
                      obtain ⟨ga, gm, gr, gs, g, gg, cg, rfl, rfl, rfl, rfl, hep, hU⟩ := HF.out.2.1.fin HF.out.1 HF.out.2.2 he hel.1
                      simp only at hU hep hel
                      obtain ⟨ln, hln⟩ : ∃ ln, el.length = ln := ⟨_, rfl⟩
                      rw [hln] at hU hel
                      obtain ⟨nm, hnm⟩ : ∃ nm, ln + 64 = nm := ⟨_, rfl⟩
                      rw [hnm] at hU
                      have HNM : Hid (ln + 64 = nm) := hnm
                      obtain ⟨mi, hmi⟩ : ∃ mi : Nat, 1 + i = mi := ⟨_, rfl⟩
                      have y1 : (1 : Int) + (i : Int) = (mi : Int) := by omega
                      have y2 : IntKind.i64.wrap (mi : Int) = (mi : Int) := by rw [IntKind.wrap_i64]; omega
                      have y3 : IntKind.u8.wrap (mi : Int) = (mi : Int) := by simp [IntKind.wrap, IntKind.signed, IntKind.bits]; omega
                      obtain ⟨gi, hgi⟩ : ∃ gi : Nat, 255 - i = gi := ⟨_, rfl⟩
                      have z1 : (255 : Int) - (i : Int) = (gi : Int) := by omega
                      have z2 : IntKind.i64.wrap (gi : Int) = (gi : Int) := by rw [IntKind.wrap_i64]; omega
                      have z3 : IntKind.u8.wrap (gi : Int) = (gi : Int) := by simp [IntKind.wrap, IntKind.signed, IntKind.bits]; omega
                      have e1 : mkV i = .int .u8 (mi : Int) := by unfold mkV; rw [hmi]
                      have e2 : gkV i = .int .u8 (gi : Int) := by unfold gkV; rw [hgi]
                      rw [e1, e2] at hU
                      have HC : Hid ((wr.cell? ⟨ga, i, none⟩ = some (.slice (some ⟨g, 0, none⟩) ln ec) ∧ wr.cell? ⟨gm, i, none⟩ = some (.slice (some ⟨gg, 0, none⟩) nm cg) ∧ (wr.cell? ⟨gr, i * 3, none⟩ = some (.int .i64 (eq : Int)) ∧ wr.cell? ⟨gr, i * 3 + 1, none⟩ = some (.int .i64 1) ∧ wr.cell? ⟨gr, i * 3 + 2, none⟩ = some (.string ⟨et.toArray⟩)) ∧ (wr.cell? ⟨gs, i * 3, none⟩ = some (.int .i64 (eq : Int)) ∧ wr.cell? ⟨gs, i * 3 + 1, none⟩ = some (.int .i64 1) ∧ wr.cell? ⟨gs, i * 3 + 2, none⟩ = some (.string ⟨et.toArray⟩)) ∧ (∀ k, k < ln → wr.cell? ⟨g, k, none⟩ = some (.int .u8 (mi : Int)) ∧ wr.cell? ⟨gg, k, none⟩ = some (.int .u8 (mi : Int))) ∧ (∀ k, ln ≤ k → k < nm → wr.cell? ⟨gg, k, none⟩ = some (.int .u8 (gi : Int))))) := hU wr HW.out
                      have hln2 : ln ≤ 200 := by omega
                      have hnm2 : nm ≤ 264 := by omega
                      clear hU he hln hel hnm hmi hgi e1 e2 hep
                      obtain ⟨k1, k2, ⟨r0, r1, r2⟩, ⟨s0, s1, s2⟩, -, -⟩ := HC.out
                      go_wp2_with fail
                      go_loopw [27] (fun vk wr2 => ∃ k : Nat, vk = .int .i64 (k : Int) ∧ k ≤ nm ∧ wr2 = wr) (fun vk _ => nm - (intOf vk).toNat)
                      case atStart => exact ⟨0, rfl, Nat.zero_le _, rfl⟩
                      case round =>
                        obtain ⟨k, rfl, hk, rfl⟩ := hrel
                        have j4 : (0 : Int) ≤ (k : Int) := by omega
                        by_cases hkn : k < nm
                        · have j5 : (k : Int) < (nm : Int) := by omega
                          by_cases hkl : k < ln
                          · have j6 : (k : Int) < (ln : Int) := by omega
                            have j7 : ¬ (ln : Int) ≤ (k : Int) := by omega
                            obtain ⟨x1, x2⟩ := HC.out.2.2.2.2.1 k hkl
                            clear r0 r1 r2 s0 s1 s2
                            go_wp2_with fail
                            exact ⟨⟨k + 1, rfl, by omega, by trivial⟩, by simp only [intOf]; omega⟩
                          · have j6 : ¬ (k : Int) < (ln : Int) := by omega
                            have j7 : (ln : Int) ≤ (k : Int) := by omega
                            have x1 := HC.out.2.2.2.2.2 k (by omega) hkn
                            clear r0 r1 r2 s0 s1 s2
                            go_wp2_with fail
                            exact ⟨⟨k + 1, rfl, by omega, by trivial⟩, by simp only [intOf]; omega⟩
                        · have j5 : ¬ (k : Int) < (nm : Int) := by omega
                          go_wp2_with fail
                          go_quiet (fail)
                          go_wp2_with fail
                          exact ⟨⟨i + 1, rfl, by omega, bel_drewZ nq HW.out⟩, by simp only [intOf]; omega⟩
                    · have j1 : ¬ (i : Int) < (d : Int) := by omega
                      go_wp2_with fail
                      go_ret
                      exact ⟨rfl, bel0Z HB.out HW.out⟩
end Go.Proofs.Ytnfhhdjgjonbaaa

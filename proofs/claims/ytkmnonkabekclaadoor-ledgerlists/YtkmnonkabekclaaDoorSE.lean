import Derived.Test.YtkmnonkabekclaaDoorSD
import Derived.Test.YtkmnonkabekclaaDoorLR
namespace Go.Proofs.YtkmnonkabekclaaDoor
open Go.RowKit Go.Shelf
set_option maxRecDepth 100000 in
set_option maxHeartbeats 32000000 in
theorem ledgerLists_walk (D : List UInt8) (p : Option Addr) (n c : Nat) (tx : List UInt8) (w : World) (hn : D.length = n) (hc : n ≤ c) (hr : BR w p D) (htx : tx.length ≤ 281474976710656) (hv : VWP w) :
    Calls Tryd.prog 7 #[.slice p n c, .string ⟨tx.toArray⟩] w fun e w' => e = .returned (.bool true) ∧ Below w.heap.size w w' := by
  have HV : Hid (∀ W, Below w.heap.size w W → VWP W ∧ BR W p D) := fun W h => ⟨hv.below h, hr.below h⟩
  have HN : Hid (D.length = n ∧ n ≤ c ∧ tx.length ≤ 281474976710656) := ⟨hn, hc, htx⟩
  have HF := fixed_any w
  clear hn hr hv hc htx
  by_cases h1 : 200000 < n
  · have h1' : (200000 : Int) < (n : Int) := by omega
    go_enter Tryd.func7, Tryd.ntmps7
    go_wp2_with fail
    refine HF.mono ?_
    rintro e W0 ⟨rfl, b0⟩
    go_wp2_with fail
    go_ret
    exact ⟨rfl, b0⟩
  have h1' : ¬ (200000 : Int) < (n : Int) := by omega
  obtain ⟨R, hR⟩ : ∃ R, whL 1 D = R := ⟨_, rfl⟩
  obtain ⟨M, hM⟩ : ∃ M, unM tx = M := ⟨_, rfl⟩
  have hRl : R.length ≤ 10000 := by
    have := whL_len D.length 1 D (Nat.le_refl _)
    rw [hR, HN.out.1] at this
    omega
  have hMl : M.length ≤ 16384 := by rw [← hM]; exact unM_len tx
  have HWH : Hid (∀ U, Below w.heap.size w U → Calls Tryd.prog 15 #[.slice p n c] U fun e w' => ∃ v a b, e = .returned (.tuple #[v, .int .i64 a, .int .i64 b]) ∧ OR w' U.heap.size v R ∧ Below U.heap.size U w') := fun U hU => (whole_any D p n c U HN.out.1 (by omega) HN.out.2.1 (HV.out U hU).2).mono fun e w' ⟨v, h1, h2, h3⟩ => ⟨v, _, _, h1, by rw [← hR]; exact h2, h3⟩
  have HDW : Hid (∀ U, Below w.heap.size w U → Calls Tryd.prog 16 #[.slice p n c] U fun e w' => ∃ v a b, e = .returned (.tuple #[v, .int .i64 a, .int .i64 b]) ∧ OR w' U.heap.size v R ∧ Below U.heap.size U w') := fun U hU => (dwhole_any D p n c U HN.out.1 (by omega) HN.out.2.1 (HV.out U hU).2).mono fun e w' ⟨v, h1, h2, h3⟩ => ⟨v, _, _, h1, by rw [← hR]; exact h2, h3⟩
  have HUN : Hid (∀ U, Below w.heap.size w U → Calls Tryd.prog 21 #[.string ⟨tx.toArray⟩] U fun e w' => ∃ v E, e = .returned (.tuple #[v, .int .i64 E]) ∧ OS w' U.heap.size v M ∧ Below U.heap.size U w') := fun U hU => (unpack_any tx U HN.out.2.2 (HV.out U hU).1).mono fun e w' h => by rw [← hM]; exact h.os
  have HDU : Hid (∀ U, Below w.heap.size w U → Calls Tryd.prog 22 #[.string ⟨tx.toArray⟩] U fun e w' => ∃ v E, e = .returned (.tuple #[v, .int .i64 E]) ∧ OS w' U.heap.size v M ∧ Below U.heap.size U w') := fun U hU => (dunpack_any tx U HN.out.2.2 (HV.out U hU).1.pow).mono fun e w' h => by rw [← hM]; exact h.os
  clear hR hM HN HV
  go_enter Tryd.func7, Tryd.ntmps7
  go_wp2_with fail
  refine HF.mono ?_
  rintro e W0 ⟨rfl, b0⟩
  have HDW0 := HDW.out W0 b0
  have HB0 : Hid (Below w.heap.size w W0) := b0
  clear HF b0 HDW
  go_wp2_with fail
  refine HDW0.mono ?_
  rintro e W1 ⟨vw, aw, bw, rfl, o1, b1⟩
  obtain ⟨pw, cw, rfl⟩ := o1.shape
  have HDU1 := HDU.out W1 (bel0Z HB0.out b1)
  have HO1 : Hid (OR W1 W0.heap.size (.slice pw R.length cw) R ∧ Below W0.heap.size W0 W1) := ⟨o1, b1⟩
  clear HDW0 HDU o1 b1
  go_wp2_with fail
  refine HDU1.mono ?_
  rintro e W2 ⟨vl, El, rfl, o2, b2⟩
  obtain ⟨pl, cl, rfl⟩ := shapeZ o2
  have HS0 : Hid (∃ K : List EL, K.length = 0 ∧ SL W2 w.heap.size (.slice none 0 0) (.slice none 0 0) (.slice pw R.length cw) (.slice pl M.length cl) R M K) := ⟨[], rfl, SL.start (bel0Z HB0.out HO1.out.2) b2 (own_baseZ HO1.out.1 HB0.out.size) o2⟩
  have HB2 : Hid (Below w.heap.size w W2) := bel0Z (bel0Z HB0.out HO1.out.2) b2
  clear HDU1 o2 b2 HO1 HB0
  go_wp2_with fail
  go_loopw [11, 12, 13] (fun va vb vi wr => ∃ (i : Nat) (pa : Option Addr) (ca : Nat) (pb : Option Addr) (cb : Nat), vi = .int .i64 (i : Int) ∧ va = .slice pa i ca ∧ vb = .slice pb i cb ∧ i ≤ 12 ∧ Hid (∃ K : List EL, K.length = i ∧ SL wr w.heap.size (.slice pa i ca) (.slice pb i cb) (.slice pw R.length cw) (.slice pl M.length cl) R M K) ∧ Hid (Below w.heap.size w wr)) (fun _ _ vi _ => 12 - (intOf vi).toNat)
  case atStart => exact ⟨0, none, 0, none, 0, rfl, rfl, rfl, by omega, HS0, HB2⟩
  case round =>
    clear HS0 HB2
    obtain ⟨N, pa, ca, pb, cb, rfl, rfl, rfl, hi, HS, HB⟩ := hrel
    by_cases hlt : N < 12
    · as_aux_lemma =>
        have j1 : (N : Int) < 12 := by omega
        obtain ⟨K, hKn, hsl⟩ := HS.out
        have HK : Hid (K.length = N) := hKn
        have HSL : Hid (SL wr w.heap.size (.slice pa N ca) (.slice pb N cb) (.slice pw R.length cw) (.slice pl M.length cl) R M K) := hsl
        have HW1 := HWH.out wr HB.out
        clear hKn hsl HS
        go_wp2_with fail
        refine HW1.mono ?_
        rintro e W1 ⟨v1, a1, d1, rfl, o1, b1⟩
        obtain ⟨p1, c1, rfl⟩ := o1.shape
        have HU1 := HUN.out W1 (bel0Z HB.out b1)
        have HT1 : Hid (TL W1 w.heap.size (.slice pa N ca) (K.map (EL.v R.length)) (.slice pb N cb) (K.map (EL.u M.length)) (.slice pw R.length cw) (.slice pl M.length cl) R M (K.map (rgV R) ++ [⟨35, 3, .slice p1 R.length c1, R.length, rcs R⟩]) (K.map (rgU M))) := TL.nv HSL.out b1 o1
        have HB1 : Hid (Below w.heap.size w W1) := bel0Z HB.out b1
        clear HW1 o1 b1 HSL HB
        go_wp2_with fail
        refine HU1.mono ?_
        rintro e W2 ⟨v2, E2, rfl, o2, b2⟩
        obtain ⟨p2, c2, rfl⟩ := shapeZ o2
        have ht2 := TL.nu HT1.out b2 o2
        have HB2 : Hid (Below w.heap.size w W2) := bel0Z HB1.out b2
        have ht3 := ht2.below (belAZ (Below.refl _ W2) (.cells #[.slice p1 R.length c1] 40 (0, 0)))
        obtain ⟨v5, X1, hr1, hs1, ⟨pa', ca', rfl⟩, bb1⟩ := ht3.ta (nb := W2.heap.size) 55 (.slice p1 R.length c1) rfl (alloc_getZ _ _) (by rw [List.length_map, HK.out]; omega)
        rw [List.length_map, HK.out] at hr1 hs1
        have HR1 := hideP hr1
        have HX1 := hideP hs1
        have HBX1 : Hid (Below w.heap.size w X1) := bb1 w (Nat.le_refl _) (belAZ HB2.out _)
        clear ht2 ht3 hr1 hs1 bb1 HT1 HB1 HU1 o2 b2 HB2
        go_upto_region 14 with (at_builtin; refine wpList_runZ rfl _ _ 55 rfl rfl rfl HR1.out ?_; clear HR1)
        have ht4 := HX1.out.below (belAZ (Below.refl _ X1) (.cells #[.slice p2 M.length c2] 22 (0, 0)))
        obtain ⟨v6, X2, hr2, hs2, ⟨pb', cb', rfl⟩, bb2⟩ := ht4.tb (nb := X1.heap.size) 56 (.slice p2 M.length c2) rfl (alloc_getZ _ _) (by rw [List.length_map, HK.out]; omega)
        rw [List.length_map, HK.out] at hr2 hs2
        have HR2 := hideP hr2
        have HBX2 : Hid (Below w.heap.size w X2) := bb2 w (Nat.le_refl _) (belAZ HBX1.out _)
        have HSO : Hid (∃ K : List EL, K.length = N + 1 ∧ SL X2 w.heap.size (.slice pa' (N + 1) ca') (.slice pb' (N + 1) cb') (.slice pw R.length cw) (.slice pl M.length cl) R M K) := ⟨K ++ [⟨p1, c1, p2, c2⟩], by rw [List.length_append, HK.out]; rfl, SL.snoc (e := ⟨p1, c1, p2, c2⟩) hs2⟩
        clear ht4 hr2 hs2 bb2 HX1 HBX1
        go_upto_region 10 with (at_builtin; refine wpList_runZ rfl _ _ 56 rfl rfl rfl HR2.out ?_; clear HR2)
        go_wp2_with fail
        exact ⟨⟨N + 1, pa', ca', pb', cb', rfl, rfl, rfl, by omega, HSO, HBX2⟩, by simp only [intOf]; omega⟩
    · have j9 : ¬ (N : Int) < 12 := by omega
      have HI12 : Hid (N = 12) := (by omega : N = 12)
      obtain ⟨K, hKn, hsl⟩ := HS.out
      have HK : Hid (K.length = N) := hKn
      have HSL : Hid (SL wr w.heap.size (.slice pa N ca) (.slice pb N cb) (.slice pw R.length cw) (.slice pl M.length cl) R M K) := hsl
      clear hKn hsl HS hlt
      clear HI12
      rename World => WA
      go_wp2_with fail
      go_loopw [19] (fun vi wr => ∃ i : Nat, vi = .int .i64 (i : Int) ∧ i ≤ N ∧ Hid (Below WA.heap.size WA wr)) (fun vi _ => N - (intOf vi).toNat)
      case atStart => exact ⟨0, rfl, Nat.zero_le _, Below.refl _ _⟩
      case round =>
        obtain ⟨i, rfl, hi, HW⟩ := hrel
        by_cases hlt : i < N
        · as_aux_lemma =>
            have j1 : (i : Int) < (N : Int) := by omega
            have j0 : (0 : Int) ≤ (i : Int) := by omega
            obtain ⟨⟨ep, ec, eq, ed⟩, he⟩ : ∃ e, K[i]? = some e := ⟨_, List.getElem?_eq_getElem (by rw [HK.out]; exact hlt)⟩
            obtain ⟨ga, gb, rfl, rfl, hU⟩ := HSL.out.at he
            simp only at hU
            obtain ⟨k1, k2, r1, t1, r2, t2⟩ := hU wr HW.out
            have HC := records_any R ep pw ec cw R.length wr rfl (by omega) r1 r2
            have HKU : Hid (∀ U, Below WA.heap.size WA U → U.cell? ⟨gb, i, none⟩ = some (.slice eq M.length ed) ∧ TR U eq M ∧ TR U pl M) := fun U h => ⟨(hU U h).2.1, (hU U h).2.2.2.1, (hU U h).2.2.2.2.2⟩
            clear k2 r1 t1 r2 t2 hU he
            go_wp2_with fail
            refine HC.mono ?_
            rintro e W5 ⟨rfl, b5⟩
            obtain ⟨k2, t1, t2⟩ := HKU.out W5 (bel0Z HW.out b5)
            have HC2 := lists_any M eq pl ed cl M.length W5 rfl (by omega) t1 t2
            have HW5 : Hid (Below WA.heap.size WA W5) := bel0Z HW.out b5
            clear t1 t2 b5 HC HKU HW k1
            go_wp2_with fail
            refine HC2.mono ?_
            rintro e W6 ⟨rfl, b6⟩
            have HW6 : Hid (Below WA.heap.size WA W6) := bel0Z HW5.out b6
            clear HC2 b6 k2 HW5
            go_wp2_with fail
            exact ⟨⟨i + 1, rfl, by omega, HW6⟩, by simp only [intOf]; omega⟩
        · obtain rfl : i = N := by omega
          obtain ⟨f, hs1, hc0, hc1⟩ := HSL.out.split
          obtain ⟨K0, hK0⟩ : ∃ K0, K.map EL.k0 = K0 := ⟨_, rfl⟩
          obtain ⟨K1, hK1⟩ : ∃ K1, K.map EL.k1 = K1 := ⟨_, rfl⟩
          rw [hK0] at hc0
          rw [hK1] at hc1
          have HKL : Hid (K0.length = i ∧ K1.length = i) := ⟨by rw [← hK0, List.length_map]; exact HK.out, by rw [← hK1, List.length_map]; exact HK.out⟩
          have HC0 : Hid (∃ f, SEP wr w.heap.size f ∧ HC f 0 35 40 3 (.slice pa i ca) (.slice pw R.length cw) R.length (rcs R) K0 (CR (rcs R) R.length 0 0) ∧ HC f 1 9 22 1 (.slice pb i cb) (.slice pl M.length cl) M.length (stZ M) K1 (CT (stZ M) M.length 0 0)) := ⟨f, hs1.below HW.out, hc0, hc1⟩
          have HLX : Hid ((rcs R).length = R.length * 3 ∧ (stZ M).length = M.length * 1) := by
            have o1 := hs1.own (0, 2 + 0)
            have o2 := hs1.own (0, 2 + 1)
            rw [hc0.r] at o1
            rw [hc1.r] at o2
            exact ⟨o1.1, o2.1⟩
          have HBC : Hid (Below w.heap.size w wr) := bel0Z HB.out HW.out
          clear HSL HW HB hlt hi hs1 hc0 hc1 hK0 hK1 HK
          rename World => WB
          go_wp2_with fail
          go_loopw [20] (fun vi wr => ∃ m : Nat, vi = .int .i64 (m : Int) ∧ m ≤ i ∧ Hid (∃ f, SEP wr w.heap.size f ∧ HC f 0 35 40 3 (.slice pa i ca) (.slice pw R.length cw) R.length (rcs R) K0 (CR (rcs R) R.length m 0) ∧ HC f 1 9 22 1 (.slice pb i cb) (.slice pl M.length cl) M.length (stZ M) K1 (CT (stZ M) M.length m 0)) ∧ Hid (Below w.heap.size w wr)) (fun vi _ => i - (intOf vi).toNat)
          case atStart => exact ⟨0, rfl, Nat.zero_le _, HC0, HBC⟩
          case round =>
            clear HC0 HBC
            obtain ⟨m, rfl, hm, HQ, HB⟩ := hrel
            by_cases hlt : m < i
            · have j1 : (m : Int) < (i : Int) := by omega
              have j0 : (0 : Int) ≤ (m : Int) := by omega
              obtain ⟨⟨ep, ec⟩, he0⟩ : ∃ e, K0[m]? = some e := ⟨_, List.getElem?_eq_getElem (by rw [HKL.out.1]; exact hlt)⟩
              obtain ⟨⟨eq, ed⟩, he1⟩ : ∃ e, K1[m]? = some e := ⟨_, List.getElem?_eq_getElem (by rw [HKL.out.2]; exact hlt)⟩
              obtain ⟨f0, hs0, hc0, hc1⟩ := HQ.out
              obtain ⟨ga, rfl, -, -⟩ := hc0.at hs0 he0
              obtain ⟨gb, rfl, -, -⟩ := hc1.at hs0 he1
              have HEN : Hid (K0[m]? = some (ep, ec) ∧ K1[m]? = some (eq, ed)) := ⟨he0, he1⟩
              obtain ⟨x, hx⟩ : ∃ x : Nat, 100 * m = x := ⟨_, rfl⟩
              have y1 : (100 : Int) * (m : Int) = (x : Int) := by omega
              have y2 : IntKind.i64.wrap (x : Int) = (x : Int) := by rw [IntKind.wrap_i64]; omega
              have HX100 : Hid (100 * m = x) := hx
              obtain ⟨am, ham⟩ : ∃ am : Nat, 97 + m = am := ⟨_, rfl⟩
              have z1 : (97 : Int) + (m : Int) = (am : Int) := by omega
              have z2 : IntKind.i64.wrap (am : Int) = (am : Int) := by rw [IntKind.wrap_i64]; omega
              have z3 : IntKind.i32.wrap (am : Int) = (am : Int) := by simp [IntKind.wrap, IntKind.signed, IntKind.bits]; omega
              have HAM : Hid (aS m = .string (Utf8.encode (am : Int))) := by show aS m = _; unfold aS; rw [ham]
              clear hs0 hc0 hc1 he0 he1 hx ham
              rename World => WB2
              go_wp2_with fail
              go_loopw [21] (fun vk wr => ∃ k : Nat, vk = .int .i64 (k : Int) ∧ k ≤ R.length ∧ Hid (∃ f, SEP wr w.heap.size f ∧ HC f 0 35 40 3 (.slice (some ⟨ga, 0, none⟩) i ca) (.slice pw R.length cw) R.length (rcs R) K0 (CR (rcs R) R.length m k) ∧ HC f 1 9 22 1 (.slice (some ⟨gb, 0, none⟩) i cb) (.slice pl M.length cl) M.length (stZ M) K1 (CT (stZ M) M.length m 0)) ∧ Hid (Below w.heap.size w wr)) (fun vk _ => R.length - (intOf vk).toNat)
              case atStart => exact ⟨0, rfl, Nat.zero_le _, HQ, HB⟩
              case round =>
                clear HQ HB
                obtain ⟨k, rfl, hk, HQ, HB⟩ := hrel
                obtain ⟨fc, hfs, hf0, hf1⟩ := HQ.out
                obtain ⟨ga', hga', hca, hex⟩ := hf0.at hfs HEN.out.1
                cases hga'
                simp only [vv] at hca
                have j4 : (0 : Int) ≤ (k : Int) := by omega
                by_cases hkl : k < R.length
                · as_aux_lemma =>
                    have j3 : (k : Int) < (R.length : Int) := by omega
                    obtain ⟨g, hg, hfz, hce⟩ := hex (by omega)
                    simp only at hg
                    subst hg
                    have q0 := hfz (k * 3)
                    have q1 := hfz (k * 3 + 1)
                    have q2 := hfz (k * 3 + 2)
                    obtain ⟨u0, hu0⟩ := hce (k * 3) (by omega)
                    obtain ⟨u1, hu1⟩ := hce (k * 3 + 1) (by omega)
                    obtain ⟨u2, hu2⟩ := hce (k * 3 + 2) (by omega)
                    have HX : Hid ((∃ f, SEP (((wr.setCell ⟨g, k * 3, none⟩ (.int .i64 (x : Int))).setCell ⟨g, k * 3 + 1, none⟩ (.int .i64 (k : Int))).setCell ⟨g, k * 3 + 2, none⟩ (.string ⟨#[]⟩)) w.heap.size f ∧ HC f 0 35 40 3 (.slice (some ⟨ga, 0, none⟩) i ca) (.slice pw R.length cw) R.length (rcs R) K0 (CR (rcs R) R.length m (k + 1)) ∧ HC f 1 9 22 1 (.slice (some ⟨gb, 0, none⟩) i cb) (.slice pl M.length cl) M.length (stZ M) K1 (CT (stZ M) M.length m 0)) ∧ Below w.heap.size w (((wr.setCell ⟨g, k * 3, none⟩ (.int .i64 (x : Int))).setCell ⟨g, k * 3 + 1, none⟩ (.int .i64 (k : Int))).setCell ⟨g, k * 3 + 2, none⟩ (.string ⟨#[]⟩))) := by
                      obtain ⟨f', h1, h2, h3, h4⟩ := hf0.storeR hfs HLX.out.1 HEN.out.1 hkl rfl
                      rw [HX100.out] at h1
                      exact ⟨⟨f', h1, h2, hf1.frame (fun key hk => h3 key (key01 hk))⟩, bel_grZ (bel_grZ (bel_grZ HB.out (gr_setZ _ _ _ _) (fun b e => by cases e; exact h4)) (gr_setZ _ _ _ _) (fun b e => by cases e; exact h4)) (gr_setZ _ _ _ _) (fun b e => by cases e; exact h4)⟩
                    clear hfs hf0 hf1 hex hfz hce HQ
                    go_wp2_with fail
                    exact ⟨⟨k + 1, rfl, by omega, HX.out.1, HX.out.2⟩, by simp only [intOf]; omega⟩
                · obtain rfl : k = R.length := by omega
                  have j3 : ¬ (R.length : Int) < (R.length : Int) := by omega
                  obtain ⟨gb', hgb', hcb, -⟩ := hf1.at hfs HEN.out.2
                  cases hgb'
                  simp only [vv] at hcb
                  clear hfs hf0 hf1 hex hkl hk
                  rename World => WB3
                  go_wp2_with fail
                  go_loopw [22] (fun vk wr => ∃ k : Nat, vk = .int .i64 (k : Int) ∧ k ≤ M.length ∧ Hid (∃ f, SEP wr w.heap.size f ∧ HC f 0 35 40 3 (.slice (some ⟨ga, 0, none⟩) i ca) (.slice pw R.length cw) R.length (rcs R) K0 (CR (rcs R) R.length m R.length) ∧ HC f 1 9 22 1 (.slice (some ⟨gb, 0, none⟩) i cb) (.slice pl M.length cl) M.length (stZ M) K1 (CT (stZ M) M.length m k)) ∧ Hid (Below w.heap.size w wr)) (fun vk _ => M.length - (intOf vk).toNat)
                  case atStart => exact ⟨0, rfl, Nat.zero_le _, HQ, HB⟩
                  case round =>
                    clear HQ HB hca hcb
                    obtain ⟨k, rfl, hk, HQ, HB⟩ := hrel
                    obtain ⟨fc, hfs, hf0, hf1⟩ := HQ.out
                    obtain ⟨gb', hgb', hcb, hex⟩ := hf1.at hfs HEN.out.2
                    cases hgb'
                    simp only [vv] at hcb
                    have j4 : (0 : Int) ≤ (k : Int) := by omega
                    by_cases hkl : k < M.length
                    · as_aux_lemma =>
                        have j3 : (k : Int) < (M.length : Int) := by omega
                        obtain ⟨g, hg, hfz, hce⟩ := hex (by omega)
                        simp only at hg
                        subst hg
                        have q0 := hfz k
                        obtain ⟨u0, hu0⟩ := hce k (by omega)
                        have HX : Hid ((∃ f, SEP (wr.setCell ⟨g, k, none⟩ (.string (Utf8.encode (am : Int)))) w.heap.size f ∧ HC f 0 35 40 3 (.slice (some ⟨ga, 0, none⟩) i ca) (.slice pw R.length cw) R.length (rcs R) K0 (CR (rcs R) R.length m R.length) ∧ HC f 1 9 22 1 (.slice (some ⟨gb, 0, none⟩) i cb) (.slice pl M.length cl) M.length (stZ M) K1 (CT (stZ M) M.length m (k + 1))) ∧ Below w.heap.size w (wr.setCell ⟨g, k, none⟩ (.string (Utf8.encode (am : Int))))) := by
                          obtain ⟨f', h1, h2, h3, h4⟩ := hf1.storeS hfs HLX.out.2 HEN.out.2 hkl rfl
                          rw [HAM.out] at h1
                          exact ⟨⟨f', h1, hf0.frame (fun key hk => h3 key (key10 hk)), h2⟩, bel_grZ HB.out (gr_setZ _ _ _ _) (fun b e => by cases e; exact h4)⟩
                        clear hfs hf0 hf1 hex hfz hce HQ
                        go_wp2_with fail
                        exact ⟨⟨k + 1, rfl, by omega, HX.out.1, HX.out.2⟩, by simp only [intOf]; omega⟩
                    · as_aux_lemma =>
                        obtain rfl : k = M.length := by omega
                        have HX : Hid (∃ f, SEP wr w.heap.size f ∧ HC f 0 35 40 3 (.slice (some ⟨ga, 0, none⟩) i ca) (.slice pw R.length cw) R.length (rcs R) K0 (CR (rcs R) R.length (m + 1) 0) ∧ HC f 1 9 22 1 (.slice (some ⟨gb, 0, none⟩) i cb) (.slice pl M.length cl) M.length (stZ M) K1 (CT (stZ M) M.length (m + 1) 0)) := ⟨fc, hfs, hf0.congr (fun j _ => CR_next HLX.out.1 m j), hf1.congr (fun j _ => CT_next HLX.out.2 m j)⟩
                        clear hfs hf0 hf1 hex hkl hk HQ
                        go_wp2_with fail
                        exact ⟨⟨m + 1, rfl, by omega, HX, HB⟩, by simp only [intOf]; omega⟩
            · obtain rfl : m = i := by omega
              have HD0 : Hid (∃ f Gs Hs, Gs.length = 0 ∧ Hs.length = 0 ∧ SEP wr w.heap.size f ∧ HD f 0 35 40 3 (.slice pa m ca) (.slice pw R.length cw) (.slice none 0 0) R.length (rcs R) K0 (mkRn R.length) gkR Gs ∧ HD f 1 9 22 1 (.slice pb m cb) (.slice pl M.length cl) (.slice none 0 0) M.length (stZ M) K1 (mkS M.length) gkS Hs) := by
                obtain ⟨f, h1, h2, h3⟩ := HQ.out
                exact ⟨f, [], [], rfl, rfl, h1, (h2.congr (fun j hj => by unfold CR mkRn; rw [if_pos (by rw [HKL.out.1] at hj; exact hj)])).toD, (h3.congr (fun j hj => by unfold CT mkS; rw [if_pos (by rw [HKL.out.2] at hj; exact hj)])).toD⟩
              clear HQ hlt hm
              rename World => WC
              go_wp2_with fail
              go_loopw [23, 24, 25] (fun vm vn vi wr => ∃ (d : Nat) (pm : Option Addr) (cm : Nat) (pn : Option Addr) (cn : Nat), vi = .int .i64 (d : Int) ∧ vm = .slice pm d cm ∧ vn = .slice pn d cn ∧ d ≤ m ∧ Hid (∃ f Gs Hs, Gs.length = d ∧ Hs.length = d ∧ SEP wr w.heap.size f ∧ HD f 0 35 40 3 (.slice pa m ca) (.slice pw R.length cw) (.slice pm d cm) R.length (rcs R) K0 (mkRn R.length) gkR Gs ∧ HD f 1 9 22 1 (.slice pb m cb) (.slice pl M.length cl) (.slice pn d cn) M.length (stZ M) K1 (mkS M.length) gkS Hs) ∧ Hid (Below w.heap.size w wr)) (fun _ _ vi _ => m - (intOf vi).toNat)
              case atStart => exact ⟨0, none, 0, none, 0, rfl, rfl, rfl, Nat.zero_le _, HD0, HB⟩
              case round =>
                clear HD0 HB
                obtain ⟨d, pm, cm, pn, cn, rfl, rfl, rfl, hd, HQ, HB⟩ := hrel
                by_cases hlt : d < m
                · have j1 : (d : Int) < (m : Int) := by omega
                  have j0 : (0 : Int) ≤ (d : Int) := by omega
                  obtain ⟨⟨ep, ec⟩, he0⟩ : ∃ e, K0[d]? = some e := ⟨_, List.getElem?_eq_getElem (by rw [HKL.out.1]; exact hlt)⟩
                  obtain ⟨⟨eq, ed⟩, he1⟩ : ∃ e, K1[d]? = some e := ⟨_, List.getElem?_eq_getElem (by rw [HKL.out.2]; exact hlt)⟩
                  obtain ⟨f0, Gs0, Hs0, hG0, hH0, hs0, hd0, hd1⟩ := HQ.out
                  obtain ⟨ga, rfl, hca⟩ := hd0.at hs0 he0
                  obtain ⟨gb, rfl, hcb⟩ := hd1.at hs0 he1
                  simp only [vv] at hca hcb
                  have HEN : Hid (K0[d]? = some (ep, ec) ∧ K1[d]? = some (eq, ed)) := ⟨he0, he1⟩
                  have HG0 : Hid (∃ f Gs Hs, Gs.length = d ∧ Hs.length = d ∧ SEP wr w.heap.size f ∧ HG f 0 35 40 3 (.slice (some ⟨ga, 0, none⟩) m ca) (.slice pw R.length cw) (.slice pm d cm) R.length (rcs R) K0 (mkRn R.length) gkR Gs (ep, ec) (.slice ep R.length ec) 0 ∧ HG f 1 9 22 1 (.slice (some ⟨gb, 0, none⟩) m cb) (.slice pl M.length cl) (.slice pn d cn) M.length (stZ M) K1 (mkS M.length) gkS Hs (eq, ed) (.slice eq M.length ed) 0) := ⟨f0, Gs0, Hs0, hG0, hH0, hs0, HD.toG hs0 hd0 (by rw [hG0]; exact he0) rfl, HD.toG hs0 hd1 (by rw [hH0]; exact he1) rfl⟩
                  have y1 : IntKind.i64.wrap (-1 - (d : Int)) = -1 - (d : Int) := by rw [IntKind.wrap_i64]; omega
                  obtain ⟨bm, hbm⟩ : ∃ bm : Nat, 65 + d = bm := ⟨_, rfl⟩
                  have z1 : (65 : Int) + (d : Int) = (bm : Int) := by omega
                  have z2 : IntKind.i64.wrap (bm : Int) = (bm : Int) := by rw [IntKind.wrap_i64]; omega
                  have z3 : IntKind.i32.wrap (bm : Int) = (bm : Int) := by simp [IntKind.wrap, IntKind.signed, IntKind.bits]; omega
                  have HBM : Hid (bS d = .string (Utf8.encode (bm : Int))) := by show bS d = _; unfold bS; rw [hbm]
                  clear hs0 hd0 hd1 he0 he1 hG0 hH0 hbm HQ
                  rename World => WD2
                  go_wp2_with fail
                  clear hca hcb
                  go_loopw [26, 27, 28] (fun vg vh vk wr => ∃ (k nm nn : Nat) (pg : Option Addr) (cg : Nat) (ph : Option Addr) (ch : Nat), vk = .int .i64 (k : Int) ∧ vg = .slice pg nm cg ∧ vh = .slice ph nn ch ∧ k ≤ 64 ∧ Hid (nm = R.length + k ∧ nn = M.length + k) ∧ Hid (∃ f Gs Hs, Gs.length = d ∧ Hs.length = d ∧ SEP wr w.heap.size f ∧ HG f 0 35 40 3 (.slice (some ⟨ga, 0, none⟩) m ca) (.slice pw R.length cw) (.slice pm d cm) R.length (rcs R) K0 (mkRn R.length) gkR Gs (ep, ec) (.slice pg nm cg) k ∧ HG f 1 9 22 1 (.slice (some ⟨gb, 0, none⟩) m cb) (.slice pl M.length cl) (.slice pn d cn) M.length (stZ M) K1 (mkS M.length) gkS Hs (eq, ed) (.slice ph nn ch) k) ∧ Hid (Below w.heap.size w wr)) (fun _ _ vk _ => 64 - (intOf vk).toNat)
                  case atStart => exact ⟨0, R.length, M.length, ep, ec, eq, ed, rfl, rfl, rfl, by omega, ⟨rfl, rfl⟩, HG0, HB⟩
                  case round =>
                    clear HG0 HB
                    obtain ⟨k, nm, nn, pg, cg, ph, ch, rfl, rfl, rfl, hk, hnm, HQ, HB⟩ := hrel
                    obtain ⟨f1, Gs1, Hs1, hG1, hH1, hs1, hg0, hg1⟩ := HQ.out
                    by_cases hkl : k < 64
                    · as_aux_lemma =>
                        have j3 : (k : Int) < 64 := by omega
                        have hb := belAZ (Below.refl _ wr) (.cells #[.int .i64 (-1 - (d : Int)), .int .i64 0, .string ⟨#[]⟩] 35 (0, 0))
                        obtain ⟨i0, hi0, hz0, hz1, hz2⟩ := info_parts info_rec
                        obtain ⟨G', X1, f2, hr1, s1, gg0, fr1, ⟨pg', cg', rfl⟩, bb1⟩ := HG.grow (TS := 40) (nb := wr.heap.size) (g3 d) 40 Tryd.underlying40 hi0 hz0 hz1 hz2 rfl (by decide) (by decide) rfl (fun u hu => by simp only [g3, eS, List.mem_cons, List.not_mem_nil, or_false] at hu; rcases hu with rfl | rfl | rfl <;> rfl) (hs1.below hb) hg0 (by unfold mkRn; exact mkR_len _ _) (Nat.le_trans HB.out.size hb.size) (World.news_of_block (alloc_getZ _ _)) (by omega) (by rw [hG1]; exact gkR_succ d k)
                        have gg1 := hg1.frame (fun key hk => fr1 key (key01 hk))
                        have bx1 := bb1 w (Nat.le_refl _) (belAZ HB.out _)
                        obtain ⟨nm', hnm'⟩ : ∃ nm', R.length + (k + 1) = nm' := ⟨_, rfl⟩
                        rw [hnm'] at hr1 gg0
                        have HR1 := hideP hr1
                        have HB1 : Hid (Below w.heap.size w X1) := bx1
                        have HM1 : Hid (∃ f Gs Hs, Gs.length = d ∧ Hs.length = d ∧ SEP X1 w.heap.size f ∧ HG f 0 35 40 3 (.slice (some ⟨ga, 0, none⟩) m ca) (.slice pw R.length cw) (.slice pm d cm) R.length (rcs R) K0 (mkRn R.length) gkR Gs (ep, ec) (.slice pg' nm' cg') (k + 1) ∧ HG f 1 9 22 1 (.slice (some ⟨gb, 0, none⟩) m cb) (.slice pl M.length cl) (.slice pn d cn) M.length (stZ M) K1 (mkS M.length) gkS Hs (eq, ed) (.slice ph nn ch) k) := ⟨f2, Gs1, Hs1, hG1, hH1, s1, gg0, gg1⟩
                        have HNM : Hid (nm' = R.length + (k + 1)) := hnm'.symm
                        clear hr1 s1 gg0 gg1 fr1 bb1 bx1 hb hs1 hg0 hg1 hG1 hH1 hnm' HQ HB hi0 hz0 hz1 hz2
                        go_upto_region 42 with (at_builtin; refine wpList_runZ rfl _ _ 40 rfl rfl rfl HR1.out ?_; clear HR1)
                        obtain ⟨f3, Gs2, Hs2, hG2, hH2, hs2, hg2, hg3⟩ := HM1.out
                        have hb := belAZ (Below.refl _ X1) (.cells #[.string (Utf8.encode (bm : Int))] 9 (0, 0))
                        obtain ⟨i0, hi0, hz0, hz1, hz2⟩ := info_parts info_stZ
                        obtain ⟨H', X2, f4, hr2, s2, gg3, fr2, ⟨ph', ch', rfl⟩, bb2⟩ := HG.grow (TS := 22) (nb := X1.heap.size) [bS d] 22 Tryd.underlying22 hi0 hz0 hz1 hz2 rfl (by decide) (by decide) rfl (fun u hu => by rw [List.mem_singleton.1 hu]; rfl) (hs2.below hb) hg3 (by unfold mkS; simp) (Nat.le_trans HB1.out.size hb.size) (World.news_of_block (by rw [HBM.out]; exact alloc_getZ _ _)) (by omega) (by rw [hH2]; unfold gkS; exact List.replicate_succ')
                        have gg2 := hg2.frame (fun key hk => fr2 key (key10 hk))
                        have bx2 := bb2 w (Nat.le_refl _) (belAZ HB1.out _)
                        obtain ⟨nn', hnn'⟩ : ∃ nn', M.length + (k + 1) = nn' := ⟨_, rfl⟩
                        rw [hnn'] at hr2 gg3
                        have HR2 := hideP hr2
                        have HB2 : Hid (Below w.heap.size w X2) := bx2
                        have HM2 : Hid (∃ f Gs Hs, Gs.length = d ∧ Hs.length = d ∧ SEP X2 w.heap.size f ∧ HG f 0 35 40 3 (.slice (some ⟨ga, 0, none⟩) m ca) (.slice pw R.length cw) (.slice pm d cm) R.length (rcs R) K0 (mkRn R.length) gkR Gs (ep, ec) (.slice pg' nm' cg') (k + 1) ∧ HG f 1 9 22 1 (.slice (some ⟨gb, 0, none⟩) m cb) (.slice pl M.length cl) (.slice pn d cn) M.length (stZ M) K1 (mkS M.length) gkS Hs (eq, ed) (.slice ph' nn' ch') (k + 1)) := ⟨f4, Gs2, Hs2, hG2, hH2, s2, gg2, gg3⟩
                        have HNN : Hid (nn' = M.length + (k + 1)) := hnn'.symm
                        clear hr2 s2 gg2 gg3 fr2 bb2 bx2 hb hs2 hg2 hg3 hG2 hH2 hnn' HM1 HB1 hi0 hz0 hz1 hz2
                        go_upto_region 40 with (at_builtin; refine wpList_runZ rfl _ _ 22 rfl rfl rfl HR2.out ?_; clear HR2)
                        go_wp2_with fail
                        exact ⟨⟨k + 1, nm', nn', pg', cg', ph', ch', rfl, rfl, rfl, by omega, ⟨HNM.out, HNN.out⟩, HM2, HB2⟩, by simp only [intOf]; omega⟩
                    · as_aux_lemma =>
                        obtain rfl : k = 64 := by omega
                        have hb := belAZ (Below.refl _ wr) (.cells #[.slice pg nm cg] 40 (0, 0))
                        obtain ⟨i0, hi0, hz0, hz1, hz2⟩ := info_parts info_sr
                        obtain ⟨vm', X1, f2, hr1, s1, gg0, fr1, hsh1, bb1⟩ := HG.more (TES := 55) (nb := wr.heap.size) 55 Tryd.underlying55 hi0 hz0 hz1 hz2 (by decide) (hs1.below hb) hg0 (by rw [hG1]; exact HEN.out.1) rfl (Nat.le_trans HB.out.size hb.size) (alloc_getZ _ _) (by omega)
                        rw [hG1] at hsh1
                        obtain ⟨pm', cm', rfl⟩ := hsh1
                        have gg1 := hg1.frame (fun key hk => fr1 key (key01 hk))
                        have bx1 := bb1 w (Nat.le_refl _) (belAZ HB.out _)
                        have HR1 := hideP hr1
                        have HB1 : Hid (Below w.heap.size w X1) := bx1
                        have HM1 : Hid (∃ f Gs Hs, Gs.length = d + 1 ∧ Hs.length = d ∧ SEP X1 w.heap.size f ∧ HD f 0 35 40 3 (.slice (some ⟨ga, 0, none⟩) m ca) (.slice pw R.length cw) (.slice pm' (d + 1) cm') R.length (rcs R) K0 (mkRn R.length) gkR Gs ∧ HG f 1 9 22 1 (.slice (some ⟨gb, 0, none⟩) m cb) (.slice pl M.length cl) (.slice pn d cn) M.length (stZ M) K1 (mkS M.length) gkS Hs (eq, ed) (.slice ph nn ch) 64) := ⟨f2, _, Hs1, by rw [List.length_append, hG1]; rfl, hH1, s1, gg0, gg1⟩
                        clear hr1 s1 gg0 gg1 fr1 bb1 bx1 hb hs1 hg0 hg1 hG1 hH1 HQ HB hi0 hz0 hz1 hz2
                        go_upto_region 44 with (at_builtin; refine wpList_runZ rfl _ _ 55 rfl rfl rfl HR1.out ?_; clear HR1)
                        obtain ⟨f3, Gs2, Hs2, hG2, hH2, hs2, hg2, hg3⟩ := HM1.out
                        have hb := belAZ (Below.refl _ X1) (.cells #[.slice ph nn ch] 22 (0, 0))
                        obtain ⟨i0, hi0, hz0, hz1, hz2⟩ := info_parts info_ss
                        obtain ⟨vn', X2, f4, hr2, s2, gg3, fr2, hsh2, bb2⟩ := HG.more (TES := 56) (nb := X1.heap.size) 56 Tryd.underlying56 hi0 hz0 hz1 hz2 (by decide) (hs2.below hb) hg3 (by rw [hH2]; exact HEN.out.2) rfl (Nat.le_trans HB1.out.size hb.size) (alloc_getZ _ _) (by omega)
                        rw [hH2] at hsh2
                        obtain ⟨pn', cn', rfl⟩ := hsh2
                        have gg2 := hg2.frame (fun key hk => fr2 key (key10 hk))
                        have bx2 := bb2 w (Nat.le_refl _) (belAZ HB1.out _)
                        have HR2 := hideP hr2
                        have HB2 : Hid (Below w.heap.size w X2) := bx2
                        have HM2 : Hid (∃ f Gs Hs, Gs.length = (d + 1) ∧ Hs.length = (d + 1) ∧ SEP X2 w.heap.size f ∧ HD f 0 35 40 3 (.slice (some ⟨ga, 0, none⟩) m ca) (.slice pw R.length cw) (.slice pm' (d + 1) cm') R.length (rcs R) K0 (mkRn R.length) gkR Gs ∧ HD f 1 9 22 1 (.slice (some ⟨gb, 0, none⟩) m cb) (.slice pl M.length cl) (.slice pn' (d + 1) cn') M.length (stZ M) K1 (mkS M.length) gkS Hs) := ⟨f4, Gs2, _, hG2, by rw [List.length_append, hH2]; rfl, s2, gg2, gg3⟩
                        clear hr2 s2 gg2 gg3 fr2 bb2 bx2 hb hs2 hg2 hg3 hG2 hH2 HM1 HB1 hi0 hz0 hz1 hz2
                        go_upto_region 35 with (at_builtin; refine wpList_runZ rfl _ _ 56 rfl rfl rfl HR2.out ?_; clear HR2)
                        go_wp2_with fail
                        exact ⟨⟨d + 1, pm', cm', pn', cn', rfl, rfl, rfl, by omega, HM2, HB2⟩, by simp only [intOf]; omega⟩
                · obtain rfl : d = m := by omega
                  obtain ⟨f9, Gs, Hs, hGl, hHl, hs9, hd0, hd1⟩ := HQ.out
                  have HF : Hid (SEP wr w.heap.size f9 ∧ HD f9 0 35 40 3 (.slice pa d ca) (.slice pw R.length cw) (.slice pm d cm) R.length (rcs R) K0 (mkRn R.length) gkR Gs ∧ HD f9 1 9 22 1 (.slice pb d cb) (.slice pl M.length cl) (.slice pn d cn) M.length (stZ M) K1 (mkS M.length) gkS Hs ∧ Gs.length = K0.length ∧ Hs.length = K1.length) := ⟨hs9, hd0, hd1, by rw [hGl, HKL.out.1], by rw [hHl, HKL.out.2]⟩
                  clear hs9 hd0 hd1 hGl hHl HQ hlt hd
                  rename World => WE
                  go_wp2_with fail
                  go_loopw [29] (fun vi wr => ∃ i : Nat, vi = .int .i64 (i : Int) ∧ i ≤ d ∧ Hid (Below WE.heap.size WE wr)) (fun vi _ => d - (intOf vi).toNat)
                  case atStart => exact ⟨0, rfl, Nat.zero_le _, Below.refl _ _⟩
                  case round =>
                    obtain ⟨i, rfl, hi, HW⟩ := hrel
                    by_cases hlt : i < d
                    · have j1 : (i : Int) < (d : Int) := by omega
                      have j0 : (0 : Int) ≤ (i : Int) := by omega
                      obtain ⟨⟨ep, ec⟩, he0⟩ : ∃ e, K0[i]? = some e := ⟨_, List.getElem?_eq_getElem (by rw [HKL.out.1]; exact hlt)⟩
                      obtain ⟨⟨eq, ed⟩, he1⟩ : ∃ e, K1[i]? = some e := ⟨_, List.getElem?_eq_getElem (by rw [HKL.out.2]; exact hlt)⟩
                      obtain ⟨ga, gm, gg, cg, rfl, rfl, hU0⟩ := HF.out.2.1.fin HF.out.1 HF.out.2.2.2.1 he0 (by unfold mkRn; exact mkR_len _ _)
                      obtain ⟨gb, gn, gh, ch, rfl, rfl, hU1⟩ := HF.out.2.2.1.fin HF.out.1 HF.out.2.2.2.2 he1 (by unfold mkS; simp)
                      simp only [vv] at hU0 hU1
                      obtain ⟨nm, hnm⟩ : ∃ nm, R.length + 64 = nm := ⟨_, rfl⟩
                      obtain ⟨nn, hnn⟩ : ∃ nn, M.length + 64 = nn := ⟨_, rfl⟩
                      rw [hnm] at hU0
                      rw [hnn] at hU1
                      have HU0 : Hid (∀ U, Below WE.heap.size WE U → (U.cell? ⟨ga, i, none⟩ = some (.slice ep R.length ec) ∧ U.cell? ⟨gm, i, none⟩ = some (.slice (some ⟨gg, 0, none⟩) nm cg) ∧ U.ownsRow w.heap.size 35 3 (.slice ep R.length ec) R.length (mkRn R.length i) ∧ U.ownsRow w.heap.size 35 3 (.slice (some ⟨gg, 0, none⟩) nm cg) nm (mkRn R.length i ++ gkR i 64))) := hU0
                      have HU1 : Hid (∀ U, Below WE.heap.size WE U → (U.cell? ⟨gb, i, none⟩ = some (.slice eq M.length ed) ∧ U.cell? ⟨gn, i, none⟩ = some (.slice (some ⟨gh, 0, none⟩) nn ch) ∧ U.ownsRow w.heap.size 9 1 (.slice eq M.length ed) M.length (mkS M.length i) ∧ U.ownsRow w.heap.size 9 1 (.slice (some ⟨gh, 0, none⟩) nn ch) nn (mkS M.length i ++ gkS i 64))) := hU1
                      have HNM : Hid (R.length + 64 = nm ∧ M.length + 64 = nn) := ⟨hnm, hnn⟩
                      have hnm2 : nm ≤ 10064 := by omega
                      have hnn2 : nn ≤ 16448 := by omega
                      obtain ⟨x, hx⟩ : ∃ x : Nat, 100 * i = x := ⟨_, rfl⟩
                      have y1 : (100 : Int) * (i : Int) = (x : Int) := by omega
                      have y2 : IntKind.i64.wrap (x : Int) = (x : Int) := by rw [IntKind.wrap_i64]; omega
                      have HX100 : Hid (100 * i = x) := hx
                      have y3 : IntKind.i64.wrap (-1 - (i : Int)) = -1 - (i : Int) := by rw [IntKind.wrap_i64]; omega
                      obtain ⟨am, ham⟩ : ∃ am : Nat, 97 + i = am := ⟨_, rfl⟩
                      have z1 : (97 : Int) + (i : Int) = (am : Int) := by omega
                      have z2 : IntKind.i64.wrap (am : Int) = (am : Int) := by rw [IntKind.wrap_i64]; omega
                      have z3 : IntKind.i32.wrap (am : Int) = (am : Int) := by simp [IntKind.wrap, IntKind.signed, IntKind.bits]; omega
                      have HAM : Hid (aS i = .string (Utf8.encode (am : Int))) := by show aS i = _; unfold aS; rw [ham]
                      obtain ⟨bm, hbm⟩ : ∃ bm : Nat, 65 + i = bm := ⟨_, rfl⟩
                      have v1 : (65 : Int) + (i : Int) = (bm : Int) := by omega
                      have v2 : IntKind.i64.wrap (bm : Int) = (bm : Int) := by rw [IntKind.wrap_i64]; omega
                      have v3 : IntKind.i32.wrap (bm : Int) = (bm : Int) := by simp [IntKind.wrap, IntKind.signed, IntKind.bits]; omega
                      have HBM : Hid (bS i = .string (Utf8.encode (bm : Int))) := by show bS i = _; unfold bS; rw [hbm]
                      clear hU0 hU1 he0 he1 hnm hnn hx ham hbm
                      rename World => WF
                      go_wp2_with fail
                      go_loopw [30] (fun vk wr => ∃ k : Nat, vk = .int .i64 (k : Int) ∧ k ≤ nm ∧ Hid (Below WE.heap.size WE wr)) (fun vk _ => nm - (intOf vk).toNat)
                      case atStart => exact ⟨0, rfl, Nat.zero_le _, HW⟩
                      case round =>
                        clear HW
                        obtain ⟨k, rfl, hk, HW⟩ := hrel
                        have j4 : (0 : Int) ≤ (k : Int) := by omega
                        obtain ⟨k1, k2, o1, o2⟩ := HU0.out wr HW.out
                        by_cases hkn : k < nm
                        · have j5 : (k : Int) < (nm : Int) := by omega
                          by_cases hkl : k < R.length
                          · as_aux_lemma =>
                              have j6 : (k : Int) < (R.length : Int) := by omega
                              have j7 : ¬ (R.length : Int) ≤ (k : Int) := by omega
                              obtain ⟨g, rfl⟩ := own_someZ o1 (by omega)
                              have e0 : ∀ m, m < 3 → (mkRn R.length i)[k * 3 + m]? = (mk3 i k)[m]? := fun m hm => mkR_at i R.length k m hkl hm
                              have e1 : ∀ m, m < 3 → (mkRn R.length i ++ gkR i 64)[k * 3 + m]? = (mk3 i k)[m]? := fun m hm => by
                                rw [List.getElem?_append_left (by unfold mkRn; rw [mkR_len]; omega)]
                                exact e0 m hm
                              have c0 : wr.cell? ⟨g, k * 3, none⟩ = some (.int .i64 (x : Int)) := by rw [← HX100.out]; exact own_atZ o1 (e0 0 (by decide))
                              have c1 : wr.cell? ⟨g, k * 3 + 1, none⟩ = some (.int .i64 (k : Int)) := own_atZ o1 (e0 1 (by decide))
                              have c2 : wr.cell? ⟨g, k * 3 + 2, none⟩ = some (.string ⟨#[]⟩) := own_atZ o1 (e0 2 (by decide))
                              have d0 : wr.cell? ⟨gg, k * 3, none⟩ = some (.int .i64 (x : Int)) := by rw [← HX100.out]; exact own_atZ o2 (e1 0 (by decide))
                              have d1 : wr.cell? ⟨gg, k * 3 + 1, none⟩ = some (.int .i64 (k : Int)) := own_atZ o2 (e1 1 (by decide))
                              have d2 : wr.cell? ⟨gg, k * 3 + 2, none⟩ = some (.string ⟨#[]⟩) := own_atZ o2 (e1 2 (by decide))
                              clear o1 o2 e0 e1
                              go_wp2_with fail
                              go_quiet (fail)
                              go_wp2_with fail
                              exact ⟨⟨k + 1, rfl, by omega, bel_drewZ nq HW.out⟩, by simp only [intOf]; omega⟩
                          · as_aux_lemma =>
                              have j6 : ¬ (k : Int) < (R.length : Int) := by omega
                              have j7 : (R.length : Int) ≤ (k : Int) := by omega
                              have d0 : wr.cell? ⟨gg, k * 3, none⟩ = some (.int .i64 (-1 - (i : Int))) := own_atZ o2 (by
                                have h := gkR_at i 64 (k - R.length) 0 (by have := HNM.out.1; omega) (by decide)
                                rw [List.getElem?_append_right (by unfold mkRn; rw [mkR_len]; omega)]
                                unfold mkRn
                                rw [mkR_len, show k * 3 - R.length * 3 = (k - R.length) * 3 + 0 by omega]
                                exact h)
                              have dz : ∃ u, wr.cell? ⟨gg, k * 3 + 1, none⟩ = some u := ⟨_, own_atZ o2 (List.getElem?_eq_getElem (i := k * 3 + 1) (by rw [o2.1]; omega))⟩
                              clear o1 o2
                              clear dz
                              go_wp2_with fail
                              go_quiet (fail)
                              have d0' : (wr.drewN nq).cell? ⟨gg, k * 3, none⟩ = some (.int .i64 (-1 - (i : Int))) := d0
                              have k2' : (wr.drewN nq).cell? ⟨gm, i, none⟩ = some (.slice (some ⟨gg, 0, none⟩) nm cg) := k2
                              go_wp2_with fail
                              exact ⟨⟨k + 1, rfl, by omega, bel_drewZ nq HW.out⟩, by simp only [intOf]; omega⟩
                        · have j5 : ¬ (k : Int) < (nm : Int) := by omega
                          obtain ⟨l1, l2, -, -⟩ := HU1.out wr HW.out
                          clear o1 o2 HU0 hk hkn
                          rename World => WG
                          go_wp2_with fail
                          clear k1 k2 l1 l2
                          go_loopw [31] (fun vk wr => ∃ k : Nat, vk = .int .i64 (k : Int) ∧ k ≤ nn ∧ Hid (Below WE.heap.size WE wr)) (fun vk _ => nn - (intOf vk).toNat)
                          case atStart => exact ⟨0, rfl, Nat.zero_le _, HW⟩
                          case round =>
                            clear HW
                            obtain ⟨k, rfl, hk, HW⟩ := hrel
                            have j4 : (0 : Int) ≤ (k : Int) := by omega
                            obtain ⟨k1, k2, o1, o2⟩ := HU1.out wr HW.out
                            by_cases hkn : k < nn
                            · have j5 : (k : Int) < (nn : Int) := by omega
                              by_cases hkl : k < M.length
                              · as_aux_lemma =>
                                  have j6 : (k : Int) < (M.length : Int) := by omega
                                  have j7 : ¬ (M.length : Int) ≤ (k : Int) := by omega
                                  obtain ⟨g, rfl⟩ := own_someZ o1 (by omega)
                                  have e0 : (mkS M.length i)[k]? = some (aS i) := by unfold mkS; rw [List.getElem?_replicate, if_pos hkl]
                                  have c0 : wr.cell? ⟨g, k, none⟩ = some (.string (Utf8.encode (am : Int))) := by rw [← HAM.out]; exact own_atZ o1 e0
                                  have d0 : wr.cell? ⟨gh, k, none⟩ = some (.string (Utf8.encode (am : Int))) := by
                                    rw [← HAM.out]
                                    exact own_atZ o2 (by rw [List.getElem?_append_left (by unfold mkS; rw [List.length_replicate]; exact hkl)]; exact e0)
                                  clear o1 o2 e0
                                  go_wp2_with fail
                                  go_quiet (fail)
                                  go_wp2_with fail
                                  exact ⟨⟨k + 1, rfl, by omega, bel_drewZ nq HW.out⟩, by simp only [intOf]; omega⟩
                              · as_aux_lemma =>
                                  have j6 : ¬ (k : Int) < (M.length : Int) := by omega
                                  have j7 : (M.length : Int) ≤ (k : Int) := by omega
                                  have d0 : wr.cell? ⟨gh, k, none⟩ = some (.string (Utf8.encode (bm : Int))) := by
                                    rw [← HBM.out]
                                    exact own_atZ o2 (by
                                      unfold mkS gkS
                                      rw [List.getElem?_append_right (by rw [List.length_replicate]; omega), List.length_replicate, List.getElem?_replicate, if_pos (by have := HNM.out.2; omega)])
                                  clear o1 o2
                                  go_wp2_with fail
                                  go_quiet (fail)
                                  have d0' : (wr.drewN nq).cell? ⟨gh, k, none⟩ = some (.string (Utf8.encode (bm : Int))) := d0
                                  have k2' : (wr.drewN nq).cell? ⟨gn, i, none⟩ = some (.slice (some ⟨gh, 0, none⟩) nn ch) := k2
                                  go_wp2_with fail
                                  exact ⟨⟨k + 1, rfl, by omega, bel_drewZ nq HW.out⟩, by simp only [intOf]; omega⟩
                            · as_aux_lemma =>
                                have j5 : ¬ (k : Int) < (nn : Int) := by omega
                                clear o1 o2
                                go_wp2_with fail
                                exact ⟨⟨i + 1, rfl, by omega, HW⟩, by simp only [intOf]; omega⟩
                    · as_aux_lemma =>
                        have j1 : ¬ (i : Int) < (d : Int) := by omega
                        have HR0 : Hid (∀ U, Below WE.heap.size WE U → RR U pw R ∧ TR U pl M) := fun U hU => ⟨OR.rr (B := w.heap.size) (HD.rd (HF.out.1.below hU) HF.out.2.1), OS.tr (B := w.heap.size) (HD.rd (HF.out.1.below hU) HF.out.2.2.1)⟩
                        have HB9 : Hid (Below w.heap.size w wr) := bel0Z HB.out HW.out
                        have HW1 := HWH.out wr HB9.out
                        clear HF HB
                        go_wp2_with fail
                        refine HW1.mono ?_
                        rintro e W7 ⟨v7, a7, d7, rfl, o7, b7⟩
                        obtain ⟨p7, c7, rfl⟩ := o7.shape
                        have HU7 := HUN.out W7 (bel0Z HB9.out b7)
                        have HO7 : Hid (OR W7 wr.heap.size (.slice p7 R.length c7) R) := o7
                        have HB7 : Hid (Below wr.heap.size wr W7) := b7
                        clear HW1 o7 b7
                        go_wp2_with fail
                        refine HU7.mono ?_
                        rintro e W8 ⟨v8, E8, rfl, o8, b8⟩
                        obtain ⟨p8, c8, rfl⟩ := shapeZ o8
                        have hw8 : Below WE.heap.size WE W8 := bel0Z (bel0Z HW.out HB7.out) b8
                        obtain ⟨r2, t2⟩ := HR0.out W8 hw8
                        have HC := records_any R p7 pw c7 cw R.length W8 rfl (by omega) (OR.rr (HO7.out.below b8)) r2
                        have HO8 : Hid (OS W8 W7.heap.size (.slice p8 M.length c8) M) := o8
                        have HB8 : Hid (Below w.heap.size w W8 ∧ Below WE.heap.size WE W8) := ⟨bel0Z (bel0Z HB9.out HB7.out) b8, hw8⟩
                        clear HU7 o8 b8 r2 t2 hw8 HO7 HB7
                        go_wp2_with fail
                        refine HC.mono ?_
                        rintro e W9 ⟨rfl, b9⟩
                        obtain ⟨r2, t2⟩ := HR0.out W9 (bel0Z HB8.out.2 b9)
                        have HC2 := lists_any M p8 pl c8 cl M.length W9 rfl (by omega) (OS.tr (HO8.out.below b9)) t2
                        have HB10 : Hid (Below w.heap.size w W9) := bel0Z HB8.out.1 b9
                        clear HC b9 r2 t2 HB8 HO8
                        go_wp2_with fail
                        refine HC2.mono ?_
                        rintro e W10 ⟨rfl, b10⟩
                        have HB11 : Hid (Below w.heap.size w W10) := bel0Z HB10.out b10
                        clear HC2 b10 HB10
                        go_wp2_with fail
                        go_ret
                        exact ⟨rfl, HB11.out⟩
end Go.Proofs.YtkmnonkabekclaaDoor

import Derived.Test.YtepokgainceidaaGreatDoorYBP
import Derived.Test.YtepokgainceidaaGreatDoorYBH
import Derived.Test.YtepokgainceidaaGreatDoorYAY
import Derived.Test.YtepokgainceidaaGreatDoorYAV
namespace Go.Proofs.YtepokgainceidaaGreatDoor
open Go.RowKit Go.Shelf
theorem ly_nodupH (ws : List Int) : ((lyL ws).map (·.1)).Nodup := by
  unfold lyL
  split
  · decide
  · exact lyF_nodup ws 0
theorem cnt_take {C : List (List UInt8)} {i : Nat} {c : List UInt8} (h : List UInt8) (hc : C[i]? = some c) : cntT (C.take (i + 1)) h = cntT (C.take i) h + (if hasT c h = true then 1 else 0) := by
  rw [List.take_add_one, hc, Option.toList_some, cntT_app, cnt_one]
theorem k_at {L : List IFld} {k : Nat} (hk : k < L.length) (hb : posB L) : ∃ (x : List UInt8) (b p : Nat), L[k]? = some (x, (b : Int)) ∧ sumB (L.take k) = (p : Int) ∧ 1 ≤ b ∧ b ≤ 32 := by
  obtain ⟨f, hf⟩ : ∃ f, L[k]? = some f := ⟨_, List.getElem?_eq_getElem hk⟩
  have hbits := hb f (List.mem_of_getElem? hf)
  have hb0 : ∀ f ∈ L, 0 ≤ f.2 ∧ f.2 ≤ 32 := fun f hf => by have := hb f hf; omega
  obtain ⟨x, bi⟩ := f
  simp only at hbits
  have h1 := (sumB_bound (L.take k) (fun f hf => hb0 f (List.mem_of_mem_take hf))).1
  refine ⟨x, bi.toNat, (sumB (L.take k)).toNat, ?_, by omega, by omega, by omega⟩
  rw [hf, Int.toNat_of_nonneg (by omega)]
set_option maxRecDepth 100000 in
set_option maxHeartbeats 8000000 in
theorem fieldHolds_walk (ws : List Int) (m1 : Nat) (ad1 : Option Addr) (cap1 : Nat) (kk op form lo hi nn : Int) (sa ha : ByteArray) (w : World) (hw : ws.length = m1) (hwb : m1 * 8 ≤ 140737488355328) (hwc : IRV w ad1 ws) (hsl : sa.size ≤ 281474976710656) (hal : ha.size ≤ 281474976710656) (hv1 : SH w) (hdb : DB w) (hv4 : SG w) (hv5 : VW w) (hu : US w) :
    Calls Tryz.prog 5 #[.slice ad1 m1 cap1, .int .i64 kk, .int .i64 op, .int .i64 form, .int .i64 lo, .int .i64 hi, .int .i64 nn, .string sa, .string ha] w fun e w' => e = .returned (.bool true) ∧ Below w.heap.size w w' := by
  obtain ⟨s, rfl⟩ : ∃ s : List UInt8, sa = ⟨s.toArray⟩ := ⟨sa.data.toList, by simp⟩
  obtain ⟨h, rfl⟩ : ∃ s : List UInt8, ha = ⟨s.toArray⟩ := ⟨ha.data.toList, by simp⟩
  have hsl1 : s.length ≤ 281474976710656 := by simpa [ByteArray.size] using hsl
  have hhl1 : h.length ≤ 281474976710656 := by simpa [ByteArray.size] using hal
  have HLAY : Hid (Calls Tryz.prog 17 #[.slice ad1 m1 cap1] w fun e w' => ∃ v, e = .returned v ∧ w'.ownsRow w.heap.size 51 2 v (lyL ws).length (fels (lyL ws)) ∧ Below w.heap.size w w') := by
    unfold Hid
    rw [← hw]
    exact layout_any ws ad1 cap1 w (by omega) hwc
  have hck := ly_chk ws
  have hl8 := ly_len ws
  have hnd := ly_nodupH ws
  have hxs : ∀ f ∈ lyL ws, f.1.length ≤ 281474976710656 := fun f hf => by have := nm_len (ly_fld hf).2; omega
  obtain ⟨L, hLL⟩ : ∃ L, lyL ws = L := ⟨_, rfl⟩
  rw [hLL] at hck hl8 hxs HLAY hnd
  have h0 : (chkM L).1 = 0 := by rw [hck]
  obtain ⟨k1, k2, k3, k4⟩ := chk_ok h0
  have hb0 : ∀ f ∈ L, 0 ≤ f.2 ∧ f.2 ≤ 32 := fun f hf => by have := k3 f hf; omega
  obtain ⟨n, hn⟩ : ∃ n : Nat, sumB L = (n : Int) := ⟨(sumB L).toNat, by have := (sumB_bound L hb0).1; omega⟩
  have hn256 : n ≤ 256 := by omega
  have hGl := hdG_len n h
  have hG01 := hdG_01 n h
  obtain ⟨G, hG⟩ : ∃ G, hdG n h = G := ⟨_, rfl⟩
  rw [hG] at hGl hG01
  have hLi : (0 : Int) < (L.length : Int) := by omega
  have kk0 := Int.emod_nonneg kk (show (L.length : Int) ≠ 0 by omega)
  have kk1 := Int.emod_lt_of_pos kk hLi
  obtain ⟨k, hk⟩ : ∃ k : Nat, kk % (L.length : Int) = (k : Int) := ⟨(kk % (L.length : Int)).toNat, by omega⟩
  have HNR : Hid (∀ W : World, Calls Tryz.prog 18 #[.int .i64 kk, .int .i64 (L.length : Int)] W fun e w' => e = .returned (.int .i64 (k : Int)) ∧ w' = W) := fun W => by
    rw [← hk]
    exact near_any kk (L.length : Int) W (by omega) (by omega)
  rw [hk] at kk1
  have hkl : k < L.length := by omega
  obtain ⟨x, b, p, hf, hp, hb1, hb⟩ := k_at hkl k3
  have hpb : p + b ≤ n := by
    have h1 := sumB_take hf
    have h2 := sumB_take_le hb0 (k + 1)
    rw [h1, hp, hn] at h2
    simp only at h2
    omega
  obtain ⟨V, hV⟩ : ∃ V, valF 0 (subL G p (p + b)) = V := ⟨_, rfl⟩
  have hVlt : V < 2 ^ b := by
    have := valF_lt (subL G p (p + b))
    rw [hV] at this
    have hsl : (subL G p (p + b)).length = b := by
      unfold subL
      rw [List.length_take, List.length_drop]
      omega
    rw [hsl] at this
    exact this
  have HTS : Hid (∀ (W : World) (o : Option Addr) (c : Nat), IRF W o L → Calls Tryz.prog 19 #[.slice o L.length c, .int .i64 (k : Int), .int .i64 op, .int .i64 form, .int .i64 lo, .int .i64 hi, .int .i64 nn, .string ⟨s.toArray⟩] W fun e w' => ∃ t : TS, e = .returned t.v ∧ t.f = x ∧ TOK b t ∧ t.pat.length ≤ 32 ∧ Below W.heap.size W w') := fun W o c i1 => test_any L o c k b x op form lo hi nn s W hb1 hb (by omega) hf hsl1 i1
  have HHD : Hid (∀ (W : World) (o : Option Addr) (c : Nat), IRF W o L → Calls Tryz.prog 20 #[.slice o L.length c, .string ⟨h.toArray⟩] W fun e w' => e = .returned (.string ⟨G.toArray⟩) ∧ Below W.heap.size W w') := fun W o c i1 => by
    have := header_any L o c h n W (by omega) k3 hn i1 hhl1
    rw [hG] at this
    exact this
  have HVS : Hid (SH w ∧ SG w ∧ VW w ∧ US w ∧ DB w) := ⟨hv1, hv4, hv5, hu, hdb⟩
  have HCB : Hid (∀ (t : TS), t.f = x → TOK b t → t.pat.length ≤ 32 → ∃ C : List (List UInt8), (∀ y ∈ C, y.length = n) ∧ C.length ≤ 8589934592 ∧ cntT C G = (if holdsM b t V = true then 1 else 0) ∧ ∀ (W : World) (o : Option Addr) (c : Nat), Below w.heap.size w W → L.length ≤ c → IRF W o L → Calls Tryz.prog 10 #[.slice o L.length c, t.v] W fun e w' => cuR W (C, 0) e w') := fun t htf ht hpl => by
    subst htf
    obtain ⟨C, hC, hw, hcl, hcn⟩ := cb_holds hck hnd hf hb ht hp hn hpb hGl hG01
    rw [hV] at hcn
    refine ⟨C, hw, hcl, hcn, fun W o c hW hc i1 => ?_⟩
    obtain ⟨g1, g2, g3, g4, g5⟩ := HVS.out
    have := fcubes_any L o c t W (by omega) hc hxs (by omega) i1 (g1.below hW) (g2.below hW) (g3.below hW) (g4.below hW) (g5.below hW)
    rw [hC] at this
    exact this
  have HVA : Hid (∀ (W : World) (o : Option Addr) (c : Nat), IRF W o L → Calls Tryz.prog 23 #[.slice o L.length c, .int .i64 k, .string ⟨G.toArray⟩] W fun e w' => e = .returned (.int .i64 (V : Int)) ∧ w' = W) := fun W o c i1 => by
    rw [← hV]
    exact lvalue_any L o c k x b p G W (by omega) hf hp hb (by omega) (by omega) hG01 hb0 i1
  have HHO : Hid (∀ (t : TS), TOK b t → ∀ W : World, Calls Tryz.prog 22 #[t.v, .int .i64 (V : Int), .int .i64 (b : Int)] W fun e w' => e = .returned (.bool (holdsM b t V)) ∧ Below W.heap.size W w') := fun t ht W => kholds_any b V t W hb ht hVlt
  have HKN : Hid (∀ W : World, Below w.heap.size w W → Calls Tryz.prog 14 #[] W fun e w' => e = .returned (.bool true) ∧ Below W.heap.size W w') := fun W hW => known_any W (HVS.out.2.2.2.2.below hW)
  have HGL : Hid (G.length = n ∧ n ≤ 256) := ⟨hGl, hn256⟩
  have HF : Hid (L[k]? = some (x, (b : Int))) := hf
  have q0 : (0 : Int) ≤ (k : Int) := by omega
  have q1 : (k : Int) < (L.length : Int) := by omega
  clear hw hwc hv1 hv4 hv5 hu hdb hck hxs hLL h0 k3 k4 hb0 hn hGl hG01 hG hal hsl hnd hk kk0 hf hp hV hVlt kk1 hpb hb1 hb hLi hkl
  go_enter Tryz.func5, Tryz.ntmps5
  go_wp2_with fail
  refine HLAY.out.mono ?_
  rintro e W1 ⟨v1, rfl, hown1, hb1⟩
  obtain ⟨pF, cF, rfl⟩ := shapeP hown1
  have hcF := own_capX hown1
  have HOF : Hid (∀ W : World, Below W1.heap.size W1 W → IRF W pF L) := fun W hW => (IRF_own hown1 rfl).later hW
  clear hown1 HLAY
  go_wp2_with fail
  refine (HNR.out _).mono ?_
  rintro e W1' ⟨rfl, rfl⟩
  go_wp2_with fail
  refine (HTS.out _ pF cF (HOF.out _ (Below.refl _ _))).mono ?_
  rintro e W2 ⟨t, rfl, htf, htok, hpl, hb2⟩
  obtain ⟨C, hCw, hCl, hCn, hCall⟩ := HCB.out t htf htok hpl
  have hHol := HHO.out t htok
  have hB2 := bel0 hb1 hb2
  obtain ⟨Ho, hHo⟩ : ∃ Ho, holdsM b t V = Ho := ⟨_, rfl⟩
  rw [hHo] at hCn
  simp only [hHo] at hHol
  obtain ⟨f, op1, form1, lo1, hi1, len, pat⟩ := t
  have HCC : Hid (∀ (W : World) (o : Option Addr) (c : Nat), Below w.heap.size w W → L.length ≤ c → IRF W o L → Calls Tryz.prog 10 #[.slice o L.length c, .agg #[.string ⟨f.toArray⟩, .int .i64 op1, .int .i64 form1, .int .i64 lo1, .int .i64 hi1, .int .i64 len, .string ⟨pat.toArray⟩]] W fun e w' => cuR W (C, 0) e w') := hCall
  have HHH : Hid (∀ W : World, Calls Tryz.prog 22 #[.agg #[.string ⟨f.toArray⟩, .int .i64 op1, .int .i64 form1, .int .i64 lo1, .int .i64 hi1, .int .i64 len, .string ⟨pat.toArray⟩], .int .i64 (V : Int), .int .i64 (b : Int)] W fun e w' => e = .returned (.bool Ho) ∧ Below W.heap.size W w') := hHol
  have HCW : Hid (∀ y ∈ C, y.length = n) := hCw
  have HCN : Hid (cntT C G = if Ho = true then 1 else 0) := hCn
  obtain ⟨O, hO⟩ : ∃ O : Obj, Obj.cells #[.string ⟨#[]⟩, .int .i64 0, .int .i64 0, .int .i64 0, .int .i64 0, .int .i64 0, .string ⟨#[]⟩] 24 = O := ⟨_, rfl⟩
  have hbA : (W2.alloc O).heap[W2.heap.size]? = some (.cells #[.string ⟨#[]⟩, .int .i64 0, .int .i64 0, .int .i64 0, .int .i64 0, .int .i64 0, .string ⟨#[]⟩] 24) := by rw [hO]; exact alloc_get _ _
  obtain ⟨hcA, hfA⟩ := blk_cells hbA
  have hm1 := put7_get (.string ⟨f.toArray⟩) (.int .i64 op1) (.int .i64 form1) (.int .i64 lo1) (.int .i64 hi1) (.int .i64 len) (.string ⟨pat.toArray⟩) hbA
  have hmB : Below W2.heap.size W2 (put7 (W2.alloc O) W2.heap.size (.string ⟨f.toArray⟩) (.int .i64 op1) (.int .i64 form1) (.int .i64 lo1) (.int .i64 hi1) (.int .i64 len) (.string ⟨pat.toArray⟩)) := put7_below _ _ _ _ _ _ _ ((Below.refl _ _).alloc (Nat.le_refl _) _) (Nat.le_refl _)
  have HMM : Hid ((put7 (W2.alloc O) W2.heap.size (.string ⟨f.toArray⟩) (.int .i64 op1) (.int .i64 form1) (.int .i64 lo1) (.int .i64 hi1) (.int .i64 len) (.string ⟨pat.toArray⟩)).heap[W2.heap.size]? = some (.cells #[.string ⟨f.toArray⟩, .int .i64 op1, .int .i64 form1, .int .i64 lo1, .int .i64 hi1, .int .i64 len, .string ⟨pat.toArray⟩] 24 (0, 0)) ∧ Below W2.heap.size W2 (put7 (W2.alloc O) W2.heap.size (.string ⟨f.toArray⟩) (.int .i64 op1) (.int .i64 form1) (.int .i64 lo1) (.int .i64 hi1) (.int .i64 len) (.string ⟨pat.toArray⟩))) := ⟨hm1, hmB⟩
  clear hm1 hmB hbA hCall hHol hCw hCn hHo htok hpl htf HTS HCB HHO
  unfold TS.v
  simp only
  go_upto_region 4 with fail
  have hMM := HMM.out
  unfold put7 at hMM
  revert hMM
  generalize ((((((((W2.alloc O).setCell ⟨W2.heap.size, 0, none⟩ (.string ⟨f.toArray⟩)).setCell ⟨W2.heap.size, 1, none⟩ (.int .i64 op1)).setCell ⟨W2.heap.size, 2, none⟩ (.int .i64 form1)).setCell ⟨W2.heap.size, 3, none⟩ (.int .i64 lo1)).setCell ⟨W2.heap.size, 4, none⟩ (.int .i64 hi1)).setCell ⟨W2.heap.size, 5, none⟩ (.int .i64 len)).setCell ⟨W2.heap.size, 6, none⟩ (.string ⟨pat.toArray⟩)) = W3
  rintro ⟨hk3, hb3⟩
  have hB3 := bel0 hB2 hb3
  have hF3 := bel0 hb2 hb3
  clear HMM hcA hfA
  obtain ⟨S, hS⟩ : ∃ S, W2.heap.size = S := ⟨_, rfl⟩
  rw [hS] at hk3
  simp only [hS]
  have HX : Hid (∀ W : World, Below W3.heap.size W3 W → W.cell? ⟨S, 0, none⟩ = some (.string ⟨f.toArray⟩) ∧ W.cell? ⟨S, 1, none⟩ = some (.int .i64 op1) ∧ W.cell? ⟨S, 2, none⟩ = some (.int .i64 form1) ∧ W.cell? ⟨S, 3, none⟩ = some (.int .i64 lo1) ∧ W.cell? ⟨S, 4, none⟩ = some (.int .i64 hi1) ∧ W.cell? ⟨S, 5, none⟩ = some (.int .i64 len) ∧ W.cell? ⟨S, 6, none⟩ = some (.string ⟨pat.toArray⟩)) := fun W hW => ⟨cell_of_row _ _ 0 _ _ _ (keepblk hW hk3), cell_of_row _ _ 1 _ _ _ (keepblk hW hk3), cell_of_row _ _ 2 _ _ _ (keepblk hW hk3), cell_of_row _ _ 3 _ _ _ (keepblk hW hk3), cell_of_row _ _ 4 _ _ _ (keepblk hW hk3), cell_of_row _ _ 5 _ _ _ (keepblk hW hk3), cell_of_row _ _ 6 _ _ _ (keepblk hW hk3)⟩
  clear hk3 hS hb3
  go_wp2_with fail
  refine (HHD.out _ pF cF (HOF.out _ hF3)).mono ?_
  rintro e W4 ⟨rfl, hb4⟩
  have hB4 := bel0 hB3 hb4
  have hF4 := bel0 hF3 hb4
  obtain ⟨x0, x1, x2, x3, x4, x5, x6⟩ := HX.out W4 hb4
  go_wp2_with fail
  refine (HCC.out _ pF cF hB4 hcF (HOF.out _ hF4)).mono ?_
  rintro e W5 ⟨v5, rfl, hown5, hb5⟩
  simp only at hown5
  obtain ⟨p5, c5, rfl⟩ := shapeP hown5
  have hB5 := bel0 hB4 hb5
  have hF5 := bel0 hF4 hb5
  have hX5 := bel0 hb4 hb5
  have HO5 : Hid (∀ W : World, Below W5.heap.size W5 W → W.ownsRow W4.heap.size 9 1 (.slice p5 C.length c5) C.length (stx C)) := fun W hW => owns_below hown5 hW
  clear hown5 HHD HCC x0 x1 x2 x3 x4 x5 x6
  go_wp2_with fail
  refine (num_any 0 _).mono ?_
  rintro e W6 ⟨rfl, rfl⟩
  go_wp2_with fail
  go_loopw [24, 25] (fun vc vi wr => ∃ (i c : Nat), vi = .int .i64 i ∧ i ≤ C.length ∧ vc = .int .i64 c ∧ Hid (c = cntT (C.take i) G) ∧ c ≤ i ∧ Below W6.heap.size W6 wr) (fun _ vi _ => C.length - (intOf vi).toNat)
  case atStart => exact ⟨0, 0, rfl, Nat.zero_le _, rfl, rfl, Nat.le_refl _, Below.refl _ _⟩
  case round =>
    obtain ⟨i, c, rfl, hi, rfl, hc, hci, hB⟩ := hrel
    by_cases hlt : i < C.length
    · have j1 : (i : Int) < (C.length : Int) := by omega
      have j0 : (0 : Int) ≤ (i : Int) := by omega
      have hA := HO5.out _ hB
      obtain ⟨g5, c6, hf5⟩ := own_form hA (by omega)
      injection hf5 with y1 y2 y3
      subst y1 y3
      have hx := hA.cells rfl i _ (stx_get C i hlt)
      rw [add0] at hx
      obtain ⟨ct, hct⟩ : ∃ t, C[i] = t := ⟨_, rfl⟩
      rw [hct] at hx
      have hcg : C[i]? = some ct := by rw [List.getElem?_eq_getElem hlt, hct]
      have hst := cnt_take G hcg
      obtain ⟨gl1, gl2⟩ := HGL.out
      have hlen := HCW.out ct (List.mem_of_getElem? hcg)
      have hHas := fun W => khas_any ct G W (by omega) (by omega)
      obtain ⟨I, hI⟩ : ∃ I, hasT ct G = I := ⟨_, rfl⟩
      simp only [hI] at hHas
      rw [hI, ← hc.out] at hst
      have HHas : Hid (∀ W : World, Calls Tryz.prog 21 #[.string ⟨ct.toArray⟩, .string ⟨G.toArray⟩] W fun e w' => e = .returned (.bool I) ∧ Below W.heap.size W w') := hHas
      clear hHas hI hcg hct hA gl1 gl2 hlen hc
      go_wp2_with fail
      refine (HHas.out _).mono ?_
      rintro e W7 ⟨rfl, hb7⟩
      have hB7 := bel0 hB hb7
      cases I with
      | true =>
        have HCT : Hid (c + 1 = cntT (C.take (i + 1)) G) := by unfold Hid; rw [hst, if_pos rfl]
        have ea : IntKind.i64.wrap ((c : Int) + 1) = ((c + 1 : Nat) : Int) := by rw [IntKind.wrap_i64]; omega
        clear hst
        go_wp2_with fail
        go_roundw
        case rel => exact ⟨i + 1, c + 1, by go_num, by omega, by go_num, HCT, by omega, hB7⟩
        case measure => simp [intOf]; omega
      | false =>
        have HCT : Hid (c = cntT (C.take (i + 1)) G) := by unfold Hid; rw [hst, if_neg (by decide)]; rfl
        clear hst
        go_wp2_with fail
        go_roundw
        case rel => exact ⟨i + 1, c, by go_num, by omega, by go_num, HCT, by omega, hB7⟩
        case measure => simp [intOf]; omega
    · have j1 : ¬ (i : Int) < (C.length : Int) := by omega
      have hcc : c = if Ho = true then 1 else 0 := by
        have := hc.out
        rw [List.take_of_length_le (by omega), HCN.out] at this
        exact this
      have hBr := bel0 hB5 hB
      have hFr := bel0 hF5 hB
      have hXr := bel0 hX5 hB
      obtain ⟨gF, oF, hpF, -⟩ := HOF.out _ hFr wr (Below.refl _ _) k _ HF.out
      subst hpF
      have XF : Hid (∀ W, Below W1'.heap.size W1' W → W.cell? ⟨gF, oF + k * 2 + 1, none⟩ = some (.int .i64 (b : Int))) := fun W hW => by
        obtain ⟨g3, q3, e, -, hh⟩ := HOF.out W hW W (Below.refl _ _) k _ HF.out
        injection e with e
        injection e with e1 e2
        subst e1 e2
        exact hh
      have HC : Hid (c = if Ho = true then 1 else 0) := hcc
      clear hc hcc hci hi HO5 HCN
      go_wp2_with fail
      refine quiet_lit3 (C := fun W => Below wr.heap.size wr W) (by kernel_rfl) (by kernel_rfl) (show Below _ _ _ from (Below.refl _ _).drew) ?_
      go_big_quiet_want
      refine ⟨.agg #[.string ⟨f.toArray⟩, .int .i64 op1, .int .i64 form1, .int .i64 lo1, .int .i64 hi1, .int .i64 len, .string ⟨pat.toArray⟩], fun W hW => ?_, ?_⟩
      · obtain ⟨x0, x1, x2, x3, x4, x5, x6⟩ := HX.out W (bel0 hXr hW)
        go_simp
      go_big_quiet_on
      simp only [Act.put, List.setIfInBounds_toArray, List.set_cons_zero, List.set_cons_succ]
      go_big_quiet_want
      go_big_quiet_op
      go_big_quiet_on
      go_big_quiet_want
      go_big_quiet_op
      go_big_quiet_on
      go_big_quiet_want
      go_big_quiet_op
      go_big_quiet_on
      go_big_quiet_want
      refine ⟨.int .i64 (V : Int), fun W hW => ?_, ?_⟩
      · go_simp
        refine (HVA.out W (some ⟨gF, oF, none⟩) cF (HOF.out W (bel0 hFr hW))).mono ?_
        rintro e w7 ⟨rfl, rfl⟩
        exact ⟨rfl, hW⟩
      go_big_quiet_on
      simp only [Act.put, List.setIfInBounds_toArray, List.set_cons_zero, List.set_cons_succ]
      go_big_quiet_want
      go_big_quiet_op
      go_big_quiet_on
      go_big_quiet_want
      go_big_quiet_op
      go_big_quiet_on
      go_big_quiet_want
      refine ⟨.pointer (some ⟨gF, oF + k * 2, none⟩), fun W hW => ?_, ?_⟩
      · go_simp
      go_big_quiet_on
      simp only [Act.put, List.setIfInBounds_toArray, List.set_cons_zero, List.set_cons_succ]
      go_big_quiet_want
      refine ⟨.pointer (some ⟨gF, oF + k * 2 + 1, none⟩), fun W hW => ?_, ?_⟩
      · go_simp
      go_big_quiet_on
      simp only [Act.put, List.setIfInBounds_toArray, List.set_cons_zero, List.set_cons_succ]
      go_big_quiet_want
      refine ⟨.int .i64 (b : Int), fun W hW => ?_, ?_⟩
      · have z0 := XF.out W (bel0 hFr hW)
        go_simp
      go_big_quiet_on
      simp only [Act.put, List.setIfInBounds_toArray, List.set_cons_zero, List.set_cons_succ]
      go_big_quiet_want
      refine ⟨.bool Ho, fun W hW => ?_, ?_⟩
      · go_simp
        refine (HHH.out W).mono ?_
        rintro e w7 ⟨rfl, hb⟩
        exact ⟨rfl, bel0 hW hb⟩
      go_big_quiet_on
      simp only [Act.put, List.setIfInBounds_toArray, List.set_cons_zero, List.set_cons_succ]
      refine wpQuiet_nil ?_
      intro W hW
      cases Ho with
      | true =>
        obtain rfl : c = 1 := HC.out
        go_wp2_with fail
        refine (HKN.out _ (bel0 hBr hW)).mono ?_
        rintro e W8 ⟨rfl, hb8⟩
        go_wp2_with fail
        go_ret
        exact ⟨rfl, bel0 (bel0 hBr hW) hb8⟩
      | false =>
        obtain rfl : c = 0 := HC.out
        go_wp2_with fail
        refine (HKN.out _ (bel0 hBr hW)).mono ?_
        rintro e W8 ⟨rfl, hb8⟩
        go_wp2_with fail
        go_ret
        exact ⟨rfl, bel0 (bel0 hBr hW) hb8⟩
end Go.Proofs.YtepokgainceidaaGreatDoor
namespace Go.Proofs.YtepokgainceidaaGreatDoor
open Go.RowKit
def intData {H : Type} (v : Int) : DataW H := .lit (.int .i64 v)
section
variable {H : Type} {enc : TypeId × Value → H} {w : World} {base : Nat} {sp : Nat → Bool} {held : Bool}
theorem int_open {fuel : Nat} {cs : List Value} {x : DataW H × List MemPlace} (h : DataW.trod enc Tryz.prog w base sp held fuel 3 cs = some x) : ∃ v : Int, cs = [.int .i64 v] ∧ x.1 = intData v := by
  obtain ⟨z, a, b, _⟩ := DataW.trod_int Tryz.underlying3 h
  exact ⟨z, a, by rw [b]; rfl⟩
theorem open_ints {fuel : Nat} {cs : List Value} {x : DataW H × List MemPlace} (hf : DataW.trod enc Tryz.prog w 0 sp held fuel 42 cs = some x) :
    (cs = [.slice none 0 0] ∧ x = (.nil, [])) ∨ ∃ (a : Addr) (len cap : Nat) (L : List Int) (spare : List (DataW H)), cs = [.slice (some a) len cap] ∧ L.length = len ∧ len ≤ cap ∧ x.1 = .slice (L.map intData) spare ∧
      ∀ (k : Nat) (f : Int), L[k]? = some f → ∃ g o0, a = ⟨g, o0, none⟩ ∧ w.cell? ⟨g, o0 + k, none⟩ = some (.int .i64 f) := by
  rcases Deep.open_slice Tryz.underlying42 hf with h | ⟨a, len, cap, m, n, D, Pl, hcs, _, hlc, hcm, hm, hx, hD⟩
  · exact .inl h
  · right
    rw [cF0] at hD
    have hlm : len ≤ m := by rw [hm]; split <;> omega
    have hex : ∀ i, ∃ t : Int, i < m → w.cells? 0 (a.add (i * 1)) 1 = some [.int .i64 t] ∧ D i = intData t := fun i => by
      by_cases hi : i < m
      · obtain ⟨cs', h1, h2⟩ := hD i hi
        obtain ⟨t, e1, e2⟩ := int_open h2
        exact ⟨t, fun _ => ⟨by rw [h1, e1], e2⟩⟩
      · exact ⟨0, fun h => absurd h hi⟩
    obtain ⟨F, hF⟩ := Classical.axiomOfChoice hex
    refine ⟨a, len, cap, (List.range len).map F, (List.range (m - len)).map fun j => D (len + j), hcs, by simp, hlc, ?_, fun k t ht => ?_⟩
    · rw [hx]
      simp only [List.map_map]
      congr 1
      refine List.map_congr_left (fun i hi => ?_)
      exact (hF i (by have := List.mem_range.1 hi; omega)).2
    · rw [List.getElem?_map] at ht
      by_cases hk : k < len
      · rw [List.getElem?_range hk] at ht
        obtain rfl := Option.some.inj ht
        have cell : ∀ i j v, i < m → ([.int .i64 (F i)] : List Value)[j]? = some v → j < 1 → w.cell? ((a.add (i * 1)).add j) = some v := fun i j v hi hv hj => by
          have h1 := (hF i hi).1
          unfold World.cells? at h1
          rw [if_pos (Nat.zero_le _)] at h1
          have hj0 : j = 0 := by omega
          obtain ⟨b, hb, hc⟩ := Lib.mapM_at h1 j j (by rw [hj0]; rfl)
          rw [hv] at hb
          rw [Option.some.inj hb]
          exact hc
        have h00 := cell 0 0 _ (by omega) rfl (by decide)
        have hs : a.spot = none := by
          have e : (a.add (0 * 1)).add 0 = a := rfl
          rw [e] at h00
          exact cell_spotF h00
        obtain ⟨g, o0, s⟩ := a
        simp only at hs
        subst hs
        have ea : ∀ j, ((⟨g, o0, none⟩ : Addr).add (k * 1)).add j = ⟨g, o0 + k * 1 + j, none⟩ := fun j => by
          rw [add_spotF rfl (k * 1), add_spotF rfl j]
        have c0 := cell k 0 _ (by omega) rfl (by decide)
        rw [ea, Nat.mul_one, Nat.add_zero] at c0
        exact ⟨g, o0, rfl, c0⟩
      · rw [List.getElem?_eq_none (by simp; omega)] at ht
        cases ht
theorem sized_ints {ts : List TypeId} {ds : List (DataW H)} (h : (DataW.weightsEach Tryz.prog ts ds).all (· ≤ reachBytes) = true) {L : List Int} {spare : List (DataW H)} {j : Nat} (ht : ts[j]? = some 42) (hd : ds[j]? = some (.slice (L.map intData) spare)) : L.length * 8 ≤ reachBytes := by
  have hb : Tryz.prog.bytesOf 3 = 8 := by kernel_rfl
  have h1 := sized_slice h ht hd Tryz.underlying42
  rw [hb, List.length_map] at h1
  omega
end
end Go.Proofs.YtepokgainceidaaGreatDoor

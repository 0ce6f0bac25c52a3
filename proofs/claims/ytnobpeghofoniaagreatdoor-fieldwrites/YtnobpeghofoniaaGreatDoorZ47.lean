import Derived.Test.YtnobpeghofoniaaGreatDoorZ42
import Derived.Test.YtnobpeghofoniaaGreatDoorZ45
import Derived.Test.YtnobpeghofoniaaGreatDoorZ46
namespace Go.Proofs.YtnobpeghofoniaaGreatDoor
open Go.RowKit Go.Shelf
set_option maxRecDepth 100000 in
set_option maxHeartbeats 8000000 in
theorem fieldWrites_walk (ws : List Int) (m1 : Nat) (ad1 : Option Addr) (cap1 : Nat) (is : List Int) (m2 : Nat) (ad2 : Option Addr) (cap2 : Nat) (vs : List Int) (m3 : Nat) (ad3 : Option Addr) (cap3 : Nat) (h : ByteArray) (w : World) (hw : ws.length = m1) (hwb : m1 * 8 ≤ 140737488355328) (hwc : IRV w ad1 ws) (hi2 : is.length = m2) (_hib : m2 * 8 ≤ 140737488355328) (hic : IRV w ad2 is) (hv : vs.length = m3) (_hvb : m3 * 8 ≤ 140737488355328) (hvc : IRV w ad3 vs) (hlim : h.size ≤ 281474976710656) (hv1 : SH w) (hv4 : SG w) (hv5 : VW w) :
    Calls Tryz.prog 3 #[.slice ad1 m1 cap1, .slice ad2 m2 cap2, .slice ad3 m3 cap3, .string h] w fun e w' => e = .returned (.bool true) ∧ Below w.heap.size w w' := by
  obtain ⟨s, rfl⟩ : ∃ s : List UInt8, h = ⟨s.toArray⟩ := ⟨h.data.toList, by simp⟩
  have hsl : s.length ≤ 281474976710656 := by simpa [ByteArray.size] using hlim
  obtain ⟨i0, hi, hz0, hz1, hz2⟩ := info_parts info_u8
  have HLAY : Hid (Calls Tryz.prog 7 #[.slice ad1 m1 cap1] w fun e w' => ∃ v, e = .returned v ∧ w'.ownsRow w.heap.size 39 2 v (lyL ws).length (fels (lyL ws)) ∧ Below w.heap.size w w') := by
    unfold Hid
    rw [← hw]
    exact layout_any ws ad1 cap1 w (by omega) hwc
  have hck := ly_chk ws
  have hl8 := ly_len ws
  have hnd := ly_nodup ws
  have hxs : ∀ f ∈ lyL ws, f.1.length ≤ 281474976710656 := fun f hf => by have := nm_len (ly_fld hf).2; omega
  obtain ⟨L, hLL⟩ : ∃ L, lyL ws = L := ⟨_, rfl⟩
  rw [hLL] at hck hl8 hxs HLAY hnd
  have h0 : (chkM L).1 = 0 := by rw [hck]
  obtain ⟨k1, k2, k3, k4⟩ := chk_ok h0
  have hb0 : ∀ f ∈ L, 0 ≤ f.2 ∧ f.2 ≤ 32 := fun f hf => by have := k3 f hf; omega
  obtain ⟨n, hn⟩ : ∃ n : Nat, sumB L = (n : Int) := ⟨(sumB L).toNat, by have := (sumB_bound L hb0).1; omega⟩
  have hn256 : n ≤ 256 := by omega
  have hGl := hdG_len n s
  have hG01 := hdG_01 n s
  obtain ⟨G, hG⟩ : ∃ G, hdG n s = G := ⟨_, rfl⟩
  rw [hG] at hGl hG01
  have HV : Hid (SH w ∧ SG w ∧ VW w) := ⟨hv1, hv4, hv5⟩
  have HHD : Hid (∀ (W : World) (o : Option Addr) (c : Nat), IRF W o L → Calls Tryz.prog 9 #[.slice o L.length c, .string ⟨s.toArray⟩] W fun e w' => e = .returned (.string ⟨G.toArray⟩) ∧ Below W.heap.size W w') := fun W o c i1 => by
    have := header_any L o c s n W (by omega) k3 hn i1 hsl
    rw [hG] at this
    exact this
  have HST : Hid (∀ (W : World) (o : Option Addr) (c : Nat), Below w.heap.size w W → IRF W o L → Calls Tryz.prog 8 #[.slice o L.length c, .slice ad2 m2 cap2, .slice ad3 m3 cap3] W fun e w' => ∃ (v : Value) (S : List IFld), e = .returned v ∧ setsB L S ∧ w'.ownsRow W.heap.size 37 2 v S.length (fels S) ∧ Below W.heap.size W w') := fun W o c hW i1 => by
    have := sets_any L o c is ad2 cap2 vs ad3 cap3 W (by omega) (by omega) k3 i1 (hic.later hW) (hvc.later hW)
    rw [hi2, hv] at this
    exact this
  have HWD : Hid (∀ (S : List IFld), setsB L S → ∀ (W : World) (o o2 : Option Addr) (c c2 : Nat), Below w.heap.size w W → L.length ≤ c → S.length ≤ c2 → IRF W o L → IRF W o2 S → Calls Tryz.prog 10 #[.slice o L.length c, .slice o2 S.length c2] W fun e w' => e = .returned (.tuple #[.string ⟨(blkW S L).toArray⟩, .int .i64 0]) ∧ Below W.heap.size W w') := fun S hS W o o2 c c2 hW hc hc2 i1 i2 => by
    obtain ⟨g1, g2, g3⟩ := HV.out
    have := word_any L o c S o2 c2 W (by omega) hc hc2 hxs i1 i2 (g1.below hW) (g2.below hW) (g3.below hW)
    rw [wdM_ok hck hnd hS.1 hS.2.1 hS.2.2] at this
    exact this
  have HUN : Hid (∀ (S : List IFld), setsB L S → ∀ (W : World) (o : Option Addr) (c : Nat), Below w.heap.size w W → L.length ≤ c → IRF W o L → Calls Tryz.prog 12 #[.slice o L.length c, .string ⟨(ovW (blkW S L) G).toArray⟩] W fun e w' => unR W (wnL S L G, 0) e w') := fun S hS W o c hW hc i1 => by
    obtain ⟨g1, g2, g3⟩ := HV.out
    have := unpack_any L o c (ovW (blkW S L) G) W (by omega) hc hxs i1 (g1.below hW) (g2.below hW) (g3.below hW)
    rw [un_ov hck (by rw [hGl, hn]; rfl) hG01 (gv_in hnd hS.2.1)] at this
    exact this
  have HVA : Hid (∀ (W : World) (o : Option Addr) (c k : Nat) (x : List UInt8) (b p : Nat), L[k]? = some (x, (b : Int)) → sumB (L.take k) = (p : Int) → IRF W o L → Calls Tryz.prog 13 #[.slice o L.length c, .int .i64 k, .string ⟨G.toArray⟩] W fun e w' => e = .returned (.int .i64 (valF 0 (subL G p (p + b)) : Int)) ∧ w' = W) := fun W o c k x b p hf hp i1 => by
    have hb := hb0 _ (List.mem_of_getElem? hf)
    simp only at hb
    have h1 := sumB_take hf
    have h2 := sumB_take_le hb0 (k + 1)
    rw [h1, hp, hn] at h2
    simp only at h2
    exact lvalue_any L o c k x b p G W (by omega) hf hp (by omega) (by omega) (by omega) hG01 hb0 i1
  have HBL : Hid (∀ S : List IFld, (blkW S L).length = n) := fun S => by rw [blkW_len S L k3, hn]; rfl
  have HGL : Hid (G.length = n) := hGl
  have HK3 : Hid (posB L) := k3
  have HB0 : Hid (∀ f ∈ L, 0 ≤ f.2 ∧ f.2 ≤ 32) := hb0
  clear hw hwc hv hvc hi2 hic hv1 hv4 hv5 hck hxs hLL h0 k3 k4 hb0 hn hGl hG01 hG hlim hnd
  go_enter Tryz.func3, Tryz.ntmps3
  go_wp2_with fail
  refine HLAY.out.mono ?_
  rintro e W1 ⟨v1, rfl, hown1, hb1⟩
  obtain ⟨pF, cF, rfl⟩ := shapeP hown1
  have hcF := own_capX hown1
  have HOF : Hid (∀ W : World, Below W1.heap.size W1 W → IRF W pF L) := fun W hW => (IRF_own hown1 rfl).later hW
  clear hown1 HLAY
  go_wp2_with fail
  refine (HST.out _ pF cF hb1 (HOF.out _ (Below.refl _ _))).mono ?_
  rintro e W2 ⟨v2, S, rfl, HS, hown2, hb2⟩
  obtain ⟨pS, cS, rfl⟩ := shapeP hown2
  have hcS := own_capX hown2
  have HOS : Hid (∀ W : World, Below W2.heap.size W2 W → IRF W pS S) := fun W hW => (IRF_ownS hown2 rfl).later hW
  have hB2 := bel0 hb1 hb2
  have HS12 := HS.1
  have HSN : Hid ((S.map (·.1)).Nodup) := HS.2.2
  clear hown2 HST
  go_wp2_with fail
  refine (HHD.out _ pF cF (HOF.out _ hb2)).mono ?_
  rintro e W3 ⟨rfl, hb3⟩
  have hB3 := bel0 hB2 hb3
  have hF3 := bel0 hb2 hb3
  have hWD := HWD.out S HS W3 pF pS cF cS hB3 hcF hcS (HOF.out _ hF3) (HOS.out _ hb3)
  have HUN' : Hid (∀ (W : World) (o : Option Addr) (c : Nat), Below w.heap.size w W → L.length ≤ c → IRF W o L → Calls Tryz.prog 12 #[.slice o L.length c, .string ⟨(ovW (blkW S L) G).toArray⟩] W fun e w' => unR W (wnL S L G, 0) e w') := HUN.out S HS
  have hBl := HBL.out S
  have HWN : Hid (∀ (k b p : Nat) (x : List UInt8), L[k]? = some (x, (b : Int)) → sumB (L.take k) = (p : Int) → (wnL S L G)[k]? = some (wantV (valF 0 (subL G p (p + b)) : Int) (gvN S x))) := fun k b p x hf hp => wn_at HK3.out hf hp
  have hWl := wnL_len S L G
  have hOl := ov_len (blkW S L) G (by rw [hBl, HGL.out])
  obtain ⟨B, hBB⟩ : ∃ B, blkW S L = B := ⟨_, rfl⟩
  rw [hBB] at hWD hBl hOl HUN'
  obtain ⟨V, hVV⟩ : ∃ V, wnL S L G = V := ⟨_, rfl⟩
  rw [hVV] at hWl HWN HUN'
  obtain ⟨Z, hZZ⟩ : ∃ Z, ovW B G = Z := ⟨_, rfl⟩
  rw [hZZ] at HUN' hOl
  have HZT : Hid (∀ (i : Nat) (a b : UInt8), B[i]? = some a → G[i]? = some b → Lib.byteCells (Z.take (i + 1)) = Lib.byteCells (Z.take i) ++ [.int .u8 ((if a = 120 then b else a).toNat : Int)]) := fun i a b ha hb => by
    rw [← hZZ, ov_take ha hb, byteCells_append]
    rfl
  have HWD' : Hid (Calls Tryz.prog 10 #[.slice pF L.length cF, .slice pS S.length cS] W3 fun e w' => e = .returned (.tuple #[.string ⟨B.toArray⟩, .int .i64 0]) ∧ Below W3.heap.size W3 w') := hWD
  have HVL : Hid (V.length = L.length) := hWl
  have hG1 := HGL.out
  have hlg : (B.length : Int) = (G.length : Int) := by omega
  have HZL : Hid (Z.length = n) := by unfold Hid; rw [hOl, HGL.out]
  clear hWD HWD HUN hBB hVV hZZ hWl hOl HS HHD HBL
  go_wp2_with fail
  refine HWD'.out.mono ?_
  rintro e W4 ⟨rfl, hb4⟩
  have hB4 := bel0 hB3 hb4
  have hF4 := bel0 hF3 hb4
  have hS4 := bel0 hb3 hb4
  clear HWD'
  go_wp2_with fail
  refine (num_any 0 _).mono ?_
  rintro e W5 ⟨rfl, rfl⟩
  go_wp2_with fail
  go_loopw [14, 15] (fun v vk wr => ∃ i : Nat, vk = .int .i64 i ∧ i ≤ n ∧ wr.ownsRow W5.heap.size 5 1 v i (Lib.byteCells (Z.take i)) ∧ Below W5.heap.size W5 wr) (fun _ vk _ => n - (intOf vk).toNat)
  case atStart => exact ⟨0, rfl, Nat.zero_le _, World.ownsRow_nil _ _ _ _, Below.refl _ _⟩
  case round =>
    obtain ⟨i, rfl, hin, hown, hB⟩ := hrel
    have hBs := hB.size
    obtain ⟨pv, cv, rfl⟩ := shapeP hown
    by_cases hlt : i < n
    · have j1 : (i : Int) < (G.length : Int) := by omega
      have j2 : (i : Int) < (B.length : Int) := by omega
      have j0 : (0 : Int) ≤ (i : Int) := by omega
      obtain ⟨a, hda, hla⟩ := byte_get B i (by omega)
      obtain ⟨b, hdb, hlb⟩ := byte_get G i (by omega)
      have hzt := HZT.out i a b hla hlb
      by_cases hx : a = 120
      · rw [if_pos hx] at hzt
        have HZ1 : Hid (Lib.byteCells (Z.take (i + 1)) = Lib.byteCells (Z.take i) ++ [.int .u8 (b.toNat : Int)]) := hzt
        have a1 : ((a.toNat : Int) == 120) = true := by rw [hx]; rfl
        clear hzt hla hlb hx
        go_wp2_with (at_builtin; refine wpList_append_own _ rfl _ _ 32 rfl W5.heap.size 5 i0 _ 1 1 Tryz.underlying32 hi hz0 hz1 hz2 rfl (by decide) _ _ _ rfl (hown.alloc _) ⟨_, 0, none⟩ 1 1 [.int .u8 (b.toNat : Int)] rfl rfl (World.news_of_block (cs := #[.int .u8 (b.toNat : Int)]) (t := 5) (fr := (0, 0)) (alloc_get _ _)) (by simp [Value.oneCell']) (by unfold maxLen; omega) (by omega) (by simp; omega) ?_; intro v5 w5 oB hg5 _; have hB5 := (hB.alloc hBs _).grown hg5 (by simp; omega) (fun k e => (hown.lt k e).1))
        go_roundw
        case rel => exact ⟨i + 1, by go_num, by omega, by rw [HZ1.out]; exact oB, hB5⟩
        case measure => simp [intOf]; omega
      · rw [if_neg hx] at hzt
        have HZ1 : Hid (Lib.byteCells (Z.take (i + 1)) = Lib.byteCells (Z.take i) ++ [.int .u8 (a.toNat : Int)]) := hzt
        have a1 : ((a.toNat : Int) == 120) = false := by
          rw [beq_eq_false_iff_ne]
          intro e
          exact hx (UInt8.toNat_inj.1 (by show a.toNat = 120; omega))
        clear hzt hla hlb hx
        go_wp2_with (at_builtin; refine wpList_append_own _ rfl _ _ 32 rfl W5.heap.size 5 i0 _ 1 1 Tryz.underlying32 hi hz0 hz1 hz2 rfl (by decide) _ _ _ rfl (hown.alloc _) ⟨_, 0, none⟩ 1 1 [.int .u8 (a.toNat : Int)] rfl rfl (World.news_of_block (cs := #[.int .u8 (a.toNat : Int)]) (t := 5) (fr := (0, 0)) (alloc_get _ _)) (by simp [Value.oneCell']) (by unfold maxLen; omega) (by omega) (by simp; omega) ?_; intro v5 w5 oB hg5 _; have hB5 := (hB.alloc hBs _).grown hg5 (by simp; omega) (fun k e => (hown.lt k e).1))
        go_roundw
        case rel => exact ⟨i + 1, by go_num, by omega, by rw [HZ1.out]; exact oB, hB5⟩
        case measure => simp [intOf]; omega
    · have j1 : ¬ (i : Int) < (G.length : Int) := by omega
      obtain rfl : i = n := by omega
      rw [List.take_of_length_le (by rw [HZL.out]; exact Nat.le_refl _)] at hown
      have hcv := conv_own Z (by rw [HZL.out]; exact hown)
      have hBw := bel0 hB4 hB
      have hFw := bel0 hF4 hB
      have hSw := bel0 hS4 hB
      clear hown
      go_wp2_with fail
      refine (HUN'.out _ pF cF hBw hcF (HOF.out _ hFw)).mono ?_
      rintro e W7 ⟨v7, rfl, hown7, hb7⟩
      simp only [HVL.out] at hown7
      obtain ⟨p7, c7, rfl⟩ := shapeP hown7
      have HO7 : Hid (∀ W : World, Below W7.heap.size W7 W → IRV W p7 V) := fun W hW => (IRV_own hown7 HVL.out).later hW
      have hB7 := bel0 hBw hb7
      have hF7 := bel0 hFw hb7
      have hS7 := bel0 hSw hb7
      clear hown7 hcv
      go_wp2_with fail
      refine (num_any 0 _).mono ?_
      rintro e W8 ⟨rfl, rfl⟩
      go_wp2_with fail
      go_loopw [18] (fun vk wr => ∃ k : Nat, vk = .int .i64 k ∧ k ≤ L.length ∧ Below W8.heap.size W8 wr) (fun vk _ => L.length - (intOf vk).toNat)
      case atStart => exact ⟨0, rfl, Nat.zero_le _, Below.refl _ _⟩
      case round =>
        obtain ⟨k, rfl, hk, hBk⟩ := hrel
        have hFk := bel0 hF7 hBk
        have hSk := bel0 hS7 hBk
        by_cases hkl : k < L.length
        · have t1 : (k : Int) < (L.length : Int) := by omega
          have t0 : (0 : Int) ≤ (k : Int) := by omega
          obtain ⟨f, hf⟩ : ∃ f, L[k]? = some f := ⟨_, List.getElem?_eq_getElem hkl⟩
          have hbits := HK3.out f (List.mem_of_getElem? hf)
          obtain ⟨x, bi⟩ := f
          obtain ⟨b, rfl⟩ : ∃ b : Nat, bi = (b : Int) := ⟨bi.toNat, by simp only at hbits; omega⟩
          obtain ⟨p, hp⟩ : ∃ p : Nat, sumB (L.take k) = (p : Int) := ⟨(sumB (L.take k)).toNat, by have := (sumB_bound (L.take k) (fun f hf => HB0.out f (List.mem_of_mem_take hf))).1; omega⟩
          have hVal := HVA.out wr pF cF k x b p hf hp (HOF.out _ hFk)
          have hWn := HWN.out k b p x hf hp
          obtain ⟨d, hd⟩ : ∃ d : Int, (valF 0 (subL G p (p + b)) : Int) = d := ⟨_, rfl⟩
          rw [hd] at hVal hWn
          have HVal : Hid (Calls Tryz.prog 13 #[.slice pF L.length cF, .int .i64 k, .string ⟨G.toArray⟩] wr fun e w' => e = .returned (.int .i64 d) ∧ w' = wr) := hVal
          obtain ⟨gF, oF, hpF, -⟩ := HOF.out _ hFk wr (Below.refl _ _) k _ hf
          subst hpF
          have XF : Hid (∀ W, Below W1.heap.size W1 W → W.cell? ⟨gF, oF + k * 2, none⟩ = some (.string ⟨x.toArray⟩)) := fun W hW => by
            obtain ⟨g3, q3, e, h, -⟩ := HOF.out W hW W (Below.refl _ _) k _ hf
            injection e with e
            injection e with e1 e2
            subst e1 e2
            exact h
          obtain ⟨g7, o7, hp7, -⟩ := HO7.out _ hBk wr (Below.refl _ _) k _ hWn
          subst hp7
          have X7 : Hid (∀ W, Below W8.heap.size W8 W → W.cell? ⟨g7, o7 + k, none⟩ = some (.int .i64 (wantV d (gvN S x)))) := fun W hW => by
            obtain ⟨g3, q3, e, h⟩ := HO7.out W hW W (Below.refl _ _) k _ hWn
            injection e with e
            injection e with e1 e2
            subst e1 e2
            exact h
          clear hVal hf hp hd hWn hbits
          go_wp2_with fail
          refine HVal.out.mono ?_
          rintro e W9 ⟨rfl, rfl⟩
          go_wp2_with fail
          go_loopw [19, 20] (fun vt vj wi => ∃ (j : Nat), vj = .int .i64 j ∧ j ≤ S.length ∧ vt = .int .i64 (wantV d (gvN (S.take j) x)) ∧ Below W8.heap.size W8 wi) (fun _ vj _ => S.length - (intOf vj).toNat)
          case atStart => exact ⟨0, rfl, Nat.zero_le _, rfl, hBk⟩
          case round =>
            clear hBk hFk hSk
            obtain ⟨j, rfl, hj, rfl, hBj⟩ := hrel
            have hFj := bel0 hF7 hBj
            have hSj := bel0 hS7 hBj
            by_cases hjS : j < S.length
            · have y1 : (j : Int) < (S.length : Int) := by omega
              have y0 : (0 : Int) ≤ (j : Int) := by omega
              obtain ⟨u, hu⟩ : ∃ u, S[j]? = some u := ⟨_, List.getElem?_eq_getElem hjS⟩
              have hgt := gvN_take x HSN.out hu
              obtain ⟨g5, o5, hp5, -⟩ := HOS.out _ hSj wr (Below.refl _ _) j _ hu
              subst hp5
              have XS : Hid (∀ W, Below W2.heap.size W2 W → W.cell? ⟨g5, o5 + j * 2, none⟩ = some (.string ⟨u.1.toArray⟩) ∧ W.cell? ⟨g5, o5 + j * 2 + 1, none⟩ = some (.int .i64 u.2)) := fun W hW => by
                obtain ⟨g3, q3, e, h⟩ := HOS.out W hW W (Below.refl _ _) j _ hu
                injection e with e
                injection e with e1 e2
                subst e1 e2
                exact h
              obtain ⟨un, uv⟩ := u
              simp only at XS hgt
              by_cases hux : un = x
              · rw [if_pos hux] at hgt
                have HGT : Hid (gvN (S.take (j + 1)) x = some uv) := hgt
                subst hux
                have hne : (un == un) = true := beq_self_eq_true un
                clear hgt hu
                go_wp2_with fail
                refine quiet_lit3 (C := fun W => Below wr.heap.size wr W) (by kernel_rfl) (by kernel_rfl) (show Below _ _ _ from (Below.refl _ _).drew) ?_
                go_big_quiet_want
                go_big_quiet_op
                go_big_quiet_on
                go_big_quiet_want
                go_big_quiet_op
                go_big_quiet_on
                go_big_quiet_want
                refine ⟨.pointer (some ⟨g5, o5 + j * 2, none⟩), fun W hW => ?_, ?_⟩
                · go_simp
                go_big_quiet_on
                simp only [Act.put, List.setIfInBounds_toArray, List.set_cons_zero, List.set_cons_succ]
                go_big_quiet_want
                refine ⟨.pointer (some ⟨g5, o5 + j * 2, none⟩), fun W hW => ?_, ?_⟩
                · go_simp
                go_big_quiet_on
                simp only [Act.put, List.setIfInBounds_toArray, List.set_cons_zero, List.set_cons_succ]
                go_big_quiet_want
                refine ⟨.string ⟨un.toArray⟩, fun W hW => ?_, ?_⟩
                · obtain ⟨z5, z6⟩ := XS.out W (bel0 hSj hW)
                  go_simp
                go_big_quiet_on
                simp only [Act.put, List.setIfInBounds_toArray, List.set_cons_zero, List.set_cons_succ]
                go_big_quiet_want
                go_big_quiet_op
                go_big_quiet_on
                go_big_quiet_want
                go_big_quiet_op
                go_big_quiet_on
                go_big_quiet_want
                refine ⟨.pointer (some ⟨gF, oF + k * 2, none⟩), fun W hW => ?_, ?_⟩
                · go_simp
                go_big_quiet_on
                simp only [Act.put, List.setIfInBounds_toArray, List.set_cons_zero, List.set_cons_succ]
                go_big_quiet_want
                refine ⟨.pointer (some ⟨gF, oF + k * 2, none⟩), fun W hW => ?_, ?_⟩
                · go_simp
                go_big_quiet_on
                simp only [Act.put, List.setIfInBounds_toArray, List.set_cons_zero, List.set_cons_succ]
                go_big_quiet_want
                refine ⟨.string ⟨un.toArray⟩, fun W hW => ?_, ?_⟩
                · have z7 := XF.out W (bel0 hFj hW)
                  go_simp
                go_big_quiet_on
                simp only [Act.put, List.setIfInBounds_toArray, List.set_cons_zero, List.set_cons_succ]
                go_big_quiet_want
                refine ⟨.bool true, fun W hW => ?_, ?_⟩
                · go_simp
                go_big_quiet_on
                simp only [Act.put, List.setIfInBounds_toArray, List.set_cons_zero, List.set_cons_succ]
                refine wpQuiet_nil ?_
                intro W hW
                have z3 := (XS.out W (bel0 hSj hW)).2
                go_wp2_with fail
                go_roundw
                case rel => exact ⟨j + 1, by go_num, by omega, by rw [HGT.out]; rfl, bel0 hBj hW⟩
                case measure => simp [intOf]; omega
              · rw [if_neg hux] at hgt
                have HGT : Hid (gvN (S.take (j + 1)) x = gvN (S.take j) x) := hgt
                have hne : (un == x) = false := beq_eq_false_iff_ne.2 hux
                clear hgt hu
                go_wp2_with fail
                refine quiet_lit3 (C := fun W => Below wr.heap.size wr W) (by kernel_rfl) (by kernel_rfl) (show Below _ _ _ from (Below.refl _ _).drew) ?_
                go_big_quiet_want
                go_big_quiet_op
                go_big_quiet_on
                go_big_quiet_want
                go_big_quiet_op
                go_big_quiet_on
                go_big_quiet_want
                refine ⟨.pointer (some ⟨g5, o5 + j * 2, none⟩), fun W hW => ?_, ?_⟩
                · go_simp
                go_big_quiet_on
                simp only [Act.put, List.setIfInBounds_toArray, List.set_cons_zero, List.set_cons_succ]
                go_big_quiet_want
                refine ⟨.pointer (some ⟨g5, o5 + j * 2, none⟩), fun W hW => ?_, ?_⟩
                · go_simp
                go_big_quiet_on
                simp only [Act.put, List.setIfInBounds_toArray, List.set_cons_zero, List.set_cons_succ]
                go_big_quiet_want
                refine ⟨.string ⟨un.toArray⟩, fun W hW => ?_, ?_⟩
                · obtain ⟨z5, z6⟩ := XS.out W (bel0 hSj hW)
                  go_simp
                go_big_quiet_on
                simp only [Act.put, List.setIfInBounds_toArray, List.set_cons_zero, List.set_cons_succ]
                go_big_quiet_want
                go_big_quiet_op
                go_big_quiet_on
                go_big_quiet_want
                go_big_quiet_op
                go_big_quiet_on
                go_big_quiet_want
                refine ⟨.pointer (some ⟨gF, oF + k * 2, none⟩), fun W hW => ?_, ?_⟩
                · go_simp
                go_big_quiet_on
                simp only [Act.put, List.setIfInBounds_toArray, List.set_cons_zero, List.set_cons_succ]
                go_big_quiet_want
                refine ⟨.pointer (some ⟨gF, oF + k * 2, none⟩), fun W hW => ?_, ?_⟩
                · go_simp
                go_big_quiet_on
                simp only [Act.put, List.setIfInBounds_toArray, List.set_cons_zero, List.set_cons_succ]
                go_big_quiet_want
                refine ⟨.string ⟨x.toArray⟩, fun W hW => ?_, ?_⟩
                · have z7 := XF.out W (bel0 hFj hW)
                  go_simp
                go_big_quiet_on
                simp only [Act.put, List.setIfInBounds_toArray, List.set_cons_zero, List.set_cons_succ]
                go_big_quiet_want
                refine ⟨.bool false, fun W hW => ?_, ?_⟩
                · go_simp
                go_big_quiet_on
                simp only [Act.put, List.setIfInBounds_toArray, List.set_cons_zero, List.set_cons_succ]
                refine wpQuiet_nil ?_
                intro W hW
                go_wp2_with fail
                go_roundw
                case rel => exact ⟨j + 1, by go_num, by omega, by rw [HGT.out], bel0 hBj hW⟩
                case measure => simp [intOf]; omega
            · have y1 : ¬ (j : Int) < (S.length : Int) := by omega
              rw [List.take_of_length_le (by omega)]
              have z7 := X7.out _ hBj
              obtain ⟨q, hq⟩ : ∃ q, wantV d (gvN S x) = q := ⟨_, rfl⟩
              rw [hq] at z7 ⊢
              clear hq
              go_wp2_with fail
              go_roundw
              case rel => exact ⟨k + 1, by go_num, by omega, hBj⟩
              case measure => simp [intOf]; omega
        · have t1 : ¬ (k : Int) < (L.length : Int) := by omega
          go_wp2_with fail
          go_ret
          exact ⟨rfl, bel0 hB7 hBk⟩
end Go.Proofs.YtnobpeghofoniaaGreatDoor

import Derived.Test.YtodhcnjkiollaaaGreatDoorZ38
namespace Go.Proofs.YtodhcnjkiollaaaGreatDoor
open Go.RowKit Go.Shelf
theorem own_capX {W : World} {B n c e sz : Nat} {o : Option Addr} {xs : List Value} (h : W.ownsRow B e sz (.slice o n c) n xs) : n ≤ c := by
  rcases h.2 with ⟨h', hn⟩ | ⟨g, cap, cur, h', _, _, hnc, _⟩
  · injection h' with _ h2 h3
    omega
  · injection h' with _ _ h3
    omega
theorem nm_len {x : List UInt8} (h : nmB x = true) : x.length ≤ 24 := by
  unfold nmB nameB at h
  simp only [Bool.and_eq_true, decide_eq_true_eq] at h
  exact h.1.2.1
set_option maxRecDepth 100000 in
set_option maxHeartbeats 8000000 in
theorem fieldBack_walk (ws : List Int) (m1 : Nat) (ad1 : Option Addr) (cap1 : Nat) (vs : List Int) (m2 : Nat) (ad2 : Option Addr) (cap2 : Nat) (h : ByteArray) (w : World) (hw : ws.length = m1) (hwb : m1 * 8 ≤ 140737488355328) (hwc : IRV w ad1 ws) (hv : vs.length = m2) (hvb : m2 * 8 ≤ 140737488355328) (hvc : IRV w ad2 vs) (hlim : h.size ≤ 281474976710656) (hv1 : SH w) (hv4 : SG w) (hv5 : VW w) :
    Calls Tryz.prog 3 #[.slice ad1 m1 cap1, .slice ad2 m2 cap2, .string h] w fun e w' => e = .returned (.bool true) ∧ Below w.heap.size w w' := by
  obtain ⟨s, rfl⟩ : ∃ s : List UInt8, h = ⟨s.toArray⟩ := ⟨h.data.toList, by simp⟩
  have hsl : s.length ≤ 281474976710656 := by simpa [ByteArray.size] using hlim
  obtain ⟨i0, hi, hz0, hz1, hz2⟩ := info_parts info_int
  have HLAY : Hid (Calls Tryz.prog 7 #[.slice ad1 m1 cap1] w fun e w' => ∃ v, e = .returned v ∧ w'.ownsRow w.heap.size 27 2 v (lyL ws).length (fels (lyL ws)) ∧ Below w.heap.size w w') := by
    unfold Hid
    rw [← hw]
    exact layout_any ws ad1 cap1 w (by omega) hwc
  have hck := ly_chk ws
  have hl8 := ly_len ws
  have hxs : ∀ f ∈ lyL ws, f.1.length ≤ 281474976710656 := fun f hf => by have := nm_len (ly_fld hf).2; omega
  obtain ⟨L, hLL⟩ : ∃ L, lyL ws = L := ⟨_, rfl⟩
  rw [hLL] at hck hl8 hxs HLAY
  have h0 : (chkM L).1 = 0 := by rw [hck]
  obtain ⟨k1, k2, k3, k4⟩ := chk_ok h0
  have hb0 : ∀ f ∈ L, 0 ≤ f.2 ∧ f.2 ≤ 32 := fun f hf => by have := k3 f hf; omega
  obtain ⟨n, hn⟩ : ∃ n : Nat, sumB L = (n : Int) := ⟨(sumB L).toNat, by have := (sumB_bound L hb0).1; omega⟩
  have hVl := vlF_len L 0 vs
  have hVr := vlF_in L vs
  have HVA : Hid (∀ (k : Nat) (f : IFld), L[k]? = some f → (vlF 0 L vs)[k]? = some ((if k < m2 then vs.getD k 0 else (k : Int)) % ((2 ^ f.2.toNat : Nat) : Int))) := fun k f hf => by
    have := vlF_at L 0 k vs f hf
    rw [Nat.zero_add, hv] at this
    exact this
  obtain ⟨V, hVV⟩ : ∃ V, vlF 0 L vs = V := ⟨_, rfl⟩
  rw [hVV] at hVl hVr
  simp only [hVV] at HVA
  obtain ⟨u1, u2⟩ := un_pack hck hVl hVr
  obtain ⟨u3, u4, u5⟩ := pack_un (g := hdG n s) hck (by rw [hdG_len, hn]; rfl) (hdG_01 n s)
  obtain ⟨D, hD⟩ : ∃ D, catD L V = D := ⟨_, rfl⟩
  obtain ⟨G, hG⟩ : ∃ G, hdG n s = G := ⟨_, rfl⟩
  obtain ⟨U, hU⟩ : ∃ U, uvL L (hdG n s) = U := ⟨_, rfl⟩
  rw [hD] at u1 u2
  rw [hG] at u3 u4 u5 hU
  rw [hU] at u3 u4 u5
  have HV : Hid (SH w ∧ SG w ∧ VW w) := ⟨hv1, hv4, hv5⟩
  have HPK1 : Hid (∀ (W : World) (o o2 : Option Addr) (c c2 : Nat), Below w.heap.size w W → L.length ≤ c → IRF W o L → IRV W o2 V → Calls Tryz.prog 9 #[.slice o L.length c, .slice o2 L.length c2] W fun e w' => e = .returned (.tuple #[.string ⟨D.toArray⟩, .int .i64 0]) ∧ Below W.heap.size W w') := fun W o o2 c c2 hW hc i1 i2 => by
    obtain ⟨g1, g2, g3⟩ := HV.out
    have := pack_any L o c V o2 c2 W (by omega) hc hxs i1 i2 (g1.below hW) (g2.below hW) (g3.below hW)
    rw [u1, hVl] at this
    exact this
  have HPK2 : Hid (∀ (W : World) (o o2 : Option Addr) (c c2 : Nat), Below w.heap.size w W → L.length ≤ c → IRF W o L → IRV W o2 U → Calls Tryz.prog 9 #[.slice o L.length c, .slice o2 L.length c2] W fun e w' => e = .returned (.tuple #[.string ⟨G.toArray⟩, .int .i64 0]) ∧ Below W.heap.size W w') := fun W o o2 c c2 hW hc i1 i2 => by
    obtain ⟨g1, g2, g3⟩ := HV.out
    have := pack_any L o c U o2 c2 W (by omega) hc hxs i1 i2 (g1.below hW) (g2.below hW) (g3.below hW)
    rw [u5, u4] at this
    exact this
  have HUN1 : Hid (∀ (W : World) (o : Option Addr) (c : Nat), Below w.heap.size w W → L.length ≤ c → IRF W o L → Calls Tryz.prog 11 #[.slice o L.length c, .string ⟨D.toArray⟩] W fun e w' => unR W (V, 0) e w') := fun W o c hW hc i1 => by
    obtain ⟨g1, g2, g3⟩ := HV.out
    have := unpack_any L o c D W (by omega) hc hxs i1 (g1.below hW) (g2.below hW) (g3.below hW)
    rw [u2] at this
    exact this
  have HUN2 : Hid (∀ (W : World) (o : Option Addr) (c : Nat), Below w.heap.size w W → L.length ≤ c → IRF W o L → Calls Tryz.prog 11 #[.slice o L.length c, .string ⟨G.toArray⟩] W fun e w' => unR W (U, 0) e w') := fun W o c hW hc i1 => by
    obtain ⟨g1, g2, g3⟩ := HV.out
    have := unpack_any L o c G W (by omega) hc hxs i1 (g1.below hW) (g2.below hW) (g3.below hW)
    rw [u3] at this
    exact this
  have HHD : Hid (∀ (W : World) (o : Option Addr) (c : Nat), IRF W o L → Calls Tryz.prog 12 #[.slice o L.length c, .string ⟨s.toArray⟩] W fun e w' => e = .returned (.string ⟨G.toArray⟩) ∧ Below W.heap.size W w') := fun W o c i1 => by
    have := header_any L o c s n W (by omega) k3 hn i1 hsl
    rw [hG] at this
    exact this
  have HAL : Hid (∀ (W : World) (o1 o2 : Option Addr) (c1 c2 : Nat), IRV W o1 V → IRV W o2 V → Calls Tryz.prog 13 #[.slice o1 L.length c1, .slice o2 L.length c2] W fun e w' => e = .returned (.bool true) ∧ Below W.heap.size W w') := fun W o1 o2 c1 c2 i1 i2 => by
    have := alike_any V o1 o2 c1 c2 W (by omega) i1 i2
    rw [hVl] at this
    exact this
  have HRV : Hid (∀ W : World, Below w.heap.size w W → IRV W ad2 vs) := fun W hW => hvc.later hW
  have HVL : Hid (V.length = L.length) := hVl
  have HUL : Hid (U.length = L.length) := u4
  have HV2 : Hid (vs.length = m2) := hv
  have HK3 : Hid (∀ f ∈ L, 1 ≤ f.2 ∧ f.2 ≤ 32) := k3
  have yG : (G == G) = true := beq_self_eq_true G
  clear hw hwc hv hvc hv1 hv4 hv5 hck hxs hLL h0 k3 k4 hb0 hn hVl hVr hVV u1 u2 u3 u4 u5 hD hG hU hlim
  go_enter Tryz.func3, Tryz.ntmps3
  go_wp2_with fail
  refine HLAY.out.mono ?_
  rintro e W1 ⟨v1, rfl, hown1, hb1⟩
  obtain ⟨pF, cF, rfl⟩ := shapeP hown1
  have hcF := own_capX hown1
  have HOF : Hid (∀ W : World, Below W1.heap.size W1 W → IRF W pF L) := fun W hW => (IRF_own hown1 rfl).later hW
  clear hown1 HLAY
  go_wp2_with fail
  go_loopw [8, 9] (fun v vk wr => ∃ k : Nat, vk = .int .i64 k ∧ k ≤ L.length ∧ wr.ownsRow W1.heap.size 3 1 v k (ivs (V.take k)) ∧ Below W1.heap.size W1 wr) (fun _ vk _ => L.length - (intOf vk).toNat)
  case atStart => exact ⟨0, rfl, Nat.zero_le _, World.ownsRow_nil _ _ _ _, Below.refl _ _⟩
  case round =>
    obtain ⟨k, rfl, hk, hown, hB⟩ := hrel
    have hBw := bel0 hb1 hB
    have hBs := hB.size
    by_cases hlt : k < L.length
    · have j1 : (k : Int) < (L.length : Int) := by omega
      have j0 : (0 : Int) ≤ (k : Int) := by omega
      obtain ⟨f, hf⟩ : ∃ f, L[k]? = some f := ⟨_, List.getElem?_eq_getElem hlt⟩
      obtain ⟨g, o0, rfl, p0, p1⟩ := (HOF.out wr hB) wr (Below.refl _ _) k f hf
      have hbits := HK3.out f (List.mem_of_getElem? hf)
      have hVk := HVA.out k f hf
      obtain ⟨x, bi⟩ := f
      obtain ⟨b, rfl⟩ : ∃ b : Nat, bi = (b : Int) := ⟨bi.toNat, by simp only at hbits; omega⟩
      simp only [Int.toNat_natCast] at p0 p1 hbits hVk
      have hp2 : 2 ^ b ≤ 2 ^ 32 := Nat.pow_le_pow_right (by decide) (by omega)
      have hp0 : 0 < 2 ^ b := Nat.pow_pos (by decide)
      have e1 : wrap64 ((2 : Int) ^ b) = ((2 ^ b : Nat) : Int) := by rw [pow_cast]; exact w64 (by omega) (by omega)
      obtain ⟨P, hP⟩ : ∃ P : Nat, 2 ^ b = P := ⟨_, rfl⟩
      rw [hP] at e1 hVk hp0 hp2
      have hPa : (0 : Int) < (P : Int) := Int.natCast_pos.2 hp0
      have hPb : (P : Int) ≤ 4294967296 := Int.ofNat_le.2 hp2
      have s0 : (0 : Int) ≤ (b : Int) := by omega
      have s1 : (b : Int) < 64 := by omega
      obtain ⟨pv, cv, rfl⟩ := shapeP hown
      by_cases hkm : k < m2
      · have j2 : (k : Int) < (m2 : Int) := by omega
        obtain ⟨y, hy⟩ : ∃ y, vs[k]? = some y := ⟨_, List.getElem?_eq_getElem (by rw [HV2.out]; exact hkm)⟩
        obtain ⟨g2, q2, rfl, r0⟩ := (HRV.out wr hBw) wr (Below.refl _ _) k y hy
        have hgd : vs.getD k 0 = y := by simp [List.getD, hy]
        rw [if_pos hkm, hgd] at hVk
        obtain ⟨r, hr⟩ : ∃ r, y % (P : Int) = r := ⟨_, rfl⟩
        rw [hr] at hVk
        have HN : ∀ W : World, Calls Tryz.prog 8 #[.int .i64 y, .int .i64 (P : Int)] W fun e w' => e = .returned (.int .i64 r) ∧ w' = W := fun W => by
          rw [← hr]
          exact near_any y (P : Int) W hPa hPb
        have HTK : Hid (ivs (V.take (k + 1)) = ivs (V.take k) ++ [.int .i64 r]) := by unfold Hid ivs; rw [List.take_add_one, hVk]; simp
        clear hf hy hgd hVk hr hP
        go_wp2_with fail
        refine (HN _).mono ?_
        rintro e W3 ⟨rfl, rfl⟩
        go_wp2_with (at_builtin; refine wpList_append_own _ rfl _ _ 22 rfl W1.heap.size 3 i0 _ 1 8 Tryz.underlying22 hi hz0 hz1 hz2 rfl (by decide) _ _ _ rfl (hown.alloc _) ⟨_, 0, none⟩ 1 1 [.int .i64 r] rfl rfl (World.news_of_block (cs := #[.int .i64 r]) (t := 3) (fr := (0, 0)) (alloc_get _ _)) (by simp [Value.oneCell']) (by unfold maxLen; omega) (by omega) (by simp; omega) ?_; intro v5 w5 oB hg5 _; have hB5 := (hB.alloc hBs _).grown hg5 (by simp; omega) (fun k e => (hown.lt k e).1))
        go_roundw
        case rel => exact ⟨k + 1, by go_num, by omega, by rw [HTK.out]; exact oB, hB5⟩
        case measure => simp [intOf]; omega
      · have j2 : ¬ (k : Int) < (m2 : Int) := by omega
        rw [if_neg hkm] at hVk
        obtain ⟨r, hr⟩ : ∃ r, (k : Int) % (P : Int) = r := ⟨_, rfl⟩
        rw [hr] at hVk
        have HN : ∀ W : World, Calls Tryz.prog 8 #[.int .i64 (k : Int), .int .i64 (P : Int)] W fun e w' => e = .returned (.int .i64 r) ∧ w' = W := fun W => by
          rw [← hr]
          exact near_any (k : Int) (P : Int) W hPa hPb
        have HTK : Hid (ivs (V.take (k + 1)) = ivs (V.take k) ++ [.int .i64 r]) := by unfold Hid ivs; rw [List.take_add_one, hVk]; simp
        clear hf hVk hr hP
        go_wp2_with fail
        refine (HN _).mono ?_
        rintro e W3 ⟨rfl, rfl⟩
        go_wp2_with (at_builtin; refine wpList_append_own _ rfl _ _ 22 rfl W1.heap.size 3 i0 _ 1 8 Tryz.underlying22 hi hz0 hz1 hz2 rfl (by decide) _ _ _ rfl (hown.alloc _) ⟨_, 0, none⟩ 1 1 [.int .i64 r] rfl rfl (World.news_of_block (cs := #[.int .i64 r]) (t := 3) (fr := (0, 0)) (alloc_get _ _)) (by simp [Value.oneCell']) (by unfold maxLen; omega) (by omega) (by simp; omega) ?_; intro v5 w5 oB hg5 _; have hB5 := (hB.alloc hBs _).grown hg5 (by simp; omega) (fun k e => (hown.lt k e).1))
        go_roundw
        case rel => exact ⟨k + 1, by go_num, by omega, by rw [HTK.out]; exact oB, hB5⟩
        case measure => simp [intOf]; omega
    · have j1 : ¬ (k : Int) < (L.length : Int) := by omega
      obtain rfl : k = L.length := by omega
      rw [List.take_of_length_le (by rw [HVL.out]; exact Nat.le_refl _)] at hown
      obtain ⟨pv, cv, rfl⟩ := shapeP hown
      have HOV : Hid (∀ W : World, Below wr.heap.size wr W → IRV W pv V) := fun W hW => (IRV_own hown HVL.out).later hW
      clear hown
      go_wp2_with fail
      refine (HPK1.out _ pF pv cF cv hBw hcF (HOF.out _ hB) (HOV.out _ (Below.refl _ _))).mono ?_
      rintro e W3 ⟨rfl, hb3⟩
      have hB3 := bel0 hBw hb3
      have hF3 := bel0 hB hb3
      go_wp2_with fail
      refine (num_any 0 _).mono ?_
      rintro e W4 ⟨rfl, rfl⟩
      go_wp2_with fail
      refine (HUN1.out _ pF cF hB3 hcF (HOF.out _ hF3)).mono ?_
      rintro e W5 ⟨v5, rfl, hown5, hb5⟩
      simp only [HVL.out] at hown5
      obtain ⟨p5, c5, rfl⟩ := shapeP hown5
      have HO5 : Hid (∀ W : World, Below W5.heap.size W5 W → IRV W p5 V) := fun W hW => (IRV_own hown5 HVL.out).later hW
      have hB5 := bel0 hB3 hb5
      have hF5 := bel0 hF3 hb5
      have hV5 := bel0 hb3 hb5
      clear hown5
      go_wp2_with fail
      refine (HHD.out _ pF cF (HOF.out _ hF5)).mono ?_
      rintro e W6 ⟨rfl, hb6⟩
      have hB6 := bel0 hB5 hb6
      have hF6 := bel0 hF5 hb6
      have hV6 := bel0 hV5 hb6
      go_wp2_with fail
      refine (HUN2.out _ pF cF hB6 hcF (HOF.out _ hF6)).mono ?_
      rintro e W7 ⟨v7, rfl, hown7, hb7⟩
      simp only [HUL.out] at hown7
      obtain ⟨p7, c7, rfl⟩ := shapeP hown7
      have HO7 : Hid (∀ W : World, Below W7.heap.size W7 W → IRV W p7 U) := fun W hW => (IRV_own hown7 HUL.out).later hW
      have hB7 := bel0 hB6 hb7
      have hF7 := bel0 hF6 hb7
      have hV7 := bel0 hV6 hb7
      have h57 := bel0 hb6 hb7
      clear hown7
      go_wp2_with fail
      refine (num_any 0 _).mono ?_
      rintro e W8 ⟨rfl, rfl⟩
      go_wp2_with fail
      refine (num_any 0 _).mono ?_
      rintro e W9 ⟨rfl, rfl⟩
      go_wp2_with fail
      refine (HAL.out _ p5 pv c5 cv (HO5.out _ h57) (HOV.out _ hV7)).mono ?_
      rintro e W10 ⟨rfl, hb10⟩
      have hB10 := bel0 hB7 hb10
      have hF10 := bel0 hF7 hb10
      go_wp2_with fail
      refine (HPK2.out _ pF p7 cF c7 hB10 hcF (HOF.out _ hF10) (HO7.out _ hb10)).mono ?_
      rintro e W11 ⟨rfl, hb11⟩
      go_wp2_with fail
      refine (num_any 0 _).mono ?_
      rintro e W12 ⟨rfl, rfl⟩
      go_wp2_with fail
      go_ret
      exact ⟨rfl, bel0 hB10 hb11⟩
end Go.Proofs.YtodhcnjkiollaaaGreatDoor

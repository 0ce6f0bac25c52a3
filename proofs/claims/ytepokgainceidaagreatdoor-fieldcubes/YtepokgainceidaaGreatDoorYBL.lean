import Derived.Test.YtepokgainceidaaGreatDoorYBK
import Derived.Test.YtepokgainceidaaGreatDoorYAU
import Derived.Test.YtepokgainceidaaGreatDoorYAV
namespace Go.Proofs.YtepokgainceidaaGreatDoor
open Go.RowKit Go.Shelf
theorem put_x {n p b : Nat} {D : List UInt8} (hD : D.length = b) (h : p + b ≤ n) : putL (List.replicate n 120) p D = List.replicate p 120 ++ D ++ List.replicate (n - p - b) 120 := by
  have e : List.replicate n (120 : UInt8) = List.replicate p 120 ++ (List.replicate b 120 ++ List.replicate (n - p - b) 120) := by
    rw [List.replicate_append_replicate, List.replicate_append_replicate]
    congr 1
    omega
  have := putL_mid D (List.replicate p 120) (List.replicate b 120) (List.replicate (n - p - b) 120) (by rw [List.length_replicate, hD])
  rw [List.length_replicate] at this
  rw [e, this, List.append_assoc]
set_option maxRecDepth 100000 in
set_option maxHeartbeats 4000000 in
theorem refCubes_any (L : List IFld) (o : Option Addr) (c : Nat) (t : TS) (w : World) (hL : L.length ≤ 281474976710656) (hx : ∀ f ∈ L, f.1.length ≤ 281474976710656) (hpl : t.pat.length ≤ 281474976710656) (hr : IRF w o L) :
    Calls Tryz.prog 8 #[.slice o L.length c, t.v] w fun e w' => cuR w (cbM L t) e w' := by
  have HC0 := fun (W : World) (hW : Below w.heap.size w W) => refCheck_any L o c W hL hx (hr.later hW)
  obtain ⟨R, hR⟩ : ∃ R, cbM L t = R := ⟨_, rfl⟩
  rw [hR]
  have hRR := hR
  unfold cbM at hRR
  have HAT0 := fun (b : Nat) (h1 : 1 ≤ b) (h2 : b ≤ 32) (h : TOK b t) (W : World) => refAt_any b t W h1 h2 h
  have HTS0 := fun (h12 : L.length ≤ 12) (hf : ∀ f ∈ L, 1 ≤ f.2 ∧ f.2 ≤ 32) (W : World) (hW : Below w.heap.size w W) => refTest_any L o c t W h12 hf hpl (hr.later hW)
  have hteM : teM L t = if idxF L t.f < 0 then 41 else fltM (L.getD (idxF L t.f).toNat ([], 0)).2.toNat t := rfl
  obtain ⟨TT, hTT⟩ : ∃ x, t = x := ⟨_, rfl⟩
  have hTv : t.v = TT.v := by rw [hTT]
  have hTf : t.f = TT.f := by rw [hTT]
  rw [hTv] at HAT0 HTS0 ⊢
  rw [hTf] at hRR hteM
  obtain ⟨f, op, form, lo, hi, len, pat⟩ := TT
  show Calls Tryz.prog 8 #[.slice o L.length c, .agg #[.string ⟨f.toArray⟩, .int .i64 op, .int .i64 form, .int .i64 lo, .int .i64 hi, .int .i64 len, .string ⟨pat.toArray⟩]] w _
  simp only at hRR hteM
  obtain ⟨O, hO⟩ : ∃ O : Obj, Obj.cells #[.string ⟨f.toArray⟩, .int .i64 op, .int .i64 form, .int .i64 lo, .int .i64 hi, .int .i64 len, .string ⟨pat.toArray⟩] 24 = O := ⟨_, rfl⟩
  have hB1 : Below w.heap.size w (w.alloc O) := (Below.refl _ _).alloc (Nat.le_refl _) _
  have hbx : (w.alloc O).heap[w.heap.size]? = some (.cells #[.string ⟨f.toArray⟩, .int .i64 op, .int .i64 form, .int .i64 lo, .int .i64 hi, .int .i64 len, .string ⟨pat.toArray⟩] 24) := by rw [hO]; exact alloc_get _ _
  have HX : Hid (∀ W : World, Below (w.alloc O).heap.size (w.alloc O) W → W.cell? ⟨w.heap.size, 0, none⟩ = some (.string ⟨f.toArray⟩) ∧ W.cell? ⟨w.heap.size, 1, none⟩ = some (.int .i64 op) ∧ W.cell? ⟨w.heap.size, 2, none⟩ = some (.int .i64 form) ∧ W.cell? ⟨w.heap.size, 3, none⟩ = some (.int .i64 lo) ∧ W.cell? ⟨w.heap.size, 4, none⟩ = some (.int .i64 hi) ∧ W.cell? ⟨w.heap.size, 5, none⟩ = some (.int .i64 len) ∧ W.cell? ⟨w.heap.size, 6, none⟩ = some (.string ⟨pat.toArray⟩)) := fun W hW => ⟨cell_of_row _ _ 0 _ _ _ (keepblk hW hbx), cell_of_row _ _ 1 _ _ _ (keepblk hW hbx), cell_of_row _ _ 2 _ _ _ (keepblk hW hbx), cell_of_row _ _ 3 _ _ _ (keepblk hW hbx), cell_of_row _ _ 4 _ _ _ (keepblk hW hbx), cell_of_row _ _ 5 _ _ _ (keepblk hW hbx), cell_of_row _ _ 6 _ _ _ (keepblk hW hbx)⟩
  obtain ⟨t0, t1, t2, t3, t4, t5, t6⟩ := HX.out _ (Below.refl _ _)
  clear hbx
  by_cases h0 : ¬ (chkM L).1 = 0
  · have hres : Hid (R = ([], (chkM L).1)) := by unfold Hid; rw [← hRR, if_pos h0]
    have HC : Hid (Calls Tryz.prog 32 #[.slice o L.length c] (w.alloc O) fun e w' => e = .returned (.tuple #[.int .i64 (chkM L).1, .int .i64 (chkM L).2]) ∧ Below (w.alloc O).heap.size (w.alloc O) w') := HC0 _ hB1
    obtain ⟨ce, hce⟩ : ∃ x, (chkM L).1 = x := ⟨_, rfl⟩
    rw [hce] at HC h0 hres
    have y1 : (ce != 0) = true := by simpa using h0
    clear hx hr hR hce hRR HC0 HAT0 HTS0 hTT hTv hTf HX hteM
    go_enter Tryz.func8, Tryz.ntmps8
    go_wp2_with fail
    try simp only [hO]
    refine HC.out.mono ?_
    rintro e W1 ⟨rfl, hb1⟩
    go_wp2_with fail
    refine bodyPost_ret (results_tmp2 rfl _ _ _) rfl ?_
    refine ⟨.slice none 0 0, ?_, ?_, bel0 hB1 hb1⟩
    · rw [hres.out]
      rfl
    · rw [hres.out]
      exact World.ownsRow_nil _ _ _ _
  replace h0 := Classical.not_not.1 h0
  rw [if_neg (fun h => h h0)] at hRR
  obtain ⟨k1, k2, k3, k4⟩ := chk_ok h0
  have hb0 : ∀ f ∈ L, 0 ≤ f.2 ∧ f.2 ≤ 32 := fun f hf => by have := k3 f hf; omega
  obtain ⟨n, hn⟩ : ∃ n : Nat, sumB L = (n : Int) := ⟨(sumB L).toNat, by have := (sumB_bound L hb0).1; omega⟩
  have hn256 : n ≤ 256 := by omega
  have HC : Hid (Calls Tryz.prog 32 #[.slice o L.length c] (w.alloc O) fun e w' => e = .returned (.tuple #[.int .i64 0, .int .i64 (chkM L).2]) ∧ Below (w.alloc O).heap.size (w.alloc O) w') := by
    have := HC0 _ hB1
    rw [h0] at this
    exact this
  have HTS1 := HTS0 (by omega) k3
  obtain ⟨te, hte⟩ : ∃ x, teM L t = x := ⟨_, rfl⟩
  simp only [hte] at HTS1
  rw [hte] at hteM
  have HTS : Hid (∀ (W : World), Below w.heap.size w W → Calls Tryz.prog 33 #[.slice o L.length c, .agg #[.string ⟨f.toArray⟩, .int .i64 op, .int .i64 form, .int .i64 lo, .int .i64 hi, .int .i64 len, .string ⟨pat.toArray⟩]] W fun e w' => e = .returned (.int .i64 te) ∧ Below W.heap.size W w') := HTS1
  by_cases ht0 : ¬ te = 0
  · have hres : Hid (R = ([], te)) := by
      unfold Hid
      rw [← hRR, hteM]
      by_cases hi : idxF L f < 0
      · rw [if_pos hi, if_pos hi]
      · rw [if_neg hi, if_neg hi]
        rw [if_neg hi] at hteM
        rw [if_pos (by rw [← hteM]; exact ht0)]
    have y1 : (te != 0) = true := by simpa using ht0
    clear hx hr hR hRR HC0 HAT0 HTS0 HTS1 hTT hTv hTf hteM h0 k3 k4 hb0 hn hte
    go_enter Tryz.func8, Tryz.ntmps8
    go_wp2_with fail
    try simp only [hO]
    refine HC.out.mono ?_
    rintro e W1 ⟨rfl, hb1⟩
    obtain ⟨x0, x1, x2, x3, x4, x5, x6⟩ := HX.out W1 hb1
    go_wp2_with fail
    refine (HTS.out _ (bel0 hB1 hb1)).mono ?_
    rintro e W2 ⟨rfl, hb2⟩
    go_wp2_with fail
    refine bodyPost_ret (results_tmp2 rfl _ _ _) rfl ?_
    refine ⟨.slice none 0 0, ?_, ?_, bel0 (bel0 hB1 hb1) hb2⟩
    · rw [hres.out]
      rfl
    · rw [hres.out]
      exact World.ownsRow_nil _ _ _ _
  replace ht0 := Classical.not_not.1 ht0
  subst ht0
  obtain ⟨ix, hix⟩ : ∃ x, idxF L f = x := ⟨_, rfl⟩
  rw [hix] at hRR hteM
  by_cases hneg : ix < 0
  · rw [if_pos hneg] at hteM
    cases hteM
  rw [if_neg hneg] at hRR hteM
  have HPL0 := fun (W : World) (hW : Below w.heap.size w W) => refPlace_any L o c f W (by omega) hb0 (hr.later hW)
  unfold plM at HPL0
  simp only [hix, if_neg hneg] at HPL0
  obtain ⟨k, rfl⟩ : ∃ k : Nat, ix = k := ⟨ix.toNat, by omega⟩
  obtain ⟨fk, hfk, -⟩ := idx_at hix
  have hgd : L.getD k ([], 0) = fk := by simp [List.getD, hfk]
  rw [Int.toNat_natCast, hgd] at hRR hteM
  have hkb := k3 fk (List.mem_of_getElem? hfk)
  obtain ⟨x, bi⟩ := fk
  obtain ⟨b, rfl⟩ : ∃ b : Nat, bi = (b : Int) := ⟨bi.toNat, by simp only at hkb; omega⟩
  simp only [Int.toNat_natCast] at hRR hkb hteM
  obtain ⟨p, hp⟩ : ∃ p : Nat, sumB (L.take k) = (p : Int) := ⟨(sumB (L.take k)).toNat, by have := (sumB_bound (L.take k) (fun f hf => hb0 f (List.mem_of_mem_take hf))).1; omega⟩
  have hpb : p + b ≤ n := by
    have h1 := sumB_take hfk
    have h2 := sumB_take_le hb0 (k + 1)
    rw [h1, hp, hn] at h2
    simp only at h2
    omega
  simp only [Int.toNat_natCast, hp] at HPL0
  have HPL : Hid (∀ (W : World), Below w.heap.size w W → Calls Tryz.prog 34 #[.slice o L.length c, .string ⟨f.toArray⟩] W fun e w' => e = .returned (.tuple #[.int .i64 (p : Int), .int .i64 (k : Int)]) ∧ Below W.heap.size W w') := HPL0
  have hkl : k < L.length := (List.getElem?_eq_some_iff.1 hfk).1
  obtain ⟨g, o0, rfl, -⟩ := hr w (Below.refl _ _) k _ hfk
  have XF : Hid (∀ W : World, Below w.heap.size w W → W.cell? ⟨g, o0 + k * 2 + 1, none⟩ = some (.int .i64 (b : Int))) := fun W hW => by
    obtain ⟨g3, q3, h1, -, h2⟩ := hr W hW k _ hfk
    injection h1 with h1
    injection h1 with h1 h4
    subst h1 h4
    exact h2
  have j0 : (0 : Int) ≤ (k : Int) := by omega
  have j1 : (k : Int) < (L.length : Int) := by omega
  have htok := flt_ok hteM.symm
  rw [if_neg (fun h => h hteM.symm), hp, hn, Int.toNat_natCast, Int.toNat_natCast] at hRR
  have HAT1 := HAT0 b (by omega) (by omega) htok
  have hpw := pie_w (by omega) htok
  have hpln := pie_len (by omega) htok
  obtain ⟨PI, hPI⟩ : ∃ x, pieM b t = x := ⟨_, rfl⟩
  rw [hPI] at hRR hpw hpln
  simp only [hPI] at HAT1
  have HAT : Hid (∀ (W : World), Calls Tryz.prog 36 #[.agg #[.string ⟨f.toArray⟩, .int .i64 op, .int .i64 form, .int .i64 lo, .int .i64 hi, .int .i64 len, .string ⟨pat.toArray⟩], .int .i64 (b : Int)] W fun e w' => slR W PI e w') := HAT1
  have HPW : Hid (∀ x ∈ PI, x.length = b) := hpw
  obtain ⟨Z, hZ⟩ : ∃ x, PI.map (putL (List.replicate n 120) p) = x := ⟨_, rfl⟩
  have hZl : Z.length = PI.length := by rw [← hZ, List.length_map]
  have HZ : Hid (∀ (i : Nat) (y : List UInt8), PI[i]? = some y → Z[i]? = some (List.replicate p 120 ++ y ++ List.replicate (n - p - b) 120)) := fun i y hy => by
    rw [← hZ, List.getElem?_map, hy, Option.map_some, put_x (hpw y (List.mem_of_getElem? hy)) hpb]
  rw [hZ] at hRR
  have hres : Hid (R = (Z, 0)) := hRR.symm
  have HWD : Hid (∀ W : World, Below w.heap.size w W → Calls Tryz.prog 35 #[.slice (some ⟨g, o0, none⟩) L.length c] W fun e w' => e = .returned (.int .i64 (n : Int)) ∧ Below W.heap.size W w') := fun W hW => by
    have := refWidth_any L (some ⟨g, o0, none⟩) c W (by omega) hb0 (hr.later hW)
    rw [hn] at this
    exact this
  have HXA0 := fun W => xs_any p (by omega) W
  have HXB0 := fun W => xs_any (n - p - b) (by omega) W
  obtain ⟨X1, hX1⟩ : ∃ D, List.replicate p (120 : UInt8) = D := ⟨_, rfl⟩
  obtain ⟨X2, hX2⟩ : ∃ D, List.replicate (n - p - b) (120 : UInt8) = D := ⟨_, rfl⟩
  have hX1l : X1.length = p := by rw [← hX1, List.length_replicate]
  have hX2l : X2.length = n - p - b := by rw [← hX2, List.length_replicate]
  simp only [hX1] at HXA0 HZ
  simp only [hX2] at HXB0 HZ
  have HXA : Hid (∀ W : World, Calls Tryz.prog 37 #[.int .i64 (p : Int)] W fun e w' => e = .returned (.string ⟨X1.toArray⟩) ∧ Below W.heap.size W w') := HXA0
  have HXB : Hid (∀ W : World, Calls Tryz.prog 37 #[.int .i64 ((n - p - b : Nat) : Int)] W fun e w' => e = .returned (.string ⟨X2.toArray⟩) ∧ Below W.heap.size W w') := HXB0
  have HLL : Hid (X1.length = p ∧ X2.length = n - p - b) := ⟨hX1l, hX2l⟩
  have s1 : IntKind.i64.wrap ((n : Int) - (p : Int)) = ((n - p : Nat) : Int) := by rw [IntKind.wrap_i64]; omega
  have s2 : IntKind.i64.wrap (((n - p : Nat) : Int) - (b : Int)) = ((n - p - b : Nat) : Int) := by rw [IntKind.wrap_i64]; omega
  obtain ⟨i0, hi0, hz0, hz1, hz2⟩ := info_parts info_str
  clear hx hr hR hRR HC0 HAT0 HTS0 HTS1 hTT hTv hTf h0 k3 k4 hb0 hn hix hfk hgd hp htok hpw hPI HAT1 hteM hte hneg HPL0 hZ hX1 hX2 hX1l hX2l HXA0 HXB0
  go_enter Tryz.func8, Tryz.ntmps8
  go_wp2_with fail
  try simp only [hO]
  refine HC.out.mono ?_
  rintro e W1 ⟨rfl, hb1⟩
  obtain ⟨x0, x1, x2, x3, x4, x5, x6⟩ := HX.out W1 hb1
  go_wp2_with fail
  refine (HTS.out _ (bel0 hB1 hb1)).mono ?_
  rintro e W2 ⟨rfl, hb2⟩
  have hX2' := bel0 hb1 hb2
  obtain ⟨y0, y1, y2, y3, y4, y5, y6⟩ := HX.out W2 hX2'
  go_wp2_with fail
  refine (HPL.out _ (bel0 hB1 hX2')).mono ?_
  rintro e W3 ⟨rfl, hb3⟩
  have hX3' := bel0 hX2' hb3
  have z9 := XF.out W3 (bel0 hB1 hX3')
  go_wp2_with fail
  refine (HWD.out _ (bel0 hB1 hX3')).mono ?_
  rintro e W4 ⟨rfl, hb4⟩
  have hX4' := bel0 hX3' hb4
  obtain ⟨s0', s1', s2', s3', s4', s5', s6'⟩ := HX.out W4 hX4'
  go_wp2_with fail
  refine (HAT.out _).mono ?_
  rintro e w5 ⟨v5, rfl, ho5, hb5⟩
  obtain ⟨p5, q5, rfl⟩ := shapeP ho5
  have hB5 := bel0 (bel0 hB1 hX4') hb5
  have HO5 : Hid (∀ W', Below w5.heap.size w5 W' → ∃ B, W'.ownsRow B 9 1 (.slice p5 PI.length q5) PI.length (stx PI)) := fun W' hW' => ⟨_, owns_below ho5 hW'⟩
  have hw5 := hB5.size
  clear ho5 hb5 hb1 hb2 hb3 hb4 hX2' hX3' hX4' HC HTS HPL HWD HAT HX XF
  go_wp2_with fail
  go_loopw [13, 14] (fun v vi wr => ∃ i : Nat, vi = .int .i64 i ∧ i ≤ PI.length ∧ wr.ownsRow w5.heap.size 9 1 v i (stx (Z.take i)) ∧ Below w5.heap.size w5 wr) (fun _ vi _ => PI.length - (intOf vi).toNat)
  case atStart => exact ⟨0, rfl, Nat.zero_le _, World.ownsRow_nil _ _ _ _, Below.refl _ _⟩
  case round =>
    obtain ⟨i, rfl, hi, hown, hB⟩ := hrel
    obtain ⟨pv, cv, rfl⟩ := shapeP hown
    by_cases hlt : i < PI.length
    · have l1 : (i : Int) < (PI.length : Int) := by omega
      have l0 : (0 : Int) ≤ (i : Int) := by omega
      obtain ⟨B5, hoc⟩ := HO5.out wr hB
      obtain ⟨g5, rfl⟩ := own_at hoc (by omega)
      obtain ⟨D, hD⟩ : ∃ D, PI[i]? = some D := ⟨_, List.getElem?_eq_getElem hlt⟩
      have hDl := HPW.out D (List.mem_of_getElem? hD)
      have XD : Hid (∀ W, Below wr.heap.size wr W → W.cell? ⟨g5, i, none⟩ = some (.string ⟨D.toArray⟩)) := fun W hW => by
        have e1 := stx_get PI i hlt
        rw [(List.getElem?_eq_some_iff.1 hD).2] at e1
        exact ((owns_below hoc hW).cellAt i (by omega)).trans e1
      have hZi := HZ.out i D hD
      have hll := HLL.out
      obtain ⟨Y, hY⟩ : ∃ Y, X1 ++ D ++ X2 = Y := ⟨_, rfl⟩
      rw [hY] at hZi
      have HCT : Hid (ByteArray.mk X1.toArray ++ ByteArray.mk D.toArray ++ ByteArray.mk X2.toArray = ⟨Y.toArray⟩) := by unfold Hid; rw [← hY]; exact ByteArray.ext (by simp)
      have HTK : Hid (stx (Z.take (i + 1)) = stx (Z.take i) ++ [.string ⟨Y.toArray⟩]) := by unfold Hid stx; rw [List.take_add_one, hZi, Option.toList_some, List.map_append]; rfl
      have hq1 : ¬ 9223372036854775807 < X1.length + D.length := by omega
      have hq2 : ¬ 9223372036854775807 < X1.length + D.length + X2.length := by omega
      have hx0 := XD.out _ (Below.refl _ _).drew
      have hx00 := XD.out _ (Below.refl _ _)
      have hownd : wr.drew.ownsRow w5.heap.size 9 1 (.slice pv i cv) i (stx (Z.take i)) := owns_below hown (Below.refl _ _).drew
      have hBd := hB.drew
      clear hoc hD hZi hY hDl hll
      go_wp2_with fail
      go_region_law ((first | (have chk := hown8; refine step_append_lies _ (by rfl) _ _ 25 (by rfl) w5.heap.size 9 i0 _ 1 16 Tryz.underlying25 hi0 hz0 hz1 hz2 rfl (by decide) _ i (stx (Z.take i)) (by rfl) (hown8.alloc _) ⟨w2.heap.size, 0, none⟩ 1 1 [.string (ByteArray.mk X1.toArray ++ ByteArray.mk D.toArray ++ ByteArray.mk X2.toArray)] (by rfl) rfl (World.news_of_block (cs := #[.string (ByteArray.mk X1.toArray ++ ByteArray.mk D.toArray ++ ByteArray.mk X2.toArray)]) (t := 9) (fr := (0, 0)) (heap_alloc_new _ _)) (by simp [Value.oneCell']) (by decide) (by unfold maxLen; omega) (by omega) (by simp; omega) _ rfl ?_; intro g9 c9 w9 oB hg9 _ _) | (have chk := hown7; go_simp; go_at_call 37; refine (HXB.out _).mono ?_; rintro e w2 ⟨rfl, hb2⟩; have hx2 := XD.out w2 (bel0 hbx1 hb2); have hown8 := owns_below hown7 hb2; have hB8 := bel0 hB7 hb2; have hBs8 := hB8.size) | (go_simp; go_at_call 37; refine (HXA.out _).mono ?_; rintro e w1 ⟨rfl, hb1⟩; have hbx1 := (by first | exact bel0 (Below.refl _ _).drew hb1 | exact hb1 : Below wr.heap.size wr w1); have hx1 := XD.out w1 hbx1; have hown7 := (by first | exact owns_below hownd hb1 | exact owns_below hown hb1 : w1.ownsRow w5.heap.size 9 1 (.slice pv i cv) i (stx (Z.take i))); have hB7 := (by first | exact bel0 hBd hb1 | exact bel0 hB hb1 : Below w5.heap.size w5 w1))))
      all_goals
        go_wp2_with fail
        go_roundw
        case rel => exact ⟨i + 1, by go_num, by omega, by rw [HTK.out, ← HCT.out]; exact oB, (by first | exact Below.grown ((hB8.alloc hBs8 _).drew) hg9 (by simp; omega) (fun k e => (hown8.lt k e).1) | exact Below.grown ((hB8.drew).alloc hBs8 _) hg9 (by simp; omega) (fun k e => (hown8.lt k e).1) | exact Below.grown (hB8.alloc hBs8 _) hg9 (by simp; omega) (fun k e => (hown8.lt k e).1))⟩
        case measure => simp [intOf]; omega
    · have l1 : ¬ (i : Int) < (PI.length : Int) := by omega
      obtain rfl : i = PI.length := by omega
      rw [List.take_of_length_le (by omega)] at hown
      have HO : Hid (wr.ownsRow w5.heap.size 9 1 (.slice pv PI.length cv) PI.length (stx Z)) := hown
      clear hown
      go_wp2_with fail
      refine bodyPost_ret (results_tmp2 rfl _ _ _) rfl ?_
      refine ⟨.slice pv PI.length cv, ?_, ?_, bel0 hB5 hB⟩
      · rw [hres.out]
        rfl
      · rw [hres.out]
        show wr.ownsRow _ _ _ _ Z.length _
        rw [hZl]
        exact Tn.own_base HO.out hw5
theorem covI_len2 {b : Nat} {lo hi : Int} (h0 : 0 ≤ lo) : (covI b lo hi).length ≤ (hi + 1 - lo).toNat := by
  unfold covI
  split
  · simp
  · unfold cov
    rw [List.length_map]
    have := grl_len hi.toNat (hi.toNat + 1 - lo.toNat) lo.toNat (Nat.le_refl _)
    omega
theorem pie_len2 {b : Nat} {t : TS} (hb : b ≤ 32) (h : TOK b t) : (pieM b t).length ≤ 4294967296 := by
  have hp0 : 0 < 2 ^ b := Nat.pow_pos (by decide)
  have hp : 2 ^ b ≤ 2 ^ 32 := Nat.pow_le_pow_right (by decide) hb
  obtain ⟨-, k2, k3, k4, k5, -, -, -, k8, -⟩ := h
  unfold pieM othM
  split
  · have := covI_len (b := b) (lo := 0) (hi := t.lo) hb (by omega) (by omega); omega
  · split
    · have := covI_len (b := b) (lo := 0) (hi := t.lo - 1) hb (by omega) (by omega); omega
    · split
      · have := covI_len (b := b) (lo := t.lo) (hi := ((2 ^ b - 1 : Nat) : Int)) hb (by omega) (by omega); omega
      · split
        · have := covI_len (b := b) (lo := t.lo + 1) (hi := ((2 ^ b - 1 : Nat) : Int)) hb (by omega) (by omega); omega
        · split
          · split
            · rename_i h3
              have h4 := k8 h3
              have h1 := covI_len2 (b := b) (lo := 0) (hi := t.lo - 1) (by omega)
              have h2 := covI_len2 (b := b) (lo := t.hi + 1) (hi := ((2 ^ b - 1 : Nat) : Int)) (by omega)
              rw [List.length_append]
              omega
            · have := splX_len b (oneM b t); omega
          · split
            · have := covI_len (b := b) (lo := t.lo) (hi := t.hi) hb (by omega) (by omega); omega
            · simp
theorem cbM_len (L : List IFld) (t : TS) : (cbM L t).1.length ≤ 4294967296 := by
  unfold cbM
  split
  · simp
  · rename_i h0
    split
    · simp
    · rename_i h1
      split
      · simp
      · rename_i h2
        have h0 : (chkM L).1 = 0 := Classical.not_not.1 h0
        have h2 := Classical.not_not.1 h2
        obtain ⟨k, hk⟩ : ∃ k : Nat, idxF L t.f = k := ⟨(idxF L t.f).toNat, by omega⟩
        obtain ⟨fk, hfk, -⟩ := idx_at hk
        have hgd : L.getD k ([], 0) = fk := by simp [List.getD, hfk]
        obtain ⟨-, -, k3, -⟩ := chk_ok h0
        have hkb := k3 fk (List.mem_of_getElem? hfk)
        rw [hk, Int.toNat_natCast, hgd] at h2 ⊢
        rw [List.length_map]
        exact pie_len2 (by omega) (flt_ok h2)
set_option maxRecDepth 100000 in
set_option maxHeartbeats 8000000 in
theorem fieldCubes_walk (L : List IFld) (n : Nat) (ad : Option Addr) (cap : Nat) (t : TS) (w : World) (hLn : L.length = n) (hcap : n ≤ cap) (hlb : n * 24 ≤ 140737488355328) (hstr : ∀ f ∈ L, f.1.length ≤ 281474976710656) (hcell : IRF w ad L) (hpl : t.pat.length ≤ 281474976710656) (hv1 : SH w) (hdb : DB w) (hv4 : SG w) (hv5 : VW w) (hu : US w) :
    Calls Tryz.prog 3 #[.slice ad n cap, t.v] w fun e w' => e = .returned (.bool true) ∧ Below w.heap.size w w' := by
  obtain ⟨r, hr⟩ : ∃ r, cbM L t = r := ⟨_, rfl⟩
  have hrl := cbM_len L t
  rw [hr] at hrl
  have HRC0 : ∀ W : World, Below w.heap.size w W → Calls Tryz.prog 8 #[.slice ad n cap, t.v] W fun e w' => cuR W r e w' := fun W hW => by
    rw [← hLn, ← hr]
    exact refCubes_any L ad cap t W (by omega) hstr hpl (hcell.later hW)
  have HCP : Hid (∀ W : World, Below w.heap.size w W → Calls Tryz.prog 9 #[.slice ad n cap] W fun e w' => ∃ v, e = .returned v ∧ w'.ownsRow W.heap.size 51 2 v n (fels L) ∧ Below W.heap.size W w') := fun W hW => by
    rw [← hLn]
    exact copyFields_any L ad cap W (by omega) (hcell.later hW)
  have HCK0 : ∀ W : World, Below w.heap.size w W → Calls Tryz.prog 10 #[.slice ad n cap, t.v] W fun e w' => cuR W r e w' := fun W hW => by
    rw [← hLn, ← hr]
    exact fcubes_any L ad cap t W (by omega) (by omega) hstr hpl (hcell.later hW) (hv1.below hW) (hv4.below hW) (hv5.below hW) (hu.below hW) (hdb.below hW)
  have HUN : Hid (∀ (W : World) (o2 : Option Addr) (c2 : Nat), IRF W ad L → IRF W o2 L → Calls Tryz.prog 13 #[.slice ad n cap, .slice o2 n c2] W fun e w' => e = .returned (.bool false) ∧ Below W.heap.size W w') := fun W o2 c2 i1 i2 => by
    rw [← hLn]
    exact unlike_any L ad o2 cap c2 W (by omega) i1 i2
  have HKN : Hid (∀ W : World, Below w.heap.size w W → Calls Tryz.prog 14 #[] W fun e w' => e = .returned (.bool true) ∧ Below W.heap.size W w') := fun W hW => known_any W (hdb.below hW)
  have HLN : Hid (L.length = n) := hLn
  have HR : Hid (∀ W : World, Below w.heap.size w W → IRF W ad L) := fun W hW => hcell.later hW
  obtain ⟨S, a0⟩ := r
  simp only at hrl
  have HSM : Hid (∀ (va vb : Value) (W : World) (B1 B2 : Nat), W.ownsRow B1 9 1 va S.length (stx S) → W.ownsRow B2 9 1 vb S.length (stx S) → Calls Tryz.prog 12 #[va, vb] W fun e w' => e = .returned (.bool true) ∧ Below W.heap.size W w') := fun va vb W B1 B2 h1 h2 => same_any S B1 B2 va vb W (by omega) h1 h2
  have y1 : (a0 == a0) = true := beq_self_eq_true a0
  obtain ⟨f, op, form, lo, hi, len, pat⟩ := t
  have HRC : Hid (∀ W : World, Below w.heap.size w W → Calls Tryz.prog 8 #[.slice ad n cap, .agg #[.string ⟨f.toArray⟩, .int .i64 op, .int .i64 form, .int .i64 lo, .int .i64 hi, .int .i64 len, .string ⟨pat.toArray⟩]] W fun e w' => cuR W (S, a0) e w') := HRC0
  have HCK : Hid (∀ W : World, Below w.heap.size w W → Calls Tryz.prog 10 #[.slice ad n cap, .agg #[.string ⟨f.toArray⟩, .int .i64 op, .int .i64 form, .int .i64 lo, .int .i64 hi, .int .i64 len, .string ⟨pat.toArray⟩]] W fun e w' => cuR W (S, a0) e w') := HCK0
  show Calls Tryz.prog 3 #[.slice ad n cap, .agg #[.string ⟨f.toArray⟩, .int .i64 op, .int .i64 form, .int .i64 lo, .int .i64 hi, .int .i64 len, .string ⟨pat.toArray⟩]] w _
  obtain ⟨O, hO⟩ : ∃ O : Obj, Obj.cells #[.string ⟨f.toArray⟩, .int .i64 op, .int .i64 form, .int .i64 lo, .int .i64 hi, .int .i64 len, .string ⟨pat.toArray⟩] 24 = O := ⟨_, rfl⟩
  have hB1 : Below w.heap.size w (w.alloc O) := (Below.refl _ _).alloc (Nat.le_refl _) _
  have hbx : (w.alloc O).heap[w.heap.size]? = some (.cells #[.string ⟨f.toArray⟩, .int .i64 op, .int .i64 form, .int .i64 lo, .int .i64 hi, .int .i64 len, .string ⟨pat.toArray⟩] 24) := by rw [hO]; exact alloc_get _ _
  have HX : Hid (∀ W : World, Below (w.alloc O).heap.size (w.alloc O) W → W.cell? ⟨w.heap.size, 0, none⟩ = some (.string ⟨f.toArray⟩) ∧ W.cell? ⟨w.heap.size, 1, none⟩ = some (.int .i64 op) ∧ W.cell? ⟨w.heap.size, 2, none⟩ = some (.int .i64 form) ∧ W.cell? ⟨w.heap.size, 3, none⟩ = some (.int .i64 lo) ∧ W.cell? ⟨w.heap.size, 4, none⟩ = some (.int .i64 hi) ∧ W.cell? ⟨w.heap.size, 5, none⟩ = some (.int .i64 len) ∧ W.cell? ⟨w.heap.size, 6, none⟩ = some (.string ⟨pat.toArray⟩)) := fun W hW => ⟨cell_of_row _ _ 0 _ _ _ (keepblk hW hbx), cell_of_row _ _ 1 _ _ _ (keepblk hW hbx), cell_of_row _ _ 2 _ _ _ (keepblk hW hbx), cell_of_row _ _ 3 _ _ _ (keepblk hW hbx), cell_of_row _ _ 4 _ _ _ (keepblk hW hbx), cell_of_row _ _ 5 _ _ _ (keepblk hW hbx), cell_of_row _ _ 6 _ _ _ (keepblk hW hbx)⟩
  obtain ⟨t0, t1, t2, t3, t4, t5, t6⟩ := HX.out _ (Below.refl _ _)
  clear hbx hr hLn hcell hstr hv1 hv4 hv5 hdb HRC0 HCK0 hrl
  go_enter Tryz.func3, Tryz.ntmps3
  go_wp2_with fail
  try simp only [hO]
  refine (HRC.out _ hB1).mono ?_
  rintro e W1 ⟨v1, rfl, hown1, hb1⟩
  simp only at hown1
  have hB1' := bel0 hB1 hb1
  obtain ⟨x0, x1, x2, x3, x4, x5, x6⟩ := HX.out W1 hb1
  go_wp2_with fail
  refine (HCP.out _ hB1').mono ?_
  rintro e W2 ⟨v, rfl, hown, hb2⟩
  have hB2 := bel0 hB1' hb2
  have hX2 := bel0 hb1 hb2
  obtain ⟨y0, y1', y2, y3, y4, y5, y6⟩ := HX.out W2 hX2
  obtain ⟨pv, cv, rfl⟩ := shapeP hown
  have HO : Hid (∀ W : World, Below W2.heap.size W2 W → IRF W pv L) := fun W hW => (IRF_own hown HLN.out).later hW
  clear hown
  go_wp2_with fail
  refine (HCK.out _ hB2).mono ?_
  rintro e W3 ⟨v3, rfl, hown3, hb3⟩
  simp only at hown3
  have hB3 := bel0 hB2 hb3
  have hown1' := owns_below hown1 (bel0 hb2 hb3)
  go_wp2_with fail
  refine (num_any a0 _).mono ?_
  rintro e W5 ⟨rfl, rfl⟩
  go_wp2_with fail
  refine (HSM.out v3 v1 _ _ _ hown3 hown1').mono ?_
  rintro e W6 ⟨rfl, hb6⟩
  have hB6 := bel0 hB3 hb6
  have hE6 := bel0 hb3 hb6
  go_wp2_with fail
  refine (HUN.out _ pv cv (HR.out _ hB6) (HO.out _ hE6)).mono ?_
  rintro e W7 ⟨rfl, hb7⟩
  have hB7 := bel0 hB6 hb7
  go_wp2_with fail
  refine (HKN.out _ hB7).mono ?_
  rintro e W8 ⟨rfl, hb8⟩
  go_wp2_with fail
  go_ret
  exact ⟨rfl, bel0 hB7 hb8⟩
end Go.Proofs.YtepokgainceidaaGreatDoor

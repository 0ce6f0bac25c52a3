import Derived.Test.YtccbfaembcefjaaGreatDoorXF1
import Derived.Maps.AppendAt
import Derived.BigQuiet
namespace Go.Proofs.YtccbfaembcefjaaGreatDoor
open Go.RowKit Go.Shelf
theorem app_keep {X w8 : World} {v : Value} {b : Nat} {o O : Obj} (hblk : X.heap[b]? = some o) (hne : v.ownBlock ≠ some b) (g8 : (X.alloc O).grownBy w8 v.ownBlock) : w8.heap[b]? = some o := (g8.block b (by have := lt_of_get3 hblk; simp; omega) (fun e => hne e.symm)).trans (allocblk3 hblk _)
theorem app_ne {X : World} {v v8 : Value} {b : Nat} {o : Obj} (hblk : X.heap[b]? = some o) (hne : v.ownBlock ≠ some b) (hob : v8.ownBlock = v.ownBlock ∨ v8.ownBlock = some (X.heap.size + 1)) : v8.ownBlock ≠ some b := by
  rcases hob with e | e
  · rw [e]; exact hne
  · rw [e]
    intro e2
    have e3 := Option.some.inj e2
    have := lt_of_get3 hblk
    omega
set_option maxRecDepth 100000 in
set_option maxHeartbeats 8000000 in
theorem dwithout_any (b : Int) (A : List (List UInt8 × List (List UInt8))) (uc : List UInt8) (uL : List (List UInt8)) (V1 : Value) (p2 : Option Addr) (n2 k2 : Nat) (w : World) (h1 : RSR w V1 A) (hn2 : uL.length = n2) (h2 : IRSt w p2 uL) (hs1 : szC A ≤ 128) (hs2 : n2 ≤ 128) (hg1 : gdC A) (hgc : good uc = true) (hgl : ∀ x ∈ uL, good x = true) :
    Calls Tryz.prog 82 #[.agg #[.int .i64 b, V1], .agg #[.string ⟨uc.toArray⟩, .slice p2 n2 k2]] w fun e w' => ∃ V, e = .returned (.tuple #[.agg #[.int .i64 (tkB b A uc uL), V], .int .i64 (tkE A uc uL)]) ∧ RSR w' V (tkT A uc uL) ∧ Below w.heap.size w w' := by
  obtain ⟨iT, hiT, hzT0, hzT1, hzT2⟩ := info_parts info_rtm
  have hl1 := szC_len A
  have hSZ := wt_sz A uc uL hs1 (by omega)
  obtain ⟨Z1, p1, k1, rfl, rfl, r1, t1⟩ := h1
  have HSZ : Hid (szC (topC (stl (wtN (Z1.map ZT.cont) uc uL))) ≤ 1000000) := hSZ
  have HFR : Hid (frmD (topC (stD (wtN (Z1.map ZT.cont) uc uL))) = ordT (topC (stl (wtN (Z1.map ZT.cont) uc uL)))) := frm_eq _
  have HM1 : Hid (tkE (Z1.map ZT.cont) uc uL = if 2048 < Z1.length * (1 + n2) then 3 else if szC (topC (stl (wtN (Z1.map ZT.cont) uc uL))) ≤ 128 then 0 else 3) := by unfold Hid tkE; rw [List.length_map, hn2]
  have HMB : Hid (tkB b (Z1.map ZT.cont) uc uL = if tkE (Z1.map ZT.cont) uc uL = 0 then b else 0) := rfl
  have HMT : Hid (tkT (Z1.map ZT.cont) uc uL = if tkE (Z1.map ZT.cont) uc uL = 0 then ordT (topC (stl (wtN (Z1.map ZT.cont) uc uL))) else []) := rfl
  rw [List.length_map] at hl1
  have HG1 : Hid (∀ z ∈ Z1, IRSt w z.q z.L ∧ z.L.length ≤ 128 ∧ good z.c = true ∧ ∀ x ∈ z.L, good x = true) := fun z hz => by
    have hm := szC_mem z.cont (List.mem_map_of_mem (f := ZT.cont) hz)
    have e : z.cont.2 = z.L := rfl
    rw [e] at hm
    exact ⟨t1 z hz, by omega, hg1 z.cont (List.mem_map_of_mem (f := ZT.cont) hz)⟩
  obtain ⟨n1, hn1⟩ : ∃ n, Z1.length = n := ⟨_, rfl⟩
  rw [hn1] at hl1 HM1 ⊢
  obtain ⟨je, hje⟩ : ∃ j, tkE (Z1.map ZT.cont) uc uL = j := ⟨_, rfl⟩
  obtain ⟨jb, hjb⟩ : ∃ j, tkB b (Z1.map ZT.cont) uc uL = j := ⟨_, rfl⟩
  obtain ⟨jt, hjt⟩ : ∃ j, tkT (Z1.map ZT.cont) uc uL = j := ⟨_, rfl⟩
  rw [hje] at HM1 HMB HMT
  rw [hjb] at HMB
  rw [hjt] at HMT
  rw [hjb, hje, hjt]
  obtain ⟨N, hN⟩ : ∃ N, n1 * (1 + n2) = N := ⟨_, rfl⟩
  rw [hN] at HM1
  have hNb : N ≤ 16512 := by
    have : n1 * (1 + n2) ≤ 128 * 129 := Nat.mul_le_mul (by omega) (by omega)
    omega
  have hmul : (n1 : Int) * (1 + (n2 : Int)) = (N : Int) := by rw [← hN]; simp
  obtain ⟨wA, hwA⟩ : ∃ wA, (((w.alloc (.cells #[.int .i64 b, .slice p1 n1 k1] 27 (0, 0))).alloc (.cells #[.string ⟨uc.toArray⟩, .slice p2 n2 k2] 71 (0, 0))).alloc (.cells #[.int .i64 0, .slice none 0 0] 27 (0, 0))) = wA := ⟨_, rfl⟩
  have hBA : Below w.heap.size w wA := by rw [← hwA]; exact belA (belA (belA (Below.refl _ _) _) _) _
  have d1 : wA.heap[w.heap.size]? = some (.cells #[.int .i64 b, .slice p1 n1 k1] 27 (0, 0)) := by rw [← hwA, Below.heap_alloc _ _ _ (by simp <;> omega)]; exact alw_0 _ _ _
  have d2 : wA.heap[w.heap.size + 1]? = some (.cells #[.string ⟨uc.toArray⟩, .slice p2 n2 k2] 71 (0, 0)) := by rw [← hwA, Below.heap_alloc _ _ _ (by simp <;> omega)]; exact alw_1 _ _ _
  have d3 : wA.heap[w.heap.size + 1 + 1]? = some (.cells #[.int .i64 0, .slice none 0 0] 27 (0, 0)) := by rw [← hwA]; have := alloc_get ((w.alloc (.cells #[.int .i64 b, .slice p1 n1 k1] 27 (0, 0))).alloc (.cells #[.string ⟨uc.toArray⟩, .slice p2 n2 k2] 71 (0, 0))) (.cells #[.int .i64 0, .slice none 0 0] 27 (0, 0)); simpa using this
  have HD : Hid (∀ W, Below wA.heap.size wA W → W.heap[w.heap.size]? = some (.cells #[.int .i64 b, .slice p1 n1 k1] 27 (0, 0)) ∧ W.heap[w.heap.size + 1]? = some (.cells #[.string ⟨uc.toArray⟩, .slice p2 n2 k2] 71 (0, 0)) ∧ W.heap[w.heap.size + 1 + 1]? = some (.cells #[.int .i64 0, .slice none 0 0] 27 (0, 0)) ∧ IRR W p1 Z1 ∧ IRSt W p2 uL ∧ Below w.heap.size w W) := fun W hW => ⟨keepblk3 hW d1, keepblk3 hW d2, keepblk3 hW d3, r1.later (bel0 hBA hW), h2.later (bel0 hBA hW), bel0 hBA hW⟩
  obtain ⟨hc1, -⟩ := cells_block d1
  obtain ⟨hc2, -⟩ := cells_block d2
  obtain ⟨hc3, hf3⟩ := cells_block d3
  have HN : Hid (Z1.length = n1 ∧ uL.length = n2) := ⟨hn1, hn2⟩
  have HGU : Hid (good uc = true ∧ ∀ x ∈ uL, good x = true) := ⟨hgc, hgl⟩
  have HBO : Hid (∀ (W : World) (V : Value), RSR W V (ordT (topC (stl (wtN (Z1.map ZT.cont) uc uL)))) → szC (topC (stl (wtN (Z1.map ZT.cont) uc uL))) ≤ 1000000 → Calls Tryz.prog 41 #[.agg #[.int .i64 b, V]] W fun e w' => ((128 < szC (topC (stl (wtN (Z1.map ZT.cont) uc uL))) ∧ e = .returned (.tuple #[.agg #[.int .i64 0, .slice none 0 0], .int .i64 3])) ∨ (¬ 128 < szC (topC (stl (wtN (Z1.map ZT.cont) uc uL))) ∧ e = .returned (.tuple #[.agg #[.int .i64 b, V], .int .i64 0]))) ∧ Below W.heap.size W w') := fun W V h hle => by
    have h' := dbound2 b V _ W h (by rw [szC_ord]; exact hle)
    rw [szC_ord] at h'
    exact h'
  have hb1 : n1 ≤ 128 := by omega
  have HP0 : Hid (((wA.setCell ⟨w.heap.size + 1 + 1, 0, none⟩ (.int .i64 0)).setCell ⟨w.heap.size + 1 + 1, 1, none⟩ (.slice none 0 0)).heap[w.heap.size + 1 + 1]? = some (.cells #[.int .i64 0, .slice none 0 0] 27 (0, 0)) ∧ Below w.heap.size w ((wA.setCell ⟨w.heap.size + 1 + 1, 0, none⟩ (.int .i64 0)).setCell ⟨w.heap.size + 1 + 1, 1, none⟩ (.slice none 0 0))) := ⟨set2_get _ _ d3, (hBA.setCell (by simp; omega) _).setCell (by simp; omega) _⟩
  clear hBA d1 d2 d3 r1 t1 hs1 hg1 hn1 hn2 hjb hje hjt hN hl1 h2 hSZ hgc hgl
  by_cases hbig : 2048 < N
  · have e1 : je = 3 := by rw [HM1.out, if_pos hbig]
    subst e1
    have e2 : jb = 0 := HMB.out
    subst e2
    have e3 : jt = [] := HMT.out
    subst e3
    have jg : (N : Int) > 2048 := by omega
    clear HM1 HMB HMT hbig
    go_enter Tryz.func82, Tryz.ntmps82
    go_wp2_with fail
    refine bodyPost_ret (v := .tuple #[.agg #[.int .i64 0, .slice none 0 0], .int .i64 3]) (res_rs2 _ _ (w.heap.size + 1 + 1) _ _ Tryz.results82 rfl HP0.out.1) rfl ?_
    exact ⟨_, rfl, RSR_nil _, HP0.out.2⟩
  · have jg : ¬ (N : Int) > 2048 := by omega
    have HM2 : Hid (je = if szC (topC (stl (wtN (Z1.map ZT.cont) uc uL))) ≤ 128 then 0 else 3) := by unfold Hid; rw [HM1.out, if_neg hbig]
    clear HM1 hbig HP0 hf3
    go_enter Tryz.func82, Tryz.ntmps82
    go_wp2_with fail
    have HS0 : Hid (DZ wA (.slice none 0 0) [] (stD (wtN ((Z1.take 0).map ZT.cont) uc uL)) wA) := by
      refine ⟨?_, World.ownsRow_nil _ _ _ _, (fun z hz => by cases hz), Below.refl _ _⟩
      simp [wtN, stD]
    clear hc1 hc2 hc3 hwA
    go_loopw [6, 7] (fun v6 v7 wr => ∃ (k : Nat) (Z : List ZT), v7 = .int .i64 (k : Int) ∧ k ≤ n1 ∧ Hid (DZ wA v6 Z (stD (wtN ((Z1.take k).map ZT.cont) uc uL)) wr)) (fun _ v7 _ => n1 - (intOf v7).toNat)
    case atStart => exact ⟨0, [], rfl, Nat.zero_le _, HS0⟩
    case round =>
      clear HS0
      obtain ⟨k, Z, rfl, hk, HDZ⟩ := hrel
      obtain ⟨gg1, gg2, -, iR1, iR2, hBw⟩ := HD.out wr HDZ.out.2.2.2
      have hc4 := (cells_block gg1).1
      have hc5 := (cells_block gg2).1
      by_cases hlt : k < n1
      · have j1 : (k : Int) < (n1 : Int) := by omega
        have j0 : (0 : Int) ≤ (k : Int) := by omega
        obtain ⟨za, hza⟩ : ∃ z, Z1[k]? = some z := ⟨_, List.getElem?_eq_getElem (by rw [HN.out.1]; exact hlt)⟩
        obtain ⟨ac, aq, ak, aL⟩ := za
        have hzA := HG1.out _ (List.mem_of_getElem? hza)
        have HZA : Hid (Z1[k]? = some ⟨ac, aq, ak, aL⟩ ∧ IRSt w aq aL ∧ aL.length ≤ 128 ∧ good ac = true ∧ ∀ x ∈ aL, good x = true) := ⟨hza, hzA⟩
        obtain ⟨na, hna⟩ : ∃ n, aL.length = n := ⟨_, rfl⟩
        have HNA : Hid (aL.length = na) := hna
        obtain ⟨ga, oa, e1, x0, x1⟩ := iR1 wr (Below.refl _ _) k _ hza
        subst e1
        simp only at x0 x1
        rw [hna] at x1
        have HBW : Hid (Below w.heap.size w wr) := hBw
        clear hza hzA hna iR1 iR2 hBw
        obtain ⟨wo, rfl⟩ : ∃ wo, wo = wr := ⟨wr, rfl⟩
        go_upto_region 8 with fail
        obtain ⟨wx, hwx⟩ : ∃ wx, wo.alloc (.cells #[.string ⟨ac.toArray⟩, .slice aq na ak] 71 (0, 0)) = wx := ⟨_, rfl⟩
        have HWX : Hid (Below wo.heap.size wo wx ∧ wx.heap[wo.heap.size]? = some (.cells #[.string ⟨ac.toArray⟩, .slice aq na ak] 71 (0, 0))) := by rw [← hwx]; exact ⟨belA (Below.refl _ _) _, alloc_get _ _⟩
        rw [hwx]
        have HK : Hid (∀ W, Below wx.heap.size wx W → (∀ j, W.cell? ⟨w.heap.size + 1, j, none⟩ = (#[.string ⟨uc.toArray⟩, .slice p2 n2 k2] : Array Value)[j]?) ∧ (∀ j, W.cell? ⟨wo.heap.size, j, none⟩ = (#[.string ⟨ac.toArray⟩, .slice aq na ak] : Array Value)[j]?)) := fun W hW => ⟨(cells_block (keepblk3 hW (keepblk3 HWX.out.1 gg2))).1, (cells_block (keepblk3 hW HWX.out.2)).1⟩
        have hNa : na ≤ 128 := by have := HZA.out.2.2.1; rw [HNA.out] at this; exact this
        have HBH : Hid (∀ (W : World) (g : Nat), Below wx.heap.size wx W → W.heap[g]? = some (.cells #[.string ⟨uc.toArray⟩] 9 (0, 0)) → Calls Tryz.prog 105 #[.slice aq na ak, .slice (some ⟨g, 0, none⟩) 1 1] W fun e w' => ∃ v, e = .returned v ∧ w'.ownsRow W.heap.size 9 1 v (na + 1) (stx (aL ++ [uc])) ∧ Below W.heap.size W w') := fun W g hW hg => dboth_any aL [uc] aq (some ⟨g, 0, none⟩) na 1 ak 1 W HNA.out rfl (by omega) (by omega) (HZA.out.2.1.later (bel0 HBW.out (bel0 HWX.out.1 hW))) (IRSt_blk hg)
        obtain ⟨nab, hnab⟩ : ∃ n, na + 1 = n := ⟨_, rfl⟩
        rw [hnab] at HBH
        have HAB : Hid ((aL ++ [uc]).length = nab ∧ nab ≤ 256 ∧ ∀ x ∈ aL ++ [uc], good x = true) := ⟨by rw [List.length_append, HNA.out, ← hnab]; rfl, by omega, fun x hx => by
          rcases List.mem_append.1 hx with hx | hx
          · exact HZA.out.2.2.2.2 x hx
          · obtain rfl := List.mem_singleton.1 hx
            exact HGU.out.1⟩
        have HTE : Hid (∀ (W : World) (p : Option Addr) (c : Nat), IRSt W p (aL ++ [uc]) → Calls Tryz.prog 52 #[.string ⟨ac.toArray⟩, .slice p nab c] W fun e w' => Below W.heap.size W w' ∧ ((setO ac (aL ++ [uc]) = none ∧ e = .returned (.tuple #[.agg #[.string ⟨#[]⟩, .slice none 0 0], .bool false])) ∨ ∃ R v, setO ac (aL ++ [uc]) = some R ∧ e = .returned (.tuple #[.agg #[.string ⟨ac.toArray⟩, v], .bool true]) ∧ w'.ownsRow W.heap.size 9 1 v R.length (stx (srtT R)))) := fun W p c hr => term_any ac (aL ++ [uc]) nab p c W HAB.out.1 (by have := HAB.out.2.1; omega) HZA.out.2.2.2.1 HAB.out.2.2 hr
        have HDX0 : Hid (DZ wA u6 Z (stD (wtN ((Z1.take k).map ZT.cont) uc uL)) wx) := HDZ.out.below HWX.out.1
        have hwo : wo.heap.size < wx.heap.size := lt_of_get3 HWX.out.2
        have hne0 : u6.ownBlock ≠ some wo.heap.size := fun e => by have := (HDZ.out.2.1.lt _ e).2; omega
        clear hwx hnab hc4 hc5 x0 x1 gg1 gg2
        cases hso : setO ac (aL ++ [uc]) with
        | none =>
          have HT2 : Hid (∀ (W : World) (p : Option Addr) (c : Nat), IRSt W p (aL ++ [uc]) → Calls Tryz.prog 52 #[.string ⟨ac.toArray⟩, .slice p nab c] W fun e w' => e = .returned (.tuple #[.agg #[.string ⟨#[]⟩, .slice none 0 0], .bool false]) ∧ Below W.heap.size W w') := fun W p c hr => (HTE.out W p c hr).mono (fun e w' h => ⟨(h.2.resolve_right (fun ⟨R, v, hR, _⟩ => by rw [hso] at hR; cases hR)).2, h.1⟩)
          have HST2 : Hid (stD (wtN ((Z1.take k).map ZT.cont) uc uL ++ ((ac, aL ++ [uc]) :: wtI (ac, aL) (uL.take 0))) = stD (wtN ((Z1.take k).map ZT.cont) uc uL)) := by
            unfold Hid
            rw [List.take_zero, show wtI (ac, aL) [] = [] from rfl, stD_app, stD_sing, hso]
            simp
          clear HTE hso
          go_cut [9, 10] (fun h e wc => ∃ (bt : Nat), h = .pointer (some ⟨bt, 0, none⟩) ∧ e = .bool false ∧ wx.heap.size ≤ bt ∧ Hid (wc.heap[bt]? = some (.cells #[.string ⟨#[]⟩, .slice none 0 0] 71 (0, 0)) ∧ Below wx.heap.size wx wc))
          case first =>
            go_region_held3 (fun W => (∀ j, W.cell? ⟨w.heap.size + 1, j, none⟩ = (#[.string ⟨uc.toArray⟩, .slice p2 n2 k2] : Array Value)[j]?) ∧ (∀ j, W.cell? ⟨wo.heap.size, j, none⟩ = (#[.string ⟨ac.toArray⟩, .slice aq na ak] : Array Value)[j]?)) (first | with_reducible exact HK.out _ (Below.refl _ _) | with_reducible exact HK.out _ (Below.refl _ _).drew | with_reducible exact HK.out _ (belA (Below.refl _ _) _) | with_reducible exact HK.out _ (belA (Below.refl _ _).drew _) | with_reducible exact HK.out _ (belA (belA (Below.refl _ _) _) _) | with_reducible exact HK.out _ (belA (belA (Below.refl _ _).drew _) _) | with_reducible exact HK.out _ hb7' | with_reducible exact HK.out _ (belA hb7' _) | with_reducible exact HK.out _ hb8' | with_reducible exact HK.out _ (belA hb8' _) | with_reducible exact HK.out _ ((hb8'.setCell hb7'.size _).setCell hb7'.size _) | with_reducible exact HK.out _ ((hb8'.setCell (Nat.le_refl _) _).setCell (Nat.le_refl _) _) | with_reducible exact HK.out _ ((hb8'.setCell (Nat.le_succ _) _).setCell (Nat.le_succ _) _)) (first | (go_at_call 105; refine (HBH.out _ _ (by first | exact belA (Below.refl _ _) _ | exact belA (Below.refl _ _).drew _ | exact belA (belA (Below.refl _ _) _) _ | exact belA (belA (Below.refl _ _).drew _) _) (by first | exact alloc_get _ _ | exact alw_1 _ _ _ | exact alw_0 _ _ _)).mono ?_; rintro e w7 ⟨v7, rfl, o7, hb7⟩; obtain ⟨pv7, cv7, rfl⟩ := shapeQ1 o7; have hb7' : Below wx.heap.size wx w7 := (by first | exact bel0 (belA (Below.refl _ _) _) hb7 | exact bel0 (belA (Below.refl _ _).drew _) hb7 | exact bel0 (belA (belA (Below.refl _ _) _) _) hb7 | exact bel0 (belA (belA (Below.refl _ _).drew _) _) hb7)) | (go_at_call 52; refine (HT2.out _ _ _ (by first | exact IRSt_own o7 HAB.out.1 | exact IRSt_own (o7.alloc _) HAB.out.1)).mono ?_; rintro e w8 ⟨rfl, hb8⟩; have hb8' : Below wx.heap.size wx w8 := (by first | exact bel0 hb7' hb8 | exact bel0 (belA hb7' _) hb8); (first | (have ht8 := keepblk3 hb8 (keepblk3 hb7 (alw_1 wx (.cells #[.string ⟨uc.toArray⟩] 9 (0, 0)) (.cells #[.string ⟨#[]⟩, .slice none 0 0] 71 (0, 0)))); have hc8 := (cells_block ht8).1; have hf8 := (cells_block ht8).2) | (have ht8 := keepblk3 hb8 (keepblk3 hb7 (alw_0 wx (.cells #[.string ⟨#[]⟩, .slice none 0 0] 71 (0, 0)) (.cells #[.string ⟨uc.toArray⟩] 9 (0, 0)))); have hc8 := (cells_block ht8).1; have hf8 := (cells_block ht8).2) | (have ht8 := keepblk3 hb8 (alloc_get w7 (.cells #[.string ⟨#[]⟩, .slice none 0 0] 71 (0, 0))); have hc8 := (cells_block ht8).1; have hf8 := (cells_block ht8).2) | skip)))
            all_goals go_wp2
            all_goals go_meet
            · exact ⟨_, rfl, rfl, hb8'.size, alloc_get _ _, belA hb8' _⟩
            · exact ⟨_, rfl, rfl, hb7'.size, set2_get _ _ ht8, (hb8'.setCell hb7'.size _).setCell hb7'.size _⟩
            · exact ⟨_, rfl, rfl, Nat.le_succ _, set2_get _ _ ht8, (hb8'.setCell (Nat.le_succ _) _).setCell (Nat.le_succ _) _⟩
            · exact ⟨_, rfl, rfl, Nat.le_refl _, set2_get _ _ ht8, (hb8'.setCell (Nat.le_refl _) _).setCell (Nat.le_refl _) _⟩
          case rest =>
            obtain ⟨bt, rfl, rfl, hbt, HC⟩ := hcut
            rename World => wc
            have HBB : Hid (wA.heap.size ≤ bt ∧ wo.heap.size ≠ bt) := ⟨Nat.le_trans HDX0.out.2.2.2.size hbt, by omega⟩
            have HS1 : Hid (DZ wA u6 Z (stD (wtN ((Z1.take k).map ZT.cont) uc uL ++ ((ac, aL ++ [uc]) :: wtI (ac, aL) (uL.take 0)))) wc ∧ (u6.ownBlock ≠ some bt ∧ wc.heap[bt]? = some (.cells #[.string ⟨#[]⟩, .slice none 0 0] 71 (0, 0))) ∧ (u6.ownBlock ≠ some wo.heap.size ∧ wc.heap[wo.heap.size]? = some (.cells #[.string ⟨ac.toArray⟩, .slice aq na ak] 71 (0, 0)))) := by
              unfold Hid
              rw [HST2.out]
              exact ⟨HDX0.out.below HC.out.2, ⟨fun e => by have := (HDX0.out.2.1.lt _ e).2; omega, HC.out.1⟩, hne0, keepblk3 HC.out.2 HWX.out.2⟩
            clear HST2 HC HDX0 HDZ hne0 HBH HT2 HK HWX
            go_wp2_with fail
            go_loopw [6, 10, 11] (fun v6 v10 v11 ws => ∃ (j : Nat) (Z : List ZT) (q : Bool) (s0 : List UInt8) (y : Option Addr) (m c : Nat), v11 = .int .i64 (j : Int) ∧ v10 = .bool q ∧ j ≤ n2 ∧ Hid (DZ wA v6 Z (stD (wtN ((Z1.take k).map ZT.cont) uc uL ++ ((ac, aL ++ [uc]) :: wtI (ac, aL) (uL.take j)))) ws ∧ (v6.ownBlock ≠ some bt ∧ ws.heap[bt]? = some (.cells #[.string ⟨s0.toArray⟩, .slice y m c] 71 (0, 0))) ∧ (v6.ownBlock ≠ some wo.heap.size ∧ ws.heap[wo.heap.size]? = some (.cells #[.string ⟨ac.toArray⟩, .slice aq na ak] 71 (0, 0))))) (fun _ _ v11 _ => n2 - (intOf v11).toNat)
            case atStart => exact ⟨0, Z, false, [], none, 0, 0, rfl, rfl, Nat.zero_le _, HS1⟩
            case round =>
              clear HS1
              obtain ⟨j, Z, q0, s0, y, m, c, rfl, rfl, hj, HR⟩ := hrel
              obtain ⟨gg1, gg2, -, -, iR2, hBw⟩ := HD.out wr HR.out.1.2.2.2
              have hc5 := (cells_block gg2).1
              by_cases hltj : j < n2
              · have r1 : (j : Int) < (n2 : Int) := by omega
                have r0 : (0 : Int) ≤ (j : Int) := by omega
                obtain ⟨bc, hbc⟩ : ∃ z, uL[j]? = some z := ⟨_, List.getElem?_eq_getElem (by rw [HN.out.2]; exact hltj)⟩
                have hgb := HGU.out.2 _ (List.mem_of_getElem? hbc)
                obtain ⟨gb, ob, e2, -⟩ := iR2 wr (Below.refl _ _) j _ hbc
                subst e2
                have HK2 : Hid (∀ W, Below wr.heap.size wr W → ((∀ j, W.cell? ⟨w.heap.size + 1, j, none⟩ = (#[.string ⟨uc.toArray⟩, .slice (some ⟨gb, ob, none⟩) n2 k2] : Array Value)[j]?) ∧ (∀ j, W.cell? ⟨wo.heap.size, j, none⟩ = (#[.string ⟨ac.toArray⟩, .slice aq na ak] : Array Value)[j]?)) ∧ W.cell? ⟨gb, ob + j, none⟩ = some (.string ⟨bc.toArray⟩)) := fun W hW => by
                  obtain ⟨-, f2, -, -, f4, -⟩ := HD.out W (bel0 HR.out.1.2.2.2 hW)
                  obtain ⟨g4, o4, e6, y0⟩ := f4 W (Below.refl _ _) j _ hbc
                  injection e6 with e6
                  injection e6 with e7 e8
                  subst e7 e8
                  exact ⟨⟨(cells_block f2).1, (cells_block (keepblk3 hW HR.out.2.2.2)).1⟩, y0⟩
                obtain ⟨M, hM⟩ : ∃ M, mtT ac bc = M := ⟨_, rfl⟩
                obtain ⟨q, hq⟩ : ∃ q, agB ac bc = q := ⟨_, rfl⟩
                have gM : Hid (good M = true) := by unfold Hid; rw [← hM]; exact good_mtT ac bc HZA.out.2.2.2.1 hgb
                have HMT2 : Hid (∀ W, Calls Tryz.prog 57 #[.string ⟨ac.toArray⟩, .string ⟨bc.toArray⟩] W fun e w' => e = .returned (.tuple #[.string ⟨M.toArray⟩, .bool q]) ∧ Below W.heap.size W w') := fun W => by
                  have h := dmeet_any ac bc W HZA.out.2.2.2.1 hgb
                  rw [hM, hq] at h
                  exact h
                have HST : Hid (wtI (ac, aL) (uL.take (j + 1)) = wtI (ac, aL) (uL.take j) ++ (if q = true then [(M, aL)] else [])) := by
                  have h := wtI_step (x := (ac, aL)) hbc
                  simp only at h
                  rw [hM, hq] at h
                  exact h
                have HBW2 : Hid (Below w.heap.size w wr) := hBw
                have hk0 := HK2.out wr (Below.refl _ _)
                have hk0d : ((∀ j, wr.drew.cell? ⟨w.heap.size + 1, j, none⟩ = (#[.string ⟨uc.toArray⟩, .slice (some ⟨gb, ob, none⟩) n2 k2] : Array Value)[j]?) ∧ (∀ j, wr.drew.cell? ⟨wo.heap.size, j, none⟩ = (#[.string ⟨ac.toArray⟩, .slice aq na ak] : Array Value)[j]?)) ∧ wr.drew.cell? ⟨gb, ob + j, none⟩ = some (.string ⟨bc.toArray⟩) := hk0
                obtain ⟨⟨hc5, -⟩, -⟩ := hk0
                have hk0 := HK2.out wr (Below.refl _ _)
                clear hbc hgb hM hq gg1 gg2 iR2 hBw
                go_upto_region 14 with fail
                clear hc5
                go_region_held3 (fun W => ((∀ j, W.cell? ⟨w.heap.size + 1, j, none⟩ = (#[.string ⟨uc.toArray⟩, .slice (some ⟨gb, ob, none⟩) n2 k2] : Array Value)[j]?) ∧ (∀ j, W.cell? ⟨wo.heap.size, j, none⟩ = (#[.string ⟨ac.toArray⟩, .slice aq na ak] : Array Value)[j]?)) ∧ W.cell? ⟨gb, ob + j, none⟩ = some (.string ⟨bc.toArray⟩)) (first | with_reducible exact hk0 | with_reducible exact hk0d | with_reducible exact hk5) (first | (go_at_call 57; refine (HMT2.out _).mono ?_; rintro e w5 ⟨rfl, hb5⟩; have hb5' : Below wr.heap.size wr w5 := (by first | exact hb5 | exact und hb5); have hk5 := HK2.out w5 hb5'))
                have HB5 : Hid (Below wr.heap.size wr w5) := hb5'
                clear hk0 hk0d hb5 hb5'
                cases q with
                | false =>
                  have HX : Hid (DZ wA u6 Z (stD (wtN ((Z1.take k).map ZT.cont) uc uL ++ ((ac, aL ++ [uc]) :: wtI (ac, aL) (uL.take (j + 1))))) w5 ∧ (u6.ownBlock ≠ some bt ∧ w5.heap[bt]? = some (.cells #[.string ⟨s0.toArray⟩, .slice y m c] 71 (0, 0))) ∧ (u6.ownBlock ≠ some wo.heap.size ∧ w5.heap[wo.heap.size]? = some (.cells #[.string ⟨ac.toArray⟩, .slice aq na ak] 71 (0, 0)))) := by
                    unfold Hid
                    rw [HST.out, if_neg (by simp), List.append_nil]
                    exact ⟨HR.out.1.below HB5.out, ⟨HR.out.2.1.1, keepblk3 HB5.out HR.out.2.1.2⟩, HR.out.2.2.1, keepblk3 HB5.out HR.out.2.2.2⟩
                  clear hk5
                  go_wp2_with fail
                  go_roundw
                  case rel => exact ⟨j + 1, Z, q0, s0, y, m, c, by go_num, rfl, by omega, HX⟩
                  case measure => simp [intOf]; omega
                | true =>
                  have HTE : Hid (∀ (W : World) (p : Option Addr) (c : Nat), IRSt W p (aL) → Calls Tryz.prog 52 #[.string ⟨M.toArray⟩, .slice p na c] W fun e w' => Below W.heap.size W w' ∧ ((setO M (aL) = none ∧ e = .returned (.tuple #[.agg #[.string ⟨#[]⟩, .slice none 0 0], .bool false])) ∨ ∃ R v, setO M (aL) = some R ∧ e = .returned (.tuple #[.agg #[.string ⟨M.toArray⟩, v], .bool true]) ∧ w'.ownsRow W.heap.size 9 1 v R.length (stx (srtT R)))) := fun W p c hr => term_any M aL na p c W HNA.out (by omega) gM.out HZA.out.2.2.2.2 hr
                  have HIA : Hid (IRSt w5 aq aL) := HZA.out.2.1.later (bel0 HBW2.out HB5.out)
                  have hc8x := hk5.1.2
                  have HST3 : Hid (stD (wtN ((Z1.take k).map ZT.cont) uc uL ++ ((ac, aL ++ [uc]) :: wtI (ac, aL) (uL.take (j + 1)))) = stD (wtN ((Z1.take k).map ZT.cont) uc uL ++ ((ac, aL ++ [uc]) :: wtI (ac, aL) (uL.take j))) ++ stD [(M, aL)]) := by
                    unfold Hid
                    rw [HST.out, if_pos (by first | rfl | trivial), ← List.cons_append, ← List.append_assoc, stD_app]
                  cases hso : setO M aL with
                  | none =>
                    have HT2 : Hid (∀ (W : World) (p : Option Addr) (c : Nat), IRSt W p (aL) → Calls Tryz.prog 52 #[.string ⟨M.toArray⟩, .slice p na c] W fun e w' => e = .returned (.tuple #[.agg #[.string ⟨#[]⟩, .slice none 0 0], .bool false]) ∧ Below W.heap.size W w') := fun W p c hr => (HTE.out W p c hr).mono (fun e w' h => ⟨(h.2.resolve_right (fun ⟨R, v, hR, _⟩ => by rw [hso] at hR; cases hR)).2, h.1⟩)
                    have HST2 : Hid (stD (wtN ((Z1.take k).map ZT.cont) uc uL ++ ((ac, aL ++ [uc]) :: wtI (ac, aL) (uL.take (j + 1)))) = stD (wtN ((Z1.take k).map ZT.cont) uc uL ++ ((ac, aL ++ [uc]) :: wtI (ac, aL) (uL.take j)))) := by
                      unfold Hid
                      rw [HST3.out, stD_sing, hso]
                      simp
                    clear HTE hso HST HST3 hk5
                    go_wp2_with fail
                    refine (HT2.out _ _ _ HIA.out).mono ?_
                    rintro e w6 ⟨rfl, hb6⟩
                    have ht6 := keepblk3 (bel0 HB5.out hb6) HR.out.2.1.2
                    obtain ⟨hct6, hft6⟩ := cells_block ht6
                    have HX : Hid (DZ wA u6 Z (stD (wtN ((Z1.take k).map ZT.cont) uc uL ++ ((ac, aL ++ [uc]) :: wtI (ac, aL) (uL.take (j + 1))))) ((w6.setCell ⟨bt, 0, none⟩ (.string ⟨#[]⟩)).setCell ⟨bt, 1, none⟩ (.slice none 0 0)) ∧ (u6.ownBlock ≠ some bt ∧ ((w6.setCell ⟨bt, 0, none⟩ (.string ⟨#[]⟩)).setCell ⟨bt, 1, none⟩ (.slice none 0 0)).heap[bt]? = some (.cells #[.string ⟨#[]⟩, .slice none 0 0] 71 (0, 0))) ∧ (u6.ownBlock ≠ some wo.heap.size ∧ ((w6.setCell ⟨bt, 0, none⟩ (.string ⟨#[]⟩)).setCell ⟨bt, 1, none⟩ (.slice none 0 0)).heap[wo.heap.size]? = some (.cells #[.string ⟨ac.toArray⟩, .slice aq na ak] 71 (0, 0)))) := by
                      unfold Hid
                      rw [HST2.out]
                      refine ⟨(HR.out.1.below (bel0 HB5.out hb6)).put2 ht6 HR.out.2.1.1 HBB.out.1 _ _, ⟨HR.out.2.1.1, set2_get _ _ ht6⟩, HR.out.2.2.1, ?_⟩
                      rw [heap_setCell_other _ _ _ _ (fun e => HBB.out.2 e), heap_setCell_other _ _ _ _ (fun e => HBB.out.2 e)]
                      exact keepblk3 (bel0 HB5.out hb6) HR.out.2.2.2
                    clear hb6 ht6 hc8x
                    go_wp2_with fail
                    go_roundw
                    case rel => exact ⟨j + 1, Z, false, [], none, 0, 0, by go_num, rfl, by omega, HX⟩
                    case measure => simp [intOf]; omega
                  | some R =>
                    obtain ⟨S, hS⟩ : ∃ S, srtT R = S := ⟨_, rfl⟩
                    obtain ⟨nS, hnS⟩ : ∃ nS, R.length = nS := ⟨_, rfl⟩
                    have HSL : Hid (S.length = nS) := by unfold Hid; rw [← hS, srtT_len, hnS]
                    have hnS2 : nS ≤ 256 := by
                      have h1 := setO_len hso
                      have h2 := (show aL.length ≤ 128 from HZA.out.2.2.1)
                      omega
                    have HSG : Hid (good M = true ∧ ∀ t ∈ S, good t = true) := ⟨gM.out, fun t ht => by
                      rw [← hS] at ht
                      have h1 := (srtT_perm R).mem_iff.1 ht
                      have h2 := (put_some hso).1
                      have h3 : t ∈ putL (lesL M (aL)) := by rw [h2]; exact (srtT_perm R).mem_iff.2 h1
                      exact lesL_good gM.out HZA.out.2.2.2.2 t (putL_mem h3)⟩

                    have HT2 : Hid (∀ (W : World) (p : Option Addr) (c : Nat), IRSt W p (aL) → Calls Tryz.prog 52 #[.string ⟨M.toArray⟩, .slice p na c] W fun e w' => ∃ pv cv, e = .returned (.tuple #[.agg #[.string ⟨M.toArray⟩, .slice pv nS cv], .bool true]) ∧ Below W.heap.size W w' ∧ w'.ownsRow W.heap.size 9 1 (.slice pv nS cv) nS (stx S)) := fun W p c hr => (HTE.out W p c hr).mono (fun e w' h => by
                      rcases h with ⟨h1, ⟨h2, _⟩ | ⟨R2, v, h2, h3, h4⟩⟩
                      · rw [hso] at h2; cases h2
                      · rw [hso] at h2
                        obtain rfl := Option.some.inj h2
                        rw [hnS, hS] at h4
                        obtain ⟨pv, cv, rfl⟩ := shapeQ1 h4
                        exact ⟨pv, cv, h3, h1, h4⟩)
                    have HST2 : Hid (stD (wtN ((Z1.take k).map ZT.cont) uc uL ++ ((ac, aL ++ [uc]) :: wtI (ac, aL) (uL.take (j + 1)))) = stD (wtN ((Z1.take k).map ZT.cont) uc uL ++ ((ac, aL ++ [uc]) :: wtI (ac, aL) (uL.take j))) ++ [(M, S)]) := by
                      unfold Hid
                      rw [HST3.out, stD_sing, hso, ← hS]
                    clear HTE hso HST HST3 hk5 hS hnS
                    go_wp2_with fail
                    refine (HT2.out _ _ _ HIA.out).mono ?_
                    rintro e w6 ⟨pv, cv, rfl, hb6, o6⟩
                    have ht6 := keepblk3 (bel0 HB5.out hb6) HR.out.2.1.2
                    obtain ⟨hct6, hft6⟩ := cells_block ht6
                    go_upto_region 17 with fail
                    have HX0 : Hid (DZ wA u6 Z (stD (wtN ((Z1.take k).map ZT.cont) uc uL ++ ((ac, aL ++ [uc]) :: wtI (ac, aL) (uL.take j)))) ((w6.setCell ⟨bt, 0, none⟩ (.string ⟨M.toArray⟩)).setCell ⟨bt, 1, none⟩ (.slice pv nS cv)) ∧ ((u6.ownBlock ≠ some bt ∧ ((w6.setCell ⟨bt, 0, none⟩ (.string ⟨M.toArray⟩)).setCell ⟨bt, 1, none⟩ (.slice pv nS cv)).heap[bt]? = some (.cells #[.string ⟨M.toArray⟩, .slice pv nS cv] 71 (0, 0))) ∧ (u6.ownBlock ≠ some wo.heap.size ∧ ((w6.setCell ⟨bt, 0, none⟩ (.string ⟨M.toArray⟩)).setCell ⟨bt, 1, none⟩ (.slice pv nS cv)).heap[wo.heap.size]? = some (.cells #[.string ⟨ac.toArray⟩, .slice aq na ak] 71 (0, 0)))) ∧ ((w6.setCell ⟨bt, 0, none⟩ (.string ⟨M.toArray⟩)).setCell ⟨bt, 1, none⟩ (.slice pv nS cv)).ownsRow 0 9 1 (.slice pv nS cv) nS (stx S)) := by
                      refine ⟨(HR.out.1.below (bel0 HB5.out hb6)).put2 ht6 HR.out.2.1.1 HBB.out.1 _ _, ⟨⟨HR.out.2.1.1, set2_get _ _ ht6⟩, HR.out.2.2.1, ?_⟩, ?_⟩
                      · rw [heap_setCell_other _ _ _ _ (fun e => HBB.out.2 e), heap_setCell_other _ _ _ _ (fun e => HBB.out.2 e)]
                        exact keepblk3 (bel0 HB5.out hb6) HR.out.2.2.2
                      · refine own_base (o6.kept (gr2 _ _ _ _) (.inr (fun e => ?_))) (Nat.zero_le _)
                        have h1 := (o6.lt _ e).1
                        have h3 := lt_of_get3 (keepblk3 HB5.out HR.out.2.1.2)
                        omega
                    obtain ⟨X, hX⟩ : ∃ X, ((w6.setCell ⟨bt, 0, none⟩ (.string ⟨M.toArray⟩)).setCell ⟨bt, 1, none⟩ (.slice pv nS cv)) = X := ⟨_, rfl⟩
                    rw [hX] at HX0 ⊢
                    have HDX : Hid (DZ wA u6 Z (stD (wtN ((Z1.take k).map ZT.cont) uc uL ++ ((ac, aL ++ [uc]) :: wtI (ac, aL) (uL.take j)))) X) := HX0.out.1
                    have HBT : Hid ((u6.ownBlock ≠ some bt ∧ X.heap[bt]? = some (.cells #[.string ⟨M.toArray⟩, .slice pv nS cv] 71 (0, 0))) ∧ (u6.ownBlock ≠ some wo.heap.size ∧ X.heap[wo.heap.size]? = some (.cells #[.string ⟨ac.toArray⟩, .slice aq na ak] 71 (0, 0)))) := HX0.out.2.1
                    have HOX : Hid (X.ownsRow 0 9 1 (.slice pv nS cv) nS (stx S)) := HX0.out.2.2
                    obtain ⟨hcT, -⟩ := cells_block HBT.out.1.2
                    have oZ := HDX.out.2.1
                    have hXs := HDX.out.2.2.2.size
                    have hZl : Z.length ≤ 20000 := by
                      have h := wt_most Z1 uc uL k j (ac, aL) (ac, aL ++ [uc]) (by rw [HN.out.1]; exact hb1) (by rw [HN.out.2]; exact hs2)
                      rw [← HDX.out.1, List.length_map] at h
                      exact h
                    clear hX HX0 hb6 ht6 hct6 hft6 o6 hc8x HR
                    go_wp2_with (at_builtin; refine wpList_append_own_at _ rfl _ _ 25 rfl wA.heap.size 71 iT _ 2 40 Tryz.underlying25 hiT hzT0 hzT1 hzT2 rfl (by decide) _ _ _ rfl (oZ.alloc _) ⟨_, 0, none⟩ 1 1 [.string ⟨M.toArray⟩, .slice pv nS cv] rfl rfl (World.news_of_block (cs := #[.string ⟨M.toArray⟩, .slice pv nS cv]) (t := 71) (fr := (0, 0)) (alloc_get _ _)) (by simp [Value.oneCell']) (by unfold maxLen; omega) (by omega) (by simp; omega) ?_)
                    intro v8 w8 o8 g8 _ hob
                    have HD8 : Hid (DZ wA v8 (Z ++ [⟨M, pv, cv, S⟩]) (stD (wtN ((Z1.take k).map ZT.cont) uc uL ++ ((ac, aL ++ [uc]) :: wtI (ac, aL) (uL.take (j + 1))))) w8 ∧ (v8.ownBlock ≠ some bt ∧ w8.heap[bt]? = some (.cells #[.string ⟨M.toArray⟩, .slice pv nS cv] 71 (0, 0))) ∧ (v8.ownBlock ≠ some wo.heap.size ∧ w8.heap[wo.heap.size]? = some (.cells #[.string ⟨ac.toArray⟩, .slice aq na ak] 71 (0, 0)))) := by
                      have hS := HSL.out
                      refine ⟨⟨?_, ?_, ?_, ?_⟩, ⟨app_ne HBT.out.1.2 HBT.out.1.1 hob, app_keep HBT.out.1.2 HBT.out.1.1 g8⟩, ⟨app_ne HBT.out.2.2 HBT.out.2.1 hob, app_keep HBT.out.2.2 HBT.out.2.1 g8⟩⟩
                      · rw [HST2.out, List.map_append, HDX.out.1]
                        rfl
                      · rw [rts_snoc, List.length_append, hS]
                        exact o8
                      · intro z hz
                        rcases List.mem_append.1 hz with hz | hz
                        · exact ⟨own_other ((HDX.out.2.2.1 z hz).1.alloc _) (oZ.alloc _) (by decide) g8, (HDX.out.2.2.1 z hz).2⟩
                        · obtain rfl := List.mem_singleton.1 hz
                          refine ⟨?_, ?_, HSG.out.1, HSG.out.2⟩
                          · show w8.ownsRow 0 9 1 (.slice pv S.length cv) S.length (stx S)
                            rw [hS]
                            exact own_other (HOX.out.alloc _) (oZ.alloc _) (by decide) g8
                          · show S.length ≤ 1000000
                            rw [hS]
                            omega
                      · exact (belA HDX.out.2.2.2 _).grown g8 (belA HDX.out.2.2.2 _).size (fun b e => (oZ.lt b e).1)

                    clear o8 g8 oZ hcT HDX HOX hob HBT
                    go_wp2_with fail
                    go_roundw
                    case rel => exact ⟨j + 1, _, true, M, pv, nS, cv, by go_num, rfl, by omega, HD8⟩
                    case measure => simp [intOf]; omega
              · have r1 : ¬ (j : Int) < (n2 : Int) := by omega
                have HX : Hid (DZ wA u6 Z (stD (wtN ((Z1.take (k + 1)).map ZT.cont) uc uL)) wr) := by
                  have hst : (Z1.map ZT.cont)[k]? = some (ac, aL) := by rw [List.getElem?_map, HZA.out.1]; rfl
                  have h := wtN_step (c := uc) (L := uL) hst
                  have h3 := HR.out.1
                  rw [List.take_of_length_le (show uL.length ≤ j by rw [HN.out.2]; omega)] at h3
                  unfold Hid
                  rw [List.map_take, h, ← List.map_take]
                  exact h3
                have hc4 := (cells_block gg1).1
                clear HR gg1 gg2 iR2 hBw
                go_wp2_with fail
                go_roundw
                case rel => exact ⟨k + 1, Z, by go_num, by omega, HX⟩
                case measure => simp [intOf]; omega
        | some R =>
          obtain ⟨S, hS⟩ : ∃ S, srtT R = S := ⟨_, rfl⟩
          obtain ⟨nS, hnS⟩ : ∃ nS, R.length = nS := ⟨_, rfl⟩
          have HSL : Hid (S.length = nS) := by unfold Hid; rw [← hS, srtT_len, hnS]
          have hnS2 : nS ≤ 256 := by
            have h1 := setO_len hso
            have h2 := HAB.out
            omega
          have HSG : Hid (good ac = true ∧ ∀ t ∈ S, good t = true) := ⟨HZA.out.2.2.2.1, fun t ht => by
            rw [← hS] at ht
            have h1 := (srtT_perm R).mem_iff.1 ht
            have h2 := (put_some hso).1
            have h3 : t ∈ putL (lesL ac (aL ++ [uc])) := by rw [h2]; exact (srtT_perm R).mem_iff.2 h1
            exact lesL_good HZA.out.2.2.2.1 HAB.out.2.2 t (putL_mem h3)⟩

          have HT2 : Hid (∀ (W : World) (p : Option Addr) (c : Nat), IRSt W p (aL ++ [uc]) → Calls Tryz.prog 52 #[.string ⟨ac.toArray⟩, .slice p nab c] W fun e w' => ∃ pv cv, e = .returned (.tuple #[.agg #[.string ⟨ac.toArray⟩, .slice pv nS cv], .bool true]) ∧ Below W.heap.size W w' ∧ w'.ownsRow W.heap.size 9 1 (.slice pv nS cv) nS (stx S)) := fun W p c hr => (HTE.out W p c hr).mono (fun e w' h => by
            rcases h with ⟨h1, ⟨h2, _⟩ | ⟨R2, v, h2, h3, h4⟩⟩
            · rw [hso] at h2; cases h2
            · rw [hso] at h2
              obtain rfl := Option.some.inj h2
              rw [hnS, hS] at h4
              obtain ⟨pv, cv, rfl⟩ := shapeQ1 h4
              exact ⟨pv, cv, h3, h1, h4⟩)
          have HST2 : Hid (stD (wtN ((Z1.take k).map ZT.cont) uc uL ++ ((ac, aL ++ [uc]) :: wtI (ac, aL) (uL.take 0))) = stD (wtN ((Z1.take k).map ZT.cont) uc uL) ++ [(ac, S)]) := by
            unfold Hid
            rw [List.take_zero, show wtI (ac, aL) [] = [] from rfl, stD_app, stD_sing, hso, ← hS]
          clear HTE hso hS hnS
          go_cut [9, 10] (fun h e wc => ∃ (bt : Nat) (pv : Option Addr) (cv : Nat), h = .pointer (some ⟨bt, 0, none⟩) ∧ e = .bool true ∧ wx.heap.size ≤ bt ∧ Hid (wc.heap[bt]? = some (.cells #[.string ⟨ac.toArray⟩, .slice pv nS cv] 71 (0, 0)) ∧ wc.ownsRow 0 9 1 (.slice pv nS cv) nS (stx S) ∧ Below wx.heap.size wx wc))
          case first =>
            go_region_held3 (fun W => (∀ j, W.cell? ⟨w.heap.size + 1, j, none⟩ = (#[.string ⟨uc.toArray⟩, .slice p2 n2 k2] : Array Value)[j]?) ∧ (∀ j, W.cell? ⟨wo.heap.size, j, none⟩ = (#[.string ⟨ac.toArray⟩, .slice aq na ak] : Array Value)[j]?)) (first | with_reducible exact HK.out _ (Below.refl _ _) | with_reducible exact HK.out _ (Below.refl _ _).drew | with_reducible exact HK.out _ (belA (Below.refl _ _) _) | with_reducible exact HK.out _ (belA (Below.refl _ _).drew _) | with_reducible exact HK.out _ (belA (belA (Below.refl _ _) _) _) | with_reducible exact HK.out _ (belA (belA (Below.refl _ _).drew _) _) | with_reducible exact HK.out _ hb7' | with_reducible exact HK.out _ (belA hb7' _) | with_reducible exact HK.out _ hb8' | with_reducible exact HK.out _ (belA hb8' _) | with_reducible exact HK.out _ ((hb8'.setCell hb7'.size _).setCell hb7'.size _) | with_reducible exact HK.out _ ((hb8'.setCell (Nat.le_refl _) _).setCell (Nat.le_refl _) _) | with_reducible exact HK.out _ ((hb8'.setCell (Nat.le_succ _) _).setCell (Nat.le_succ _) _)) (first | (go_at_call 105; refine (HBH.out _ _ (by first | exact belA (Below.refl _ _) _ | exact belA (Below.refl _ _).drew _ | exact belA (belA (Below.refl _ _) _) _ | exact belA (belA (Below.refl _ _).drew _) _) (by first | exact alloc_get _ _ | exact alw_1 _ _ _ | exact alw_0 _ _ _)).mono ?_; rintro e w7 ⟨v7, rfl, o7, hb7⟩; obtain ⟨pv7, cv7, rfl⟩ := shapeQ1 o7; have hb7' : Below wx.heap.size wx w7 := (by first | exact bel0 (belA (Below.refl _ _) _) hb7 | exact bel0 (belA (Below.refl _ _).drew _) hb7 | exact bel0 (belA (belA (Below.refl _ _) _) _) hb7 | exact bel0 (belA (belA (Below.refl _ _).drew _) _) hb7)) | (go_at_call 52; refine (HT2.out _ _ _ (by first | exact IRSt_own o7 HAB.out.1 | exact IRSt_own (o7.alloc _) HAB.out.1)).mono ?_; rintro e w8 ⟨pv, cv, rfl, hb8, o8⟩; have hb8' : Below wx.heap.size wx w8 := (by first | exact bel0 hb7' hb8 | exact bel0 (belA hb7' _) hb8); (first | (have ht8 := keepblk3 hb8 (keepblk3 hb7 (alw_1 wx (.cells #[.string ⟨uc.toArray⟩] 9 (0, 0)) (.cells #[.string ⟨#[]⟩, .slice none 0 0] 71 (0, 0)))); have hc8 := (cells_block ht8).1; have hf8 := (cells_block ht8).2) | (have ht8 := keepblk3 hb8 (keepblk3 hb7 (alw_0 wx (.cells #[.string ⟨#[]⟩, .slice none 0 0] 71 (0, 0)) (.cells #[.string ⟨uc.toArray⟩] 9 (0, 0)))); have hc8 := (cells_block ht8).1; have hf8 := (cells_block ht8).2) | (have ht8 := keepblk3 hb8 (alloc_get w7 (.cells #[.string ⟨#[]⟩, .slice none 0 0] 71 (0, 0))); have hc8 := (cells_block ht8).1; have hf8 := (cells_block ht8).2) | skip)))
            all_goals go_wp2
            all_goals go_meet
            · exact ⟨_, pv, cv, rfl, rfl, hb8'.size, alloc_get _ _, own_base (o8.alloc _) (Nat.zero_le _), belA hb8' _⟩
            · exact ⟨_, pv, cv, rfl, rfl, hb7'.size, set2_get _ _ ht8, own_base (o8.kept (gr2 _ _ _ _) (.inr (fun e => by have h1 := (o8.lt _ e).1; (try simp at h1); omega))) (Nat.zero_le _), (hb8'.setCell hb7'.size _).setCell hb7'.size _⟩
            · have hs7 := hb7.size
              (try simp at hs7)
              exact ⟨_, pv, cv, rfl, rfl, Nat.le_succ _, set2_get _ _ ht8, own_base (o8.kept (gr2 _ _ _ _) (.inr (fun e => by have h1 := (o8.lt _ e).1; (try simp at h1); omega))) (Nat.zero_le _), (hb8'.setCell (Nat.le_succ _) _).setCell (Nat.le_succ _) _⟩
            · have hs7 := hb7.size
              (try simp at hs7)
              exact ⟨_, pv, cv, rfl, rfl, Nat.le_refl _, set2_get _ _ ht8, own_base (o8.kept (gr2 _ _ _ _) (.inr (fun e => by have h1 := (o8.lt _ e).1; (try simp at h1); omega))) (Nat.zero_le _), (hb8'.setCell (Nat.le_refl _) _).setCell (Nat.le_refl _) _⟩
          case rest =>
            obtain ⟨bt, pv, cv, rfl, rfl, hbt, HC⟩ := hcut
            rename World => X
            have HBB : Hid (wA.heap.size ≤ bt ∧ wo.heap.size ≠ bt) := ⟨Nat.le_trans HDX0.out.2.2.2.size hbt, by omega⟩
            have HDX : Hid (DZ wA u6 Z (stD (wtN ((Z1.take k).map ZT.cont) uc uL)) X) := HDX0.out.below HC.out.2.2
            have HBT : Hid ((u6.ownBlock ≠ some bt ∧ X.heap[bt]? = some (.cells #[.string ⟨ac.toArray⟩, .slice pv nS cv] 71 (0, 0))) ∧ (u6.ownBlock ≠ some wo.heap.size ∧ X.heap[wo.heap.size]? = some (.cells #[.string ⟨ac.toArray⟩, .slice aq na ak] 71 (0, 0)))) := ⟨⟨fun e => by have := (HDX0.out.2.1.lt _ e).2; omega, HC.out.1⟩, hne0, keepblk3 HC.out.2.2 HWX.out.2⟩
            have HOX : Hid (X.ownsRow 0 9 1 (.slice pv nS cv) nS (stx S)) := HC.out.2.1
            obtain ⟨hcT, -⟩ := cells_block HBT.out.1.2
            have oZ := HDX.out.2.1
            have hXs := HDX.out.2.2.2.size
            have hZl : Z.length ≤ 20000 := by
              have h := wt_all ((Z1.take k).map ZT.cont) uc uL (by rw [List.length_map, List.length_take, HN.out.1]; omega) (by rw [HN.out.2]; exact hs2)
              rw [← HDX.out.1, List.length_map] at h
              exact h
            clear HC HDX0 HDZ hne0 HBH HT2 HK HWX
            go_wp2_with (at_builtin; refine wpList_append_own_at _ rfl _ _ 25 rfl wA.heap.size 71 iT _ 2 40 Tryz.underlying25 hiT hzT0 hzT1 hzT2 rfl (by decide) _ _ _ rfl (oZ.alloc _) ⟨_, 0, none⟩ 1 1 [.string ⟨ac.toArray⟩, .slice pv nS cv] rfl rfl (World.news_of_block (cs := #[.string ⟨ac.toArray⟩, .slice pv nS cv]) (t := 71) (fr := (0, 0)) (alloc_get _ _)) (by simp [Value.oneCell']) (by unfold maxLen; omega) (by omega) (by simp; omega) ?_)
            intro v8 w8 o8 g8 _ hob
            have HD8 : Hid (DZ wA v8 (Z ++ [⟨ac, pv, cv, S⟩]) (stD (wtN ((Z1.take k).map ZT.cont) uc uL ++ ((ac, aL ++ [uc]) :: wtI (ac, aL) (uL.take 0)))) w8 ∧ (v8.ownBlock ≠ some bt ∧ w8.heap[bt]? = some (.cells #[.string ⟨ac.toArray⟩, .slice pv nS cv] 71 (0, 0))) ∧ (v8.ownBlock ≠ some wo.heap.size ∧ w8.heap[wo.heap.size]? = some (.cells #[.string ⟨ac.toArray⟩, .slice aq na ak] 71 (0, 0)))) := by
              have hS := HSL.out
              refine ⟨⟨?_, ?_, ?_, ?_⟩, ⟨app_ne HBT.out.1.2 HBT.out.1.1 hob, app_keep HBT.out.1.2 HBT.out.1.1 g8⟩, ⟨app_ne HBT.out.2.2 HBT.out.2.1 hob, app_keep HBT.out.2.2 HBT.out.2.1 g8⟩⟩
              · rw [HST2.out, List.map_append, HDX.out.1]
                rfl
              · rw [rts_snoc, List.length_append, hS]
                exact o8
              · intro z hz
                rcases List.mem_append.1 hz with hz | hz
                · exact ⟨own_other ((HDX.out.2.2.1 z hz).1.alloc _) (oZ.alloc _) (by decide) g8, (HDX.out.2.2.1 z hz).2⟩
                · obtain rfl := List.mem_singleton.1 hz
                  refine ⟨?_, ?_, HSG.out.1, HSG.out.2⟩
                  · show w8.ownsRow 0 9 1 (.slice pv S.length cv) S.length (stx S)
                    rw [hS]
                    exact own_other (HOX.out.alloc _) (oZ.alloc _) (by decide) g8
                  · show S.length ≤ 1000000
                    rw [hS]
                    omega
              · exact (belA HDX.out.2.2.2 _).grown g8 (belA HDX.out.2.2.2 _).size (fun b e => (oZ.lt b e).1)

            have HS1 := HD8
            clear o8 g8 oZ hcT HDX HOX hob HBT HD8 HST2 HSL HSG
            go_wp2_with fail
            go_loopw [6, 10, 11] (fun v6 v10 v11 ws => ∃ (j : Nat) (Z : List ZT) (q : Bool) (s0 : List UInt8) (y : Option Addr) (m c : Nat), v11 = .int .i64 (j : Int) ∧ v10 = .bool q ∧ j ≤ n2 ∧ Hid (DZ wA v6 Z (stD (wtN ((Z1.take k).map ZT.cont) uc uL ++ ((ac, aL ++ [uc]) :: wtI (ac, aL) (uL.take j)))) ws ∧ (v6.ownBlock ≠ some bt ∧ ws.heap[bt]? = some (.cells #[.string ⟨s0.toArray⟩, .slice y m c] 71 (0, 0))) ∧ (v6.ownBlock ≠ some wo.heap.size ∧ ws.heap[wo.heap.size]? = some (.cells #[.string ⟨ac.toArray⟩, .slice aq na ak] 71 (0, 0))))) (fun _ _ v11 _ => n2 - (intOf v11).toNat)
            case atStart => exact ⟨0, _, true, ac, pv, nS, cv, rfl, rfl, Nat.zero_le _, HS1⟩
            case round =>
              clear HS1
              obtain ⟨j, Z, q0, s0, y, m, c, rfl, rfl, hj, HR⟩ := hrel
              obtain ⟨gg1, gg2, -, -, iR2, hBw⟩ := HD.out wr HR.out.1.2.2.2
              have hc5 := (cells_block gg2).1
              by_cases hltj : j < n2
              · have r1 : (j : Int) < (n2 : Int) := by omega
                have r0 : (0 : Int) ≤ (j : Int) := by omega
                obtain ⟨bc, hbc⟩ : ∃ z, uL[j]? = some z := ⟨_, List.getElem?_eq_getElem (by rw [HN.out.2]; exact hltj)⟩
                have hgb := HGU.out.2 _ (List.mem_of_getElem? hbc)
                obtain ⟨gb, ob, e2, -⟩ := iR2 wr (Below.refl _ _) j _ hbc
                subst e2
                have HK2 : Hid (∀ W, Below wr.heap.size wr W → ((∀ j, W.cell? ⟨w.heap.size + 1, j, none⟩ = (#[.string ⟨uc.toArray⟩, .slice (some ⟨gb, ob, none⟩) n2 k2] : Array Value)[j]?) ∧ (∀ j, W.cell? ⟨wo.heap.size, j, none⟩ = (#[.string ⟨ac.toArray⟩, .slice aq na ak] : Array Value)[j]?)) ∧ W.cell? ⟨gb, ob + j, none⟩ = some (.string ⟨bc.toArray⟩)) := fun W hW => by
                  obtain ⟨-, f2, -, -, f4, -⟩ := HD.out W (bel0 HR.out.1.2.2.2 hW)
                  obtain ⟨g4, o4, e6, y0⟩ := f4 W (Below.refl _ _) j _ hbc
                  injection e6 with e6
                  injection e6 with e7 e8
                  subst e7 e8
                  exact ⟨⟨(cells_block f2).1, (cells_block (keepblk3 hW HR.out.2.2.2)).1⟩, y0⟩
                obtain ⟨M, hM⟩ : ∃ M, mtT ac bc = M := ⟨_, rfl⟩
                obtain ⟨q, hq⟩ : ∃ q, agB ac bc = q := ⟨_, rfl⟩
                have gM : Hid (good M = true) := by unfold Hid; rw [← hM]; exact good_mtT ac bc HZA.out.2.2.2.1 hgb
                have HMT2 : Hid (∀ W, Calls Tryz.prog 57 #[.string ⟨ac.toArray⟩, .string ⟨bc.toArray⟩] W fun e w' => e = .returned (.tuple #[.string ⟨M.toArray⟩, .bool q]) ∧ Below W.heap.size W w') := fun W => by
                  have h := dmeet_any ac bc W HZA.out.2.2.2.1 hgb
                  rw [hM, hq] at h
                  exact h
                have HST : Hid (wtI (ac, aL) (uL.take (j + 1)) = wtI (ac, aL) (uL.take j) ++ (if q = true then [(M, aL)] else [])) := by
                  have h := wtI_step (x := (ac, aL)) hbc
                  simp only at h
                  rw [hM, hq] at h
                  exact h
                have HBW2 : Hid (Below w.heap.size w wr) := hBw
                have hk0 := HK2.out wr (Below.refl _ _)
                have hk0d : ((∀ j, wr.drew.cell? ⟨w.heap.size + 1, j, none⟩ = (#[.string ⟨uc.toArray⟩, .slice (some ⟨gb, ob, none⟩) n2 k2] : Array Value)[j]?) ∧ (∀ j, wr.drew.cell? ⟨wo.heap.size, j, none⟩ = (#[.string ⟨ac.toArray⟩, .slice aq na ak] : Array Value)[j]?)) ∧ wr.drew.cell? ⟨gb, ob + j, none⟩ = some (.string ⟨bc.toArray⟩) := hk0
                obtain ⟨⟨hc5, -⟩, -⟩ := hk0
                have hk0 := HK2.out wr (Below.refl _ _)
                clear hbc hgb hM hq gg1 gg2 iR2 hBw
                go_upto_region 14 with fail
                clear hc5
                go_region_held3 (fun W => ((∀ j, W.cell? ⟨w.heap.size + 1, j, none⟩ = (#[.string ⟨uc.toArray⟩, .slice (some ⟨gb, ob, none⟩) n2 k2] : Array Value)[j]?) ∧ (∀ j, W.cell? ⟨wo.heap.size, j, none⟩ = (#[.string ⟨ac.toArray⟩, .slice aq na ak] : Array Value)[j]?)) ∧ W.cell? ⟨gb, ob + j, none⟩ = some (.string ⟨bc.toArray⟩)) (first | with_reducible exact hk0 | with_reducible exact hk0d | with_reducible exact hk5) (first | (go_at_call 57; refine (HMT2.out _).mono ?_; rintro e w5 ⟨rfl, hb5⟩; have hb5' : Below wr.heap.size wr w5 := (by first | exact hb5 | exact und hb5); have hk5 := HK2.out w5 hb5'))
                have HB5 : Hid (Below wr.heap.size wr w5) := hb5'
                clear hk0 hk0d hb5 hb5'
                cases q with
                | false =>
                  have HX : Hid (DZ wA u6 Z (stD (wtN ((Z1.take k).map ZT.cont) uc uL ++ ((ac, aL ++ [uc]) :: wtI (ac, aL) (uL.take (j + 1))))) w5 ∧ (u6.ownBlock ≠ some bt ∧ w5.heap[bt]? = some (.cells #[.string ⟨s0.toArray⟩, .slice y m c] 71 (0, 0))) ∧ (u6.ownBlock ≠ some wo.heap.size ∧ w5.heap[wo.heap.size]? = some (.cells #[.string ⟨ac.toArray⟩, .slice aq na ak] 71 (0, 0)))) := by
                    unfold Hid
                    rw [HST.out, if_neg (by simp), List.append_nil]
                    exact ⟨HR.out.1.below HB5.out, ⟨HR.out.2.1.1, keepblk3 HB5.out HR.out.2.1.2⟩, HR.out.2.2.1, keepblk3 HB5.out HR.out.2.2.2⟩
                  clear hk5
                  go_wp2_with fail
                  go_roundw
                  case rel => exact ⟨j + 1, Z, q0, s0, y, m, c, by go_num, rfl, by omega, HX⟩
                  case measure => simp [intOf]; omega
                | true =>
                  have HTE : Hid (∀ (W : World) (p : Option Addr) (c : Nat), IRSt W p (aL) → Calls Tryz.prog 52 #[.string ⟨M.toArray⟩, .slice p na c] W fun e w' => Below W.heap.size W w' ∧ ((setO M (aL) = none ∧ e = .returned (.tuple #[.agg #[.string ⟨#[]⟩, .slice none 0 0], .bool false])) ∨ ∃ R v, setO M (aL) = some R ∧ e = .returned (.tuple #[.agg #[.string ⟨M.toArray⟩, v], .bool true]) ∧ w'.ownsRow W.heap.size 9 1 v R.length (stx (srtT R)))) := fun W p c hr => term_any M aL na p c W HNA.out (by omega) gM.out HZA.out.2.2.2.2 hr
                  have HIA : Hid (IRSt w5 aq aL) := HZA.out.2.1.later (bel0 HBW2.out HB5.out)
                  have hc8x := hk5.1.2
                  have HST3 : Hid (stD (wtN ((Z1.take k).map ZT.cont) uc uL ++ ((ac, aL ++ [uc]) :: wtI (ac, aL) (uL.take (j + 1)))) = stD (wtN ((Z1.take k).map ZT.cont) uc uL ++ ((ac, aL ++ [uc]) :: wtI (ac, aL) (uL.take j))) ++ stD [(M, aL)]) := by
                    unfold Hid
                    rw [HST.out, if_pos (by first | rfl | trivial), ← List.cons_append, ← List.append_assoc, stD_app]
                  cases hso : setO M aL with
                  | none =>
                    have HT2 : Hid (∀ (W : World) (p : Option Addr) (c : Nat), IRSt W p (aL) → Calls Tryz.prog 52 #[.string ⟨M.toArray⟩, .slice p na c] W fun e w' => e = .returned (.tuple #[.agg #[.string ⟨#[]⟩, .slice none 0 0], .bool false]) ∧ Below W.heap.size W w') := fun W p c hr => (HTE.out W p c hr).mono (fun e w' h => ⟨(h.2.resolve_right (fun ⟨R, v, hR, _⟩ => by rw [hso] at hR; cases hR)).2, h.1⟩)
                    have HST2 : Hid (stD (wtN ((Z1.take k).map ZT.cont) uc uL ++ ((ac, aL ++ [uc]) :: wtI (ac, aL) (uL.take (j + 1)))) = stD (wtN ((Z1.take k).map ZT.cont) uc uL ++ ((ac, aL ++ [uc]) :: wtI (ac, aL) (uL.take j)))) := by
                      unfold Hid
                      rw [HST3.out, stD_sing, hso]
                      simp
                    clear HTE hso HST HST3 hk5
                    go_wp2_with fail
                    refine (HT2.out _ _ _ HIA.out).mono ?_
                    rintro e w6 ⟨rfl, hb6⟩
                    have ht6 := keepblk3 (bel0 HB5.out hb6) HR.out.2.1.2
                    obtain ⟨hct6, hft6⟩ := cells_block ht6
                    have HX : Hid (DZ wA u6 Z (stD (wtN ((Z1.take k).map ZT.cont) uc uL ++ ((ac, aL ++ [uc]) :: wtI (ac, aL) (uL.take (j + 1))))) ((w6.setCell ⟨bt, 0, none⟩ (.string ⟨#[]⟩)).setCell ⟨bt, 1, none⟩ (.slice none 0 0)) ∧ (u6.ownBlock ≠ some bt ∧ ((w6.setCell ⟨bt, 0, none⟩ (.string ⟨#[]⟩)).setCell ⟨bt, 1, none⟩ (.slice none 0 0)).heap[bt]? = some (.cells #[.string ⟨#[]⟩, .slice none 0 0] 71 (0, 0))) ∧ (u6.ownBlock ≠ some wo.heap.size ∧ ((w6.setCell ⟨bt, 0, none⟩ (.string ⟨#[]⟩)).setCell ⟨bt, 1, none⟩ (.slice none 0 0)).heap[wo.heap.size]? = some (.cells #[.string ⟨ac.toArray⟩, .slice aq na ak] 71 (0, 0)))) := by
                      unfold Hid
                      rw [HST2.out]
                      refine ⟨(HR.out.1.below (bel0 HB5.out hb6)).put2 ht6 HR.out.2.1.1 HBB.out.1 _ _, ⟨HR.out.2.1.1, set2_get _ _ ht6⟩, HR.out.2.2.1, ?_⟩
                      rw [heap_setCell_other _ _ _ _ (fun e => HBB.out.2 e), heap_setCell_other _ _ _ _ (fun e => HBB.out.2 e)]
                      exact keepblk3 (bel0 HB5.out hb6) HR.out.2.2.2
                    clear hb6 ht6 hc8x
                    go_wp2_with fail
                    go_roundw
                    case rel => exact ⟨j + 1, Z, false, [], none, 0, 0, by go_num, rfl, by omega, HX⟩
                    case measure => simp [intOf]; omega
                  | some R =>
                    obtain ⟨S, hS⟩ : ∃ S, srtT R = S := ⟨_, rfl⟩
                    obtain ⟨nS, hnS⟩ : ∃ nS, R.length = nS := ⟨_, rfl⟩
                    have HSL : Hid (S.length = nS) := by unfold Hid; rw [← hS, srtT_len, hnS]
                    have hnS2 : nS ≤ 256 := by
                      have h1 := setO_len hso
                      have h2 := (show aL.length ≤ 128 from HZA.out.2.2.1)
                      omega
                    have HSG : Hid (good M = true ∧ ∀ t ∈ S, good t = true) := ⟨gM.out, fun t ht => by
                      rw [← hS] at ht
                      have h1 := (srtT_perm R).mem_iff.1 ht
                      have h2 := (put_some hso).1
                      have h3 : t ∈ putL (lesL M (aL)) := by rw [h2]; exact (srtT_perm R).mem_iff.2 h1
                      exact lesL_good gM.out HZA.out.2.2.2.2 t (putL_mem h3)⟩

                    have HT2 : Hid (∀ (W : World) (p : Option Addr) (c : Nat), IRSt W p (aL) → Calls Tryz.prog 52 #[.string ⟨M.toArray⟩, .slice p na c] W fun e w' => ∃ pv cv, e = .returned (.tuple #[.agg #[.string ⟨M.toArray⟩, .slice pv nS cv], .bool true]) ∧ Below W.heap.size W w' ∧ w'.ownsRow W.heap.size 9 1 (.slice pv nS cv) nS (stx S)) := fun W p c hr => (HTE.out W p c hr).mono (fun e w' h => by
                      rcases h with ⟨h1, ⟨h2, _⟩ | ⟨R2, v, h2, h3, h4⟩⟩
                      · rw [hso] at h2; cases h2
                      · rw [hso] at h2
                        obtain rfl := Option.some.inj h2
                        rw [hnS, hS] at h4
                        obtain ⟨pv, cv, rfl⟩ := shapeQ1 h4
                        exact ⟨pv, cv, h3, h1, h4⟩)
                    have HST2 : Hid (stD (wtN ((Z1.take k).map ZT.cont) uc uL ++ ((ac, aL ++ [uc]) :: wtI (ac, aL) (uL.take (j + 1)))) = stD (wtN ((Z1.take k).map ZT.cont) uc uL ++ ((ac, aL ++ [uc]) :: wtI (ac, aL) (uL.take j))) ++ [(M, S)]) := by
                      unfold Hid
                      rw [HST3.out, stD_sing, hso, ← hS]
                    clear HTE hso HST HST3 hk5 hS hnS
                    go_wp2_with fail
                    refine (HT2.out _ _ _ HIA.out).mono ?_
                    rintro e w6 ⟨pv, cv, rfl, hb6, o6⟩
                    have ht6 := keepblk3 (bel0 HB5.out hb6) HR.out.2.1.2
                    obtain ⟨hct6, hft6⟩ := cells_block ht6
                    go_upto_region 17 with fail
                    have HX0 : Hid (DZ wA u6 Z (stD (wtN ((Z1.take k).map ZT.cont) uc uL ++ ((ac, aL ++ [uc]) :: wtI (ac, aL) (uL.take j)))) ((w6.setCell ⟨bt, 0, none⟩ (.string ⟨M.toArray⟩)).setCell ⟨bt, 1, none⟩ (.slice pv nS cv)) ∧ ((u6.ownBlock ≠ some bt ∧ ((w6.setCell ⟨bt, 0, none⟩ (.string ⟨M.toArray⟩)).setCell ⟨bt, 1, none⟩ (.slice pv nS cv)).heap[bt]? = some (.cells #[.string ⟨M.toArray⟩, .slice pv nS cv] 71 (0, 0))) ∧ (u6.ownBlock ≠ some wo.heap.size ∧ ((w6.setCell ⟨bt, 0, none⟩ (.string ⟨M.toArray⟩)).setCell ⟨bt, 1, none⟩ (.slice pv nS cv)).heap[wo.heap.size]? = some (.cells #[.string ⟨ac.toArray⟩, .slice aq na ak] 71 (0, 0)))) ∧ ((w6.setCell ⟨bt, 0, none⟩ (.string ⟨M.toArray⟩)).setCell ⟨bt, 1, none⟩ (.slice pv nS cv)).ownsRow 0 9 1 (.slice pv nS cv) nS (stx S)) := by
                      refine ⟨(HR.out.1.below (bel0 HB5.out hb6)).put2 ht6 HR.out.2.1.1 HBB.out.1 _ _, ⟨⟨HR.out.2.1.1, set2_get _ _ ht6⟩, HR.out.2.2.1, ?_⟩, ?_⟩
                      · rw [heap_setCell_other _ _ _ _ (fun e => HBB.out.2 e), heap_setCell_other _ _ _ _ (fun e => HBB.out.2 e)]
                        exact keepblk3 (bel0 HB5.out hb6) HR.out.2.2.2
                      · refine own_base (o6.kept (gr2 _ _ _ _) (.inr (fun e => ?_))) (Nat.zero_le _)
                        have h1 := (o6.lt _ e).1
                        have h3 := lt_of_get3 (keepblk3 HB5.out HR.out.2.1.2)
                        omega
                    obtain ⟨X, hX⟩ : ∃ X, ((w6.setCell ⟨bt, 0, none⟩ (.string ⟨M.toArray⟩)).setCell ⟨bt, 1, none⟩ (.slice pv nS cv)) = X := ⟨_, rfl⟩
                    rw [hX] at HX0 ⊢
                    have HDX : Hid (DZ wA u6 Z (stD (wtN ((Z1.take k).map ZT.cont) uc uL ++ ((ac, aL ++ [uc]) :: wtI (ac, aL) (uL.take j)))) X) := HX0.out.1
                    have HBT : Hid ((u6.ownBlock ≠ some bt ∧ X.heap[bt]? = some (.cells #[.string ⟨M.toArray⟩, .slice pv nS cv] 71 (0, 0))) ∧ (u6.ownBlock ≠ some wo.heap.size ∧ X.heap[wo.heap.size]? = some (.cells #[.string ⟨ac.toArray⟩, .slice aq na ak] 71 (0, 0)))) := HX0.out.2.1
                    have HOX : Hid (X.ownsRow 0 9 1 (.slice pv nS cv) nS (stx S)) := HX0.out.2.2
                    obtain ⟨hcT, -⟩ := cells_block HBT.out.1.2
                    have oZ := HDX.out.2.1
                    have hXs := HDX.out.2.2.2.size
                    have hZl : Z.length ≤ 20000 := by
                      have h := wt_most Z1 uc uL k j (ac, aL) (ac, aL ++ [uc]) (by rw [HN.out.1]; exact hb1) (by rw [HN.out.2]; exact hs2)
                      rw [← HDX.out.1, List.length_map] at h
                      exact h
                    clear hX HX0 hb6 ht6 hct6 hft6 o6 hc8x HR
                    go_wp2_with (at_builtin; refine wpList_append_own_at _ rfl _ _ 25 rfl wA.heap.size 71 iT _ 2 40 Tryz.underlying25 hiT hzT0 hzT1 hzT2 rfl (by decide) _ _ _ rfl (oZ.alloc _) ⟨_, 0, none⟩ 1 1 [.string ⟨M.toArray⟩, .slice pv nS cv] rfl rfl (World.news_of_block (cs := #[.string ⟨M.toArray⟩, .slice pv nS cv]) (t := 71) (fr := (0, 0)) (alloc_get _ _)) (by simp [Value.oneCell']) (by unfold maxLen; omega) (by omega) (by simp; omega) ?_)
                    intro v8 w8 o8 g8 _ hob
                    have HD8 : Hid (DZ wA v8 (Z ++ [⟨M, pv, cv, S⟩]) (stD (wtN ((Z1.take k).map ZT.cont) uc uL ++ ((ac, aL ++ [uc]) :: wtI (ac, aL) (uL.take (j + 1))))) w8 ∧ (v8.ownBlock ≠ some bt ∧ w8.heap[bt]? = some (.cells #[.string ⟨M.toArray⟩, .slice pv nS cv] 71 (0, 0))) ∧ (v8.ownBlock ≠ some wo.heap.size ∧ w8.heap[wo.heap.size]? = some (.cells #[.string ⟨ac.toArray⟩, .slice aq na ak] 71 (0, 0)))) := by
                      have hS := HSL.out
                      refine ⟨⟨?_, ?_, ?_, ?_⟩, ⟨app_ne HBT.out.1.2 HBT.out.1.1 hob, app_keep HBT.out.1.2 HBT.out.1.1 g8⟩, ⟨app_ne HBT.out.2.2 HBT.out.2.1 hob, app_keep HBT.out.2.2 HBT.out.2.1 g8⟩⟩
                      · rw [HST2.out, List.map_append, HDX.out.1]
                        rfl
                      · rw [rts_snoc, List.length_append, hS]
                        exact o8
                      · intro z hz
                        rcases List.mem_append.1 hz with hz | hz
                        · exact ⟨own_other ((HDX.out.2.2.1 z hz).1.alloc _) (oZ.alloc _) (by decide) g8, (HDX.out.2.2.1 z hz).2⟩
                        · obtain rfl := List.mem_singleton.1 hz
                          refine ⟨?_, ?_, HSG.out.1, HSG.out.2⟩
                          · show w8.ownsRow 0 9 1 (.slice pv S.length cv) S.length (stx S)
                            rw [hS]
                            exact own_other (HOX.out.alloc _) (oZ.alloc _) (by decide) g8
                          · show S.length ≤ 1000000
                            rw [hS]
                            omega
                      · exact (belA HDX.out.2.2.2 _).grown g8 (belA HDX.out.2.2.2 _).size (fun b e => (oZ.lt b e).1)

                    clear o8 g8 oZ hcT HDX HOX hob HBT
                    go_wp2_with fail
                    go_roundw
                    case rel => exact ⟨j + 1, _, true, M, pv, nS, cv, by go_num, rfl, by omega, HD8⟩
                    case measure => simp [intOf]; omega
              · have r1 : ¬ (j : Int) < (n2 : Int) := by omega
                have HX : Hid (DZ wA u6 Z (stD (wtN ((Z1.take (k + 1)).map ZT.cont) uc uL)) wr) := by
                  have hst : (Z1.map ZT.cont)[k]? = some (ac, aL) := by rw [List.getElem?_map, HZA.out.1]; rfl
                  have h := wtN_step (c := uc) (L := uL) hst
                  have h3 := HR.out.1
                  rw [List.take_of_length_le (show uL.length ≤ j by rw [HN.out.2]; omega)] at h3
                  unfold Hid
                  rw [List.map_take, h, ← List.map_take]
                  exact h3
                have hc4 := (cells_block gg1).1
                clear HR gg1 gg2 iR2 hBw
                go_wp2_with fail
                go_roundw
                case rel => exact ⟨k + 1, Z, by go_num, by omega, HX⟩
                case measure => simp [intOf]; omega
      · have j1 : ¬ (k : Int) < (n1 : Int) := by omega
        have e : Z1.take k = Z1 := List.take_of_length_le (by rw [HN.out.1]; omega)
        rw [e] at HDZ
        clear e
        obtain ⟨hZ, oZ, hZZ, hBz⟩ := HDZ.out
        obtain ⟨pZ, cZ, rfl⟩ := shapeQ1 oZ
        have hZl : Z.length ≤ 20000 := by
          have h := wt_all (Z1.map ZT.cont) uc uL (by rw [List.length_map, HN.out.1]; exact hb1) (by rw [HN.out.2]; exact hs2)
          rw [← hZ, List.length_map] at h
          exact h
        have HFO : Hid (Calls Tryz.prog 42 #[.int .i64 b, .slice pZ Z.length cZ] wr fun e w' => ∃ V, e = .returned (.agg #[.int .i64 b, V]) ∧ RSR w' V (frmD (topC (Z.map ZT.cont))) ∧ Below wr.heap.size wr w') := dform_any b Z Z.length pZ cZ wr rfl (by omega) (IRR_own oZ rfl) (fun z hz => ⟨IRSt_own (hZZ z hz).1 rfl, (hZZ z hz).2⟩)
        rw [hZ, HFR.out] at HFO
        have HBz : Hid (Below wA.heap.size wA wr) := hBz
        obtain ⟨nZ, hnZ⟩ : ∃ n, Z.length = n := ⟨_, rfl⟩
        rw [hnZ] at HFO ⊢
        clear hZ oZ hZZ hBz HDZ gg1 gg2 iR1 iR2 hBw hnZ hZl
        go_wp2_with fail
        refine HFO.out.mono ?_
        rintro e w10 ⟨V10, rfl, s10, hb10⟩
        obtain ⟨p8, c8, rfl⟩ := s10.shape
        obtain ⟨n8, hn8⟩ : ∃ n, (ordT (topC (stl (wtN (Z1.map ZT.cont) uc uL)))).length = n := ⟨_, rfl⟩
        rw [hn8] at s10 ⊢
        have HS10 : Hid (RSR w10 (.slice p8 n8 c8) (ordT (topC (stl (wtN (Z1.map ZT.cont) uc uL)))) ∧ Below wA.heap.size wA w10) := ⟨s10, bel0 HBz.out hb10⟩
        clear s10 hb10 hc4 hc5 HFO HBz
        go_wp2_with fail
        refine (HBO.out w10 _ HS10.out.1 HSZ.out).mono ?_
        rintro e w11 ⟨⟨hgt, rfl⟩ | ⟨hle, rfl⟩, hb11⟩
        · have e1 : je = 3 := by rw [HM2.out, if_neg (by omega)]
          subst e1
          have e2 : jb = 0 := HMB.out
          subst e2
          have e3 : jt = [] := HMT.out
          subst e3
          obtain ⟨-, -, k3, -, -, hB1⟩ := HD.out w11 (bel0 HS10.out.2 hb11)
          obtain ⟨hc3, hf3⟩ := cells_block k3
          have HP : Hid (((w11.setCell ⟨w.heap.size + 1 + 1, 0, none⟩ (.int .i64 0)).setCell ⟨w.heap.size + 1 + 1, 1, none⟩ (.slice none 0 0)).heap[w.heap.size + 1 + 1]? = some (.cells #[.int .i64 0, .slice none 0 0] 27 (0, 0)) ∧ Below w.heap.size w ((w11.setCell ⟨w.heap.size + 1 + 1, 0, none⟩ (.int .i64 0)).setCell ⟨w.heap.size + 1 + 1, 1, none⟩ (.slice none 0 0))) := ⟨set2_get _ _ k3, (hB1.setCell (by simp; omega) _).setCell (by simp; omega) _⟩
          clear k3 hb11 hB1 hgt HM2 HMB HMT
          go_wp2_with fail
          refine bodyPost_ret (v := .tuple #[.agg #[.int .i64 0, .slice none 0 0], .int .i64 3]) (res_rs2 _ _ (w.heap.size + 1 + 1) _ _ Tryz.results82 rfl HP.out.1) rfl ?_
          exact ⟨_, rfl, RSR_nil _, HP.out.2⟩
        · have e1 : je = 0 := by rw [HM2.out, if_pos (by omega)]
          subst e1
          have e2 : jb = b := HMB.out
          subst e2
          have e3 : jt = ordT (topC (stl (wtN (Z1.map ZT.cont) uc uL))) := HMT.out
          subst e3
          obtain ⟨-, -, k3, -, -, hB1⟩ := HD.out w11 (bel0 HS10.out.2 hb11)
          obtain ⟨hc3, hf3⟩ := cells_block k3
          have HP : Hid (((w11.setCell ⟨w.heap.size + 1 + 1, 0, none⟩ (.int .i64 jb)).setCell ⟨w.heap.size + 1 + 1, 1, none⟩ (.slice p8 n8 c8)).heap[w.heap.size + 1 + 1]? = some (.cells #[.int .i64 jb, .slice p8 n8 c8] 27 (0, 0)) ∧ RSR ((w11.setCell ⟨w.heap.size + 1 + 1, 0, none⟩ (.int .i64 jb)).setCell ⟨w.heap.size + 1 + 1, 1, none⟩ (.slice p8 n8 c8)) (.slice p8 n8 c8) (ordT (topC (stl (wtN (Z1.map ZT.cont) uc uL)))) ∧ Below w.heap.size w ((w11.setCell ⟨w.heap.size + 1 + 1, 0, none⟩ (.int .i64 jb)).setCell ⟨w.heap.size + 1 + 1, 1, none⟩ (.slice p8 n8 c8))) := ⟨set2_get _ _ k3, (HS10.out.1.later hb11).kept (gr2 _ _ _ _) (no_str2 k3), (hB1.setCell (by simp; omega) _).setCell (by simp; omega) _⟩
          clear k3 hb11 hB1 hle HM2 HMB HMT
          go_wp2_with fail
          refine bodyPost_ret (v := .tuple #[.agg #[.int .i64 jb, .slice p8 n8 c8], .int .i64 0]) (res_rs2 _ _ (w.heap.size + 1 + 1) _ _ Tryz.results82 rfl HP.out.1) rfl ?_
          exact ⟨_, rfl, HP.out.2⟩
end Go.Proofs.YtccbfaembcefjaaGreatDoor

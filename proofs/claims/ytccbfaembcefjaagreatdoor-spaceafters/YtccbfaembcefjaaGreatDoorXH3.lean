import Derived.Test.YtccbfaembcefjaaGreatDoorXH2
import Derived.Test.YtccbfaembcefjaaGreatDoorXG1
import Derived.Test.YtccbfaembcefjaaGreatDoorXF1
namespace Go.Proofs.YtccbfaembcefjaaGreatDoor
open Go.RowKit Go.Shelf
theorem stl_af (r : List UInt8) (L : List (List UInt8)) : stl (afX r L) = afX r L := by
  unfold stl afX
  rw [List.filterMap_map]
  induction L with
  | nil => rfl
  | cons c L ih =>
    rw [List.filterMap_cons, List.map_cons]
    have e : ((fun t : List UInt8 × List (List UInt8) => (setO t.1 t.2).map (fun R => (t.1, R))) ∘ fun c => (wtT c r, [])) c = some (wtT c r, []) := by
      show (setO (wtT c r) []).map (fun R => (wtT c r, R)) = _
      rw [show setO (wtT c r) [] = some [] from rfl]
      rfl
    rw [e]
    simp only [ih]
theorem stD_af (r : List UInt8) (L : List (List UInt8)) : stD (afX r L) = afX r L := by
  rw [stD_eq, stl_af]
  unfold afX
  rw [List.map_map]
  refine List.map_congr_left (fun c _ => ?_)
  show (wtT c r, srtT []) = _
  rw [srtT_id List.Pairwise.nil]
theorem szC_af (r : List UInt8) (L : List (List UInt8)) : szC (afX r L) = L.length := by
  unfold afX
  induction L with
  | nil => rfl
  | cons c L ih =>
    rw [List.map_cons]
    show (1 + 0) + szC (L.map fun c => (wtT c r, [])) = _
    rw [ih, List.length_cons]
    omega
theorem IRSt_nil (w : World) (p : Option Addr) : IRSt w p [] := fun _ _ k t h => by cases h
set_option maxRecDepth 100000 in
set_option maxHeartbeats 8000000 in
theorem dAfter_any (b lim : Int) (A : List (List UInt8 × List (List UInt8))) (r : List UInt8) (V1 : Value) (w : World) (h1 : RSR w V1 A) (hs1 : szC A ≤ 128) (hg : gdS A) (gr : good r = true) (hb0 : 0 ≤ b) (hwd : ∀ x ∈ xpL b lim A, (x.length : Int) = b ∧ x ≠ [] ∧ x.length ≤ 256) :
    Calls Tryz.prog 16 #[.agg #[.int .i64 b, V1], .string ⟨r.toArray⟩, .int .i64 lim] w fun e w' => ∃ V, e = .returned (.tuple #[.agg #[.int .i64 (afB b lim A r), V], .int .i64 (afE b lim A r)]) ∧ RSR w' V (afT b lim A r) ∧ Below w.heap.size w w' := by
  obtain ⟨iT, hiT, hzT0, hzT1, hzT2⟩ := info_parts info_rtm
  obtain ⟨p1, k1, rfl⟩ := h1.shape
  obtain ⟨n1, hn1⟩ : ∃ n, A.length = n := ⟨_, rfl⟩
  rw [hn1] at h1 ⊢
  obtain ⟨w2, hw2⟩ : ∃ w2, (w.alloc (.cells #[.int .i64 b, .slice p1 n1 k1] 27 (0, 0))).alloc (.cells #[.int .i64 0, .slice none 0 0] 27 (0, 0)) = w2 := ⟨_, rfl⟩
  have d1 : w2.heap[w.heap.size]? = some (.cells #[.int .i64 b, .slice p1 n1 k1] 27 (0, 0)) := by rw [← hw2]; exact alw_0 _ _ _
  have d3 : w2.heap[w.heap.size + 1]? = some (.cells #[.int .i64 0, .slice none 0 0] 27 (0, 0)) := by rw [← hw2]; exact alw_1 _ _ _
  have hB2 : Below w.heap.size w w2 := by rw [← hw2]; exact belA (belA (Below.refl _ _) _) _
  have HK : Hid (∀ W, Below w2.heap.size w2 W → (∀ j, W.cell? ⟨w.heap.size, j, none⟩ = (#[.int .i64 b, .slice p1 n1 k1] : Array Value)[j]?)) := fun W hW => (cells_block (keepblk3 hW d1)).1
  have HRS : Hid (∀ W, Below w2.heap.size w2 W → W.heap[w.heap.size + 1]? = some (.cells #[.int .i64 0, .slice none 0 0] 27 (0, 0)) ∧ Below w.heap.size w W) := fun W hW => ⟨keepblk3 hW d3, bel0 hB2 hW⟩
  have HXP : Hid (Calls Tryz.prog 9 #[.agg #[.int .i64 b, .slice p1 n1 k1], .int .i64 lim] w2 fun e w' => ∃ v, e = .returned (.tuple #[v, .int .i64 (xpE b lim A)]) ∧ w'.ownsRow w2.heap.size 9 1 v (xpL b lim A).length (stx (xpL b lim A)) ∧ Below w2.heap.size w2 w') := by
    refine (dExpand_any b lim _ A w2 (h1.later hB2) hg hs1).mono ?_
    rintro e w' ⟨v, E, L, rfl, ⟨rfl, rfl⟩, h1, h2⟩
    exact ⟨v, rfl, h1, h2⟩
  have hrs : (⟨r.toArray⟩ : ByteArray).size = r.length := by simp [ByteArray.size]
  obtain ⟨gL, hL⟩ := xpG (b := b) (lim := lim) hg
  obtain ⟨aB, haB⟩ : ∃ x, afB b lim A r = x := ⟨_, rfl⟩
  obtain ⟨aE, haE⟩ : ∃ x, afE b lim A r = x := ⟨_, rfl⟩
  obtain ⟨aT, haT⟩ : ∃ x, afT b lim A r = x := ⟨_, rfl⟩
  have cfit := af_fit (b := b) (lim := lim) (Ts := A) (r := r)
  have cxp := af_xp (b := b) (lim := lim) (Ts := A) (r := r)
  have cbig := af_big (b := b) (lim := lim) (Ts := A) (r := r)
  have cok := af_ok (b := b) (lim := lim) (Ts := A) (r := r)
  unfold AFR at cfit cxp cbig cok
  rw [haB, haE, haT] at cfit cxp cbig cok ⊢
  obtain ⟨E, hE⟩ : ∃ B, xpE b lim A = B := ⟨_, rfl⟩
  obtain ⟨L, hLL⟩ : ∃ B, xpL b lim A = B := ⟨_, rfl⟩
  rw [hE] at HXP cxp cbig cok
  rw [hLL] at HXP cbig cok gL hL hwd
  obtain ⟨n, hn⟩ : ∃ n, L.length = n := ⟨_, rfl⟩
  rw [hn] at HXP hL
  have HC : Hid (((!(b == 0) && (b == (r.length : Int))) = false → aB = 0 ∧ aE = 11 ∧ aT = []) ∧ ((!(b == 0) && (b == (r.length : Int))) = true → ¬ E = 0 → aB = 0 ∧ aE = E ∧ aT = []) ∧ ((!(b == 0) && (b == (r.length : Int))) = true → E = 0 → ¬ szC (topC (stl (afX r L))) ≤ 128 → aB = 0 ∧ aE = 3 ∧ aT = []) ∧ ((!(b == 0) && (b == (r.length : Int))) = true → E = 0 → szC (topC (stl (afX r L))) ≤ 128 → aB = b ∧ aE = 0 ∧ aT = ordT (topC (stl (afX r L))))) := ⟨cfit, cxp, cbig, cok⟩
  have HN : Hid (L.length = n ∧ (∀ x ∈ L, good x = true) ∧ good r = true ∧ (∀ x ∈ L, (x.length : Int) = b ∧ x ≠ [] ∧ x.length ≤ 256)) := ⟨hn, gL, gr, hwd⟩
  have hnn : n ≤ 2048 := hL
  have hc1 := HK.out w2 (Below.refl _ _)
  obtain ⟨hc3, hf3⟩ := cells_block d3
  clear hB2 d1 h1 hs1 hg gr hn1 haB haE haT cfit cxp cbig cok hE hLL hn gL hL hwd
  by_cases hfit : b = 0 ∨ ¬ (r.length : Int) = b
  · obtain ⟨e1, e2, e3⟩ := HC.out.1 (by
      rcases hfit with h | h
      · rw [h]; rfl
      · have : (b == (r.length : Int)) = false := by
          rw [beq_eq_false_iff_ne]
          exact fun e => h e.symm
        rw [this]; simp)
    subst e1 e2 e3
    obtain ⟨k3, hB1⟩ := HRS.out w2 (Below.refl _ _)
    have HP : Hid (((w2.setCell ⟨w.heap.size + 1, 0, none⟩ (.int .i64 0)).setCell ⟨w.heap.size + 1, 1, none⟩ (.slice none 0 0)).heap[w.heap.size + 1]? = some (.cells #[.int .i64 0, .slice none 0 0] 27 (0, 0)) ∧ Below w.heap.size w ((w2.setCell ⟨w.heap.size + 1, 0, none⟩ (.int .i64 0)).setCell ⟨w.heap.size + 1, 1, none⟩ (.slice none 0 0))) := ⟨set2_get _ _ k3, (hB1.setCell (by simp) _).setCell (by simp) _⟩
    clear k3 hB1 d3 HXP HC
    by_cases hz : b = 0
    · subst hz
      clear hfit
      go_enter Tryz.func16, Tryz.ntmps16
      go_wp2_with fail
      refine bodyPost_ret (v := .tuple #[.agg #[.int .i64 0, .slice none 0 0], .int .i64 11]) (res_rs2 _ _ (w.heap.size + 1) _ _ Tryz.results16 rfl HP.out.1) rfl ?_
      exact ⟨_, rfl, RSR_nil _, HP.out.2⟩
    · have hz1 : (b == 0) = false := by simpa using hz
      have hz2 : ((r.length : Int) != b) = true := by
        rw [bne_iff_ne]
        rcases hfit with h | h
        · exact absurd h hz
        · exact h
      clear hfit hz
      go_enter Tryz.func16, Tryz.ntmps16
      go_wp2_with fail
      refine bodyPost_ret (v := .tuple #[.agg #[.int .i64 0, .slice none 0 0], .int .i64 11]) (res_rs2 _ _ (w.heap.size + 1) _ _ Tryz.results16 rfl HP.out.1) rfl ?_
      exact ⟨_, rfl, RSR_nil _, HP.out.2⟩
  · have hz : ¬ b = 0 := fun h => hfit (.inl h)
    have hrl : (r.length : Int) = b := Decidable.byContradiction (fun h => hfit (.inr h))
    have hq : (!(b == 0) && (b == (r.length : Int))) = true := by
      rw [hrl]
      simp [hz]
    have hz1 : (b == 0) = false := by simpa using hz
    have hz2 : ((r.length : Int) != b) = false := by rw [hrl]; simp
    have HQ : Hid ((!(b == 0) && (b == (r.length : Int))) = true ∧ (r.length : Int) = b) := ⟨hq, hrl⟩
    clear hfit hz hrl hq
    go_enter Tryz.func16, Tryz.ntmps16
    go_wp2_with fail
    refine HXP.out.mono ?_
    rintro e w3 ⟨v3, rfl, o3, hb3⟩
    obtain ⟨p3, k3, rfl⟩ := shapeQ1 o3
    have HO3 : Hid (IRSt w3 p3 L ∧ Below w2.heap.size w2 w3) := ⟨IRSt_own o3 HN.out.1, hb3⟩
    have hs23 := hb3.size
    clear HXP hc1 hc3 hf3 hw2 o3 hb3 d3
    by_cases hE : E = 0
    · subst hE
      go_wp2_with fail
      go_loopw [10, 11] (fun v10 v11 wr => ∃ i : Nat, v11 = .int .i64 (i : Int) ∧ i ≤ n ∧ Hid (wr.ownsRow w3.heap.size 71 2 v10 i (rts (afZ r (L.take i))) ∧ Below w3.heap.size w3 wr)) (fun _ v11 _ => n - (intOf v11).toNat)
      case atStart => exact ⟨0, rfl, Nat.zero_le _, World.ownsRow_nil _ _ _ _, Below.refl _ _⟩
      case round =>
        obtain ⟨i, rfl, hi, hrel⟩ := hrel
        obtain ⟨ho, hB⟩ := hrel.out
        clear hrel
        obtain ⟨p4, k4, rfl⟩ := shapeQ1 ho
        by_cases hlt : i < n
        · have j1 : (i : Int) < (n : Int) := by omega
          have j0 : (0 : Int) ≤ (i : Int) := by omega
          obtain ⟨x, hx⟩ : ∃ x, L[i]? = some x := ⟨_, List.getElem?_eq_getElem (by rw [HN.out.1]; exact hlt)⟩
          obtain ⟨g, o0, rfl, c0⟩ := HO3.out.1 wr hB i x hx
          obtain ⟨hx1, hx2, hx3⟩ := HN.out.2.2.2 x (List.mem_of_getElem? hx)
          have hxr : x.length = r.length := by have := HQ.out.2; omega
          obtain ⟨y, hy⟩ : ∃ y, wtT x r = y := ⟨_, rfl⟩
          have hwr : wrT x r = y := by
            rw [← hy]
            unfold wtT
            rw [if_pos]
            unfold fitB
            cases x with
            | nil => exact absurd rfl hx2
            | cons a t => simp at hxr ⊢; omega
          have HWR := dwritten_any x r wr hx3 hxr
          rw [hwr] at HWR
          have HT : Hid (afZ r (L.take (i + 1)) = afZ r (L.take i) ++ [⟨y, none, 0, []⟩]) := by
            unfold Hid
            rw [afZ_take hx, hy]
          have HO : Hid (wr.ownsRow w3.heap.size 71 2 (.slice p4 i k4) i (rts (afZ r (L.take i))) ∧ Below w3.heap.size w3 wr) := ⟨ho, hB⟩
          clear ho hB hx hy hwr hx1 hx2 hx3 hxr
          go_wp2_with fail
          refine HWR.mono ?_
          rintro e w5 ⟨rfl, hb5⟩
          have o5 := own_belQ HO.out.1 hb5
          have hB5 := bel0 HO.out.2 hb5
          have hs5 := hB5.size
          clear c0 hb5 HWR
          go_wp2_with (at_builtin; refine wpList_append_own _ rfl _ _ 25 rfl w3.heap.size 71 iT _ 2 40 Tryz.underlying25 hiT hzT0 hzT1 hzT2 rfl (by decide) _ _ _ rfl (o5.alloc _) ⟨_, 0, none⟩ 1 1 [.string ⟨y.toArray⟩, .slice none 0 0] rfl rfl (World.news_of_block (cs := #[.string ⟨y.toArray⟩, .slice none 0 0]) (t := 71) (fr := (0, 0)) (alloc_get _ _)) (by simp [Value.oneCell']) (by unfold maxLen; omega) (by omega) (by simp; omega) ?_; intro v8 w8 o8 g8 _)
          obtain ⟨p8, k8, rfl⟩ := shapeQ1 o8
          have HZ : Hid (w8.ownsRow w3.heap.size 71 2 (.slice p8 (i + 1) k8) (i + 1) (rts (afZ r (L.take (i + 1)))) ∧ Below w3.heap.size w3 w8) := by
            refine ⟨?_, (belA hB5 _).grown g8 (by simp; omega) (fun k e => (o5.lt k e).1)⟩
            rw [HT.out, rts_snoc]
            exact o8
          clear o5 hB5 o8 g8 HO HT
          go_wp2_with fail
          go_roundw
          case rel => exact ⟨i + 1, by go_num, by omega, HZ⟩
          case measure => simp [intOf]; omega
        · have j1 : ¬ (i : Int) < (n : Int) := by omega
          obtain rfl : i = n := by omega
          have et : L.take i = L := List.take_of_length_le (by rw [HN.out.1]; exact Nat.le_refl _)
          rw [et] at ho
          have hln : (afZ r L).length = i := by rw [afZ_len]; exact HN.out.1
          have HF := dform_any b (afZ r L) i p4 k4 wr hln (by omega) (IRR_own ho hln) (fun z hz => by
            unfold afZ at hz
            obtain ⟨c, hc, rfl⟩ := List.mem_map.1 hz
            exact ⟨IRSt_nil _ _, Nat.zero_le _, good_wtT c r (HN.out.2.1 c hc) HN.out.2.2.1, fun x hx => by cases hx⟩)
          have hfe : frmD (topC (afX r L)) = ordT (topC (stl (afX r L))) := by
            have := frm_eq (afX r L)
            rw [stD_af] at this
            exact this
          rw [afZ_cont, hfe] at HF
          have hszb : szC (ordT (topC (stl (afX r L)))) ≤ 1000000 := by
            rw [szC_ord]
            have h1 := szC_top (afX r L)
            rw [szC_af, HN.out.1] at h1
            omega
          have HSZ : Hid (szC (ordT (topC (stl (afX r L)))) = szC (topC (stl (afX r L)))) := szC_ord _
          have HBr : Hid (Below w2.heap.size w2 wr) := bel0 HO3.out.2 hB
          have hcb := HK.out wr HBr.out
          obtain ⟨X, hX⟩ : ∃ X, ordT (topC (stl (afX r L))) = X := ⟨_, rfl⟩
          rw [hX] at HF hszb HSZ
          have HXX : Hid (ordT (topC (stl (afX r L))) = X ∧ szC X ≤ 1000000) := ⟨hX, hszb⟩
          obtain ⟨m, hm⟩ : ∃ m, X.length = m := ⟨_, rfl⟩
          clear ho hB et hln hfe hszb hX
          go_wp2_with fail
          refine HF.mono ?_
          rintro e w6 ⟨V6, rfl, rv6, hb6⟩
          obtain ⟨p6, k6, rfl⟩ := rv6.shape
          rw [hm] at rv6 ⊢
          have HB6 : Hid (Below w2.heap.size w2 w6) := bel0 HBr.out hb6
          have HRV : Hid (RSR w6 (.slice p6 m k6) X) := rv6
          clear hcb HF rv6 hb6
          go_wp2_with fail
          refine (dbound2 b _ X w6 HRV.out HXX.out.2).mono ?_
          rintro e w7 ⟨⟨hgt, rfl⟩ | ⟨hle, rfl⟩, hb7⟩
          · obtain ⟨e1, e2, e3⟩ := HC.out.2.2.1 HQ.out.1 (by trivial) (by rw [← HSZ.out]; omega)
            subst e1 e2 e3
            obtain ⟨k3, hB1⟩ := HRS.out w7 (bel0 HB6.out hb7)
            obtain ⟨hc3, hf3⟩ := cells_block k3
            have HP : Hid (((w7.setCell ⟨w.heap.size + 1, 0, none⟩ (.int .i64 0)).setCell ⟨w.heap.size + 1, 1, none⟩ (.slice none 0 0)).heap[w.heap.size + 1]? = some (.cells #[.int .i64 0, .slice none 0 0] 27 (0, 0)) ∧ Below w.heap.size w ((w7.setCell ⟨w.heap.size + 1, 0, none⟩ (.int .i64 0)).setCell ⟨w.heap.size + 1, 1, none⟩ (.slice none 0 0))) := ⟨set2_get _ _ k3, (hB1.setCell (by simp) _).setCell (by simp) _⟩
            clear k3 hB1 hb7
            go_wp2_with fail
            refine bodyPost_ret (v := .tuple #[.agg #[.int .i64 0, .slice none 0 0], .int .i64 3]) (res_rs2 _ _ (w.heap.size + 1) _ _ Tryz.results16 rfl HP.out.1) rfl ?_
            exact ⟨_, rfl, RSR_nil _, HP.out.2⟩
          · obtain ⟨e1, e2, e3⟩ := HC.out.2.2.2 HQ.out.1 (by trivial) (by rw [← HSZ.out]; omega)
            rw [HXX.out.1] at e3
            have HE2 : Hid (aB = b ∧ aE = 0 ∧ aT = X) := ⟨e1, e2, e3⟩
            clear e1 e2 e3
            obtain ⟨k3, hB1⟩ := HRS.out w7 (bel0 HB6.out hb7)
            obtain ⟨hc3, hf3⟩ := cells_block k3
            have HP : Hid (((w7.setCell ⟨w.heap.size + 1, 0, none⟩ (.int .i64 b)).setCell ⟨w.heap.size + 1, 1, none⟩ (.slice p6 m k6)).heap[w.heap.size + 1]? = some (.cells #[.int .i64 b, .slice p6 m k6] 27 (0, 0)) ∧ Below w.heap.size w ((w7.setCell ⟨w.heap.size + 1, 0, none⟩ (.int .i64 b)).setCell ⟨w.heap.size + 1, 1, none⟩ (.slice p6 m k6)) ∧ RSR ((w7.setCell ⟨w.heap.size + 1, 0, none⟩ (.int .i64 b)).setCell ⟨w.heap.size + 1, 1, none⟩ (.slice p6 m k6)) (.slice p6 m k6) X) := ⟨set2_get _ _ k3, (hB1.setCell (by simp) _).setCell (by simp) _, (HRV.out.later hb7).kept (gr2 _ _ _ _) (no_str2 k3)⟩
            clear k3 hB1 hb7
            go_wp2_with fail
            refine bodyPost_ret (v := .tuple #[.agg #[.int .i64 b, .slice p6 m k6], .int .i64 0]) (res_rs2 _ _ (w.heap.size + 1) _ _ Tryz.results16 rfl HP.out.1) rfl ?_
            exact ⟨.slice p6 m k6, by rw [HE2.out.1, HE2.out.2.1], by rw [HE2.out.2.2]; exact HP.out.2.2, HP.out.2.1⟩
    · obtain ⟨e1, e2, e3⟩ := HC.out.2.1 HQ.out.1 hE
      subst e1 e3
      have HE2 : Hid (aE = E) := e2
      clear e2
      have hEn : (E != 0) = true := by rw [bne_iff_ne]; exact hE
      obtain ⟨k3', hB1⟩ := HRS.out w3 HO3.out.2
      obtain ⟨hc3, hf3⟩ := cells_block k3'
      have HP : Hid (((w3.setCell ⟨w.heap.size + 1, 0, none⟩ (.int .i64 0)).setCell ⟨w.heap.size + 1, 1, none⟩ (.slice none 0 0)).heap[w.heap.size + 1]? = some (.cells #[.int .i64 0, .slice none 0 0] 27 (0, 0)) ∧ Below w.heap.size w ((w3.setCell ⟨w.heap.size + 1, 0, none⟩ (.int .i64 0)).setCell ⟨w.heap.size + 1, 1, none⟩ (.slice none 0 0))) := ⟨set2_get _ _ k3', (hB1.setCell (by simp) _).setCell (by simp) _⟩
      clear k3' hB1
      go_wp2_with fail
      refine bodyPost_ret (v := .tuple #[.agg #[.int .i64 0, .slice none 0 0], .int .i64 E]) (res_rs2 _ _ (w.heap.size + 1) _ _ Tryz.results16 rfl HP.out.1) rfl ?_
      exact ⟨.slice none 0 0, by rw [HE2.out], RSR_nil _, HP.out.2⟩
end Go.Proofs.YtccbfaembcefjaaGreatDoor

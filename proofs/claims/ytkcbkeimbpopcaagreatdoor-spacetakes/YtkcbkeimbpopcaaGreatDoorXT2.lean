import Derived.Test.YtkcbkeimbpopcaaGreatDoorXT1
import Derived.BigQuiet
namespace Go.Proofs.YtkcbkeimbpopcaaGreatDoor
open Go.RowKit Go.Shelf
/-- one term behind the other is taken away; none: too much -/
def tkA : List (List UInt8 × List (List UInt8)) → List (List UInt8 × List (List UInt8)) → Option (List (List UInt8 × List (List UInt8)))
  | X, [] => some X
  | X, u :: r => if tkE X u.1 u.2 = 0 then tkA (tkT X u.1 u.2) r else none
def mzE (b b2 : Int) (A C : List (List UInt8 × List (List UInt8))) : Int := if (!(b == 0) && (b == b2)) = false then 11 else if (tkA A C).isSome = true then 0 else 3
def mzB (b b2 : Int) (A C : List (List UInt8 × List (List UInt8))) : Int := if mzE b b2 A C = 0 then b else 0
def mzT (b b2 : Int) (A C : List (List UInt8 × List (List UInt8))) : List (List UInt8 × List (List UInt8)) := if mzE b b2 A C = 0 then (tkA A C).getD [] else []
theorem gdC_wt {X : List (List UInt8 × List (List UInt8))} {c : List UInt8} {L : List (List UInt8)} (h : gdC X) (hc : good c = true) (hL : ∀ x ∈ L, good x = true) : gdC (wtN X c L) := fun t ht => by
  unfold wtN at ht
  obtain ⟨x, hx, ht⟩ := List.mem_flatMap.1 ht
  have hgx := h x hx
  rcases List.mem_cons.1 ht with rfl | ht
  · refine ⟨hgx.1, fun y hy => ?_⟩
    rcases List.mem_append.1 hy with hy | hy
    · exact hgx.2 y hy
    · obtain rfl := List.mem_singleton.1 hy
      exact hc
  · unfold wtI at ht
    obtain ⟨n, hn, he⟩ := List.mem_filterMap.1 ht
    split at he
    · cases he
      exact ⟨good_mtT _ _ hgx.1 (hL n hn), hgx.2⟩
    · cases he
theorem tk_ok {X : List (List UInt8 × List (List UInt8))} {c : List UInt8} {L : List (List UInt8)} (h : gdC X) (hc : good c = true) (hL : ∀ x ∈ L, good x = true) : gdC (tkT X c L) ∧ szC (tkT X c L) ≤ 128 := by
  unfold tkT
  split
  · rename_i h0
    have h2 : szC (topC (stl (wtN X c L))) ≤ 128 := by
      unfold tkE at h0
      split at h0
      · exact absurd h0 (by decide)
      · split at h0
        · assumption
        · exact absurd h0 (by decide)
    exact ⟨gdC_ord (gdC_top (gdC_stl (gdC_wt h hc hL))), by rw [szC_ord]; exact h2⟩
  · exact ⟨(fun t h => by cases h), Nat.zero_le _⟩
theorem tkE_or (X : List (List UInt8 × List (List UInt8))) (c : List UInt8) (L : List (List UInt8)) : tkE X c L = 0 ∨ tkE X c L = 3 := by
  unfold tkE
  split
  · exact .inr rfl
  · split
    · exact .inl rfl
    · exact .inr rfl
theorem drop_at {α : Type} {L : List α} {i : Nat} {x : α} (h : L[i]? = some x) : L.drop i = x :: L.drop (i + 1) := by
  obtain ⟨hi, he⟩ := List.getElem?_eq_some_iff.1 h
  rw [List.drop_eq_getElem_cons hi, he]
set_option maxRecDepth 100000 in
set_option maxHeartbeats 8000000 in
theorem dMinus_any (b b2 : Int) (A C : List (List UInt8 × List (List UInt8))) (V1 V2 : Value) (w : World) (h1 : RSR w V1 A) (h2 : RSR w V2 C) (hs1 : szC A ≤ 128) (hs2 : szC C ≤ 128) (hg1 : gdC A) (hg2 : gdC C) (hb : 0 ≤ b) :
    Calls Tryz.prog 25 #[.agg #[.int .i64 b, V1], .agg #[.int .i64 b2, V2]] w fun e w' => ∃ V, e = .returned (.tuple #[.agg #[.int .i64 (mzB b b2 A C), V], .int .i64 (mzE b b2 A C)]) ∧ RSR w' V (mzT b b2 A C) ∧ Below w.heap.size w w' := by
  have hl1 := szC_len A
  have hl2 := szC_len C
  obtain ⟨Z1, p1, k1, rfl, rfl, r1, t1⟩ := h1
  obtain ⟨Z2, p2, k2, rfl, rfl, r2, t2⟩ := h2
  have HM1 : Hid (mzE b b2 (Z1.map ZT.cont) (Z2.map ZT.cont) = if (!(b == 0) && (b == b2)) = false then 11 else if (tkA (Z1.map ZT.cont) (Z2.map ZT.cont)).isSome = true then 0 else 3) := rfl
  have HMB : Hid (mzB b b2 (Z1.map ZT.cont) (Z2.map ZT.cont) = if mzE b b2 (Z1.map ZT.cont) (Z2.map ZT.cont) = 0 then b else 0) := rfl
  have HMT : Hid (mzT b b2 (Z1.map ZT.cont) (Z2.map ZT.cont) = if mzE b b2 (Z1.map ZT.cont) (Z2.map ZT.cont) = 0 then (tkA (Z1.map ZT.cont) (Z2.map ZT.cont)).getD [] else []) := rfl
  rw [List.length_map] at hl1 hl2
  have HR0 : Hid (∀ W, Below w.heap.size w W → RSR W (.slice p1 Z1.length k1) (Z1.map ZT.cont)) := fun W hW => ⟨Z1, p1, k1, rfl, rfl, r1.later hW, fun z hz => (t1 z hz).later hW⟩
  have HGA : Hid (gdC (Z1.map ZT.cont) ∧ szC (Z1.map ZT.cont) ≤ 128) := ⟨hg1, hs1⟩
  have HG2 : Hid (∀ z ∈ Z2, IRSt w z.q z.L ∧ z.L.length ≤ 128 ∧ good z.c = true ∧ ∀ x ∈ z.L, good x = true) := fun z hz => by
    have hm := szC_mem z.cont (List.mem_map_of_mem (f := ZT.cont) hz)
    have e : z.cont.2 = z.L := rfl
    rw [e] at hm
    exact ⟨t2 z hz, by omega, hg2 z.cont (List.mem_map_of_mem (f := ZT.cont) hz)⟩
  obtain ⟨n1, hn1⟩ : ∃ n, Z1.length = n := ⟨_, rfl⟩
  obtain ⟨n2, hn2⟩ : ∃ n, Z2.length = n := ⟨_, rfl⟩
  rw [hn1] at hl1 HR0 ⊢
  rw [hn2] at hl2 ⊢
  obtain ⟨je, hje⟩ : ∃ j, mzE b b2 (Z1.map ZT.cont) (Z2.map ZT.cont) = j := ⟨_, rfl⟩
  obtain ⟨jb, hjb⟩ : ∃ j, mzB b b2 (Z1.map ZT.cont) (Z2.map ZT.cont) = j := ⟨_, rfl⟩
  obtain ⟨jt, hjt⟩ : ∃ j, mzT b b2 (Z1.map ZT.cont) (Z2.map ZT.cont) = j := ⟨_, rfl⟩
  rw [hje] at HM1 HMB HMT
  rw [hjb] at HMB
  rw [hjt] at HMT
  rw [hjb, hje, hjt]
  obtain ⟨wA, hwA⟩ : ∃ wA, (((w.alloc (.cells #[.int .i64 b, .slice p1 n1 k1] 27 (0, 0))).alloc (.cells #[.int .i64 b2, .slice p2 n2 k2] 27 (0, 0))).alloc (.cells #[.int .i64 0, .slice none 0 0] 27 (0, 0))) = wA := ⟨_, rfl⟩
  have hBA : Below w.heap.size w wA := by rw [← hwA]; exact belA (belA (belA (Below.refl _ _) _) _) _
  have d1 : wA.heap[w.heap.size]? = some (.cells #[.int .i64 b, .slice p1 n1 k1] 27 (0, 0)) := by rw [← hwA, Below.heap_alloc _ _ _ (by simp <;> omega)]; exact alw_0 _ _ _
  have d2 : wA.heap[w.heap.size + 1]? = some (.cells #[.int .i64 b2, .slice p2 n2 k2] 27 (0, 0)) := by rw [← hwA, Below.heap_alloc _ _ _ (by simp <;> omega)]; exact alw_1 _ _ _
  have d3 : wA.heap[w.heap.size + 1 + 1]? = some (.cells #[.int .i64 0, .slice none 0 0] 27 (0, 0)) := by rw [← hwA]; have := alloc_get ((w.alloc (.cells #[.int .i64 b, .slice p1 n1 k1] 27 (0, 0))).alloc (.cells #[.int .i64 b2, .slice p2 n2 k2] 27 (0, 0))) (.cells #[.int .i64 0, .slice none 0 0] 27 (0, 0)); simpa using this
  have HD : Hid (∀ W, Below wA.heap.size wA W → W.heap[w.heap.size]? = some (.cells #[.int .i64 b, .slice p1 n1 k1] 27 (0, 0)) ∧ W.heap[w.heap.size + 1]? = some (.cells #[.int .i64 b2, .slice p2 n2 k2] 27 (0, 0)) ∧ W.heap[w.heap.size + 1 + 1]? = some (.cells #[.int .i64 0, .slice none 0 0] 27 (0, 0)) ∧ IRR W p2 Z2 ∧ Below w.heap.size w W) := fun W hW => ⟨keepblk3 hW d1, keepblk3 hW d2, keepblk3 hW d3, r2.later (bel0 hBA hW), bel0 hBA hW⟩
  obtain ⟨hc1, -⟩ := cells_block d1
  obtain ⟨hc2, -⟩ := cells_block d2
  have HN : Hid (Z2.length = n2) := hn2
  obtain ⟨q, hq⟩ : ∃ q, (!(b == 0) && (b == b2)) = q := ⟨_, rfl⟩
  have HF2 := dfit_any b b2 p1 p2 n1 n2 k1 k2 wA hb
  rw [hq] at HF2 HM1
  have HFF : Hid (Calls Tryz.prog 50 #[.agg #[.int .i64 b, .slice p1 n1 k1], .agg #[.int .i64 b2, .slice p2 n2 k2]] wA fun e w' => e = .returned (.bool q) ∧ Below wA.heap.size wA w') := HF2
  have hb2 : n2 ≤ 128 := by omega
  clear hBA d1 d2 d3 r1 r2 t1 t2 hs1 hs2 hg1 hg2 hn1 hn2 hb hjb hje hjt HF2 hq hl1 hl2
  cases q with
  | false =>
    have e1 : je = 11 := HM1.out
    subst e1
    have e2 : jb = 0 := HMB.out
    subst e2
    have e3 : jt = [] := HMT.out
    subst e3
    clear HM1 HMB HMT
    go_enter Tryz.func25, Tryz.ntmps25
    go_wp2_with fail
    refine HFF.out.mono ?_
    rintro e W1 ⟨rfl, hbw1⟩
    obtain ⟨-, -, k3, -, hB1⟩ := HD.out W1 hbw1
    obtain ⟨hc3, hf3⟩ := cells_block k3
    have HP : Hid (((W1.setCell ⟨w.heap.size + 1 + 1, 0, none⟩ (.int .i64 0)).setCell ⟨w.heap.size + 1 + 1, 1, none⟩ (.slice none 0 0)).heap[w.heap.size + 1 + 1]? = some (.cells #[.int .i64 0, .slice none 0 0] 27 (0, 0)) ∧ Below w.heap.size w ((W1.setCell ⟨w.heap.size + 1 + 1, 0, none⟩ (.int .i64 0)).setCell ⟨w.heap.size + 1 + 1, 1, none⟩ (.slice none 0 0))) := ⟨set2_get _ _ k3, (hB1.setCell (by simp; omega) _).setCell (by simp; omega) _⟩
    clear hc1 hc2 k3 hwA hbw1 hB1
    go_wp2_with fail
    refine bodyPost_ret (v := .tuple #[.agg #[.int .i64 0, .slice none 0 0], .int .i64 11]) (res_rs2 _ _ (w.heap.size + 1 + 1) _ _ Tryz.results25 rfl HP.out.1) rfl ?_
    exact ⟨_, rfl, RSR_nil _, HP.out.2⟩
  | true =>
    have HM2 : Hid (je = if (tkA (Z1.map ZT.cont) (Z2.map ZT.cont)).isSome = true then 0 else 3) := by unfold Hid; rw [HM1.out, if_neg (by simp)]
    clear HM1
    go_enter Tryz.func25, Tryz.ntmps25
    go_wp2_with fail
    refine HFF.out.mono ?_
    rintro e W1 ⟨rfl, hbw1⟩
    obtain ⟨g1, -, -, -, hB1⟩ := HD.out W1 hbw1
    have hc4 := (cells_block g1).1
    have HB1 : Hid (Below wA.heap.size wA W1) := hbw1
    have HBW : Hid (Below w.heap.size w W1) := hB1
    clear hc1 hc2 hwA hbw1 g1 hB1
    go_wp2_with fail
    have HS0 : Hid ((W1.alloc (.cells #[.int .i64 b, .slice p1 n1 k1] 27 (0, 0))).heap[W1.heap.size]? = some (.cells #[.int .i64 b, .slice p1 n1 k1] 27 (0, 0)) ∧ RSR (W1.alloc (.cells #[.int .i64 b, .slice p1 n1 k1] 27 (0, 0))) (.slice p1 n1 k1) (Z1.map ZT.cont) ∧ gdC (Z1.map ZT.cont) ∧ szC (Z1.map ZT.cont) ≤ 128 ∧ tkA (Z1.map ZT.cont) (Z2.map ZT.cont) = tkA (Z1.map ZT.cont) ((Z2.map ZT.cont).drop 0) ∧ Below W1.heap.size W1 (W1.alloc (.cells #[.int .i64 b, .slice p1 n1 k1] 27 (0, 0)))) := ⟨alloc_get _ _, HR0.out _ (belA HBW.out _), HGA.out.1, HGA.out.2, rfl, belA (Below.refl _ _) _⟩
    clear hc4
    go_loopw [7, 8] (fun v7 v8 ws => ∃ (i : Nat) (X : List (List UInt8 × List (List UInt8))) (pX : Option Addr) (nX cX : Nat), v7 = .int .i64 0 ∧ v8 = .int .i64 (i : Int) ∧ i ≤ n2 ∧ Hid (ws.heap[W1.heap.size]? = some (.cells #[.int .i64 b, .slice pX nX cX] 27 (0, 0)) ∧ RSR ws (.slice pX nX cX) X ∧ gdC X ∧ szC X ≤ 128 ∧ tkA (Z1.map ZT.cont) (Z2.map ZT.cont) = tkA X ((Z2.map ZT.cont).drop i) ∧ Below W1.heap.size W1 ws)) (fun _ v8 _ => n2 - (intOf v8).toNat)
    case atStart => exact ⟨0, _, p1, n1, k1, rfl, rfl, Nat.zero_le _, HS0⟩
    case round =>
      clear HS0
      obtain ⟨i, X, pX, nX, cX, rfl, rfl, hi, HR⟩ := hrel
      obtain ⟨-, gg2, k3, iR2, hBw⟩ := HD.out wr (bel0 HB1.out HR.out.2.2.2.2.2)
      by_cases hlt : i < n2
      · have j1 : (i : Int) < (n2 : Int) := by omega
        have j0 : (0 : Int) ≤ (i : Int) := by omega
        obtain ⟨za, hza⟩ : ∃ z, Z2[i]? = some z := ⟨_, List.getElem?_eq_getElem (by rw [HN.out]; exact hlt)⟩
        obtain ⟨uc, uq, uk, uL⟩ := za
        have hzA := HG2.out _ (List.mem_of_getElem? hza)
        simp only at hzA
        obtain ⟨nu, hnu⟩ : ∃ n, uL.length = n := ⟨_, rfl⟩
        obtain ⟨gb, ob, e2, y0, y1⟩ := iR2 wr (Below.refl _ _) i _ hza
        subst e2
        simp only at y0 y1
        rw [hnu] at y1
        have hdr : (Z2.map ZT.cont).drop i = (uc, uL) :: (Z2.map ZT.cont).drop (i + 1) := drop_at (by rw [List.getElem?_map, hza]; rfl)
        have HTA : Hid (tkA (Z1.map ZT.cont) (Z2.map ZT.cont) = if tkE X uc uL = 0 then tkA (tkT X uc uL) ((Z2.map ZT.cont).drop (i + 1)) else none) := by
          unfold Hid
          rw [HR.out.2.2.2.2.1, hdr]
          rfl
        have HOK : Hid (gdC (tkT X uc uL) ∧ szC (tkT X uc uL) ≤ 128) := tk_ok HR.out.2.2.1 hzA.2.2.1 hzA.2.2.2
        have HWO : Hid (∀ W, Below wr.heap.size wr W → Calls Tryz.prog 62 #[.agg #[.int .i64 b, .slice pX nX cX], .agg #[.string ⟨uc.toArray⟩, .slice uq nu uk]] W fun e w' => ∃ V, e = .returned (.tuple #[.agg #[.int .i64 (tkB b X uc uL), V], .int .i64 (tkE X uc uL)]) ∧ RSR w' V (tkT X uc uL) ∧ Below W.heap.size W w') := fun W hW => dwithout_any b X uc uL _ uq nu uk W (HR.out.2.1.later hW) hnu (hzA.1.later (bel0 hBw hW)) HR.out.2.2.2.1 (by rw [← hnu]; exact hzA.2.1) HR.out.2.2.1 hzA.2.2.1 hzA.2.2.2
        have HTB : Hid (tkB b X uc uL = if tkE X uc uL = 0 then b else 0) := rfl
        have hor := tkE_or X uc uL
        obtain ⟨E, hE⟩ : ∃ E, tkE X uc uL = E := ⟨_, rfl⟩
        obtain ⟨B, hB⟩ : ∃ B, tkB b X uc uL = B := ⟨_, rfl⟩
        obtain ⟨X9, hX9⟩ : ∃ X9, tkT X uc uL = X9 := ⟨_, rfl⟩
        rw [hE, hB, hX9] at HWO
        rw [hE, hX9] at HTA
        rw [hX9] at HOK
        rw [hE, hB] at HTB
        rw [hE] at hor
        have hc6 := (cells_block HR.out.1).1
        have hc3 := (cells_block gg2).1
        have hc6d : (∀ j, wr.drew.cell? ⟨W1.heap.size, j, none⟩ = (#[.int .i64 b, .slice pX nX cX] : Array Value)[j]?) := hc6
        have hc3d : (∀ j, wr.drew.cell? ⟨w.heap.size + 1, j, none⟩ = (#[.int .i64 b2, .slice (some ⟨gb, ob, none⟩) n2 k2] : Array Value)[j]?) := hc3
        have y0d : wr.drew.cell? ⟨gb, ob + i * 2, none⟩ = some (.string ⟨uc.toArray⟩) := y0
        have y1d : wr.drew.cell? ⟨gb, ob + i * 2 + 1, none⟩ = some (.slice uq nu uk) := y1
        clear hza hzA hnu hdr hE hB hX9 gg2 k3 iR2 hBw
        go_upto_region 8 with fail
        go_cut [7] (fun e wc => ∃ (p9 : Option Addr) (n9 c9 : Nat), e = .int .i64 E ∧ Hid (wc.heap[W1.heap.size]? = some (.cells #[.int .i64 B, .slice p9 n9 c9] 27 (0, 0)) ∧ RSR wc (.slice p9 n9 c9) X9 ∧ Below W1.heap.size W1 wc))
        case first =>
          go_region_with (go_at_call 62; refine (HWO.out _ (by first | exact Below.refl _ _ | exact (Below.refl _ _).drew)).mono ?_; rintro e w5 ⟨V9, rfl, rv9, hb5⟩; obtain ⟨p9, c9, rfl⟩ := rv9.shape; have hb5' : Below wr.heap.size wr w5 := (by first | exact hb5 | exact und hb5); have hk5 := keepblk3 hb5' HR.out.1; have hc5 := (cells_block hk5).1; have hf5 := (cells_block hk5).2)
          all_goals go_wp2
          all_goals go_meet
          all_goals exact ⟨p9, _, c9, rfl, set2_get _ _ hk5, rv9.kept (gr2 _ _ _ _) (no_str2 hk5), ((bel0 HR.out.2.2.2.2.2 hb5').setCell (Nat.le_refl _) _).setCell (Nat.le_refl _) _⟩
        case rest =>
          obtain ⟨p9, n9, c9, rfl, HC⟩ := hcut
          rename World => wc
          clear hc6 hc3 hc6d hc3d y0 y1 y0d y1d HWO HR
          rcases hor with rfl | rfl
          · have e : B = b := HTB.out
            subst e
            have HX : Hid (wc.heap[W1.heap.size]? = some (.cells #[.int .i64 B, .slice p9 n9 c9] 27 (0, 0)) ∧ RSR wc (.slice p9 n9 c9) X9 ∧ gdC X9 ∧ szC X9 ≤ 128 ∧ tkA (Z1.map ZT.cont) (Z2.map ZT.cont) = tkA X9 ((Z2.map ZT.cont).drop (i + 1)) ∧ Below W1.heap.size W1 wc) := ⟨HC.out.1, HC.out.2.1, HOK.out.1, HOK.out.2, HTA.out, HC.out.2.2⟩
            clear HC HTA HTB HOK
            go_wp2_with fail
            go_roundw
            case rel => exact ⟨i + 1, X9, p9, n9, c9, rfl, by go_num, by omega, HX⟩
            case measure => simp [intOf]; omega
          · have e0 : tkA (Z1.map ZT.cont) (Z2.map ZT.cont) = none := HTA.out
            have e1 : je = 3 := by rw [HM2.out, e0]; rfl
            subst e1
            have e2 : jb = 0 := HMB.out
            subst e2
            have e3 : jt = [] := HMT.out
            subst e3
            obtain ⟨-, -, k3, -, hB1⟩ := HD.out wc (bel0 HB1.out HC.out.2.2)
            obtain ⟨hc3, hf3⟩ := cells_block k3
            have HP : Hid (((wc.setCell ⟨w.heap.size + 1 + 1, 0, none⟩ (.int .i64 0)).setCell ⟨w.heap.size + 1 + 1, 1, none⟩ (.slice none 0 0)).heap[w.heap.size + 1 + 1]? = some (.cells #[.int .i64 0, .slice none 0 0] 27 (0, 0)) ∧ Below w.heap.size w ((wc.setCell ⟨w.heap.size + 1 + 1, 0, none⟩ (.int .i64 0)).setCell ⟨w.heap.size + 1 + 1, 1, none⟩ (.slice none 0 0))) := ⟨set2_get _ _ k3, (hB1.setCell (by simp; omega) _).setCell (by simp; omega) _⟩
            clear k3 hB1 HM2 HMB HMT HTA HTB HC HOK e0
            go_wp2_with fail
            refine bodyPost_ret (v := .tuple #[.agg #[.int .i64 0, .slice none 0 0], .int .i64 3]) (res_rs2 _ _ (w.heap.size + 1 + 1) _ _ Tryz.results25 rfl HP.out.1) rfl ?_
            exact ⟨_, rfl, RSR_nil _, HP.out.2⟩
      · have j1 : ¬ (i : Int) < (n2 : Int) := by omega
        have e0 : tkA (Z1.map ZT.cont) (Z2.map ZT.cont) = some X := by
          rw [HR.out.2.2.2.2.1, List.drop_eq_nil_of_le (by rw [List.length_map, HN.out]; omega)]
          rfl
        have e1 : je = 0 := by rw [HM2.out, e0]; rfl
        subst e1
        have e2 : jb = b := HMB.out
        subst e2
        have e3 : jt = X := by have h := HMT.out; rw [e0] at h; exact h
        subst e3
        have hc6 := (cells_block HR.out.1).1
        have hc2 := (cells_block gg2).1
        obtain ⟨hc3, hf3⟩ := cells_block k3
        have HP : Hid (((wr.setCell ⟨w.heap.size + 1 + 1, 0, none⟩ (.int .i64 jb)).setCell ⟨w.heap.size + 1 + 1, 1, none⟩ (.slice pX nX cX)).heap[w.heap.size + 1 + 1]? = some (.cells #[.int .i64 jb, .slice pX nX cX] 27 (0, 0)) ∧ RSR ((wr.setCell ⟨w.heap.size + 1 + 1, 0, none⟩ (.int .i64 jb)).setCell ⟨w.heap.size + 1 + 1, 1, none⟩ (.slice pX nX cX)) (.slice pX nX cX) jt ∧ Below w.heap.size w ((wr.setCell ⟨w.heap.size + 1 + 1, 0, none⟩ (.int .i64 jb)).setCell ⟨w.heap.size + 1 + 1, 1, none⟩ (.slice pX nX cX))) := ⟨set2_get _ _ k3, HR.out.2.1.kept (gr2 _ _ _ _) (no_str2 k3), (hBw.setCell (by simp; omega) _).setCell (by simp; omega) _⟩
        clear k3 hBw HR HM2 HMB HMT e0 gg2 iR2
        go_wp2_with fail
        refine bodyPost_ret (v := .tuple #[.agg #[.int .i64 jb, .slice pX nX cX], .int .i64 0]) (res_rs2 _ _ (w.heap.size + 1 + 1) _ _ Tryz.results25 rfl HP.out.1) rfl ?_
        exact ⟨_, rfl, HP.out.2⟩
end Go.Proofs.YtkcbkeimbpopcaaGreatDoor

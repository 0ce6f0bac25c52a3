import Derived.Test.YtmdnapognaddbaaGreatDoorXAW
namespace Go.Proofs.YtmdnapognaddbaaGreatDoor
open Go.RowKit Go.Shelf
/-- terms in the document's order -/
def frmD (Ts : List (List UInt8 × List (List UInt8))) : List (List UInt8 × List (List UInt8)) := (srtLn (Ts.map (fun t => t.1 :: t.2))).map (fun S => (S.headD [], S.tail))
/-- what stands while form takes the least -/
def FS (w2 : World) (N0 : Nat) (b : Int) (K0 : List ZT) (p : Option Addr) (c m : Nat) (vS : Value) (K D : List ZT) (W : World) : Prop :=
  K.length = m ∧ W.ownsRow w2.heap.size 64 2 (.slice p m c) m (rts K) ∧ (∀ b, Value.ownBlock (.slice p m c) = some b → b < N0) ∧ W.heap[N0]? = some (.cells #[.int .i64 b, vS] 27 (0, 0)) ∧ W.ownsRow (N0 + 1) 64 2 vS D.length (rts D) ∧ Below w2.heap.size w2 W ∧ SEL K0 K D
theorem FS.below {w2 W X : World} {N0 : Nat} {b : Int} {K0 : List ZT} {p : Option Addr} {c m : Nat} {vS : Value} {K D : List ZT} (h : FS w2 N0 b K0 p c m vS K D W) (hb : Below W.heap.size W X) : FS w2 N0 b K0 p c m vS K D X := by
  obtain ⟨h1, h2, h3, h4, h5, h6, h7⟩ := h
  exact ⟨h1, own_belQ h2 hb, h3, keepblk3 hb h4, own_belQ h5 hb, bel0 h6 hb, h7⟩
set_option maxRecDepth 100000 in
set_option maxHeartbeats 8000000 in
theorem dform_any (b : Int) (Z : List ZT) (n : Nat) (p : Option Addr) (cp : Nat) (w : World) (hn : Z.length = n) (hN : n ≤ 100000) (hr : IRR w p Z) (gZ : ∀ z ∈ Z, YOK w z) :
    Calls Tryz.prog 49 #[.int .i64 b, .slice p n cp] w fun e w' => ∃ V, e = .returned (.agg #[.int .i64 b, V]) ∧ RSR w' V (frmD (topC (Z.map ZT.cont))) ∧ Below w.heap.size w w' := by
  obtain ⟨iT, hiT, hzT0, hzT1, hzT2⟩ := info_parts info_rtm
  obtain ⟨w2, hw2⟩ : ∃ w2, w.alloc (.cells #[.int .i64 0, .slice none 0 0] 27 (0, 0)) = w2 := ⟨_, rfl⟩
  have h0 : w2.heap[w.heap.size]? = some (.cells #[.int .i64 0, .slice none 0 0] 27 (0, 0)) := by rw [← hw2]; exact alloc_get _ _
  have hB0 : Below w.heap.size w w2 := by rw [← hw2]; exact belA (Below.refl _ _) _
  have HA : Hid (w2.heap[w.heap.size]? = some (.cells #[.int .i64 0, .slice none 0 0] 27 (0, 0)) ∧ Below w.heap.size w w2) := ⟨h0, hB0⟩
  have HN : Hid (Z.length = n) := hn
  have HR : Hid (IRR w2 p Z) := hr.later hB0
  have HG : Hid (∀ z ∈ Z, YOK w2 z) := fun z hz => (gZ z hz).later hB0
  have HGW : Hid (∀ z ∈ Z, YOK w z) := gZ
  have HTL : Hid (∀ i, (topZL (Z.take i)).length ≤ i) := fun i => by
    have h1 := topZL_len (Z.take i)
    have h2 : (Z.take i).length ≤ i := by rw [List.length_take]; omega
    omega
  clear h0 hB0 hr gZ hn
  go_enter Tryz.func49, Tryz.ntmps49
  go_wp2_with fail
  clear hw2
  go_loopw [5, 6] (fun v5 v6 wr => ∃ i : Nat, v6 = .int .i64 i ∧ i ≤ n ∧ wr.ownsRow w2.heap.size 64 2 v5 (topZL (Z.take i)).length (rts (topZL (Z.take i))) ∧ Below w2.heap.size w2 wr) (fun _ v6 _ => n - (intOf v6).toNat)
  case atStart => exact ⟨0, rfl, Nat.zero_le _, World.ownsRow_nil _ _ _ _, Below.refl _ _⟩
  case round =>
    obtain ⟨i, rfl, hin, ok, hB⟩ := hrel
    by_cases hlt : i < n
    · have i1 : (i : Int) < (n : Int) := by omega
      have i0 : (0 : Int) ≤ (i : Int) := by omega
      obtain ⟨x, hx⟩ : ∃ x, Z[i]? = some x := ⟨_, List.getElem?_eq_getElem (by rw [HN.out]; exact hlt)⟩
      have HYX : Hid (YOK w2 x) := HG.out x (List.mem_of_getElem? hx)
      have HSTP : Hid (topZL (Z.take (i + 1)) = topZS (topZL (Z.take i)) x) := topZL_step hx
      have hkl := HTL.out i
      have HYK : Hid (∀ y ∈ topZL (Z.take i), YOK w2 y) := fun y hy => HG.out y (List.mem_of_mem_take (topZL_mem hy))
      obtain ⟨g, o0, rfl, -, -⟩ := HR.out w2 (Below.refl _ _) i x hx
      have HXC : Hid (∀ W, Below w2.heap.size w2 W → W.cell? ⟨g, o0 + i * 2, none⟩ = some (.string ⟨x.c.toArray⟩) ∧ W.cell? ⟨g, o0 + i * 2 + 1, none⟩ = some (.slice x.q x.L.length x.k)) := fun W hW => by
        obtain ⟨g2, o2, e, h2⟩ := HR.out W hW i x hx
        injection e with e
        injection e with e1 e2
        subst e1 e2
        exact h2
      obtain ⟨K, hK⟩ : ∃ K, topZL (Z.take i) = K := ⟨_, rfl⟩
      rw [hK] at ok HSTP hkl HYK
      obtain ⟨m, hm⟩ : ∃ m, K.length = m := ⟨_, rfl⟩
      rw [hm] at ok hkl
      have HM : Hid (K.length = m) := hm
      clear hx hK hm
      obtain ⟨p5, c5, rfl⟩ := shapeQ1 ok
      go_wp2_with fail
      go_loopw [7, 8] (fun v7 v8 ws => ∃ (j : Nat) (r : Bool), v7 = .bool r ∧ v8 = .int .i64 j ∧ j ≤ m ∧ Hid ((r = false ∧ ∀ q u, q < j → K[q]? = some u → cvB x u = false) ∨ (r = true ∧ K.any (fun y => cvB x y) = true)) ∧ ws.ownsRow w2.heap.size 64 2 (.slice p5 m c5) m (rts K) ∧ Below w2.heap.size w2 ws) (fun v7 v8 _ => 2 * (m - (intOf v8).toNat) + (match v7 with | .bool true => 0 | _ => 1))
      case atStart => exact ⟨0, false, rfl, rfl, Nat.zero_le _, .inl ⟨rfl, fun q u h => by omega⟩, ok, hB⟩
      case round =>
        clear ok hB
        obtain ⟨j, r, rfl, rfl, hj, HJ, ok, hB⟩ := hrel
        cases r with
        | true =>
          have HAN : Hid (topZL (Z.take (i + 1)) = K) := by
            rcases HJ.out with ⟨h, _⟩ | ⟨_, h⟩
            · cases h
            · unfold Hid
              rw [HSTP.out, topZS, if_pos h]
          clear HJ
          have HK2 : Hid (K.length = m) := HM
          by_cases hlj : j < m
          · have j2 : (j : Int) < (m : Int) := by omega
            go_wp2_with fail
            go_roundw
            case rel => exact ⟨i + 1, by go_num, by omega, by rw [HAN.out, HK2.out]; exact ok, hB⟩
            case measure => simp [intOf]; omega
          · have j2 : ¬ (j : Int) < (m : Int) := by omega
            go_wp2_with fail
            go_roundw
            case rel => exact ⟨i + 1, by go_num, by omega, by rw [HAN.out, HK2.out]; exact ok, hB⟩
            case measure => simp [intOf]; omega
        | false =>
          have HNJ : Hid (∀ q u, q < j → K[q]? = some u → cvB x u = false) := by
            rcases HJ.out with ⟨_, h⟩ | ⟨h, _⟩
            · exact h
            · cases h
          clear HJ
          by_cases hlj : j < m
          · have j2 : (j : Int) < (m : Int) := by omega
            have j0 : (0 : Int) ≤ (j : Int) := by omega
            obtain ⟨y, hy⟩ : ∃ y, K[j]? = some y := ⟨_, List.getElem?_eq_getElem (by rw [HM.out]; exact hlj)⟩
            have HY : Hid (K[j]? = some y) := hy
            obtain ⟨g5, rfl⟩ : ∃ g5, p5 = some ⟨g5, 0, none⟩ := by
              rcases own_shapeQ ok with ⟨e, h0⟩ | ⟨g5, c2, e, -⟩
              · omega
              · injection e with e1 _ _
                exact ⟨g5, e1⟩
            have HOK : Hid (wr.ownsRow w2.heap.size 64 2 (.slice (some ⟨g5, 0, none⟩) m c5) m (rts K) ∧ Below w2.heap.size w2 wr) := ⟨ok, hB⟩
            have HC : Hid (∀ W, Below wr.heap.size wr W → ((W.cell? ⟨g, o0 + i * 2, none⟩ = some (.string ⟨x.c.toArray⟩) ∧ W.cell? ⟨g, o0 + i * 2 + 1, none⟩ = some (.slice x.q x.L.length x.k)) ∧ W.cell? ⟨g5, j * 2, none⟩ = some (.string ⟨y.c.toArray⟩) ∧ W.cell? ⟨g5, j * 2 + 1, none⟩ = some (.slice y.q y.L.length y.k)) ∧ YOK W x ∧ YOK W y) := fun W hW => ⟨⟨HXC.out W (bel0 hB hW), rr_cells (own_belQ ok hW) hy⟩, HYX.out.later (bel0 hB hW), (HYK.out y (List.mem_of_getElem? hy)).later (bel0 hB hW)⟩
            have hk0 := (HC.out wr (Below.refl _ _)).1
            have hk0d : (wr.drew.cell? ⟨g, o0 + i * 2, none⟩ = some (.string ⟨x.c.toArray⟩) ∧ wr.drew.cell? ⟨g, o0 + i * 2 + 1, none⟩ = some (.slice x.q x.L.length x.k)) ∧ wr.drew.cell? ⟨g5, j * 2, none⟩ = some (.string ⟨y.c.toArray⟩) ∧ wr.drew.cell? ⟨g5, j * 2 + 1, none⟩ = some (.slice y.q y.L.length y.k) := hk0
            have HCV : Hid (∀ W, Below wr.heap.size wr W → Calls Tryz.prog 70 #[.agg #[.string ⟨x.c.toArray⟩, .slice x.q x.L.length x.k], .agg #[.string ⟨y.c.toArray⟩, .slice y.q y.L.length y.k]] W fun e w' => e = .returned (.bool (cvB x y)) ∧ Below W.heap.size W w') := fun W hW => cv_any (HC.out W hW).2.1 (HC.out W hW).2.2
            go_upto_region 9 with fail
            go_region_held3 (fun W => (W.cell? ⟨g, o0 + i * 2, none⟩ = some (.string ⟨x.c.toArray⟩) ∧ W.cell? ⟨g, o0 + i * 2 + 1, none⟩ = some (.slice x.q x.L.length x.k)) ∧ W.cell? ⟨g5, j * 2, none⟩ = some (.string ⟨y.c.toArray⟩) ∧ W.cell? ⟨g5, j * 2 + 1, none⟩ = some (.slice y.q y.L.length y.k)) (first | with_reducible exact hk0 | with_reducible exact hk0d | with_reducible exact hk5) (first | (go_at_call 70; refine (HCV.out _ (by first | exact Below.refl _ _ | exact (Below.refl _ _).drew)).mono ?_; rintro e w5 ⟨rfl, hb5⟩; have hb5' : Below wr.heap.size wr w5 := (by first | exact hb5 | exact und hb5); have hk5 := (HC.out w5 hb5').1))
            obtain ⟨r2, hr2⟩ : ∃ r2, cvB x y = r2 := ⟨_, rfl⟩
            have HJ2 : Hid ((r2 = false ∧ ∀ q u, q < j + 1 → K[q]? = some u → cvB x u = false) ∨ (r2 = true ∧ K.any (fun y => cvB x y) = true)) := by
              cases r2 with
              | true => exact .inr ⟨rfl, List.any_eq_true.2 ⟨y, List.mem_of_getElem? HY.out, hr2⟩⟩
              | false =>
                refine .inl ⟨rfl, fun q u hq hu => ?_⟩
                by_cases e : q = j
                · subst e
                  rw [HY.out] at hu
                  obtain rfl := Option.some.inj hu
                  exact hr2
                · exact HNJ.out q u (by omega) hu
            rw [hr2]
            have hB5 := bel0 HOK.out.2 hb5'
            have ok5 := own_belQ HOK.out.1 hb5'
            clear hr2 hk0 hk0d hk5 hb5 hb5' HC HCV HNJ HY hy HOK ok hB
            go_wp2_with fail
            go_roundw
            case rel => exact ⟨j + 1, r2, rfl, by go_num, by omega, HJ2, ok5, hB5⟩
            case measure => cases r2 <;> simp [intOf] <;> omega
          · have j2 : ¬ (j : Int) < (m : Int) := by omega
            have HAN : Hid (topZL (Z.take (i + 1)) = K.filter (fun y => !cvB y x) ++ [x]) := by
              have h := anyZ_no (T := K) (p := fun y => cvB x y) (by rw [HM.out]; omega) HNJ.out
              unfold Hid
              rw [HSTP.out, topZS, if_neg (by rw [h]; simp)]
            obtain ⟨N0, hN0⟩ : ∃ N0, wr.heap.size = N0 := ⟨_, rfl⟩
            have HBK : Hid (∀ b, Value.ownBlock (.slice p5 m c5) = some b → b < N0) := fun b e => by rw [← hN0]; exact (ok.lt b e).2
            have HNB : Hid (w2.heap.size ≤ N0) := by unfold Hid; rw [← hN0]; exact hB.size
            have HFL : Hid (∀ q, ((K.take q).filter (fun y => !cvB y x)).length ≤ q) := fun q => by
              have h1 := List.length_filter_le (fun y => !cvB y x) (K.take q)
              have h2 : (K.take q).length ≤ q := by rw [List.length_take]; omega
              omega
            have hN0' : N0 ≤ wr.heap.size := by omega
            clear HNJ HSTP hN0
            go_wp2_with fail
            go_loopw [9, 10] (fun v9 v10 ws => ∃ q : Nat, v10 = .int .i64 q ∧ q ≤ m ∧ ws.ownsRow N0 64 2 v9 ((K.take q).filter (fun y => !cvB y x)).length (rts ((K.take q).filter (fun y => !cvB y x))) ∧ ws.ownsRow w2.heap.size 64 2 (.slice p5 m c5) m (rts K) ∧ Below w2.heap.size w2 ws ∧ N0 ≤ ws.heap.size) (fun _ v10 _ => m - (intOf v10).toNat)
            case atStart => exact ⟨0, rfl, Nat.zero_le _, World.ownsRow_nil _ _ _ _, ok, hB, hN0'⟩
            case round =>
              clear ok hB hN0' j2
              obtain ⟨q, rfl, hq, orr, ok, hB, hN0'⟩ := hrel
              by_cases hlq : q < m
              · have j2 : (q : Int) < (m : Int) := by omega
                have j0 : (0 : Int) ≤ (q : Int) := by omega
                obtain ⟨y, hy⟩ : ∃ y, K[q]? = some y := ⟨_, List.getElem?_eq_getElem (by rw [HM.out]; exact hlq)⟩
                have HFS : Hid ((K.take (q + 1)).filter (fun y => !cvB y x) = (K.take q).filter (fun y => !cvB y x) ++ (if cvB y x = true then [] else [y])) := fltZ_step hy
                have hfl := HFL.out q
                obtain ⟨F, hF⟩ : ∃ F, (K.take q).filter (fun y => !cvB y x) = F := ⟨_, rfl⟩
                rw [hF] at orr HFS hfl
                clear hF
                obtain ⟨g5, rfl⟩ : ∃ g5, p5 = some ⟨g5, 0, none⟩ := by
                  rcases own_shapeQ ok with ⟨e, h0⟩ | ⟨g5, c2, e, -⟩
                  · omega
                  · injection e with e1 _ _
                    exact ⟨g5, e1⟩
                have HOK : Hid (wr.ownsRow w2.heap.size 64 2 (.slice (some ⟨g5, 0, none⟩) m c5) m (rts K) ∧ Below w2.heap.size w2 wr) := ⟨ok, hB⟩
                have HC : Hid (∀ W, Below wr.heap.size wr W → ((W.cell? ⟨g, o0 + i * 2, none⟩ = some (.string ⟨x.c.toArray⟩) ∧ W.cell? ⟨g, o0 + i * 2 + 1, none⟩ = some (.slice x.q x.L.length x.k)) ∧ W.cell? ⟨g5, q * 2, none⟩ = some (.string ⟨y.c.toArray⟩) ∧ W.cell? ⟨g5, q * 2 + 1, none⟩ = some (.slice y.q y.L.length y.k)) ∧ YOK W x ∧ YOK W y) := fun W hW => ⟨⟨HXC.out W (bel0 hB hW), rr_cells (own_belQ ok hW) hy⟩, HYX.out.later (bel0 hB hW), (HYK.out y (List.mem_of_getElem? hy)).later (bel0 hB hW)⟩
                have hk0 := (HC.out wr (Below.refl _ _)).1
                have hk0d : (wr.drew.cell? ⟨g, o0 + i * 2, none⟩ = some (.string ⟨x.c.toArray⟩) ∧ wr.drew.cell? ⟨g, o0 + i * 2 + 1, none⟩ = some (.slice x.q x.L.length x.k)) ∧ wr.drew.cell? ⟨g5, q * 2, none⟩ = some (.string ⟨y.c.toArray⟩) ∧ wr.drew.cell? ⟨g5, q * 2 + 1, none⟩ = some (.slice y.q y.L.length y.k) := hk0
                have HCV : Hid (∀ W, Below wr.heap.size wr W → Calls Tryz.prog 70 #[.agg #[.string ⟨y.c.toArray⟩, .slice y.q y.L.length y.k], .agg #[.string ⟨x.c.toArray⟩, .slice x.q x.L.length x.k]] W fun e w' => e = .returned (.bool (cvB y x)) ∧ Below W.heap.size W w') := fun W hW => cv_any (HC.out W hW).2.2 (HC.out W hW).2.1
                go_upto_region 15 with fail
                go_region_held3 (fun W => (W.cell? ⟨g, o0 + i * 2, none⟩ = some (.string ⟨x.c.toArray⟩) ∧ W.cell? ⟨g, o0 + i * 2 + 1, none⟩ = some (.slice x.q x.L.length x.k)) ∧ W.cell? ⟨g5, q * 2, none⟩ = some (.string ⟨y.c.toArray⟩) ∧ W.cell? ⟨g5, q * 2 + 1, none⟩ = some (.slice y.q y.L.length y.k)) (first | with_reducible exact hk0 | with_reducible exact hk0d | with_reducible exact hk5) (first | (go_at_call 70; refine (HCV.out _ (by first | exact Below.refl _ _ | exact (Below.refl _ _).drew)).mono ?_; rintro e w5 ⟨rfl, hb5⟩; have hb5' : Below wr.heap.size wr w5 := (by first | exact hb5 | exact und hb5); have hk5 := (HC.out w5 hb5').1))
                have hB5 := bel0 HOK.out.2 hb5'
                have ok5 := own_belQ HOK.out.1 hb5'
                have or5 := own_belQ orr hb5'
                have hs5 : N0 ≤ w5.heap.size := Nat.le_trans hN0' hb5'.size
                obtain ⟨hq0, hq1⟩ := hk5.2
                have HYq : Hid (K[q]? = some y) := hy
                clear hk0 hk0d hk5 hb5 hb5' HC HCV HOK ok hB orr hy hN0'
                cases hr2 : cvB y x with
                | true =>
                  have HF2 : Hid ((K.take (q + 1)).filter (fun y => !cvB y x) = F) := by
                    unfold Hid
                    rw [HFS.out, if_pos hr2]
                    simp
                  clear hr2 HFS
                  go_wp2_with fail
                  go_roundw
                  case rel => exact ⟨q + 1, by go_num, by omega, by rw [HF2.out]; exact or5, ok5, hB5, hs5⟩
                  case measure => simp [intOf]; omega
                | false =>
                  have HF2 : Hid ((K.take (q + 1)).filter (fun y => !cvB y x) = F ++ [y]) := by
                    unfold Hid
                    rw [HFS.out, if_neg (by rw [hr2]; simp)]
                  clear hr2 HFS
                  go_wp2_with (at_builtin; refine wpList_append_own _ rfl _ _ 25 rfl N0 64 iT _ 2 40 Tryz.underlying25 hiT hzT0 hzT1 hzT2 rfl (by decide) _ _ _ rfl (or5.alloc _) ⟨_, 0, none⟩ 1 1 [.string ⟨y.c.toArray⟩, .slice y.q y.L.length y.k] rfl rfl (World.news_of_block (cs := #[.string ⟨y.c.toArray⟩, .slice y.q y.L.length y.k]) (t := 64) (fr := (0, 0)) (alloc_get _ _)) (by simp [Value.oneCell']) (by unfold maxLen; omega) (by omega) (by simp; omega) ?_)
                  intro v6 w6 o6 g6 _
                  have hne : ∀ b, Value.ownBlock (.slice (some ⟨g5, 0, none⟩) m c5) = some b → ∀ v : Value, (w5.ownsRow N0 64 2 v F.length (rts F)) → v.ownBlock ≠ some b := fun b e v hv e2 => by
                    have h1 := HBK.out b e
                    have h2 := (hv.lt b e2).1
                    omega
                  have ok6 : w6.ownsRow w2.heap.size 64 2 (.slice (some ⟨g5, 0, none⟩) m c5) m (rts K) := (ok5.alloc _).kept g6 (.inr (fun e => hne g5 rfl _ or5 e.symm))
                  have hB6 : Below w2.heap.size w2 w6 := (belA hB5 _).grown g6 (belA hB5 _).size (fun k e => by
                    have h1 := (or5.lt k e).1
                    have h2 := HNB.out
                    omega)
                  have hs6 : N0 ≤ w6.heap.size := by
                    have h1 := g6.size
                    simp at h1
                    omega
                  clear hne or5 ok5 hB5 hs5 g6
                  go_wp2_with fail
                  go_roundw
                  case rel => exact ⟨q + 1, by go_num, by omega, by rw [HF2.out, rts_snoc, List.length_append]; exact o6, ok6, hB6, hs6⟩
                  case measure => simp [intOf]; omega
              · have j2 : ¬ (q : Int) < (m : Int) := by omega
                have e : K.take q = K := List.take_of_length_le (by rw [HM.out]; omega)
                rw [e] at orr
                have hfl := HFL.out q
                rw [e] at hfl
                obtain ⟨hx0, hx1⟩ := HXC.out _ hB
                clear e
                obtain ⟨F, hF⟩ : ∃ F, K.filter (fun y => !cvB y x) = F := ⟨_, rfl⟩
                rw [hF] at orr HAN hfl
                clear hF
                go_wp2_with (at_builtin; refine wpList_append_own _ rfl _ _ 25 rfl N0 64 iT _ 2 40 Tryz.underlying25 hiT hzT0 hzT1 hzT2 rfl (by decide) _ _ _ rfl (orr.alloc _) ⟨_, 0, none⟩ 1 1 [.string ⟨x.c.toArray⟩, .slice x.q x.L.length x.k] rfl rfl (World.news_of_block (cs := #[.string ⟨x.c.toArray⟩, .slice x.q x.L.length x.k]) (t := 64) (fr := (0, 0)) (alloc_get _ _)) (by simp [Value.oneCell']) (by unfold maxLen; omega) (by omega) (by simp; omega) ?_)
                intro v6 w6 o6 g6 _
                have hB6 : Below w2.heap.size w2 w6 := (belA hB _).grown g6 (belA hB _).size (fun k e => by
                    have h1 := (orr.lt k e).1
                    have h2 := HNB.out
                    omega)
                clear orr ok hB g6 hx0 hx1
                go_wp2_with fail
                go_roundw
                case rel => exact ⟨i + 1, by go_num, by omega, by rw [HAN.out, rts_snoc, List.length_append]; exact own_base o6 HNB.out, hB6⟩
                case measure => simp [intOf]; omega
    · have i1 : ¬ (i : Int) < (n : Int) := by omega
      have e : Z.take i = Z := List.take_of_length_le (by rw [HN.out]; omega)
      rw [e] at ok
      clear e
      have HKM : Hid (∀ y ∈ topZL Z, YOK w2 y ∧ YOK w y) := fun y hy => ⟨HG.out y (topZL_mem hy), HGW.out y (topZL_mem hy)⟩
      have HCT : Hid ((topZL Z).map ZT.cont = topC (Z.map ZT.cont)) := topC_map Z
      have hkl : (topZL Z).length ≤ n := by have := topZL_len Z; rw [HN.out] at this; exact this
      obtain ⟨K0, hK0⟩ : ∃ K0, topZL Z = K0 := ⟨_, rfl⟩
      rw [hK0] at ok HKM HCT hkl
      obtain ⟨p5, c5, rfl⟩ := shapeQ1 ok
      obtain ⟨N0, hN0⟩ : ∃ N0, wr.heap.size = N0 := ⟨_, rfl⟩
      have HFS : Hid (FS w2 N0 b K0 p5 c5 K0.length (.slice none 0 0) K0 [] (wr.alloc (.cells #[.int .i64 b, .slice none 0 0] 27 (0, 0)))) := ⟨rfl, ok.alloc _, (fun b e => by rw [← hN0]; exact (ok.lt b e).2), by rw [← hN0]; exact alloc_get _ _, World.ownsRow_nil _ _ _ _, belA hB _, SEL_start K0⟩
      have HNB : Hid (w2.heap.size ≤ N0) := by unfold Hid; rw [← hN0]; exact hB.size
      have HK0 : Hid (∀ K D, SEL K0 K D → (∀ y ∈ K, YOK w2 y) ∧ (∀ y ∈ D, YOK w y) ∧ K.length + D.length = K0.length) := fun K D h => ⟨fun y hy => (HKM.out y (h.1.mem_iff.1 (List.mem_append_right _ hy))).1, fun y hy => (HKM.out y (h.1.mem_iff.1 (List.mem_append_left _ hy))).2, by have := h.1.length_eq; rw [List.length_append] at this; omega⟩
      clear ok hB hK0 HKM HTL HG HR HGW
      go_wp2_with fail
      clear hN0
      go_loopw [5] (fun v5 ws => ∃ (p : Option Addr) (c m : Nat) (vS : Value) (K D : List ZT), v5 = .slice p m c ∧ Hid (FS w2 N0 b K0 p c m vS K D ws)) (fun v5 _ => match v5 with | .slice _ m _ => m | _ => 0)
      case atStart => exact ⟨_, _, _, _, _, _, rfl, HFS⟩
      case round =>
        clear HFS
        obtain ⟨p, c, m, vS, K, D, rfl, HF⟩ := hrel
        obtain ⟨W0, hW0⟩ : ∃ W0, W0 = wr := ⟨_, rfl⟩
        subst hW0
        obtain ⟨HYK, HYD, hsum⟩ := HK0.out K D HF.out.2.2.2.2.2.2
        have hKl := HF.out.1
        have hmb : m ≤ 100000 := by omega
        by_cases hm : 0 < m
        · have m1 : (0 : Int) < (m : Int) := by omega
          obtain ⟨g5, rfl⟩ : ∃ g5, p = some ⟨g5, 0, none⟩ := by
            rcases own_shapeQ HF.out.2.1 with ⟨e, h0⟩ | ⟨g5, c2, e, -⟩
            · omega
            · injection e with e1 _ _
              exact ⟨g5, e1⟩
          have HYK' : Hid (∀ y ∈ K, YOK w2 y) := HYK
          have HKL : Hid (K.length = m) := hKl
          obtain ⟨z0, hz0⟩ : ∃ z, K[0]? = some z := ⟨_, List.getElem?_eq_getElem (by omega)⟩
          have HZ0 : Hid (K[0]? = some z0 ∧ ∀ q x, q < 1 → K[q]? = some x → leLn z0.ln x.ln = true) := ⟨hz0, fun q x hq hx => by
            obtain rfl : q = 0 := by omega
            rw [hz0] at hx
            obtain rfl := Option.some.inj hx
            exact le_refl_ln _⟩
          clear hz0 HYK hKl
          go_wp2_with fail
          go_loopw [12, 13] (fun v12 v13 wt => ∃ (k q : Nat) (z : ZT), v12 = .int .i64 k ∧ v13 = .int .i64 q ∧ k < m ∧ q ≤ m ∧ Hid (K[k]? = some z ∧ ∀ j x, j < q → K[j]? = some x → leLn z.ln x.ln = true) ∧ Below W0.heap.size W0 wt) (fun _ v13 _ => m - (intOf v13).toNat)
          case atStart => exact ⟨0, 1, z0, rfl, rfl, hm, hm, HZ0, Below.refl _ _⟩
          case round =>
            clear HZ0
            obtain ⟨k, q, z, rfl, rfl, hkm, hqm, HZ, hB⟩ := hrel
            have k0 : (0 : Int) ≤ (k : Int) := by omega
            have k1 : (k : Int) < (m : Int) := by omega
            by_cases hlq : q < m
            · have q1 : (q : Int) < (m : Int) := by omega
              have q0 : (0 : Int) ≤ (q : Int) := by omega
              obtain ⟨x, hx⟩ : ∃ x, K[q]? = some x := ⟨_, List.getElem?_eq_getElem (by rw [HKL.out]; exact hlq)⟩
              have HX : Hid (K[q]? = some x) := hx
              have HC : Hid (∀ W, Below W0.heap.size W0 W → ((W.cell? ⟨g5, q * 2, none⟩ = some (.string ⟨x.c.toArray⟩) ∧ W.cell? ⟨g5, q * 2 + 1, none⟩ = some (.slice x.q x.L.length x.k)) ∧ (W.cell? ⟨g5, k * 2, none⟩ = some (.string ⟨z.c.toArray⟩) ∧ W.cell? ⟨g5, k * 2 + 1, none⟩ = some (.slice z.q z.L.length z.k))) ∧ YOK W x ∧ YOK W z) := fun W hW => by
                have hf := HF.out.below hW
                exact ⟨⟨rr_cells hf.2.1 HX.out, rr_cells hf.2.1 HZ.out.1⟩, (HYK'.out x (List.mem_of_getElem? HX.out)).later hf.2.2.2.2.2.1, (HYK'.out z (List.mem_of_getElem? HZ.out.1)).later hf.2.2.2.2.2.1⟩
              have hk0 := (HC.out wr hB).1
              have hk0d : (wr.drew.cell? ⟨g5, q * 2, none⟩ = some (.string ⟨x.c.toArray⟩) ∧ wr.drew.cell? ⟨g5, q * 2 + 1, none⟩ = some (.slice x.q x.L.length x.k)) ∧ (wr.drew.cell? ⟨g5, k * 2, none⟩ = some (.string ⟨z.c.toArray⟩) ∧ wr.drew.cell? ⟨g5, k * 2 + 1, none⟩ = some (.slice z.q z.L.length z.k)) := hk0
              have HAH : Hid (∀ W, Below W0.heap.size W0 W → Calls Tryz.prog 71 #[.agg #[.string ⟨x.c.toArray⟩, .slice x.q x.L.length x.k], .agg #[.string ⟨z.c.toArray⟩, .slice z.q z.L.length z.k]] W fun e w' => e = .returned (.bool (decide (cmpLn (x.c :: x.L) (z.c :: z.L) < 0))) ∧ Below W.heap.size W w') := fun W hW => ah_any (HC.out W hW).2.1 (HC.out W hW).2.2
              clear hx
              go_upto_region 25 with fail
              go_region_held3 (fun W => (W.cell? ⟨g5, q * 2, none⟩ = some (.string ⟨x.c.toArray⟩) ∧ W.cell? ⟨g5, q * 2 + 1, none⟩ = some (.slice x.q x.L.length x.k)) ∧ (W.cell? ⟨g5, k * 2, none⟩ = some (.string ⟨z.c.toArray⟩) ∧ W.cell? ⟨g5, k * 2 + 1, none⟩ = some (.slice z.q z.L.length z.k))) (first | with_reducible exact hk0 | with_reducible exact hk0d | with_reducible exact hk5) (first | (go_at_call 71; refine (HAH.out _ (by first | exact hB | exact hB.drew)).mono ?_; rintro e w5 ⟨rfl, hb5⟩; have hb5' : Below W0.heap.size W0 w5 := (by first | exact bel0 hB hb5 | exact bel0 hB (und hb5)); have hk5 := (HC.out w5 hb5').1))
              obtain ⟨r, hr⟩ : ∃ r, decide (cmpLn (x.c :: x.L) (z.c :: z.L) < 0) = r := ⟨_, rfl⟩
              rw [hr]
              clear hk0 hk0d hk5 hb5 HC HAH
              cases r with
              | true =>
                have hlt2 : leLn x.ln z.ln = true := le_of_lt_ln (of_decide_eq_true hr)
                have HZ2 : Hid (K[q]? = some x ∧ ∀ j y, j < q + 1 → K[j]? = some y → leLn x.ln y.ln = true) := ⟨HX.out, fun j y hj hy => by
                  by_cases e : j = q
                  · subst e
                    rw [HX.out] at hy
                    obtain rfl := Option.some.inj hy
                    exact le_refl_ln _
                  · exact leLn_trans _ _ _ hlt2 (HZ.out.2 j y (by omega) hy)⟩
                clear hr hlt2 HZ HX
                go_wp2_with fail
                go_roundw
                case rel => exact ⟨q, q + 1, x, rfl, by go_num, hlq, by omega, HZ2, hb5'⟩
                case measure => simp [intOf]; omega
              | false =>
                have hle : leLn z.ln x.ln = true := le_of_not_ln (of_decide_eq_false hr)
                have HZ2 : Hid (K[k]? = some z ∧ ∀ j y, j < q + 1 → K[j]? = some y → leLn z.ln y.ln = true) := ⟨HZ.out.1, fun j y hj hy => by
                  by_cases e : j = q
                  · subst e
                    rw [HX.out] at hy
                    obtain rfl := Option.some.inj hy
                    exact hle
                  · exact HZ.out.2 j y (by omega) hy⟩
                clear hr hle HZ HX
                go_wp2_with fail
                go_roundw
                case rel => exact ⟨k, q + 1, z, rfl, by go_num, hkm, by omega, HZ2, hb5'⟩
                case measure => simp [intOf]; omega
            · have q1 : ¬ (q : Int) < (m : Int) := by omega
              have HMIN : Hid (∀ x ∈ K, leLn z.ln x.ln = true) := fun x hx => by
                obtain ⟨j, hj, he⟩ := List.getElem_of_mem hx
                exact HZ.out.2 j x (by rw [HKL.out] at hj; omega) (by rw [List.getElem?_eq_getElem hj, he])
              obtain ⟨M1, hM1⟩ : ∃ M1, m = M1 + 1 := ⟨m - 1, by omega⟩
              have HM1 : Hid (m = M1 + 1) := hM1
              have m2 : (m : Int) - 1 = (M1 : Int) := by omega
              have m3 : (0 : Int) ≤ (M1 : Int) := by omega
              have m4 : (M1 : Int) < (m : Int) := by omega
              have m5 : (M1 : Int) ≤ (c : Int) := by have := own_capQ HF.out.2.1; omega
              have m6 : M1 ≤ 100000 := by omega
              obtain ⟨y, hy⟩ : ∃ y, K[M1]? = some y := ⟨_, List.getElem?_eq_getElem (by rw [HKL.out]; omega)⟩
              have HSEL : Hid (SEL K0 ((K.set k y).take M1) (D ++ [z])) := HF.out.2.2.2.2.2.2.step (by rw [HKL.out]; omega) HZ.out.1 hy HMIN.out
              clear hM1
              have HFW : Hid (FS w2 N0 b K0 (some ⟨g5, 0, none⟩) c m vS K D wr) := HF.out.below hB
              obtain ⟨-, okw, hbk, hsb, osw, -, -⟩ := HFW.out
              have hg5 : g5 < N0 := hbk g5 rfl
              have HYL : Hid (K[M1]? = some y) := hy
              have hk0 : (wr.cell? ⟨g5, k * 2, none⟩ = some (.string ⟨z.c.toArray⟩) ∧ wr.cell? ⟨g5, k * 2 + 1, none⟩ = some (.slice z.q z.L.length z.k)) ∧ wr.cell? ⟨N0, 1, none⟩ = some vS := ⟨rr_cells okw HZ.out.1, (cells_block hsb).1 1⟩
              have hk0d : (wr.drew.cell? ⟨g5, k * 2, none⟩ = some (.string ⟨z.c.toArray⟩) ∧ wr.drew.cell? ⟨g5, k * 2 + 1, none⟩ = some (.slice z.q z.L.length z.k)) ∧ wr.drew.cell? ⟨N0, 1, none⟩ = some vS := hk0
              have hk0a : ∀ o, ((wr.alloc o).drew.cell? ⟨g5, k * 2, none⟩ = some (.string ⟨z.c.toArray⟩) ∧ (wr.alloc o).drew.cell? ⟨g5, k * 2 + 1, none⟩ = some (.slice z.q z.L.length z.k)) ∧ (wr.alloc o).drew.cell? ⟨N0, 1, none⟩ = some vS := fun o => ⟨rr_cells (okw.alloc o) HZ.out.1, (cells_block (W := wr.alloc o) (allocblk3 hsb o)).1 1⟩
              have hsz := lt_of_get3 hsb
              have HAFT : Hid (∀ w7, (wr.alloc (.cells #[.string ⟨z.c.toArray⟩, .slice z.q z.L.length z.k] 64 (0, 0))).grownBy w7 vS.ownBlock → w7.ownsRow w2.heap.size 64 2 (.slice (some ⟨g5, 0, none⟩) m c) m (rts K) ∧ w7.heap[N0]? = some (.cells #[.int .i64 b, vS] 27 (0, 0)) ∧ Below w2.heap.size w2 w7) := fun w7 g7 => by
                obtain ⟨-, okw, hbk, hsb, osw, hBw, -⟩ := HFW.out
                refine ⟨(okw.alloc _).kept g7 (.inr (fun e => ?_)), ?_, (belA hBw _).grown g7 (belA hBw _).size (fun k e => ?_)⟩
                · have h1 := (osw.lt g5 e.symm).1
                  have h2 := hbk g5 rfl
                  omega
                · refine (g7.block N0 (by simp; have := lt_of_get3 hsb; omega) (fun e => ?_)).trans (allocblk3 hsb _)
                  have h1 := (osw.lt N0 e.symm).1
                  omega
                · have h1 := (osw.lt k e).1
                  have h2 := HNB.out
                  omega
              clear okw hbk hsb hy
              go_upto_region 27 with fail
              refine wp_region_any (by kernel_rfl) ?_
              change wpAny _ _ _ _ _ _ _ (World.drew _)
              obtain ⟨⟨p0, p1⟩, c3⟩ := hk0d
              have p0a := fun o => (hk0a o).1.1
              have p1a := fun o => (hk0a o).1.2
              have c3a := fun o => (hk0a o).2
              refine wpAny_take (i := 0) (v := ?_) rfl (by kernel_rfl) (by kernel_rfl) (by kernel_rfl) (fun _ _ _ h => h) (Or.inl ⟨by rfl, ?_⟩) ?_
              rotate_left 1
              · intro w; go_simp; try with_reducible rfl
              refine wpAny_take (i := 2) (v := ?_) rfl (by kernel_rfl) (by kernel_rfl) (by kernel_rfl) (fun _ _ _ h => h) (Or.inl ⟨by rfl, ?_⟩) ?_
              rotate_left 1
              · intro w; go_simp; try with_reducible rfl
              refine wpAny_take (i := 3) (v := ?_) rfl (by kernel_rfl) (by kernel_rfl) (by kernel_rfl) (fun _ _ _ h => h) (Or.inl ⟨by rfl, ?_⟩) ?_
              rotate_left 1
              · intro w; go_simp; try with_reducible rfl
              refine wpAny_take (i := 4) (v := ?_) rfl (by kernel_rfl) (by kernel_rfl) (by kernel_rfl) (fun _ _ _ h => h) (Or.inl ⟨by rfl, ?_⟩) ?_
              rotate_left 1
              · intro w; go_simp; try with_reducible rfl
              refine wpAny_ready (rs := [1, 5]) (by kernel_rfl) (by simp) ?_
              refine AllReady.cons rfl (fun K hK => ?_) ?_
              · go_simp
                refine hK _ _ ?_
                clear hK K
                refine wpAny_ready (rs := [5]) (by kernel_rfl) (by simp) ?_
                refine AllReady.cons rfl (fun K hK => ?_) ?_
                · go_simp
                  refine hK _ _ ?_
                  clear hK K
                  refine wpAny_ready (rs := [6]) (by kernel_rfl) (by simp) ?_
                  refine AllReady.cons rfl (fun K hK => ?_) ?_
                  · go_simp
                    refine hK _ _ ?_
                    clear hK K
                    refine wpAny_ready (rs := [7]) (by kernel_rfl) (by simp) ?_
                    refine AllReady.cons rfl (fun K hK => ?_) ?_
                    · refine step_append_lies _ (by rfl) _ _ _ (by rfl) (N0 + 1) 64 iT _ 2 40 Tryz.underlying25 hiT hzT0 hzT1 hzT2 rfl (by decide) vS D.length (rts D) (by rfl) (World.ownsRow.alloc osw _) ⟨_, 0, none⟩ 1 1 [.string ⟨z.c.toArray⟩, .slice z.q z.L.length z.k] (by rfl) (by rfl) (World.news_of_block (w := wr.alloc (.cells #[.string ⟨z.c.toArray⟩, .slice z.q z.L.length z.k] 64 (0, 0))) (cs := #[.string ⟨z.c.toArray⟩, .slice z.q z.L.length z.k]) (t := 64) (fr := (0, 0)) (alloc_get wr _)) (by simp [Value.oneCell']) (by omega) (by unfold maxLen; omega) (by omega) (by simp; omega) _ rfl ?_
                      intro g9 c9 w7 o7 g7 _ _
                      obtain ⟨ok7, hs7, hB7⟩ := HAFT.out w7 (drew_grown g7)
                      obtain ⟨hcS7, hfS7⟩ := cells_block hs7
                      refine hK _ _ ?_
                      clear hK K
                      refine wpAny_take (i := 8) (v := ?_) rfl (by kernel_rfl) (by kernel_rfl) (by kernel_rfl) (fun _ _ _ h => h) (Or.inl ⟨by rfl, ?_⟩) ?_
                      rotate_left 1
                      · intro w; go_simp; try with_reducible rfl
                      refine wpAny_ready (rs := [9]) (by kernel_rfl) (by simp) ?_
                      refine AllReady.cons rfl (fun K hK => ?_) ?_
                      · go_simp
                        refine hK _ _ ?_
                        clear hK K
                        refine wpAny_done (by kernel_rfl) ?_ _
                        have hN5 : Value.ownBlock (.slice (some ⟨g5, 0, none⟩) m c) ≠ some N0 := fun e => by have e9 : g5 = N0 := Option.some.inj e; omega
                        have ok8 := ok7.kept (set_grS w7 N0 1 (.slice (some ⟨g9, 0, none⟩) (D.length + 1) c9)) (.inr hN5)
                        obtain ⟨y0, y1⟩ := rr_cells ok8 HYL.out
                        obtain ⟨z0, z1⟩ := rr_cells ok8 HZ.out.1
                        have hfz : ∀ j, (w7.setCell ⟨N0, 1, none⟩ (.slice (some ⟨g9, 0, none⟩) (D.length + 1) c9)).frozen? ⟨g5, j, none⟩ = false := by
                          rcases own_shapeQ ok8 with ⟨e, h0⟩ | ⟨g6, c6, e, -, -, cur, hcur⟩
                          · omega
                          · injection e with e1 _ _
                            injection e1 with e1
                            injection e1 with e1 _
                            subst e1
                            exact (cells_block hcur).2
                        have HFS : Hid (FS w2 N0 b K0 (some ⟨g5, 0, none⟩) c M1 (.slice (some ⟨g9, 0, none⟩) (D.length + 1) c9) ((K.set k y).take M1) (D ++ [z]) (((w7.setCell ⟨N0, 1, none⟩ (.slice (some ⟨g9, 0, none⟩) (D.length + 1) c9)).setCell ⟨g5, k * 2, none⟩ (.string ⟨y.c.toArray⟩)).setCell ⟨g5, k * 2 + 1, none⟩ (.slice y.q y.L.length y.k))) := by
                          obtain ⟨o9, gr9⟩ := put2_own y ok8 (by rw [HKL.out]; exact hkm)
                          have hm1 := HM1.out
                          have hl : (K.set k y).length = m := by rw [List.length_set]; exact HKL.out
                          have h7 := set_get (j := 1) (.slice (some ⟨g9, 0, none⟩) (D.length + 1) c9) hs7
                          have o7' := o7.kept (set_grS w7 N0 1 (.slice (some ⟨g9, 0, none⟩) (D.length + 1) c9)) (.inr (fun e => by have := (o7.lt _ e).1; omega))
                          have hb9 : ∀ b, Value.ownBlock (.slice (some ⟨g9, 0, none⟩) (D.length + 1) c9) = some b → N0 + 1 ≤ b := fun b e => (o7.lt b e).1
                          refine ⟨by rw [List.length_take, hl]; omega, ?_, ?_, ?_, ?_, ?_, HSEL.out⟩
                          · have o10 := own_cut (i := M1) (by omega) o9
                            rw [rts_take] at o10
                            exact o10
                          · intro b e
                            have e9 : g5 = b := Option.some.inj e
                            omega
                          · refine (gr9.block N0 ?_ (fun e => ?_)).trans ?_
                            · exact lt_of_get3 h7
                            · have e9 : N0 = g5 := Option.some.inj e
                              omega
                            · rw [h7]
                              rfl
                          · rw [rts_snoc, List.length_append]
                            exact o7'.kept gr9 (.inr (fun e => by have := hb9 g5 e; omega))
                          · refine (hB7.setCell (p := ⟨N0, 1, none⟩) HNB.out _).grown gr9 ?_ (fun k e => ?_)
                            · have := hB7.size
                              simp
                              exact this
                            · have e9 : g5 = k := Option.some.inj e
                              have := (ok8.lt g5 rfl).1
                              omega
                        clear ok7 hs7 hB7 o7 g7 hcS7 hfS7 ok8 HAFT osw p0 p1 c3 p0a p1a c3a hk0 hk0a
                        go_wp2_with fail
                        go_roundw
                        case rel => exact ⟨_, _, M1, _, _, _, by go_num, HFS⟩
                        case measure => have hm1 := HM1.out; simp; omega
                      exact AllReady.nil
                    exact AllReady.nil
                  exact AllReady.nil
                exact AllReady.nil
              refine AllReady.cons rfl (fun K hK => ?_) ?_
              · go_simp
                refine hK _ _ ?_
                clear hK K
                refine wpAny_ready (rs := [1, 6]) (by kernel_rfl) (by simp) ?_
                refine AllReady.cons rfl (fun K hK => ?_) ?_
                · go_simp
                  refine hK _ _ ?_
                  clear hK K
                  refine wpAny_ready (rs := [6]) (by kernel_rfl) (by simp) ?_
                  refine AllReady.cons rfl (fun K hK => ?_) ?_
                  · go_simp
                    refine hK _ _ ?_
                    clear hK K
                    refine wpAny_ready (rs := [7]) (by kernel_rfl) (by simp) ?_
                    refine AllReady.cons rfl (fun K hK => ?_) ?_
                    · refine step_append_lies _ (by rfl) _ _ _ (by rfl) (N0 + 1) 64 iT _ 2 40 Tryz.underlying25 hiT hzT0 hzT1 hzT2 rfl (by decide) vS D.length (rts D) (by rfl) (World.ownsRow.alloc osw _) ⟨_, 0, none⟩ 1 1 [.string ⟨z.c.toArray⟩, .slice z.q z.L.length z.k] (by rfl) (by rfl) (World.news_of_block (w := wr.alloc (.cells #[.string ⟨z.c.toArray⟩, .slice z.q z.L.length z.k] 64 (0, 0))) (cs := #[.string ⟨z.c.toArray⟩, .slice z.q z.L.length z.k]) (t := 64) (fr := (0, 0)) (alloc_get wr _)) (by simp [Value.oneCell']) (by omega) (by unfold maxLen; omega) (by omega) (by simp; omega) _ rfl ?_
                      intro g9 c9 w7 o7 g7 _ _
                      obtain ⟨ok7, hs7, hB7⟩ := HAFT.out w7 (drew_grown g7)
                      obtain ⟨hcS7, hfS7⟩ := cells_block hs7
                      refine hK _ _ ?_
                      clear hK K
                      refine wpAny_take (i := 8) (v := ?_) rfl (by kernel_rfl) (by kernel_rfl) (by kernel_rfl) (fun _ _ _ h => h) (Or.inl ⟨by rfl, ?_⟩) ?_
                      rotate_left 1
                      · intro w; go_simp; try with_reducible rfl
                      refine wpAny_ready (rs := [9]) (by kernel_rfl) (by simp) ?_
                      refine AllReady.cons rfl (fun K hK => ?_) ?_
                      · go_simp
                        refine hK _ _ ?_
                        clear hK K
                        refine wpAny_done (by kernel_rfl) ?_ _
                        have hN5 : Value.ownBlock (.slice (some ⟨g5, 0, none⟩) m c) ≠ some N0 := fun e => by have e9 : g5 = N0 := Option.some.inj e; omega
                        have ok8 := ok7.kept (set_grS w7 N0 1 (.slice (some ⟨g9, 0, none⟩) (D.length + 1) c9)) (.inr hN5)
                        obtain ⟨y0, y1⟩ := rr_cells ok8 HYL.out
                        obtain ⟨z0, z1⟩ := rr_cells ok8 HZ.out.1
                        have hfz : ∀ j, (w7.setCell ⟨N0, 1, none⟩ (.slice (some ⟨g9, 0, none⟩) (D.length + 1) c9)).frozen? ⟨g5, j, none⟩ = false := by
                          rcases own_shapeQ ok8 with ⟨e, h0⟩ | ⟨g6, c6, e, -, -, cur, hcur⟩
                          · omega
                          · injection e with e1 _ _
                            injection e1 with e1
                            injection e1 with e1 _
                            subst e1
                            exact (cells_block hcur).2
                        have HFS : Hid (FS w2 N0 b K0 (some ⟨g5, 0, none⟩) c M1 (.slice (some ⟨g9, 0, none⟩) (D.length + 1) c9) ((K.set k y).take M1) (D ++ [z]) (((w7.setCell ⟨N0, 1, none⟩ (.slice (some ⟨g9, 0, none⟩) (D.length + 1) c9)).setCell ⟨g5, k * 2, none⟩ (.string ⟨y.c.toArray⟩)).setCell ⟨g5, k * 2 + 1, none⟩ (.slice y.q y.L.length y.k))) := by
                          obtain ⟨o9, gr9⟩ := put2_own y ok8 (by rw [HKL.out]; exact hkm)
                          have hm1 := HM1.out
                          have hl : (K.set k y).length = m := by rw [List.length_set]; exact HKL.out
                          have h7 := set_get (j := 1) (.slice (some ⟨g9, 0, none⟩) (D.length + 1) c9) hs7
                          have o7' := o7.kept (set_grS w7 N0 1 (.slice (some ⟨g9, 0, none⟩) (D.length + 1) c9)) (.inr (fun e => by have := (o7.lt _ e).1; omega))
                          have hb9 : ∀ b, Value.ownBlock (.slice (some ⟨g9, 0, none⟩) (D.length + 1) c9) = some b → N0 + 1 ≤ b := fun b e => (o7.lt b e).1
                          refine ⟨by rw [List.length_take, hl]; omega, ?_, ?_, ?_, ?_, ?_, HSEL.out⟩
                          · have o10 := own_cut (i := M1) (by omega) o9
                            rw [rts_take] at o10
                            exact o10
                          · intro b e
                            have e9 : g5 = b := Option.some.inj e
                            omega
                          · refine (gr9.block N0 ?_ (fun e => ?_)).trans ?_
                            · exact lt_of_get3 h7
                            · have e9 : N0 = g5 := Option.some.inj e
                              omega
                            · rw [h7]
                              rfl
                          · rw [rts_snoc, List.length_append]
                            exact o7'.kept gr9 (.inr (fun e => by have := hb9 g5 e; omega))
                          · refine (hB7.setCell (p := ⟨N0, 1, none⟩) HNB.out _).grown gr9 ?_ (fun k e => ?_)
                            · have := hB7.size
                              simp
                              exact this
                            · have e9 : g5 = k := Option.some.inj e
                              have := (ok8.lt g5 rfl).1
                              omega
                        clear ok7 hs7 hB7 o7 g7 hcS7 hfS7 ok8 HAFT osw p0 p1 c3 p0a p1a c3a hk0 hk0a
                        go_wp2_with fail
                        go_roundw
                        case rel => exact ⟨_, _, M1, _, _, _, by go_num, HFS⟩
                        case measure => have hm1 := HM1.out; simp; omega
                      exact AllReady.nil
                    exact AllReady.nil
                  exact AllReady.nil
                refine AllReady.cons rfl (fun K hK => ?_) ?_
                · go_simp
                  refine hK _ _ ?_
                  clear hK K
                  refine wpAny_ready (rs := [1]) (by kernel_rfl) (by simp) ?_
                  refine AllReady.cons rfl (fun K hK => ?_) ?_
                  · go_simp
                    refine hK _ _ ?_
                    clear hK K
                    refine wpAny_ready (rs := [7]) (by kernel_rfl) (by simp) ?_
                    refine AllReady.cons rfl (fun K hK => ?_) ?_
                    · refine step_append_lies _ (by rfl) _ _ _ (by rfl) (N0 + 1) 64 iT _ 2 40 Tryz.underlying25 hiT hzT0 hzT1 hzT2 rfl (by decide) vS D.length (rts D) (by rfl) (World.ownsRow.alloc osw _) ⟨_, 0, none⟩ 1 1 [.string ⟨z.c.toArray⟩, .slice z.q z.L.length z.k] (by rfl) (by rfl) (World.news_of_block (w := wr.alloc (.cells #[.string ⟨z.c.toArray⟩, .slice z.q z.L.length z.k] 64 (0, 0))) (cs := #[.string ⟨z.c.toArray⟩, .slice z.q z.L.length z.k]) (t := 64) (fr := (0, 0)) (alloc_get wr _)) (by simp [Value.oneCell']) (by omega) (by unfold maxLen; omega) (by omega) (by simp; omega) _ rfl ?_
                      intro g9 c9 w7 o7 g7 _ _
                      obtain ⟨ok7, hs7, hB7⟩ := HAFT.out w7 (drew_grown g7)
                      obtain ⟨hcS7, hfS7⟩ := cells_block hs7
                      refine hK _ _ ?_
                      clear hK K
                      refine wpAny_take (i := 8) (v := ?_) rfl (by kernel_rfl) (by kernel_rfl) (by kernel_rfl) (fun _ _ _ h => h) (Or.inl ⟨by rfl, ?_⟩) ?_
                      rotate_left 1
                      · intro w; go_simp; try with_reducible rfl
                      refine wpAny_ready (rs := [9]) (by kernel_rfl) (by simp) ?_
                      refine AllReady.cons rfl (fun K hK => ?_) ?_
                      · go_simp
                        refine hK _ _ ?_
                        clear hK K
                        refine wpAny_done (by kernel_rfl) ?_ _
                        have hN5 : Value.ownBlock (.slice (some ⟨g5, 0, none⟩) m c) ≠ some N0 := fun e => by have e9 : g5 = N0 := Option.some.inj e; omega
                        have ok8 := ok7.kept (set_grS w7 N0 1 (.slice (some ⟨g9, 0, none⟩) (D.length + 1) c9)) (.inr hN5)
                        obtain ⟨y0, y1⟩ := rr_cells ok8 HYL.out
                        obtain ⟨z0, z1⟩ := rr_cells ok8 HZ.out.1
                        have hfz : ∀ j, (w7.setCell ⟨N0, 1, none⟩ (.slice (some ⟨g9, 0, none⟩) (D.length + 1) c9)).frozen? ⟨g5, j, none⟩ = false := by
                          rcases own_shapeQ ok8 with ⟨e, h0⟩ | ⟨g6, c6, e, -, -, cur, hcur⟩
                          · omega
                          · injection e with e1 _ _
                            injection e1 with e1
                            injection e1 with e1 _
                            subst e1
                            exact (cells_block hcur).2
                        have HFS : Hid (FS w2 N0 b K0 (some ⟨g5, 0, none⟩) c M1 (.slice (some ⟨g9, 0, none⟩) (D.length + 1) c9) ((K.set k y).take M1) (D ++ [z]) (((w7.setCell ⟨N0, 1, none⟩ (.slice (some ⟨g9, 0, none⟩) (D.length + 1) c9)).setCell ⟨g5, k * 2, none⟩ (.string ⟨y.c.toArray⟩)).setCell ⟨g5, k * 2 + 1, none⟩ (.slice y.q y.L.length y.k))) := by
                          obtain ⟨o9, gr9⟩ := put2_own y ok8 (by rw [HKL.out]; exact hkm)
                          have hm1 := HM1.out
                          have hl : (K.set k y).length = m := by rw [List.length_set]; exact HKL.out
                          have h7 := set_get (j := 1) (.slice (some ⟨g9, 0, none⟩) (D.length + 1) c9) hs7
                          have o7' := o7.kept (set_grS w7 N0 1 (.slice (some ⟨g9, 0, none⟩) (D.length + 1) c9)) (.inr (fun e => by have := (o7.lt _ e).1; omega))
                          have hb9 : ∀ b, Value.ownBlock (.slice (some ⟨g9, 0, none⟩) (D.length + 1) c9) = some b → N0 + 1 ≤ b := fun b e => (o7.lt b e).1
                          refine ⟨by rw [List.length_take, hl]; omega, ?_, ?_, ?_, ?_, ?_, HSEL.out⟩
                          · have o10 := own_cut (i := M1) (by omega) o9
                            rw [rts_take] at o10
                            exact o10
                          · intro b e
                            have e9 : g5 = b := Option.some.inj e
                            omega
                          · refine (gr9.block N0 ?_ (fun e => ?_)).trans ?_
                            · exact lt_of_get3 h7
                            · have e9 : N0 = g5 := Option.some.inj e
                              omega
                            · rw [h7]
                              rfl
                          · rw [rts_snoc, List.length_append]
                            exact o7'.kept gr9 (.inr (fun e => by have := hb9 g5 e; omega))
                          · refine (hB7.setCell (p := ⟨N0, 1, none⟩) HNB.out _).grown gr9 ?_ (fun k e => ?_)
                            · have := hB7.size
                              simp
                              exact this
                            · have e9 : g5 = k := Option.some.inj e
                              have := (ok8.lt g5 rfl).1
                              omega
                        clear ok7 hs7 hB7 o7 g7 hcS7 hfS7 ok8 HAFT osw p0 p1 c3 p0a p1a c3a hk0 hk0a
                        go_wp2_with fail
                        go_roundw
                        case rel => exact ⟨_, _, M1, _, _, _, by go_num, HFS⟩
                        case measure => have hm1 := HM1.out; simp; omega
                      exact AllReady.nil
                    exact AllReady.nil
                  exact AllReady.nil
                exact AllReady.nil
              exact AllReady.nil
        · have m1 : ¬ (0 : Int) < (m : Int) := by omega
          have HD : Hid (D.map ZT.cont = frmD (topC (Z.map ZT.cont))) := by
            have hs := HF.out.2.2.2.2.2.2
            obtain rfl : K = [] := List.eq_nil_of_length_eq_zero (by omega)
            unfold Hid frmD
            rw [← HCT.out]
            exact hs.done
          obtain ⟨pS, cS, rfl⟩ := shapeQ1 HF.out.2.2.2.2.1
          obtain ⟨hcS, -⟩ := cells_block HF.out.2.2.2.1
          have hres := keepblk3 HF.out.2.2.2.2.2.1 HA.out.1
          obtain ⟨hcR, hfR⟩ := cells_block hres
          have HRS : Hid (_ = _) := set2_get (.int .i64 b) (.slice pS D.length cS) hres
          have HYD' : Hid (∀ y ∈ D, YOK w y) := HYD
          have hwn : Hid (w.heap.size < N0 + 1) := by
            have h1 := lt_of_get3 HA.out.1
            have h2 := HNB.out
            unfold Hid
            omega
          clear hres HYD HK0
          go_wp2_with fail
          refine bodyPost_ret (v := .agg #[.int .i64 b, .slice pS D.length cS]) (res_rs1 _ _ w.heap.size _ _ Tryz.results49 rfl HRS.out) rfl ?_
          have hBw : Below w.heap.size w ((W0.setCell ⟨w.heap.size, 0, none⟩ (.int .i64 b)).setCell ⟨w.heap.size, 1, none⟩ (.slice pS D.length cS)) := ((bel0 HA.out.2 HF.out.2.2.2.2.2.1).setCell (Nat.le_refl _) _).setCell (Nat.le_refl _) _
          refine ⟨.slice pS D.length cS, rfl, ⟨D, pS, cS, rfl, HD.out, ?_, ?_⟩, hBw⟩
          · have o1 := HF.out.2.2.2.2.1
            have hw := hwn.out
            exact IRR_own ((o1.kept (set_grS _ _ _ _) (.inr (fun e => by have := (o1.lt _ e).1; omega))).kept (set_grS _ _ _ _) (.inr (fun e => by have := (o1.lt _ e).1; omega))) rfl
          · exact fun z hz => (HYD'.out z hz).1.later hBw
end Go.Proofs.YtmdnapognaddbaaGreatDoor

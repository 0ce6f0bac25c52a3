import Derived.Test.YtodhgeolcbmeiaaRS
namespace Go.Proofs.Ytodhgeolcbmeiaa
open Go.RowKit
theorem iv_app (V : List Int) (x : Int) : iv V ++ [.int .i64 x] = iv (V ++ [x]) := by simp [iv]
theorem res_qsh (tmps : Array Value) (W : World) (x y z : Value) (h : tmps[6]?.getD undef = x ∧ tmps[7]?.getD undef = y ∧ tmps[8]?.getD undef = z) : (results Try.f11 tmps).run Try.prog W = .ok (.tuple #[x, y, z]) W := by
  simp [results, h.1, h.2.1, h.2.2, go_sem]
set_option maxRecDepth 100000 in
set_option maxHeartbeats 8000000 in
theorem qshort_any (N : Int) (E : List IRt) (D : List Int) (oe od : Option Addr) (ce cd ne nd : Nat) (w : World) (hne : E.length = ne) (hnd : D.length = nd) (hE : IRR w oe E) (hD : IRI w od D) (G B0 : List Int) (hS : shortR N E D G B0) :
    Calls Try.prog 11 #[.int .i64 N, .slice oe ne ce, .slice od nd cd] w fun e w' => ∃ (A : List Int) (va vb : Value), e = .returned (.tuple #[va, vb, .int .i64 (gfit N E D)]) ∧ shortR N E D G A ∧ w'.ownsRow w.heap.size 3 1 va G.length (iv G) ∧ w'.ownsRow w.heap.size 3 1 vb A.length (iv A) ∧ Below w.heap.size w w' := by
  have HFT0 := qgraph_any N E D oe od ce cd ne nd w hne hnd hE hD
  unfold shortR at hS ⊢
  obtain ⟨F, hF⟩ : ∃ F, gfit N E D = F := ⟨_, rfl⟩
  simp only [hF] at hS ⊢
  rw [hF] at HFT0
  have HFT : Hid (Calls Try.prog 34 #[.int .i64 N, .slice oe ne ce, .slice od nd cd] w fun e w' => e = .returned (.int .i64 F) ∧ Below w.heap.size w w') := HFT0
  clear HFT0
  by_cases f0 : F = 0
  · subst f0
    rw [if_pos rfl] at hS
    obtain ⟨h1, hg, hd⟩ := gfit_ok hF
    obtain ⟨N, rfl⟩ : ∃ n : Nat, N = n := ⟨N.toNat, by omega⟩
    rw [Int.toNat_natCast] at hg hS
    obtain ⟨i0, hi, hz0, hz1, hz2⟩ := info_parts info_int8
    have HG : Hid (Grf N E (D.map Int.toNat) ∧ Cert E (D.map Int.toNat) G ∧ G.length = N ∧ ∀ u, gF G u ≤ 159984) := ⟨hg, hS.1, hS.2.1, hS.2.2.2⟩
    have HE : Hid (IRR w oe E) := hE
    have HD : Hid (IRI w od ((D.map Int.toNat).map (fun d : Nat => (d : Int)))) := by unfold Hid; rw [← hd]; exact hD
    have HNE : Hid (E.length = ne ∧ (D.map Int.toNat).length = nd) := ⟨hne, by rw [List.length_map]; exact hnd⟩
    have hN : N ≤ 16 := hg.nn
    have hN1 : 1 ≤ N := by omega
    have he48 : ne ≤ 48 := hne ▸ hg.el
    have hd16 : nd ≤ 16 := by have := hg.dl; rw [List.length_map, hnd] at this; exact this
    generalize D.map Int.toNat = Dn at HG HD HNE hd hg hS ⊢
    clear hE hD hF hne hnd h1 hg hd hS
    go_enter Try.func11, Try.ntmps11
    go_wp2_with fail
    refine HFT.out.mono ?_
    rintro e W1 ⟨rfl, hb1⟩
    have hbs := hb1.size
    go_wp2_with fail
    go_loopw [10, 11, 12] (fun va vb vi wr => ∃ i : Nat, vi = .int .i64 (i : Int) ∧ i ≤ N ∧ Hid (wr.ownsRow w.heap.size 3 1 va i (iv (List.replicate i (-1))) ∧ wr.ownsRow w.heap.size 3 1 vb i (iv (List.replicate i (-1)))) ∧ Hid (AP va vb) ∧ Below w.heap.size w wr) (fun _ _ vi _ => N - (intOf vi).toNat)
    case atStart => exact ⟨0, rfl, Nat.zero_le _, ⟨World.ownsRow_nil _ _ _ _, World.ownsRow_nil _ _ _ _⟩, (show Hid (AP _ _) from fun k e _ => (by cases e)), hb1⟩
    case round =>
      clear hb1 hbs
      obtain ⟨i, rfl, hin, hA, hAP, hB⟩ := hrel
      by_cases hlt : i < N
      · have j1 : (i : Int) < (N : Int) := by omega
        have erp : List.replicate i (-1 : Int) ++ [-1] = List.replicate (i + 1) (-1) := (List.replicate_succ' ).symm
        obtain ⟨q1, c1, rfl⟩ := shapeP hA.out.1
        obtain ⟨q2, c2, rfl⟩ := shapeP hA.out.2
        have ow1 := hA.out.1.alloc (.cells #[.int .i64 (-1)] 3)
        have hbw1 := (hB.alloc hB.size (.cells #[.int .i64 (-1)] 3)).size
        have HB1 : Hid (Below w.heap.size w (wr.alloc (.cells #[.int .i64 (-1)] 3))) := hB.alloc hB.size _
        have HO2 : Hid ((wr.alloc (.cells #[.int .i64 (-1)] 3)).ownsRow w.heap.size 3 1 (.slice q2 i c2) i (iv (List.replicate i (-1)))) := hA.out.2.alloc _
        go_upto_region 10 with (at_builtin; refine wpList_append_lies _ rfl _ _ 23 rfl w.heap.size 3 i0 _ 1 8 Try.underlying23 hi hz0 hz1 hz2 rfl (by decide) _ _ _ rfl ow1 ⟨_, 0, none⟩ 1 1 [.int .i64 (-1)] rfl rfl (World.news_of_block (cs := #[.int .i64 (-1)]) (t := 3) (fr := (0, 0)) (alloc_get _ _)) (by simp [Value.oneCell']) (by omega) (by unfold maxLen; omega) (by omega) hbw1 _ rfl ?_; intro g6 c6 w6 oB hg6 hgo hgl)
        have H6 : Hid (w6.ownsRow w.heap.size 3 1 (.slice (some ⟨g6, 0, none⟩) (i + 1) c6) (i + 1) (iv (List.replicate (i + 1) (-1)))) := by
          unfold Hid
          rw [← erp, ← iv_app]
          exact oB
        have H7 : Hid (w6.ownsRow w.heap.size 3 1 (.slice q2 i c2) i (iv (List.replicate i (-1)))) := HO2.out.kept hg6 (by
          cases e : (Value.slice q2 i c2).ownBlock with
          | none => exact .inl rfl
          | some x => exact .inr (fun e2 => hAP.out x e2.symm e))
        have HAP6 : Hid (∀ x, (Value.slice q2 i c2).ownBlock = some x → x ≠ g6) := fun x e => by
          rcases hgo with a | a
          · exact fun e2 => hAP.out g6 a (e2 ▸ e)
          · have := (hA.out.2.lt x e).2
            have e3 : (wr.alloc (.cells #[.int .i64 (-1)] 3)).heap.size = wr.heap.size + 1 := Array.size_push _
            omega
        have HB6 : Hid (Below w.heap.size w w6) := HB1.out.grown hg6 hbw1 (fun x e => (ow1.lt x e).1)
        have HGL : Hid (g6 < w6.heap.size) := hgl
        clear oB hg6 hgo hgl ow1 hbw1 HB1 HO2 hA hAP hB
        have ow2 := H7.out.alloc (.cells #[.int .i64 (-1)] 3)
        have hbw2 := (HB6.out.alloc HB6.out.size (.cells #[.int .i64 (-1)] 3)).size
        go_wp2_with (at_builtin; refine wpList_append_lies _ rfl _ _ 23 rfl w.heap.size 3 i0 _ 1 8 Try.underlying23 hi hz0 hz1 hz2 rfl (by decide) _ _ _ rfl ow2 ⟨_, 0, none⟩ 1 1 [.int .i64 (-1)] rfl rfl (World.news_of_block (cs := #[.int .i64 (-1)]) (t := 3) (fr := (0, 0)) (alloc_get _ _)) (by simp [Value.oneCell']) (by omega) (by unfold maxLen; omega) (by omega) hbw2 _ rfl ?_; intro g7 c7 w7 oB hg7 hgo hgl)
        have o7 : w7.ownsRow w.heap.size 3 1 (.slice (some ⟨g7, 0, none⟩) (i + 1) c7) (i + 1) (iv (List.replicate (i + 1) (-1))) := by
          rw [← erp, ← iv_app]
          exact oB
        have o6 : w7.ownsRow w.heap.size 3 1 (.slice (some ⟨g6, 0, none⟩) (i + 1) c6) (i + 1) (iv (List.replicate (i + 1) (-1))) := (H6.out.alloc (.cells #[.int .i64 (-1)] 3)).kept hg7 (.inr (fun e => HAP6.out g6 e.symm rfl))
        have h67 : g6 ≠ g7 := fun e => by
          rcases hgo with a | a
          · exact HAP6.out g7 a e.symm
          · have := HGL.out
            have e3 : (w6.alloc (.cells #[.int .i64 (-1)] 3)).heap.size = w6.heap.size + 1 := Array.size_push _
            omega
        have hB7 := (HB6.out.alloc HB6.out.size (.cells #[.int .i64 (-1)] 3)).grown hg7 hbw2 (fun x e => (ow2.lt x e).1)
        go_roundw
        case rel => exact ⟨i + 1, by go_num, by omega, ⟨o6, o7⟩, (show Hid (AP _ _) from fun x e e2 => h67 ((show g6 = x by injection e).trans (show g7 = x by injection e2).symm)), hB7⟩
        case measure => simp [intOf] <;> omega
      · have j1 : ¬ (i : Int) < (N : Int) := by omega
        obtain rfl : i = N := by omega
        obtain ⟨ga, ca, rfl⟩ := rown_form hA.out.1 (by omega)
        obtain ⟨gb, cb, rfl⟩ := rown_form hA.out.2 (by omega)
        have HNAB : Hid (ga ≠ gb) := fun e => hAP.out ga rfl (by rw [e]; rfl)
        have HA0 : Hid (wr.ownsRow w.heap.size 3 1 (.slice (some ⟨ga, 0, none⟩) i ca) i (iv (List.replicate i (-1))) ∧ wr.ownsRow w.heap.size 3 1 (.slice (some ⟨gb, 0, none⟩) i cb) i (iv (List.replicate i (-1)))) := hA
        clear hA hAP
        go_wp2_with fail
        go_loopw [13] (fun vj wz => ∃ j : Nat, vj = .int .i64 (j : Int) ∧ j ≤ nd ∧ Hid (wz.ownsRow w.heap.size 3 1 (.slice (some ⟨ga, 0, none⟩) i ca) i (iv (bf0 i Dn j)) ∧ wz.ownsRow w.heap.size 3 1 (.slice (some ⟨gb, 0, none⟩) i cb) i (iv (List.replicate i (-1)))) ∧ Below w.heap.size w wz) (fun vj _ => nd - (intOf vj).toNat)
        case atStart => exact ⟨0, rfl, Nat.zero_le _, HA0, hB⟩
        case round =>
          clear HA0 hB
          obtain ⟨j, rfl, hjn, hA, hB⟩ := hrel
          by_cases hlt2 : j < nd
          · have j2 : (j : Int) < (nd : Int) := by omega
            have j3 : (0 : Int) ≤ (j : Int) := by omega
            obtain ⟨d, hdj⟩ : ∃ d, Dn[j]? = some d := ⟨_, List.getElem?_eq_getElem (by rw [HNE.out.2]; omega)⟩
            obtain ⟨gd, ov, rfl, p0⟩ := HD.out wr hB j (d : Int) (by rw [List.getElem?_map, hdj]; rfl)
            have hdN : d < i := HG.out.1.ds d (List.mem_of_getElem? hdj)
            have d0 : (0 : Int) ≤ (d : Int) := by omega
            have d1 : (d : Int) < (i : Int) := by omega
            have q0 := iv_at hA.out.1 (gF_at (F := bf0 i Dn j) (v := d) (by rw [bf0_len]; exact hdN))
            have z0 := hA.out.1.frozenAt d
            have hst := hA.out.1.stored d (.int .i64 0)
            rw [iv_set] at hst
            have eb : (bf0 i Dn j).set d 0 = bf0 i Dn (j + 1) := by rw [bf0, show Dn.getD j 0 = d by simp [List.getD, hdj]]
            rw [eb] at hst
            have H5 : Hid ((wr.setCell ⟨ga, d, none⟩ (.int .i64 0)).ownsRow w.heap.size 3 1 (.slice (some ⟨ga, 0, none⟩) i ca) i (iv (bf0 i Dn (j + 1))) ∧ (wr.setCell ⟨ga, d, none⟩ (.int .i64 0)).ownsRow w.heap.size 3 1 (.slice (some ⟨gb, 0, none⟩) i cb) i (iv (List.replicate i (-1)))) := ⟨hst.1, hA.out.2.kept hst.2 (.inr (fun e => HNAB.out (by injection e with e; exact e.symm)))⟩
            have HB5 : Hid (Below w.heap.size w (wr.setCell ⟨ga, d, none⟩ (.int .i64 0))) := hB.grown hst.2 hB.size (fun x e => by injection e with e; have := (hA.out.1.lt ga rfl).1; omega)
            clear hst eb hdj hA
            go_wp2_with fail
            go_roundw
            case rel => exact ⟨j + 1, by go_num, by omega, H5, HB5.out⟩
            case measure => simp [intOf] <;> omega
          · have j2 : ¬ (j : Int) < (nd : Int) := by omega
            obtain rfl : j = nd := by omega
            have HBS : Hid (BF E G (bf0 i Dn j) 0 0 ∧ ∀ u, gF (bf0 i Dn j) u ≤ 0) := by
              have hs := BF.start HG.out.2.1 (fun e he => (HG.out.1.ed e he).2.2.2.2.1) (fun d hd => by rw [HG.out.2.2.1]; exact HG.out.1.ds d hd)
              rw [HG.out.2.2.1, HNE.out.2] at hs
              refine ⟨hs, fun u => ?_⟩
              rw [bf0_at i Dn HG.out.1.ds j (by rw [HNE.out.2]; exact Nat.le_refl _)]
              split <;> decide
            obtain ⟨N, hNi⟩ : ∃ N, i = N := ⟨i, rfl⟩
            subst hNi
            obtain ⟨F0, hF0⟩ : ∃ F0, bf0 i Dn j = F0 := ⟨_, rfl⟩
            rw [hF0] at hA HBS
            have HA1 : Hid (wr.ownsRow w.heap.size 3 1 (.slice (some ⟨ga, 0, none⟩) i ca) i (iv F0) ∧ wr.ownsRow w.heap.size 3 1 (.slice (some ⟨gb, 0, none⟩) i cb) i (iv (List.replicate i (-1)))) := hA
            clear hA hF0
            go_wp2_with fail
            go_loopw [14] (fun vr wz => ∃ (r : Nat) (F : List Int), vr = .int .i64 (r : Int) ∧ r ≤ i ∧ Hid (BF E G F r 0 ∧ (∀ u, gF F u ≤ 479952 * (r : Int)) ∧ wz.ownsRow w.heap.size 3 1 (.slice (some ⟨ga, 0, none⟩) i ca) i (iv F) ∧ wz.ownsRow w.heap.size 3 1 (.slice (some ⟨gb, 0, none⟩) i cb) i (iv (List.replicate i (-1)))) ∧ Below w.heap.size w wz) (fun vr _ => i - (intOf vr).toNat)
            case atStart => exact ⟨0, F0, rfl, Nat.zero_le _, ⟨HBS.out.1, fun u => by have := HBS.out.2 u; omega, HA1.out⟩, hB⟩
            case round =>
              clear HA1 HBS hB
              obtain ⟨r, F, rfl, hrN, hC, hB⟩ := hrel
              by_cases hlt3 : r < i
              · have r1 : (r : Int) < (i : Int) := by omega
                go_wp2_with fail
                go_loopw [15] (fun vx wz => ∃ (x : Nat) (F : List Int), vx = .int .i64 (x : Int) ∧ x ≤ ne ∧ Hid (BF E G F r x ∧ (∀ u, gF F u ≤ 479952 * (r : Int) + 9999 * (x : Int)) ∧ wz.ownsRow w.heap.size 3 1 (.slice (some ⟨ga, 0, none⟩) i ca) i (iv F) ∧ wz.ownsRow w.heap.size 3 1 (.slice (some ⟨gb, 0, none⟩) i cb) i (iv (List.replicate i (-1)))) ∧ Below w.heap.size w wz) (fun vx _ => ne - (intOf vx).toNat)
                case atStart => exact ⟨0, F, rfl, Nat.zero_le _, ⟨hC.out.1, fun u => by have := hC.out.2.1 u; omega, hC.out.2.2⟩, hB⟩
                case round =>
                  clear hC hB
                  obtain ⟨x, F, rfl, hxn, hC, hB⟩ := hrel
                  by_cases hlt4 : x < ne
                  · have x1 : (x : Int) < (ne : Int) := by omega
                    have x0 : (0 : Int) ≤ (x : Int) := by omega
                    obtain ⟨e, hei⟩ : ∃ e, E[x]? = some e := ⟨_, List.getElem?_eq_getElem (by rw [HNE.out.1]; omega)⟩
                    obtain ⟨g1, g2, g3, g4, g5, g6⟩ := HG.out.1.ed e (List.mem_of_getElem? hei)
                    obtain ⟨n, hn⟩ : ∃ n : Nat, e.1 = (n : Int) := ⟨e.1.toNat, by omega⟩
                    obtain ⟨m, hm⟩ : ∃ m : Nat, e.2.1 = (m : Int) := ⟨e.2.1.toNat, by omega⟩
                    have hnk : n < i := by omega
                    have hmk : m < i := by omega
                    obtain ⟨ge, oo, rfl, -⟩ := HE.out wr hB x e hei
                    obtain ⟨p0, p1, p2, p3⟩ := irr_cells HE.out hei hB
                    obtain ⟨OB, hOB⟩ : ∃ OB : Obj, Obj.cells #[.int .i64 e.1, .int .i64 e.2.1, .int .i64 e.2.2.1, .int .i64 e.2.2.2] 34 = OB := ⟨_, rfl⟩
                    have hR : (wr.alloc OB).heap[wr.heap.size]? = some (.cells #[.int .i64 e.1, .int .i64 e.2.1, .int .i64 e.2.2.1, .int .i64 e.2.2.2] 34 (0, 0)) := by rw [← hOB]; exact alloc_get _ _
                    have hBA : Below w.heap.size w (wr.alloc OB) := hB.alloc hB.size _
                    have HA3 : Hid ((wr.alloc OB).ownsRow w.heap.size 3 1 (.slice (some ⟨ga, 0, none⟩) i ca) i (iv F) ∧ (wr.alloc OB).ownsRow w.heap.size 3 1 (.slice (some ⟨gb, 0, none⟩) i cb) i (iv (List.replicate i (-1)))) := ⟨hC.out.2.2.1.alloc _, hC.out.2.2.2.alloc _⟩
                    have HEI : Hid (E[x]? = some e ∧ e.1.toNat = n ∧ e.2.1.toNat = m ∧ 1 ≤ e.2.2.1) := ⟨hei, by rw [hn]; rfl, by rw [hm]; rfl, g5⟩
                    rw [hn] at p0 hR hOB
                    rw [hm] at p1 hR hOB
                    obtain ⟨c, hc⟩ : ∃ c, e.2.2.1 = c := ⟨_, rfl⟩
                    obtain ⟨ou, hou⟩ : ∃ ou, e.2.2.2 = ou := ⟨_, rfl⟩
                    have hcb : 1 ≤ c ∧ c ≤ 9999 := by omega
                    have HCC : Hid (e.2.2.1 = c) := hc
                    rw [hc] at p2 hR hOB
                    rw [hou] at p3 hR hOB
                    clear g1 g2 g3 g4 g5 g6 hei hn hm hc hou
                    go_upto_region 22 with fail
                    try rw [hOB]
                    generalize wr.alloc OB = w3 at hR HA3 hBA ⊢
                    generalize wr.heap.size = R at hR ⊢
                    clear hOB p0 p1 p2 p3 hB
                    have n0 : (0 : Int) ≤ (n : Int) := by omega
                    have n1 : (n : Int) < (i : Int) := by omega
                    have n2 : (0 : Int) ≤ (m : Int) := by omega
                    have n3 : (m : Int) < (i : Int) := by omega
                    obtain ⟨fx, hfx⟩ : ∃ y, gF F n = y := ⟨_, rfl⟩
                    obtain ⟨fy, hfy⟩ : ∃ y, gF F m = y := ⟨_, rfl⟩
                    have hyb : fy ≤ 16000000 := by have := hC.out.2.1 m; rw [hfy] at this; omega
                    have HL : Hid (∀ W, Below w3.heap.size w3 W → (W.cell? ⟨R, 0, none⟩ = some (.int .i64 (n : Int)) ∧ W.cell? ⟨R, 1, none⟩ = some (.int .i64 (m : Int)) ∧ W.cell? ⟨R, 2, none⟩ = some (.int .i64 c)) ∧ W.cell? ⟨ga, n, none⟩ = some (.int .i64 fx) ∧ W.cell? ⟨ga, m, none⟩ = some (.int .i64 fy) ∧ W.frozen? ⟨ga, n, none⟩ = false) := fun W hW => by
                      have ho := owns_below HA3.out.1 hW
                      have r2 := iv_at ho (gF_at (F := F) (v := n) (by rw [hC.out.1.len, HG.out.2.2.1]; exact hnk))
                      have r3 := iv_at ho (gF_at (F := F) (v := m) (by rw [hC.out.1.len, HG.out.2.2.1]; exact hmk))
                      rw [hfx] at r2
                      rw [hfy] at r3
                      exact ⟨⟨cell_of_row _ _ 0 _ _ _ (keepblk hW hR), cell_of_row _ _ 1 _ _ _ (keepblk hW hR), cell_of_row _ _ 2 _ _ _ (keepblk hW hR)⟩, r2, r3, ho.frozenAt n⟩
                    have hst := hC.out.1.step HG.out.2.1 HEI.out.1 HEI.out.2.2.2 (by rw [HEI.out.2.1, hC.out.1.len, HG.out.2.2.1]; exact hnk)
                    unfold rlx at hst
                    rw [HEI.out.2.1, HEI.out.2.2.1, HCC.out, hfx, hfy] at hst
                    have HST : Hid (BF E G (if 0 ≤ fy ∧ (fx < 0 ∨ fy + c < fx) then F.set n (fy + c) else F) r (x + 1)) := hst
                    have HFL : Hid (n < F.length) := by unfold Hid; rw [hC.out.1.len, HG.out.2.2.1]; exact hnk
                    have HFM : Hid (gF F m = fy) := hfy
                    obtain ⟨sm, hsm⟩ : ∃ sm : Int, fy + c = sm := ⟨_, rfl⟩
                    clear hst hfx hfy
                    by_cases c1 : 0 ≤ fy
                    · have esm : IntKind.i64.wrap (fy + c) = sm := by rw [IntKind.wrap_i64]; omega
                      have HCS : Hid (fy + c = sm) := hsm
                      clear hsm
                      by_cases c2 : fx < 0
                      · have HCD : Hid (0 ≤ fy ∧ (fx < 0 ∨ fy + c < fx)) := ⟨c1, .inl c2⟩
                        refine quiet_lit3 (C := fun W => Below w3.heap.size w3 W) (by kernel_rfl) (by kernel_rfl) (show Below _ _ _ from (Below.refl _ _).drew) ?_
                        go_big_quiet_want
                        go_big_quiet_op
                        go_big_quiet_on
                        go_big_quiet_want
                        refine ⟨.pointer (some ⟨R, 1, none⟩), fun W hW => ?_, ?_⟩
                        · go_simp
                        go_big_quiet_on
                        simp only [Act.put, List.setIfInBounds_toArray, List.set_cons_zero, List.set_cons_succ]
                        go_big_quiet_want
                        refine ⟨.int .i64 (m : Int), fun W hW => ?_, ?_⟩
                        · obtain ⟨⟨r0, r1, r2⟩, r3, r4, r5⟩ := HL.out W hW
                          go_simp
                        go_big_quiet_on
                        simp only [Act.put, List.setIfInBounds_toArray, List.set_cons_zero, List.set_cons_succ]
                        go_big_quiet_want
                        refine ⟨.pointer (some ⟨ga, m, none⟩), fun W hW => ?_, ?_⟩
                        · go_simp
                        go_big_quiet_on
                        simp only [Act.put, List.setIfInBounds_toArray, List.set_cons_zero, List.set_cons_succ]
                        go_big_quiet_want
                        refine ⟨.int .i64 fy, fun W hW => ?_, ?_⟩
                        · obtain ⟨⟨r0, r1, r2⟩, r3, r4, r5⟩ := HL.out W hW
                          go_simp
                        go_big_quiet_on
                        simp only [Act.put, List.setIfInBounds_toArray, List.set_cons_zero, List.set_cons_succ]
                        go_big_quiet_want
                        refine ⟨.bool true, fun W hW => ?_, ?_⟩
                        · go_simp
                        go_big_quiet_on
                        simp only [Act.put, List.setIfInBounds_toArray, List.set_cons_zero, List.set_cons_succ]
                        go_big_quiet_want
                        go_big_quiet_op
                        go_big_quiet_on
                        go_big_quiet_want
                        go_big_quiet_op
                        go_big_quiet_on
                        go_big_quiet_want
                        refine ⟨.pointer (some ⟨R, 0, none⟩), fun W hW => ?_, ?_⟩
                        · go_simp
                        go_big_quiet_on
                        simp only [Act.put, List.setIfInBounds_toArray, List.set_cons_zero, List.set_cons_succ]
                        go_big_quiet_want
                        refine ⟨.int .i64 (n : Int), fun W hW => ?_, ?_⟩
                        · obtain ⟨⟨r0, r1, r2⟩, r3, r4, r5⟩ := HL.out W hW
                          go_simp
                        go_big_quiet_on
                        simp only [Act.put, List.setIfInBounds_toArray, List.set_cons_zero, List.set_cons_succ]
                        go_big_quiet_want
                        refine ⟨.pointer (some ⟨ga, n, none⟩), fun W hW => ?_, ?_⟩
                        · go_simp
                        go_big_quiet_on
                        simp only [Act.put, List.setIfInBounds_toArray, List.set_cons_zero, List.set_cons_succ]
                        go_big_quiet_want
                        refine ⟨.int .i64 fx, fun W hW => ?_, ?_⟩
                        · obtain ⟨⟨r0, r1, r2⟩, r3, r4, r5⟩ := HL.out W hW
                          go_simp
                        go_big_quiet_on
                        simp only [Act.put, List.setIfInBounds_toArray, List.set_cons_zero, List.set_cons_succ]
                        go_big_quiet_want
                        refine ⟨.bool true, fun W hW => ?_, ?_⟩
                        · go_simp
                        go_big_quiet_on
                        simp only [Act.put, List.setIfInBounds_toArray, List.set_cons_zero, List.set_cons_succ]
                        go_big_quiet_want
                        go_big_quiet_op
                        go_big_quiet_on
                        go_big_quiet_skip
                        go_big_quiet_skip
                        go_big_quiet_skip
                        go_big_quiet_skip
                        go_big_quiet_skip
                        go_big_quiet_skip
                        go_big_quiet_skip
                        go_big_quiet_skip
                        go_big_quiet_skip
                        go_big_quiet_skip
                        go_big_quiet_skip
                        go_big_quiet_skip
                        go_big_quiet_skip
                        go_big_quiet_skip
                        go_big_quiet_want
                        refine ⟨.bool true, fun W hW => ?_, ?_⟩
                        · go_simp
                        go_big_quiet_on
                        simp only [Act.put, List.setIfInBounds_toArray, List.set_cons_zero, List.set_cons_succ]
                        go_big_quiet_want
                        refine ⟨.bool true, fun W hW => ?_, ?_⟩
                        · go_simp
                        go_big_quiet_on
                        simp only [Act.put, List.setIfInBounds_toArray, List.set_cons_zero, List.set_cons_succ]
                        refine wpQuiet_nil ?_
                        intro W hW
                        have HSQ : Hid (∀ W2, Below W.heap.size W W2 → (BF E G (F.set n sm) r (x + 1) ∧ (∀ u, gF (F.set n sm) u ≤ 479952 * (r : Int) + 9999 * ((x + 1 : Nat) : Int)) ∧ (W2.setCell ⟨ga, n, none⟩ (.int .i64 sm)).ownsRow w.heap.size 3 1 (.slice (some ⟨ga, 0, none⟩) i ca) i (iv (F.set n sm)) ∧ (W2.setCell ⟨ga, n, none⟩ (.int .i64 sm)).ownsRow w.heap.size 3 1 (.slice (some ⟨gb, 0, none⟩) i cb) i (iv (List.replicate i (-1)))) ∧ Below w.heap.size w (W2.setCell ⟨ga, n, none⟩ (.int .i64 sm))) := fun W2 hW2 => by
                          have hW3 := bel0 hW hW2
                          have o4 := owns_below HA3.out.1 hW3
                          have o3 := owns_below HA3.out.2 hW3
                          have hB4 := bel0 hBA hW3
                          have hs4 := o4.stored n (.int .i64 sm)
                          rw [iv_set] at hs4
                          have hst := HST.out
                          rw [if_pos HCD.out, HCS.out] at hst
                          refine ⟨⟨hst, fun u => ?_, hs4.1, o3.kept hs4.2 (.inr (fun e => HNAB.out (by injection e with e; exact e.symm)))⟩, hB4.grown hs4.2 hB4.size (fun j e => by injection e with e; have := (o4.lt ga rfl).1; omega)⟩
                          have hu := hC.out.2.1 u
                          have hm' := hC.out.2.1 m
                          rw [HFM.out] at hm'
                          have hcs := HCS.out
                          rw [gF_set HFL.out]
                          split <;> omega
                        go_wp2_with fail
                        refine quiet_last (C := fun W2 => Below W.heap.size W W2) (by kernel_rfl) (by kernel_rfl) (by kernel_rfl) (by kernel_rfl) (show Below _ _ _ from (Below.refl _ _).drew) ?_
                        simp only [List.dropLast_cons_cons, List.dropLast_singleton]
                        go_big_quiet_want
                        go_big_quiet_op
                        go_big_quiet_on
                        go_big_quiet_want
                        refine ⟨.pointer (some ⟨R, 0, none⟩), fun W2 hW2 => ?_, ?_⟩
                        · go_simp
                        go_big_quiet_on
                        simp only [Act.put, List.setIfInBounds_toArray, List.set_cons_zero, List.set_cons_succ]
                        go_big_quiet_want
                        refine ⟨.int .i64 (n : Int), fun W2 hW2 => ?_, ?_⟩
                        · obtain ⟨⟨r0, r1, r2⟩, r3, r4, r5⟩ := HL.out W2 (bel0 hW hW2)
                          go_simp
                        go_big_quiet_on
                        simp only [Act.put, List.setIfInBounds_toArray, List.set_cons_zero, List.set_cons_succ]
                        go_big_quiet_want
                        go_big_quiet_op
                        go_big_quiet_on
                        go_big_quiet_want
                        refine ⟨.pointer (some ⟨R, 1, none⟩), fun W2 hW2 => ?_, ?_⟩
                        · go_simp
                        go_big_quiet_on
                        simp only [Act.put, List.setIfInBounds_toArray, List.set_cons_zero, List.set_cons_succ]
                        go_big_quiet_want
                        refine ⟨.int .i64 (m : Int), fun W2 hW2 => ?_, ?_⟩
                        · obtain ⟨⟨r0, r1, r2⟩, r3, r4, r5⟩ := HL.out W2 (bel0 hW hW2)
                          go_simp
                        go_big_quiet_on
                        simp only [Act.put, List.setIfInBounds_toArray, List.set_cons_zero, List.set_cons_succ]
                        go_big_quiet_want
                        refine ⟨.pointer (some ⟨ga, m, none⟩), fun W2 hW2 => ?_, ?_⟩
                        · go_simp
                        go_big_quiet_on
                        simp only [Act.put, List.setIfInBounds_toArray, List.set_cons_zero, List.set_cons_succ]
                        go_big_quiet_want
                        refine ⟨.int .i64 fy, fun W2 hW2 => ?_, ?_⟩
                        · obtain ⟨⟨r0, r1, r2⟩, r3, r4, r5⟩ := HL.out W2 (bel0 hW hW2)
                          go_simp
                        go_big_quiet_on
                        simp only [Act.put, List.setIfInBounds_toArray, List.set_cons_zero, List.set_cons_succ]
                        go_big_quiet_want
                        refine ⟨.pointer (some ⟨R, 2, none⟩), fun W2 hW2 => ?_, ?_⟩
                        · go_simp
                        go_big_quiet_on
                        simp only [Act.put, List.setIfInBounds_toArray, List.set_cons_zero, List.set_cons_succ]
                        go_big_quiet_want
                        refine ⟨.int .i64 c, fun W2 hW2 => ?_, ?_⟩
                        · obtain ⟨⟨r0, r1, r2⟩, r3, r4, r5⟩ := HL.out W2 (bel0 hW hW2)
                          go_simp
                        go_big_quiet_on
                        simp only [Act.put, List.setIfInBounds_toArray, List.set_cons_zero, List.set_cons_succ]
                        go_big_quiet_want
                        refine ⟨.int .i64 sm, fun W2 hW2 => ?_, ?_⟩
                        · go_simp
                        go_big_quiet_on
                        simp only [Act.put, List.setIfInBounds_toArray, List.set_cons_zero, List.set_cons_succ]
                        go_big_quiet_want
                        refine ⟨.pointer (some ⟨ga, n, none⟩), fun W2 hW2 => ?_, ?_⟩
                        · go_simp
                        go_big_quiet_on
                        simp only [Act.put, List.setIfInBounds_toArray, List.set_cons_zero, List.set_cons_succ]
                        refine wpQuiet_nil ?_
                        intro W2 hW2
                        refine wpOp_gor rfl rfl ?_
                        obtain ⟨-, n4, -, n5⟩ := HL.out W2 (bel0 hW hW2)
                        go_simp
                        go_wp2_with fail
                        go_roundw
                        case rel => exact ⟨x + 1, F.set n sm, by go_num, by omega, (HSQ.out W2 hW2).1, (HSQ.out W2 hW2).2⟩
                        case measure => simp [intOf] <;> omega
                      · by_cases c3 : sm < fx
                        · have HCD : Hid (0 ≤ fy ∧ (fx < 0 ∨ fy + c < fx)) := ⟨c1, .inr (by rw [HCS.out]; exact c3)⟩
                          refine quiet_lit3 (C := fun W => Below w3.heap.size w3 W) (by kernel_rfl) (by kernel_rfl) (show Below _ _ _ from (Below.refl _ _).drew) ?_
                          go_big_quiet_want
                          go_big_quiet_op
                          go_big_quiet_on
                          go_big_quiet_want
                          refine ⟨.pointer (some ⟨R, 1, none⟩), fun W hW => ?_, ?_⟩
                          · go_simp
                          go_big_quiet_on
                          simp only [Act.put, List.setIfInBounds_toArray, List.set_cons_zero, List.set_cons_succ]
                          go_big_quiet_want
                          refine ⟨.int .i64 (m : Int), fun W hW => ?_, ?_⟩
                          · obtain ⟨⟨r0, r1, r2⟩, r3, r4, r5⟩ := HL.out W hW
                            go_simp
                          go_big_quiet_on
                          simp only [Act.put, List.setIfInBounds_toArray, List.set_cons_zero, List.set_cons_succ]
                          go_big_quiet_want
                          refine ⟨.pointer (some ⟨ga, m, none⟩), fun W hW => ?_, ?_⟩
                          · go_simp
                          go_big_quiet_on
                          simp only [Act.put, List.setIfInBounds_toArray, List.set_cons_zero, List.set_cons_succ]
                          go_big_quiet_want
                          refine ⟨.int .i64 fy, fun W hW => ?_, ?_⟩
                          · obtain ⟨⟨r0, r1, r2⟩, r3, r4, r5⟩ := HL.out W hW
                            go_simp
                          go_big_quiet_on
                          simp only [Act.put, List.setIfInBounds_toArray, List.set_cons_zero, List.set_cons_succ]
                          go_big_quiet_want
                          refine ⟨.bool true, fun W hW => ?_, ?_⟩
                          · go_simp
                          go_big_quiet_on
                          simp only [Act.put, List.setIfInBounds_toArray, List.set_cons_zero, List.set_cons_succ]
                          go_big_quiet_want
                          go_big_quiet_op
                          go_big_quiet_on
                          go_big_quiet_want
                          go_big_quiet_op
                          go_big_quiet_on
                          go_big_quiet_want
                          refine ⟨.pointer (some ⟨R, 0, none⟩), fun W hW => ?_, ?_⟩
                          · go_simp
                          go_big_quiet_on
                          simp only [Act.put, List.setIfInBounds_toArray, List.set_cons_zero, List.set_cons_succ]
                          go_big_quiet_want
                          refine ⟨.int .i64 (n : Int), fun W hW => ?_, ?_⟩
                          · obtain ⟨⟨r0, r1, r2⟩, r3, r4, r5⟩ := HL.out W hW
                            go_simp
                          go_big_quiet_on
                          simp only [Act.put, List.setIfInBounds_toArray, List.set_cons_zero, List.set_cons_succ]
                          go_big_quiet_want
                          refine ⟨.pointer (some ⟨ga, n, none⟩), fun W hW => ?_, ?_⟩
                          · go_simp
                          go_big_quiet_on
                          simp only [Act.put, List.setIfInBounds_toArray, List.set_cons_zero, List.set_cons_succ]
                          go_big_quiet_want
                          refine ⟨.int .i64 fx, fun W hW => ?_, ?_⟩
                          · obtain ⟨⟨r0, r1, r2⟩, r3, r4, r5⟩ := HL.out W hW
                            go_simp
                          go_big_quiet_on
                          simp only [Act.put, List.setIfInBounds_toArray, List.set_cons_zero, List.set_cons_succ]
                          go_big_quiet_want
                          refine ⟨.bool false, fun W hW => ?_, ?_⟩
                          · go_simp
                          go_big_quiet_on
                          simp only [Act.put, List.setIfInBounds_toArray, List.set_cons_zero, List.set_cons_succ]
                          go_big_quiet_want
                          go_big_quiet_op
                          go_big_quiet_on
                          go_big_quiet_want
                          go_big_quiet_op
                          go_big_quiet_on
                          go_big_quiet_want
                          refine ⟨.pointer (some ⟨R, 0, none⟩), fun W hW => ?_, ?_⟩
                          · go_simp
                          go_big_quiet_on
                          simp only [Act.put, List.setIfInBounds_toArray, List.set_cons_zero, List.set_cons_succ]
                          go_big_quiet_want
                          refine ⟨.int .i64 (n : Int), fun W hW => ?_, ?_⟩
                          · obtain ⟨⟨r0, r1, r2⟩, r3, r4, r5⟩ := HL.out W hW
                            go_simp
                          go_big_quiet_on
                          simp only [Act.put, List.setIfInBounds_toArray, List.set_cons_zero, List.set_cons_succ]
                          go_big_quiet_want
                          refine ⟨.pointer (some ⟨ga, n, none⟩), fun W hW => ?_, ?_⟩
                          · go_simp
                          go_big_quiet_on
                          simp only [Act.put, List.setIfInBounds_toArray, List.set_cons_zero, List.set_cons_succ]
                          go_big_quiet_want
                          refine ⟨.int .i64 fx, fun W hW => ?_, ?_⟩
                          · obtain ⟨⟨r0, r1, r2⟩, r3, r4, r5⟩ := HL.out W hW
                            go_simp
                          go_big_quiet_on
                          simp only [Act.put, List.setIfInBounds_toArray, List.set_cons_zero, List.set_cons_succ]
                          go_big_quiet_want
                          go_big_quiet_op
                          go_big_quiet_on
                          go_big_quiet_want
                          refine ⟨.pointer (some ⟨R, 1, none⟩), fun W hW => ?_, ?_⟩
                          · go_simp
                          go_big_quiet_on
                          simp only [Act.put, List.setIfInBounds_toArray, List.set_cons_zero, List.set_cons_succ]
                          go_big_quiet_want
                          refine ⟨.int .i64 (m : Int), fun W hW => ?_, ?_⟩
                          · obtain ⟨⟨r0, r1, r2⟩, r3, r4, r5⟩ := HL.out W hW
                            go_simp
                          go_big_quiet_on
                          simp only [Act.put, List.setIfInBounds_toArray, List.set_cons_zero, List.set_cons_succ]
                          go_big_quiet_want
                          refine ⟨.pointer (some ⟨ga, m, none⟩), fun W hW => ?_, ?_⟩
                          · go_simp
                          go_big_quiet_on
                          simp only [Act.put, List.setIfInBounds_toArray, List.set_cons_zero, List.set_cons_succ]
                          go_big_quiet_want
                          refine ⟨.int .i64 fy, fun W hW => ?_, ?_⟩
                          · obtain ⟨⟨r0, r1, r2⟩, r3, r4, r5⟩ := HL.out W hW
                            go_simp
                          go_big_quiet_on
                          simp only [Act.put, List.setIfInBounds_toArray, List.set_cons_zero, List.set_cons_succ]
                          go_big_quiet_want
                          refine ⟨.pointer (some ⟨R, 2, none⟩), fun W hW => ?_, ?_⟩
                          · go_simp
                          go_big_quiet_on
                          simp only [Act.put, List.setIfInBounds_toArray, List.set_cons_zero, List.set_cons_succ]
                          go_big_quiet_want
                          refine ⟨.int .i64 c, fun W hW => ?_, ?_⟩
                          · obtain ⟨⟨r0, r1, r2⟩, r3, r4, r5⟩ := HL.out W hW
                            go_simp
                          go_big_quiet_on
                          simp only [Act.put, List.setIfInBounds_toArray, List.set_cons_zero, List.set_cons_succ]
                          go_big_quiet_want
                          refine ⟨.int .i64 sm, fun W hW => ?_, ?_⟩
                          · go_simp
                          go_big_quiet_on
                          simp only [Act.put, List.setIfInBounds_toArray, List.set_cons_zero, List.set_cons_succ]
                          go_big_quiet_want
                          refine ⟨.bool true, fun W hW => ?_, ?_⟩
                          · go_simp
                          go_big_quiet_on
                          simp only [Act.put, List.setIfInBounds_toArray, List.set_cons_zero, List.set_cons_succ]
                          go_big_quiet_want
                          refine ⟨.bool true, fun W hW => ?_, ?_⟩
                          · go_simp
                          go_big_quiet_on
                          simp only [Act.put, List.setIfInBounds_toArray, List.set_cons_zero, List.set_cons_succ]
                          go_big_quiet_want
                          refine ⟨.bool true, fun W hW => ?_, ?_⟩
                          · go_simp
                          go_big_quiet_on
                          simp only [Act.put, List.setIfInBounds_toArray, List.set_cons_zero, List.set_cons_succ]
                          refine wpQuiet_nil ?_
                          intro W hW
                          have HSQ : Hid (∀ W2, Below W.heap.size W W2 → (BF E G (F.set n sm) r (x + 1) ∧ (∀ u, gF (F.set n sm) u ≤ 479952 * (r : Int) + 9999 * ((x + 1 : Nat) : Int)) ∧ (W2.setCell ⟨ga, n, none⟩ (.int .i64 sm)).ownsRow w.heap.size 3 1 (.slice (some ⟨ga, 0, none⟩) i ca) i (iv (F.set n sm)) ∧ (W2.setCell ⟨ga, n, none⟩ (.int .i64 sm)).ownsRow w.heap.size 3 1 (.slice (some ⟨gb, 0, none⟩) i cb) i (iv (List.replicate i (-1)))) ∧ Below w.heap.size w (W2.setCell ⟨ga, n, none⟩ (.int .i64 sm))) := fun W2 hW2 => by
                            have hW3 := bel0 hW hW2
                            have o4 := owns_below HA3.out.1 hW3
                            have o3 := owns_below HA3.out.2 hW3
                            have hB4 := bel0 hBA hW3
                            have hs4 := o4.stored n (.int .i64 sm)
                            rw [iv_set] at hs4
                            have hst := HST.out
                            rw [if_pos HCD.out, HCS.out] at hst
                            refine ⟨⟨hst, fun u => ?_, hs4.1, o3.kept hs4.2 (.inr (fun e => HNAB.out (by injection e with e; exact e.symm)))⟩, hB4.grown hs4.2 hB4.size (fun j e => by injection e with e; have := (o4.lt ga rfl).1; omega)⟩
                            have hu := hC.out.2.1 u
                            have hm' := hC.out.2.1 m
                            rw [HFM.out] at hm'
                            have hcs := HCS.out
                            rw [gF_set HFL.out]
                            split <;> omega
                          go_wp2_with fail
                          refine quiet_last (C := fun W2 => Below W.heap.size W W2) (by kernel_rfl) (by kernel_rfl) (by kernel_rfl) (by kernel_rfl) (show Below _ _ _ from (Below.refl _ _).drew) ?_
                          simp only [List.dropLast_cons_cons, List.dropLast_singleton]
                          go_big_quiet_want
                          go_big_quiet_op
                          go_big_quiet_on
                          go_big_quiet_want
                          refine ⟨.pointer (some ⟨R, 0, none⟩), fun W2 hW2 => ?_, ?_⟩
                          · go_simp
                          go_big_quiet_on
                          simp only [Act.put, List.setIfInBounds_toArray, List.set_cons_zero, List.set_cons_succ]
                          go_big_quiet_want
                          refine ⟨.int .i64 (n : Int), fun W2 hW2 => ?_, ?_⟩
                          · obtain ⟨⟨r0, r1, r2⟩, r3, r4, r5⟩ := HL.out W2 (bel0 hW hW2)
                            go_simp
                          go_big_quiet_on
                          simp only [Act.put, List.setIfInBounds_toArray, List.set_cons_zero, List.set_cons_succ]
                          go_big_quiet_want
                          go_big_quiet_op
                          go_big_quiet_on
                          go_big_quiet_want
                          refine ⟨.pointer (some ⟨R, 1, none⟩), fun W2 hW2 => ?_, ?_⟩
                          · go_simp
                          go_big_quiet_on
                          simp only [Act.put, List.setIfInBounds_toArray, List.set_cons_zero, List.set_cons_succ]
                          go_big_quiet_want
                          refine ⟨.int .i64 (m : Int), fun W2 hW2 => ?_, ?_⟩
                          · obtain ⟨⟨r0, r1, r2⟩, r3, r4, r5⟩ := HL.out W2 (bel0 hW hW2)
                            go_simp
                          go_big_quiet_on
                          simp only [Act.put, List.setIfInBounds_toArray, List.set_cons_zero, List.set_cons_succ]
                          go_big_quiet_want
                          refine ⟨.pointer (some ⟨ga, m, none⟩), fun W2 hW2 => ?_, ?_⟩
                          · go_simp
                          go_big_quiet_on
                          simp only [Act.put, List.setIfInBounds_toArray, List.set_cons_zero, List.set_cons_succ]
                          go_big_quiet_want
                          refine ⟨.int .i64 fy, fun W2 hW2 => ?_, ?_⟩
                          · obtain ⟨⟨r0, r1, r2⟩, r3, r4, r5⟩ := HL.out W2 (bel0 hW hW2)
                            go_simp
                          go_big_quiet_on
                          simp only [Act.put, List.setIfInBounds_toArray, List.set_cons_zero, List.set_cons_succ]
                          go_big_quiet_want
                          refine ⟨.pointer (some ⟨R, 2, none⟩), fun W2 hW2 => ?_, ?_⟩
                          · go_simp
                          go_big_quiet_on
                          simp only [Act.put, List.setIfInBounds_toArray, List.set_cons_zero, List.set_cons_succ]
                          go_big_quiet_want
                          refine ⟨.int .i64 c, fun W2 hW2 => ?_, ?_⟩
                          · obtain ⟨⟨r0, r1, r2⟩, r3, r4, r5⟩ := HL.out W2 (bel0 hW hW2)
                            go_simp
                          go_big_quiet_on
                          simp only [Act.put, List.setIfInBounds_toArray, List.set_cons_zero, List.set_cons_succ]
                          go_big_quiet_want
                          refine ⟨.int .i64 sm, fun W2 hW2 => ?_, ?_⟩
                          · go_simp
                          go_big_quiet_on
                          simp only [Act.put, List.setIfInBounds_toArray, List.set_cons_zero, List.set_cons_succ]
                          go_big_quiet_want
                          refine ⟨.pointer (some ⟨ga, n, none⟩), fun W2 hW2 => ?_, ?_⟩
                          · go_simp
                          go_big_quiet_on
                          simp only [Act.put, List.setIfInBounds_toArray, List.set_cons_zero, List.set_cons_succ]
                          refine wpQuiet_nil ?_
                          intro W2 hW2
                          refine wpOp_gor rfl rfl ?_
                          obtain ⟨-, n4, -, n5⟩ := HL.out W2 (bel0 hW hW2)
                          go_simp
                          go_wp2_with fail
                          go_roundw
                          case rel => exact ⟨x + 1, F.set n sm, by go_num, by omega, (HSQ.out W2 hW2).1, (HSQ.out W2 hW2).2⟩
                          case measure => simp [intOf] <;> omega
                        · have HKP : Hid (BF E G F r (x + 1)) := by have := HST.out; rw [if_neg (fun h => h.2.elim c2 (fun y => c3 (by rw [← HCS.out]; exact y)))] at this; exact this
                          refine quiet_lit3 (C := fun W => Below w3.heap.size w3 W) (by kernel_rfl) (by kernel_rfl) (show Below _ _ _ from (Below.refl _ _).drew) ?_
                          go_big_quiet_want
                          go_big_quiet_op
                          go_big_quiet_on
                          go_big_quiet_want
                          refine ⟨.pointer (some ⟨R, 1, none⟩), fun W hW => ?_, ?_⟩
                          · go_simp
                          go_big_quiet_on
                          simp only [Act.put, List.setIfInBounds_toArray, List.set_cons_zero, List.set_cons_succ]
                          go_big_quiet_want
                          refine ⟨.int .i64 (m : Int), fun W hW => ?_, ?_⟩
                          · obtain ⟨⟨r0, r1, r2⟩, r3, r4, r5⟩ := HL.out W hW
                            go_simp
                          go_big_quiet_on
                          simp only [Act.put, List.setIfInBounds_toArray, List.set_cons_zero, List.set_cons_succ]
                          go_big_quiet_want
                          refine ⟨.pointer (some ⟨ga, m, none⟩), fun W hW => ?_, ?_⟩
                          · go_simp
                          go_big_quiet_on
                          simp only [Act.put, List.setIfInBounds_toArray, List.set_cons_zero, List.set_cons_succ]
                          go_big_quiet_want
                          refine ⟨.int .i64 fy, fun W hW => ?_, ?_⟩
                          · obtain ⟨⟨r0, r1, r2⟩, r3, r4, r5⟩ := HL.out W hW
                            go_simp
                          go_big_quiet_on
                          simp only [Act.put, List.setIfInBounds_toArray, List.set_cons_zero, List.set_cons_succ]
                          go_big_quiet_want
                          refine ⟨.bool true, fun W hW => ?_, ?_⟩
                          · go_simp
                          go_big_quiet_on
                          simp only [Act.put, List.setIfInBounds_toArray, List.set_cons_zero, List.set_cons_succ]
                          go_big_quiet_want
                          go_big_quiet_op
                          go_big_quiet_on
                          go_big_quiet_want
                          go_big_quiet_op
                          go_big_quiet_on
                          go_big_quiet_want
                          refine ⟨.pointer (some ⟨R, 0, none⟩), fun W hW => ?_, ?_⟩
                          · go_simp
                          go_big_quiet_on
                          simp only [Act.put, List.setIfInBounds_toArray, List.set_cons_zero, List.set_cons_succ]
                          go_big_quiet_want
                          refine ⟨.int .i64 (n : Int), fun W hW => ?_, ?_⟩
                          · obtain ⟨⟨r0, r1, r2⟩, r3, r4, r5⟩ := HL.out W hW
                            go_simp
                          go_big_quiet_on
                          simp only [Act.put, List.setIfInBounds_toArray, List.set_cons_zero, List.set_cons_succ]
                          go_big_quiet_want
                          refine ⟨.pointer (some ⟨ga, n, none⟩), fun W hW => ?_, ?_⟩
                          · go_simp
                          go_big_quiet_on
                          simp only [Act.put, List.setIfInBounds_toArray, List.set_cons_zero, List.set_cons_succ]
                          go_big_quiet_want
                          refine ⟨.int .i64 fx, fun W hW => ?_, ?_⟩
                          · obtain ⟨⟨r0, r1, r2⟩, r3, r4, r5⟩ := HL.out W hW
                            go_simp
                          go_big_quiet_on
                          simp only [Act.put, List.setIfInBounds_toArray, List.set_cons_zero, List.set_cons_succ]
                          go_big_quiet_want
                          refine ⟨.bool false, fun W hW => ?_, ?_⟩
                          · go_simp
                          go_big_quiet_on
                          simp only [Act.put, List.setIfInBounds_toArray, List.set_cons_zero, List.set_cons_succ]
                          go_big_quiet_want
                          go_big_quiet_op
                          go_big_quiet_on
                          go_big_quiet_want
                          go_big_quiet_op
                          go_big_quiet_on
                          go_big_quiet_want
                          refine ⟨.pointer (some ⟨R, 0, none⟩), fun W hW => ?_, ?_⟩
                          · go_simp
                          go_big_quiet_on
                          simp only [Act.put, List.setIfInBounds_toArray, List.set_cons_zero, List.set_cons_succ]
                          go_big_quiet_want
                          refine ⟨.int .i64 (n : Int), fun W hW => ?_, ?_⟩
                          · obtain ⟨⟨r0, r1, r2⟩, r3, r4, r5⟩ := HL.out W hW
                            go_simp
                          go_big_quiet_on
                          simp only [Act.put, List.setIfInBounds_toArray, List.set_cons_zero, List.set_cons_succ]
                          go_big_quiet_want
                          refine ⟨.pointer (some ⟨ga, n, none⟩), fun W hW => ?_, ?_⟩
                          · go_simp
                          go_big_quiet_on
                          simp only [Act.put, List.setIfInBounds_toArray, List.set_cons_zero, List.set_cons_succ]
                          go_big_quiet_want
                          refine ⟨.int .i64 fx, fun W hW => ?_, ?_⟩
                          · obtain ⟨⟨r0, r1, r2⟩, r3, r4, r5⟩ := HL.out W hW
                            go_simp
                          go_big_quiet_on
                          simp only [Act.put, List.setIfInBounds_toArray, List.set_cons_zero, List.set_cons_succ]
                          go_big_quiet_want
                          go_big_quiet_op
                          go_big_quiet_on
                          go_big_quiet_want
                          refine ⟨.pointer (some ⟨R, 1, none⟩), fun W hW => ?_, ?_⟩
                          · go_simp
                          go_big_quiet_on
                          simp only [Act.put, List.setIfInBounds_toArray, List.set_cons_zero, List.set_cons_succ]
                          go_big_quiet_want
                          refine ⟨.int .i64 (m : Int), fun W hW => ?_, ?_⟩
                          · obtain ⟨⟨r0, r1, r2⟩, r3, r4, r5⟩ := HL.out W hW
                            go_simp
                          go_big_quiet_on
                          simp only [Act.put, List.setIfInBounds_toArray, List.set_cons_zero, List.set_cons_succ]
                          go_big_quiet_want
                          refine ⟨.pointer (some ⟨ga, m, none⟩), fun W hW => ?_, ?_⟩
                          · go_simp
                          go_big_quiet_on
                          simp only [Act.put, List.setIfInBounds_toArray, List.set_cons_zero, List.set_cons_succ]
                          go_big_quiet_want
                          refine ⟨.int .i64 fy, fun W hW => ?_, ?_⟩
                          · obtain ⟨⟨r0, r1, r2⟩, r3, r4, r5⟩ := HL.out W hW
                            go_simp
                          go_big_quiet_on
                          simp only [Act.put, List.setIfInBounds_toArray, List.set_cons_zero, List.set_cons_succ]
                          go_big_quiet_want
                          refine ⟨.pointer (some ⟨R, 2, none⟩), fun W hW => ?_, ?_⟩
                          · go_simp
                          go_big_quiet_on
                          simp only [Act.put, List.setIfInBounds_toArray, List.set_cons_zero, List.set_cons_succ]
                          go_big_quiet_want
                          refine ⟨.int .i64 c, fun W hW => ?_, ?_⟩
                          · obtain ⟨⟨r0, r1, r2⟩, r3, r4, r5⟩ := HL.out W hW
                            go_simp
                          go_big_quiet_on
                          simp only [Act.put, List.setIfInBounds_toArray, List.set_cons_zero, List.set_cons_succ]
                          go_big_quiet_want
                          refine ⟨.int .i64 sm, fun W hW => ?_, ?_⟩
                          · go_simp
                          go_big_quiet_on
                          simp only [Act.put, List.setIfInBounds_toArray, List.set_cons_zero, List.set_cons_succ]
                          go_big_quiet_want
                          refine ⟨.bool false, fun W hW => ?_, ?_⟩
                          · go_simp
                          go_big_quiet_on
                          simp only [Act.put, List.setIfInBounds_toArray, List.set_cons_zero, List.set_cons_succ]
                          go_big_quiet_want
                          refine ⟨.bool false, fun W hW => ?_, ?_⟩
                          · go_simp
                          go_big_quiet_on
                          simp only [Act.put, List.setIfInBounds_toArray, List.set_cons_zero, List.set_cons_succ]
                          go_big_quiet_want
                          refine ⟨.bool false, fun W hW => ?_, ?_⟩
                          · go_simp
                          go_big_quiet_on
                          simp only [Act.put, List.setIfInBounds_toArray, List.set_cons_zero, List.set_cons_succ]
                          refine wpQuiet_nil ?_
                          intro W hW
                          go_wp2_with fail
                          go_roundw
                          case rel => exact ⟨x + 1, F, by go_num, by omega, ⟨HKP.out, fun u => by have := hC.out.2.1 u; omega, owns_below HA3.out.1 hW, owns_below HA3.out.2 hW⟩, bel0 hBA hW⟩
                          case measure => simp [intOf] <;> omega
                    · have HKP : Hid (BF E G F r (x + 1)) := by have := HST.out; rw [if_neg (fun h => c1 h.1)] at this; exact this
                      refine quiet_lit3 (C := fun W => Below w3.heap.size w3 W) (by kernel_rfl) (by kernel_rfl) (show Below _ _ _ from (Below.refl _ _).drew) ?_
                      go_big_quiet_want
                      go_big_quiet_op
                      go_big_quiet_on
                      go_big_quiet_want
                      refine ⟨.pointer (some ⟨R, 1, none⟩), fun W hW => ?_, ?_⟩
                      · go_simp
                      go_big_quiet_on
                      simp only [Act.put, List.setIfInBounds_toArray, List.set_cons_zero, List.set_cons_succ]
                      go_big_quiet_want
                      refine ⟨.int .i64 (m : Int), fun W hW => ?_, ?_⟩
                      · obtain ⟨⟨r0, r1, r2⟩, r3, r4, r5⟩ := HL.out W hW
                        go_simp
                      go_big_quiet_on
                      simp only [Act.put, List.setIfInBounds_toArray, List.set_cons_zero, List.set_cons_succ]
                      go_big_quiet_want
                      refine ⟨.pointer (some ⟨ga, m, none⟩), fun W hW => ?_, ?_⟩
                      · go_simp
                      go_big_quiet_on
                      simp only [Act.put, List.setIfInBounds_toArray, List.set_cons_zero, List.set_cons_succ]
                      go_big_quiet_want
                      refine ⟨.int .i64 fy, fun W hW => ?_, ?_⟩
                      · obtain ⟨⟨r0, r1, r2⟩, r3, r4, r5⟩ := HL.out W hW
                        go_simp
                      go_big_quiet_on
                      simp only [Act.put, List.setIfInBounds_toArray, List.set_cons_zero, List.set_cons_succ]
                      go_big_quiet_want
                      refine ⟨.bool false, fun W hW => ?_, ?_⟩
                      · go_simp
                      go_big_quiet_on
                      simp only [Act.put, List.setIfInBounds_toArray, List.set_cons_zero, List.set_cons_succ]
                      go_big_quiet_want
                      go_big_quiet_op
                      go_big_quiet_on
                      go_big_quiet_skip
                      go_big_quiet_skip
                      go_big_quiet_skip
                      go_big_quiet_skip
                      go_big_quiet_skip
                      go_big_quiet_skip
                      go_big_quiet_skip
                      go_big_quiet_skip
                      go_big_quiet_skip
                      go_big_quiet_skip
                      go_big_quiet_skip
                      go_big_quiet_skip
                      go_big_quiet_skip
                      go_big_quiet_skip
                      go_big_quiet_skip
                      go_big_quiet_skip
                      go_big_quiet_skip
                      go_big_quiet_skip
                      go_big_quiet_skip
                      go_big_quiet_skip
                      go_big_quiet_skip
                      go_big_quiet_skip
                      go_big_quiet_want
                      refine ⟨.bool false, fun W hW => ?_, ?_⟩
                      · go_simp
                      go_big_quiet_on
                      simp only [Act.put, List.setIfInBounds_toArray, List.set_cons_zero, List.set_cons_succ]
                      refine wpQuiet_nil ?_
                      intro W hW
                      go_wp2_with fail
                      go_roundw
                      case rel => exact ⟨x + 1, F, by go_num, by omega, ⟨HKP.out, fun u => by have := hC.out.2.1 u; omega, owns_below HA3.out.1 hW, owns_below HA3.out.2 hW⟩, bel0 hBA hW⟩
                      case measure => simp [intOf] <;> omega
                  · have x1 : ¬ (x : Int) < (ne : Int) := by omega
                    obtain rfl : x = ne := by omega
                    have HNX : Hid (BF E G F (r + 1) 0 ∧ (∀ u, gF F u ≤ 479952 * ((r + 1 : Nat) : Int)) ∧ wr.ownsRow w.heap.size 3 1 (.slice (some ⟨ga, 0, none⟩) i ca) i (iv F) ∧ wr.ownsRow w.heap.size 3 1 (.slice (some ⟨gb, 0, none⟩) i cb) i (iv (List.replicate i (-1)))) := by
                      obtain ⟨b1, b2, b3⟩ := hC.out
                      rw [← HNE.out.1] at b1
                      exact ⟨b1.round HG.out.2.1, fun u => by have := b2 u; omega, b3⟩
                    clear hC
                    go_wp2_with fail
                    go_roundw
                    case rel => exact ⟨r + 1, F, by go_num, by omega, HNX, hB⟩
                    case measure => simp [intOf] <;> omega
              · have r1 : ¬ (r : Int) < (i : Int) := by omega
                have hFG : F = G := hC.out.1.done HG.out.2.1 (by rw [HG.out.2.2.1]; omega)
                have HC2 : Hid (wr.ownsRow w.heap.size 3 1 (.slice (some ⟨ga, 0, none⟩) i ca) i (iv G) ∧ wr.ownsRow w.heap.size 3 1 (.slice (some ⟨gb, 0, none⟩) i cb) i (iv (List.replicate i (-1)))) := by have := hC.out.2.2; rw [hFG] at this; exact this
                clear hC hFG
                go_wp2_with fail
                go_loopw [17] (fun vj wz => ∃ (k : Nat) (A : List Int), vj = .int .i64 ((k : Int) - 1) ∧ k ≤ ne ∧ Hid (A.length = i ∧ (∀ v, v < i → IsF E G k ne v (gF A v)) ∧ wz.ownsRow w.heap.size 3 1 (.slice (some ⟨ga, 0, none⟩) i ca) i (iv G) ∧ wz.ownsRow w.heap.size 3 1 (.slice (some ⟨gb, 0, none⟩) i cb) i (iv A)) ∧ Below w.heap.size w wz) (fun vj _ => (intOf vj + 1).toNat)
                case atStart => exact ⟨ne, _, by first | rfl | go_num, Nat.le_refl _, ⟨by simp, fun v _ => by rw [gF_rep]; exact IsF.none E G ne v, HC2.out⟩, hB⟩
                case round =>
                  clear HC2 hB
                  obtain ⟨k, A, rfl, hkn, hA', hB⟩ := hrel
                  cases k with
                  | zero =>
                    have k0 : ((0 : Nat) : Int) - 1 = -1 := by omega
                    rw [k0]
                    go_wp2_with fail
                    refine bodyPost_ret (res_qsh _ _ _ _ _ ⟨rfl, rfl, rfl⟩) rfl ?_
                    refine ⟨A, _, _, rfl, ⟨HG.out.2.1, HG.out.2.2.1, ⟨by rw [hA'.out.1, HG.out.2.2.1], fun v hv => ?_⟩, HG.out.2.2.2⟩, ?_, ?_, hB⟩
                    · rw [HNE.out.1]
                      exact hA'.out.2.1 v (HG.out.2.2.1 ▸ hv)
                    · rw [HG.out.2.2.1]
                      exact hA'.out.2.2.1
                    · rw [hA'.out.1]
                      exact hA'.out.2.2.2
                  | succ k =>
                    have k0 : ((k + 1 : Nat) : Int) - 1 = (k : Int) := by omega
                    rw [k0]
                    have x1 : (k : Int) < (ne : Int) := by omega
                    have x0 : (0 : Int) ≤ (k : Int) := by omega
                    obtain ⟨e, hei⟩ : ∃ e, E[k]? = some e := ⟨_, List.getElem?_eq_getElem (by rw [HNE.out.1]; omega)⟩
                    obtain ⟨g1, g2, g3, g4, g5, g6⟩ := HG.out.1.ed e (List.mem_of_getElem? hei)
                    obtain ⟨n, hn⟩ : ∃ n : Nat, e.1 = (n : Int) := ⟨e.1.toNat, by omega⟩
                    obtain ⟨m, hm⟩ : ∃ m : Nat, e.2.1 = (m : Int) := ⟨e.2.1.toNat, by omega⟩
                    have hnk : n < i := by omega
                    have hmk : m < i := by omega
                    obtain ⟨ge, oo, rfl, -⟩ := HE.out wr hB k e hei
                    obtain ⟨p0, p1, p2, p3⟩ := irr_cells HE.out hei hB
                    obtain ⟨OB, hOB⟩ : ∃ OB : Obj, Obj.cells #[.int .i64 e.1, .int .i64 e.2.1, .int .i64 e.2.2.1, .int .i64 e.2.2.2] 34 = OB := ⟨_, rfl⟩
                    have hR : (wr.alloc OB).heap[wr.heap.size]? = some (.cells #[.int .i64 e.1, .int .i64 e.2.1, .int .i64 e.2.2.1, .int .i64 e.2.2.2] 34 (0, 0)) := by rw [← hOB]; exact alloc_get _ _
                    have hBA : Below w.heap.size w (wr.alloc OB) := hB.alloc hB.size _
                    have HA3 : Hid ((wr.alloc OB).ownsRow w.heap.size 3 1 (.slice (some ⟨ga, 0, none⟩) i ca) i (iv G) ∧ (wr.alloc OB).ownsRow w.heap.size 3 1 (.slice (some ⟨gb, 0, none⟩) i cb) i (iv A)) := ⟨hA'.out.2.2.1.alloc _, hA'.out.2.2.2.alloc _⟩
                    have HEI : Hid (E[k]? = some e ∧ e.1.toNat = n ∧ e.2.1.toNat = m ∧ 1 ≤ e.2.2.1) := ⟨hei, by rw [hn]; rfl, by rw [hm]; rfl, g5⟩
                    rw [hn] at p0 hR hOB
                    rw [hm] at p1 hR hOB
                    obtain ⟨c, hc⟩ : ∃ c, e.2.2.1 = c := ⟨_, rfl⟩
                    obtain ⟨ou, hou⟩ : ∃ ou, e.2.2.2 = ou := ⟨_, rfl⟩
                    have hcb : 1 ≤ c ∧ c ≤ 9999 := by omega
                    have HCC : Hid (e.2.2.1 = c) := hc
                    rw [hc] at p2 hR hOB
                    rw [hou] at p3 hR hOB
                    clear g1 g2 g3 g4 g5 g6 hei hn hm hc hou
                    go_upto_region 28 with fail
                    try rw [hOB]
                    generalize wr.alloc OB = w3 at hR HA3 hBA ⊢
                    generalize wr.heap.size = R at hR ⊢
                    clear hOB p0 p1 p2 p3 hB
                    have n0 : (0 : Int) ≤ (n : Int) := by omega
                    have n1 : (n : Int) < (i : Int) := by omega
                    have n2 : (0 : Int) ≤ (m : Int) := by omega
                    have n3 : (m : Int) < (i : Int) := by omega
                    obtain ⟨fz, hfz⟩ : ∃ y, gF G n = y := ⟨_, rfl⟩
                    obtain ⟨fy, hfy⟩ : ∃ y, gF G m = y := ⟨_, rfl⟩
                    have hyb : fy ≤ 159984 := hfy ▸ HG.out.2.2.2 m
                    have HL : Hid (∀ W, Below w3.heap.size w3 W → (W.cell? ⟨R, 0, none⟩ = some (.int .i64 (n : Int)) ∧ W.cell? ⟨R, 1, none⟩ = some (.int .i64 (m : Int)) ∧ W.cell? ⟨R, 2, none⟩ = some (.int .i64 c)) ∧ W.cell? ⟨ga, n, none⟩ = some (.int .i64 fz) ∧ W.cell? ⟨ga, m, none⟩ = some (.int .i64 fy)) := fun W hW => by
                      have ho := owns_below HA3.out.1 hW
                      have r2 := iv_at ho (gF_at (F := G) (v := n) (by rw [HG.out.2.2.1]; exact hnk))
                      have r3 := iv_at ho (gF_at (F := G) (v := m) (by rw [HG.out.2.2.1]; exact hmk))
                      rw [hfz] at r2
                      rw [hfy] at r3
                      exact ⟨⟨cell_of_row _ _ 0 _ _ _ (keepblk hW hR), cell_of_row _ _ 1 _ _ _ (keepblk hW hR), cell_of_row _ _ 2 _ _ _ (keepblk hW hR)⟩, r2, r3⟩
                    have HTG : Hid (tgh G e = (decide (0 ≤ fy) && decide (fz = fy + c))) := by unfold Hid tgh; rw [HEI.out.2.1, HEI.out.2.2.1, HCC.out, hfy, hfz]
                    clear hfz hfy k0
                    by_cases c1 : 0 ≤ fy
                    · obtain ⟨sm, hsm⟩ : ∃ sm : Int, fy + c = sm := ⟨_, rfl⟩
                      have esm : IntKind.i64.wrap (fy + c) = sm := by rw [IntKind.wrap_i64]; omega
                      by_cases c3 : fz = sm
                      · have e3 : (fz == sm) = true := by rw [c3]; exact beq_self_eq_true _
                        have HYS : Hid (tgh G e = true) := by unfold Hid; rw [HTG.out, decide_eq_true c1, decide_eq_true (show fz = fy + c by omega)]; rfl
                        clear hsm c3
                        refine quiet_lit3 (C := fun W => Below w3.heap.size w3 W) (by kernel_rfl) (by kernel_rfl) (show Below _ _ _ from (Below.refl _ _).drew) ?_
                        go_big_quiet_want
                        go_big_quiet_op
                        go_big_quiet_on
                        go_big_quiet_want
                        refine ⟨.pointer (some ⟨R, 1, none⟩), fun W hW => ?_, ?_⟩
                        · go_simp
                        go_big_quiet_on
                        simp only [Act.put, List.setIfInBounds_toArray, List.set_cons_zero, List.set_cons_succ]
                        go_big_quiet_want
                        refine ⟨.int .i64 (m : Int), fun W hW => ?_, ?_⟩
                        · obtain ⟨⟨r0, r1, r2⟩, r3, r4⟩ := HL.out W hW
                          go_simp
                        go_big_quiet_on
                        simp only [Act.put, List.setIfInBounds_toArray, List.set_cons_zero, List.set_cons_succ]
                        go_big_quiet_want
                        refine ⟨.pointer (some ⟨ga, m, none⟩), fun W hW => ?_, ?_⟩
                        · go_simp
                        go_big_quiet_on
                        simp only [Act.put, List.setIfInBounds_toArray, List.set_cons_zero, List.set_cons_succ]
                        go_big_quiet_want
                        refine ⟨.int .i64 fy, fun W hW => ?_, ?_⟩
                        · obtain ⟨⟨r0, r1, r2⟩, r3, r4⟩ := HL.out W hW
                          go_simp
                        go_big_quiet_on
                        simp only [Act.put, List.setIfInBounds_toArray, List.set_cons_zero, List.set_cons_succ]
                        go_big_quiet_want
                        refine ⟨.bool true, fun W hW => ?_, ?_⟩
                        · go_simp
                        go_big_quiet_on
                        simp only [Act.put, List.setIfInBounds_toArray, List.set_cons_zero, List.set_cons_succ]
                        go_big_quiet_want
                        go_big_quiet_op
                        go_big_quiet_on
                        go_big_quiet_want
                        go_big_quiet_op
                        go_big_quiet_on
                        go_big_quiet_want
                        refine ⟨.pointer (some ⟨R, 0, none⟩), fun W hW => ?_, ?_⟩
                        · go_simp
                        go_big_quiet_on
                        simp only [Act.put, List.setIfInBounds_toArray, List.set_cons_zero, List.set_cons_succ]
                        go_big_quiet_want
                        refine ⟨.int .i64 (n : Int), fun W hW => ?_, ?_⟩
                        · obtain ⟨⟨r0, r1, r2⟩, r3, r4⟩ := HL.out W hW
                          go_simp
                        go_big_quiet_on
                        simp only [Act.put, List.setIfInBounds_toArray, List.set_cons_zero, List.set_cons_succ]
                        go_big_quiet_want
                        refine ⟨.pointer (some ⟨ga, n, none⟩), fun W hW => ?_, ?_⟩
                        · go_simp
                        go_big_quiet_on
                        simp only [Act.put, List.setIfInBounds_toArray, List.set_cons_zero, List.set_cons_succ]
                        go_big_quiet_want
                        refine ⟨.int .i64 fz, fun W hW => ?_, ?_⟩
                        · obtain ⟨⟨r0, r1, r2⟩, r3, r4⟩ := HL.out W hW
                          go_simp
                        go_big_quiet_on
                        simp only [Act.put, List.setIfInBounds_toArray, List.set_cons_zero, List.set_cons_succ]
                        go_big_quiet_want
                        go_big_quiet_op
                        go_big_quiet_on
                        go_big_quiet_want
                        refine ⟨.pointer (some ⟨R, 1, none⟩), fun W hW => ?_, ?_⟩
                        · go_simp
                        go_big_quiet_on
                        simp only [Act.put, List.setIfInBounds_toArray, List.set_cons_zero, List.set_cons_succ]
                        go_big_quiet_want
                        refine ⟨.int .i64 (m : Int), fun W hW => ?_, ?_⟩
                        · obtain ⟨⟨r0, r1, r2⟩, r3, r4⟩ := HL.out W hW
                          go_simp
                        go_big_quiet_on
                        simp only [Act.put, List.setIfInBounds_toArray, List.set_cons_zero, List.set_cons_succ]
                        go_big_quiet_want
                        refine ⟨.pointer (some ⟨ga, m, none⟩), fun W hW => ?_, ?_⟩
                        · go_simp
                        go_big_quiet_on
                        simp only [Act.put, List.setIfInBounds_toArray, List.set_cons_zero, List.set_cons_succ]
                        go_big_quiet_want
                        refine ⟨.int .i64 fy, fun W hW => ?_, ?_⟩
                        · obtain ⟨⟨r0, r1, r2⟩, r3, r4⟩ := HL.out W hW
                          go_simp
                        go_big_quiet_on
                        simp only [Act.put, List.setIfInBounds_toArray, List.set_cons_zero, List.set_cons_succ]
                        go_big_quiet_want
                        refine ⟨.pointer (some ⟨R, 2, none⟩), fun W hW => ?_, ?_⟩
                        · go_simp
                        go_big_quiet_on
                        simp only [Act.put, List.setIfInBounds_toArray, List.set_cons_zero, List.set_cons_succ]
                        go_big_quiet_want
                        refine ⟨.int .i64 c, fun W hW => ?_, ?_⟩
                        · obtain ⟨⟨r0, r1, r2⟩, r3, r4⟩ := HL.out W hW
                          go_simp
                        go_big_quiet_on
                        simp only [Act.put, List.setIfInBounds_toArray, List.set_cons_zero, List.set_cons_succ]
                        go_big_quiet_want
                        refine ⟨.int .i64 sm, fun W hW => ?_, ?_⟩
                        · go_simp
                        go_big_quiet_on
                        simp only [Act.put, List.setIfInBounds_toArray, List.set_cons_zero, List.set_cons_succ]
                        go_big_quiet_want
                        refine ⟨.bool true, fun W hW => ?_, ?_⟩
                        · go_simp
                        go_big_quiet_on
                        simp only [Act.put, List.setIfInBounds_toArray, List.set_cons_zero, List.set_cons_succ]
                        go_big_quiet_want
                        refine ⟨.bool true, fun W hW => ?_, ?_⟩
                        · go_simp
                        go_big_quiet_on
                        simp only [Act.put, List.setIfInBounds_toArray, List.set_cons_zero, List.set_cons_succ]
                        refine wpQuiet_nil ?_
                        intro W hW
                        have o4 := owns_below HA3.out.2 hW
                        have o3 := owns_below HA3.out.1 hW
                        have hB4 := bel0 hBA hW
                        obtain ⟨⟨y0, -, -⟩, -⟩ := HL.out W hW
                        have q4 := iv_at o4 (gF_at (F := A) (v := n) (by rw [hA'.out.1]; exact hnk))
                        have z4 := o4.frozenAt n
                        have hs4 := o4.stored n (.int .i64 (k : Int))
                        rw [iv_set] at hs4
                        have H5 : Hid ((A.set n (k : Int)).length = i ∧ (∀ v, v < i → IsF E G k ne v (gF (A.set n (k : Int)) v)) ∧ (W.setCell ⟨gb, n, none⟩ (.int .i64 (k : Int))).ownsRow w.heap.size 3 1 (.slice (some ⟨ga, 0, none⟩) i ca) i (iv G) ∧ (W.setCell ⟨gb, n, none⟩ (.int .i64 (k : Int))).ownsRow w.heap.size 3 1 (.slice (some ⟨gb, 0, none⟩) i cb) i (iv (A.set n (k : Int)))) := by
                          refine ⟨by rw [List.length_set]; exact hA'.out.1, fun v hv => ?_, o3.kept hs4.2 (.inr (fun e => HNAB.out (by injection e))), hs4.1⟩
                          rw [gF_set (by rw [hA'.out.1]; exact hnk)]
                          split
                          · rename_i ev
                            exact IsF.back_yes HEI.out.1 (by omega) (by rw [HEI.out.2.1, ev]) HYS.out
                          · rename_i ev
                            exact (hA'.out.2.1 v hv).back_no HEI.out.1 (.inl (by rw [HEI.out.2.1]; exact fun h => ev h.symm))
                        have HB5 : Hid (Below w.heap.size w (W.setCell ⟨gb, n, none⟩ (.int .i64 (k : Int)))) := hB4.grown hs4.2 hB4.size (fun j e => by injection e with e; have := (o4.lt gb rfl).1; omega)
                        clear hs4 o4 o3
                        go_wp2_with fail
                        go_roundw
                        case rel => exact ⟨k, A.set n (k : Int), by first | rfl | go_num, by omega, H5, HB5.out⟩
                        case measure => simp [intOf] <;> omega
                      · have e3 : (fz == sm) = false := beq_eq_false_iff_ne.2 c3
                        have HNO : Hid (tgh G e = false) := by unfold Hid; rw [HTG.out, decide_eq_false (show ¬ fz = fy + c by omega), Bool.and_false]
                        clear hsm c3
                        refine quiet_lit3 (C := fun W => Below w3.heap.size w3 W) (by kernel_rfl) (by kernel_rfl) (show Below _ _ _ from (Below.refl _ _).drew) ?_
                        go_big_quiet_want
                        go_big_quiet_op
                        go_big_quiet_on
                        go_big_quiet_want
                        refine ⟨.pointer (some ⟨R, 1, none⟩), fun W hW => ?_, ?_⟩
                        · go_simp
                        go_big_quiet_on
                        simp only [Act.put, List.setIfInBounds_toArray, List.set_cons_zero, List.set_cons_succ]
                        go_big_quiet_want
                        refine ⟨.int .i64 (m : Int), fun W hW => ?_, ?_⟩
                        · obtain ⟨⟨r0, r1, r2⟩, r3, r4⟩ := HL.out W hW
                          go_simp
                        go_big_quiet_on
                        simp only [Act.put, List.setIfInBounds_toArray, List.set_cons_zero, List.set_cons_succ]
                        go_big_quiet_want
                        refine ⟨.pointer (some ⟨ga, m, none⟩), fun W hW => ?_, ?_⟩
                        · go_simp
                        go_big_quiet_on
                        simp only [Act.put, List.setIfInBounds_toArray, List.set_cons_zero, List.set_cons_succ]
                        go_big_quiet_want
                        refine ⟨.int .i64 fy, fun W hW => ?_, ?_⟩
                        · obtain ⟨⟨r0, r1, r2⟩, r3, r4⟩ := HL.out W hW
                          go_simp
                        go_big_quiet_on
                        simp only [Act.put, List.setIfInBounds_toArray, List.set_cons_zero, List.set_cons_succ]
                        go_big_quiet_want
                        refine ⟨.bool true, fun W hW => ?_, ?_⟩
                        · go_simp
                        go_big_quiet_on
                        simp only [Act.put, List.setIfInBounds_toArray, List.set_cons_zero, List.set_cons_succ]
                        go_big_quiet_want
                        go_big_quiet_op
                        go_big_quiet_on
                        go_big_quiet_want
                        go_big_quiet_op
                        go_big_quiet_on
                        go_big_quiet_want
                        refine ⟨.pointer (some ⟨R, 0, none⟩), fun W hW => ?_, ?_⟩
                        · go_simp
                        go_big_quiet_on
                        simp only [Act.put, List.setIfInBounds_toArray, List.set_cons_zero, List.set_cons_succ]
                        go_big_quiet_want
                        refine ⟨.int .i64 (n : Int), fun W hW => ?_, ?_⟩
                        · obtain ⟨⟨r0, r1, r2⟩, r3, r4⟩ := HL.out W hW
                          go_simp
                        go_big_quiet_on
                        simp only [Act.put, List.setIfInBounds_toArray, List.set_cons_zero, List.set_cons_succ]
                        go_big_quiet_want
                        refine ⟨.pointer (some ⟨ga, n, none⟩), fun W hW => ?_, ?_⟩
                        · go_simp
                        go_big_quiet_on
                        simp only [Act.put, List.setIfInBounds_toArray, List.set_cons_zero, List.set_cons_succ]
                        go_big_quiet_want
                        refine ⟨.int .i64 fz, fun W hW => ?_, ?_⟩
                        · obtain ⟨⟨r0, r1, r2⟩, r3, r4⟩ := HL.out W hW
                          go_simp
                        go_big_quiet_on
                        simp only [Act.put, List.setIfInBounds_toArray, List.set_cons_zero, List.set_cons_succ]
                        go_big_quiet_want
                        go_big_quiet_op
                        go_big_quiet_on
                        go_big_quiet_want
                        refine ⟨.pointer (some ⟨R, 1, none⟩), fun W hW => ?_, ?_⟩
                        · go_simp
                        go_big_quiet_on
                        simp only [Act.put, List.setIfInBounds_toArray, List.set_cons_zero, List.set_cons_succ]
                        go_big_quiet_want
                        refine ⟨.int .i64 (m : Int), fun W hW => ?_, ?_⟩
                        · obtain ⟨⟨r0, r1, r2⟩, r3, r4⟩ := HL.out W hW
                          go_simp
                        go_big_quiet_on
                        simp only [Act.put, List.setIfInBounds_toArray, List.set_cons_zero, List.set_cons_succ]
                        go_big_quiet_want
                        refine ⟨.pointer (some ⟨ga, m, none⟩), fun W hW => ?_, ?_⟩
                        · go_simp
                        go_big_quiet_on
                        simp only [Act.put, List.setIfInBounds_toArray, List.set_cons_zero, List.set_cons_succ]
                        go_big_quiet_want
                        refine ⟨.int .i64 fy, fun W hW => ?_, ?_⟩
                        · obtain ⟨⟨r0, r1, r2⟩, r3, r4⟩ := HL.out W hW
                          go_simp
                        go_big_quiet_on
                        simp only [Act.put, List.setIfInBounds_toArray, List.set_cons_zero, List.set_cons_succ]
                        go_big_quiet_want
                        refine ⟨.pointer (some ⟨R, 2, none⟩), fun W hW => ?_, ?_⟩
                        · go_simp
                        go_big_quiet_on
                        simp only [Act.put, List.setIfInBounds_toArray, List.set_cons_zero, List.set_cons_succ]
                        go_big_quiet_want
                        refine ⟨.int .i64 c, fun W hW => ?_, ?_⟩
                        · obtain ⟨⟨r0, r1, r2⟩, r3, r4⟩ := HL.out W hW
                          go_simp
                        go_big_quiet_on
                        simp only [Act.put, List.setIfInBounds_toArray, List.set_cons_zero, List.set_cons_succ]
                        go_big_quiet_want
                        refine ⟨.int .i64 sm, fun W hW => ?_, ?_⟩
                        · go_simp
                        go_big_quiet_on
                        simp only [Act.put, List.setIfInBounds_toArray, List.set_cons_zero, List.set_cons_succ]
                        go_big_quiet_want
                        refine ⟨.bool false, fun W hW => ?_, ?_⟩
                        · go_simp
                        go_big_quiet_on
                        simp only [Act.put, List.setIfInBounds_toArray, List.set_cons_zero, List.set_cons_succ]
                        go_big_quiet_want
                        refine ⟨.bool false, fun W hW => ?_, ?_⟩
                        · go_simp
                        go_big_quiet_on
                        simp only [Act.put, List.setIfInBounds_toArray, List.set_cons_zero, List.set_cons_succ]
                        refine wpQuiet_nil ?_
                        intro W hW
                        go_wp2_with fail
                        go_roundw
                        case rel => exact ⟨k, A, by first | rfl | go_num, by omega, ⟨hA'.out.1, fun v hv => (hA'.out.2.1 v hv).back_no HEI.out.1 (.inr HNO.out), owns_below HA3.out.1 hW, owns_below HA3.out.2 hW⟩, bel0 hBA hW⟩
                        case measure => simp [intOf] <;> omega
                    · have HNO : Hid (tgh G e = false) := by unfold Hid; rw [HTG.out, decide_eq_false c1, Bool.false_and]
                      refine quiet_lit3 (C := fun W => Below w3.heap.size w3 W) (by kernel_rfl) (by kernel_rfl) (show Below _ _ _ from (Below.refl _ _).drew) ?_
                      go_big_quiet_want
                      go_big_quiet_op
                      go_big_quiet_on
                      go_big_quiet_want
                      refine ⟨.pointer (some ⟨R, 1, none⟩), fun W hW => ?_, ?_⟩
                      · go_simp
                      go_big_quiet_on
                      simp only [Act.put, List.setIfInBounds_toArray, List.set_cons_zero, List.set_cons_succ]
                      go_big_quiet_want
                      refine ⟨.int .i64 (m : Int), fun W hW => ?_, ?_⟩
                      · obtain ⟨⟨r0, r1, r2⟩, r3, r4⟩ := HL.out W hW
                        go_simp
                      go_big_quiet_on
                      simp only [Act.put, List.setIfInBounds_toArray, List.set_cons_zero, List.set_cons_succ]
                      go_big_quiet_want
                      refine ⟨.pointer (some ⟨ga, m, none⟩), fun W hW => ?_, ?_⟩
                      · go_simp
                      go_big_quiet_on
                      simp only [Act.put, List.setIfInBounds_toArray, List.set_cons_zero, List.set_cons_succ]
                      go_big_quiet_want
                      refine ⟨.int .i64 fy, fun W hW => ?_, ?_⟩
                      · obtain ⟨⟨r0, r1, r2⟩, r3, r4⟩ := HL.out W hW
                        go_simp
                      go_big_quiet_on
                      simp only [Act.put, List.setIfInBounds_toArray, List.set_cons_zero, List.set_cons_succ]
                      go_big_quiet_want
                      refine ⟨.bool false, fun W hW => ?_, ?_⟩
                      · go_simp
                      go_big_quiet_on
                      simp only [Act.put, List.setIfInBounds_toArray, List.set_cons_zero, List.set_cons_succ]
                      go_big_quiet_want
                      go_big_quiet_op
                      go_big_quiet_on
                      go_big_quiet_skip
                      go_big_quiet_skip
                      go_big_quiet_skip
                      go_big_quiet_skip
                      go_big_quiet_skip
                      go_big_quiet_skip
                      go_big_quiet_skip
                      go_big_quiet_skip
                      go_big_quiet_skip
                      go_big_quiet_skip
                      go_big_quiet_skip
                      go_big_quiet_skip
                      go_big_quiet_skip
                      go_big_quiet_skip
                      go_big_quiet_want
                      refine ⟨.bool false, fun W hW => ?_, ?_⟩
                      · go_simp
                      go_big_quiet_on
                      simp only [Act.put, List.setIfInBounds_toArray, List.set_cons_zero, List.set_cons_succ]
                      refine wpQuiet_nil ?_
                      intro W hW
                      go_wp2_with fail
                      go_roundw
                      case rel => exact ⟨k, A, by first | rfl | go_num, by omega, ⟨hA'.out.1, fun v hv => (hA'.out.2.1 v hv).back_no HEI.out.1 (.inr HNO.out), owns_below HA3.out.1 hW, owns_below HA3.out.2 hW⟩, bel0 hBA hW⟩
                      case measure => simp [intOf] <;> omega
  · have f1 : (F == 0) = false := beq_eq_false_iff_ne.2 f0
    rw [if_neg f0] at hS
    obtain ⟨rfl, rfl⟩ := hS
    clear hE hD hF
    go_enter Try.func11, Try.ntmps11
    go_wp2_with fail
    refine HFT.out.mono ?_
    rintro e W1 ⟨rfl, hb1⟩
    go_wp2_with fail
    refine bodyPost_ret (res_qsh _ _ _ _ _ ⟨rfl, rfl, rfl⟩) rfl ?_
    exact ⟨[], _, _, rfl, (by first | exact rfl | exact ⟨rfl, rfl⟩), World.ownsRow_nil _ _ _ _, World.ownsRow_nil _ _ _ _, hb1⟩
end Go.Proofs.Ytodhgeolcbmeiaa

import Derived.Test.YtjbfkknpkldhjaaLX
import Derived.Test.YtjbfkknpkldhjaaDA
namespace Go.Proofs.Ytjbfkknpkldhjaa
open Go.RowKit
set_option maxRecDepth 100000 in
set_option maxHeartbeats 8000000 in
theorem ledgerSpoils_walk (L : List (Int × List UInt8)) (p : Option Addr) (n c : Nat) (place tn : Int) (w : World) (hn : L.length = n) (_ : n ≤ c) (hr : ER w p L) (_ : (Lit.int .i64 place).wf = true) (ht : (Lit.int .u8 tn).wf = true) :
    Calls Try.prog 7 #[.slice p n c, .int .i64 place, .int .u8 tn] w fun e w' => e = .returned (.bool true) ∧ Below w.heap.size w w' := by
  obtain ⟨t, rfl⟩ : ∃ t : UInt8, tn = (t.toNat : Int) := ⟨_, byte_of ht⟩
  clear ht
  have HR : Hid (ER w p L) := hr
  have HN : Hid (L.length = n) := hn
  clear hr hn
  go_enter Try.func7, Try.ntmps7
  go_wp2_with fail
  refine (fixed_any w).mono ?_
  rintro e W1 ⟨rfl, b1⟩
  have HWR := written_any L p n c W1 HN.out (HR.out.below b1)
  go_wp2_with fail
  refine HWR.mono ?_
  rintro e W2 ⟨v, u, rfl, hO, hD, b2⟩
  have B2 : Hid (Below w.heap.size w W2) := bel0Z b1 b2
  obtain ⟨pr, cr, rfl⟩ := hO.shape
  obtain ⟨pd, cd, rfl, hcd⟩ := hD.shape
  have HOK : Hid (okA 1 (enA L)) := enA_ok L
  have hDB := enA_bytes L
  have hRB : (recA 1 (enA L)).length ≤ 40 := by rw [recA_len]; exact enA_len L
  obtain ⟨RS, hRS⟩ : ∃ RS, recA 1 (enA L) = RS := ⟨_, rfl⟩
  obtain ⟨DS, hDS⟩ : ∃ DS, encA 1 (enA L) = DS := ⟨_, rfl⟩
  have HCUT : Hid (∀ (a c : List UInt8) (x y : UInt8), DS = a ++ x :: c → x ≠ y → whL 1 (a ++ y :: c) = RS.take (cntA RS a.length) ∧ whE 1 (a ++ y :: c) = 192) := fun a c x y h1 h2 => by
    have := wh_spoilt (enA L) 1 a c x y HOK.out (by rw [hDS]; exact h1) h2
    rw [hRS] at this
    exact this
  have hwl : DS.length = whB RS := by rw [← hDS, ← hRS]; exact encA_len _ 1
  rw [hRS] at hO hRB ⊢
  rw [hDS] at hD hDB hcd ⊢
  obtain ⟨NR, hNR⟩ : ∃ NR, RS.length = NR := ⟨_, rfl⟩
  obtain ⟨ND, hND⟩ : ∃ ND, DS.length = ND := ⟨_, rfl⟩
  rw [hNR] at hRB ⊢
  rw [hND] at hDB hcd ⊢
  have hrc : NR ≤ cr := by rw [← hNR]; exact (by
    rcases hO.2 with ⟨e, h0⟩ | ⟨g, cc, _, e, _, _, hcc, _⟩
    · rw [h0]; exact Nat.zero_le _
    · injection e with _ _ e3
      rw [e3]; exact hcc)
  have HNR : Hid (RS.length = NR) := hNR
  have HND : Hid (DS.length = ND) := hND
  have HTX : Hid (∀ (k : Nat) (r : Rec), RS[k]? = some r → r.text.length ≤ 281474976710656) := fun k r hr => by
    have hk := (List.getElem?_eq_some_iff.1 hr).1
    have h5 := whB_take_succ hr
    have h6 : whB (RS.take (k + 1)) ≤ whB RS := by
      have h7 := whB_app (RS.take (k + 1)) (RS.drop (k + 1))
      rw [List.take_append_drop] at h7
      omega
    omega
  have HWL : Hid (ND = whB RS) := by show ND = whB RS; rw [← hND]; exact hwl
  have HO : Hid (OR W2 W1.heap.size (.slice pr NR cr) RS) := by rw [hNR] at hO; exact hO
  have HDO : Hid (OB W2 W1.heap.size (.slice pd ND cd) DS) := by rw [hND] at hD; exact hD
  have HB1 : Hid (Below w.heap.size w W1) := b1
  clear hO hD hRS hDS HWR hNR hND b1 b2 hwl
  by_cases hz : ND = 0
  · have e0 : ((ND : Int) == 0) = true := by simp [hz]
    go_wp2_with fail
    go_ret
    exact ⟨rfl, B2.out⟩
  have e0 : ((ND : Int) == 0) = false := by simp; omega
  by_cases ht0 : t = 0
  · have e1 : ((t.toNat : Int) == 0) = true := by rw [ht0]; rfl
    generalize (t.toNat : Int) = tn at *
    go_wp2_with fail
    go_ret
    exact ⟨rfl, B2.out⟩
  have e1 : ((t.toNat : Int) == 0) = false := by
    simp only [beq_eq_false_iff_ne, ne_eq]
    intro h
    exact ht0 (UInt8.toNat_inj.1 (by rw [show (0 : UInt8).toNat = 0 from rfl]; omega))
  obtain ⟨gd, hgd⟩ := own_someZ HDO.out (by rw [HND.out]; exact hz)
  subst hgd
  have HXO : Hid (∀ x : UInt8, bits .xor .u8 (x.toNat : Int) (t.toNat : Int) = ((x ^^^ t).toNat : Int)) := fun x => xor8 x t
  have HXN : Hid (∀ x : UInt8, x ≠ x ^^^ t) := fun x => xor_ne ht0
  clear ht0
  have n0 : ¬ (ND : Int) = 0 := by omega
  have n1 := Int.tmod_lt_of_pos place (b := (ND : Int)) (by omega)
  have n2 := Int.lt_tmod_of_pos place (b := (ND : Int)) (by omega)
  generalize hpm : Int.tmod place (ND : Int) = PM at n1 n2
  go_upto_if 39 with fail
  go_cut [10] from 16 (fun v10 wz => ∃ P : Nat, v10 = .int .i64 P ∧ P < ND ∧ wz = W2)
  case first =>
    by_cases hneg : PM < 0
    · have ew : wrap64 (PM + (ND : Int)) = (((PM + (ND : Int)).toNat : Nat) : Int) := by rw [wr_in (by omega)]; omega
      have ew2 : PM + (ND : Int) = (((PM + (ND : Int)).toNat : Nat) : Int) := by omega
      have hP : (PM + (ND : Int)).toNat < ND := by omega
      generalize (PM + (ND : Int)).toNat = P at *
      clear hpm
      go_wp2_with fail
      go_meet
      exact ⟨P, by first | rfl | rw [ew] | rw [ew2], hP, rfl⟩
    · obtain ⟨P, rfl⟩ : ∃ P : Nat, PM = P := ⟨PM.toNat, by omega⟩
      clear hpm
      go_wp2_with fail
      go_meet
      exact ⟨P, rfl, by omega, rfl⟩
  case rest =>
    obtain ⟨P, rfl, hP, hW2⟩ := hcut
    subst hW2
    clear n1 n2 hpm e0 e1
    have i0 : (0 : Int) ≤ (P : Int) := by omega
    have i1 : (P : Int) < (ND : Int) := by omega
    obtain ⟨x, hx⟩ : ∃ x, DS[P]? = some x := ⟨_, List.getElem?_eq_getElem (by rw [HND.out]; exact hP)⟩
    have hcx : wc.cell? ⟨gd, P, none⟩ = some (.int .u8 (x.toNat : Int)) := own_atZ HDO.out (by simp [Lib.byteCells, hx])
    have hfx : wc.frozen? ⟨gd, P, none⟩ = false := by
      have h := HDO.out
      unfold OB at h
      rw [HND.out] at h
      exact World.ownsRow.frozenAt h P
    have hxo := HXO.out x
    have hne := HXN.out x
    obtain ⟨y, hy⟩ : ∃ y, x ^^^ t = y := ⟨_, rfl⟩
    rw [hy] at hxo hne
    obtain ⟨sp1, sp2⟩ := set_split hx y
    obtain ⟨o3, g3⟩ := HDO.out.spoil (i := P) y
    obtain ⟨W3, hW3⟩ : ∃ W3, wc.setCell ⟨gd, P, none⟩ (.int .u8 (y.toNat : Int)) = W3 := ⟨_, rfl⟩
    rw [hW3] at o3 g3
    have HO3 : Hid (OR W3 W1.heap.size (.slice pr NR cr) RS) := World.ownsRow.kept HO.out g3 (own_neZ HO.out HDO.out (by decide))
    have HB3 : Hid (Below w.heap.size w W3) := by
      have hge : W1.heap.size ≤ gd := (World.ownsRow.lt HDO.out gd rfl).1
      rw [← hW3]
      exact B2.out.setCell (p := ⟨gd, P, none⟩) (Nat.le_trans HB1.out.size hge) _
    obtain ⟨z1, z2⟩ := HCUT.out _ _ x y sp1 hne
    rw [← sp2, List.length_take, HND.out, Nat.min_eq_left (Nat.le_of_lt hP)] at z1
    rw [← sp2] at z2
    have HBR3 : Hid (BR W3 (some ⟨gd, 0, none⟩) (DS.set P y)) := o3.br
    have HDL : Hid ((DS.set P y).length = ND) := by show _ = ND; rw [List.length_set, HND.out]
    have HWH := whole_any (DS.set P y) (some ⟨gd, 0, none⟩) ND cd W3 HDL.out (by omega) hcd HBR3.out
    have hcn := cnt_lt RS P (by rw [← HWL.out]; exact hP)
    have x3 := plc_full (DS.set P y)
    rw [z1] at x3
    obtain ⟨CN, hCN⟩ : ∃ CN, cntA RS P = CN := ⟨_, rfl⟩
    rw [hCN] at z1 x3 hcn
    rw [HNR.out] at hcn
    have hlen : (whL 1 (DS.set P y)).length = CN := by rw [z1, List.length_take, HNR.out]; omega
    obtain ⟨PE, hPE⟩ : ∃ PE, whB (RS.take CN) = PE := ⟨_, rfl⟩
    rw [hPE] at x3
    have HQ : Hid (Calls Try.prog 18 #[.slice (some ⟨gd, 0, none⟩) ND cd] W3 fun e w' => ∃ pg cg, e = .returned (.tuple #[.slice pg CN cg, .int .i64 (PE : Int), .int .i64 192]) ∧ RR w' pg (RS.take CN) ∧ Below W3.heap.size W3 w') := by
      refine HWH.mono ?_
      rintro e w' ⟨v, h1, h2, h3⟩
      obtain ⟨pg, cg, rfl⟩ := h2.shape
      rw [hlen, z2] at h1
      rw [List.length_take, HNR.out, Nat.min_eq_left (Nat.le_of_lt hcn)] at x3
      rw [x3] at h1
      have h4 := h2.rr
      rw [z1] at h4
      exact ⟨pg, cg, h1, h4, h3⟩
    have HPE : Hid (whB (RS.take CN) = PE) := hPE
    have HCN : Hid (cntA RS P = CN) := hCN
    have HR3 : Hid (RR W3 pr RS) := HO3.out.rr
    clear HWH z1 z2 x3 hlen hPE hCN sp1 sp2 o3 g3 hne hy hx HO HDO HCUT HO3
    go_upto_region 13 with fail
    clear hW3 hcx hfx hxo
    go_wp2_with fail
    go_loopw [11, 12] (fun vn ve wr => ∃ k e : Nat, vn = .int .i64 k ∧ ve = .int .i64 e ∧ k ≤ CN ∧ Hid (e = whB (RS.take k)) ∧ e ≤ 100000000 ∧ wr = W3) (fun vn _ _ => CN - (intOf vn).toNat)
    case atStart => exact ⟨0, 0, rfl, rfl, Nat.zero_le _, rfl, Nat.zero_le _, rfl⟩
    case round =>
      obtain ⟨k, e, rfl, rfl, hk, he, hel, rfl⟩ := hrel
      have hst := cnt_step RS k P (by rw [HCN.out]; exact hk)
      rw [HCN.out] at hst
      have j1 : (k : Int) < (NR : Int) := by omega
      have j0 : (0 : Int) ≤ (k : Int) := by omega
      by_cases hlt : k < CN
      · obtain ⟨r, hr, hle⟩ := hst.1 hlt
        have hw := whB_take_succ hr
        rw [← he.out] at hle hw
        obtain ⟨g, o, rfl, z0, z1, z2⟩ := HR3.out k r hr
        obtain ⟨rs, rk, rt⟩ := r
        simp only at hle hw z0 z1 z2
        have j2 : (e : Int) + (rt.length : Int) + 20 ≤ (P : Int) := by omega
        have HW : Hid (e + rt.length + 20 = whB (RS.take (k + 1))) := hw.symm
        clear hst hr hw he
        go_wp2_with fail
        exact ⟨⟨k + 1, e + rt.length + 20, rfl, by rw [show (((e + rt.length + 20 : Nat)) : Int) = (e : Int) + (rt.length : Int) + 20 by omega], by omega, HW, by omega, trivial⟩, by simp only [intOf]; omega⟩
      · obtain rfl : k = CN := by omega
        have HPe : Hid (e = PE) := by show e = PE; rw [he.out, HPE.out]
        have y2 : (k : Int) ≤ (cr : Int) := by omega
        have hPe := HPe.out
        subst hPe
        have epe : ((e : Int) == (e : Int)) = true := by simp
        obtain ⟨r, hr⟩ : ∃ r, RS[k]? = some r := ⟨_, List.getElem?_eq_getElem (by rw [HNR.out]; omega)⟩
        have hno : ¬ e + r.text.length + 20 ≤ P := fun h => by
          have := hst.2 ⟨r, hr, by rw [← he.out]; exact h⟩
          omega
        have j3 : r.text.length ≤ 281474976710656 := HTX.out k r hr
        obtain ⟨g, o, rfl, z0, z1, z2⟩ := HR3.out k r hr
        obtain ⟨rs, rk, rt⟩ := r
        simp only at hno z0 z1 z2 j3
        have j2 : ¬ (e : Int) + (rt.length : Int) + 20 ≤ (P : Int) := by omega
        clear hst hr he
        go_wp2_with fail
        refine HQ.out.mono ?_
        rintro e2 W4 ⟨pg, cg, rfl, hrg, b4⟩
        have HRC := records_any (RS.take k) pg (some ⟨g, o, none⟩) cg cr k W4 (by rw [List.length_take, HNR.out]; omega) (by omega) hrg ((HR3.out.below b4).take k)
        clear HQ hrg
        go_wp2_with fail
        refine HRC.mono ?_
        rintro e3 W5 ⟨rfl, b5⟩
        clear HRC
        go_wp2_with fail
        go_ret
        exact ⟨rfl, bel0Z (bel0Z HB3.out b4) b5⟩
end Go.Proofs.Ytjbfkknpkldhjaa

import Derived.Test.YtfhlgncpleleaaaDoorUJ
namespace Go.Proofs.YtfhlgncpleleaaaDoor
open Go.RowKit Go.Shelf
set_option maxRecDepth 100000 in
set_option maxHeartbeats 4000000 in
theorem texts_any (L : List (List UInt8)) (p q : Option Addr) (n c d : Nat) (w : World) (hn : L.length = n) (hN : n ≤ 1000000000) (h1 : LSR w p L) (h2 : LSR w q L) :
    Calls Tryd.prog 24 #[.slice p n c, .slice q n d] w fun e w' => e = .returned (.bool true) ∧ Below w.heap.size w w' := by
  have HH : Hid (LSR w p L ∧ LSR w q L ∧ L.length = n) := ⟨h1, h2, hn⟩
  clear h1 h2 hn
  go_enter Tryd.func24, Tryd.ntmps24
  go_wp2_with fail
  go_loopw [5] (fun vi wr => ∃ i : Nat, vi = .int .i64 (i : Int) ∧ i ≤ n ∧ Hid (Below w.heap.size w wr)) (fun vi _ => n - (intOf vi).toNat)
  case atStart => exact ⟨0, rfl, Nat.zero_le _, Below.refl _ _⟩
  case round =>
    obtain ⟨i, rfl, hi, HW⟩ := hrel
    by_cases hlt : i < n
    · have q1 : (i : Int) < (n : Int) := by omega
      have q0 : (0 : Int) ≤ (i : Int) := by omega
      obtain ⟨x, hx⟩ : ∃ x, L[i]? = some x := ⟨_, List.getElem?_eq_getElem (by rw [HH.out.2.2]; exact hlt)⟩
      obtain ⟨ga, oa, rfl, ca⟩ := HH.out.1 wr HW.out i x hx
      obtain ⟨gb, ob, rfl, cb⟩ := HH.out.2.1 wr HW.out i x hx
      clear hx HH
      go_wp2_with fail
      go_quiet (fail)
      go_wp2_with fail
      go_roundw
      case rel => exact ⟨i + 1, by go_num, by omega, bel_drewZ _ HW.out⟩
      case measure => simp [intOf]; omega
    · have q1 : ¬ (i : Int) < (n : Int) := by omega
      clear HH
      go_wp2_with fail
      go_ret
      exact ⟨rfl, HW.out⟩
set_option maxRecDepth 100000 in
set_option maxHeartbeats 8000000 in
theorem replies_any (e f : VR) (w : World) (he : VOK w e) (hf : VOK w f) (hr : e.r = f.r) (hcn : e.r.po.length ≤ 1000000000 ∧ e.r.en.length ≤ 1000000000 ∧ e.r.li.length ≤ 1000000000) :
    Calls Tryd.prog 18 #[.agg e.vs.toArray, .agg f.vs.toArray] w fun x w' => x = .returned (.bool true) ∧ Below w.heap.size w w' := by
  obtain ⟨⟨k, fd, sp, wi, po, en, fi, li, mo⟩, p1, c1, p2, c2, p3, c3⟩ := e
  obtain ⟨r, q1, d1, q2, d2, q3, d3⟩ := f
  simp only at hr
  subst hr
  simp only at hcn
  have HT : Hid (∀ U, Below w.heap.size w U → (LSR U p1 po ∧ LSR U q1 po) ∧ (LSR U p2 en ∧ LSR U q2 en) ∧ (LSR U p3 li ∧ LSR U q3 li)) := fun U hU => ⟨⟨he.l1.later hU, hf.l1.later hU⟩, ⟨he.l2.later hU, hf.l2.later hU⟩, ⟨he.l3.later hU, hf.l3.later hU⟩⟩
  obtain ⟨n1, hn1⟩ : ∃ n, po.length = n := ⟨_, rfl⟩
  obtain ⟨n2, hn2⟩ : ∃ n, en.length = n := ⟨_, rfl⟩
  obtain ⟨n3, hn3⟩ : ∃ n, li.length = n := ⟨_, rfl⟩
  rw [hn1, hn2, hn3] at hcn
  have HN : Hid (po.length = n1 ∧ en.length = n2 ∧ li.length = n3 ∧ n1 ≤ 1000000000 ∧ n2 ≤ 1000000000 ∧ n3 ≤ 1000000000) := ⟨hn1, hn2, hn3, hcn⟩
  unfold VR.vs
  simp only [hn1, hn2, hn3]
  clear he hf hn1 hn2 hn3 hcn
  obtain ⟨bb, hbb⟩ : ∃ bb, w.heap.size = bb := ⟨_, rfl⟩
  obtain ⟨W2, hW2⟩ : ∃ W2, ((w.alloc (.cells #[.int .i64 k, .bool fd, .string ⟨sp.toArray⟩, .string ⟨wi.toArray⟩, .slice p1 n1 c1, .slice p2 n2 c2, .string ⟨fi.toArray⟩, .slice p3 n3 c3, .bool mo] 30 (0, 0))).alloc (.cells #[.int .i64 k, .bool fd, .string ⟨sp.toArray⟩, .string ⟨wi.toArray⟩, .slice q1 n1 d1, .slice q2 n2 d2, .string ⟨fi.toArray⟩, .slice q3 n3 d3, .bool mo] 30 (0, 0))) = W2 := ⟨_, rfl⟩
  have HW2 : Hid (((w.alloc (.cells #[.int .i64 k, .bool fd, .string ⟨sp.toArray⟩, .string ⟨wi.toArray⟩, .slice p1 n1 c1, .slice p2 n2 c2, .string ⟨fi.toArray⟩, .slice p3 n3 c3, .bool mo] 30 (0, 0))).alloc (.cells #[.int .i64 k, .bool fd, .string ⟨sp.toArray⟩, .string ⟨wi.toArray⟩, .slice q1 n1 d1, .slice q2 n2 d2, .string ⟨fi.toArray⟩, .slice q3 n3 d3, .bool mo] 30 (0, 0))) = W2) := hW2
  have HB2 : Hid (Below w.heap.size w W2) := by unfold Hid; rw [← hW2]; exact belAZ (belAZ (Below.refl _ _) _) _
  have HCL : Hid (∀ U, BLZ W2 U → (∀ j, U.cell? ⟨bb, j, none⟩ = (#[.int .i64 k, .bool fd, .string ⟨sp.toArray⟩, .string ⟨wi.toArray⟩, .slice p1 n1 c1, .slice p2 n2 c2, .string ⟨fi.toArray⟩, .slice p3 n3 c3, .bool mo] : Array Value)[j]?) ∧ (∀ j, U.cell? ⟨bb + 1, j, none⟩ = (#[.int .i64 k, .bool fd, .string ⟨sp.toArray⟩, .string ⟨wi.toArray⟩, .slice q1 n1 d1, .slice q2 n2 d2, .string ⟨fi.toArray⟩, .slice q3 n3 d3, .bool mo] : Array Value)[j]?)) := fun U hU => by
    constructor
    · exact (cellsZ (keepZ (show Below _ _ _ from hU) (by rw [← hW2, ← hbb]; exact keepZ (belAZ (Below.refl _ _) _) (alloc_getZ _ _)))).1
    · exact (cellsZ (keepZ (show Below _ _ _ from hU) (by rw [← hW2, show bb + 1 = (w.alloc (.cells #[.int .i64 k, .bool fd, .string ⟨sp.toArray⟩, .string ⟨wi.toArray⟩, .slice p1 n1 c1, .slice p2 n2 c2, .string ⟨fi.toArray⟩, .slice p3 n3 c3, .bool mo] 30 (0, 0))).heap.size by rw [← hbb]; simp]; exact alloc_getZ _ _))).1
  obtain ⟨cA, cB⟩ := HCL.out W2 (Below.refl _ _)
  clear hW2
  go_enter Tryd.func18, Tryd.ntmps18
  go_upto_region 1 with fail
  rw [HW2.out]
  have X1 := texts_any po p1 q1 n1 c1 d1 W2 HN.out.1 HN.out.2.2.2.1 (HT.out W2 HB2.out).1.1 (HT.out W2 HB2.out).1.2
  go_wp2_with fail
  refine X1.mono ?_
  rintro e w3 ⟨rfl, b3⟩
  have HB3 : Hid (BLZ W2 w3) := b3
  clear X1 cA cB b3
  obtain ⟨cA, cB⟩ := HCL.out w3 HB3.out
  have X2 := texts_any en p2 q2 n2 c2 d2 w3 HN.out.2.1 HN.out.2.2.2.2.1 (HT.out w3 (bel0Z HB2.out HB3.out)).2.1.1 (HT.out w3 (bel0Z HB2.out HB3.out)).2.1.2
  go_wp2_with fail
  refine X2.mono ?_
  rintro e w4 ⟨rfl, b4⟩
  have HB4 : Hid (BLZ W2 w4) := HB3.out.trans b4
  clear X2 cA cB b4 HB3
  obtain ⟨cA, cB⟩ := HCL.out w4 HB4.out
  have X3 := texts_any li p3 q3 n3 c3 d3 w4 HN.out.2.2.1 HN.out.2.2.2.2.2 (HT.out w4 (bel0Z HB2.out HB4.out)).2.2.1 (HT.out w4 (bel0Z HB2.out HB4.out)).2.2.2
  go_wp2_with fail
  refine X3.mono ?_
  rintro e w5 ⟨rfl, b5⟩
  have HE : Hid (Below w.heap.size w w5) := bel0Z HB2.out (HB4.out.trans b5)
  clear X3 cA cB b5 HB4
  go_wp2_with fail
  go_ret
  exact ⟨rfl, by first | exact HE.out | (rw [← hbb]; exact HE.out)⟩
set_option maxRecDepth 100000 in
set_option maxHeartbeats 8000000 in
theorem all_any (Es Fs : List VR) (p q : Option Addr) (n c d : Nat) (w : World) (hn : Es.length = n) (hm : Fs.length = n) (hN : n ≤ 1000000000) (hrr : rps Es = rps Fs) (h1 : RDR w p Es) (h2 : RDR w q Fs) (hcn : ∀ e ∈ Es, e.r.po.length ≤ 1000000000 ∧ e.r.en.length ≤ 1000000000 ∧ e.r.li.length ≤ 1000000000) :
    Calls Tryd.prog 11 #[.slice p n c, .slice q n d] w fun e w' => e = .returned (.bool true) ∧ Below w.heap.size w w' := by
  have HH : Hid (RDR w p Es ∧ RDR w q Fs ∧ Es.length = n ∧ Fs.length = n ∧ rps Es = rps Fs ∧ ∀ e ∈ Es, e.r.po.length ≤ 1000000000 ∧ e.r.en.length ≤ 1000000000 ∧ e.r.li.length ≤ 1000000000) := ⟨h1, h2, hn, hm, hrr, hcn⟩
  clear h1 h2 hn hm hrr hcn
  go_enter Tryd.func11, Tryd.ntmps11
  go_wp2_with fail
  go_loopw [5] (fun vi wr => ∃ i : Nat, vi = .int .i64 (i : Int) ∧ i ≤ n ∧ Hid (Below w.heap.size w wr)) (fun vi _ => n - (intOf vi).toNat)
  case atStart => exact ⟨0, rfl, Nat.zero_le _, Below.refl _ _⟩
  case round =>
    obtain ⟨i, rfl, hi, HW⟩ := hrel
    by_cases hlt : i < n
    · have i1 : (i : Int) < (n : Int) := by omega
      have i0 : (0 : Int) ≤ (i : Int) := by omega
      obtain ⟨e, he⟩ : ∃ x, Es[i]? = some x := ⟨_, List.getElem?_eq_getElem (by rw [HH.out.2.2.1]; exact hlt)⟩
      obtain ⟨f, hf⟩ : ∃ x, Fs[i]? = some x := ⟨_, List.getElem?_eq_getElem (by rw [HH.out.2.2.2.1]; exact hlt)⟩
      have hef : e.r = f.r := by
        have a : (rps Es)[i]? = some e.r := by unfold rps; rw [List.getElem?_map, he]; rfl
        have b : (rps Fs)[i]? = some f.r := by unfold rps; rw [List.getElem?_map, hf]; rfl
        rw [HH.out.2.2.2.2.1, b] at a
        exact (Option.some.inj a).symm
      obtain ⟨⟨ga, oa, rfl, -⟩, -⟩ := HH.out.1 wr HW.out i e he
      obtain ⟨⟨gb, ob, rfl, -⟩, -⟩ := HH.out.2.1 wr HW.out i f hf
      have HA : Hid (∀ U, BLZ wr U → ∀ (j : Nat) (v : Value), e.vs[j]? = some v → U.cell? ⟨ga, oa + i * 9 + j, none⟩ = some v) := fun U hU => by
        obtain ⟨⟨g, o, e1, h⟩, -⟩ := HH.out.1 U (bel0Z HW.out hU) i e he
        injection e1 with e1
        injection e1 with e1 e2
        subst e1 e2
        exact h
      have HB : Hid (∀ U, BLZ wr U → ∀ (j : Nat) (v : Value), f.vs[j]? = some v → U.cell? ⟨gb, ob + i * 9 + j, none⟩ = some v) := fun U hU => by
        obtain ⟨⟨g, o, e1, h⟩, -⟩ := HH.out.2.1 U (bel0Z HW.out hU) i f hf
        injection e1 with e1
        injection e1 with e1 e2
        subst e1 e2
        exact h
      have HQ : Hid (∀ U, BLZ wr U → Calls Tryd.prog 18 #[.agg e.vs.toArray, .agg f.vs.toArray] U fun x w' => x = .returned (.bool true) ∧ Below U.heap.size U w') := fun U hU => replies_any e f U (HH.out.1 U (bel0Z HW.out hU) i e he).2 (HH.out.2.1 U (bel0Z HW.out hU) i f hf).2 hef (HH.out.2.2.2.2.2 e (List.mem_of_getElem? he))
      clear he hf HH
      obtain ⟨⟨k, fd, sp, wi, po, en, fi, li, mo⟩, p1, c1, p2, c2, p3, c3⟩ := e
      obtain ⟨r, q1, d1, q2, d2, q3, d3⟩ := f
      simp only at hef
      subst hef
      unfold VR.vs at HA HB HQ
      simp only at HA HB HQ
      go_wp2_with fail
      refine quiet_lit3 (C := fun U => BLZ wr U) (by kernel_rfl) (by kernel_rfl) (show BLZ _ _ from Below.drew (Below.refl _ _)) ?_
      go_big_quiet_want
      go_big_quiet_op
      go_big_quiet_on
      go_big_quiet_want
      go_big_quiet_op
      go_big_quiet_on
      go_big_quiet_want
      refine ⟨.pointer (some ⟨ga, oa + i * 9, none⟩), fun W hW => ?_, ?_⟩
      · go_simp
      go_big_quiet_on
      simp only [Act.put, List.setIfInBounds_toArray, List.set_cons_zero, List.set_cons_succ]
      go_big_quiet_want
      refine ⟨.agg #[.int .i64 k, .bool fd, .string ⟨sp.toArray⟩, .string ⟨wi.toArray⟩, .slice p1 po.length c1, .slice p2 en.length c2, .string ⟨fi.toArray⟩, .slice p3 li.length c3, .bool mo], fun W hW => ?_, ?_⟩
      · have hh := HA.out W hW
        have x0 := hh 0 _ rfl
        have x1 := hh 1 _ rfl
        have x2 := hh 2 _ rfl
        have x3 := hh 3 _ rfl
        have x4 := hh 4 _ rfl
        have x5 := hh 5 _ rfl
        have x6 := hh 6 _ rfl
        have x7 := hh 7 _ rfl
        have x8 := hh 8 _ rfl
        rw [Nat.add_zero] at x0
        clear hh
        go_simp
      go_big_quiet_on
      simp only [Act.put, List.setIfInBounds_toArray, List.set_cons_zero, List.set_cons_succ]
      go_big_quiet_want
      go_big_quiet_op
      go_big_quiet_on
      go_big_quiet_want
      go_big_quiet_op
      go_big_quiet_on
      go_big_quiet_want
      refine ⟨.pointer (some ⟨gb, ob + i * 9, none⟩), fun W hW => ?_, ?_⟩
      · go_simp
      go_big_quiet_on
      simp only [Act.put, List.setIfInBounds_toArray, List.set_cons_zero, List.set_cons_succ]
      go_big_quiet_want
      refine ⟨.agg #[.int .i64 k, .bool fd, .string ⟨sp.toArray⟩, .string ⟨wi.toArray⟩, .slice q1 po.length d1, .slice q2 en.length d2, .string ⟨fi.toArray⟩, .slice q3 li.length d3, .bool mo], fun W hW => ?_, ?_⟩
      · have hh := HB.out W hW
        have x0 := hh 0 _ rfl
        have x1 := hh 1 _ rfl
        have x2 := hh 2 _ rfl
        have x3 := hh 3 _ rfl
        have x4 := hh 4 _ rfl
        have x5 := hh 5 _ rfl
        have x6 := hh 6 _ rfl
        have x7 := hh 7 _ rfl
        have x8 := hh 8 _ rfl
        rw [Nat.add_zero] at x0
        clear hh
        go_simp
      go_big_quiet_on
      simp only [Act.put, List.setIfInBounds_toArray, List.set_cons_zero, List.set_cons_succ]
      go_big_quiet_want
      refine ⟨.bool true, fun W hW => ?_, ?_⟩
      · go_simp
        refine (HQ.out W hW).mono ?_
        rintro e w7 ⟨rfl, hb⟩
        exact ⟨rfl, hW.trans hb⟩
      go_big_quiet_on
      simp only [Act.put, List.setIfInBounds_toArray, List.set_cons_zero, List.set_cons_succ]
      go_big_quiet_want
      go_big_quiet_op
      go_big_quiet_on
      refine wpQuiet_nil ?_
      intro w5 hw5
      have HX : Hid (Below w.heap.size w w5) := bel0Z HW.out hw5
      clear hw5 HA HB HQ HW
      go_wp2_with fail
      go_roundw
      case rel => exact ⟨i + 1, by go_num, by omega, HX⟩
      case measure => simp [intOf]; omega
    · have i1 : ¬ (i : Int) < (n : Int) := by omega
      clear HH
      go_wp2_with fail
      go_ret
      exact ⟨rfl, HW.out⟩
set_option maxRecDepth 100000 in
set_option maxHeartbeats 8000000 in
theorem results_any (s : RS) (Es Fs : List VR) (p q : Option Addr) (n c d : Nat) (w : World) (hn : Es.length = n) (hm : Fs.length = n) (hN : n ≤ 1000000000) (hrr : rps Es = rps Fs) (h1 : RDR w p Es) (h2 : RDR w q Fs) (hcn : ∀ e ∈ Es, e.r.po.length ≤ 1000000000 ∧ e.r.en.length ≤ 1000000000 ∧ e.r.li.length ≤ 1000000000) :
    Calls Tryd.prog 6 #[.agg #[.int .i64 s.k, .int .i64 s.c, .int .i64 s.t, .int .i64 s.l, .slice p n c], .agg #[.int .i64 s.k, .int .i64 s.c, .int .i64 s.t, .int .i64 s.l, .slice q n d]] w fun e w' => e = .returned (.bool true) ∧ Below w.heap.size w w' := by
  obtain ⟨k, cd, tx, ln⟩ := s
  simp only
  have HQ : Hid (∀ U, Below w.heap.size w U → Calls Tryd.prog 11 #[.slice p n c, .slice q n d] U fun e w' => e = .returned (.bool true) ∧ Below U.heap.size U w') := fun U hU => all_any Es Fs p q n c d U hn hm hN hrr (h1.later hU) (h2.later hU) hcn
  clear hn hm hN hrr h1 h2 hcn
  have hb2 : Below w.heap.size w ((w.alloc (.cells #[.int .i64 k, .int .i64 cd, .int .i64 tx, .int .i64 ln, .slice p n c] 25 (0, 0))).alloc (.cells #[.int .i64 k, .int .i64 cd, .int .i64 tx, .int .i64 ln, .slice q n d] 25 (0, 0))) := belAZ (belAZ (Below.refl _ _) _) _
  have X1 := HQ.out _ hb2
  have HB : Hid (Below w.heap.size w ((w.alloc (.cells #[.int .i64 k, .int .i64 cd, .int .i64 tx, .int .i64 ln, .slice p n c] 25 (0, 0))).alloc (.cells #[.int .i64 k, .int .i64 cd, .int .i64 tx, .int .i64 ln, .slice q n d] 25 (0, 0)))) := hb2
  clear hb2
  go_enter Tryd.func6, Tryd.ntmps6
  go_wp2_with fail
  refine X1.mono ?_
  rintro e w3 ⟨rfl, b3⟩
  have HE : Hid (Below w.heap.size w w3) := bel0Z HB.out b3
  clear X1 b3 HB
  go_wp2_with fail
  go_ret
  exact ⟨rfl, HE.out⟩
end Go.Proofs.YtfhlgncpleleaaaDoor

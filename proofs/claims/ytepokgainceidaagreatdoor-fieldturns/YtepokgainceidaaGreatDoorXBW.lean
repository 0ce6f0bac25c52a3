import Derived.Test.YtepokgainceidaaGreatDoorXBT
import Derived.Test.YtepokgainceidaaGreatDoorXBV
import Derived.Deep.OwnRows
namespace Go.Proofs.YtepokgainceidaaGreatDoor
open Go.RowKit Go.Shelf
theorem IRF_one (W : World) (f : List UInt8) (lo : Int) (t : Nat) : IRF (W.alloc (.cells #[.string ⟨f.toArray⟩, .int .i64 lo] t)) (some ⟨W.heap.size, 0, none⟩) [(f, lo)] := fun W' hW k g hg => by
  have hk := keepblk hW (alloc_get W (.cells #[.string ⟨f.toArray⟩, .int .i64 lo] t))
  cases k with
  | zero =>
    obtain rfl : (f, lo) = g := by simpa using hg
    exact ⟨_, _, rfl, cell_of_row _ _ 0 _ _ _ hk, cell_of_row _ _ 1 _ _ _ hk⟩
  | succ k => simp at hg
set_option maxRecDepth 100000 in
set_option maxHeartbeats 8000000 in
theorem told_any (L : List IFld) (n : Nat) (o1 o2 : Option Addr) (c1 c2 : Nat) (t : TS) (s : List UInt8) (w : World) (hLn : L.length = n) (hL : n ≤ 281474976710656) (hc1 : n ≤ c1) (hx : ∀ f ∈ L, f.1.length ≤ 281474976710656) (hs : s.length ≤ 281474976710656) (hpl : t.pat.length ≤ 281474976710656) (h1 : IRF w o1 L) (h2 : IRF w o2 L) (hv1 : SH w) (hdb : DB w) (hv4 : SG w) (hv5 : VW w) (hu : US w) :
    Calls Tryz.prog 24 #[.slice o1 n c1, .slice o2 n c2, t.v, .string ⟨s.toArray⟩] w fun e w' => e = .returned (.bool true) ∧ Below w.heap.size w w' := by
  have HV : Hid (SH w ∧ DB w ∧ SG w ∧ VW w ∧ US w) := ⟨hv1, hdb, hv4, hv5, hu⟩
  have hcl := cbM_len L t
  have hul := unM_len L s
  have C1 : ∀ W, Below w.heap.size w W → Calls Tryz.prog 38 #[.slice o1 n c1] W fun e w' => e = .returned (.tuple #[.int .i64 (chkM L).1, .int .i64 (chkM L).2]) ∧ Below W.heap.size W w' := fun W hW => by
    subst hLn
    exact check_any L o1 c1 W hL hc1 hx (h1.later hW) (hv1.below hW) (hv4.below hW) (hv5.below hW)
  have C2 : ∀ W, Below w.heap.size w W → Calls Tryz.prog 32 #[.slice o2 n c2] W fun e w' => e = .returned (.tuple #[.int .i64 (chkM L).1, .int .i64 (chkM L).2]) ∧ Below W.heap.size W w' := fun W hW => by
    subst hLn
    exact refCheck_any L o2 c2 W hL hx (h2.later hW)
  have C3 : ∀ W, Below w.heap.size w W → Calls Tryz.prog 10 #[.slice o1 n c1, t.v] W fun e w' => cuR W (cbM L t) e w' := fun W hW => by
    subst hLn
    exact fcubes_any L o1 c1 t W hL hc1 hx hpl (h1.later hW) (hv1.below hW) (hv4.below hW) (hv5.below hW) (hu.below hW) (hdb.below hW)
  have C4 : ∀ W, Below w.heap.size w W → Calls Tryz.prog 8 #[.slice o2 n c2, t.v] W fun e w' => cuR W (cbM L t) e w' := fun W hW => by
    subst hLn
    exact refCubes_any L o2 c2 t W hL hx hpl (h2.later hW)
  have C5 : ∀ (W : World) (o : Option Addr), Below w.heap.size w W → IRF W o [(t.f, t.lo)] → Calls Tryz.prog 59 #[.slice o1 n c1, .slice o 1 1] W fun e w' => e = .returned (.tuple #[.string ⟨(wdM L [(t.f, t.lo)]).1.toArray⟩, .int .i64 (wdM L [(t.f, t.lo)]).2]) ∧ Below W.heap.size W w' := fun W o hW i1 => by
    subst hLn
    exact word_any L o1 c1 [(t.f, t.lo)] o 1 W hL hc1 (Nat.le_refl _) hx (h1.later hW) i1 (hv1.below hW) (hv4.below hW) (hv5.below hW)
  have C6 : ∀ (W : World) (o : Option Addr), Below w.heap.size w W → IRF W o [(t.f, t.lo)] → Calls Tryz.prog 60 #[.slice o2 n c2, .slice o 1 1] W fun e w' => e = .returned (.tuple #[.string ⟨(wdM L [(t.f, t.lo)]).1.toArray⟩, .int .i64 (wdM L [(t.f, t.lo)]).2]) ∧ Below W.heap.size W w' := fun W o hW i1 => by
    subst hLn
    exact refWord_any L o2 c2 [(t.f, t.lo)] o 1 W hL hx (h2.later hW) i1
  have C7 : ∀ W, Below w.heap.size w W → Calls Tryz.prog 61 #[.slice o1 n c1, .string ⟨s.toArray⟩] W fun e w' => unR W (unM L s) e w' := fun W hW => by
    subst hLn
    exact unpack_any L o1 c1 s W hL hc1 hx (h1.later hW) (hv1.below hW) (hv4.below hW) (hv5.below hW)
  have C8 : ∀ W, Below w.heap.size w W → Calls Tryz.prog 62 #[.slice o2 n c2, .string ⟨s.toArray⟩] W fun e w' => unR W (unM L s) e w' := fun W hW => by
    subst hLn
    exact refUnpack_any L o2 c2 s W hL hx (h2.later hW)
  have C9 : ∀ W, Below w.heap.size w W → Calls Tryz.prog 16 #[.slice o1 n c1, .string ⟨s.toArray⟩] W fun e w' => e = .returned (.tuple #[.string ⟨(swM L s).1.toArray⟩, .int .i64 (swM L s).2]) ∧ Below W.heap.size W w' := fun W hW => by
    subst hLn
    exact show_any L o1 c1 s W hL hc1 hx hs (h1.later hW) (hv1.below hW) (hv4.below hW) (hv5.below hW)
  have CA : ∀ W, Below w.heap.size w W → Calls Tryz.prog 15 #[.slice o2 n c2, .string ⟨s.toArray⟩] W fun e w' => e = .returned (.tuple #[.string ⟨(swM L s).1.toArray⟩, .int .i64 (swM L s).2]) ∧ Below W.heap.size W w' := fun W hW => by
    subst hLn
    exact refShow_any L o2 c2 s W hL hx (h2.later hW)
  have CB : ∀ (U : List Int) (m : Nat) (o : Option Addr) (c : Nat) (W : World), U.length = m → Below w.heap.size w W → IRV W o U → Calls Tryz.prog 63 #[.slice o1 n c1, .slice o m c] W fun e w' => e = .returned (.tuple #[.string ⟨(pkM L U).1.toArray⟩, .int .i64 (pkM L U).2]) ∧ Below W.heap.size W w' := fun U m o c W hm hW i1 => by
    subst hLn hm
    exact pack_any L o1 c1 U o c W hL hc1 hx (h1.later hW) i1 (hv1.below hW) (hv4.below hW) (hv5.below hW)
  have CC : ∀ (U : List Int) (m : Nat) (o : Option Addr) (c : Nat) (W : World), U.length = m → Below w.heap.size w W → IRV W o U → Calls Tryz.prog 64 #[.slice o2 n c2, .slice o m c] W fun e w' => e = .returned (.tuple #[.string ⟨(pkM L U).1.toArray⟩, .int .i64 (pkM L U).2]) ∧ Below W.heap.size W w' := fun U m o c W hm hW i1 => by
    subst hLn hm
    exact refPack_any L o2 c2 U o c W hL hx (h2.later hW) i1
  obtain ⟨r1, hr1⟩ : ∃ r, chkM L = r := ⟨_, rfl⟩
  obtain ⟨r2, hr2⟩ : ∃ r, cbM L t = r := ⟨_, rfl⟩
  obtain ⟨r3, hr3⟩ : ∃ r, wdM L [(t.f, t.lo)] = r := ⟨_, rfl⟩
  obtain ⟨r4, hr4⟩ : ∃ r, unM L s = r := ⟨_, rfl⟩
  obtain ⟨r5, hr5⟩ : ∃ r, swM L s = r := ⟨_, rfl⟩
  obtain ⟨U, a4⟩ := r4
  obtain ⟨r6, hr6⟩ : ∃ r, pkM L U = r := ⟨_, rfl⟩
  obtain ⟨a1, b1⟩ := r1
  obtain ⟨Cs, a2⟩ := r2
  obtain ⟨Wd, a3⟩ := r3
  obtain ⟨Sw, a5⟩ := r5
  obtain ⟨Pk, a6⟩ := r6
  have CB' := fun m o c W => CB U m o c W
  have CC' := fun m o c W => CC U m o c W
  simp only [hr1] at C1 C2
  simp only [hr2] at C3 C4
  simp only [hr3] at C5 C6
  simp only [hr4] at C7 C8
  simp only [hr5] at C9 CA
  simp only [hr6] at CB' CC'
  rw [hr2] at hcl
  rw [hr4] at hul
  simp only at hcl hul
  obtain ⟨m, hm⟩ : ∃ m, U.length = m := ⟨_, rfl⟩
  have HM : Hid (U.length = m) := hm
  have HAL : Hid (∀ (W : World) (p1 p2 : Option Addr) (d1 d2 : Nat), IRV W p1 U → IRV W p2 U → Calls Tryz.prog 31 #[.slice p1 m d1, .slice p2 m d2] W fun e w' => e = .returned (.bool true) ∧ Below W.heap.size W w') := fun W p1 p2 d1 d2 i1 i2 => by
    rw [← hm]
    exact alike_any U p1 p2 d1 d2 W (by omega) i1 i2
  have HSM : Hid (∀ (va vb : Value) (W : World) (B1 B2 : Nat), W.ownsRow B1 9 1 va Cs.length (stx Cs) → W.ownsRow B2 9 1 vb Cs.length (stx Cs) → Calls Tryz.prog 12 #[va, vb] W fun e w' => e = .returned (.bool true) ∧ Below W.heap.size W w') := fun va vb W B1 B2 i1 i2 => same_any Cs B1 B2 va vb W (by omega) i1 i2
  obtain ⟨f, op, form, lo, hi, len, pat⟩ := t
  simp only at C5 C6
  have H1 : Hid (∀ W, Below w.heap.size w W → Calls Tryz.prog 38 #[.slice o1 n c1] W fun e w' => e = .returned (.tuple #[.int .i64 a1, .int .i64 b1]) ∧ Below W.heap.size W w') := C1
  have H2 : Hid (∀ W, Below w.heap.size w W → Calls Tryz.prog 32 #[.slice o2 n c2] W fun e w' => e = .returned (.tuple #[.int .i64 a1, .int .i64 b1]) ∧ Below W.heap.size W w') := C2
  have H3 : Hid (∀ W, Below w.heap.size w W → Calls Tryz.prog 10 #[.slice o1 n c1, .agg #[.string ⟨f.toArray⟩, .int .i64 op, .int .i64 form, .int .i64 lo, .int .i64 hi, .int .i64 len, .string ⟨pat.toArray⟩]] W fun e w' => cuR W (Cs, a2) e w') := C3
  have H4 : Hid (∀ W, Below w.heap.size w W → Calls Tryz.prog 8 #[.slice o2 n c2, .agg #[.string ⟨f.toArray⟩, .int .i64 op, .int .i64 form, .int .i64 lo, .int .i64 hi, .int .i64 len, .string ⟨pat.toArray⟩]] W fun e w' => cuR W (Cs, a2) e w') := C4
  have H5 : Hid (∀ (W : World) (o : Option Addr), Below w.heap.size w W → IRF W o [(f, lo)] → Calls Tryz.prog 59 #[.slice o1 n c1, .slice o 1 1] W fun e w' => e = .returned (.tuple #[.string ⟨Wd.toArray⟩, .int .i64 a3]) ∧ Below W.heap.size W w') := C5
  have H6 : Hid (∀ (W : World) (o : Option Addr), Below w.heap.size w W → IRF W o [(f, lo)] → Calls Tryz.prog 60 #[.slice o2 n c2, .slice o 1 1] W fun e w' => e = .returned (.tuple #[.string ⟨Wd.toArray⟩, .int .i64 a3]) ∧ Below W.heap.size W w') := C6
  have H7 : Hid (∀ W, Below w.heap.size w W → Calls Tryz.prog 61 #[.slice o1 n c1, .string ⟨s.toArray⟩] W fun e w' => unR W (U, a4) e w') := C7
  have H8 : Hid (∀ W, Below w.heap.size w W → Calls Tryz.prog 62 #[.slice o2 n c2, .string ⟨s.toArray⟩] W fun e w' => unR W (U, a4) e w') := C8
  have H9 : Hid (∀ W, Below w.heap.size w W → Calls Tryz.prog 16 #[.slice o1 n c1, .string ⟨s.toArray⟩] W fun e w' => e = .returned (.tuple #[.string ⟨Sw.toArray⟩, .int .i64 a5]) ∧ Below W.heap.size W w') := C9
  have HA : Hid (∀ W, Below w.heap.size w W → Calls Tryz.prog 15 #[.slice o2 n c2, .string ⟨s.toArray⟩] W fun e w' => e = .returned (.tuple #[.string ⟨Sw.toArray⟩, .int .i64 a5]) ∧ Below W.heap.size W w') := CA
  have HB : Hid (∀ (o : Option Addr) (c : Nat) (W : World), Below w.heap.size w W → IRV W o U → Calls Tryz.prog 63 #[.slice o1 n c1, .slice o m c] W fun e w' => e = .returned (.tuple #[.string ⟨Pk.toArray⟩, .int .i64 a6]) ∧ Below W.heap.size W w') := fun o c W hW i1 => CB' m o c W hm hW i1
  have HC : Hid (∀ (o : Option Addr) (c : Nat) (W : World), Below w.heap.size w W → IRV W o U → Calls Tryz.prog 64 #[.slice o2 n c2, .slice o m c] W fun e w' => e = .returned (.tuple #[.string ⟨Pk.toArray⟩, .int .i64 a6]) ∧ Below W.heap.size W w') := fun o c W hW i1 => CC' m o c W hm hW i1
  show Calls Tryz.prog 24 #[.slice o1 n c1, .slice o2 n c2, .agg #[.string ⟨f.toArray⟩, .int .i64 op, .int .i64 form, .int .i64 lo, .int .i64 hi, .int .i64 len, .string ⟨pat.toArray⟩], .string ⟨s.toArray⟩] w _
  obtain ⟨O, hO⟩ : ∃ O : Obj, Obj.cells #[.string ⟨f.toArray⟩, .int .i64 op, .int .i64 form, .int .i64 lo, .int .i64 hi, .int .i64 len, .string ⟨pat.toArray⟩] 24 = O := ⟨_, rfl⟩
  have hB0 : Below w.heap.size w (w.alloc O) := (Below.refl _ _).alloc (Nat.le_refl _) _
  have hbx : (w.alloc O).heap[w.heap.size]? = some (.cells #[.string ⟨f.toArray⟩, .int .i64 op, .int .i64 form, .int .i64 lo, .int .i64 hi, .int .i64 len, .string ⟨pat.toArray⟩] 24) := by rw [hO]; exact alloc_get _ _
  have HX : Hid (∀ W : World, Below (w.alloc O).heap.size (w.alloc O) W → W.cell? ⟨w.heap.size, 0, none⟩ = some (.string ⟨f.toArray⟩) ∧ W.cell? ⟨w.heap.size, 1, none⟩ = some (.int .i64 op) ∧ W.cell? ⟨w.heap.size, 2, none⟩ = some (.int .i64 form) ∧ W.cell? ⟨w.heap.size, 3, none⟩ = some (.int .i64 lo) ∧ W.cell? ⟨w.heap.size, 4, none⟩ = some (.int .i64 hi) ∧ W.cell? ⟨w.heap.size, 5, none⟩ = some (.int .i64 len) ∧ W.cell? ⟨w.heap.size, 6, none⟩ = some (.string ⟨pat.toArray⟩)) := fun W hW => ⟨cell_of_row _ _ 0 _ _ _ (keepblk hW hbx), cell_of_row _ _ 1 _ _ _ (keepblk hW hbx), cell_of_row _ _ 2 _ _ _ (keepblk hW hbx), cell_of_row _ _ 3 _ _ _ (keepblk hW hbx), cell_of_row _ _ 4 _ _ _ (keepblk hW hbx), cell_of_row _ _ 5 _ _ _ (keepblk hW hbx), cell_of_row _ _ 6 _ _ _ (keepblk hW hbx)⟩
  have y1 : (a1 == a1) = true := beq_self_eq_true a1
  have y2 : (a2 == a2) = true := beq_self_eq_true a2
  have y3 : (a3 == a3) = true := beq_self_eq_true a3
  have y4 : (a4 == a4) = true := beq_self_eq_true a4
  have y5 : (a5 == a5) = true := beq_self_eq_true a5
  have y6 : (a6 == a6) = true := beq_self_eq_true a6
  have y7 : (b1 == b1) = true := beq_self_eq_true b1
  clear hbx hr1 hr2 hr3 hr4 hr5 hr6 hm hLn h1 h2 hx hv1 hdb hv4 hv5 hu C1 C2 C3 C4 C5 C6 C7 C8 C9 CA CB CC CB' CC' hcl hul HV hpl
  go_enter Tryz.func24, Tryz.ntmps24
  go_wp2_with fail
  try simp only [hO]
  refine (H1.out _ hB0).mono ?_
  rintro e W1 ⟨rfl, e1⟩
  have hB1 := bel0 hB0 e1
  go_wp2_with fail
  refine (H2.out _ hB1).mono ?_
  rintro e W2 ⟨rfl, e2⟩
  have hB2 := bel0 hB1 e2
  have hX2 := bel0 e1 e2
  obtain ⟨x0, x1, x2, x3, x4, x5, x6⟩ := HX.out W2 hX2
  go_wp2_with fail
  refine (num_any a1 _).mono ?_
  rintro e Wn ⟨rfl, rfl⟩
  go_wp2_with fail
  refine (H3.out _ hB2).mono ?_
  rintro e W3 ⟨v3, rfl, hown3, e3⟩
  simp only at hown3
  have hB3 := bel0 hB2 e3
  have hX3 := bel0 hX2 e3
  obtain ⟨z0, z1, z2, z3, z4, z5, z6⟩ := HX.out W3 hX3
  clear x0 x1 x2 x3 x4 x5 x6
  go_wp2_with fail
  refine (H4.out _ hB3).mono ?_
  rintro e W4 ⟨v4, rfl, hown4, e4⟩
  simp only at hown4
  have hB4 := bel0 hB3 e4
  have hX4 := bel0 hX3 e4
  have hO3 : Hid (∀ W : World, Below W4.heap.size W4 W → W.ownsRow Wn.heap.size 9 1 v3 Cs.length (stx Cs)) := fun W hW => owns_below hown3 (bel0 e4 hW)
  have hO4 : Hid (∀ W : World, Below W4.heap.size W4 W → W.ownsRow W3.heap.size 9 1 v4 Cs.length (stx Cs)) := fun W hW => owns_below hown4 hW
  obtain ⟨x0, x1, x2, x3, x4, x5, x6⟩ := HX.out W4 hX4
  clear hown3 hown4 z0 z1 z2 z3 z4 z5 z6
  obtain ⟨W5, hW5⟩ : ∃ W5, W4.alloc (.cells #[.string ⟨f.toArray⟩, .int .i64 lo] 96) = W5 := ⟨_, rfl⟩
  have hI5 := IRF_one W4 f lo 96
  rw [hW5] at hI5
  have e5 : Below W4.heap.size W4 W5 := by rw [← hW5]; exact (Below.refl _ _).alloc (Nat.le_refl _) _
  have hB5 := bel0 hB4 e5
  have HI5 : Hid (∀ W, Below W5.heap.size W5 W → IRF W (some ⟨W4.heap.size, 0, none⟩) [(f, lo)]) := fun W hW => hI5.later hW
  clear hI5
  go_wp2_with fail
  try simp only [hW5]
  refine (H5.out _ _ hB5 (HI5.out _ (Below.refl _ _))).mono ?_
  rintro e W6 ⟨rfl, e6⟩
  have hB6 := bel0 hB5 e6
  go_wp2_with fail
  refine (H6.out _ _ hB6 (HI5.out _ e6)).mono ?_
  rintro e W7 ⟨rfl, e7⟩
  have hB7 := bel0 hB6 e7
  have hD7 : Below W4.heap.size W4 W7 := bel0 (bel0 e5 e6) e7
  clear x0 x1 x2 x3 x4 x5 x6 hW5
  go_wp2_with fail
  refine (H7.out _ hB7).mono ?_
  rintro e W8 ⟨v8, rfl, hown8, e8⟩
  simp only [HM.out] at hown8
  obtain ⟨p8, d8, rfl⟩ := shapeP hown8
  have HO8 : Hid (∀ W : World, Below W8.heap.size W8 W → IRV W p8 U) := fun W hW => (IRV_ownL hown8 HM.out).later hW
  have hB8 := bel0 hB7 e8
  have hD8 := bel0 hD7 e8
  clear hown8
  go_wp2_with fail
  refine (H8.out _ hB8).mono ?_
  rintro e W9 ⟨v9, rfl, hown9, e9⟩
  simp only [HM.out] at hown9
  obtain ⟨p9, d9, rfl⟩ := shapeP hown9
  have HO9 : Hid (∀ W : World, Below W9.heap.size W9 W → IRV W p9 U) := fun W hW => (IRV_ownL hown9 HM.out).later hW
  have hB9 := bel0 hB8 e9
  have hD9 := bel0 hD8 e9
  clear hown9
  go_wp2_with fail
  refine (H9.out _ hB9).mono ?_
  rintro e WA ⟨rfl, eA⟩
  have hBA := bel0 hB9 eA
  go_wp2_with fail
  refine (HA.out _ hBA).mono ?_
  rintro e WB ⟨rfl, eB⟩
  have hBB := bel0 hBA eB
  have h9B := bel0 eA eB
  go_wp2_with fail
  refine (HB.out p9 d9 _ hBB (HO9.out _ h9B)).mono ?_
  rintro e WC ⟨rfl, eC⟩
  have hBC := bel0 hBB eC
  have h9C := bel0 h9B eC
  go_wp2_with fail
  refine (HC.out p9 d9 _ hBC (HO9.out _ h9C)).mono ?_
  rintro e WD ⟨rfl, eD⟩
  have hBD := bel0 hBC eD
  have h9D := bel0 h9C eD
  have h8D := bel0 e9 h9D
  have h4D := bel0 hD9 h9D
  go_wp2_with fail
  refine (num_any a2 _).mono ?_
  rintro e We ⟨rfl, rfl⟩
  go_wp2_with fail
  refine (HSM.out v3 v4 _ _ _ (hO3.out _ h4D) (hO4.out _ h4D)).mono ?_
  rintro e WE ⟨rfl, eE⟩
  have hBE := bel0 hBD eE
  have h8E := bel0 h8D eE
  have h9E := bel0 h9D eE
  go_wp2_with fail
  refine (num_any a3 _).mono ?_
  rintro e Wf ⟨rfl, rfl⟩
  go_wp2_with fail
  refine (num_any a4 _).mono ?_
  rintro e Wg ⟨rfl, rfl⟩
  go_wp2_with fail
  refine (HAL.out _ p8 p9 d8 d9 (HO8.out _ h8E) (HO9.out _ h9E)).mono ?_
  rintro e WF ⟨rfl, eF⟩
  have hBF := bel0 hBE eF
  go_wp2_with fail
  refine (num_any a5 _).mono ?_
  rintro e Wh ⟨rfl, rfl⟩
  go_wp2_with fail
  refine (num_any a6 _).mono ?_
  rintro e Wi ⟨rfl, rfl⟩
  go_wp2_with fail
  go_ret
  exact ⟨rfl, hBF⟩
theorem fels_len (L : List IFld) : (fels L).length = L.length * 2 := by
  unfold fels
  induction L with
  | nil => rfl
  | cons t L ih => rw [List.flatMap_cons, List.length_append, ih, List.length_cons]; show 2 + _ = _; omega
theorem fels_get (L : List IFld) : ∀ (k m : Nat), m < 2 → (fels L)[k * 2 + m]? = L[k]?.bind fun t => (fcel t)[m]? := by
  induction L with
  | nil => intro k m _; simp [fels]
  | cons t L ih =>
    intro k m hm
    have e : fels (t :: L) = fcel t ++ fels L := rfl
    rw [e]
    cases k with
    | zero =>
      rw [List.getElem?_append_left (by show 0 * 2 + m < 2; omega)]
      simp
    | succ k =>
      rw [List.getElem?_append_right (by show 2 ≤ _; omega), show (k + 1) * 2 + m - (fcel t).length = k * 2 + m by show _ - 2 = _; omega, ih k m hm]
      simp
theorem fels_set (L : List IFld) (k : Nat) (t : IFld) (hk : k < L.length) : ((fels L).set (k * 2) (.string ⟨t.1.toArray⟩)).set (k * 2 + 1) (.int .i64 t.2) = fels (L.set k t) := by
  have hl := fels_len L
  apply List.ext_getElem?
  intro j
  obtain ⟨q, m, rfl, hm⟩ : ∃ q m, j = q * 2 + m ∧ m < 2 := ⟨j / 2, j % 2, by omega, by omega⟩
  rw [fels_get (L.set k t) q m hm]
  by_cases hq : q = k
  · subst hq
    rw [List.getElem?_set_self hk]
    have hc : m = 0 ∨ m = 1 := by omega
    rcases hc with rfl | rfl
    · rw [List.getElem?_set_ne (by omega)]
      show (((fels L).set (q * 2) _))[q * 2]? = _
      rw [List.getElem?_set_self (by omega)]
      rfl
    · rw [List.getElem?_set_self (by simp only [List.length_set]; omega)]
      rfl
  · rw [List.getElem?_set_ne (by omega), List.getElem?_set_ne (by omega), fels_get L q m hm, List.getElem?_set_ne (fun e => hq e.symm)]
abbrev zeroF : IFld := ([], 0)
theorem fels_made (n : Nat) : (madeCells (Value.agg #[.string ⟨#[]⟩, .int .i64 0]).cells (n * 2)).toList = fels (List.replicate n zeroF) := by
  apply List.ext_getElem?
  intro j
  obtain ⟨q, m, rfl, hm⟩ : ∃ q m, j = q * 2 + m ∧ m < 2 := ⟨j / 2, j % 2, by omega, by omega⟩
  rw [fels_get _ q m hm]
  unfold madeCells
  by_cases hq : q < n
  · rw [List.getElem?_replicate, if_pos hq]
    have hc : m = 0 ∨ m = 1 := by omega
    have hj : q * 2 + m < n * 2 := by omega
    have e4 : (Value.agg #[.string ⟨#[]⟩, .int .i64 0]).cells = #[.string ⟨#[]⟩, .int .i64 0] := rfl
    rw [e4]
    have em : (q * 2 + m) % 2 = m := by omega
    simp only [Array.toList_map, Array.toList_range, List.getElem?_map, List.getElem?_range hj, Option.map_some]
    rcases hc with rfl | rfl <;> simp [em, fcel]
  · rw [List.getElem?_eq_none (by simp; omega), List.getElem?_eq_none (by simp; omega)]
    rfl
def put2k (W : World) (g k : Nat) (t : IFld) : World := (W.setCell ⟨g, k * 2, none⟩ (.string ⟨t.1.toArray⟩)).setCell ⟨g, k * 2 + 1, none⟩ (.int .i64 t.2)
theorem gr_transF {w w1 w2 : World} {r : Option Nat} (h1 : w.grownBy w1 r) (h2 : w1.grownBy w2 r) : w.grownBy w2 r :=
  ⟨h2.os.trans h1.os, h2.tape.trans h1.tape, h2.output.trans h1.output, Nat.le_trans h1.size h2.size, fun k hk hr => (h2.block k (Nat.lt_of_lt_of_le hk h1.size) hr).trans (h1.block k hk hr)⟩
theorem put2k_own {W : World} {B g n c k : Nat} {K : List IFld} (t : IFld) (h : W.ownsRow B 51 2 (.slice (some ⟨g, 0, none⟩) n c) n (fels K)) (hk : k < K.length) :
    (put2k W g k t).ownsRow B 51 2 (.slice (some ⟨g, 0, none⟩) n c) n (fels (K.set k t)) ∧ W.grownBy (put2k W g k t) (some g) := by
  have s0 := h.stored (k * 2) (.string ⟨t.1.toArray⟩)
  have s1 := s0.1.stored (k * 2 + 1) (.int .i64 t.2)
  rw [← fels_set K k t hk]
  exact ⟨s1.1, gr_transF s0.2 s1.2⟩
theorem ifld_cell {W : World} {B g n c : Nat} {K : List IFld} (h : W.ownsRow B 51 2 (.slice (some ⟨g, 0, none⟩) n c) n (fels K)) {k : Nat} {t : IFld} (ht : K[k]? = some t) :
    W.cell? ⟨g, k * 2, none⟩ = some (.string ⟨t.1.toArray⟩) ∧ W.cell? ⟨g, k * 2 + 1, none⟩ = some (.int .i64 t.2) := by
  have hl : K.length = n := by
    have := h.1
    rw [fels_len] at this
    omega
  have hk := (List.getElem?_eq_some_iff.1 ht).1
  obtain ⟨a0, a1⟩ := fels_at K k t ht
  exact ⟨(h.cellAt _ (by omega)).trans a0, (h.cellAt _ (by omega)).trans a1⟩
theorem IRF_row {W : World} {B g n c : Nat} {K L : List IFld} (h : W.ownsRow B 51 2 (.slice (some ⟨g, 0, none⟩) n c) n (fels K)) (hL : ∀ (k : Nat) (t : IFld), L[k]? = some t → K[k]? = some t) : IRF W (some ⟨g, 0, none⟩) L := fun W' hW k t ht => by
  obtain ⟨a0, a1⟩ := ifld_cell (owns_below h hW) (hL k t ht)
  exact ⟨g, 0, rfl, by rw [Nat.zero_add]; exact a0, by rw [Nat.zero_add]; exact a1⟩
theorem set_pre {K L : List IFld} {i : Nat} {t : IFld} (hi : L[i]? = some t) (hk : i < K.length) (h : ∀ j, j < i → K[j]? = L[j]?) : ∀ j, j < i + 1 → (K.set i t)[j]? = L[j]? := fun j hj => by
  by_cases e : j = i
  · subst e
    rw [List.getElem?_set_self hk, hi]
  · rw [List.getElem?_set_ne (fun h => e h.symm)]
    exact h j (by omega)
set_option maxRecDepth 100000 in
set_option maxHeartbeats 8000000 in
theorem fieldTurns_walk (A : List IFld) (n1 : Nat) (ad1 : Option Addr) (cap1 : Nat) (B : List IFld) (n2 : Nat) (ad2 : Option Addr) (cap2 : Nat) (t : TS) (ha : ByteArray) (w : World) (hA : A.length = n1) (hcA : n1 ≤ cap1) (hbA : n1 * 24 ≤ 140737488355328) (hxA : ∀ f ∈ A, f.1.length ≤ 281474976710656) (hrA : IRF w ad1 A) (hB : B.length = n2) (hcB : n2 ≤ cap2) (hbB : n2 * 24 ≤ 140737488355328) (hxB : ∀ f ∈ B, f.1.length ≤ 281474976710656) (hrB : IRF w ad2 B) (hpl : t.pat.length ≤ 281474976710656) (hal : ha.size ≤ 281474976710656) (hv1 : SH w) (hdb : DB w) (hv4 : SG w) (hv5 : VW w) (hu : US w) :
    Calls Tryz.prog 6 #[.slice ad1 n1 cap1, .slice ad2 n2 cap2, t.v, .string ha] w fun e w' => e = .returned (.bool true) ∧ Below w.heap.size w w' := by
  obtain ⟨s, rfl⟩ : ∃ s : List UInt8, ha = ⟨s.toArray⟩ := ⟨ha.data.toList, by simp⟩
  have hsl : s.length ≤ 281474976710656 := by simpa [ByteArray.size] using hal
  obtain ⟨i0, hi, hz0, hz1, hz2⟩ := info_parts info_fld
  have HTA0 : ∀ (W : World) (o : Option Addr) (c : Nat), Below w.heap.size w W → n1 ≤ c → IRF W o A → Calls Tryz.prog 24 #[.slice o n1 c, .slice ad1 n1 cap1, t.v, .string ⟨s.toArray⟩] W fun e w' => e = .returned (.bool true) ∧ Below W.heap.size W w' := fun W o c hW hc i1 => told_any A n1 o ad1 c cap1 t s W hA (by omega) hc hxA hsl hpl i1 (hrA.later hW) (hv1.below hW) (hdb.below hW) (hv4.below hW) (hv5.below hW) (hu.below hW)
  have HTB0 : ∀ (W : World) (o : Option Addr) (c : Nat), Below w.heap.size w W → n2 ≤ c → IRF W o B → Calls Tryz.prog 24 #[.slice o n2 c, .slice ad2 n2 cap2, t.v, .string ⟨s.toArray⟩] W fun e w' => e = .returned (.bool true) ∧ Below W.heap.size W w' := fun W o c hW hc i1 => told_any B n2 o ad2 c cap2 t s W hB (by omega) hc hxB hsl hpl i1 (hrB.later hW) (hv1.below hW) (hdb.below hW) (hv4.below hW) (hv5.below hW) (hu.below hW)
  have HKN : Hid (∀ W : World, Below w.heap.size w W → Calls Tryz.prog 14 #[] W fun e w' => e = .returned (.bool true) ∧ Below W.heap.size W w') := fun W hW => known_any W (hdb.below hW)
  have HRA : Hid (∀ W : World, Below w.heap.size w W → IRF W ad1 A) := fun W hW => hrA.later hW
  have HRB : Hid (∀ W : World, Below w.heap.size w W → IRF W ad2 B) := fun W hW => hrB.later hW
  have HLA : Hid (A.length = n1) := hA
  have HLB : Hid (B.length = n2) := hB
  obtain ⟨f, op, form, lo, hi', len, pat⟩ := t
  have HTA : Hid (∀ (W : World) (o : Option Addr) (c : Nat), Below w.heap.size w W → n1 ≤ c → IRF W o A → Calls Tryz.prog 24 #[.slice o n1 c, .slice ad1 n1 cap1, .agg #[.string ⟨f.toArray⟩, .int .i64 op, .int .i64 form, .int .i64 lo, .int .i64 hi', .int .i64 len, .string ⟨pat.toArray⟩], .string ⟨s.toArray⟩] W fun e w' => e = .returned (.bool true) ∧ Below W.heap.size W w') := HTA0
  have HTB : Hid (∀ (W : World) (o : Option Addr) (c : Nat), Below w.heap.size w W → n2 ≤ c → IRF W o B → Calls Tryz.prog 24 #[.slice o n2 c, .slice ad2 n2 cap2, .agg #[.string ⟨f.toArray⟩, .int .i64 op, .int .i64 form, .int .i64 lo, .int .i64 hi', .int .i64 len, .string ⟨pat.toArray⟩], .string ⟨s.toArray⟩] W fun e w' => e = .returned (.bool true) ∧ Below W.heap.size W w') := HTB0
  show Calls Tryz.prog 6 #[.slice ad1 n1 cap1, .slice ad2 n2 cap2, .agg #[.string ⟨f.toArray⟩, .int .i64 op, .int .i64 form, .int .i64 lo, .int .i64 hi', .int .i64 len, .string ⟨pat.toArray⟩], .string ⟨s.toArray⟩] w _
  obtain ⟨O, hO⟩ : ∃ O : Obj, Obj.cells #[.string ⟨f.toArray⟩, .int .i64 op, .int .i64 form, .int .i64 lo, .int .i64 hi', .int .i64 len, .string ⟨pat.toArray⟩] 24 = O := ⟨_, rfl⟩
  have hB0 : Below w.heap.size w (w.alloc O) := (Below.refl _ _).alloc (Nat.le_refl _) _
  have hbx : (w.alloc O).heap[w.heap.size]? = some (.cells #[.string ⟨f.toArray⟩, .int .i64 op, .int .i64 form, .int .i64 lo, .int .i64 hi', .int .i64 len, .string ⟨pat.toArray⟩] 24) := by rw [hO]; exact alloc_get _ _
  obtain ⟨w0, hw0⟩ : ∃ w0, w.alloc O = w0 := ⟨_, rfl⟩
  rw [hw0] at hB0 hbx
  have HX : Hid (∀ W : World, Below w0.heap.size w0 W → W.cell? ⟨w.heap.size, 0, none⟩ = some (.string ⟨f.toArray⟩) ∧ W.cell? ⟨w.heap.size, 1, none⟩ = some (.int .i64 op) ∧ W.cell? ⟨w.heap.size, 2, none⟩ = some (.int .i64 form) ∧ W.cell? ⟨w.heap.size, 3, none⟩ = some (.int .i64 lo) ∧ W.cell? ⟨w.heap.size, 4, none⟩ = some (.int .i64 hi') ∧ W.cell? ⟨w.heap.size, 5, none⟩ = some (.int .i64 len) ∧ W.cell? ⟨w.heap.size, 6, none⟩ = some (.string ⟨pat.toArray⟩)) := fun W hW => ⟨cell_of_row _ _ 0 _ _ _ (keepblk hW hbx), cell_of_row _ _ 1 _ _ _ (keepblk hW hbx), cell_of_row _ _ 2 _ _ _ (keepblk hW hbx), cell_of_row _ _ 3 _ _ _ (keepblk hW hbx), cell_of_row _ _ 4 _ _ _ (keepblk hW hbx), cell_of_row _ _ 5 _ _ _ (keepblk hW hbx), cell_of_row _ _ 6 _ _ _ (keepblk hW hbx)⟩
  obtain ⟨S, hS⟩ : ∃ S, w.heap.size = S := ⟨_, rfl⟩
  have HSS : Hid (w.heap.size = S) := hS
  rw [hS] at HX
  obtain ⟨M, hM⟩ : ∃ M : Nat, max n1 n2 + 1 = M := ⟨_, rfl⟩
  have HM : Hid (n1 < M ∧ n2 < M) := ⟨by omega, by omega⟩
  have e1 : IntKind.i64.wrap (max (n1 : Int) (n2 : Int) + 1) = (M : Int) := by rw [IntKind.wrap_i64]; omega
  have e2 : max (n1 : Int) (n2 : Int) + 1 = (M : Int) := by omega
  have hMb : M * 24 ≤ 140737488355400 := by omega
  clear hbx hA hB hxA hxB hrA hrB hv1 hdb hv4 hv5 hu HTA0 HTB0 hpl hal hbA hbB hM
  go_enter Tryz.func6, Tryz.ntmps6
  go_wp2_with (at_make; refine wpList_make_full _ rfl _ _ 22 rfl w0.heap.size 51 i0 (.agg #[.string ⟨#[]⟩, .int .i64 0]) 2 Tryz.underlying22 hi hz0 hz1 .i64 .i64 _ _ M rfl rfl (by omega) (by omega) (by rw [hz2]; omega) (by unfold maxLen; omega) (Nat.le_refl _) ?_; intro w1 hO1 hg1)
  rw [fels_made M] at hO1
  have B1 : Below w0.heap.size w0 w1 := (Below.refl _ _).grown hg1 (Nat.le_refl _) (fun k e => by cases e)
  clear hg1 e1 e2 hO hw0
  go_loopw [10] (fun vt wr => ∃ (tn : Nat) (K : List IFld), vt = .int .i64 tn ∧ tn ≤ 4 ∧ K.length = M ∧ wr.ownsRow w0.heap.size 51 2 (.slice (some ⟨w0.heap.size, 0, none⟩) M M) M (fels K) ∧ Below w0.heap.size w0 wr) (fun vt _ => 4 - (intOf vt).toNat)
  case atStart => exact ⟨0, _, rfl, by omega, List.length_replicate, hO1, B1⟩
  case round =>
    clear hO1 B1
    obtain ⟨tn, K, rfl, ht4, hK, hown, hBw⟩ := hrel
    by_cases ht : tn < 4
    · have t1 : (tn : Int) < 4 := by omega
      obtain ⟨m1, m2⟩ := HM.out
      rcases (show tn % 2 = 0 ∨ tn % 2 = 1 by omega) with hp | hp
      · have r1 : (tn : Int).tmod 2 = 0 := by rw [Int.tmod_eq_emod_of_nonneg (by omega)]; omega
        have r2 : ((tn : Int).tmod 2 == 1) = false := by rw [r1]; rfl
        have r3 : (tn : Int) % 2 = 0 := by omega
        clear hp
        go_wp2_with fail
        go_loopw [12] (fun vi wi => ∃ (i : Nat) (K : List IFld), vi = .int .i64 i ∧ i ≤ n1 ∧ K.length = M ∧ Hid (∀ j, j < i → K[j]? = A[j]?) ∧ wi.ownsRow w0.heap.size 51 2 (.slice (some ⟨w0.heap.size, 0, none⟩) M M) M (fels K) ∧ Below w0.heap.size w0 wi) (fun vi _ => n1 - (intOf vi).toNat)
        case atStart => exact ⟨0, K, rfl, Nat.zero_le _, hK, fun j h => by omega, hown, hBw⟩
        case round =>
          clear hown hBw hK
          obtain ⟨i, K2, rfl, hi2, hK2, hpre, hown2, hBi⟩ := hrel
          by_cases hlt : i < n1
          · have q0 : (0 : Int) ≤ (i : Int) := by omega
            have q1 : (i : Int) < (n1 : Int) := by omega
            have q2 : (i : Int) < (M : Int) := by omega
            obtain ⟨ft, hft⟩ : ∃ ft, A[i]? = some ft := ⟨_, List.getElem?_eq_getElem (by rw [HLA.out]; exact hlt)⟩
            obtain ⟨g, o0, rfl, p0, p1⟩ := HRA.out wr (bel0 hB0 hBi) wr (Below.refl _ _) i ft hft
            obtain ⟨zt, hzt⟩ : ∃ z, K2[i]? = some z := ⟨_, List.getElem?_eq_getElem (by omega)⟩
            obtain ⟨x0, x1⟩ := ifld_cell hown2 hzt
            have fr : ∀ j, wr.frozen? ⟨w0.heap.size, j, none⟩ = false := hown2.frozenAt
            have q := put2k_own (k := i) ft hown2 (by omega)
            have hb2 : Below w0.heap.size w0 (put2k wr w0.heap.size i ft) := hBi.grown q.2 hBi.size (fun k e => by injection e with e; omega)
            have HP : Hid (∀ j, j < i + 1 → (K2.set i ft)[j]? = A[j]?) := set_pre hft (by omega) hpre.out
            have HL2 : Hid ((K2.set i ft).length = M) := by unfold Hid; rw [List.length_set]; exact hK2
            obtain ⟨fn, fb⟩ := ft
            simp only at p0 p1
            have HQ : Hid ((put2k wr w0.heap.size i (fn, fb)).ownsRow w0.heap.size 51 2 (.slice (some ⟨w0.heap.size, 0, none⟩) M M) M (fels (K2.set i (fn, fb)))) := q.1
            have HB2 : Hid (Below w0.heap.size w0 (put2k wr w0.heap.size i (fn, fb))) := hb2
            clear q hb2 hpre hzt hft hown2 hBi hK2
            go_wp2_with fail
            go_roundw
            case rel => exact ⟨i + 1, K2.set i (fn, fb), by go_num, by omega, HL2.out, HP, HQ.out, HB2.out⟩
            case measure => simp [intOf]; omega
          · have q1 : ¬ (i : Int) < (n1 : Int) := by omega
            obtain rfl : i = n1 := by omega
            have j0 : (0 : Int) ≤ (i : Int) := by omega
            have j1 : (i : Int) ≤ (M : Int) := by omega
            have HI : Hid (∀ W : World, Below wr.heap.size wr W → IRF W (some ⟨w0.heap.size, 0, none⟩) A) := fun W hW => (IRF_row hown2 (fun k t hk => by rw [hpre.out k (by have := (List.getElem?_eq_some_iff.1 hk).1; rw [HLA.out] at this; exact this)]; exact hk)).later hW
            have HOW : Hid (wr.ownsRow w0.heap.size 51 2 (.slice (some ⟨w0.heap.size, 0, none⟩) M M) M (fels K2)) := hown2
            have HK2 : Hid (K2.length = M) := hK2
            have hmle : i ≤ M := by omega
            clear hown2 hpre hK2
            go_wp2_with fail
            refine quiet_lit3 (C := fun W => Below wr.heap.size wr W) (by kernel_rfl) (by kernel_rfl) (show Below _ _ _ from (Below.refl _ _).drew) ?_
            go_big_quiet_want
            go_big_quiet_op
            go_big_quiet_on
            go_big_quiet_want
            go_big_quiet_op
            go_big_quiet_on
            go_big_quiet_want
            refine ⟨.int .i64 (i : Int), fun W hW => ?_, ?_⟩
            · go_simp
            go_big_quiet_on
            simp only [Act.put, List.setIfInBounds_toArray, List.set_cons_zero, List.set_cons_succ]
            go_big_quiet_want
            refine ⟨.slice (some ⟨w0.heap.size, 0, none⟩) i M, fun W hW => ?_, ?_⟩
            · go_simp
            go_big_quiet_on
            simp only [Act.put, List.setIfInBounds_toArray, List.set_cons_zero, List.set_cons_succ]
            go_big_quiet_want
            go_big_quiet_op
            go_big_quiet_on
            go_big_quiet_want
            refine ⟨.agg #[.string ⟨f.toArray⟩, .int .i64 op, .int .i64 form, .int .i64 lo, .int .i64 hi', .int .i64 len, .string ⟨pat.toArray⟩], fun W hW => ?_, ?_⟩
            · obtain ⟨x0, x1, x2, x3, x4, x5, x6⟩ := HX.out W (bel0 hBi hW)
              go_simp
            go_big_quiet_on
            simp only [Act.put, List.setIfInBounds_toArray, List.set_cons_zero, List.set_cons_succ]
            go_big_quiet_want
            go_big_quiet_op
            go_big_quiet_on
            go_big_quiet_want
            refine ⟨.bool true, fun W hW => ?_, ?_⟩
            · go_simp
              refine (HTA.out W (some ⟨w0.heap.size, 0, none⟩) M (bel0 hB0 (bel0 hBi hW)) hmle (HI.out W hW)).mono ?_
              rintro e w7 ⟨rfl, hb⟩
              exact ⟨rfl, bel0 hW hb⟩
            go_big_quiet_on
            simp only [Act.put, List.setIfInBounds_toArray, List.set_cons_zero, List.set_cons_succ]
            go_big_quiet_want
            go_big_quiet_op
            go_big_quiet_on
            refine wpQuiet_nil ?_
            intro W hW
            go_wp2_with fail
            go_roundw
            case rel => exact ⟨tn + 1, K2, by go_num, by omega, HK2.out, owns_below HOW.out hW, bel0 hBi hW⟩
            case measure => simp [intOf]; omega
      · have r1 : (tn : Int).tmod 2 = 1 := by rw [Int.tmod_eq_emod_of_nonneg (by omega)]; omega
        have r2 : ((tn : Int).tmod 2 == 1) = true := by rw [r1]; rfl
        have r3 : (tn : Int) % 2 = 1 := by omega
        clear hp
        go_wp2_with fail
        go_loopw [12] (fun vi wi => ∃ (i : Nat) (K : List IFld), vi = .int .i64 i ∧ i ≤ n2 ∧ K.length = M ∧ Hid (∀ j, j < i → K[j]? = B[j]?) ∧ wi.ownsRow w0.heap.size 51 2 (.slice (some ⟨w0.heap.size, 0, none⟩) M M) M (fels K) ∧ Below w0.heap.size w0 wi) (fun vi _ => n2 - (intOf vi).toNat)
        case atStart => exact ⟨0, K, rfl, Nat.zero_le _, hK, fun j h => by omega, hown, hBw⟩
        case round =>
          clear hown hBw hK
          obtain ⟨i, K2, rfl, hi2, hK2, hpre, hown2, hBi⟩ := hrel
          by_cases hlt : i < n2
          · have q0 : (0 : Int) ≤ (i : Int) := by omega
            have q1 : (i : Int) < (n2 : Int) := by omega
            have q2 : (i : Int) < (M : Int) := by omega
            obtain ⟨ft, hft⟩ : ∃ ft, B[i]? = some ft := ⟨_, List.getElem?_eq_getElem (by rw [HLB.out]; exact hlt)⟩
            obtain ⟨g, o0, rfl, p0, p1⟩ := HRB.out wr (bel0 hB0 hBi) wr (Below.refl _ _) i ft hft
            obtain ⟨zt, hzt⟩ : ∃ z, K2[i]? = some z := ⟨_, List.getElem?_eq_getElem (by omega)⟩
            obtain ⟨x0, x1⟩ := ifld_cell hown2 hzt
            have fr : ∀ j, wr.frozen? ⟨w0.heap.size, j, none⟩ = false := hown2.frozenAt
            have q := put2k_own (k := i) ft hown2 (by omega)
            have hb2 : Below w0.heap.size w0 (put2k wr w0.heap.size i ft) := hBi.grown q.2 hBi.size (fun k e => by injection e with e; omega)
            have HP : Hid (∀ j, j < i + 1 → (K2.set i ft)[j]? = B[j]?) := set_pre hft (by omega) hpre.out
            have HL2 : Hid ((K2.set i ft).length = M) := by unfold Hid; rw [List.length_set]; exact hK2
            obtain ⟨fn, fb⟩ := ft
            simp only at p0 p1
            have HQ : Hid ((put2k wr w0.heap.size i (fn, fb)).ownsRow w0.heap.size 51 2 (.slice (some ⟨w0.heap.size, 0, none⟩) M M) M (fels (K2.set i (fn, fb)))) := q.1
            have HB2 : Hid (Below w0.heap.size w0 (put2k wr w0.heap.size i (fn, fb))) := hb2
            clear q hb2 hpre hzt hft hown2 hBi hK2
            go_wp2_with fail
            go_roundw
            case rel => exact ⟨i + 1, K2.set i (fn, fb), by go_num, by omega, HL2.out, HP, HQ.out, HB2.out⟩
            case measure => simp [intOf]; omega
          · have q1 : ¬ (i : Int) < (n2 : Int) := by omega
            obtain rfl : i = n2 := by omega
            have j0 : (0 : Int) ≤ (i : Int) := by omega
            have j1 : (i : Int) ≤ (M : Int) := by omega
            have HI : Hid (∀ W : World, Below wr.heap.size wr W → IRF W (some ⟨w0.heap.size, 0, none⟩) B) := fun W hW => (IRF_row hown2 (fun k t hk => by rw [hpre.out k (by have := (List.getElem?_eq_some_iff.1 hk).1; rw [HLB.out] at this; exact this)]; exact hk)).later hW
            have HOW : Hid (wr.ownsRow w0.heap.size 51 2 (.slice (some ⟨w0.heap.size, 0, none⟩) M M) M (fels K2)) := hown2
            have HK2 : Hid (K2.length = M) := hK2
            have hmle : i ≤ M := by omega
            clear hown2 hpre hK2
            go_wp2_with fail
            refine quiet_lit3 (C := fun W => Below wr.heap.size wr W) (by kernel_rfl) (by kernel_rfl) (show Below _ _ _ from (Below.refl _ _).drew) ?_
            go_big_quiet_want
            go_big_quiet_op
            go_big_quiet_on
            go_big_quiet_want
            go_big_quiet_op
            go_big_quiet_on
            go_big_quiet_want
            refine ⟨.int .i64 (i : Int), fun W hW => ?_, ?_⟩
            · go_simp
            go_big_quiet_on
            simp only [Act.put, List.setIfInBounds_toArray, List.set_cons_zero, List.set_cons_succ]
            go_big_quiet_want
            refine ⟨.slice (some ⟨w0.heap.size, 0, none⟩) i M, fun W hW => ?_, ?_⟩
            · go_simp
            go_big_quiet_on
            simp only [Act.put, List.setIfInBounds_toArray, List.set_cons_zero, List.set_cons_succ]
            go_big_quiet_want
            go_big_quiet_op
            go_big_quiet_on
            go_big_quiet_want
            refine ⟨.agg #[.string ⟨f.toArray⟩, .int .i64 op, .int .i64 form, .int .i64 lo, .int .i64 hi', .int .i64 len, .string ⟨pat.toArray⟩], fun W hW => ?_, ?_⟩
            · obtain ⟨x0, x1, x2, x3, x4, x5, x6⟩ := HX.out W (bel0 hBi hW)
              go_simp
            go_big_quiet_on
            simp only [Act.put, List.setIfInBounds_toArray, List.set_cons_zero, List.set_cons_succ]
            go_big_quiet_want
            go_big_quiet_op
            go_big_quiet_on
            go_big_quiet_want
            refine ⟨.bool true, fun W hW => ?_, ?_⟩
            · go_simp
              refine (HTB.out W (some ⟨w0.heap.size, 0, none⟩) M (bel0 hB0 (bel0 hBi hW)) hmle (HI.out W hW)).mono ?_
              rintro e w7 ⟨rfl, hb⟩
              exact ⟨rfl, bel0 hW hb⟩
            go_big_quiet_on
            simp only [Act.put, List.setIfInBounds_toArray, List.set_cons_zero, List.set_cons_succ]
            go_big_quiet_want
            go_big_quiet_op
            go_big_quiet_on
            refine wpQuiet_nil ?_
            intro W hW
            go_wp2_with fail
            go_roundw
            case rel => exact ⟨tn + 1, K2, by go_num, by omega, HK2.out, owns_below HOW.out hW, bel0 hBi hW⟩
            case measure => simp [intOf]; omega
    · have t1 : ¬ (tn : Int) < 4 := by omega
      clear hown
      go_wp2_with fail
      refine (HKN.out _ (bel0 hB0 hBw)).mono ?_
      rintro e W9 ⟨rfl, hb9⟩
      go_wp2_with fail
      go_ret
      exact ⟨rfl, bel0 (bel0 hB0 hBw) hb9⟩
end Go.Proofs.YtepokgainceidaaGreatDoor

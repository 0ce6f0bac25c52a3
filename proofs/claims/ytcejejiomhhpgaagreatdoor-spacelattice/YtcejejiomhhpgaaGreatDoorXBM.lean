import Derived.Test.YtcejejiomhhpgaaGreatDoorXBL
namespace Go.Proofs.YtcejejiomhhpgaaGreatDoor
open Go.RowKit Go.Shelf
/-- an operation that ends the region leaves nothing to walk -/
theorem dummyQ {X : Prop} {P : Program} {md : Region.Mode} {a : Act} {w : World} (hx : X) (_ : wpAny P md #[] (fun _ _ _ => True) 0 #[] a w) : X := hx
set_option maxRecDepth 100000 in
set_option maxHeartbeats 4000000 in
theorem join1_ok (b b2 : Int) (A C : List (List UInt8 × List (List UInt8))) (B1 B2 : Nat) (p1 p2 : Option Addr) (n1 n2 k1 k2 c1 c2 : Nat) (w : World) (h1 : SPL w B1 (.slice p1 n1 k1) A) (h2 : SPL w B2 (.slice p2 n2 k2) C) (d1 : w.heap[c1]? = some (.cells #[.int .i64 b, .slice p1 n1 k1, .bool false] 26 (0, 0))) (d2 : w.heap[c2]? = some (.cells #[.int .i64 b2, .slice p2 n2 k2, .bool false] 26 (0, 0))) (hs1 : szC A ≤ 128) (hs2 : szC C ≤ 128) (hg1 : gdC A) (hg2 : gdC C) (hle : szC (topC (A ++ C)) ≤ 128) :
    Calls Tryz.prog 32 #[.pointer (some ⟨c1, 0, none⟩), .pointer (some ⟨c2, 0, none⟩)] w fun e w' => Below w.heap.size w w' ∧ ∃ V, e = .returned (.agg #[.int .i64 b, V, .bool false]) ∧ SPL w' w.heap.size V (ordT (topC (A ++ C))) := by
  obtain ⟨Z1, rfl, r1, l1⟩ := h1
  obtain ⟨Z2, rfl, r2, l2⟩ := h2
  have hsz := szC_topF (Z1.map ZT.cont ++ Z2.map ZT.cont) []
  have hs0 := szC_append (Z1.map ZT.cont) (Z2.map ZT.cont)
  have hq1 := szC_len (Z1.map ZT.cont)
  have hq2 := szC_len (Z2.map ZT.cont)
  rw [List.length_map] at hq1 hq2
  have hn1 : Z1.length = n1 := by
    rcases own_shapeQ r1 with ⟨e1, e2⟩ | ⟨g, c, e1, -⟩
    · injection e1 with _ e3 _; omega
    · injection e1 with _ e3 _; omega
  have hn2 : Z2.length = n2 := by
    rcases own_shapeQ r2 with ⟨e1, e2⟩ | ⟨g, c, e1, -⟩
    · injection e1 with _ e3 _; omega
    · injection e1 with _ e3 _; omega
  rw [hn1] at r1 hq1
  rw [hn2] at r2 hq2
  obtain ⟨ZZ, hZZ⟩ : ∃ Z, Z1 ++ Z2 = Z := ⟨_, rfl⟩
  have hcc : ZZ.map ZT.cont = Z1.map ZT.cont ++ Z2.map ZT.cont := by rw [← hZZ, List.map_append]
  have hln : ZZ.length = n1 + n2 := by rw [← hZZ, List.length_append, hn1, hn2]
  have hZO : ∀ W, Below w.heap.size w W → ∀ z ∈ ZZ, ZOK W z := fun W hW z hz => by
    rw [← hZZ] at hz
    rcases List.mem_append.1 hz with hz | hz
    · have hm := szC_mem z.cont (List.mem_map_of_mem (f := ZT.cont) hz)
      have e : z.cont.2 = z.L := rfl
      rw [e] at hm
      exact ⟨IRK_own (own_belQ (l1 z hz) hW) rfl, by omega, hg1 z.cont (List.mem_map_of_mem (f := ZT.cont) hz)⟩
    · have hm := szC_mem z.cont (List.mem_map_of_mem (f := ZT.cont) hz)
      have e : z.cont.2 = z.L := rfl
      rw [e] at hm
      exact ⟨IRK_own (own_belQ (l2 z hz) hW) rfl, by omega, hg2 z.cont (List.mem_map_of_mem (f := ZT.cont) hz)⟩
  have hT1 := topC_map ZZ
  have hT2 := szC_map (topZL ZZ)
  rw [hT1, hcc] at hT2
  rw [hcc] at hT1
  have hT3 := topZL_len ZZ
  obtain ⟨TZ, hTZ⟩ : ∃ T, topZL ZZ = T := ⟨_, rfl⟩
  have hszt : szZ TZ ≤ 256 := by
    rw [← hTZ, hT2]
    have e : szC (topC (Z1.map ZT.cont ++ Z2.map ZT.cont)) ≤ szC [] + szC (Z1.map ZT.cont ++ Z2.map ZT.cont) := hsz
    have e0 : szC ([] : List (List UInt8 × List (List UInt8))) = 0 := rfl
    omega
  obtain ⟨w2, hw2⟩ : ∃ w2, w.alloc (.cells #[.int .i64 0, .slice none 0 0, .bool false] 26 (0, 0)) = w2 := ⟨_, rfl⟩
  have hA : w2.heap[w.heap.size]? = some (.cells #[.int .i64 0, .slice none 0 0, .bool false] 26 (0, 0)) := by rw [← hw2]; exact alloc_get _ _
  have hB2 : Below w.heap.size w w2 := by rw [← hw2]; exact belA (Below.refl _ _) _
  have HA : Hid (w2.heap[w.heap.size]? = some (.cells #[.int .i64 0, .slice none 0 0, .bool false] 26 (0, 0)) ∧ Below w.heap.size w w2 ∧ w.heap.size < w2.heap.size ∧ c1 ≠ w.heap.size ∧ c2 ≠ w.heap.size) := ⟨hA, hB2, lt_of_get3 hA, Nat.ne_of_lt (lt_of_get3 d1), Nat.ne_of_lt (lt_of_get3 d2)⟩
  have HK : Hid (∀ W, Below w2.heap.size w2 W → (∀ j, W.cell? ⟨c1, j, none⟩ = (#[.int .i64 b, .slice p1 n1 k1, .bool false] : Array Value)[j]?) ∧ (∀ j, W.cell? ⟨c2, j, none⟩ = (#[.int .i64 b2, .slice p2 n2 k2, .bool false] : Array Value)[j]?)) := fun W hW => ⟨(cells_block (keepblk3 (bel0 hB2 hW) d1)).1, (cells_block (keepblk3 (bel0 hB2 hW) d2)).1⟩
  have HCC : Hid (∀ (W : World) (g : Nat), Below w2.heap.size w2 W → W.heap[g]? = some (.cells #[.slice p1 n1 k1, .slice p2 n2 k2] 24 (0, 0)) → Calls Tryz.prog 35 #[.slice (some ⟨g, 0, none⟩) 2 2] W fun e w' => ∃ v, e = .returned v ∧ w'.ownsRow W.heap.size 59 10 v (n1 + n2) (tes ZZ) ∧ Below W.heap.size W w') := fun W g hW hg => by
    have h := concat_any Z1 Z2 n1 n2 g B1 B2 (.slice p1 n1 k1) (.slice p2 n2 k2) W hn1 hn2 (by omega) (by omega) hg (own_belQ r1 (bel0 hB2 hW)) (own_belQ r2 (bel0 hB2 hW))
    rw [hZZ] at h
    exact h
  have HTP : Hid (∀ (W : World) (p : Option Addr) (c B : Nat), Below w2.heap.size w2 W → W.ownsRow B 59 10 (.slice p (n1 + n2) c) (n1 + n2) (tes ZZ) → Calls Tryz.prog 34 #[.slice p (n1 + n2) c] W fun e w' => ∃ v, e = .returned v ∧ w'.ownsRow W.heap.size 59 10 v TZ.length (tes TZ) ∧ Below W.heap.size W w') := fun W p c B hW ho => by
    have h := topmost_any ZZ (n1 + n2) p c W hln (by omega) (IRZ_own ho hln) (hZO W (bel0 hB2 hW)) (by rw [hTZ]; omega)
    rw [hT2] at h
    refine h.mono ?_
    rintro e w' ⟨hb, ⟨hle', v, rfl, ov⟩ | ⟨hgt', rfl⟩⟩
    · rw [hTZ] at ov
      exact ⟨v, rfl, ov, hb⟩
    · omega
  have HIO : Hid (∀ (W : World) (p : Option Addr) (c B : Nat), Below w2.heap.size w2 W → W.ownsRow B 59 10 (.slice p TZ.length c) TZ.length (tes TZ) → Calls Tryz.prog 33 #[.int .i64 b, .slice p TZ.length c] W fun e w' => ∃ V, e = .returned (.agg #[.int .i64 b, V, .bool false]) ∧ SPL w' W.heap.size V (ordT (topC (Z1.map ZT.cont ++ Z2.map ZT.cont))) ∧ Below W.heap.size W w') := fun W p c B hW ho => by
    have h := inOrder_any b TZ TZ.length p c W rfl (by rw [← hTZ]; omega) (IRZ_own ho rfl) (fun z hz => hZO W (bel0 hB2 hW) z (topZL_mem (by rw [hTZ]; exact hz)))
    rw [← hTZ, hT1] at h
    rw [← hTZ]
    exact h
  obtain ⟨XX, hXX⟩ : ∃ X, ordT (topC (Z1.map ZT.cont ++ Z2.map ZT.cont)) = X := ⟨_, rfl⟩
  rw [hXX] at HIO ⊢
  obtain ⟨m8, hm8⟩ : ∃ m, XX.length = m := ⟨_, rfl⟩
  have hfl := fld1
  have hk0 := HK.out w2 (Below.refl _ _)
  have hk0d : (∀ j, w2.drew.cell? ⟨c1, j, none⟩ = (#[.int .i64 b, .slice p1 n1 k1, .bool false] : Array Value)[j]?) ∧ (∀ j, w2.drew.cell? ⟨c2, j, none⟩ = (#[.int .i64 b2, .slice p2 n2 k2, .bool false] : Array Value)[j]?) := hk0
  clear hA hB2 d1 d2 r1 r2 l1 l2 hsz hs0 hq1 hq2 hn1 hn2 hcc hln hZO hT1 hT2 hT3 hTZ hszt hs1 hs2 hg1 hg2 hZZ hle hXX
  go_enter Tryz.func32, Tryz.ntmps32
  go_upto_region 1 with fail
  clear hw2
  go_region_held3 (fun W => (∀ j, W.cell? ⟨c1, j, none⟩ = (#[.int .i64 b, .slice p1 n1 k1, .bool false] : Array Value)[j]?) ∧ (∀ j, W.cell? ⟨c2, j, none⟩ = (#[.int .i64 b2, .slice p2 n2 k2, .bool false] : Array Value)[j]?)) (first | with_reducible exact hk0 | with_reducible exact hk0d | with_reducible exact hk5 | with_reducible exact hk6 | with_reducible exact HK.out _ (belA hb6' _) | with_reducible exact hk8 | with_reducible exact hk9 | with_reducible exact hk10 | with_reducible exact hk11) (first | (go_at_call 24; have chk := hb5'; refine (inForm_any _ _ _ _ _).mono ?_; rintro e w6 ⟨rfl, hb6⟩; have hb6' : Below w2.heap.size w2 w6 := bel0 hb5' hb6; have hk6 := HK.out w6 hb6') | (go_at_call 24; refine (inForm_any _ _ _ _ _).mono ?_; rintro e w5 ⟨rfl, hb5⟩; have hb5' : Below w2.heap.size w2 w5 := (by first | exact hb5 | exact und hb5); have hk5 := HK.out w5 hb5') | (go_at_call 35; refine (HCC.out _ _ (belA hb6' _) (alloc_get _ _)).mono ?_; rintro e w8 ⟨v8, rfl, o8, hb8⟩; obtain ⟨pv, cv, rfl⟩ := shapeQ1 o8; have hb8' : Below w2.heap.size w2 w8 := bel0 (belA hb6' _) hb8; have hk8 := HK.out w8 hb8') | (go_at_call 34; refine (HTP.out _ _ _ _ hb8' o8).mono ?_; rintro e w9 ⟨v9, rfl, o9, hb9⟩; obtain ⟨pw, cw, rfl⟩ := shapeQ1 o9; have hb9' : Below w2.heap.size w2 w9 := bel0 hb8' hb9; have hk9 := HK.out w9 hb9') | (go_at_call 33; refine (HIO.out _ _ _ _ hb9' o9).mono ?_; rintro e w10 ⟨V10, rfl, s10, hb10⟩; obtain ⟨p8, c8, rfl⟩ := s10.shape; rw [hm8] at s10; have hb10' : Below w2.heap.size w2 w10 := bel0 hb9' hb10; have hk10 := HK.out w10 hb10'; have hg10 := keepblk3 hb10' HA.out.1; obtain ⟨hcR, hfR⟩ := cells_block hg10; have hk11 : (∀ j, (((w10.setCell ⟨w.heap.size, 0, none⟩ (.int .i64 b)).setCell ⟨w.heap.size, 1, none⟩ (.slice p8 m8 c8)).setCell ⟨w.heap.size, 2, none⟩ (.bool false)).cell? ⟨c1, j, none⟩ = (#[.int .i64 b, .slice p1 n1 k1, .bool false] : Array Value)[j]?) ∧ (∀ j, (((w10.setCell ⟨w.heap.size, 0, none⟩ (.int .i64 b)).setCell ⟨w.heap.size, 1, none⟩ (.slice p8 m8 c8)).setCell ⟨w.heap.size, 2, none⟩ (.bool false)).cell? ⟨c2, j, none⟩ = (#[.int .i64 b2, .slice p2 n2 k2, .bool false] : Array Value)[j]?) := ⟨far3c _ _ _ HA.out.2.2.2.1 hk10.1, far3c _ _ _ HA.out.2.2.2.2 hk10.2⟩))
  have hlt : w.heap.size < w9.heap.size := Nat.lt_of_lt_of_le HA.out.2.2.1 hb9'.size
  have HP : Hid (Below w.heap.size w (((w10.setCell ⟨w.heap.size, 0, none⟩ (.int .i64 b)).setCell ⟨w.heap.size, 1, none⟩ (.slice p8 m8 c8)).setCell ⟨w.heap.size, 2, none⟩ (.bool false)) ∧ (((w10.setCell ⟨w.heap.size, 0, none⟩ (.int .i64 b)).setCell ⟨w.heap.size, 1, none⟩ (.slice p8 m8 c8)).setCell ⟨w.heap.size, 2, none⟩ (.bool false)).heap[w.heap.size]? = some (.cells #[.int .i64 b, .slice p8 m8 c8, .bool false] 26 (0, 0)) ∧ SPL (((w10.setCell ⟨w.heap.size, 0, none⟩ (.int .i64 b)).setCell ⟨w.heap.size, 1, none⟩ (.slice p8 m8 c8)).setCell ⟨w.heap.size, 2, none⟩ (.bool false)) w.heap.size (.slice p8 m8 c8) XX) := ⟨(((bel0 HA.out.2.1 hb10').setCell (Nat.le_refl _) _).setCell (Nat.le_refl _) _).setCell (Nat.le_refl _) _, put3_get _ _ _ hg10, (s10.kept (gr3 _ _ _ _ _) hlt).base (Nat.le_of_lt hlt)⟩
  clear hk0 hk0d hk5 hk6 hk8 hk9 hk10 hk11 hcR hfR hg10 s10 o8 o9
  go_wp2_with fail
  refine bodyPost_ret (v := .agg #[.int .i64 b, .slice p8 m8 c8, .bool false]) (res_space _ _ w.heap.size _ _ _ Tryz.results32 rfl HP.out.2.1) rfl ?_
  exact ⟨HP.out.1, _, rfl, HP.out.2.2⟩
set_option maxRecDepth 100000 in
set_option maxHeartbeats 4000000 in
theorem join1_over (b b2 : Int) (A C : List (List UInt8 × List (List UInt8))) (B1 B2 : Nat) (p1 p2 : Option Addr) (n1 n2 k1 k2 c1 c2 : Nat) (w : World) (h1 : SPL w B1 (.slice p1 n1 k1) A) (h2 : SPL w B2 (.slice p2 n2 k2) C) (d1 : w.heap[c1]? = some (.cells #[.int .i64 b, .slice p1 n1 k1, .bool false] 26 (0, 0))) (d2 : w.heap[c2]? = some (.cells #[.int .i64 b2, .slice p2 n2 k2, .bool false] 26 (0, 0))) (hs1 : szC A ≤ 128) (hs2 : szC C ≤ 128) (hg1 : gdC A) (hg2 : gdC C) (hgt : 128 < szC (topC (A ++ C))) :
    Calls Tryz.prog 32 #[.pointer (some ⟨c1, 0, none⟩), .pointer (some ⟨c2, 0, none⟩)] w fun e w' => Below w.heap.size w w' ∧ e = .panicked [{ v := .iface 81 (.agg #[]), recovered := false }] := by
  obtain ⟨Z1, rfl, r1, l1⟩ := h1
  obtain ⟨Z2, rfl, r2, l2⟩ := h2
  have hsz := szC_topF (Z1.map ZT.cont ++ Z2.map ZT.cont) []
  have hs0 := szC_append (Z1.map ZT.cont) (Z2.map ZT.cont)
  have hq1 := szC_len (Z1.map ZT.cont)
  have hq2 := szC_len (Z2.map ZT.cont)
  rw [List.length_map] at hq1 hq2
  have hn1 : Z1.length = n1 := by
    rcases own_shapeQ r1 with ⟨e1, e2⟩ | ⟨g, c, e1, -⟩
    · injection e1 with _ e3 _; omega
    · injection e1 with _ e3 _; omega
  have hn2 : Z2.length = n2 := by
    rcases own_shapeQ r2 with ⟨e1, e2⟩ | ⟨g, c, e1, -⟩
    · injection e1 with _ e3 _; omega
    · injection e1 with _ e3 _; omega
  rw [hn1] at r1 hq1
  rw [hn2] at r2 hq2
  obtain ⟨ZZ, hZZ⟩ : ∃ Z, Z1 ++ Z2 = Z := ⟨_, rfl⟩
  have hcc : ZZ.map ZT.cont = Z1.map ZT.cont ++ Z2.map ZT.cont := by rw [← hZZ, List.map_append]
  have hln : ZZ.length = n1 + n2 := by rw [← hZZ, List.length_append, hn1, hn2]
  have hZO : ∀ W, Below w.heap.size w W → ∀ z ∈ ZZ, ZOK W z := fun W hW z hz => by
    rw [← hZZ] at hz
    rcases List.mem_append.1 hz with hz | hz
    · have hm := szC_mem z.cont (List.mem_map_of_mem (f := ZT.cont) hz)
      have e : z.cont.2 = z.L := rfl
      rw [e] at hm
      exact ⟨IRK_own (own_belQ (l1 z hz) hW) rfl, by omega, hg1 z.cont (List.mem_map_of_mem (f := ZT.cont) hz)⟩
    · have hm := szC_mem z.cont (List.mem_map_of_mem (f := ZT.cont) hz)
      have e : z.cont.2 = z.L := rfl
      rw [e] at hm
      exact ⟨IRK_own (own_belQ (l2 z hz) hW) rfl, by omega, hg2 z.cont (List.mem_map_of_mem (f := ZT.cont) hz)⟩
  have hT1 := topC_map ZZ
  have hT2 := szC_map (topZL ZZ)
  rw [hT1, hcc] at hT2
  rw [hcc] at hT1
  have hT3 := topZL_len ZZ
  obtain ⟨TZ, hTZ⟩ : ∃ T, topZL ZZ = T := ⟨_, rfl⟩
  have hszt : szZ TZ ≤ 256 := by
    rw [← hTZ, hT2]
    have e : szC (topC (Z1.map ZT.cont ++ Z2.map ZT.cont)) ≤ szC [] + szC (Z1.map ZT.cont ++ Z2.map ZT.cont) := hsz
    have e0 : szC ([] : List (List UInt8 × List (List UInt8))) = 0 := rfl
    omega
  obtain ⟨w2, hw2⟩ : ∃ w2, w.alloc (.cells #[.int .i64 0, .slice none 0 0, .bool false] 26 (0, 0)) = w2 := ⟨_, rfl⟩
  have hA : w2.heap[w.heap.size]? = some (.cells #[.int .i64 0, .slice none 0 0, .bool false] 26 (0, 0)) := by rw [← hw2]; exact alloc_get _ _
  have hB2 : Below w.heap.size w w2 := by rw [← hw2]; exact belA (Below.refl _ _) _
  have HA : Hid (w2.heap[w.heap.size]? = some (.cells #[.int .i64 0, .slice none 0 0, .bool false] 26 (0, 0)) ∧ Below w.heap.size w w2 ∧ w.heap.size < w2.heap.size ∧ c1 ≠ w.heap.size ∧ c2 ≠ w.heap.size) := ⟨hA, hB2, lt_of_get3 hA, Nat.ne_of_lt (lt_of_get3 d1), Nat.ne_of_lt (lt_of_get3 d2)⟩
  have HK : Hid (∀ W, Below w2.heap.size w2 W → (∀ j, W.cell? ⟨c1, j, none⟩ = (#[.int .i64 b, .slice p1 n1 k1, .bool false] : Array Value)[j]?) ∧ (∀ j, W.cell? ⟨c2, j, none⟩ = (#[.int .i64 b2, .slice p2 n2 k2, .bool false] : Array Value)[j]?)) := fun W hW => ⟨(cells_block (keepblk3 (bel0 hB2 hW) d1)).1, (cells_block (keepblk3 (bel0 hB2 hW) d2)).1⟩
  have HCC : Hid (∀ (W : World) (g : Nat), Below w2.heap.size w2 W → W.heap[g]? = some (.cells #[.slice p1 n1 k1, .slice p2 n2 k2] 24 (0, 0)) → Calls Tryz.prog 35 #[.slice (some ⟨g, 0, none⟩) 2 2] W fun e w' => ∃ v, e = .returned v ∧ w'.ownsRow W.heap.size 59 10 v (n1 + n2) (tes ZZ) ∧ Below W.heap.size W w') := fun W g hW hg => by
    have h := concat_any Z1 Z2 n1 n2 g B1 B2 (.slice p1 n1 k1) (.slice p2 n2 k2) W hn1 hn2 (by omega) (by omega) hg (own_belQ r1 (bel0 hB2 hW)) (own_belQ r2 (bel0 hB2 hW))
    rw [hZZ] at h
    exact h
  have HTP : Hid (∀ (W : World) (p : Option Addr) (c B : Nat), Below w2.heap.size w2 W → W.ownsRow B 59 10 (.slice p (n1 + n2) c) (n1 + n2) (tes ZZ) → Calls Tryz.prog 34 #[.slice p (n1 + n2) c] W fun e w' => e = .panicked [{ v := .iface 81 (.agg #[]), recovered := false }] ∧ Below W.heap.size W w') := fun W p c B hW ho => by
    have h := topmost_any ZZ (n1 + n2) p c W hln (by omega) (IRZ_own ho hln) (hZO W (bel0 hB2 hW)) (by rw [hTZ]; omega)
    rw [hT2] at h
    refine h.mono ?_
    rintro e w' ⟨hb, ⟨hle', v, rfl, ov⟩ | ⟨hgt', rfl⟩⟩
    · omega
    · exact ⟨rfl, hb⟩
  have hfl := fld1
  have hk0 := HK.out w2 (Below.refl _ _)
  have hk0d : (∀ j, w2.drew.cell? ⟨c1, j, none⟩ = (#[.int .i64 b, .slice p1 n1 k1, .bool false] : Array Value)[j]?) ∧ (∀ j, w2.drew.cell? ⟨c2, j, none⟩ = (#[.int .i64 b2, .slice p2 n2 k2, .bool false] : Array Value)[j]?) := hk0
  clear hA hB2 d1 d2 r1 r2 l1 l2 hsz hs0 hq1 hq2 hn1 hn2 hcc hln hZO hT1 hT2 hT3 hTZ hszt hs1 hs2 hg1 hg2 hZZ hgt
  go_enter Tryz.func32, Tryz.ntmps32
  go_upto_region 1 with fail
  clear hw2
  refine wp_region_held_drew (S := fun W => (∀ j, W.cell? ⟨c1, j, none⟩ = (#[.int .i64 b, .slice p1 n1 k1, .bool false] : Array Value)[j]?) ∧ (∀ j, W.cell? ⟨c2, j, none⟩ = (#[.int .i64 b2, .slice p2 n2 k2, .bool false] : Array Value)[j]?)) (by kernel_rfl) hk0d (fun _ => ?_)
  refine wpAnyH_take (i := 0) (v := .pointer (some ⟨c1, 0, none⟩)) rfl (by kernel_rfl) (by kernel_rfl) (by kernel_rfl) (fun _ _ _ h => h) (Or.inl ⟨by rfl, ?_⟩) hk0d ?_
  · rintro w ⟨s1, s2⟩; go_simp
  refine wpAnyH_take (i := 1) (v := .int .i64 b) rfl (by kernel_rfl) (by kernel_rfl) (by kernel_rfl) (fun _ _ _ h => h) (Or.inl ⟨by rfl, ?_⟩) hk0d ?_
  · rintro w ⟨s1, s2⟩; go_simp
  refine wpAnyH_take (i := 2) (v := .agg #[.int .i64 b, .slice p1 n1 k1, .bool false]) rfl (by kernel_rfl) (by kernel_rfl) (by kernel_rfl) (fun _ _ _ h => h) (Or.inl ⟨by rfl, ?_⟩) hk0d ?_
  · rintro w ⟨s1, s2⟩; go_simp
  refine wpAnyH_take (i := 5) (v := .agg #[.int .i64 b2, .slice p2 n2 k2, .bool false]) rfl (by kernel_rfl) (by kernel_rfl) (by kernel_rfl) (fun _ _ _ h => h) (Or.inl ⟨by rfl, ?_⟩) hk0d ?_
  · rintro w ⟨s1, s2⟩; go_simp
  refine wpAnyH_ready (rs := [3]) (by kernel_rfl) (by simp) ?_
  refine AllReadyH.cons rfl (fun K hK => ?_) AllReadyH.nil
  go_simp
  refine (inForm_any _ _ _ _ _).mono ?_
  rintro e w5 ⟨rfl, hb5⟩
  have hb5' : Below w2.heap.size w2 w5 := und hb5
  have hk5 := HK.out w5 hb5'
  go_simp
  refine hK.out _ _ hk5 (fun _ => ?_)
  clear hK K
  refine wpAnyH_take (i := 4) (v := .slice p1 n1 k1) rfl (by kernel_rfl) (by kernel_rfl) (by kernel_rfl) (fun _ _ _ h => h) (Or.inl ⟨by rfl, ?_⟩) hk5 ?_
  · rintro w ⟨s1, s2⟩; go_simp
  refine wpAnyH_ready (rs := [6]) (by kernel_rfl) (by simp) ?_
  refine AllReadyH.cons rfl (fun K hK => ?_) AllReadyH.nil
  go_simp
  refine (inForm_any _ _ _ _ _).mono ?_
  rintro e w6 ⟨rfl, hb6⟩
  have hb6' : Below w2.heap.size w2 w6 := bel0 hb5' hb6
  have hk6 := HK.out w6 hb6'
  go_simp
  refine hK.out _ _ hk6 (fun _ => ?_)
  clear hK K
  refine wpAnyH_take (i := 7) (v := .slice p2 n2 k2) rfl (by kernel_rfl) (by kernel_rfl) (by kernel_rfl) (fun _ _ _ h => h) (Or.inl ⟨by rfl, ?_⟩) hk6 ?_
  · rintro w ⟨s1, s2⟩; go_simp
  refine wpAnyH_ready (rs := [8]) (by kernel_rfl) (by simp) ?_
  refine AllReadyH.cons rfl (fun K hK => ?_) AllReadyH.nil
  go_simp
  refine hK.out _ _ (HK.out _ (belA hb6' _)) (fun _ => ?_)
  clear hK K
  refine wpAnyH_ready (rs := [9]) (by kernel_rfl) (by simp) ?_
  refine AllReadyH.cons rfl (fun K hK => ?_) AllReadyH.nil
  go_simp
  refine (HCC.out _ _ (belA hb6' _) (alloc_get _ _)).mono ?_
  rintro e w8 ⟨v8, rfl, o8, hb8⟩
  obtain ⟨pv, cv, rfl⟩ := shapeQ1 o8
  have hb8' : Below w2.heap.size w2 w8 := bel0 (belA hb6' _) hb8
  have hk8 := HK.out w8 hb8'
  go_simp
  refine hK.out _ _ hk8 (fun _ => ?_)
  clear hK K
  refine wpAnyH_ready (rs := [10]) (by kernel_rfl) (by simp) ?_
  refine AllReadyH.cons rfl (fun K hK => ?_) AllReadyH.nil
  go_simp
  refine (HTP.out _ _ _ _ hb8' o8).mono ?_
  rintro e w9 ⟨rfl, hb9⟩
  have hb9' : Below w2.heap.size w2 w9 := bel0 hb8' hb9
  exact ⟨rfl, bel0 HA.out.2.1 hb9', rfl⟩
end Go.Proofs.YtcejejiomhhpgaaGreatDoor
namespace Go.Proofs.YtcejejiomhhpgaaGreatDoor
open Go.RowKit Go.Shelf
theorem res_sp2 {fn : Func} (tmps : Array Value) (W : World) (b : Nat) (v0 v1 v2 x : Value) {m : Nat × Nat} (hr : fn.results = #[.cell 4 26, .tmp 5]) (hp : tmps.getD 4 undef = .pointer (some ⟨b, 0, none⟩)) (hx : tmps.getD 5 undef = x) (h : W.heap[b]? = some (.cells #[v0, v1, v2] 26 m)) :
    (results fn tmps).run Tryz.prog W = .ok (.tuple #[.agg #[v0, v1, v2], x]) W := by
  have hc : ∀ j, W.cell? ⟨b, j, none⟩ = (#[v0, v1, v2] : Array Value)[j]? := by
    intro j; unfold World.cell?; rw [h]; simp
  have hp' : tmps[4]?.getD undef = .pointer (some ⟨b, 0, none⟩) := by simpa using hp
  have hx' : tmps[5]?.getD undef = x := by simpa using hx
  simp [results, hr, hp', hx', go_sem, hc]
theorem fits_any2 (b x : Int) (p : Option Addr) (n c : Nat) (w : World) : Calls Tryz.prog 30 #[.agg #[.int .i64 b, .slice p n c, .bool false], .int .i64 x] w fun e w' => e = .returned (.bool (!(b == 0) && (b == x))) ∧ Below w.heap.size w w' := by
  obtain ⟨w2, hw2⟩ : ∃ w2, w.alloc (.cells #[.int .i64 b, .slice p n c, .bool false] 26 (0, 0)) = w2 := ⟨_, rfl⟩
  have h0 : w2.heap[w.heap.size]? = some (.cells #[.int .i64 b, .slice p n c, .bool false] 26 (0, 0)) := by rw [← hw2]; exact alloc_get _ _
  have hB : Below w.heap.size w w2 := by rw [← hw2]; exact belA (Below.refl _ _) _
  obtain ⟨hc0, -⟩ := cells_block h0
  have HB : Hid (Below w.heap.size w w2) := hB
  clear h0 hB
  by_cases hz : b = 0
  · have m1 : (b != 0) = false := by simpa using hz
    have m2 : (b == 0) = true := by simpa using hz
    have HR : Hid ((!(b == 0) && (b == x)) = false) := by unfold Hid; rw [m2]; rfl
    clear hz m2
    go_enter Tryz.func30, Tryz.ntmps30
    go_wp2_with fail
    go_ret
    exact ⟨by rw [HR.out]; rfl, HB.out⟩
  · have m1 : (b != 0) = true := by simpa using hz
    have m2 : (b == 0) = false := by simpa using hz
    obtain ⟨q, hq⟩ : ∃ q, (b == x) = q := ⟨_, rfl⟩
    have HR : Hid ((!(b == 0) && (b == x)) = q) := by unfold Hid; rw [m2, hq]; rfl
    clear hz m2
    go_enter Tryz.func30, Tryz.ntmps30
    go_wp2_with fail
    go_ret
    exact ⟨by rw [HR.out]; rfl, HB.out⟩
def jnE (b b2 : Int) (A C : List (List UInt8 × List (List UInt8))) : Int := if (!(b == 0) && (b == b2)) = false then 11 else if szC (topC (A ++ C)) ≤ 128 then 0 else 3
def jnB (b b2 : Int) (A C : List (List UInt8 × List (List UInt8))) : Int := if jnE b b2 A C = 0 then b else 0
def jnT (b b2 : Int) (A C : List (List UInt8 × List (List UInt8))) : List (List UInt8 × List (List UInt8)) := if jnE b b2 A C = 0 then ordT (topC (A ++ C)) else []
set_option maxRecDepth 100000 in
set_option maxHeartbeats 4000000 in
theorem sJoin_any (b b2 : Int) (A C : List (List UInt8 × List (List UInt8))) (B1 B2 : Nat) (V1 V2 : Value) (w : World) (h1 : SPL w B1 V1 A) (h2 : SPL w B2 V2 C) (hs1 : szC A ≤ 128) (hs2 : szC C ≤ 128) (hg1 : gdC A) (hg2 : gdC C) :
    Calls Tryz.prog 15 #[.agg #[.int .i64 b, V1, .bool false], .agg #[.int .i64 b2, V2, .bool false]] w fun e w' => ∃ V, e = .returned (.tuple #[.agg #[.int .i64 (jnB b b2 A C), V, .bool false], .int .i64 (jnE b b2 A C)]) ∧ SPL w' w.heap.size V (jnT b b2 A C) ∧ Below w.heap.size w w' := by
  obtain ⟨p1, k1, rfl⟩ := h1.shape
  obtain ⟨p2, k2, rfl⟩ := h2.shape
  obtain ⟨n1, hn1⟩ : ∃ n, A.length = n := ⟨_, rfl⟩
  obtain ⟨n2, hn2⟩ : ∃ n, C.length = n := ⟨_, rfl⟩
  rw [hn1] at h1 ⊢
  rw [hn2] at h2 ⊢
  obtain ⟨wA, hwA⟩ : ∃ wA, (((w.alloc (.cells #[.int .i64 b, .slice p1 n1 k1, .bool false] 26 (0, 0))).alloc (.cells #[.int .i64 b2, .slice p2 n2 k2, .bool false] 26 (0, 0))).alloc (.cells #[.int .i64 0, .slice none 0 0, .bool false] 26 (0, 0))) = wA := ⟨_, rfl⟩
  have hBA : Below w.heap.size w wA := by rw [← hwA]; exact belA (belA (belA (Below.refl _ _) _) _) _
  have d1 : wA.heap[w.heap.size]? = some (.cells #[.int .i64 b, .slice p1 n1 k1, .bool false] 26 (0, 0)) := by rw [← hwA, Below.heap_alloc _ _ _ (by simp <;> omega)]; exact alw_0 _ _ _
  have d2 : wA.heap[w.heap.size + 1]? = some (.cells #[.int .i64 b2, .slice p2 n2 k2, .bool false] 26 (0, 0)) := by rw [← hwA, Below.heap_alloc _ _ _ (by simp <;> omega)]; exact alw_1 _ _ _
  have d3 : wA.heap[w.heap.size + 1 + 1]? = some (.cells #[.int .i64 0, .slice none 0 0, .bool false] 26 (0, 0)) := by rw [← hwA]; have := alloc_get ((w.alloc (.cells #[.int .i64 b, .slice p1 n1 k1, .bool false] 26 (0, 0))).alloc (.cells #[.int .i64 b2, .slice p2 n2 k2, .bool false] 26 (0, 0))) (.cells #[.int .i64 0, .slice none 0 0, .bool false] 26 (0, 0)); simpa using this
  have HD : Hid (∀ W, Below wA.heap.size wA W → W.heap[w.heap.size]? = some (.cells #[.int .i64 b, .slice p1 n1 k1, .bool false] 26 (0, 0)) ∧ W.heap[w.heap.size + 1]? = some (.cells #[.int .i64 b2, .slice p2 n2 k2, .bool false] 26 (0, 0)) ∧ W.heap[w.heap.size + 1 + 1]? = some (.cells #[.int .i64 0, .slice none 0 0, .bool false] 26 (0, 0)) ∧ SPL W B1 (.slice p1 n1 k1) A ∧ SPL W B2 (.slice p2 n2 k2) C ∧ Below w.heap.size w W) := fun W hW => ⟨keepblk3 hW d1, keepblk3 hW d2, keepblk3 hW d3, h1.below (bel0 hBA hW), h2.below (bel0 hBA hW), bel0 hBA hW⟩
  have HLT : Hid (w.heap.size + 1 + 1 < wA.heap.size) := lt_of_get3 d3
  have hmf : ∀ (fn : Fn) (first cap : Array Value) (w : World), (Instr.makeFunc fn first cap).run Tryz.prog w = .ok (.func fn first cap) w := fun _ _ _ _ => rfl
  obtain ⟨hc1, -⟩ := cells_block d1
  obtain ⟨hc2, -⟩ := cells_block d2
  have HS : Hid (szC A ≤ 128 ∧ szC C ≤ 128 ∧ gdC A ∧ gdC C) := ⟨hs1, hs2, hg1, hg2⟩
  clear hBA d1 d2 d3 h1 h2 hs1 hs2 hg1 hg2 hn1 hn2
  cases hf : (!(b == 0) && (b == b2)) with
  | false =>
    have e1 : jnE b b2 A C = 11 := by unfold jnE; rw [if_pos hf]
    have e2 : jnB b b2 A C = 0 := by unfold jnB; rw [e1]; rfl
    have e3 : jnT b b2 A C = [] := by unfold jnT; rw [e1]; rfl
    rw [e1, e2, e3]
    have HF : Hid (Calls Tryz.prog 30 #[.agg #[.int .i64 b, .slice p1 n1 k1, .bool false], .int .i64 b2] wA fun e w' => e = .returned (.bool false) ∧ Below wA.heap.size wA w') := by
      have h := fits_any2 b b2 p1 n1 k1 wA
      rw [hf] at h
      exact h
    clear e1 e2 e3 hf
    go_enter Tryz.func15, Tryz.ntmps15
    go_wp2_with fail
    refine HF.out.mono ?_
    rintro e W1 ⟨rfl, hb1⟩
    obtain ⟨-, -, k3, -, -, hB1⟩ := HD.out W1 hb1
    obtain ⟨hc3, hf3⟩ := cells_block k3
    have HP : Hid ((((W1.setCell ⟨w.heap.size + 1 + 1, 0, none⟩ (.int .i64 0)).setCell ⟨w.heap.size + 1 + 1, 1, none⟩ (.slice none 0 0)).setCell ⟨w.heap.size + 1 + 1, 2, none⟩ (.bool false)).heap[w.heap.size + 1 + 1]? = some (.cells #[.int .i64 0, .slice none 0 0, .bool false] 26 (0, 0)) ∧ Below w.heap.size w (((W1.setCell ⟨w.heap.size + 1 + 1, 0, none⟩ (.int .i64 0)).setCell ⟨w.heap.size + 1 + 1, 1, none⟩ (.slice none 0 0)).setCell ⟨w.heap.size + 1 + 1, 2, none⟩ (.bool false))) := ⟨put3_get _ _ _ k3, ((hB1.setCell (by simp; omega) _).setCell (by simp; omega) _).setCell (by simp; omega) _⟩
    clear hc1 hc2 k3 hwA hb1 hB1
    go_wp2_with fail
    refine bodyPost_ret (v := .tuple #[.agg #[.int .i64 0, .slice none 0 0, .bool false], .int .i64 11]) (res_sp2 _ _ (w.heap.size + 1 + 1) _ _ _ _ Tryz.results15 rfl rfl HP.out.1) rfl ?_
    exact ⟨_, rfl, SPL_nil _ _, HP.out.2⟩
  | true =>
    obtain ⟨ok, hok⟩ : ∃ ok, decide (szC (topC (A ++ C)) ≤ 128) = ok := ⟨_, rfl⟩
    have e1 : jnE b b2 A C = if ok = true then 0 else 3 := by
      unfold jnE
      rw [if_neg (by rw [hf]; simp), ← hok]
      by_cases h : szC (topC (A ++ C)) ≤ 128 <;> simp [h]
    have e2 : jnB b b2 A C = if ok = true then b else 0 := by unfold jnB; rw [e1]; cases ok <;> rfl
    have e3 : jnT b b2 A C = if ok = true then ordT (topC (A ++ C)) else [] := by unfold jnT; rw [e1]; cases ok <;> rfl
    rw [e1, e2, e3]
    have HF : Hid (Calls Tryz.prog 30 #[.agg #[.int .i64 b, .slice p1 n1 k1, .bool false], .int .i64 b2] wA fun e w' => e = .returned (.bool true) ∧ Below wA.heap.size wA w') := by
      have h := fits_any2 b b2 p1 n1 k1 wA
      rw [hf] at h
      exact h
    have HG : Hid (∀ W, Below wA.heap.size wA W → Calls Tryz.prog 31 #[.func (.func 32) #[] #[.pointer (some ⟨w.heap.size, 0, none⟩), .pointer (some ⟨w.heap.size + 1, 0, none⟩)]] W fun e w' => ∃ V, e = .returned (.tuple #[.agg #[.int .i64 (if ok = true then b else 0), V, .bool false], .int .i64 (if ok = true then 0 else 3)]) ∧ SPL w' W.heap.size V (if ok = true then ordT (topC (A ++ C)) else []) ∧ Below W.heap.size W w') := fun W hW => by
      refine giveJ b (ordT (topC (A ++ C))) ok w.heap.size (w.heap.size + 1) W (fun X hX => ?_)
      obtain ⟨k1', k2', -, s1, s2, -⟩ := HD.out X (bel0 hW hX)
      cases ok with
      | true =>
        refine (join1_ok b b2 A C B1 B2 p1 p2 n1 n2 k1 k2 _ _ X s1 s2 k1' k2' HS.out.1 HS.out.2.1 HS.out.2.2.1 HS.out.2.2.2 (of_decide_eq_true hok)).mono ?_
        rintro e w' ⟨hb, V, rfl, hv⟩
        exact ⟨hb, .inl ⟨rfl, V, rfl, hv⟩⟩
      | false =>
        refine (join1_over b b2 A C B1 B2 p1 p2 n1 n2 k1 k2 _ _ X s1 s2 k1' k2' HS.out.1 HS.out.2.1 HS.out.2.2.1 HS.out.2.2.2 (by have := of_decide_eq_false hok; omega)).mono ?_
        rintro e w' ⟨hb, rfl⟩
        exact ⟨hb, .inr ⟨rfl, rfl⟩⟩
    obtain ⟨Y, hY⟩ : ∃ Y, (if ok = true then ordT (topC (A ++ C)) else []) = Y := ⟨_, rfl⟩
    obtain ⟨bb, hbb⟩ : ∃ bb, (if ok = true then b else 0) = bb := ⟨_, rfl⟩
    obtain ⟨ee, hee⟩ : ∃ ee : Int, (if ok = true then (0 : Int) else 3) = ee := ⟨_, rfl⟩
    rw [hY, hbb, hee] at HG ⊢
    clear e1 e2 e3 hf hY hbb hee hok
    go_enter Tryz.func15, Tryz.ntmps15
    go_wp2_with fail
    refine HF.out.mono ?_
    rintro e W1 ⟨rfl, hb1⟩
    clear hc1 hc2 hwA
    go_wp2_with fail
    refine (HG.out W1 hb1).mono ?_
    rintro e W2 ⟨V, rfl, sv, hb2⟩
    obtain ⟨p8, c8, rfl⟩ := sv.shape
    obtain ⟨n8, hn8⟩ : ∃ n, Y.length = n := ⟨_, rfl⟩
    rw [hn8] at sv ⊢
    have hlt : w.heap.size + 1 + 1 < W1.heap.size := Nat.lt_of_lt_of_le HLT.out hb1.size
    obtain ⟨-, -, k3, -, -, hB1⟩ := HD.out W2 (bel0 hb1 hb2)
    obtain ⟨hc3, hf3⟩ := cells_block k3
    have HP : Hid ((((W2.setCell ⟨w.heap.size + 1 + 1, 0, none⟩ (.int .i64 bb)).setCell ⟨w.heap.size + 1 + 1, 1, none⟩ (.slice p8 n8 c8)).setCell ⟨w.heap.size + 1 + 1, 2, none⟩ (.bool false)).heap[w.heap.size + 1 + 1]? = some (.cells #[.int .i64 bb, .slice p8 n8 c8, .bool false] 26 (0, 0)) ∧ SPL (((W2.setCell ⟨w.heap.size + 1 + 1, 0, none⟩ (.int .i64 bb)).setCell ⟨w.heap.size + 1 + 1, 1, none⟩ (.slice p8 n8 c8)).setCell ⟨w.heap.size + 1 + 1, 2, none⟩ (.bool false)) w.heap.size (.slice p8 n8 c8) Y ∧ Below w.heap.size w (((W2.setCell ⟨w.heap.size + 1 + 1, 0, none⟩ (.int .i64 bb)).setCell ⟨w.heap.size + 1 + 1, 1, none⟩ (.slice p8 n8 c8)).setCell ⟨w.heap.size + 1 + 1, 2, none⟩ (.bool false))) := ⟨put3_get _ _ _ k3, (sv.kept (gr3 _ _ _ _ _) hlt).base (by omega), ((hB1.setCell (by simp; omega) _).setCell (by simp; omega) _).setCell (by simp; omega) _⟩
    clear k3 hb1 hB1 hb2 sv
    go_wp2_with fail
    refine bodyPost_ret (v := .tuple #[.agg #[.int .i64 bb, .slice p8 n8 c8, .bool false], .int .i64 ee]) (res_sp2 _ _ (w.heap.size + 1 + 1) _ _ _ _ Tryz.results15 rfl rfl HP.out.1) rfl ?_
    exact ⟨_, rfl, HP.out.2⟩
end Go.Proofs.YtcejejiomhhpgaaGreatDoor

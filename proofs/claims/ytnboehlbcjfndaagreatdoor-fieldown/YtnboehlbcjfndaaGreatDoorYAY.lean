import Derived.Test.YtnboehlbcjfndaaGreatDoorYAX
namespace Go.Proofs.YtnboehlbcjfndaaGreatDoor
open Go.RowKit Go.Shelf
def badF (seen : List IFld) (f : IFld) : Bool := !sizB f || (!nmB f.1 || (decide (0 ≤ idxF seen f.1) || decide (256 < sumB (seen ++ [f]))))
def chkL : List IFld → List IFld → Int × Int
  | _, [] => (0, 0)
  | seen, f :: r => if badF seen f = true then (40, (seen.length : Int)) else chkL (seen ++ [f]) r
def chkM (L : List IFld) : Int × Int := if 12 < L.length then (2, 0) else if L.length = 0 then (40, 0) else chkL [] L
theorem chkL_step {L : List IFld} {k : Nat} {f : IFld} (hf : L[k]? = some f) : chkL (L.take k) (L.drop k) = if badF (L.take k) f = true then (40, (k : Int)) else chkL (L.take (k + 1)) (L.drop (k + 1)) := by
  obtain ⟨hk, e⟩ := List.getElem?_eq_some_iff.1 hf
  have hl : (L.take k).length = k := by rw [List.length_take]; omega
  rw [List.drop_eq_getElem_cons hk, e, chkL, hl, List.take_add_one, hf]
  rfl
theorem take_snoc {L : List IFld} {k : Nat} {f : IFld} (hf : L[k]? = some f) : L.take k ++ [f] = L.take (k + 1) := by
  rw [List.take_add_one, hf]
  rfl
theorem results_ck (tmps : Array Value) (W : World) (a b : Value) (h : tmps.getD 2 undef = a ∧ tmps.getD 3 undef = b) : (results Tryz.f26 tmps).run Tryz.prog W = .ok (.tuple #[a, b]) W := by
  obtain ⟨h1, h2⟩ := h
  have h1' : tmps[2]?.getD undef = a := by simpa using h1
  have h2' : tmps[3]?.getD undef = b := by simpa using h2
  simp [results, h1', h2', go_sem]
set_option maxRecDepth 100000 in
set_option maxHeartbeats 8000000 in
theorem check_any (L : List IFld) (o : Option Addr) (c : Nat) (w : World) (hL : L.length ≤ 281474976710656) (hc : L.length ≤ c) (hx : ∀ f ∈ L, f.1.length ≤ 281474976710656) (hr : IRF w o L) (hv1 : SH w) (hv4 : SG w) (hv5 : VW w) :
    Calls Tryz.prog 26 #[.slice o L.length c] w fun e w' => e = .returned (.tuple #[.int .i64 (chkM L).1, .int .i64 (chkM L).2]) ∧ Below w.heap.size w w' := by
  by_cases hbig : 12 < L.length
  · have i1 : (12 : Int) < (L.length : Int) := by omega
    have hres : Hid (chkM L = (2, 0)) := by unfold Hid chkM; rw [if_pos hbig]
    clear hx hr hv1 hv4 hv5
    go_enter Tryz.func26, Tryz.ntmps26
    go_wp2_with fail
    refine bodyPost_ret (results_ck _ _ _ _ ⟨rfl, rfl⟩) rfl ?_
    exact ⟨by rw [hres.out]; rfl, Below.refl _ _⟩
  have i1 : ¬ (12 : Int) < (L.length : Int) := by omega
  by_cases hz : L.length = 0
  · have i2 : (L.length : Int) = 0 := by omega
    have hres : Hid (chkM L = (40, 0)) := by unfold Hid chkM; rw [if_neg hbig, if_pos hz]
    clear hx hr hv1 hv4 hv5 hbig
    go_enter Tryz.func26, Tryz.ntmps26
    go_wp2_with fail
    refine bodyPost_ret (results_ck _ _ _ _ ⟨rfl, rfl⟩) rfl ?_
    exact ⟨by rw [hres.out]; rfl, Below.refl _ _⟩
  have i2 : ((L.length : Int) == 0) = false := beq_eq_false_iff_ne.2 (by omega)
  obtain ⟨q, hq⟩ : ∃ q, chkL [] L = q := ⟨_, rfl⟩
  have HQM : Hid (chkM L = q) := by unfold Hid chkM; rw [if_neg hbig, if_neg hz, hq]
  have HQ : Hid (chkL (L.take 0) (L.drop 0) = q) := hq
  have HR : Hid (IRF w o L) := hr
  have HX : Hid (∀ f ∈ L, f.1.length ≤ 281474976710656) := hx
  have HV : Hid (SH w ∧ SG w ∧ VW w) := ⟨hv1, hv4, hv5⟩
  clear hx hr hv1 hv4 hv5 hq
  go_enter Tryz.func26, Tryz.ntmps26
  go_wp2_with fail
  go_loopw [14] (fun vk wr => ∃ k : Nat, vk = .int .i64 k ∧ k ≤ L.length ∧ Hid (chkL (L.take k) (L.drop k) = q) ∧ Hid (∀ f ∈ L.take k, 0 ≤ f.2 ∧ f.2 ≤ 32) ∧ Below w.heap.size w wr) (fun vk _ => L.length - (intOf vk).toNat)
  case atStart => exact ⟨0, rfl, Nat.zero_le _, HQ, fun f hf => by simp at hf, Below.refl _ _⟩
  case round =>
    clear HQ
    obtain ⟨k, rfl, hk, hrun, hbits, hB⟩ := hrel
    by_cases hlt : k < L.length
    · have j1 : (k : Int) < (L.length : Int) := by omega
      have j0 : (0 : Int) ≤ (k : Int) := by omega
      have j2 : (k : Int) ≤ (c : Int) := by omega
      have j3 : (k : Int) + 1 ≤ (c : Int) := by omega
      have j4 : (0 : Int) ≤ (k : Int) + 1 := by omega
      have HWK : Hid (IntKind.i64.wrap ((k : Int) + 1) = (k : Int) + 1) := by unfold Hid; rw [IntKind.wrap_i64]; omega
      obtain ⟨f, hf⟩ : ∃ f, L[k]? = some f := ⟨_, List.getElem?_eq_getElem hlt⟩
      obtain ⟨g, o0, rfl, p0, p1⟩ := HR.out wr hB k f hf
      have hstep := hrun.out
      rw [chkL_step hf] at hstep
      have hxl := HX.out f (List.mem_of_getElem? hf)
      have hsn := take_snoc hf
      have htl : (L.take k).length = k := by rw [List.length_take]; omega
      have htl1 : (L.take (k + 1)).length = k + 1 := by rw [List.length_take]; omega
      obtain ⟨O, hO⟩ : ∃ O : Obj, Obj.cells #[.string ⟨f.1.toArray⟩, .int .i64 f.2] 39 = O := ⟨_, rfl⟩
      have hBs := hB.size
      have hB2 : Below w.heap.size w (wr.alloc O) := hB.alloc hBs O
      have hbx : (wr.alloc O).heap[wr.heap.size]? = some (.cells #[.string ⟨f.1.toArray⟩, .int .i64 f.2] 39) := by rw [hO]; exact alloc_get _ _
      have XT : Hid (∀ W : World, Below (wr.alloc O).heap.size (wr.alloc O) W → W.cell? ⟨wr.heap.size, 0, none⟩ = some (.string ⟨f.1.toArray⟩) ∧ W.cell? ⟨wr.heap.size, 1, none⟩ = some (.int .i64 f.2)) := fun W hW => by
        have hk := keepblk hW hbx
        exact ⟨cell_of_row W _ 0 _ _ _ hk, cell_of_row W _ 1 _ _ _ hk⟩
      have HS : Hid (∀ W : World, Calls Tryz.prog 46 #[fagg f] W fun e w' => e = .returned (.bool (sizB f)) ∧ Below W.heap.size W w') := fun W => isSized_any f W
      have HN : Hid (∀ W : World, Below w.heap.size w W → Calls Tryz.prog 47 #[.string ⟨f.1.toArray⟩] W fun e w' => e = .returned (.bool (nmB f.1)) ∧ Below W.heap.size W w') := fun W hW => isName_any f.1 W hxl (HV.out.1.below hW) (HV.out.2.1.below hW) (HV.out.2.2.below hW)
      have HI : Hid (∀ W : World, Below w.heap.size w W → Calls Tryz.prog 27 #[.slice (some ⟨g, o0, none⟩) k c, .string ⟨f.1.toArray⟩] W fun e w' => e = .returned (.int .i64 (idxF (L.take k) f.1)) ∧ Below W.heap.size W w') := fun W hW => by
        have := find_any (L.take k) (some ⟨g, o0, none⟩) c f.1 W (by omega) ((HR.out.take k).later hW)
        rw [htl] at this
        exact this
      have HW : Hid ((∀ f ∈ L.take (k + 1), 0 ≤ f.2 ∧ f.2 ≤ 32) → ∀ W : World, Below w.heap.size w W → Calls Tryz.prog 48 #[.slice (some ⟨g, o0, none⟩) (k + 1) c] W fun e w' => e = .returned (.int .i64 (sumB (L.take (k + 1)))) ∧ Below W.heap.size W w') := fun hb W hW => by
        have := widthOf_any (L.take (k + 1)) (some ⟨g, o0, none⟩) c W (by omega) hb ((HR.out.take (k + 1)).later hW)
        rw [htl1] at this
        exact this
      have HB1 : Hid (1 ≤ f.2 → f.2 ≤ 32 → ∀ f ∈ L.take (k + 1), 0 ≤ f.2 ∧ f.2 ≤ 32) := fun h1 h2 f' hf' => by
        rw [← hsn] at hf'
        rcases List.mem_append.1 hf' with h | h
        · exact hbits.out f' h
        · rw [List.mem_singleton.1 h]
          omega
      have hbad : badF (L.take k) f = (!sizB f || (!nmB f.1 || (decide (0 ≤ idxF (L.take k) f.1) || decide (256 < sumB (L.take (k + 1)))))) := by unfold badF; rw [hsn]
      have hsz : sizB f = true → 1 ≤ f.2 ∧ f.2 ≤ 32 := fun h => by unfold sizB at h; simpa using h
      obtain ⟨x, b⟩ := f
      simp only at p0 p1 XT HN HI HB1 hsz hbad hO
      have HS2 : Hid (∀ W : World, Calls Tryz.prog 46 #[.agg #[.string ⟨x.toArray⟩, .int .i64 b]] W fun e w' => e = .returned (.bool (sizB (x, b))) ∧ Below W.heap.size W w') := HS.out
      clear HS hrun hf hsn htl htl1 hbits hxl
      obtain ⟨nb, hnb⟩ : ∃ n, nmB x = n := ⟨_, rfl⟩
      obtain ⟨ix, hix⟩ : ∃ n, idxF (L.take k) x = n := ⟨_, rfl⟩
      obtain ⟨sw, hsw⟩ : ∃ n, sumB (L.take (k + 1)) = n := ⟨_, rfl⟩
      obtain ⟨sb, hsb⟩ : ∃ n, sizB (x, b) = n := ⟨_, rfl⟩
      rw [hnb, hix, hsw, hsb] at hbad
      rw [hsb] at hsz
      simp only [hsb] at HS2
      simp only [hnb] at HN
      simp only [hix] at HI
      simp only [hsw] at HW
      clear hnb hix hsw hsb
      cases sb with
      | false =>
        have hbd : badF (L.take k) (x, b) = true := by rw [hbad]; simp
        rw [hbd, if_pos rfl] at hstep
        have HRES : Hid (q = (40, (k : Int))) := hstep.symm
        clear hstep hbad hbd
        go_wp2_with fail
        try rw [hO]
        refine quiet_lit3 (C := fun W => Below (wr.alloc O).heap.size (wr.alloc O) W) (by kernel_rfl) (by kernel_rfl) (show Below _ _ _ from (Below.refl _ _).drew) ?_
        go_big_quiet_want
        refine ⟨.agg #[.string ⟨x.toArray⟩, .int .i64 b], fun W hW => ?_, ?_⟩
        · obtain ⟨z0, z1⟩ := XT.out W hW
          go_simp
        go_big_quiet_on
        simp only [Act.put, List.setIfInBounds_toArray, List.set_cons_zero, List.set_cons_succ]
        go_big_quiet_want
        refine ⟨.bool false, fun W hW => ?_, ?_⟩
        · go_simp
          refine (HS2.out W).mono ?_
          rintro e w7 ⟨rfl, hb⟩
          exact ⟨rfl, by have := bel0 hW hb; simpa using this⟩
        go_big_quiet_on
        simp only [Act.put, List.setIfInBounds_toArray, List.set_cons_zero, List.set_cons_succ]
        go_big_quiet_want
        refine ⟨.bool true, fun W hW => ?_, ?_⟩
        · go_simp
        go_big_quiet_on
        simp only [Act.put, List.setIfInBounds_toArray, List.set_cons_zero, List.set_cons_succ]
        go_big_quiet_want
        go_big_quiet_op
        go_big_quiet_on
        go_big_quiet_skip
        go_big_quiet_skip
        go_big_quiet_skip
        go_big_quiet_skip
        go_big_quiet_want
        refine ⟨.bool true, fun W hW => ?_, ?_⟩
        · go_simp
        go_big_quiet_on
        simp only [Act.put, List.setIfInBounds_toArray, List.set_cons_zero, List.set_cons_succ]
        go_big_quiet_want
        go_big_quiet_op
        go_big_quiet_on
        go_big_quiet_skip
        go_big_quiet_skip
        go_big_quiet_skip
        go_big_quiet_skip
        go_big_quiet_skip
        go_big_quiet_skip
        go_big_quiet_skip
        go_big_quiet_want
        refine ⟨.bool true, fun W hW => ?_, ?_⟩
        · go_simp
        go_big_quiet_on
        simp only [Act.put, List.setIfInBounds_toArray, List.set_cons_zero, List.set_cons_succ]
        go_big_quiet_want
        go_big_quiet_op
        go_big_quiet_on
        go_big_quiet_skip
        go_big_quiet_skip
        go_big_quiet_skip
        go_big_quiet_skip
        go_big_quiet_skip
        go_big_quiet_skip
        go_big_quiet_want
        refine ⟨.bool true, fun W hW => ?_, ?_⟩
        · go_simp
        go_big_quiet_on
        simp only [Act.put, List.setIfInBounds_toArray, List.set_cons_zero, List.set_cons_succ]
        refine wpQuiet_nil ?_
        intro W hW
        go_wp2_with fail
        refine bodyPost_ret (results_ck _ _ _ _ ⟨rfl, rfl⟩) rfl ?_
        exact ⟨by rw [HQM.out, HRES.out]; rfl, bel0 hB2 hW⟩
      | true =>
        obtain ⟨hb1, hb2⟩ := hsz rfl
        cases nb with
        | false =>
          have hbd : badF (L.take k) (x, b) = true := by rw [hbad]; simp
          rw [hbd, if_pos rfl] at hstep
          have HRES : Hid (q = (40, (k : Int))) := hstep.symm
          clear hstep hbad hbd
          go_wp2_with fail
          try rw [hO]
          refine quiet_lit3 (C := fun W => Below (wr.alloc O).heap.size (wr.alloc O) W) (by kernel_rfl) (by kernel_rfl) (show Below _ _ _ from (Below.refl _ _).drew) ?_
          go_big_quiet_want
          refine ⟨.agg #[.string ⟨x.toArray⟩, .int .i64 b], fun W hW => ?_, ?_⟩
          · obtain ⟨z0, z1⟩ := XT.out W hW
            go_simp
          go_big_quiet_on
          simp only [Act.put, List.setIfInBounds_toArray, List.set_cons_zero, List.set_cons_succ]
          go_big_quiet_want
          refine ⟨.bool true, fun W hW => ?_, ?_⟩
          · go_simp
            refine (HS2.out W).mono ?_
            rintro e w7 ⟨rfl, hb⟩
            exact ⟨rfl, by have := bel0 hW hb; simpa using this⟩
          go_big_quiet_on
          simp only [Act.put, List.setIfInBounds_toArray, List.set_cons_zero, List.set_cons_succ]
          go_big_quiet_want
          refine ⟨.bool false, fun W hW => ?_, ?_⟩
          · go_simp
          go_big_quiet_on
          simp only [Act.put, List.setIfInBounds_toArray, List.set_cons_zero, List.set_cons_succ]
          go_big_quiet_want
          go_big_quiet_op
          go_big_quiet_on
          go_big_quiet_want
          refine ⟨.pointer (some ⟨wr.heap.size, 0, none⟩), fun W hW => ?_, ?_⟩
          · go_simp
          go_big_quiet_on
          simp only [Act.put, List.setIfInBounds_toArray, List.set_cons_zero, List.set_cons_succ]
          go_big_quiet_want
          refine ⟨.string ⟨x.toArray⟩, fun W hW => ?_, ?_⟩
          · obtain ⟨z0, z1⟩ := XT.out W hW
            go_simp
          go_big_quiet_on
          simp only [Act.put, List.setIfInBounds_toArray, List.set_cons_zero, List.set_cons_succ]
          go_big_quiet_want
          refine ⟨.bool false, fun W hW => ?_, ?_⟩
          · go_simp
            refine (HN.out W (bel0 hB2 hW)).mono ?_
            rintro e w7 ⟨rfl, hb⟩
            exact ⟨rfl, by have := bel0 hW hb; simpa using this⟩
          go_big_quiet_on
          simp only [Act.put, List.setIfInBounds_toArray, List.set_cons_zero, List.set_cons_succ]
          go_big_quiet_want
          refine ⟨.bool true, fun W hW => ?_, ?_⟩
          · go_simp
          go_big_quiet_on
          simp only [Act.put, List.setIfInBounds_toArray, List.set_cons_zero, List.set_cons_succ]
          go_big_quiet_want
          refine ⟨.bool true, fun W hW => ?_, ?_⟩
          · go_simp
          go_big_quiet_on
          simp only [Act.put, List.setIfInBounds_toArray, List.set_cons_zero, List.set_cons_succ]
          go_big_quiet_want
          go_big_quiet_op
          go_big_quiet_on
          go_big_quiet_skip
          go_big_quiet_skip
          go_big_quiet_skip
          go_big_quiet_skip
          go_big_quiet_skip
          go_big_quiet_skip
          go_big_quiet_skip
          go_big_quiet_want
          refine ⟨.bool true, fun W hW => ?_, ?_⟩
          · go_simp
          go_big_quiet_on
          simp only [Act.put, List.setIfInBounds_toArray, List.set_cons_zero, List.set_cons_succ]
          go_big_quiet_want
          go_big_quiet_op
          go_big_quiet_on
          go_big_quiet_skip
          go_big_quiet_skip
          go_big_quiet_skip
          go_big_quiet_skip
          go_big_quiet_skip
          go_big_quiet_skip
          go_big_quiet_want
          refine ⟨.bool true, fun W hW => ?_, ?_⟩
          · go_simp
          go_big_quiet_on
          simp only [Act.put, List.setIfInBounds_toArray, List.set_cons_zero, List.set_cons_succ]
          refine wpQuiet_nil ?_
          intro W hW
          go_wp2_with fail
          refine bodyPost_ret (results_ck _ _ _ _ ⟨rfl, rfl⟩) rfl ?_
          exact ⟨by rw [HQM.out, HRES.out]; rfl, bel0 hB2 hW⟩
        | true =>
          by_cases hi : 0 ≤ ix
          · have hbd : badF (L.take k) (x, b) = true := by rw [hbad]; simp [hi]
            rw [hbd, if_pos rfl] at hstep
            have HRES : Hid (q = (40, (k : Int))) := hstep.symm
            clear hstep hbad hbd
            go_wp2_with fail
            try rw [hO]
            refine quiet_lit3 (C := fun W => Below (wr.alloc O).heap.size (wr.alloc O) W) (by kernel_rfl) (by kernel_rfl) (show Below _ _ _ from (Below.refl _ _).drew) ?_
            go_big_quiet_want
            refine ⟨.agg #[.string ⟨x.toArray⟩, .int .i64 b], fun W hW => ?_, ?_⟩
            · obtain ⟨z0, z1⟩ := XT.out W hW
              go_simp
            go_big_quiet_on
            simp only [Act.put, List.setIfInBounds_toArray, List.set_cons_zero, List.set_cons_succ]
            go_big_quiet_want
            refine ⟨.bool true, fun W hW => ?_, ?_⟩
            · go_simp
              refine (HS2.out W).mono ?_
              rintro e w7 ⟨rfl, hb⟩
              exact ⟨rfl, by have := bel0 hW hb; simpa using this⟩
            go_big_quiet_on
            simp only [Act.put, List.setIfInBounds_toArray, List.set_cons_zero, List.set_cons_succ]
            go_big_quiet_want
            refine ⟨.bool false, fun W hW => ?_, ?_⟩
            · go_simp
            go_big_quiet_on
            simp only [Act.put, List.setIfInBounds_toArray, List.set_cons_zero, List.set_cons_succ]
            go_big_quiet_want
            go_big_quiet_op
            go_big_quiet_on
            go_big_quiet_want
            refine ⟨.pointer (some ⟨wr.heap.size, 0, none⟩), fun W hW => ?_, ?_⟩
            · go_simp
            go_big_quiet_on
            simp only [Act.put, List.setIfInBounds_toArray, List.set_cons_zero, List.set_cons_succ]
            go_big_quiet_want
            refine ⟨.string ⟨x.toArray⟩, fun W hW => ?_, ?_⟩
            · obtain ⟨z0, z1⟩ := XT.out W hW
              go_simp
            go_big_quiet_on
            simp only [Act.put, List.setIfInBounds_toArray, List.set_cons_zero, List.set_cons_succ]
            go_big_quiet_want
            refine ⟨.bool true, fun W hW => ?_, ?_⟩
            · go_simp
              refine (HN.out W (bel0 hB2 hW)).mono ?_
              rintro e w7 ⟨rfl, hb⟩
              exact ⟨rfl, by have := bel0 hW hb; simpa using this⟩
            go_big_quiet_on
            simp only [Act.put, List.setIfInBounds_toArray, List.set_cons_zero, List.set_cons_succ]
            go_big_quiet_want
            refine ⟨.bool false, fun W hW => ?_, ?_⟩
            · go_simp
            go_big_quiet_on
            simp only [Act.put, List.setIfInBounds_toArray, List.set_cons_zero, List.set_cons_succ]
            go_big_quiet_want
            refine ⟨.bool false, fun W hW => ?_, ?_⟩
            · go_simp
            go_big_quiet_on
            simp only [Act.put, List.setIfInBounds_toArray, List.set_cons_zero, List.set_cons_succ]
            go_big_quiet_want
            go_big_quiet_op
            go_big_quiet_on
            go_big_quiet_want
            go_big_quiet_op
            go_big_quiet_on
            go_big_quiet_want
            go_big_quiet_op
            go_big_quiet_on
            go_big_quiet_want
            refine ⟨.slice (some ⟨g, o0, none⟩) k c, fun W hW => ?_, ?_⟩
            · go_simp
            go_big_quiet_on
            simp only [Act.put, List.setIfInBounds_toArray, List.set_cons_zero, List.set_cons_succ]
            go_big_quiet_want
            refine ⟨.pointer (some ⟨wr.heap.size, 0, none⟩), fun W hW => ?_, ?_⟩
            · go_simp
            go_big_quiet_on
            simp only [Act.put, List.setIfInBounds_toArray, List.set_cons_zero, List.set_cons_succ]
            go_big_quiet_want
            refine ⟨.string ⟨x.toArray⟩, fun W hW => ?_, ?_⟩
            · obtain ⟨z0, z1⟩ := XT.out W hW
              go_simp
            go_big_quiet_on
            simp only [Act.put, List.setIfInBounds_toArray, List.set_cons_zero, List.set_cons_succ]
            go_big_quiet_want
            refine ⟨.int .i64 ix, fun W hW => ?_, ?_⟩
            · go_simp
              refine (HI.out W (bel0 hB2 hW)).mono ?_
              rintro e w7 ⟨rfl, hb⟩
              exact ⟨rfl, by have := bel0 hW hb; simpa using this⟩
            go_big_quiet_on
            simp only [Act.put, List.setIfInBounds_toArray, List.set_cons_zero, List.set_cons_succ]
            go_big_quiet_want
            refine ⟨.bool true, fun W hW => ?_, ?_⟩
            · go_simp
            go_big_quiet_on
            simp only [Act.put, List.setIfInBounds_toArray, List.set_cons_zero, List.set_cons_succ]
            go_big_quiet_want
            refine ⟨.bool true, fun W hW => ?_, ?_⟩
            · go_simp
            go_big_quiet_on
            simp only [Act.put, List.setIfInBounds_toArray, List.set_cons_zero, List.set_cons_succ]
            go_big_quiet_want
            go_big_quiet_op
            go_big_quiet_on
            go_big_quiet_skip
            go_big_quiet_skip
            go_big_quiet_skip
            go_big_quiet_skip
            go_big_quiet_skip
            go_big_quiet_skip
            go_big_quiet_want
            refine ⟨.bool true, fun W hW => ?_, ?_⟩
            · go_simp
            go_big_quiet_on
            simp only [Act.put, List.setIfInBounds_toArray, List.set_cons_zero, List.set_cons_succ]
            refine wpQuiet_nil ?_
            intro W hW
            go_wp2_with fail
            refine bodyPost_ret (results_ck _ _ _ _ ⟨rfl, rfl⟩) rfl ?_
            exact ⟨by rw [HQM.out, HRES.out]; rfl, bel0 hB2 hW⟩
          have HB3 : Hid (∀ f ∈ L.take (k + 1), 0 ≤ f.2 ∧ f.2 ≤ 32) := HB1.out hb1 hb2
          have HW2 : Hid (∀ W : World, Below w.heap.size w W → Calls Tryz.prog 48 #[.slice (some ⟨g, o0, none⟩) (k + 1) c] W fun e w' => e = .returned (.int .i64 sw) ∧ Below W.heap.size W w') := HW.out HB3.out
          by_cases hs : 256 < sw
          · have hbd : badF (L.take k) (x, b) = true := by rw [hbad]; simp [hs]
            rw [hbd, if_pos rfl] at hstep
            have HRES : Hid (q = (40, (k : Int))) := hstep.symm
            clear hstep hbad hbd
            go_wp2_with fail
            try rw [hO]
            refine quiet_lit3 (C := fun W => Below (wr.alloc O).heap.size (wr.alloc O) W) (by kernel_rfl) (by kernel_rfl) (show Below _ _ _ from (Below.refl _ _).drew) ?_
            go_big_quiet_want
            refine ⟨.agg #[.string ⟨x.toArray⟩, .int .i64 b], fun W hW => ?_, ?_⟩
            · obtain ⟨z0, z1⟩ := XT.out W hW
              go_simp
            go_big_quiet_on
            simp only [Act.put, List.setIfInBounds_toArray, List.set_cons_zero, List.set_cons_succ]
            go_big_quiet_want
            refine ⟨.bool true, fun W hW => ?_, ?_⟩
            · go_simp
              refine (HS2.out W).mono ?_
              rintro e w7 ⟨rfl, hb⟩
              exact ⟨rfl, by have := bel0 hW hb; simpa using this⟩
            go_big_quiet_on
            simp only [Act.put, List.setIfInBounds_toArray, List.set_cons_zero, List.set_cons_succ]
            go_big_quiet_want
            refine ⟨.bool false, fun W hW => ?_, ?_⟩
            · go_simp
            go_big_quiet_on
            simp only [Act.put, List.setIfInBounds_toArray, List.set_cons_zero, List.set_cons_succ]
            go_big_quiet_want
            go_big_quiet_op
            go_big_quiet_on
            go_big_quiet_want
            refine ⟨.pointer (some ⟨wr.heap.size, 0, none⟩), fun W hW => ?_, ?_⟩
            · go_simp
            go_big_quiet_on
            simp only [Act.put, List.setIfInBounds_toArray, List.set_cons_zero, List.set_cons_succ]
            go_big_quiet_want
            refine ⟨.string ⟨x.toArray⟩, fun W hW => ?_, ?_⟩
            · obtain ⟨z0, z1⟩ := XT.out W hW
              go_simp
            go_big_quiet_on
            simp only [Act.put, List.setIfInBounds_toArray, List.set_cons_zero, List.set_cons_succ]
            go_big_quiet_want
            refine ⟨.bool true, fun W hW => ?_, ?_⟩
            · go_simp
              refine (HN.out W (bel0 hB2 hW)).mono ?_
              rintro e w7 ⟨rfl, hb⟩
              exact ⟨rfl, by have := bel0 hW hb; simpa using this⟩
            go_big_quiet_on
            simp only [Act.put, List.setIfInBounds_toArray, List.set_cons_zero, List.set_cons_succ]
            go_big_quiet_want
            refine ⟨.bool false, fun W hW => ?_, ?_⟩
            · go_simp
            go_big_quiet_on
            simp only [Act.put, List.setIfInBounds_toArray, List.set_cons_zero, List.set_cons_succ]
            go_big_quiet_want
            refine ⟨.bool false, fun W hW => ?_, ?_⟩
            · go_simp
            go_big_quiet_on
            simp only [Act.put, List.setIfInBounds_toArray, List.set_cons_zero, List.set_cons_succ]
            go_big_quiet_want
            go_big_quiet_op
            go_big_quiet_on
            go_big_quiet_want
            go_big_quiet_op
            go_big_quiet_on
            go_big_quiet_want
            go_big_quiet_op
            go_big_quiet_on
            go_big_quiet_want
            refine ⟨.slice (some ⟨g, o0, none⟩) k c, fun W hW => ?_, ?_⟩
            · go_simp
            go_big_quiet_on
            simp only [Act.put, List.setIfInBounds_toArray, List.set_cons_zero, List.set_cons_succ]
            go_big_quiet_want
            refine ⟨.pointer (some ⟨wr.heap.size, 0, none⟩), fun W hW => ?_, ?_⟩
            · go_simp
            go_big_quiet_on
            simp only [Act.put, List.setIfInBounds_toArray, List.set_cons_zero, List.set_cons_succ]
            go_big_quiet_want
            refine ⟨.string ⟨x.toArray⟩, fun W hW => ?_, ?_⟩
            · obtain ⟨z0, z1⟩ := XT.out W hW
              go_simp
            go_big_quiet_on
            simp only [Act.put, List.setIfInBounds_toArray, List.set_cons_zero, List.set_cons_succ]
            go_big_quiet_want
            refine ⟨.int .i64 ix, fun W hW => ?_, ?_⟩
            · go_simp
              refine (HI.out W (bel0 hB2 hW)).mono ?_
              rintro e w7 ⟨rfl, hb⟩
              exact ⟨rfl, by have := bel0 hW hb; simpa using this⟩
            go_big_quiet_on
            simp only [Act.put, List.setIfInBounds_toArray, List.set_cons_zero, List.set_cons_succ]
            go_big_quiet_want
            refine ⟨.bool false, fun W hW => ?_, ?_⟩
            · go_simp
            go_big_quiet_on
            simp only [Act.put, List.setIfInBounds_toArray, List.set_cons_zero, List.set_cons_succ]
            go_big_quiet_want
            refine ⟨.bool false, fun W hW => ?_, ?_⟩
            · go_simp
            go_big_quiet_on
            simp only [Act.put, List.setIfInBounds_toArray, List.set_cons_zero, List.set_cons_succ]
            go_big_quiet_want
            go_big_quiet_op
            go_big_quiet_on
            go_big_quiet_want
            go_big_quiet_op
            go_big_quiet_on
            go_big_quiet_want
            go_big_quiet_op
            go_big_quiet_on
            go_big_quiet_want
            refine ⟨.int .i64 ((k : Int) + 1), fun W hW => ?_, ?_⟩
            · go_simp
              exact HWK.out
            go_big_quiet_on
            simp only [Act.put, List.setIfInBounds_toArray, List.set_cons_zero, List.set_cons_succ]
            go_big_quiet_want
            refine ⟨.slice (some ⟨g, o0, none⟩) (k + 1) c, fun W hW => ?_, ?_⟩
            · go_simp
            go_big_quiet_on
            simp only [Act.put, List.setIfInBounds_toArray, List.set_cons_zero, List.set_cons_succ]
            go_big_quiet_want
            refine ⟨.int .i64 sw, fun W hW => ?_, ?_⟩
            · go_simp
              refine (HW2.out W (bel0 hB2 hW)).mono ?_
              rintro e w7 ⟨rfl, hb⟩
              exact ⟨rfl, by have := bel0 hW hb; simpa using this⟩
            go_big_quiet_on
            simp only [Act.put, List.setIfInBounds_toArray, List.set_cons_zero, List.set_cons_succ]
            go_big_quiet_want
            refine ⟨.bool true, fun W hW => ?_, ?_⟩
            · go_simp
            go_big_quiet_on
            simp only [Act.put, List.setIfInBounds_toArray, List.set_cons_zero, List.set_cons_succ]
            go_big_quiet_want
            refine ⟨.bool true, fun W hW => ?_, ?_⟩
            · go_simp
            go_big_quiet_on
            simp only [Act.put, List.setIfInBounds_toArray, List.set_cons_zero, List.set_cons_succ]
            refine wpQuiet_nil ?_
            intro W hW
            go_wp2_with fail
            refine bodyPost_ret (results_ck _ _ _ _ ⟨rfl, rfl⟩) rfl ?_
            exact ⟨by rw [HQM.out, HRES.out]; rfl, bel0 hB2 hW⟩
          have hbd : badF (L.take k) (x, b) = false := by rw [hbad]; simp [hi, hs]
          rw [hbd, if_neg (by decide)] at hstep
          have HST : Hid (chkL (L.take (k + 1)) (L.drop (k + 1)) = q) := hstep
          clear hstep hbad hbd
          go_wp2_with fail
          try rw [hO]
          refine quiet_lit3 (C := fun W => Below (wr.alloc O).heap.size (wr.alloc O) W) (by kernel_rfl) (by kernel_rfl) (show Below _ _ _ from (Below.refl _ _).drew) ?_
          go_big_quiet_want
          refine ⟨.agg #[.string ⟨x.toArray⟩, .int .i64 b], fun W hW => ?_, ?_⟩
          · obtain ⟨z0, z1⟩ := XT.out W hW
            go_simp
          go_big_quiet_on
          simp only [Act.put, List.setIfInBounds_toArray, List.set_cons_zero, List.set_cons_succ]
          go_big_quiet_want
          refine ⟨.bool true, fun W hW => ?_, ?_⟩
          · go_simp
            refine (HS2.out W).mono ?_
            rintro e w7 ⟨rfl, hb⟩
            exact ⟨rfl, by have := bel0 hW hb; simpa using this⟩
          go_big_quiet_on
          simp only [Act.put, List.setIfInBounds_toArray, List.set_cons_zero, List.set_cons_succ]
          go_big_quiet_want
          refine ⟨.bool false, fun W hW => ?_, ?_⟩
          · go_simp
          go_big_quiet_on
          simp only [Act.put, List.setIfInBounds_toArray, List.set_cons_zero, List.set_cons_succ]
          go_big_quiet_want
          go_big_quiet_op
          go_big_quiet_on
          go_big_quiet_want
          refine ⟨.pointer (some ⟨wr.heap.size, 0, none⟩), fun W hW => ?_, ?_⟩
          · go_simp
          go_big_quiet_on
          simp only [Act.put, List.setIfInBounds_toArray, List.set_cons_zero, List.set_cons_succ]
          go_big_quiet_want
          refine ⟨.string ⟨x.toArray⟩, fun W hW => ?_, ?_⟩
          · obtain ⟨z0, z1⟩ := XT.out W hW
            go_simp
          go_big_quiet_on
          simp only [Act.put, List.setIfInBounds_toArray, List.set_cons_zero, List.set_cons_succ]
          go_big_quiet_want
          refine ⟨.bool true, fun W hW => ?_, ?_⟩
          · go_simp
            refine (HN.out W (bel0 hB2 hW)).mono ?_
            rintro e w7 ⟨rfl, hb⟩
            exact ⟨rfl, by have := bel0 hW hb; simpa using this⟩
          go_big_quiet_on
          simp only [Act.put, List.setIfInBounds_toArray, List.set_cons_zero, List.set_cons_succ]
          go_big_quiet_want
          refine ⟨.bool false, fun W hW => ?_, ?_⟩
          · go_simp
          go_big_quiet_on
          simp only [Act.put, List.setIfInBounds_toArray, List.set_cons_zero, List.set_cons_succ]
          go_big_quiet_want
          refine ⟨.bool false, fun W hW => ?_, ?_⟩
          · go_simp
          go_big_quiet_on
          simp only [Act.put, List.setIfInBounds_toArray, List.set_cons_zero, List.set_cons_succ]
          go_big_quiet_want
          go_big_quiet_op
          go_big_quiet_on
          go_big_quiet_want
          go_big_quiet_op
          go_big_quiet_on
          go_big_quiet_want
          go_big_quiet_op
          go_big_quiet_on
          go_big_quiet_want
          refine ⟨.slice (some ⟨g, o0, none⟩) k c, fun W hW => ?_, ?_⟩
          · go_simp
          go_big_quiet_on
          simp only [Act.put, List.setIfInBounds_toArray, List.set_cons_zero, List.set_cons_succ]
          go_big_quiet_want
          refine ⟨.pointer (some ⟨wr.heap.size, 0, none⟩), fun W hW => ?_, ?_⟩
          · go_simp
          go_big_quiet_on
          simp only [Act.put, List.setIfInBounds_toArray, List.set_cons_zero, List.set_cons_succ]
          go_big_quiet_want
          refine ⟨.string ⟨x.toArray⟩, fun W hW => ?_, ?_⟩
          · obtain ⟨z0, z1⟩ := XT.out W hW
            go_simp
          go_big_quiet_on
          simp only [Act.put, List.setIfInBounds_toArray, List.set_cons_zero, List.set_cons_succ]
          go_big_quiet_want
          refine ⟨.int .i64 ix, fun W hW => ?_, ?_⟩
          · go_simp
            refine (HI.out W (bel0 hB2 hW)).mono ?_
            rintro e w7 ⟨rfl, hb⟩
            exact ⟨rfl, by have := bel0 hW hb; simpa using this⟩
          go_big_quiet_on
          simp only [Act.put, List.setIfInBounds_toArray, List.set_cons_zero, List.set_cons_succ]
          go_big_quiet_want
          refine ⟨.bool false, fun W hW => ?_, ?_⟩
          · go_simp
          go_big_quiet_on
          simp only [Act.put, List.setIfInBounds_toArray, List.set_cons_zero, List.set_cons_succ]
          go_big_quiet_want
          refine ⟨.bool false, fun W hW => ?_, ?_⟩
          · go_simp
          go_big_quiet_on
          simp only [Act.put, List.setIfInBounds_toArray, List.set_cons_zero, List.set_cons_succ]
          go_big_quiet_want
          go_big_quiet_op
          go_big_quiet_on
          go_big_quiet_want
          go_big_quiet_op
          go_big_quiet_on
          go_big_quiet_want
          go_big_quiet_op
          go_big_quiet_on
          go_big_quiet_want
          refine ⟨.int .i64 ((k : Int) + 1), fun W hW => ?_, ?_⟩
          · go_simp
            exact HWK.out
          go_big_quiet_on
          simp only [Act.put, List.setIfInBounds_toArray, List.set_cons_zero, List.set_cons_succ]
          go_big_quiet_want
          refine ⟨.slice (some ⟨g, o0, none⟩) (k + 1) c, fun W hW => ?_, ?_⟩
          · go_simp
          go_big_quiet_on
          simp only [Act.put, List.setIfInBounds_toArray, List.set_cons_zero, List.set_cons_succ]
          go_big_quiet_want
          refine ⟨.int .i64 sw, fun W hW => ?_, ?_⟩
          · go_simp
            refine (HW2.out W (bel0 hB2 hW)).mono ?_
            rintro e w7 ⟨rfl, hb⟩
            exact ⟨rfl, by have := bel0 hW hb; simpa using this⟩
          go_big_quiet_on
          simp only [Act.put, List.setIfInBounds_toArray, List.set_cons_zero, List.set_cons_succ]
          go_big_quiet_want
          refine ⟨.bool false, fun W hW => ?_, ?_⟩
          · go_simp
          go_big_quiet_on
          simp only [Act.put, List.setIfInBounds_toArray, List.set_cons_zero, List.set_cons_succ]
          go_big_quiet_want
          refine ⟨.bool false, fun W hW => ?_, ?_⟩
          · go_simp
          go_big_quiet_on
          simp only [Act.put, List.setIfInBounds_toArray, List.set_cons_zero, List.set_cons_succ]
          refine wpQuiet_nil ?_
          intro W hW
          go_wp2_with fail
          go_roundw
          case rel => exact ⟨k + 1, by go_num, by omega, HST, HB3, bel0 hB2 hW⟩
          case measure => simp [intOf]; omega
    · have j1 : ¬ (k : Int) < (L.length : Int) := by omega
      have HRES : Hid (q = (0, 0)) := by
        unfold Hid
        rw [← hrun.out, List.drop_eq_nil_of_le (by omega)]
        rfl
      clear hrun hbits
      go_wp2_with fail
      refine bodyPost_ret (results_ck _ _ _ _ ⟨rfl, rfl⟩) rfl ?_
      exact ⟨by rw [HQM.out, HRES.out]; rfl, hB⟩
end Go.Proofs.YtnboehlbcjfndaaGreatDoor

import Derived.Test.YtnboehlbcjfndaaGreatDoorYBO
namespace Go.Proofs.YtnboehlbcjfndaaGreatDoor
open Go.RowKit Go.Shelf
theorem gr_free (e P : Nat) (hP : e < 2 ^ P) (hP2 : P ≤ 32) : ∀ (m a : Nat), e + 1 - a ≤ m → ∀ x ∈ gr a e, x.2 ≤ P := by
  intro m
  induction m with
  | zero =>
    intro a h x hx
    rw [gr_end (by omega)] at hx
    simp at hx
  | succ m ih =>
    intro a h x hx
    by_cases hle : a ≤ e
    · have hp : 2 ^ P ≤ 2 ^ 32 := Nat.pow_le_pow_right (by decide) hP2
      have hf := fre_le (a := a) (e := e) hle (by omega)
      have hpp : 0 < 2 ^ fre a e := Nat.pow_pos (by decide)
      rw [gr_le hle] at hx
      rcases List.mem_cons.1 hx with rfl | hx
      · exact (Nat.pow_le_pow_iff_right (a := 2) (by decide)).1 (by show 2 ^ fre a e ≤ 2 ^ P; omega)
      · exact ih (a + 2 ^ fre a e) (by omega) x hx
    · rw [gr_end hle] at hx
      simp at hx
theorem covI_w {b : Nat} {lo hi : Int} (hb : b ≤ 32) (hh : hi < ((2 ^ b : Nat) : Int)) : ∀ x ∈ covI b lo hi, x.length = b := by
  intro x hx
  unfold covI at hx
  split at hx
  · simp at hx
  · unfold cov at hx
    obtain ⟨p, hp, rfl⟩ := List.mem_map.1 hx
    have hp0 : 0 < 2 ^ b := Nat.pow_pos (by decide)
    refine digL_len _ _ _ (gr_free hi.toNat b ?_ hb (hi.toNat + 1 - lo.toNat) lo.toNat (Nat.le_refl _) p hp)
    omega
theorem pcs_w {a c : List UInt8} {n : Nat} (ha : a.length = n) (hc : c.length = n) : ∀ p, ∀ x ∈ Tn.pcs a c p, x.length = n
  | 0, x, hx => by simp [Tn.pcs] at hx
  | p + 1, x, hx => by
    unfold Tn.pcs at hx
    rcases List.mem_append.1 hx with h | h
    · exact pcs_w ha hc p x h
    · split at h
      · rw [List.mem_singleton.1 h, Tn.pcT, List.length_set, Tn.rs_len a c (by omega), ha]
      · simp at h
theorem pie_w {b : Nat} {t : TS} (hb : b ≤ 32) (h : TOK b t) : ∀ x ∈ pieM b t, x.length = b := by
  have hp0 : 0 < 2 ^ b := Nat.pow_pos (by decide)
  have hon := (one_good hb h).1
  obtain ⟨-, k2, k3, k4, k5, -, -, -, -, -⟩ := h
  intro x hx
  unfold pieM othM at hx
  split at hx
  · exact covI_w hb (by omega) x hx
  · split at hx
    · exact covI_w hb (by omega) x hx
    · split at hx
      · exact covI_w hb (by omega) x hx
      · split at hx
        · exact covI_w hb (by omega) x hx
        · split at hx
          · split at hx
            · rcases List.mem_append.1 hx with hx | hx
              · exact covI_w hb (by omega) x hx
              · exact covI_w hb (by omega) x hx
            · exact pcs_w (List.length_replicate) hon b x hx
          · split at hx
            · exact covI_w hb (by omega) x hx
            · rw [List.mem_singleton.1 hx]
              exact hon
theorem pie_len {b : Nat} {t : TS} (hb : b ≤ 32) (h : TOK b t) : (pieM b t).length ≤ 8589934592 := by
  have hp0 : 0 < 2 ^ b := Nat.pow_pos (by decide)
  obtain ⟨-, k2, k3, k4, k5, -, -, -, -, -⟩ := h
  unfold pieM othM
  split
  · have := covI_len (b := b) (lo := 0) (hi := t.lo) hb (by omega) (by omega); omega
  · split
    · have := covI_len (b := b) (lo := 0) (hi := t.lo - 1) hb (by omega) (by omega); omega
    · split
      · have := covI_len (b := b) (lo := t.lo) (hi := ((2 ^ b - 1 : Nat) : Int)) hb (by omega) (by omega); omega
      · split
        · have := covI_len (b := b) (lo := t.lo + 1) (hi := ((2 ^ b - 1 : Nat) : Int)) hb (by omega) (by omega); omega
        · split
          · split
            · have h1 := covI_len (b := b) (lo := 0) (hi := t.lo - 1) hb (by omega) (by omega)
              have h2 := covI_len (b := b) (lo := t.hi + 1) (hi := ((2 ^ b - 1 : Nat) : Int)) hb (by omega) (by omega)
              rw [List.length_append]
              omega
            · have := splX_len b (oneM b t); omega
          · split
            · have := covI_len (b := b) (lo := t.lo) (hi := t.hi) hb (by omega) (by omega); omega
            · simp
theorem idx_at {L : List IFld} {x : List UInt8} {k : Nat} (h : idxF L x = (k : Int)) : ∃ f, L[k]? = some f ∧ f.1 = x := by
  unfold idxF at h
  rcases idxG_ge L 0 x with e | ⟨j, f, e, h1, h2⟩
  · rw [e] at h
    omega
  · rw [e] at h
    obtain rfl : j = k := by omega
    exact ⟨f, h1, h2⟩
def cbM (L : List IFld) (t : TS) : List (List UInt8) × Int :=
  if (chkM L).1 ≠ 0 then ([], (chkM L).1) else if idxF L t.f < 0 then ([], 41) else if fltM (L.getD (idxF L t.f).toNat ([], 0)).2.toNat t ≠ 0 then ([], fltM (L.getD (idxF L t.f).toNat ([], 0)).2.toNat t) else ((pieM (L.getD (idxF L t.f).toNat ([], 0)).2.toNat t).map (putL (List.replicate (sumB L).toNat 120) (sumB (L.take (idxF L t.f).toNat)).toNat), 0)
def cuR (w : World) (R : List (List UInt8) × Int) (e : Ending) (w' : World) : Prop := ∃ v, e = .returned (.tuple #[v, .int .i64 R.2]) ∧ w'.ownsRow w.heap.size 9 1 v R.1.length (stx R.1) ∧ Below w.heap.size w w'
set_option maxRecDepth 100000 in
set_option maxHeartbeats 4000000 in
theorem fcubes_any (L : List IFld) (o : Option Addr) (c : Nat) (t : TS) (w : World) (hL : L.length ≤ 281474976710656) (hc : L.length ≤ c) (hx : ∀ f ∈ L, f.1.length ≤ 281474976710656) (hpl : t.pat.length ≤ 281474976710656) (hr : IRF w o L) (hv1 : SH w) (hv4 : SG w) (hv5 : VW w) (hu : US w) (hdb : DB w) :
    Calls Tryz.prog 10 #[.slice o L.length c, t.v] w fun e w' => cuR w (cbM L t) e w' := by
  have HC0 := fun (W : World) (hW : Below w.heap.size w W) => check_any L o c W hL hc hx (hr.later hW) (hv1.below hW) (hv4.below hW) (hv5.below hW)
  have HFD0 := fun (W : World) (hW : Below w.heap.size w W) => find_any L o c t.f W hL (hr.later hW)
  have HFT0 := fun (b : Nat) (h1 : 1 ≤ b) (h2 : b ≤ 32) (W : World) (hW : Below w.heap.size w W) => fault_any b t W h1 h2 hpl (hu.below hW)
  have HPI0 := fun (b : Nat) (h1 : 1 ≤ b) (h2 : b ≤ 32) (h : TOK b t) (W : World) (hW : Below w.heap.size w W) => fpieces_any b t W h1 h2 h (hdb.below hW)
  obtain ⟨R, hR⟩ : ∃ R, cbM L t = R := ⟨_, rfl⟩
  rw [hR]
  have hRR := hR
  unfold cbM at hRR
  obtain ⟨TT, hTT⟩ : ∃ x, t = x := ⟨_, rfl⟩
  have hTv : t.v = TT.v := by rw [hTT]
  have hTf : t.f = TT.f := by rw [hTT]
  rw [hTv] at HFT0 HPI0 ⊢
  rw [hTf] at HFD0 hRR
  obtain ⟨f, op, form, lo, hi, len, pat⟩ := TT
  show Calls Tryz.prog 10 #[.slice o L.length c, .agg #[.string ⟨f.toArray⟩, .int .i64 op, .int .i64 form, .int .i64 lo, .int .i64 hi, .int .i64 len, .string ⟨pat.toArray⟩]] w _
  simp only at HFD0 hRR
  obtain ⟨O, hO⟩ : ∃ O : Obj, Obj.cells #[.string ⟨f.toArray⟩, .int .i64 op, .int .i64 form, .int .i64 lo, .int .i64 hi, .int .i64 len, .string ⟨pat.toArray⟩] 27 = O := ⟨_, rfl⟩
  have hB1 : Below w.heap.size w (w.alloc O) := (Below.refl _ _).alloc (Nat.le_refl _) _
  have hbx : (w.alloc O).heap[w.heap.size]? = some (.cells #[.string ⟨f.toArray⟩, .int .i64 op, .int .i64 form, .int .i64 lo, .int .i64 hi, .int .i64 len, .string ⟨pat.toArray⟩] 27) := by rw [hO]; exact alloc_get _ _
  have HX : Hid (∀ W : World, Below (w.alloc O).heap.size (w.alloc O) W → W.cell? ⟨w.heap.size, 0, none⟩ = some (.string ⟨f.toArray⟩) ∧ W.cell? ⟨w.heap.size, 1, none⟩ = some (.int .i64 op) ∧ W.cell? ⟨w.heap.size, 2, none⟩ = some (.int .i64 form) ∧ W.cell? ⟨w.heap.size, 3, none⟩ = some (.int .i64 lo) ∧ W.cell? ⟨w.heap.size, 4, none⟩ = some (.int .i64 hi) ∧ W.cell? ⟨w.heap.size, 5, none⟩ = some (.int .i64 len) ∧ W.cell? ⟨w.heap.size, 6, none⟩ = some (.string ⟨pat.toArray⟩)) := fun W hW => ⟨cell_of_row _ _ 0 _ _ _ (keepblk hW hbx), cell_of_row _ _ 1 _ _ _ (keepblk hW hbx), cell_of_row _ _ 2 _ _ _ (keepblk hW hbx), cell_of_row _ _ 3 _ _ _ (keepblk hW hbx), cell_of_row _ _ 4 _ _ _ (keepblk hW hbx), cell_of_row _ _ 5 _ _ _ (keepblk hW hbx), cell_of_row _ _ 6 _ _ _ (keepblk hW hbx)⟩
  obtain ⟨t0, t1, t2, t3, t4, t5, t6⟩ := HX.out _ (Below.refl _ _)
  clear hbx
  by_cases h0 : ¬ (chkM L).1 = 0
  · have hres : Hid (R = ([], (chkM L).1)) := by unfold Hid; rw [← hRR, if_pos h0]
    have HC : Hid (Calls Tryz.prog 26 #[.slice o L.length c] (w.alloc O) fun e w' => e = .returned (.tuple #[.int .i64 (chkM L).1, .int .i64 (chkM L).2]) ∧ Below (w.alloc O).heap.size (w.alloc O) w') := HC0 _ hB1
    obtain ⟨ce, hce⟩ : ∃ x, (chkM L).1 = x := ⟨_, rfl⟩
    rw [hce] at HC h0 hres
    have y1 : (ce != 0) = true := by simpa using h0
    clear hx hr hv1 hv4 hv5 hR hce hRR HC0 HFD0 HFT0 HPI0 hTT hTv hTf HX
    go_enter Tryz.func10, Tryz.ntmps10
    go_wp2_with fail
    try simp only [hO]
    refine HC.out.mono ?_
    rintro e W1 ⟨rfl, hb1⟩
    go_wp2_with fail
    refine bodyPost_ret (results_tmp2 rfl _ _ _) rfl ?_
    refine ⟨.slice none 0 0, ?_, ?_, bel0 hB1 hb1⟩
    · rw [hres.out]
      rfl
    · rw [hres.out]
      exact World.ownsRow_nil _ _ _ _
  replace h0 := Classical.not_not.1 h0
  rw [if_neg (fun h => h h0)] at hRR
  obtain ⟨k1, k2, k3, k4⟩ := chk_ok h0
  have hb0 : ∀ f ∈ L, 0 ≤ f.2 ∧ f.2 ≤ 32 := fun f hf => by have := k3 f hf; omega
  obtain ⟨n, hn⟩ : ∃ n : Nat, sumB L = (n : Int) := ⟨(sumB L).toNat, by have := (sumB_bound L hb0).1; omega⟩
  have hn256 : n ≤ 256 := by omega
  have HC : Hid (Calls Tryz.prog 26 #[.slice o L.length c] (w.alloc O) fun e w' => e = .returned (.tuple #[.int .i64 0, .int .i64 (chkM L).2]) ∧ Below (w.alloc O).heap.size (w.alloc O) w') := by
    have := HC0 _ hB1
    rw [h0] at this
    exact this
  obtain ⟨ix, hix⟩ : ∃ x, idxF L f = x := ⟨_, rfl⟩
  rw [hix] at hRR
  simp only [hix] at HFD0
  have HFD : Hid (∀ (W : World), Below w.heap.size w W → Calls Tryz.prog 27 #[.slice o L.length c, .string ⟨f.toArray⟩] W fun e w' => e = .returned (.int .i64 ix) ∧ Below W.heap.size W w') := HFD0
  by_cases hneg : ix < 0
  · have hres : Hid (R = ([], 41)) := by unfold Hid; rw [← hRR, if_pos hneg]
    clear hx hr hv1 hv4 hv5 hR hRR HC0 HFD0 HFT0 HPI0 hTT hTv hTf h0 k3 k4 hb0 hn hix
    go_enter Tryz.func10, Tryz.ntmps10
    go_wp2_with fail
    try simp only [hO]
    refine HC.out.mono ?_
    rintro e W1 ⟨rfl, hb1⟩
    obtain ⟨x0, x1, x2, x3, x4, x5, x6⟩ := HX.out W1 hb1
    go_wp2_with fail
    refine (HFD.out _ (bel0 hB1 hb1)).mono ?_
    rintro e W2 ⟨rfl, hb2⟩
    go_wp2_with fail
    refine bodyPost_ret (results_tmp2 rfl _ _ _) rfl ?_
    refine ⟨.slice none 0 0, ?_, ?_, bel0 (bel0 hB1 hb1) hb2⟩
    · rw [hres.out]
      rfl
    · rw [hres.out]
      exact World.ownsRow_nil _ _ _ _
  rw [if_neg hneg] at hRR
  obtain ⟨k, rfl⟩ : ∃ k : Nat, ix = k := ⟨ix.toNat, by omega⟩
  obtain ⟨fk, hfk, -⟩ := idx_at hix
  have hgd : L.getD k ([], 0) = fk := by simp [List.getD, hfk]
  rw [Int.toNat_natCast, hgd] at hRR
  have hkb := k3 fk (List.mem_of_getElem? hfk)
  obtain ⟨x, bi⟩ := fk
  obtain ⟨b, rfl⟩ : ∃ b : Nat, bi = (b : Int) := ⟨bi.toNat, by simp only at hkb; omega⟩
  simp only [Int.toNat_natCast] at hRR hkb
  obtain ⟨p, hp⟩ : ∃ p : Nat, sumB (L.take k) = (p : Int) := ⟨(sumB (L.take k)).toNat, by have := (sumB_bound (L.take k) (fun f hf => hb0 f (List.mem_of_mem_take hf))).1; omega⟩
  have hpb : p + b ≤ n := by
    have h1 := sumB_take hfk
    have h2 := sumB_take_le hb0 (k + 1)
    rw [h1, hp, hn] at h2
    simp only at h2
    omega
  have hkl : k < L.length := (List.getElem?_eq_some_iff.1 hfk).1
  obtain ⟨g, o0, rfl, -⟩ := hr w (Below.refl _ _) k _ hfk
  have XF : Hid (∀ W : World, Below w.heap.size w W → W.cell? ⟨g, o0 + k * 2 + 1, none⟩ = some (.int .i64 (b : Int))) := fun W hW => by
    obtain ⟨g3, q3, h1, -, h2⟩ := hr W hW k _ hfk
    injection h1 with h1
    injection h1 with h1 h4
    subst h1 h4
    exact h2
  have HFT1 := HFT0 b (by omega) (by omega)
  have j0 : (0 : Int) ≤ (k : Int) := by omega
  have j1 : (k : Int) < (L.length : Int) := by omega
  by_cases hflt : ¬ fltM b t = 0
  · have hres : Hid (R = ([], fltM b t)) := by unfold Hid; rw [← hRR, if_pos hflt]
    obtain ⟨ER, hER⟩ : ∃ x, fltM b t = x := ⟨_, rfl⟩
    rw [hER] at hres hflt
    simp only [hER] at HFT1
    have y1 : (ER != 0) = true := by simpa using hflt
    have HFT : Hid (∀ (W : World), Below w.heap.size w W → Calls Tryz.prog 28 #[.int .i64 (b : Int), .agg #[.string ⟨f.toArray⟩, .int .i64 op, .int .i64 form, .int .i64 lo, .int .i64 hi, .int .i64 len, .string ⟨pat.toArray⟩]] W fun e w' => e = .returned (.int .i64 ER) ∧ Below W.heap.size W w') := HFT1
    clear hx hr hv1 hv4 hv5 hR hRR HC0 HFD0 HFT0 HPI0 hTT hTv hTf h0 k3 k4 hb0 hn hix hER HFT1 hfk hgd hp
    go_enter Tryz.func10, Tryz.ntmps10
    go_wp2_with fail
    try simp only [hO]
    refine HC.out.mono ?_
    rintro e W1 ⟨rfl, hb1⟩
    obtain ⟨x0, x1, x2, x3, x4, x5, x6⟩ := HX.out W1 hb1
    go_wp2_with fail
    refine (HFD.out _ (bel0 hB1 hb1)).mono ?_
    rintro e W3 ⟨rfl, hb2⟩
    have hB3 := bel0 (bel0 hB1 hb1) hb2
    have hX3 := bel0 hb1 hb2
    clear x0 x1 x2 x3 x4 x5 x6
    go_wp2_with fail
    refine quiet_lit3 (C := fun W => Below W3.heap.size W3 W) (by kernel_rfl) (by kernel_rfl) (show Below _ _ _ from (Below.refl _ _).drew) ?_
    go_big_quiet_want
    go_big_quiet_op
    go_big_quiet_on
    go_big_quiet_want
    go_big_quiet_op
    go_big_quiet_on
    go_big_quiet_want
    refine ⟨.pointer (some ⟨g, o0 + k * 2, none⟩), fun W hW => ?_, ?_⟩
    · go_simp
    go_big_quiet_on
    simp only [Act.put, List.setIfInBounds_toArray, List.set_cons_zero, List.set_cons_succ]
    go_big_quiet_want
    refine ⟨.pointer (some ⟨g, o0 + k * 2 + 1, none⟩), fun W hW => ?_, ?_⟩
    · go_simp
    go_big_quiet_on
    simp only [Act.put, List.setIfInBounds_toArray, List.set_cons_zero, List.set_cons_succ]
    go_big_quiet_want
    refine ⟨.int .i64 (b : Int), fun W hW => ?_, ?_⟩
    · have z9 := XF.out W (bel0 hB3 hW)
      go_simp
    go_big_quiet_on
    simp only [Act.put, List.setIfInBounds_toArray, List.set_cons_zero, List.set_cons_succ]
    go_big_quiet_want
    refine ⟨.agg #[.string ⟨f.toArray⟩, .int .i64 op, .int .i64 form, .int .i64 lo, .int .i64 hi, .int .i64 len, .string ⟨pat.toArray⟩], fun W hW => ?_, ?_⟩
    · obtain ⟨x0, x1, x2, x3, x4, x5, x6⟩ := HX.out W (bel0 hX3 hW)
      go_simp
    go_big_quiet_on
    simp only [Act.put, List.setIfInBounds_toArray, List.set_cons_zero, List.set_cons_succ]
    go_big_quiet_want
    refine ⟨.int .i64 ER, fun W hW => ?_, ?_⟩
    · go_simp
      refine (HFT.out W (bel0 hB3 hW)).mono ?_
      rintro e w7 ⟨rfl, hb7⟩
      exact ⟨rfl, bel0 hW hb7⟩
    go_big_quiet_on
    simp only [Act.put, List.setIfInBounds_toArray, List.set_cons_zero, List.set_cons_succ]
    go_big_quiet_want
    go_big_quiet_op
    go_big_quiet_on
    refine wpQuiet_nil ?_
    intro W hW
    go_wp2_with fail
    refine bodyPost_ret (results_tmp2 rfl _ _ _) rfl ?_
    refine ⟨.slice none 0 0, ?_, ?_, bel0 hB3 hW⟩
    · rw [hres.out]
      rfl
    · rw [hres.out]
      exact World.ownsRow_nil _ _ _ _
  replace hflt := Classical.not_not.1 hflt
  have htok := flt_ok hflt
  rw [if_neg (fun h => h hflt), hp, hn, Int.toNat_natCast, Int.toNat_natCast] at hRR
  rw [hflt] at HFT1
  have HFT : Hid (∀ (W : World), Below w.heap.size w W → Calls Tryz.prog 28 #[.int .i64 (b : Int), .agg #[.string ⟨f.toArray⟩, .int .i64 op, .int .i64 form, .int .i64 lo, .int .i64 hi, .int .i64 len, .string ⟨pat.toArray⟩]] W fun e w' => e = .returned (.int .i64 0) ∧ Below W.heap.size W w') := HFT1
  have HPI1 := HPI0 b (by omega) (by omega) htok
  have hpw := pie_w (by omega) htok
  have hpln := pie_len (by omega) htok
  obtain ⟨PI, hPI⟩ : ∃ x, pieM b t = x := ⟨_, rfl⟩
  rw [hPI] at hRR hpw hpln
  simp only [hPI] at HPI1
  have HPI : Hid (∀ (W : World), Below w.heap.size w W → Calls Tryz.prog 29 #[.int .i64 (b : Int), .agg #[.string ⟨f.toArray⟩, .int .i64 op, .int .i64 form, .int .i64 lo, .int .i64 hi, .int .i64 len, .string ⟨pat.toArray⟩]] W fun e w' => slR W PI e w') := HPI1
  have HPW : Hid (∀ x ∈ PI, x.length = b) := hpw
  obtain ⟨Z, hZ⟩ : ∃ x, PI.map (putL (List.replicate n 120) p) = x := ⟨_, rfl⟩
  have hZl : Z.length = PI.length := by rw [← hZ, List.length_map]
  have HZ : Hid (∀ (i : Nat) (y : List UInt8), PI[i]? = some y → Z[i]? = some (putL (List.replicate n 120) p y)) := fun i y hy => by rw [← hZ, List.getElem?_map, hy]; rfl
  rw [hZ] at hRR
  have hres : Hid (R = (Z, 0)) := hRR.symm
  have HBL : Hid (∀ W : World, Below w.heap.size w W → Calls Tryz.prog 30 #[.slice (some ⟨g, o0, none⟩) L.length c] W fun e w' => ∃ K z cp, e = .returned (.slice (some ⟨K, 0, none⟩) n cp) ∧ W.heap.size ≤ K ∧ n ≤ cp ∧ hdr w' K z (List.replicate n 120) ∧ Below W.heap.size W w') := fun W hW => blank_any L _ c n W hn hn256 (by omega) hb0 (hr.later hW)
  have HLY : Hid (∀ (B : Nat) (W : World) (K cp : Nat) (z : List Value) (D : List UInt8), Below w.heap.size w W → n ≤ cp → D.length = b → hdr W K z (List.replicate n 120) → B ≤ K → B ≤ W.heap.size → Calls Tryz.prog 31 #[.slice (some ⟨K, 0, none⟩) n cp, .slice (some ⟨g, o0, none⟩) L.length c, .int .i64 (k : Int), .string ⟨D.toArray⟩] W fun e w' => (∃ v, e = .returned v) ∧ hdr w' K z (putL (List.replicate n 120) p D) ∧ Below B W w') := fun B W K cp z D hW hcp hD hh hBK hBW => lay_any L g o0 c k K cp z (List.replicate n 120) D n p B W (by rw [List.length_replicate]) hcp hp (by omega) (by omega) (by omega) hc (by omega) hb0 (hr.later hW) hh hBK hBW
  obtain ⟨i0, hi0, hz0, hz1, hz2⟩ := info_parts info_str
  have HPL : Hid (∀ y : List UInt8, (putL (List.replicate n 120) p y).length = n) := fun y => by rw [putL_len, List.length_replicate]
  clear hx hr hv1 hv4 hv5 hR hRR HC0 HFD0 HFT0 HPI0 hTT hTv hTf h0 k3 k4 hb0 hn hix hfk hgd hp hflt htok hpw hPI HPI1 HFT1 hZ
  go_enter Tryz.func10, Tryz.ntmps10
  go_wp2_with fail
  try simp only [hO]
  refine HC.out.mono ?_
  rintro e W1 ⟨rfl, hb1⟩
  obtain ⟨x0, x1, x2, x3, x4, x5, x6⟩ := HX.out W1 hb1
  go_wp2_with fail
  refine (HFD.out _ (bel0 hB1 hb1)).mono ?_
  rintro e W3 ⟨rfl, hb2⟩
  have hB3 := bel0 (bel0 hB1 hb1) hb2
  have hX3 := bel0 hb1 hb2
  clear x0 x1 x2 x3 x4 x5 x6
  go_wp2_with fail
  refine quiet_lit3 (C := fun W => Below W3.heap.size W3 W) (by kernel_rfl) (by kernel_rfl) (show Below _ _ _ from (Below.refl _ _).drew) ?_
  go_big_quiet_want
  go_big_quiet_op
  go_big_quiet_on
  go_big_quiet_want
  go_big_quiet_op
  go_big_quiet_on
  go_big_quiet_want
  refine ⟨.pointer (some ⟨g, o0 + k * 2, none⟩), fun W hW => ?_, ?_⟩
  · go_simp
  go_big_quiet_on
  simp only [Act.put, List.setIfInBounds_toArray, List.set_cons_zero, List.set_cons_succ]
  go_big_quiet_want
  refine ⟨.pointer (some ⟨g, o0 + k * 2 + 1, none⟩), fun W hW => ?_, ?_⟩
  · go_simp
  go_big_quiet_on
  simp only [Act.put, List.setIfInBounds_toArray, List.set_cons_zero, List.set_cons_succ]
  go_big_quiet_want
  refine ⟨.int .i64 (b : Int), fun W hW => ?_, ?_⟩
  · have z9 := XF.out W (bel0 hB3 hW)
    go_simp
  go_big_quiet_on
  simp only [Act.put, List.setIfInBounds_toArray, List.set_cons_zero, List.set_cons_succ]
  go_big_quiet_want
  refine ⟨.agg #[.string ⟨f.toArray⟩, .int .i64 op, .int .i64 form, .int .i64 lo, .int .i64 hi, .int .i64 len, .string ⟨pat.toArray⟩], fun W hW => ?_, ?_⟩
  · obtain ⟨x0, x1, x2, x3, x4, x5, x6⟩ := HX.out W (bel0 hX3 hW)
    go_simp
  go_big_quiet_on
  simp only [Act.put, List.setIfInBounds_toArray, List.set_cons_zero, List.set_cons_succ]
  go_big_quiet_want
  refine ⟨.int .i64 0, fun W hW => ?_, ?_⟩
  · go_simp
    refine (HFT.out W (bel0 hB3 hW)).mono ?_
    rintro e w7 ⟨rfl, hb7⟩
    exact ⟨rfl, bel0 hW hb7⟩
  go_big_quiet_on
  simp only [Act.put, List.setIfInBounds_toArray, List.set_cons_zero, List.set_cons_succ]
  go_big_quiet_want
  go_big_quiet_op
  go_big_quiet_on
  refine wpQuiet_nil ?_
  intro W hW
  have hBW := bel0 hB3 hW
  have hXW := bel0 hX3 hW
  obtain ⟨x0, x1, x2, x3, x4, x5, x6⟩ := HX.out W hXW
  obtain ⟨v0, v1, v2, v3, v4, v5, v6⟩ := HX.out _ hXW.drew
  have z9 := XF.out W hBW
  have z8 := XF.out _ hBW.drew
  have hBWd := hBW.drew
  clear HC HFD HFT HX hX3 hb1 hb2 hB1 XF
  go_wp2_with fail
  go_region_law ((go_simp; go_at_call 29; refine (HPI.out _ (by first | exact hBWd | exact hBW)).mono ?_; rintro e w5 ⟨v5', rfl, ho5, hb5⟩; have hB5 := (by first | exact bel0 hBWd hb5 | exact bel0 hBW hb5 : Below w.heap.size w w5); obtain ⟨p5, q5, rfl⟩ := shapeP ho5))
  all_goals
    have HO5 : Hid (∀ W', Below w5.heap.size w5 W' → ∃ B, W'.ownsRow B 9 1 (.slice p5 PI.length q5) PI.length (stx PI)) := fun W' hW' => ⟨_, owns_below ho5 hW'⟩
    have hw5 := hB5.size
    clear ho5 hb5
    go_wp2_with fail
    simp only [List.getElem_toArray, List.getElem_cons_succ, List.getElem_cons_zero, Act.put, List.setIfInBounds_toArray, List.set_cons_zero, List.set_cons_succ]
    go_loopw [10, 46] (fun v vi wr => ∃ i : Nat, vi = .int .i64 i ∧ i ≤ PI.length ∧ wr.ownsRow w5.heap.size 9 1 v i (stx (Z.take i)) ∧ Below w5.heap.size w5 wr) (fun _ vi _ => PI.length - (intOf vi).toNat)
    case atStart => exact ⟨0, rfl, Nat.zero_le _, World.ownsRow_nil _ _ _ _, Below.refl _ _⟩
    case round =>
      obtain ⟨i, rfl, hi, hown, hB⟩ := hrel
      obtain ⟨pv, cv, rfl⟩ := shapeP hown
      by_cases hlt : i < PI.length
      · have l1 : (i : Int) < (PI.length : Int) := by omega
        have l0 : (0 : Int) ≤ (i : Int) := by omega
        obtain ⟨B5, hoc⟩ := HO5.out wr hB
        obtain ⟨g5, rfl⟩ := own_at hoc (by omega)
        obtain ⟨D, hD⟩ : ∃ D, PI[i]? = some D := ⟨_, List.getElem?_eq_getElem hlt⟩
        have hDl := HPW.out D (List.mem_of_getElem? hD)
        have hcell : wr.cell? ⟨g5, i, none⟩ = some (.string ⟨D.toArray⟩) := by
          have e1 := stx_get PI i hlt
          rw [(List.getElem?_eq_some_iff.1 hD).2] at e1
          exact (hoc.cellAt i (by omega)).trans e1
        have hZi := HZ.out i D hD
        have hYl := HPL.out D
        have hLY := fun (B : Nat) (W : World) (K cp : Nat) (z : List Value) (h1 : Below w.heap.size w W) (h2 : n ≤ cp) (h3 : hdr W K z (List.replicate n 120)) (h4 : B ≤ K) (h5 : B ≤ W.heap.size) => HLY.out B W K cp z D h1 h2 hDl h3 h4 h5
        obtain ⟨Y, hY⟩ : ∃ Y, putL (List.replicate n 120) p D = Y := ⟨_, rfl⟩
        rw [hY] at hZi hYl
        simp only [hY] at hLY
        have HLYD : Hid (∀ (B : Nat) (W : World) (K cp : Nat) (z : List Value), Below w.heap.size w W → n ≤ cp → hdr W K z (List.replicate n 120) → B ≤ K → B ≤ W.heap.size → Calls Tryz.prog 31 #[.slice (some ⟨K, 0, none⟩) n cp, .slice (some ⟨g, o0, none⟩) L.length c, .int .i64 (k : Int), .string ⟨D.toArray⟩] W fun e w' => (∃ v, e = .returned v) ∧ hdr w' K z Y ∧ Below B W w') := hLY
        have HTK : Hid (stx (Z.take (i + 1)) = stx (Z.take i) ++ [.string ⟨Y.toArray⟩]) := by unfold Hid stx; rw [List.take_add_one, hZi, Option.toList_some, List.map_append]; rfl
        have hBw := bel0 hB5 hB
        clear hoc hD hZi hLY hY
        go_wp2_with fail
        refine (HBL.out _ hBw).mono ?_
        rintro e w6 ⟨K, z, cp, rfl, hK, hcp, hh6, hb6⟩
        have hBw6 := bel0 hBw hb6
        go_wp2_with fail
        refine (HLYD.out wr.heap.size _ K cp z hBw6 hcp hh6 hK hb6.size).mono ?_
        rintro e w7 ⟨⟨v7, rfl⟩, hh7, hb7⟩
        have hb67 := hb6.trans hb7
        have hB7 := bel0 hB hb67
        have hown7 := owns_below hown hb67
        clear hown
        have hcv := run_convert_bytes_back (P := Tryz.prog) w7 60 9 5 ⟨K, 0, none⟩ cp Y Tryz.underlying60 Tryz.underlying5 Tryz.underlying9 (fun j hj => by
          have := hdr_cell hh7 hj
          simp only [Addr.add]
          split
          · rename_i h; subst h; exact this
          · simpa using this)
        rw [hYl] at hcv
        have hs7 := hB7.size
        clear hh7 hh6 hb7 hb6 HLYD hb67
        go_wp2_with (at_builtin; refine wpList_append_own _ rfl _ _ 30 rfl w5.heap.size 9 i0 _ 1 16 Tryz.underlying30 hi0 hz0 hz1 hz2 rfl (by decide) _ _ _ rfl (hown7.alloc _) ⟨w7.heap.size, 0, none⟩ 1 1 [Value.string ⟨Y.toArray⟩] rfl rfl (World.news_of_block (cs := #[.string ⟨Y.toArray⟩]) (t := 9) (fr := (0, 0)) (alloc_get _ _)) (by simp [Value.oneCell']) (by unfold maxLen; omega) (by omega) (by simp; omega) ?_; intro v9 w9 oB hg9 _; have b9 : Below w5.heap.size w5 w9 := (hB7.alloc hB7.size _).grown hg9 (by simp; omega) (fun k e => (hown7.lt k e).1))
        go_roundw
        case rel => exact ⟨i + 1, by go_num, by omega, by rw [HTK.out]; exact oB, b9⟩
        case measure => simp [intOf]; omega
      · have l1 : ¬ (i : Int) < (PI.length : Int) := by omega
        obtain rfl : i = PI.length := by omega
        rw [List.take_of_length_le (by omega)] at hown
        have HO : Hid (wr.ownsRow w5.heap.size 9 1 (.slice pv PI.length cv) PI.length (stx Z)) := hown
        clear hown
        go_wp2_with fail
        refine bodyPost_ret (results_tmp2 rfl _ _ _) rfl ?_
        refine ⟨.slice pv PI.length cv, ?_, ?_, bel0 hB5 hB⟩
        · rw [hres.out]
          rfl
        · rw [hres.out]
          show wr.ownsRow _ _ _ _ Z.length _
          rw [hZl]
          exact Tn.own_base HO.out hw5
end Go.Proofs.YtnboehlbcjfndaaGreatDoor

import Derived.Test.YtepokgainceidaaGreatDoorYBI
namespace Go.Proofs.YtepokgainceidaaGreatDoor
open Go.RowKit Go.Shelf
theorem meet_x : ∀ (c : List UInt8) (k : Nat), k = c.length → Tn.meetT (List.replicate k 120) c = c
  | [], k, _ => by unfold Tn.meetT; simp
  | d :: c, 0, h => by simp at h
  | d :: c, k + 1, h => by
    have := meet_x c k (by simpa using h)
    unfold Tn.meetT at this ⊢
    rw [List.replicate_succ, List.zipWith_cons_cons, this]
    rfl
theorem pcT_x {n k : Nat} {c : List UInt8} {d : UInt8} (hl : c.length = n) (hk : c[k]? = some d) : Tn.pcT (List.replicate n 120) c k = c.take k ++ [Tn.oth d] ++ List.replicate (n - k - 1) 120 := by
  obtain ⟨h1, h2⟩ := List.getElem?_eq_some_iff.1 hk
  unfold Tn.pcT Tn.rsT
  rw [List.take_replicate, Nat.min_eq_left (by omega), meet_x (c.take k) k (by rw [List.length_take]; omega), List.drop_replicate]
  have hg : c.getD k 0 = d := by simp [List.getD, hk]
  have hlen : (c.take k).length = k := by rw [List.length_take]; omega
  rw [hg, List.set_append_right _ _ (by omega), hlen, Nat.sub_self]
  obtain ⟨m, hm⟩ : ∃ m, n - k = m + 1 := ⟨n - k - 1, by omega⟩
  rw [hm, List.replicate_succ, List.set_cons_zero, Nat.add_sub_cancel, List.append_assoc]
  rfl
theorem pcs_x {n k : Nat} {c : List UInt8} {d : UInt8} (hl : c.length = n) (hk : c[k]? = some d) : Tn.pcs (List.replicate n 120) c (k + 1) = Tn.pcs (List.replicate n 120) c k ++ (if d = 120 then [] else [c.take k ++ [Tn.oth d] ++ List.replicate (n - k - 1) 120]) := by
  obtain ⟨h1, h2⟩ := List.getElem?_eq_some_iff.1 hk
  have hq := Tn.qual_bytes (List.replicate n 120) c (by rw [List.length_replicate, hl]) k (by rw [List.length_replicate]; omega)
  rw [h2, List.getElem_replicate] at hq
  rw [Tn.pcs, hq, pcT_x hl hk]
  congr 1
  by_cases e : d = 120
  · rw [if_pos e, e]
    rfl
  · rw [if_neg e, if_pos]
    simpa using e
set_option maxRecDepth 100000 in
set_option maxHeartbeats 2000000 in
theorem refOther_any (n : Nat) (c : List UInt8) (w : World) (hn : n ≤ 32) (hl : c.length = n) : Calls Tryz.prog 72 #[.string ⟨c.toArray⟩] w fun e w' => slR w (splX n c) e w' := by
  obtain ⟨i0, hi0, hz0, hz1, hz2⟩ := info_parts info_str
  have HST : Hid (∀ (k : Nat) (d : UInt8), c[k]? = some d → Tn.pcs (List.replicate n 120) c (k + 1) = Tn.pcs (List.replicate n 120) c k ++ (if d = 120 then [] else [c.take k ++ [Tn.oth d] ++ List.replicate (n - k - 1) 120])) := fun k d h => pcs_x hl h
  obtain ⟨R, hR⟩ : ∃ R, splX n c = R := ⟨_, rfl⟩
  rw [hR]
  have HRR : Hid (Tn.pcs (List.replicate n 120) c n = R) := hR
  clear hR
  go_enter Tryz.func72, Tryz.ntmps72
  go_wp2_with fail
  go_loopw [3, 4] (fun v vi wr => ∃ (i : Nat) (M : List (List UInt8)), vi = .int .i64 i ∧ i ≤ n ∧ M.length ≤ i ∧ Hid (Tn.pcs (List.replicate n 120) c i = M) ∧ wr.ownsRow w.heap.size 9 1 v M.length (stx M) ∧ Below w.heap.size w wr) (fun _ vi _ => n - (intOf vi).toNat)
  case atStart => exact ⟨0, [], rfl, Nat.zero_le _, Nat.zero_le _, rfl, World.ownsRow_nil _ _ _ _, Below.refl _ _⟩
  case round =>
    obtain ⟨i, M, rfl, hi, hMi, hM, hown, hB⟩ := hrel
    obtain ⟨pv, cv, rfl⟩ := shapeP hown
    by_cases hlt : i < n
    · have j1 : (i : Int) < (c.length : Int) := by omega
      have j0 : (0 : Int) ≤ (i : Int) := by omega
      obtain ⟨d, hd, hld⟩ := byte_get c i (by omega)
      have hst := HST.out i d hld
      rw [hM.out] at hst
      by_cases dx : d = 120
      · rw [if_pos dx, List.append_nil] at hst
        have HSC : Hid (Tn.pcs (List.replicate n 120) c (i + 1) = M) := hst
        subst dx
        clear hst hld hM
        go_wp2_with fail
        go_roundw
        case rel => exact ⟨i + 1, M, by go_num, by omega, by omega, HSC, hown, hB⟩
        case measure => simp [intOf]; omega
      · rw [if_neg dx] at hst
        have n1 : ((d.toNat : Int) != 120) = true := by
          rw [bne_iff_ne]
          intro e
          exact dx (UInt8.toNat_inj.1 (by show d.toNat = 120; omega))
        have HX0 := fun W => xs_any (n - i - 1) (by omega) W
        have hTl : (c.take i).length = i := by rw [List.length_take]; omega
        have hXl : (List.replicate (n - i - 1) (120 : UInt8)).length = n - i - 1 := List.length_replicate
        have hE : (ByteArray.mk c.toArray).extract 0 i = ⟨(c.take i).toArray⟩ := by have := ext_sub c 0 i; rw [this]; rfl
        obtain ⟨T1, hT1⟩ : ∃ D, c.take i = D := ⟨_, rfl⟩
        obtain ⟨X1, hX1⟩ : ∃ D, List.replicate (n - i - 1) (120 : UInt8) = D := ⟨_, rfl⟩
        rw [hT1] at hTl hE hst
        rw [hX1] at hXl hst
        simp only [hX1] at HX0
        obtain ⟨Y, hYc⟩ : ∃ Y, T1 ++ [Tn.oth d] ++ X1 = Y := ⟨_, rfl⟩
        rw [hYc] at hst
        have HSC : Hid (Tn.pcs (List.replicate n 120) c (i + 1) = M ++ [Y]) := hst
        have HXS : Hid (∀ W : World, Calls Tryz.prog 37 #[.int .i64 ((n - i - 1 : Nat) : Int)] W fun e w' => e = .returned (.string ⟨X1.toArray⟩) ∧ Below W.heap.size W w') := HX0
        have HE : Hid (stx (M ++ [Y]) = stx M ++ [.string ⟨Y.toArray⟩]) := stx_snoc M Y
        have m2 : (i : Int) ≤ (c.length : Int) := by omega
        have e1 : IntKind.i64.wrap ((c.length : Int) - (i : Int)) = ((n - i : Nat) : Int) := by rw [IntKind.wrap_i64]; omega
        have e2 : IntKind.i64.wrap (((n - i : Nat) : Int) - 1) = ((n - i - 1 : Nat) : Int) := by rw [IntKind.wrap_i64]; omega
        have hq1 : ¬ 9223372036854775807 < T1.length + 1 := by omega
        have hq2 : ¬ 9223372036854775807 < T1.length + 1 + X1.length := by omega
        have hownd : wr.drew.ownsRow w.heap.size 9 1 (.slice pv M.length cv) M.length (stx M) := owns_below hown (Below.refl _ _).drew
        have hBd := hB.drew
        by_cases d48 : d = 48
        · have n2 : ((d.toNat : Int) == 48) = true := by rw [d48]; rfl
          rw [show Tn.oth d = 49 by rw [d48]; rfl] at hYc
          clear hst hld hM HX0 hT1 hX1 d48 dx hTl hXl hl
          have hcat : T1 ++ [49] ++ X1 = Y := hYc
          have HCT : Hid (ByteArray.mk T1.toArray ++ ByteArray.mk #[49] ++ ByteArray.mk X1.toArray = ⟨Y.toArray⟩) := by unfold Hid; rw [← hcat]; exact ByteArray.ext (by simp)
          clear hcat hYc
          go_wp2_with fail
          go_region_law ((first | (have chk := hown7; refine step_append_lies _ (by rfl) _ _ 25 (by rfl) w.heap.size 9 i0 _ 1 16 Tryz.underlying25 hi0 hz0 hz1 hz2 rfl (by decide) _ M.length (stx M) (by rfl) (hown7.alloc _) ⟨w1.heap.size, 0, none⟩ 1 1 [.string (ByteArray.mk T1.toArray ++ ByteArray.mk #[49] ++ ByteArray.mk X1.toArray)] (by rfl) rfl (World.news_of_block (cs := #[.string (ByteArray.mk T1.toArray ++ ByteArray.mk #[49] ++ ByteArray.mk X1.toArray)]) (t := 9) (fr := (0, 0)) (heap_alloc_new _ _)) (by simp [Value.oneCell']) (by decide) (by unfold maxLen; omega) (by omega) (by simp; omega) _ rfl ?_; intro g5 c5 w5 oB hg5 _ _) | (go_simp; go_at_call 37; refine (HXS.out _).mono ?_; rintro e w1 ⟨rfl, hb1⟩; have hown7 := (by first | exact owns_below hownd hb1 | exact owns_below hown hb1 : w1.ownsRow w.heap.size 9 1 (.slice pv M.length cv) M.length (stx M)); have hB7 := (by first | exact bel0 hBd hb1 | exact bel0 hB hb1 : Below w.heap.size w w1); have hBs7 := hB7.size)))
          all_goals
            go_wp2_with fail
            go_roundw
            case rel => exact ⟨i + 1, M ++ [Y], by go_num, by omega, by simp; omega, HSC, by rw [HE.out, ← HCT.out, List.length_append]; exact oB, (by first | exact Below.grown ((hB7.alloc hBs7 _).drew) hg5 (by simp; omega) (fun k e => (hown7.lt k e).1) | exact Below.grown ((hB7.drew).alloc hBs7 _) hg5 (by simp; omega) (fun k e => (hown7.lt k e).1) | exact Below.grown (hB7.alloc hBs7 _) hg5 (by simp; omega) (fun k e => (hown7.lt k e).1))⟩
            case measure => simp [intOf]; omega
        · have n2 : ((d.toNat : Int) == 48) = false := u8_ne (d := 48) d48
          rw [show Tn.oth d = 48 by unfold Tn.oth; rw [if_neg (by simpa using d48)]] at hYc
          clear hst hld hM HX0 hT1 hX1 d48 dx hTl hXl hl
          have hcat : T1 ++ [48] ++ X1 = Y := hYc
          have HCT : Hid (ByteArray.mk T1.toArray ++ ByteArray.mk #[48] ++ ByteArray.mk X1.toArray = ⟨Y.toArray⟩) := by unfold Hid; rw [← hcat]; exact ByteArray.ext (by simp)
          clear hcat hYc
          go_wp2_with fail
          go_region_law ((first | (have chk := hown7; refine step_append_lies _ (by rfl) _ _ 25 (by rfl) w.heap.size 9 i0 _ 1 16 Tryz.underlying25 hi0 hz0 hz1 hz2 rfl (by decide) _ M.length (stx M) (by rfl) (hown7.alloc _) ⟨w1.heap.size, 0, none⟩ 1 1 [.string (ByteArray.mk T1.toArray ++ ByteArray.mk #[48] ++ ByteArray.mk X1.toArray)] (by rfl) rfl (World.news_of_block (cs := #[.string (ByteArray.mk T1.toArray ++ ByteArray.mk #[48] ++ ByteArray.mk X1.toArray)]) (t := 9) (fr := (0, 0)) (heap_alloc_new _ _)) (by simp [Value.oneCell']) (by decide) (by unfold maxLen; omega) (by omega) (by simp; omega) _ rfl ?_; intro g5 c5 w5 oB hg5 _ _) | (go_simp; go_at_call 37; refine (HXS.out _).mono ?_; rintro e w1 ⟨rfl, hb1⟩; have hown7 := (by first | exact owns_below hownd hb1 | exact owns_below hown hb1 : w1.ownsRow w.heap.size 9 1 (.slice pv M.length cv) M.length (stx M)); have hB7 := (by first | exact bel0 hBd hb1 | exact bel0 hB hb1 : Below w.heap.size w w1); have hBs7 := hB7.size)))
          all_goals
            go_wp2_with fail
            go_roundw
            case rel => exact ⟨i + 1, M ++ [Y], by go_num, by omega, by simp; omega, HSC, by rw [HE.out, ← HCT.out, List.length_append]; exact oB, (by first | exact Below.grown ((hB7.alloc hBs7 _).drew) hg5 (by simp; omega) (fun k e => (hown7.lt k e).1) | exact Below.grown ((hB7.drew).alloc hBs7 _) hg5 (by simp; omega) (fun k e => (hown7.lt k e).1) | exact Below.grown (hB7.alloc hBs7 _) hg5 (by simp; omega) (fun k e => (hown7.lt k e).1))⟩
            case measure => simp [intOf]; omega
    · have j1 : ¬ (i : Int) < (c.length : Int) := by omega
      obtain rfl : i = n := by omega
      have hRM : R = M := by rw [← HRR.out, hM.out]
      subst hRM
      have HO : Hid (wr.ownsRow w.heap.size 9 1 (.slice pv R.length cv) R.length (stx R)) := hown
      clear hown hM
      go_wp2_with fail
      go_ret
      exact ⟨_, rfl, HO.out, hB⟩
set_option maxRecDepth 100000 in
set_option maxHeartbeats 2000000 in
theorem refAt_any (b : Nat) (t : TS) (w : World) (_hb1 : 1 ≤ b) (hb : b ≤ 32) (h : TOK b t) : Calls Tryz.prog 36 #[t.v, .int .i64 (b : Int)] w fun e w' => slR w (pieM b t) e w' := by
  have hp : 2 ^ b ≤ 2 ^ 32 := Nat.pow_le_pow_right (by decide) hb
  have hp0 : 0 < 2 ^ b := Nat.pow_pos (by decide)
  obtain ⟨i0, hi0, hz0, hz1, hz2⟩ := info_parts info_str
  have HON0 := fun W => refOne_any b t W hb h
  have hol := (one_good hb h).1
  have HOT0 := fun W => refOther_any b (oneM b t) W hb hol
  obtain ⟨k1, k2, k3, k4, k5, -, -, -, k8, -⟩ := h
  obtain ⟨R, hR⟩ : ∃ R, pieM b t = R := ⟨_, rfl⟩
  rw [hR]
  have HG0 := fun W => top_any b hb W
  have HPF : ∀ (x y : Int) (W : World), 0 ≤ x → y < ((2 ^ b : Nat) : Int) → Calls Tryz.prog 70 #[.int .i64 (b : Int), .int .i64 x, .int .i64 y] W fun e w' => slR W (covI b x y) e w' := fun x y W hx hy => refFrom_any b x y W hb hx hy
  have hRR : pieM b t = R := hR
  unfold pieM othM at hRR
  obtain ⟨on, hon⟩ : ∃ x, oneM b t = x := ⟨_, rfl⟩
  rw [hon] at hRR hol
  simp only [hon] at HON0 HOT0
  obtain ⟨sp, hsp⟩ : ∃ x, splX b on = x := ⟨_, rfl⟩
  rw [hsp] at hRR
  simp only [hsp] at HOT0
  obtain ⟨f, op, form, lo, hi, len, pat⟩ := t
  unfold tstB at k1
  rw [decide_eq_true_eq] at k1
  simp only at k1 k2 k3 k4 k5 hRR k8
  obtain ⟨a1, a2, a3, a4, a5, -⟩ := k1
  have l1 := covI_len (b := b) (lo := 0) (hi := lo - 1) hb (by omega) (by omega)
  have l2 := covI_len (b := b) (lo := hi + 1) (hi := ((2 ^ b - 1 : Nat) : Int)) hb (by omega) (by omega)
  obtain ⟨G, hG⟩ : ∃ G : Nat, 2 ^ b - 1 = G := ⟨_, rfl⟩
  have hGp : ((2 ^ b : Nat) : Int) = (G : Int) + 1 := by omega
  simp only [hG] at HG0 k3 k5 hRR l2
  rw [hGp] at HPF
  have hG32 : (G : Int) < 4294967296 := by omega
  have HP : Hid (∀ (x y : Int) (W : World), 0 ≤ x → y < (G : Int) + 1 → Calls Tryz.prog 70 #[.int .i64 (b : Int), .int .i64 x, .int .i64 y] W fun e w' => slR W (covI b x y) e w') := HPF
  have HG : Hid (∀ W : World, Calls Tryz.prog 69 #[.int .i64 (b : Int)] W fun e w' => e = .returned (.int .i64 (G : Int)) ∧ w' = W) := HG0
  have HOT : Hid (∀ (W : World), Calls Tryz.prog 72 #[.string ⟨on.toArray⟩] W fun e w' => slR W sp e w') := HOT0
  have HON : Hid (∀ (W : World), Calls Tryz.prog 71 #[.agg #[.string ⟨f.toArray⟩, .int .i64 op, .int .i64 form, .int .i64 lo, .int .i64 hi, .int .i64 len, .string ⟨pat.toArray⟩], .int .i64 (b : Int)] W fun e w' => e = .returned (.string ⟨on.toArray⟩) ∧ Below W.heap.size W w') := HON0
  have u1 : IntKind.i64.wrap (lo + 1) = lo + 1 := by rw [IntKind.wrap_i64]; omega
  have u2 : wrap64 (lo - 1) = lo - 1 := w64 (by omega) (by omega)
  have u3 : IntKind.i64.wrap (hi + 1) = hi + 1 := by rw [IntKind.wrap_i64]; omega
  show Calls Tryz.prog 36 #[.agg #[.string ⟨f.toArray⟩, .int .i64 op, .int .i64 form, .int .i64 lo, .int .i64 hi, .int .i64 len, .string ⟨pat.toArray⟩], .int .i64 (b : Int)] w _
  obtain ⟨O, hO⟩ : ∃ O : Obj, Obj.cells #[.string ⟨f.toArray⟩, .int .i64 op, .int .i64 form, .int .i64 lo, .int .i64 hi, .int .i64 len, .string ⟨pat.toArray⟩] 24 = O := ⟨_, rfl⟩
  have hB1 : Below w.heap.size w (w.alloc O) := (Below.refl _ _).alloc (Nat.le_refl _) _
  have hbx : (w.alloc O).heap[w.heap.size]? = some (.cells #[.string ⟨f.toArray⟩, .int .i64 op, .int .i64 form, .int .i64 lo, .int .i64 hi, .int .i64 len, .string ⟨pat.toArray⟩] 24) := by rw [hO]; exact alloc_get _ _
  have HX : Hid (∀ W : World, Below (w.alloc O).heap.size (w.alloc O) W → W.cell? ⟨w.heap.size, 0, none⟩ = some (.string ⟨f.toArray⟩) ∧ W.cell? ⟨w.heap.size, 1, none⟩ = some (.int .i64 op) ∧ W.cell? ⟨w.heap.size, 2, none⟩ = some (.int .i64 form) ∧ W.cell? ⟨w.heap.size, 3, none⟩ = some (.int .i64 lo) ∧ W.cell? ⟨w.heap.size, 4, none⟩ = some (.int .i64 hi) ∧ W.cell? ⟨w.heap.size, 5, none⟩ = some (.int .i64 len) ∧ W.cell? ⟨w.heap.size, 6, none⟩ = some (.string ⟨pat.toArray⟩)) := fun W hW => ⟨cell_of_row _ _ 0 _ _ _ (keepblk hW hbx), cell_of_row _ _ 1 _ _ _ (keepblk hW hbx), cell_of_row _ _ 2 _ _ _ (keepblk hW hbx), cell_of_row _ _ 3 _ _ _ (keepblk hW hbx), cell_of_row _ _ 4 _ _ _ (keepblk hW hbx), cell_of_row _ _ 5 _ _ _ (keepblk hW hbx), cell_of_row _ _ 6 _ _ _ (keepblk hW hbx)⟩
  obtain ⟨t0, t1, t2, t3, t4, t5, t6⟩ := HX.out _ (Below.refl _ _)
  obtain ⟨v0, v1, v2, v3, v4, v5, v6⟩ := HX.out _ (Below.refl _ _).drew
  have hB1d := hB1.drew
  have HRR : Hid ((if op = 4 then covI b 0 lo else if op = 3 then covI b 0 (lo - 1) else if op = 6 then covI b lo (G : Int) else if op = 5 then covI b (lo + 1) (G : Int) else if op = 2 then (if form = 3 then covI b 0 (lo - 1) ++ covI b (hi + 1) (G : Int) else sp) else if form = 3 then covI b lo hi else [on]) = R) := hRR
  clear hbx HOT0 HON0 HG0 HPF hG hGp hR hRR hon hp hp0 hsp hol a5
  by_cases p4 : op = 4
  · have hR := HRR.out
    rw [if_pos p4] at hR
    subst p4
    subst hR
    clear HRR
    go_enter Tryz.func36, Tryz.ntmps36
    go_wp2_with fail
    try simp only [hO]
    refine (HP.out 0 lo _ (by omega) (by omega)).mono ?_
    rintro e W1 ⟨v1', rfl, ho1, hb1⟩
    go_wp2_with fail
    go_ret
    exact ⟨_, rfl, Tn.own_base ho1 hB1.size, bel0 hB1 hb1⟩
  have q4 : (op == 4) = false := by rw [beq_eq_false_iff_ne]; exact p4
  by_cases p3 : op = 3
  · have hR := HRR.out
    rw [if_neg p4, if_pos p3] at hR
    subst p3
    subst hR
    clear HRR p4 q4
    go_enter Tryz.func36, Tryz.ntmps36
    go_wp2_with fail
    try simp only [hO]
    refine (HP.out 0 (lo - 1) _ (by omega) (by omega)).mono ?_
    rintro e W1 ⟨v1', rfl, ho1, hb1⟩
    go_wp2_with fail
    go_ret
    exact ⟨_, rfl, Tn.own_base ho1 hB1.size, bel0 hB1 hb1⟩
  have q3 : (op == 3) = false := by rw [beq_eq_false_iff_ne]; exact p3
  by_cases p6 : op = 6
  · have hR := HRR.out
    rw [if_neg p4, if_neg p3, if_pos p6] at hR
    subst p6
    subst hR
    have HP6 : Hid (∀ (W : World), Calls Tryz.prog 70 #[.int .i64 (b : Int), .int .i64 lo, .int .i64 (G : Int)] W fun e w' => slR W (covI b lo (G : Int)) e w') := fun W => HP.out lo (G : Int) W (by omega) (by omega)
    clear HRR p4 q4 p3 q3 HP
    go_enter Tryz.func36, Tryz.ntmps36
    go_wp2_with fail
    try simp only [hO]
    go_region_law ((first | (go_simp; go_at_call 70; refine (HP6.out _).mono ?_; rintro e w1 ⟨v1', rfl, ho1, hb1⟩) | (go_simp; go_at_call 69; refine (HG.out _).mono ?_; rintro e wg ⟨rfl, rfl⟩)))
    all_goals
      go_wp2_with fail
      go_ret
      exact ⟨_, rfl, Tn.own_base ho1 (by first | exact hB1d.size | exact hB1.size), (by first | exact bel0 hB1d hb1 | exact bel0 hB1 hb1)⟩
  have q6 : (op == 6) = false := by rw [beq_eq_false_iff_ne]; exact p6
  by_cases p5 : op = 5
  · have hR := HRR.out
    rw [if_neg p4, if_neg p3, if_neg p6, if_pos p5] at hR
    subst p5
    subst hR
    have HP5 : Hid (∀ (W : World), Calls Tryz.prog 70 #[.int .i64 (b : Int), .int .i64 (lo + 1), .int .i64 (G : Int)] W fun e w' => slR W (covI b (lo + 1) (G : Int)) e w') := fun W => HP.out (lo + 1) (G : Int) W (by omega) (by omega)
    clear HRR p4 q4 p3 q3 p6 q6 HP
    go_enter Tryz.func36, Tryz.ntmps36
    go_wp2_with fail
    try simp only [hO]
    go_region_law ((first | (go_simp; go_at_call 70; refine (HP5.out _).mono ?_; rintro e w1 ⟨v1', rfl, ho1, hb1⟩) | (go_simp; go_at_call 69; refine (HG.out _).mono ?_; rintro e wg ⟨rfl, rfl⟩)))
    all_goals
      go_wp2_with fail
      go_ret
      exact ⟨_, rfl, Tn.own_base ho1 (by first | exact hB1d.size | exact hB1.size), (by first | exact bel0 hB1d hb1 | exact bel0 hB1 hb1)⟩
  have q5 : (op == 5) = false := by rw [beq_eq_false_iff_ne]; exact p5
  by_cases p1 : form = 3
  · have hlh := k8 p1
    have n3 : (form != 3) = false := by rw [p1]; rfl
    by_cases p2 : op = 2
    · have hR := HRR.out
      rw [if_neg p4, if_neg p3, if_neg p6, if_neg p5, if_pos p2, if_pos p1] at hR
      subst p2
      have n1 : ((2 : Int) == 1) = false := rfl
      obtain ⟨L1, hL1⟩ : ∃ L, covI b 0 (lo - 1) = L := ⟨_, rfl⟩
      obtain ⟨L2, hL2⟩ : ∃ L, covI b (hi + 1) (G : Int) = L := ⟨_, rfl⟩
      have HP1 : Hid (∀ (W : World), Calls Tryz.prog 70 #[.int .i64 (b : Int), .int .i64 0, .int .i64 (lo - 1)] W fun e w' => slR W L1 e w') := fun W => by have := HP.out 0 (lo - 1) W (by omega) (by omega); rw [hL1] at this; exact this
      have HP2 : Hid (∀ (W : World), Calls Tryz.prog 70 #[.int .i64 (b : Int), .int .i64 (hi + 1), .int .i64 (G : Int)] W fun e w' => slR W L2 e w') := fun W => by have := HP.out (hi + 1) (G : Int) W (by omega) (by omega); rw [hL2] at this; exact this
      rw [hL1, hL2] at hR
      rw [hL1] at l1
      rw [hL2] at l2
      have HRL : Hid (R = L1 ++ L2) := hR.symm
      clear HRR p4 p3 p6 p5 p1 HP hL1 hL2 hR
      go_enter Tryz.func36, Tryz.ntmps36
      go_wp2_with fail
      try simp only [hO]
      refine (HP1.out _).mono ?_
      rintro e w1 ⟨v1', rfl, ho1, hb1⟩
      obtain ⟨o1, c1, rfl⟩ := shapeP ho1
      have hBB := bel0 hB1 hb1
      obtain ⟨y0, y1, y2, y3, y4, y5, y6⟩ := HX.out w1 hb1
      obtain ⟨s0, s1, s2, s3, s4, s5, s6⟩ := HX.out w1.drew hb1.drew
      have HO1 : Hid (∀ W, Below w1.heap.size w1 W → W.ownsRow w.heap.size 9 1 (.slice o1 L1.length c1) L1.length (stx L1)) := fun W hW => owns_below (Tn.own_base ho1 hB1.size) hW
      clear ho1 t0 t1 t2 t3 t4 t5 t6 v0 v1 v2 v3 v4 v5 v6
      go_wp2_with fail
      go_region_law ((first | (go_simp; go_at_call 70; refine (HP2.out _).mono ?_; rintro e w2 ⟨v2', rfl, ho2, hb2⟩; have hb2' := (by first | exact bel0 (Below.refl _ _).drew hb2 | exact hb2 : Below w1.heap.size w1 w2); obtain ⟨o2, c2, rfl⟩ := shapeP ho2) | (go_simp; go_at_call 69; refine (HG.out _).mono ?_; rintro e wg ⟨rfl, rfl⟩)))
      all_goals
        have HO2 : Hid (∀ W', Below w2.heap.size w2 W' → ∃ B, W'.ownsRow B 9 1 (.slice o2 L2.length c2) L2.length (stx L2)) := fun W' hW' => ⟨_, owns_below ho2 hW'⟩
        have hB2 := bel0 hBB hb2'
        have ho12 := HO1.out w2 hb2'
        have hne0 : Hid (∀ q, (Value.slice o1 L1.length c1).ownBlock = some q → (Value.slice o2 L2.length c2).ownBlock ≠ some q) := fun q e1 e2 => by
          have g1 := (HO1.out w1 (Below.refl _ _)).lt q e1
          have g2 : w1.heap.size ≤ q := (ho2.lt q e2).1
          omega
        clear ho2 hb2
        go_wp2_with fail
        try simp only [List.getElem_toArray, List.getElem_cons_succ, List.getElem_cons_zero, Act.put, List.setIfInBounds_toArray, List.set_cons_zero, List.set_cons_succ]
        go_loopw [6, 8] (fun v vi wr => ∃ i : Nat, vi = .int .i64 i ∧ i ≤ L2.length ∧ wr.ownsRow w.heap.size 9 1 v (L1.length + i) (stx (L1 ++ L2.take i)) ∧ Below w.heap.size w wr ∧ (∃ B, wr.ownsRow B 9 1 (.slice o2 L2.length c2) L2.length (stx L2)) ∧ Hid (∀ q, v.ownBlock = some q → (Value.slice o2 L2.length c2).ownBlock ≠ some q)) (fun _ vi _ => L2.length - (intOf vi).toNat)
        case atStart => exact ⟨0, rfl, Nat.zero_le _, by rw [List.take_zero, List.append_nil]; exact ho12, hB2, HO2.out _ (Below.refl _ _), hne0⟩
        case round =>
          clear ho12 hB2 HO2 hne0
          obtain ⟨i, rfl, hi2, hown, hB, ⟨B2, hr⟩, hne⟩ := hrel
          obtain ⟨pv, cv, rfl⟩ := shapeP hown
          by_cases hlt : i < L2.length
          · have j1 : (i : Int) < (L2.length : Int) := by omega
            have j0 : (0 : Int) ≤ (i : Int) := by omega
            obtain ⟨g2, rfl⟩ := own_at hr (by omega)
            obtain ⟨D, hD⟩ : ∃ D, L2[i]? = some D := ⟨_, List.getElem?_eq_getElem hlt⟩
            have hcell : wr.cell? ⟨g2, i, none⟩ = some (.string ⟨D.toArray⟩) := by
              have e1 := stx_get L2 i hlt
              rw [(List.getElem?_eq_some_iff.1 hD).2] at e1
              exact (hr.cellAt i (by omega)).trans e1
            have HTK : Hid (stx (L1 ++ L2.take (i + 1)) = stx (L1 ++ L2.take i) ++ [.string ⟨D.toArray⟩]) := by unfold Hid stx; rw [List.take_add_one, hD, Option.toList_some, ← List.append_assoc, List.map_append]; rfl
            have hg2 : g2 < wr.heap.size := (hr.lt g2 rfl).2
            have hBs := hB.size
            have HR0 : Hid (wr.ownsRow B2 9 1 (.slice (some ⟨g2, 0, none⟩) L2.length c2) L2.length (stx L2)) := hr
            clear hr hD
            go_wp2_with (at_builtin; refine wpList_append_lies _ rfl _ _ 25 rfl w.heap.size 9 i0 _ 1 16 Tryz.underlying25 hi0 hz0 hz1 hz2 rfl (by decide) _ _ _ rfl (hown.alloc _) ⟨wr.heap.size, 0, none⟩ 1 1 [Value.string ⟨D.toArray⟩] rfl rfl (World.news_of_block (cs := #[.string ⟨D.toArray⟩]) (t := 9) (fr := (0, 0)) (alloc_get _ _)) (by simp [Value.oneCell']) (by decide) (by unfold maxLen; omega) (by omega) (by simp; omega) _ rfl ?_; intro g9 c9 w9 oB hg9 hw9 _; have b9 : Below w.heap.size w w9 := (hB.alloc hBs _).grown hg9 (by simp; omega) (fun k e => (hown.lt k e).1))
            have hr9 : w9.ownsRow B2 9 1 (.slice (some ⟨g2, 0, none⟩) L2.length c2) L2.length (stx L2) := (HR0.out.alloc _).kept hg9 (.inr (fun e => hne.out g2 e.symm rfl))
            have hne9 : Hid (∀ q, (Value.slice (some ⟨g9, 0, none⟩) (L1.length + i + 1) c9).ownBlock = some q → (Value.slice (some ⟨g2, 0, none⟩) L2.length c2).ownBlock ≠ some q) := fun q e1 e2 => by
              have e3 : g9 = q := Option.some.inj e1
              have e4 : g2 = q := Option.some.inj e2
              rcases hw9 with h | h
              · exact hne.out g9 h (by rw [e3, ← e4]; rfl)
              · have h8 : (wr.alloc (.cells #[.string ⟨D.toArray⟩] 9)).heap.size = wr.heap.size + 1 := by simp
                rw [h8] at h
                omega
            go_roundw
            case rel => exact ⟨i + 1, by go_num, by omega, by rw [HTK.out]; exact oB, b9, ⟨B2, hr9⟩, hne9⟩
            case measure => simp [intOf]; omega
          · have j1 : ¬ (i : Int) < (L2.length : Int) := by omega
            obtain rfl : i = L2.length := by omega
            rw [List.take_of_length_le (Nat.le_refl _)] at hown
            have HO : Hid (wr.ownsRow w.heap.size 9 1 (.slice pv (L1.length + L2.length) cv) (L1.length + L2.length) (stx (L1 ++ L2))) := hown
            clear hown hr
            go_wp2_with fail
            go_ret
            exact ⟨_, rfl, by rw [HRL.out, List.length_append]; exact HO.out, hB⟩
    · have e1 : op = 1 := by omega
      have hR := HRR.out
      rw [if_neg p4, if_neg p3, if_neg p6, if_neg p5, if_neg p2, if_pos p1] at hR
      subst e1
      subst hR
      clear HRR p4 p3 p6 p5 p2 p1
      go_enter Tryz.func36, Tryz.ntmps36
      go_wp2_with fail
      try simp only [hO]
      refine (HP.out lo hi _ (by omega) (by omega)).mono ?_
      rintro e W1 ⟨v1', rfl, ho1, hb1⟩
      go_wp2_with fail
      go_ret
      exact ⟨_, rfl, Tn.own_base ho1 hB1.size, bel0 hB1 hb1⟩
  · have n3 : (form != 3) = true := by rw [bne_iff_ne]; exact p1
    by_cases p2 : op = 2
    · have hR := HRR.out
      rw [if_neg p4, if_neg p3, if_neg p6, if_neg p5, if_pos p2, if_neg p1] at hR
      subst p2
      subst hR
      clear HRR p4 p3 p6 p5 p1
      go_enter Tryz.func36, Tryz.ntmps36
      go_wp2_with fail
      try simp only [hO]
      refine (HON.out _).mono ?_
      rintro e W1 ⟨rfl, hb1⟩
      have hBB := bel0 hB1 hb1
      obtain ⟨y0, y1, y2, y3, y4, y5, y6⟩ := HX.out W1 hb1
      go_wp2_with fail
      refine (HOT.out _).mono ?_
      rintro e W2 ⟨v2', rfl, ho2, hb2⟩
      go_wp2_with fail
      go_ret
      exact ⟨_, rfl, Tn.own_base ho2 hBB.size, bel0 hBB hb2⟩
    · have e1 : op = 1 := by omega
      have hR := HRR.out
      rw [if_neg p4, if_neg p3, if_neg p6, if_neg p5, if_neg p2, if_neg p1] at hR
      subst e1
      subst hR
      clear HRR p4 p3 p6 p5 p2 p1
      go_enter Tryz.func36, Tryz.ntmps36
      go_wp2_with fail
      try simp only [hO]
      refine (HON.out _).mono ?_
      rintro e W1 ⟨rfl, hb1⟩
      have hBB := bel0 hB1 hb1
      obtain ⟨y0, y1, y2, y3, y4, y5, y6⟩ := HX.out W1 hb1
      go_wp2_with fail
      go_ret
      exact ⟨_, rfl, World.ownsRow_lit W1 #[.string ⟨on.toArray⟩] 1 hBB.size (by decide) rfl, hBB.alloc hBB.size _⟩
end Go.Proofs.YtepokgainceidaaGreatDoor

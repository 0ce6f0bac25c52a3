import Derived.Test.YtccbfaembcefjaaGreatDoorXAL
namespace Go.Proofs.YtccbfaembcefjaaGreatDoor
open Go.RowKit
theorem delt_all (L : List ZT) (n : Nat) (v : Value) (B : Nat) (x : ZT) (bw bx : Nat) (w : World) (hn : L.length = n) (hN : n ≤ 281474976710656) (h : w.ownsRow B 84 10 v n (tes L)) (gL : ∀ t ∈ L, ZOK w t) (gx : ZOK w x) (hq : WZ w bw bx x) (hne : v.ownBlock ≠ some bx) (q : ZT → Bool) (hqd : q = fun t => !cvB t x) :
    Calls Tryz.prog 122 #[v, .func (.func 123) #[] #[.pointer (some ⟨bw, 0, none⟩), .pointer (some ⟨bx, 0, none⟩)]] w fun e w' => ∃ v', e = .returned v' ∧ w'.ownsRow B 84 10 v' (L.filter q).length (tes (L.filter q)) ∧ w.grownBy w' v.ownBlock := by
  rcases own_shapeQ h with ⟨rfl, rfl⟩ | ⟨g, c, rfl, -, -, cur, hg⟩
  · obtain rfl := List.length_eq_zero_iff.1 hn
    refine (delt_nil bw bx w).mono ?_
    rintro e w' ⟨rfl, hb⟩
    exact ⟨_, rfl, World.ownsRow_nil _ _ _ _, below_grown hb _⟩
  · have h1 : bw ≠ g := fun e => by
      subst e
      rw [hq.1] at hg
      injection hg with hg
      injection hg with _ hg _
      revert hg
      decide
    refine (delt_any L n c g B x bw bx w hn hN h gL gx hq h1 (fun e => hne (by rw [e]; rfl)) q hqd).mono ?_
    rintro e w' ⟨m, rfl, rfl, ho, hgr⟩
    exact ⟨_, rfl, ho, hgr⟩
/-- the greatest of a list, one by one -/
def topZS (T : List ZT) (x : ZT) : List ZT := if T.any (fun y => cvB x y) = true then T else T.filter (fun y => !cvB y x) ++ [x]
def topZL (L : List ZT) : List ZT := L.foldl topZS []
theorem topZL_step {L : List ZT} {k : Nat} {x : ZT} (h : L[k]? = some x) : topZL (L.take (k + 1)) = topZS (topZL (L.take k)) x := by
  unfold topZL
  rw [List.take_add_one, h, List.foldl_append]
  rfl
theorem topZS_mem {T : List ZT} {x t : ZT} (h : t ∈ topZS T x) : t ∈ T ∨ t = x := by
  unfold topZS at h
  split at h
  · exact .inl h
  · rcases List.mem_append.1 h with h | h
    · exact .inl (List.mem_filter.1 h).1
    · exact .inr (List.mem_singleton.1 h)
theorem topZF_mem (L : List ZT) : ∀ (T : List ZT) (t : ZT), t ∈ L.foldl topZS T → t ∈ T ∨ t ∈ L := by
  induction L with
  | nil => exact fun T t h => .inl h
  | cons x L ih =>
    intro T t h
    rcases ih _ t h with h | h
    · rcases topZS_mem h with h | rfl
      · exact .inl h
      · exact .inr (by simp)
    · exact .inr (by simp [h])
theorem topZL_mem {L : List ZT} {t : ZT} (h : t ∈ topZL L) : t ∈ L := by
  rcases topZF_mem L [] t h with h | h
  · cases h
  · exact h
theorem topZS_len (T : List ZT) (x : ZT) : (topZS T x).length ≤ T.length + 1 := by
  unfold topZS
  split
  · omega
  · rw [List.length_append]
    have := List.length_filter_le (fun y => !cvB y x) T
    simp
    omega
theorem topZF_len (L : List ZT) : ∀ T : List ZT, (L.foldl topZS T).length ≤ T.length + L.length := by
  induction L with
  | nil => intro T; simp
  | cons x L ih =>
    intro T
    have h1 := ih (topZS T x)
    have h2 := topZS_len T x
    rw [List.foldl_cons, List.length_cons]
    omega
theorem topZL_len (L : List ZT) : (topZL L).length ≤ L.length := by
  have := topZF_len L []
  simpa [topZL] using this
set_option maxRecDepth 100000 in
set_option maxHeartbeats 4000000 in
theorem greatZ_any (L : List ZT) (n : Nat) (o : Option Addr) (c : Nat) (w : World) (hn : L.length = n) (hN : n ≤ 1000000) (hr : IRZ w o L) (gL : ∀ t ∈ L, ZOK w t) :
    Calls Tryz.prog 101 #[.slice o n c, .func (.func 102) #[] #[]] w fun e w' => ∃ v, e = .returned v ∧ w'.ownsRow w.heap.size 84 10 v (topZL L).length (tes (topZL L)) ∧ Below w.heap.size w w' := by
  obtain ⟨i0, hi, hz0, hz1, hz2⟩ := info_parts info_term
  have HR : Hid (IRZ w o L) := hr
  have HG : Hid (∀ t ∈ L, ZOK w t) := gL
  have HN : Hid (L.length = n) := hn
  clear hr gL hn
  go_enter Tryz.func101, Tryz.ntmps101
  go_wp2_with fail
  go_loopw [5, 10] (fun v5 v10 wr => ∃ k : Nat, v10 = .int .i64 (k : Int) ∧ k ≤ n ∧ wr.ownsRow w.heap.size 84 10 v5 (topZL (L.take k)).length (tes (topZL (L.take k))) ∧ Below w.heap.size w wr ∧ wr.heap[w.heap.size]? = some (.cells #[.func (.func 102) #[] #[]] 166 (0, 0))) (fun _ v10 _ => n - (intOf v10).toNat)
  case atStart => exact ⟨0, rfl, Nat.zero_le _, World.ownsRow_nil _ _ _ _, belA (Below.refl _ _) _, alloc_get _ _⟩
  case round =>
    obtain ⟨k, rfl, hk, oT, hB, hw⟩ := hrel
    by_cases hlt : k < n
    · have j1 : (k : Int) < (n : Int) := by omega
      have j0 : (0 : Int) ≤ (k : Int) := by omega
      obtain ⟨x, hx⟩ : ∃ x, L[k]? = some x := ⟨_, List.getElem?_eq_getElem (by rw [HN.out]; exact hlt)⟩
      obtain ⟨g, o0, rfl, p0, p1, p2, p3, p4, p5, p6, p7, p8, p9⟩ := HR.out wr hB k x hx
      have gx := HG.out x (List.mem_of_getElem? hx)
      have HS := topZL_step hx
      have hTl := topZL_len (L.take k)
      have gT : ∀ t ∈ topZL (L.take k), ZOK w t := fun t ht => HG.out t (List.mem_of_mem_take (topZL_mem ht))
      have hTk : (L.take k).length ≤ 1000000 := by rw [List.length_take]; omega
      obtain ⟨Tk, hTe⟩ : ∃ T, topZL (L.take k) = T := ⟨_, rfl⟩
      rw [hTe] at oT HS hTl gT
      have HTS : Hid (topZL (L.take (k + 1)) = topZS Tk x ∧ Tk.length ≤ 1000000 ∧ (∀ t ∈ Tk, ZOK w t) ∧ ZOK w x) := ⟨HS, by omega, gT, gx⟩
      clear hx HS hTl gT hTk hTe gx
      obtain ⟨w1, hw1⟩ : ∃ w1, wr.alloc (.cells #[.int .i64 (x.c.length : Int), .int .u64 (FW x.c 0 : Int), .int .u64 (FW x.c 1 : Int), .int .u64 (FW x.c 2 : Int), .int .u64 (FW x.c 3 : Int), .int .u64 (OW x.c 0 : Int), .int .u64 (OW x.c 1 : Int), .int .u64 (OW x.c 2 : Int), .int .u64 (OW x.c 3 : Int), .slice x.q x.L.length x.k] 84 (0, 0)) = w1 := ⟨_, rfl⟩
      have hal : Below wr.heap.size wr w1 := by rw [← hw1]; exact belA (Below.refl _ _) _
      have hq1 : WZ w1 w.heap.size wr.heap.size x := ⟨keepblk3 hal hw, by rw [← hw1]; exact alloc_get _ _⟩
      have oT1 : w1.ownsRow w.heap.size 84 10 u5 Tk.length (tes Tk) := own_belQ oT hal
      have hsh : ∃ p c2, u5 = .slice p Tk.length c2 := by
        rcases own_shapeQ oT with ⟨e, h0⟩ | ⟨g, c, e, _⟩
        · exact ⟨none, 0, by rw [h0]; exact e⟩
        · exact ⟨_, _, e⟩
      obtain ⟨p2', c2, hu⟩ := hsh
      have HC : Hid (Calls Tryz.prog 120 #[u5, .func (.func 121) #[] #[.pointer (some ⟨w.heap.size, 0, none⟩), .pointer (some ⟨wr.heap.size, 0, none⟩)]] w1 fun e w' => e = .returned (.bool (Tk.any (fun y => cvB x y))) ∧ Below w1.heap.size w1 w') := by
        rw [hu]
        rw [hu] at oT1
        exact contt_any Tk Tk.length p2' c2 w.heap.size wr.heap.size (fun y => cvB x y) w1 rfl (by have := HTS.out.2.1; omega) (IRZ_own oT1 rfl) (fun W hW t ht => greatt1_any x t _ _ W (HTS.out.2.2.2.later (KC_below (bel0 (bel0 hB hal) hW))) ((HTS.out.2.2.1 t ht).later (KC_below (bel0 (bel0 hB hal) hW))) (hq1.below hW))
      have hob : u5.ownBlock ≠ some wr.heap.size := fun e => by
        have := (oT.lt _ e).2
        omega
      have HO1 : Hid (w1.ownsRow w.heap.size 84 10 u5 Tk.length (tes Tk) ∧ WZ w1 w.heap.size wr.heap.size x ∧ u5.ownBlock ≠ some wr.heap.size ∧ Below w.heap.size w w1) := ⟨oT1, hq1, hob, bel0 hB hal⟩
      clear oT oT1 hq1 hob hu hw
      go_wp2_with fail
      refine HC.out.mono ?_
      rintro e W2 ⟨rfl, hb2⟩
      clear HC p0 p1 p2 p3 p4 p5 p6 p7 p8 p9
      have hB2 := bel0 HO1.out.2.2.2 hb2
      have hq2 := HO1.out.2.1.below hb2
      have oT2 := own_belQ HO1.out.1 hb2
      cases ha : Tk.any (fun y => cvB x y) with
      | true =>
        have HF : Hid (topZL (L.take (k + 1)) = Tk ∧ W2.ownsRow w.heap.size 84 10 u5 Tk.length (tes Tk) ∧ W2.heap[w.heap.size]? = some (.cells #[.func (.func 102) #[] #[]] 166 (0, 0))) := ⟨by rw [HTS.out.1]; unfold topZS; rw [if_pos ha], oT2, hq2.1⟩
        clear ha oT2 hq2
        go_wp2_with fail
        go_roundw
        case rel => exact ⟨k + 1, by go_num, by omega, by rw [HF.out.1]; exact HF.out.2.1, hB2, HF.out.2.2⟩
        case measure => simp [intOf]; omega
      | false =>
        have HF : Hid (topZL (L.take (k + 1)) = Tk.filter (fun y => !cvB y x) ++ [x]) := by
          unfold Hid
          rw [HTS.out.1]
          unfold topZS
          rw [ha, if_neg (by simp)]
        have HD : Hid (Calls Tryz.prog 122 #[u5, .func (.func 123) #[] #[.pointer (some ⟨w.heap.size, 0, none⟩), .pointer (some ⟨wr.heap.size, 0, none⟩)]] W2 fun e w' => ∃ v', e = .returned v' ∧ w'.ownsRow w.heap.size 84 10 v' (Tk.filter (fun y => !cvB y x)).length (tes (Tk.filter (fun y => !cvB y x))) ∧ W2.grownBy w' u5.ownBlock) := delt_all Tk Tk.length u5 w.heap.size x w.heap.size wr.heap.size W2 rfl (by have := HTS.out.2.1; omega) oT2 (fun t ht => (HTS.out.2.2.1 t ht).later (KC_below hB2)) (HTS.out.2.2.2.later (KC_below hB2)) hq2 HO1.out.2.2.1 _ rfl
        have HQ2 : Hid (WZ W2 w.heap.size wr.heap.size x ∧ W2.ownsRow w.heap.size 84 10 u5 Tk.length (tes Tk)) := ⟨hq2, oT2⟩
        clear ha hq2 oT2
        go_wp2_with fail
        refine HD.out.mono ?_
        rintro e W3 ⟨v3, rfl, o3, g3⟩
        have hfl := List.length_filter_le (fun y => !cvB y x) Tk
        have hT6 := HTS.out.2.1
        have hb3 : W3.heap[wr.heap.size]? = some (.cells #[.int .i64 (x.c.length : Int), .int .u64 (FW x.c 0 : Int), .int .u64 (FW x.c 1 : Int), .int .u64 (FW x.c 2 : Int), .int .u64 (FW x.c 3 : Int), .int .u64 (OW x.c 0 : Int), .int .u64 (OW x.c 1 : Int), .int .u64 (OW x.c 2 : Int), .int .u64 (OW x.c 3 : Int), .slice x.q x.L.length x.k] 84 (0, 0)) := (g3.block _ (lt_of_get3 HQ2.out.1.2) (fun e => HO1.out.2.2.1 e.symm)).trans HQ2.out.1.2
        have hw3 : W3.heap[w.heap.size]? = some (.cells #[.func (.func 102) #[] #[]] 166 (0, 0)) := by
          refine (g3.block _ (lt_of_get3 HQ2.out.1.1) (fun e => ?_)).trans HQ2.out.1.1
          rcases own_shapeQ HQ2.out.2 with ⟨h, -⟩ | ⟨g9, c9, h, -, -, cur, hg9⟩
          · rw [h] at e
            cases e
          · rw [h] at e
            have e2 : w.heap.size = g9 := by injection e
            rw [← e2, HQ2.out.1.1] at hg9
            injection hg9 with hg9
            injection hg9 with _ hg9 _
            revert hg9
            decide
        have hB3 : Below w.heap.size w W3 := hB2.grown g3 hB2.size (fun b e => (HQ2.out.2.lt b e).1)
        have hs3 := hB3.size
        have HW3 : Hid (W3.heap[w.heap.size]? = some (.cells #[.func (.func 102) #[] #[]] 166 (0, 0))) := hw3
        obtain ⟨d0, d1, d2, d3, d4, d5, d6, d7, d8, d9⟩ := CZ_of hb3
        obtain ⟨Fk, hFk⟩ : ∃ F, Tk.filter (fun y => !cvB y x) = F := ⟨_, rfl⟩
        rw [hFk] at o3 hfl
        have HFE : Hid (topZL (L.take (k + 1)) = Fk ++ [x]) := by
          unfold Hid
          rw [HF.out, hFk]
        clear hw3 hb3 HD HF hFk
        go_wp2_with (at_builtin; refine wpList_append_own _ rfl _ _ 22 rfl w.heap.size 84 i0 _ 10 96 Tryz.underlying22 hi hz0 hz1 hz2 rfl (by decide) _ _ _ rfl (o3.alloc _) ⟨_, 0, none⟩ 1 1 x.cells rfl rfl (World.news_of_block (cs := #[.int .i64 (x.c.length : Int), .int .u64 (FW x.c 0 : Int), .int .u64 (FW x.c 1 : Int), .int .u64 (FW x.c 2 : Int), .int .u64 (FW x.c 3 : Int), .int .u64 (OW x.c 0 : Int), .int .u64 (OW x.c 1 : Int), .int .u64 (OW x.c 2 : Int), .int .u64 (OW x.c 3 : Int), .slice x.q x.L.length x.k]) (t := 84) (fr := (0, 0)) (alloc_get _ _)) (by simp [ZT.cells, Value.oneCell']) (by unfold maxLen; omega) (by omega) (by simp; omega) ?_; intro v4 w4 o4 g4 _)
        have hB4 : Below w.heap.size w w4 := (belA hB3 _).grown g4 (by simp; omega) (fun b e => (o3.lt b e).1)
        have hw4 : w4.heap[w.heap.size]? = some (.cells #[.func (.func 102) #[] #[]] 166 (0, 0)) := by
          refine (g4.block _ (by simp; have := lt_of_get3 HW3.out; omega) (fun e => ?_)).trans (allocblk3 HW3.out _)
          rcases own_shapeQ o3 with ⟨h, -⟩ | ⟨g9, c9, h, -, -, cur, hg9⟩
          · rw [h] at e
            cases e
          · rw [h] at e
            have e2 : w.heap.size = g9 := by injection e
            rw [← e2, HW3.out] at hg9
            injection hg9 with hg9
            injection hg9 with _ hg9 _
            revert hg9
            decide
        have HO4 : Hid (w4.ownsRow w.heap.size 84 10 v4 (topZL (L.take (k + 1))).length (tes (topZL (L.take (k + 1)))) ∧ w4.heap[w.heap.size]? = some (.cells #[.func (.func 102) #[] #[]] 166 (0, 0))) := by
          refine ⟨?_, hw4⟩
          rw [HFE.out, List.length_append, tes_snoc]
          exact o4
        clear o3 o4 g4 hw4
        go_wp2_with fail
        go_roundw
        case rel => exact ⟨k + 1, by go_num, by omega, HO4.out.1, hB4, HO4.out.2⟩
        case measure => simp [intOf]; omega
    · have j1 : ¬ (k : Int) < (n : Int) := by omega
      obtain rfl : k = n := by omega
      have HE : Hid (wr.ownsRow w.heap.size 84 10 u5 (topZL L).length (tes (topZL L))) := by
        rw [List.take_of_length_le (by rw [HN.out]; exact Nat.le_refl _)] at oT
        exact oT
      clear oT hw
      go_wp2_with fail
      go_ret
      exact ⟨_, rfl, HE.out, hB⟩
end Go.Proofs.YtccbfaembcefjaaGreatDoor
namespace Go.Proofs.YtccbfaembcefjaaGreatDoor
open Go.RowKit
def ZT.t (z : ZT) : TRM := ⟨z.c, z.q, z.L.length, z.k⟩
theorem IRZ.irt {w : World} {p : Option Addr} {Z : List ZT} (h : IRZ w p Z) : IRT w p (Z.map ZT.t) := fun W hW k t ht => by
  rw [List.getElem?_map] at ht
  obtain ⟨z, hz, rfl⟩ := Option.map_eq_some_iff.1 ht
  obtain ⟨g, o0, e, h0, h1, h2, h3, h4, h5, h6, h7, h8, h9⟩ := h W hW k z hz
  exact ⟨g, o0, e, ⟨h0, h1, h2, h3, h4, h5, h6, h7, h8⟩, h9⟩
/-- how many cubes the terms have -/
def szZ (Z : List ZT) : Nat := szT (Z.map ZT.t)
set_option maxRecDepth 100000 in
theorem topmost_any (Z : List ZT) (n : Nat) (p : Option Addr) (c : Nat) (w : World) (hn : Z.length = n) (hN : n ≤ 1000000) (hr : IRZ w p Z) (gZ : ∀ z ∈ Z, ZOK w z) (hz : szZ (topZL Z) ≤ 281474976710656) :
    Calls Tryz.prog 72 #[.slice p n c] w fun e w' => Below w.heap.size w w' ∧ ((szZ (topZL Z) ≤ 128 ∧ ∃ v, e = .returned v ∧ w'.ownsRow w.heap.size 84 10 v (topZL Z).length (tes (topZL Z))) ∨ (128 < szZ (topZL Z) ∧ e = .panicked [{ v := .iface 103 (.agg #[]), recovered := false }])) := by
  have H1 := greatZ_any Z n p c w hn hN hr gZ
  have hl := topZL_len Z
  obtain ⟨T, hT⟩ : ∃ T, topZL Z = T := ⟨_, rfl⟩
  rw [hT] at H1 hz hl ⊢
  have HM : Hid (szZ T ≤ 281474976710656 ∧ T.length ≤ 1000000) := ⟨hz, by omega⟩
  clear hr gZ hz hl hT
  go_enter Tryz.func72, Tryz.ntmps72
  go_wp2_with fail
  refine H1.mono ?_
  rintro e W1 ⟨v, rfl, ho, hb1⟩
  clear H1
  obtain ⟨p1, c1, rfl⟩ := shapeQ1 ho
  have H2 := size_any (T.map ZT.t) T.length p1 c1 W1 (by rw [List.length_map]) (by have := HM.out.2; omega) HM.out.1 (IRZ_own ho rfl).irt
  have H2' : Calls Tryz.prog 50 #[.slice p1 T.length c1] W1 fun e w' => e = .returned (.int .i64 (szZ T : Int)) ∧ Below W1.heap.size W1 w' := H2
  have HO : Hid (W1.ownsRow w.heap.size 84 10 (.slice p1 T.length c1) T.length (tes T)) := ho
  clear ho H2
  go_wp2_with fail
  refine H2'.mono ?_
  rintro e W2 ⟨rfl, hb2⟩
  clear H2'
  go_wp2_with fail
  by_cases hle : szZ T ≤ 128
  · refine (spend_ok (szZ T : Int) 128 W2 (by omega)).mono ?_
    rintro e W3 ⟨rfl, rfl⟩
    go_wp2_with fail
    go_ret
    exact ⟨bel0 hb1 hb2, .inl ⟨hle, _, rfl, own_belQ HO.out hb2⟩⟩
  · refine (spend_over (szZ T : Int) 128 W2 (by omega)).mono ?_
    rintro e W3 ⟨rfl, rfl⟩
    have HB : Hid (Below w.heap.size w W3) := bel0 hb1 hb2
    go_wp2_with fail
    exact ⟨rfl, HB.out, .inr ⟨by omega, rfl⟩⟩
end Go.Proofs.YtccbfaembcefjaaGreatDoor

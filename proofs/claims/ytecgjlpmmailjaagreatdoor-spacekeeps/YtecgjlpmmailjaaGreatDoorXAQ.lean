import Derived.Test.YtecgjlpmmailjaaGreatDoorXAP
import Derived.Test.YtecgjlpmmailjaaGreatDoorXAN
namespace Go.Proofs.YtecgjlpmmailjaaGreatDoor
open Go.RowKit
theorem delt_all (L : List ZT) (n : Nat) (v : Value) (B : Nat) (x : ZT) (bw bx : Nat) (w : World) (hn : L.length = n) (hN : n ≤ 281474976710656) (h : w.ownsRow B 67 10 v n (tes L)) (gL : ∀ t ∈ L, ZOK w t) (gx : ZOK w x) (hq : WZ w bw bx x) (hne : v.ownBlock ≠ some bx) (q : ZT → Bool) (hqd : q = fun t => !cvB t x) :
    Calls Tryz.prog 70 #[v, .func (.func 71) #[] #[.pointer (some ⟨bw, 0, none⟩), .pointer (some ⟨bx, 0, none⟩)]] w fun e w' => ∃ v', e = .returned v' ∧ w'.ownsRow B 67 10 v' (L.filter q).length (tes (L.filter q)) ∧ w.grownBy w' v.ownBlock := by
  rcases own_shapeQ h with ⟨rfl, rfl⟩ | ⟨g, c, rfl, -, -, cur, hg⟩
  · obtain rfl := List.length_eq_zero_iff.1 hn
    refine (delt_nil bw bx w).mono ?_
    rintro e w' ⟨rfl, hb⟩
    exact ⟨_, rfl, World.ownsRow_nil _ _ _ _, below_grown hb _⟩
  · have h1 : bw ≠ g := fun e => by
      subst e
      rw [hq.1] at hg
      injection hg with hg
      injection hg with _ hg _
      revert hg
      decide
    refine (delt_any L n c g B x bw bx w hn hN h gL gx hq h1 (fun e => hne (by rw [e]; rfl)) q hqd).mono ?_
    rintro e w' ⟨m, rfl, rfl, ho, hgr⟩
    exact ⟨_, rfl, ho, hgr⟩
/-- the greatest of a list, one by one -/
def topZS (T : List ZT) (x : ZT) : List ZT := if T.any (fun y => cvB x y) = true then T else T.filter (fun y => !cvB y x) ++ [x]
def topZL (L : List ZT) : List ZT := L.foldl topZS []
theorem topZL_step {L : List ZT} {k : Nat} {x : ZT} (h : L[k]? = some x) : topZL (L.take (k + 1)) = topZS (topZL (L.take k)) x := by
  unfold topZL
  rw [List.take_add_one, h, List.foldl_append]
  rfl
theorem topZS_mem {T : List ZT} {x t : ZT} (h : t ∈ topZS T x) : t ∈ T ∨ t = x := by
  unfold topZS at h
  split at h
  · exact .inl h
  · rcases List.mem_append.1 h with h | h
    · exact .inl (List.mem_filter.1 h).1
    · exact .inr (List.mem_singleton.1 h)
theorem topZF_mem (L : List ZT) : ∀ (T : List ZT) (t : ZT), t ∈ L.foldl topZS T → t ∈ T ∨ t ∈ L := by
  induction L with
  | nil => exact fun T t h => .inl h
  | cons x L ih =>
    intro T t h
    rcases ih _ t h with h | h
    · rcases topZS_mem h with h | rfl
      · exact .inl h
      · exact .inr (by simp)
    · exact .inr (by simp [h])
theorem topZL_mem {L : List ZT} {t : ZT} (h : t ∈ topZL L) : t ∈ L := by
  rcases topZF_mem L [] t h with h | h
  · cases h
  · exact h
theorem topZS_len (T : List ZT) (x : ZT) : (topZS T x).length ≤ T.length + 1 := by
  unfold topZS
  split
  · omega
  · rw [List.length_append]
    have := List.length_filter_le (fun y => !cvB y x) T
    simp
    omega
theorem topZF_len (L : List ZT) : ∀ T : List ZT, (L.foldl topZS T).length ≤ T.length + L.length := by
  induction L with
  | nil => intro T; simp
  | cons x L ih =>
    intro T
    have h1 := ih (topZS T x)
    have h2 := topZS_len T x
    rw [List.foldl_cons, List.length_cons]
    omega
theorem topZL_len (L : List ZT) : (topZL L).length ≤ L.length := by
  have := topZF_len L []
  simpa [topZL] using this
set_option maxRecDepth 100000 in
set_option maxHeartbeats 4000000 in
theorem greatZ_any (L : List ZT) (n : Nat) (o : Option Addr) (c : Nat) (w : World) (hn : L.length = n) (hN : n ≤ 1000000) (hr : IRZ w o L) (gL : ∀ t ∈ L, ZOK w t) :
    Calls Tryz.prog 49 #[.slice o n c, .func (.func 50) #[] #[]] w fun e w' => ∃ v, e = .returned v ∧ w'.ownsRow w.heap.size 67 10 v (topZL L).length (tes (topZL L)) ∧ Below w.heap.size w w' := by
  obtain ⟨i0, hi, hz0, hz1, hz2⟩ := info_parts info_term
  have HR : Hid (IRZ w o L) := hr
  have HG : Hid (∀ t ∈ L, ZOK w t) := gL
  have HN : Hid (L.length = n) := hn
  clear hr gL hn
  go_enter Tryz.func49, Tryz.ntmps49
  go_wp2_with fail
  go_loopw [5, 10] (fun v5 v10 wr => ∃ k : Nat, v10 = .int .i64 (k : Int) ∧ k ≤ n ∧ wr.ownsRow w.heap.size 67 10 v5 (topZL (L.take k)).length (tes (topZL (L.take k))) ∧ Below w.heap.size w wr ∧ wr.heap[w.heap.size]? = some (.cells #[.func (.func 50) #[] #[]] 107 (0, 0))) (fun _ v10 _ => n - (intOf v10).toNat)
  case atStart => exact ⟨0, rfl, Nat.zero_le _, World.ownsRow_nil _ _ _ _, belA (Below.refl _ _) _, alloc_get _ _⟩
  case round =>
    obtain ⟨k, rfl, hk, oT, hB, hw⟩ := hrel
    by_cases hlt : k < n
    · have j1 : (k : Int) < (n : Int) := by omega
      have j0 : (0 : Int) ≤ (k : Int) := by omega
      obtain ⟨x, hx⟩ : ∃ x, L[k]? = some x := ⟨_, List.getElem?_eq_getElem (by rw [HN.out]; exact hlt)⟩
      obtain ⟨g, o0, rfl, p0, p1, p2, p3, p4, p5, p6, p7, p8, p9⟩ := HR.out wr hB k x hx
      have gx := HG.out x (List.mem_of_getElem? hx)
      have HS := topZL_step hx
      have hTl := topZL_len (L.take k)
      have gT : ∀ t ∈ topZL (L.take k), ZOK w t := fun t ht => HG.out t (List.mem_of_mem_take (topZL_mem ht))
      have hTk : (L.take k).length ≤ 1000000 := by rw [List.length_take]; omega
      obtain ⟨Tk, hTe⟩ : ∃ T, topZL (L.take k) = T := ⟨_, rfl⟩
      rw [hTe] at oT HS hTl gT
      have HTS : Hid (topZL (L.take (k + 1)) = topZS Tk x ∧ Tk.length ≤ 1000000 ∧ (∀ t ∈ Tk, ZOK w t) ∧ ZOK w x) := ⟨HS, by omega, gT, gx⟩
      clear hx HS hTl gT hTk hTe gx
      obtain ⟨w1, hw1⟩ : ∃ w1, wr.alloc (.cells #[.int .i64 (x.c.length : Int), .int .u64 (FW x.c 0 : Int), .int .u64 (FW x.c 1 : Int), .int .u64 (FW x.c 2 : Int), .int .u64 (FW x.c 3 : Int), .int .u64 (OW x.c 0 : Int), .int .u64 (OW x.c 1 : Int), .int .u64 (OW x.c 2 : Int), .int .u64 (OW x.c 3 : Int), .slice x.q x.L.length x.k] 67 (0, 0)) = w1 := ⟨_, rfl⟩
      have hal : Below wr.heap.size wr w1 := by rw [← hw1]; exact belA (Below.refl _ _) _
      have hq1 : WZ w1 w.heap.size wr.heap.size x := ⟨keepblk3 hal hw, by rw [← hw1]; exact alloc_get _ _⟩
      have oT1 : w1.ownsRow w.heap.size 67 10 u5 Tk.length (tes Tk) := own_belQ oT hal
      have hsh : ∃ p c2, u5 = .slice p Tk.length c2 := by
        rcases own_shapeQ oT with ⟨e, h0⟩ | ⟨g, c, e, _⟩
        · exact ⟨none, 0, by rw [h0]; exact e⟩
        · exact ⟨_, _, e⟩
      obtain ⟨p2', c2, hu⟩ := hsh
      have HC : Hid (Calls Tryz.prog 68 #[u5, .func (.func 69) #[] #[.pointer (some ⟨w.heap.size, 0, none⟩), .pointer (some ⟨wr.heap.size, 0, none⟩)]] w1 fun e w' => e = .returned (.bool (Tk.any (fun y => cvB x y))) ∧ Below w1.heap.size w1 w') := by
        rw [hu]
        rw [hu] at oT1
        exact contt_any Tk Tk.length p2' c2 w.heap.size wr.heap.size (fun y => cvB x y) w1 rfl (by have := HTS.out.2.1; omega) (IRZ_own oT1 rfl) (fun W hW t ht => greatt1_any x t _ _ W (HTS.out.2.2.2.later (KC_below (bel0 (bel0 hB hal) hW))) ((HTS.out.2.2.1 t ht).later (KC_below (bel0 (bel0 hB hal) hW))) (hq1.below hW))
      have hob : u5.ownBlock ≠ some wr.heap.size := fun e => by
        have := (oT.lt _ e).2
        omega
      have HO1 : Hid (w1.ownsRow w.heap.size 67 10 u5 Tk.length (tes Tk) ∧ WZ w1 w.heap.size wr.heap.size x ∧ u5.ownBlock ≠ some wr.heap.size ∧ Below w.heap.size w w1) := ⟨oT1, hq1, hob, bel0 hB hal⟩
      clear oT oT1 hq1 hob hu hw
      go_wp2_with fail
      refine HC.out.mono ?_
      rintro e W2 ⟨rfl, hb2⟩
      clear HC p0 p1 p2 p3 p4 p5 p6 p7 p8 p9
      have hB2 := bel0 HO1.out.2.2.2 hb2
      have hq2 := HO1.out.2.1.below hb2
      have oT2 := own_belQ HO1.out.1 hb2
      cases ha : Tk.any (fun y => cvB x y) with
      | true =>
        have HF : Hid (topZL (L.take (k + 1)) = Tk ∧ W2.ownsRow w.heap.size 67 10 u5 Tk.length (tes Tk) ∧ W2.heap[w.heap.size]? = some (.cells #[.func (.func 50) #[] #[]] 107 (0, 0))) := ⟨by rw [HTS.out.1]; unfold topZS; rw [if_pos ha], oT2, hq2.1⟩
        clear ha oT2 hq2
        go_wp2_with fail
        go_roundw
        case rel => exact ⟨k + 1, by go_num, by omega, by rw [HF.out.1]; exact HF.out.2.1, hB2, HF.out.2.2⟩
        case measure => simp [intOf]; omega
      | false =>
        have HF : Hid (topZL (L.take (k + 1)) = Tk.filter (fun y => !cvB y x) ++ [x]) := by
          unfold Hid
          rw [HTS.out.1]
          unfold topZS
          rw [ha, if_neg (by simp)]
        have HD : Hid (Calls Tryz.prog 70 #[u5, .func (.func 71) #[] #[.pointer (some ⟨w.heap.size, 0, none⟩), .pointer (some ⟨wr.heap.size, 0, none⟩)]] W2 fun e w' => ∃ v', e = .returned v' ∧ w'.ownsRow w.heap.size 67 10 v' (Tk.filter (fun y => !cvB y x)).length (tes (Tk.filter (fun y => !cvB y x))) ∧ W2.grownBy w' u5.ownBlock) := delt_all Tk Tk.length u5 w.heap.size x w.heap.size wr.heap.size W2 rfl (by have := HTS.out.2.1; omega) oT2 (fun t ht => (HTS.out.2.2.1 t ht).later (KC_below hB2)) (HTS.out.2.2.2.later (KC_below hB2)) hq2 HO1.out.2.2.1 _ rfl
        have HQ2 : Hid (WZ W2 w.heap.size wr.heap.size x ∧ W2.ownsRow w.heap.size 67 10 u5 Tk.length (tes Tk)) := ⟨hq2, oT2⟩
        clear ha hq2 oT2
        go_wp2_with fail
        refine HD.out.mono ?_
        rintro e W3 ⟨v3, rfl, o3, g3⟩
        have hfl := List.length_filter_le (fun y => !cvB y x) Tk
        have hT6 := HTS.out.2.1
        have hb3 : W3.heap[wr.heap.size]? = some (.cells #[.int .i64 (x.c.length : Int), .int .u64 (FW x.c 0 : Int), .int .u64 (FW x.c 1 : Int), .int .u64 (FW x.c 2 : Int), .int .u64 (FW x.c 3 : Int), .int .u64 (OW x.c 0 : Int), .int .u64 (OW x.c 1 : Int), .int .u64 (OW x.c 2 : Int), .int .u64 (OW x.c 3 : Int), .slice x.q x.L.length x.k] 67 (0, 0)) := (g3.block _ (lt_of_get3 HQ2.out.1.2) (fun e => HO1.out.2.2.1 e.symm)).trans HQ2.out.1.2
        have hw3 : W3.heap[w.heap.size]? = some (.cells #[.func (.func 50) #[] #[]] 107 (0, 0)) := by
          refine (g3.block _ (lt_of_get3 HQ2.out.1.1) (fun e => ?_)).trans HQ2.out.1.1
          rcases own_shapeQ HQ2.out.2 with ⟨h, -⟩ | ⟨g9, c9, h, -, -, cur, hg9⟩
          · rw [h] at e
            cases e
          · rw [h] at e
            have e2 : w.heap.size = g9 := by injection e
            rw [← e2, HQ2.out.1.1] at hg9
            injection hg9 with hg9
            injection hg9 with _ hg9 _
            revert hg9
            decide
        have hB3 : Below w.heap.size w W3 := hB2.grown g3 hB2.size (fun b e => (HQ2.out.2.lt b e).1)
        have hs3 := hB3.size
        have HW3 : Hid (W3.heap[w.heap.size]? = some (.cells #[.func (.func 50) #[] #[]] 107 (0, 0))) := hw3
        obtain ⟨d0, d1, d2, d3, d4, d5, d6, d7, d8, d9⟩ := CZ_of hb3
        obtain ⟨Fk, hFk⟩ : ∃ F, Tk.filter (fun y => !cvB y x) = F := ⟨_, rfl⟩
        rw [hFk] at o3 hfl
        have HFE : Hid (topZL (L.take (k + 1)) = Fk ++ [x]) := by
          unfold Hid
          rw [HF.out, hFk]
        clear hw3 hb3 HD HF hFk
        go_wp2_with (at_builtin; refine wpList_append_own _ rfl _ _ 26 rfl w.heap.size 67 i0 _ 10 96 Tryz.underlying26 hi hz0 hz1 hz2 rfl (by decide) _ _ _ rfl (o3.alloc _) ⟨_, 0, none⟩ 1 1 x.cells rfl rfl (World.news_of_block (cs := #[.int .i64 (x.c.length : Int), .int .u64 (FW x.c 0 : Int), .int .u64 (FW x.c 1 : Int), .int .u64 (FW x.c 2 : Int), .int .u64 (FW x.c 3 : Int), .int .u64 (OW x.c 0 : Int), .int .u64 (OW x.c 1 : Int), .int .u64 (OW x.c 2 : Int), .int .u64 (OW x.c 3 : Int), .slice x.q x.L.length x.k]) (t := 67) (fr := (0, 0)) (alloc_get _ _)) (by simp [ZT.cells, Value.oneCell']) (by unfold maxLen; omega) (by omega) (by simp; omega) ?_; intro v4 w4 o4 g4 _)
        have hB4 : Below w.heap.size w w4 := (belA hB3 _).grown g4 (by simp; omega) (fun b e => (o3.lt b e).1)
        have hw4 : w4.heap[w.heap.size]? = some (.cells #[.func (.func 50) #[] #[]] 107 (0, 0)) := by
          refine (g4.block _ (by simp; have := lt_of_get3 HW3.out; omega) (fun e => ?_)).trans (allocblk3 HW3.out _)
          rcases own_shapeQ o3 with ⟨h, -⟩ | ⟨g9, c9, h, -, -, cur, hg9⟩
          · rw [h] at e
            cases e
          · rw [h] at e
            have e2 : w.heap.size = g9 := by injection e
            rw [← e2, HW3.out] at hg9
            injection hg9 with hg9
            injection hg9 with _ hg9 _
            revert hg9
            decide
        have HO4 : Hid (w4.ownsRow w.heap.size 67 10 v4 (topZL (L.take (k + 1))).length (tes (topZL (L.take (k + 1)))) ∧ w4.heap[w.heap.size]? = some (.cells #[.func (.func 50) #[] #[]] 107 (0, 0))) := by
          refine ⟨?_, hw4⟩
          rw [HFE.out, List.length_append, tes_snoc]
          exact o4
        clear o3 o4 g4 hw4
        go_wp2_with fail
        go_roundw
        case rel => exact ⟨k + 1, by go_num, by omega, HO4.out.1, hB4, HO4.out.2⟩
        case measure => simp [intOf]; omega
    · have j1 : ¬ (k : Int) < (n : Int) := by omega
      obtain rfl : k = n := by omega
      have HE : Hid (wr.ownsRow w.heap.size 67 10 u5 (topZL L).length (tes (topZL L))) := by
        rw [List.take_of_length_le (by rw [HN.out]; exact Nat.le_refl _)] at oT
        exact oT
      clear oT hw
      go_wp2_with fail
      go_ret
      exact ⟨_, rfl, HE.out, hB⟩
end Go.Proofs.YtecgjlpmmailjaaGreatDoor
namespace Go.Proofs.YtecgjlpmmailjaaGreatDoor
open Go.RowKit
def ZT.t (z : ZT) : TRM := ⟨z.c, z.q, z.L.length, z.k⟩
theorem IRZ.irt {w : World} {p : Option Addr} {Z : List ZT} (h : IRZ w p Z) : IRT w p (Z.map ZT.t) := fun W hW k t ht => by
  rw [List.getElem?_map] at ht
  obtain ⟨z, hz, rfl⟩ := Option.map_eq_some_iff.1 ht
  obtain ⟨g, o0, e, h0, h1, h2, h3, h4, h5, h6, h7, h8, h9⟩ := h W hW k z hz
  exact ⟨g, o0, e, ⟨h0, h1, h2, h3, h4, h5, h6, h7, h8⟩, h9⟩
/-- how many cubes the terms have -/
def szZ (Z : List ZT) : Nat := szT (Z.map ZT.t)
set_option maxRecDepth 100000 in
theorem topmost_any (Z : List ZT) (n : Nat) (p : Option Addr) (c : Nat) (w : World) (hn : Z.length = n) (hN : n ≤ 1000000) (hr : IRZ w p Z) (gZ : ∀ z ∈ Z, ZOK w z) (hz : szZ (topZL Z) ≤ 281474976710656) :
    Calls Tryz.prog 32 #[.slice p n c] w fun e w' => Below w.heap.size w w' ∧ ((szZ (topZL Z) ≤ 128 ∧ ∃ v, e = .returned v ∧ w'.ownsRow w.heap.size 67 10 v (topZL Z).length (tes (topZL Z))) ∨ (128 < szZ (topZL Z) ∧ e = .panicked [{ v := .iface 81 (.agg #[]), recovered := false }])) := by
  have H1 := greatZ_any Z n p c w hn hN hr gZ
  have hl := topZL_len Z
  obtain ⟨T, hT⟩ : ∃ T, topZL Z = T := ⟨_, rfl⟩
  rw [hT] at H1 hz hl ⊢
  have HM : Hid (szZ T ≤ 281474976710656 ∧ T.length ≤ 1000000) := ⟨hz, by omega⟩
  clear hr gZ hz hl hT
  go_enter Tryz.func32, Tryz.ntmps32
  go_wp2_with fail
  refine H1.mono ?_
  rintro e W1 ⟨v, rfl, ho, hb1⟩
  clear H1
  obtain ⟨p1, c1, rfl⟩ := shapeQ1 ho
  have H2 := size_any (T.map ZT.t) T.length p1 c1 W1 (by rw [List.length_map]) (by have := HM.out.2; omega) HM.out.1 (IRZ_own ho rfl).irt
  have H2' : Calls Tryz.prog 17 #[.slice p1 T.length c1] W1 fun e w' => e = .returned (.int .i64 (szZ T : Int)) ∧ Below W1.heap.size W1 w' := H2
  have HO : Hid (W1.ownsRow w.heap.size 67 10 (.slice p1 T.length c1) T.length (tes T)) := ho
  clear ho H2
  go_wp2_with fail
  refine H2'.mono ?_
  rintro e W2 ⟨rfl, hb2⟩
  clear H2'
  go_wp2_with fail
  by_cases hle : szZ T ≤ 128
  · refine (spend_ok (szZ T : Int) 128 W2 (by omega)).mono ?_
    rintro e W3 ⟨rfl, rfl⟩
    go_wp2_with fail
    go_ret
    exact ⟨bel0 hb1 hb2, .inl ⟨hle, _, rfl, own_belQ HO.out hb2⟩⟩
  · refine (spend_over (szZ T : Int) 128 W2 (by omega)).mono ?_
    rintro e W3 ⟨rfl, rfl⟩
    have HB : Hid (Below w.heap.size w W3) := bel0 hb1 hb2
    go_wp2_with fail
    exact ⟨rfl, HB.out, .inr ⟨by omega, rfl⟩⟩
end Go.Proofs.YtecgjlpmmailjaaGreatDoor
namespace Go.Proofs.YtecgjlpmmailjaaGreatDoor
open Go.RowKit Go.Shelf Go.Sort
def ZT.cont (z : ZT) : List UInt8 × List (List UInt8) := (z.c, z.L)
def LNE.hd (x : LNE) : List UInt8 × List (List UInt8) := (x.S.headD [], x.S.tail)
def ZL (W : World) (B : Nat) (Z : List ZT) : Prop := ∀ z ∈ Z, W.ownsRow B 58 9 (.slice z.q z.L.length z.k) z.L.length (ces z.L)
/-- a space's terms, each list its own -/
def SPL (W : World) (B : Nat) (V : Value) (Ts : List (List UInt8 × List (List UInt8))) : Prop := ∃ Z : List ZT, Z.map ZT.cont = Ts ∧ W.ownsRow B 67 10 V Z.length (tes Z) ∧ ZL W B Z
/-- the lines in order -/
def leLn (a b : List (List UInt8)) : Bool := decide (cmpLn a b ≤ 0)
def srtLn (X : List (List (List UInt8))) : List (List (List UInt8)) := X.mergeSort leLn
theorem leLn_trans (a b c : List (List UInt8)) (h1 : leLn a b = true) (h2 : leLn b c = true) : leLn a c = true := by
  unfold leLn at *
  simp only [decide_eq_true_eq] at *
  rcases cmpLn_three a b with ⟨h, -⟩ | ⟨h, -⟩ | ⟨h, -⟩
  · rcases cmpLn_three b c with ⟨k, -⟩ | ⟨k, -⟩ | ⟨k, -⟩
    · have := cmpLn_trans a b c h k; omega
    · obtain rfl := cmpLn_eq b c k; omega
    · omega
  · obtain rfl := cmpLn_eq a b h; exact h2
  · omega
theorem leLn_total (a b : List (List UInt8)) : (leLn a b || leLn b a) = true := by
  unfold leLn
  rcases cmpLn_three a b with ⟨h, -⟩ | ⟨h, -⟩ | ⟨-, h⟩ <;> simp <;> omega
theorem leLn_anti (a b : List (List UInt8)) (h1 : leLn a b = true) (h2 : leLn b a = true) : a = b := by
  unfold leLn at *
  simp only [decide_eq_true_eq] at *
  rcases cmpLn_three a b with ⟨-, h⟩ | ⟨h, -⟩ | ⟨h, -⟩
  · omega
  · exact cmpLn_eq a b h
  · omega
theorem srtLn_perm (L : List (List (List UInt8))) : (srtLn L).Perm L := List.mergeSort_perm L leLn
theorem srtLn_eq {A L : List (List (List UInt8))} (hp : A.Perm L) (hA : A.Pairwise (fun a b => leLn a b = true)) : A = srtLn L :=
  (hp.trans (srtLn_perm L).symm).eq_of_pairwise (fun a b _ _ h1 h2 => leLn_anti a b h1 h2) hA (List.pairwise_mergeSort leLn_trans leLn_total L)
def ordT (Ts : List (List UInt8 × List (List UInt8))) : List (List UInt8 × List (List UInt8)) := (srtLn (Ts.map (fun t => t.1 :: srtT t.2))).map (fun S => (S.headD [], S.tail))
theorem own_capQ {W : World} {B n m g c : Nat} {e : TypeId} {sz : Nat} {xs : List Value} (h : W.ownsRow B e sz (.slice (some ⟨g, 0, none⟩) n c) m xs) : m ≤ c := by
  rcases h.2 with ⟨e, _⟩ | ⟨g2, c2, cur, e, _, _, h3, _⟩
  · cases e
  · injection e with _ _ e3
    omega
set_option maxRecDepth 100000 in
set_option maxHeartbeats 8000000 in
theorem inOrder_any (b : Int) (Z : List ZT) (n : Nat) (p : Option Addr) (cp : Nat) (w : World) (hn : Z.length = n) (hN : n ≤ 1000000) (hr : IRZ w p Z) (gZ : ∀ z ∈ Z, ZOK w z) :
    Calls Tryz.prog 31 #[.int .i64 b, .slice p n cp] w fun e w' => ∃ V, e = .returned (.agg #[.int .i64 b, V, .bool false]) ∧ SPL w' w.heap.size V (ordT (Z.map ZT.cont)) ∧ Below w.heap.size w w' := by
  obtain ⟨i0, hi, hz0, hz1, hz2⟩ := info_parts info_cubeQ
  obtain ⟨i1, hi1, hy0, hy1, hy2⟩ := info_parts info_term
  obtain ⟨i2, hi2, hx0, hx1, hx2⟩ := info_parts info_nl
  obtain ⟨w2, hw2⟩ : ∃ w2, w.alloc (.cells #[.int .i64 0, .slice none 0 0, .bool false] 28 (0, 0)) = w2 := ⟨_, rfl⟩
  have hA : w2.heap[w.heap.size]? = some (.cells #[.int .i64 0, .slice none 0 0, .bool false] 28 (0, 0)) := by rw [← hw2]; exact alloc_get _ _
  have hB2 : Below w.heap.size w w2 := by rw [← hw2]; exact belA (Below.refl _ _) _
  have HA : Hid (w2.heap[w.heap.size]? = some (.cells #[.int .i64 0, .slice none 0 0, .bool false] 28 (0, 0)) ∧ Below w.heap.size w w2) := ⟨hA, hB2⟩
  have HR : Hid (IRZ w2 p Z) := hr.later hB2
  have HIL : Hid (∀ z ∈ Z, ∀ W, Below w2.heap.size w2 W → Calls Tryz.prog 44 #[.agg #[.int .i64 (z.c.length : Int), .int .u64 (FW z.c 0 : Int), .int .u64 (FW z.c 1 : Int), .int .u64 (FW z.c 2 : Int), .int .u64 (FW z.c 3 : Int), .int .u64 (OW z.c 0 : Int), .int .u64 (OW z.c 1 : Int), .int .u64 (OW z.c 2 : Int), .int .u64 (OW z.c 3 : Int), .slice z.q z.L.length z.k]] W fun e w' => ∃ v, e = .returned v ∧ w'.ownsRow W.heap.size 103 10 v (z.L.length + 1) (nms (z.c :: srtT z.L)) ∧ Below W.heap.size W w') := fun z hz W hW => inLine_any srtT sort_ok z.c z.L z.L.length z.k z.q W rfl (gZ z hz).2.1 (gZ z hz).2.2.1 (gZ z hz).2.2.2 ((gZ z hz).1.irc.later (bel0 hB2 hW))
  have HLL : Hid (∀ z ∈ Z, z.L.length ≤ 1000000) := fun z hz => (gZ z hz).2.1
  have HN : Hid (Z.length = n) := hn
  clear hA hB2 hr gZ hn
  go_enter Tryz.func31, Tryz.ntmps31
  go_wp2_with fail
  clear hw2
  go_loopw [5, 16] (fun v5 v16 wr => ∃ k : Nat, v16 = .int .i64 (k : Int) ∧ k ≤ n ∧ Below w2.heap.size w2 wr ∧ Hid (∃ X : List LNE, X.map LNE.S = (Z.take k).map (fun z => z.c :: srtT z.L) ∧ wr.ownsRow w2.heap.size 98 1 v5 k (lvs X) ∧ ∀ x ∈ X, wr.ownsRow w2.heap.size 103 10 x.v x.S.length (nms x.S) ∧ x.S.length ≤ 2000000)) (fun _ v16 _ => n - (intOf v16).toNat)
  case atStart => exact ⟨0, rfl, Nat.zero_le _, Below.refl _ _, [], rfl, World.ownsRow_nil _ _ _ _, fun x hx => by cases hx⟩
  case round =>
    obtain ⟨k, rfl, hk, hB, hX⟩ := hrel
    by_cases hlt : k < n
    · have j1 : (k : Int) < (n : Int) := by omega
      have j0 : (0 : Int) ≤ (k : Int) := by omega
      obtain ⟨z, hz⟩ : ∃ z, Z[k]? = some z := ⟨_, List.getElem?_eq_getElem (by rw [HN.out]; exact hlt)⟩
      obtain ⟨g, o0, rfl, p0, p1, p2, p3, p4, p5, p6, p7, p8, p9⟩ := HR.out wr hB k z hz
      obtain ⟨wa, hwa⟩ : ∃ wa, wr.alloc (.cells #[.int .i64 (z.c.length : Int), .int .u64 (FW z.c 0 : Int), .int .u64 (FW z.c 1 : Int), .int .u64 (FW z.c 2 : Int), .int .u64 (FW z.c 3 : Int), .int .u64 (OW z.c 0 : Int), .int .u64 (OW z.c 1 : Int), .int .u64 (OW z.c 2 : Int), .int .u64 (OW z.c 3 : Int), .slice z.q z.L.length z.k] 67 (0, 0)) = wa := ⟨_, rfl⟩
      have hal : Below wr.heap.size wr wa := by rw [← hwa]; exact belA (Below.refl _ _) _
      have hgt : wa.heap[wr.heap.size]? = some (.cells #[.int .i64 (z.c.length : Int), .int .u64 (FW z.c 0 : Int), .int .u64 (FW z.c 1 : Int), .int .u64 (FW z.c 2 : Int), .int .u64 (FW z.c 3 : Int), .int .u64 (OW z.c 0 : Int), .int .u64 (OW z.c 1 : Int), .int .u64 (OW z.c 2 : Int), .int .u64 (OW z.c 3 : Int), .slice z.q z.L.length z.k] 67 (0, 0)) := by rw [← hwa]; exact alloc_get _ _
      obtain ⟨hcT, -⟩ := cells_block hgt
      have hBa := bel0 hB hal
      have H1 := HIL.out z (List.mem_of_getElem? hz) wa hBa
      have hzl := HLL.out z (List.mem_of_getElem? hz)
      have HZk : Hid (Z[k]? = some z) := hz
      obtain ⟨X, hXS, hXo, hXr⟩ := hX.out
      have HX : Hid (X.map LNE.S = (Z.take k).map (fun z => z.c :: srtT z.L) ∧ wa.ownsRow w2.heap.size 98 1 u5 k (lvs X) ∧ ∀ x ∈ X, wa.ownsRow w2.heap.size 103 10 x.v x.S.length (nms x.S) ∧ x.S.length ≤ 2000000) := ⟨hXS, own_belQ hXo hal, fun x hx => ⟨own_belQ (hXr x hx).1 hal, (hXr x hx).2⟩⟩
      clear hgt hz hX hXS hXo hXr
      go_wp2_with fail
      refine H1.mono ?_
      rintro e W1 ⟨v1, rfl, o1, hb1⟩
      clear H1 hcT hwa
      have hB1 := bel0 hBa hb1
      have hs1 := hB1.size
      rcases own_shapeQ o1 with ⟨-, h0⟩ | ⟨gl, cl, rfl, -⟩
      · omega
      have oX1 := own_belQ HX.out.2.1 hb1
      go_wp2_with (at_builtin; refine wpList_append_own _ rfl _ _ 97 rfl w2.heap.size 98 i2 _ 1 24 Tryz.underlying97 hi2 hx0 hx1 hx2 rfl (by decide) _ _ _ rfl (oX1.alloc _) ⟨_, 0, none⟩ 1 1 [.slice (some ⟨gl, 0, none⟩) (z.L.length + 1) cl] rfl rfl (World.news_of_block (cs := #[.slice (some ⟨gl, 0, none⟩) (z.L.length + 1) cl]) (t := 98) (fr := (0, 0)) (alloc_get _ _)) (by simp [Value.oneCell']) (by unfold maxLen; omega) (by omega) (by simp; omega) ?_; intro v4 w4 o4 g4 _)
      have HE : Hid (Below w2.heap.size w2 w4 ∧ ∃ X : List LNE, X.map LNE.S = (Z.take (k + 1)).map (fun z => z.c :: srtT z.L) ∧ w4.ownsRow w2.heap.size 98 1 v4 (k + 1) (lvs X) ∧ ∀ x ∈ X, w4.ownsRow w2.heap.size 103 10 x.v x.S.length (nms x.S) ∧ x.S.length ≤ 2000000) := by
        have hlS : (z.c :: srtT z.L).length = z.L.length + 1 := by rw [List.length_cons, srtT_len]
        refine ⟨(belA hB1 _).grown g4 (by simp; omega) (fun b e => (oX1.lt b e).1), X ++ [⟨gl, cl, z.c :: srtT z.L⟩], ?_, ?_, ?_⟩
        · rw [List.map_append, HX.out.1, List.take_add_one, HZk.out, List.map_append]
          rfl
        · unfold lvs
          rw [List.map_append]
          show w4.ownsRow w2.heap.size 98 1 v4 (k + 1) (lvs X ++ [.slice (some ⟨gl, 0, none⟩) (z.c :: srtT z.L).length cl])
          rw [hlS]
          exact o4
        · intro x hx
          rcases List.mem_append.1 hx with hx | hx
          · have h9 := own_belQ (HX.out.2.2 x hx).1 hb1
            exact ⟨(h9.alloc _).kept g4 (own_neQ h9 oX1 (by decide)), (HX.out.2.2 x hx).2⟩
          · obtain rfl := List.mem_singleton.1 hx
            have h9 := own_base o1 hBa.size
            refine ⟨?_, by rw [hlS]; omega⟩
            show w4.ownsRow w2.heap.size 103 10 (.slice (some ⟨gl, 0, none⟩) (z.c :: srtT z.L).length cl) (z.c :: srtT z.L).length (nms (z.c :: srtT z.L))
            rw [hlS]
            exact (h9.alloc _).kept g4 (own_neQ h9 oX1 (by decide))
      clear o4 g4 o1 oX1
      go_wp2_with fail
      go_roundw
      case rel => exact ⟨k + 1, by go_num, by omega, HE.out.1, HE.out.2⟩
      case measure => simp [intOf]; omega
    · have j1 : ¬ (k : Int) < (n : Int) := by omega
      have hkn : n = k := by omega
      subst hkn
      obtain ⟨wl, rfl⟩ : ∃ wl, wl = wr := ⟨wr, rfl⟩
      obtain ⟨X, hXS, hXo, hXr⟩ := hX.out
      rw [List.take_of_length_le (by rw [HN.out]; exact Nat.le_refl _)] at hXS
      have hXl : X.length = n := by have := congrArg List.length hXS; rw [List.length_map, List.length_map] at this; rw [this, HN.out]
      obtain ⟨p5, c5, rfl⟩ := shapeQ1 hXo
      have HSRT : Hid (Calls Tryz.prog 45 #[.slice p5 n c5, .func (.func 46) #[] #[]] wl fun e w' => e = .returned (.tuple #[]) ∧ Below w2.heap.size w2 w' ∧ ∃ Y : List LNE, Y.map LNE.S = srtLn (Z.map (fun z => z.c :: srtT z.L)) ∧ (∀ y ∈ Y, ∃ c R, y.S = c :: R) ∧ w'.ownsRow w2.heap.size 98 1 (.slice p5 n c5) n (lvs Y) ∧ ∀ x ∈ Y, w'.ownsRow w2.heap.size 103 10 x.v x.S.length (nms x.S) ∧ x.S.length ≤ 2000000) := by
        have hcons : ∀ y ∈ X, ∃ c R, y.S = c :: R := fun y hy => by
          have h1 : y.S ∈ X.map LNE.S := List.mem_map_of_mem hy
          rw [hXS] at h1
          obtain ⟨z, -, e⟩ := List.mem_map.1 h1
          exact ⟨_, _, e.symm⟩
        by_cases hk0 : n = 0
        · obtain rfl : X = [] := List.eq_nil_of_length_eq_zero (by omega)
          have hZ0 : Z = [] := List.eq_nil_of_length_eq_zero (by rw [HN.out]; exact hk0)
          refine (sort_le1 n (by omega) p5 c5 wl).mono ?_
          rintro e w' ⟨rfl, hb⟩
          refine ⟨rfl, bel0 hB hb, [], ?_, hcons, own_belQ hXo hb, fun x hx => by cases hx⟩
          rw [hZ0]
          exact srtLn_eq (List.Perm.refl _) List.Pairwise.nil
        · rcases own_shapeQ hXo with ⟨-, h0⟩ | ⟨g5, c5', h5, -, -, cur, hg5⟩
          · omega
          injection h5 with h6 _ h7
          subst h6 h7
          refine (sort_lines X n g5 c5 w2.heap.size wl hXl hN (by omega) hXo hXr).mono ?_
          rintro e w' ⟨rfl, Y, hp, hs, hYo, hg⟩
          refine ⟨rfl, hB.grown hg hB.size (fun b e => (hXo.lt b e).1), Y, ?_, fun y hy => hcons y (hp.mem_iff.1 hy), hYo, fun x hx => ?_⟩
          · rw [← hXS]
            refine srtLn_eq (hp.map _) ?_
            rw [List.pairwise_map]
            exact hs.imp (fun h => by unfold leLn; simpa using h)
          · have h9 := hXr x (hp.mem_iff.1 hx)
            exact ⟨h9.1.kept hg (own_neQ h9.1 hXo (by decide)), h9.2⟩
      clear hX hXS hXo hXr hXl HIL HLL HR
      go_wp2_with fail
      refine HSRT.out.mono ?_
      rintro e W3 ⟨rfl, hB3, Y, hYS, hYc, hYo, hYr⟩
      have HYL : Hid (Y.length = n) := by
        have h1 := congrArg List.length hYS
        rw [List.length_map, (srtLn_perm _).length_eq, List.length_map] at h1
        unfold Hid
        rw [h1, HN.out]
      have HY3 : Hid (Y.map LNE.S = srtLn (Z.map (fun z => z.c :: srtT z.L)) ∧ (∀ y ∈ Y, ∃ c R, y.S = c :: R) ∧ W3.ownsRow w2.heap.size 98 1 (.slice p5 n c5) n (lvs Y) ∧ (∀ x ∈ Y, W3.ownsRow w2.heap.size 103 10 x.v x.S.length (nms x.S) ∧ x.S.length ≤ 2000000) ∧ Below w2.heap.size w2 W3) := ⟨hYS, hYc, hYo, hYr, hB3⟩
      clear hYS hYc hYo hYr hB3 HSRT hB
      go_wp2_with fail
      go_loopw [8, 30] (fun v8 v30 wr => ∃ k1 : Nat, v30 = .int .i64 (k1 : Int) ∧ k1 ≤ n ∧ Hid (∃ Zk : List ZT, Zk.map ZT.cont = (Y.take k1).map LNE.hd ∧ wr.ownsRow W3.heap.size 67 10 v8 Zk.length (tes Zk) ∧ ZL wr W3.heap.size Zk ∧ Below W3.heap.size W3 wr)) (fun _ v30 _ => n - (intOf v30).toNat)
      case atStart => exact ⟨0, rfl, Nat.zero_le _, [], rfl, World.ownsRow_nil _ _ _ _, (fun z hz => by cases hz), Below.refl _ _⟩
      case round =>
        obtain ⟨k, rfl, hk2, hZk⟩ := hrel
        obtain ⟨Zk, hz1', hz2', hz3', hz4'⟩ := hZk.out
        by_cases hlt2 : k < n
        · have q1 : (k : Int) < (n : Int) := by omega
          have q00 : (0 : Int) ≤ (k : Int) := by omega
          obtain ⟨x0, hx0'⟩ : ∃ x, Y[k]? = some x := ⟨_, List.getElem?_eq_getElem (by rw [HYL.out]; exact hlt2)⟩
          obtain ⟨wi, rfl⟩ : ∃ wi, wi = wr := ⟨wr, rfl⟩
          obtain ⟨tc, R, hS⟩ := HY3.out.2.1 x0 (List.mem_of_getElem? hx0')
          obtain ⟨gl, cl, Sx⟩ := x0
          simp only at hS
          subst hS
          have oL := own_belQ HY3.out.2.2.1 hz4'
          rcases own_shapeQ oL with ⟨-, h0⟩ | ⟨g5, c5', h5, -⟩
          · omega
          injection h5 with h6 _ h7
          subst h6 h7
          have hrow := HY3.out.2.2.2.1 _ (List.mem_of_getElem? hx0')
          have hrl : R.length ≤ 2000000 := by have := hrow.2; simp only [List.length_cons] at this; omega
          have oV : wi.ownsRow w2.heap.size 103 10 (.slice (some ⟨gl, 0, none⟩) (R.length + 1) cl) (R.length + 1) (nms (tc :: R)) := own_belQ hrow.1 hz4'
          have hcl := own_capQ oV
          have q0 : wi.cell? ⟨g5, k, none⟩ = some (.slice (some ⟨gl, 0, none⟩) (R.length + 1) cl) := by
            rw [oL.cellAt k (by omega), lvs, List.getElem?_map, hx0']
            rfl
          have HLV : Hid (wi.ownsRow w2.heap.size 103 10 (.slice (some ⟨gl, 0, none⟩) (R.length + 1) cl) (R.length + 1) (nms (tc :: R))) := oV
          have HZ : Hid (Zk.map ZT.cont = (Y.take k).map LNE.hd ∧ wi.ownsRow W3.heap.size 67 10 u8 Zk.length (tes Zk) ∧ ZL wi W3.heap.size Zk ∧ Below W3.heap.size W3 wi) := ⟨hz1', hz2', hz3', hz4'⟩
          obtain ⟨x0, hxe⟩ : ∃ x0 : LNE, (⟨gl, cl, tc :: R⟩ : LNE) = x0 := ⟨_, rfl⟩
          have HY : Hid (Y[k]? = some x0 ∧ x0.S = tc :: R) := by rw [← hxe]; exact ⟨hx0', rfl⟩
          clear oL oV hrow hx0' hz1' hz2' hz3' hz4' hZk hxe
          have k1 : (1 : Int) ≤ (cl : Int) := by omega
          have k2 : (R.length : Int) + 1 ≤ (cl : Int) := by omega
          have k3 : 1 ≤ cl := by omega
          by_cases hc1 : cl = 1
          · subst hc1
            have hm0 : R.length = 0 := by omega
            have HM0 : Hid (R.length = 0) := hm0
            rw [hm0] at q0 k2 hcl
            go_upto_region 14 with fail
            go_loopw [11, 37] (fun v11 v37 ws => ∃ j : Nat, v37 = .int .i64 (j : Int) ∧ j ≤ 0 ∧ ws.ownsRow wi.heap.size 58 9 v11 j (ces (R.take j)) ∧ Below wi.heap.size wi ws) (fun _ v37 _ => 0 - (intOf v37).toNat)
            case atStart => exact ⟨0, rfl, Nat.zero_le _, World.ownsRow_nil _ _ _ _, Below.refl _ _⟩
            case round =>
              clear q0
              obtain ⟨j, rfl, hj, oj, hBj⟩ := hrel
              by_cases hjm : j < 0
              · omega
              · have r1 : ¬ (j : Int) < (0 : Int) := by omega
                obtain rfl : j = 0 := by omega
                rw [List.take_of_length_le (by first | exact Nat.le_refl _ | omega)] at oj
                obtain ⟨p1, p2, p3, p4, p5', p6, p7, p8, p9⟩ := nm_at0 (own_belQ HLV.out hBj) rfl
                obtain ⟨pv, cv1, rfl⟩ := shapeQ1 oj
                have hs3 := hBj.size
                have hSI := HZ.out.1
                have oZ := own_belQ HZ.out.2.1 hBj
                have hzs := HZ.out.2.2.2.size
                have HOJ : Hid (wr.ownsRow wi.heap.size 58 9 (.slice pv 0 cv1) 0 (ces R)) := oj
                have hlz : Zk.length ≤ 1000000 := by have := congrArg List.length hSI; rw [List.length_map, List.length_map, List.length_take] at this; omega
                have HZL : Hid (Zk.length = k) := by unfold Hid; have := congrArg List.length hSI; rw [List.length_map, List.length_map, List.length_take] at this; have := HYL.out; omega
                clear oj
                go_wp2_with (at_builtin; refine wpList_append_own _ rfl _ _ 26 rfl W3.heap.size 67 i1 _ 10 96 Tryz.underlying26 hi1 hy0 hy1 hy2 rfl (by decide) _ _ _ rfl (oZ.alloc _) ⟨_, 0, none⟩ 1 1 ([.int .i64 (tc.length : Int), .int .u64 (FW tc 0 : Int), .int .u64 (FW tc 1 : Int), .int .u64 (FW tc 2 : Int), .int .u64 (FW tc 3 : Int), .int .u64 (OW tc 0 : Int), .int .u64 (OW tc 1 : Int), .int .u64 (OW tc 2 : Int), .int .u64 (OW tc 3 : Int), .slice pv 0 cv1]) rfl rfl (World.news_of_block (cs := #[.int .i64 (tc.length : Int), .int .u64 (FW tc 0 : Int), .int .u64 (FW tc 1 : Int), .int .u64 (FW tc 2 : Int), .int .u64 (FW tc 3 : Int), .int .u64 (OW tc 0 : Int), .int .u64 (OW tc 1 : Int), .int .u64 (OW tc 2 : Int), .int .u64 (OW tc 3 : Int), .slice pv 0 cv1]) (t := 67) (fr := (0, 0)) (alloc_get _ _)) (by simp [Value.oneCell']) (by unfold maxLen; omega) (by omega) (by simp; omega) ?_; intro v4 w4 o4 g4 _)
                have HE : Hid (∃ Z' : List ZT, Z'.map ZT.cont = (Y.take (k + 1)).map LNE.hd ∧ w4.ownsRow W3.heap.size 67 10 v4 Z'.length (tes Z') ∧ ZL w4 W3.heap.size Z' ∧ Below W3.heap.size W3 w4) := by
                  refine ⟨Zk ++ [⟨tc, pv, cv1, R⟩], ?_, ?_, ?_, ?_⟩
                  · rw [List.map_append, hSI, List.take_add_one, HY.out.1, List.map_append]
                    congr 1
                    show [(tc, R)] = [LNE.hd x0]
                    unfold LNE.hd
                    rw [HY.out.2]
                    rfl
                  · rw [tes_snoc, List.length_append]
                    have hR0 : R = [] := List.eq_nil_of_length_eq_zero (by omega)
                    subst hR0
                    exact o4
                  · intro z hz
                    rcases List.mem_append.1 hz with hz | hz
                    · exact (own_belQ (HZ.out.2.2.1 z hz) (belA hBj _)).kept g4 (own_neQ (HZ.out.2.2.1 z hz) HZ.out.2.1 (by decide))
                    · obtain rfl := List.mem_singleton.1 hz
                      have h9 := own_base (HOJ.out.alloc (.cells #[.int .i64 (tc.length : Int), .int .u64 (FW tc 0 : Int), .int .u64 (FW tc 1 : Int), .int .u64 (FW tc 2 : Int), .int .u64 (FW tc 3 : Int), .int .u64 (OW tc 0 : Int), .int .u64 (OW tc 1 : Int), .int .u64 (OW tc 2 : Int), .int .u64 (OW tc 3 : Int), .slice pv 0 cv1] 67 (0, 0))) hzs
                      have hR0 : R.length = 0 := by omega
                      show w4.ownsRow W3.heap.size 58 9 (.slice pv R.length cv1) R.length (ces R)
                      rw [hR0]
                      exact h9.kept g4 (own_neQ HOJ.out oZ (by decide))
                  · exact (belA (bel0 HZ.out.2.2.2 hBj) _).grown g4 (by simp; omega) (fun b e => (oZ.lt b e).1)
                clear o4 g4
                go_wp2_with fail
                go_roundw
                case rel => exact ⟨k + 1, by go_num, by omega, HE⟩
                case measure => simp [intOf]; omega
          · go_upto_region 14 with fail
            go_loopw [11, 37] (fun v11 v37 ws => ∃ j : Nat, v37 = .int .i64 (j : Int) ∧ j ≤ R.length ∧ ws.ownsRow wi.heap.size 58 9 v11 j (ces (R.take j)) ∧ Below wi.heap.size wi ws) (fun _ v37 _ => R.length - (intOf v37).toNat)
            case atStart => exact ⟨0, rfl, Nat.zero_le _, World.ownsRow_nil _ _ _ _, Below.refl _ _⟩
            case round =>
              clear q0
              obtain ⟨j, rfl, hj, oj, hBj⟩ := hrel
              by_cases hjm : j < R.length
              · have r1 : (j : Int) < (R.length : Int) := by omega
                have r0 : (0 : Int) ≤ (j : Int) := by omega
                obtain ⟨x, hx⟩ : ∃ x, R[j]? = some x := ⟨_, List.getElem?_eq_getElem hjm⟩
                obtain ⟨p0, p1, p2, p3, p4, p5', p6, p7, p8, p9⟩ := nm_at (own_belQ HLV.out hBj) rfl hx
                obtain ⟨wa, hwa⟩ : ∃ wa, wr.alloc (.cells #[.string ⟨x.toArray⟩, .int .i64 (x.length : Int), .int .u64 (FW x 0 : Int), .int .u64 (FW x 1 : Int), .int .u64 (FW x 2 : Int), .int .u64 (FW x 3 : Int), .int .u64 (OW x 0 : Int), .int .u64 (OW x 1 : Int), .int .u64 (OW x 2 : Int), .int .u64 (OW x 3 : Int)] 103 (0, 0)) = wa := ⟨_, rfl⟩
                have hal : Below wr.heap.size wr wa := by rw [← hwa]; exact belA (Below.refl _ _) _
                have hgt : wa.heap[wr.heap.size]? = some (.cells #[.string ⟨x.toArray⟩, .int .i64 (x.length : Int), .int .u64 (FW x 0 : Int), .int .u64 (FW x 1 : Int), .int .u64 (FW x 2 : Int), .int .u64 (FW x 3 : Int), .int .u64 (OW x 0 : Int), .int .u64 (OW x 1 : Int), .int .u64 (OW x 2 : Int), .int .u64 (OW x 3 : Int)] 103 (0, 0)) := by rw [← hwa]; exact alloc_get _ _
                obtain ⟨hcT, -⟩ := cells_block hgt
                have hBa := bel0 hBj hal
                have hsa := hBa.size
                have oa := own_belQ oj hal
                have HX : Hid (ces (R.take (j + 1)) = ces (R.take j) ++ ce9 x) := by
                  unfold Hid
                  rw [List.take_add_one, hx]
                  exact ces_snoc _ _
                clear hgt hx oj
                go_wp2_with (at_builtin; refine wpList_append_own _ rfl _ _ 32 rfl wi.heap.size 58 i0 _ 9 72 Tryz.underlying32 hi hz0 hz1 hz2 rfl (by decide) _ _ _ rfl (oa.alloc _) ⟨_, 0, none⟩ 1 1 (ce9 x) rfl rfl (World.news_of_block (cs := #[.int .i64 (x.length : Int), .int .u64 (FW x 0 : Int), .int .u64 (FW x 1 : Int), .int .u64 (FW x 2 : Int), .int .u64 (FW x 3 : Int), .int .u64 (OW x 0 : Int), .int .u64 (OW x 1 : Int), .int .u64 (OW x 2 : Int), .int .u64 (OW x 3 : Int)]) (t := 58) (fr := (0, 0)) (alloc_get _ _)) (by simp [ce9, Value.oneCell']) (by unfold maxLen; omega) (by omega) (by simp; omega) ?_; intro v4 w4 o4 g4 _)
                have HE : Hid (w4.ownsRow wi.heap.size 58 9 v4 (j + 1) (ces (R.take (j + 1))) ∧ Below wi.heap.size wi w4) := ⟨by rw [HX.out]; exact o4, (belA hBa _).grown g4 (by simp; omega) (fun b e => (oa.lt b e).1)⟩
                clear o4 g4 oa hcT
                go_wp2_with fail
                go_roundw
                case rel => exact ⟨j + 1, by go_num, by omega, HE.out.1, HE.out.2⟩
                case measure => simp [intOf]; omega
              · have r1 : ¬ (j : Int) < (R.length : Int) := by omega
                obtain rfl : j = R.length := by omega
                rw [List.take_of_length_le (by first | exact Nat.le_refl _ | omega)] at oj
                obtain ⟨p1, p2, p3, p4, p5', p6, p7, p8, p9⟩ := nm_at0 (own_belQ HLV.out hBj) rfl
                obtain ⟨pv, cv1, rfl⟩ := shapeQ1 oj
                have hs3 := hBj.size
                have hSI := HZ.out.1
                have oZ := own_belQ HZ.out.2.1 hBj
                have hzs := HZ.out.2.2.2.size
                have HOJ : Hid (wr.ownsRow wi.heap.size 58 9 (.slice pv R.length cv1) R.length (ces R)) := oj
                have hlz : Zk.length ≤ 1000000 := by have := congrArg List.length hSI; rw [List.length_map, List.length_map, List.length_take] at this; omega
                have HZL : Hid (Zk.length = k) := by unfold Hid; have := congrArg List.length hSI; rw [List.length_map, List.length_map, List.length_take] at this; have := HYL.out; omega
                clear oj
                go_wp2_with (at_builtin; refine wpList_append_own _ rfl _ _ 26 rfl W3.heap.size 67 i1 _ 10 96 Tryz.underlying26 hi1 hy0 hy1 hy2 rfl (by decide) _ _ _ rfl (oZ.alloc _) ⟨_, 0, none⟩ 1 1 ([.int .i64 (tc.length : Int), .int .u64 (FW tc 0 : Int), .int .u64 (FW tc 1 : Int), .int .u64 (FW tc 2 : Int), .int .u64 (FW tc 3 : Int), .int .u64 (OW tc 0 : Int), .int .u64 (OW tc 1 : Int), .int .u64 (OW tc 2 : Int), .int .u64 (OW tc 3 : Int), .slice pv R.length cv1]) rfl rfl (World.news_of_block (cs := #[.int .i64 (tc.length : Int), .int .u64 (FW tc 0 : Int), .int .u64 (FW tc 1 : Int), .int .u64 (FW tc 2 : Int), .int .u64 (FW tc 3 : Int), .int .u64 (OW tc 0 : Int), .int .u64 (OW tc 1 : Int), .int .u64 (OW tc 2 : Int), .int .u64 (OW tc 3 : Int), .slice pv R.length cv1]) (t := 67) (fr := (0, 0)) (alloc_get _ _)) (by simp [Value.oneCell']) (by unfold maxLen; omega) (by omega) (by simp; omega) ?_; intro v4 w4 o4 g4 _)
                have HE : Hid (∃ Z' : List ZT, Z'.map ZT.cont = (Y.take (k + 1)).map LNE.hd ∧ w4.ownsRow W3.heap.size 67 10 v4 Z'.length (tes Z') ∧ ZL w4 W3.heap.size Z' ∧ Below W3.heap.size W3 w4) := by
                  refine ⟨Zk ++ [⟨tc, pv, cv1, R⟩], ?_, ?_, ?_, ?_⟩
                  · rw [List.map_append, hSI, List.take_add_one, HY.out.1, List.map_append]
                    congr 1
                    show [(tc, R)] = [LNE.hd x0]
                    unfold LNE.hd
                    rw [HY.out.2]
                    rfl
                  · rw [tes_snoc, List.length_append]
                    skip
                    skip
                    exact o4
                  · intro z hz
                    rcases List.mem_append.1 hz with hz | hz
                    · exact (own_belQ (HZ.out.2.2.1 z hz) (belA hBj _)).kept g4 (own_neQ (HZ.out.2.2.1 z hz) HZ.out.2.1 (by decide))
                    · obtain rfl := List.mem_singleton.1 hz
                      have h9 := own_base (HOJ.out.alloc (.cells #[.int .i64 (tc.length : Int), .int .u64 (FW tc 0 : Int), .int .u64 (FW tc 1 : Int), .int .u64 (FW tc 2 : Int), .int .u64 (FW tc 3 : Int), .int .u64 (OW tc 0 : Int), .int .u64 (OW tc 1 : Int), .int .u64 (OW tc 2 : Int), .int .u64 (OW tc 3 : Int), .slice pv R.length cv1] 67 (0, 0))) hzs
                      skip
                      show w4.ownsRow W3.heap.size 58 9 (.slice pv R.length cv1) R.length (ces R)
                      skip
                      exact h9.kept g4 (own_neQ HOJ.out oZ (by decide))
                  · exact (belA (bel0 HZ.out.2.2.2 hBj) _).grown g4 (by simp; omega) (fun b e => (oZ.lt b e).1)
                clear o4 g4
                go_wp2_with fail
                go_roundw
                case rel => exact ⟨k + 1, by go_num, by omega, HE⟩
                case measure => simp [intOf]; omega
        · have q1 : ¬ (k : Int) < (n : Int) := by omega
          obtain rfl : k = n := by omega
          rw [List.take_of_length_le (by rw [HYL.out]; exact Nat.le_refl _)] at hz1'
          obtain ⟨p8', c8, rfl⟩ := shapeQ1 hz2'
          have hBt := bel0 HY3.out.2.2.2.2 hz4'
          have hgr := keepblk3 hBt HA.out.1
          obtain ⟨hcR, hfR⟩ := cells_block hgr
          have HP : Hid (Below w.heap.size w (((wr.setCell ⟨w.heap.size, 0, none⟩ (.int .i64 b)).setCell ⟨w.heap.size, 1, none⟩ (.slice p8' Zk.length c8)).setCell ⟨w.heap.size, 2, none⟩ (.bool false)) ∧ (((wr.setCell ⟨w.heap.size, 0, none⟩ (.int .i64 b)).setCell ⟨w.heap.size, 1, none⟩ (.slice p8' Zk.length c8)).setCell ⟨w.heap.size, 2, none⟩ (.bool false)).heap[w.heap.size]? = some (.cells #[.int .i64 b, .slice p8' Zk.length c8, .bool false] 28 (0, 0)) ∧ SPL (((wr.setCell ⟨w.heap.size, 0, none⟩ (.int .i64 b)).setCell ⟨w.heap.size, 1, none⟩ (.slice p8' Zk.length c8)).setCell ⟨w.heap.size, 2, none⟩ (.bool false)) w.heap.size (.slice p8' Zk.length c8) (ordT (Z.map ZT.cont))) := by
            have one : ∀ (X : World) (k : Nat) (u : Value), X.grownBy (X.setCell ⟨w.heap.size, k, none⟩ u) (some w.heap.size) := fun X k u => ⟨rfl, rfl, rfl, by simp, fun j _ hj => heap_setCell_other X ⟨w.heap.size, k, none⟩ j u (fun e => hj (by simp [e]))⟩
            have hg3 := grown_trans (one wr 0 (.int .i64 b)) (grown_trans (one _ 1 (.slice p8' Zk.length c8)) (one _ 2 (.bool false)))
            have hlt := lt_of_get3 HA.out.1
            have hs3 := HY3.out.2.2.2.2.size
            have hs2 := HA.out.2.size
            have h0 := set_get (j := 0) (.int .i64 b) hgr
            have h1 := set_get (j := 1) (.slice p8' Zk.length c8) h0
            have h2 := set_get (j := 2) (.bool false) h1
            refine ⟨(((bel0 HA.out.2 hBt).setCell (Nat.le_refl _) _).setCell (Nat.le_refl _) _).setCell (Nat.le_refl _) _, by rw [h2]; simp, Zk, ?_, own_base (hz2'.kept hg3 (.inr (fun e => by have := (hz2'.lt _ e).1; omega))) (by omega), fun z hz => own_base ((hz3' z hz).kept hg3 (.inr (fun e => by have := ((hz3' z hz).lt _ e).1; omega))) (by omega)⟩
            rw [hz1']
            unfold ordT
            rw [List.map_map]
            have e9 : srtLn (List.map ((fun t : List UInt8 × List (List UInt8) => t.1 :: srtT t.2) ∘ ZT.cont) Z) = Y.map LNE.S := HY3.out.1.symm
            rw [e9, List.map_map]
            rfl
          clear hz1' hz2' hz3' hz4' hgr hZk
          go_wp2_with fail
          refine bodyPost_ret (v := .agg #[.int .i64 b, .slice p8' Zk.length c8, .bool false]) (res_space _ _ w.heap.size _ _ _ Tryz.results31 rfl HP.out.2.1) rfl ?_
          exact ⟨_, rfl, HP.out.2.2, HP.out.1⟩
end Go.Proofs.YtecgjlpmmailjaaGreatDoor

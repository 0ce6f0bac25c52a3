import Derived.Test.YtccbfaembcefjaaGreatDoorXAE
import Derived.Deep.AppendLies
namespace Go.Proofs.YtccbfaembcefjaaGreatDoor
open Go.RowKit
theorem info_cubeQ : (Tryz.prog.info? 50).map (fun i => (i.zero, i.size, i.bytes)) = some (some (.agg #[.int .i64 0, .int .u64 0, .int .u64 0, .int .u64 0, .int .u64 0, .int .u64 0, .int .u64 0, .int .u64 0, .int .u64 0]), 9, 72) := by kernel_rfl
set_option maxRecDepth 100000 in
theorem delc_nil (bw bx : Nat) (w : World) : Calls Tryz.prog 114 #[.slice none 0 0, .func (.func 115) #[] #[.pointer (some ⟨bw, 0, none⟩), .pointer (some ⟨bx, 0, none⟩)]] w fun e w' => e = .returned (.slice none 0 0) ∧ Below w.heap.size w w' := by
  have H1 := idxc2_any [] 0 none 0 bw bx (fun _ => true) w rfl (by omega) (fun W hW k t ht => by simp at ht) (fun W hW t ht => by cases ht)
  have e : ixP (fun _ => true) 0 [] = -1 := rfl
  rw [e] at H1
  go_enter Tryz.func114, Tryz.ntmps114
  go_wp2_with fail
  refine H1.mono ?_
  rintro e W0 ⟨rfl, hb0⟩
  clear H1
  go_wp2_with fail
  go_ret
  exact ⟨rfl, hb0⟩
theorem own_shapeQ {W : World} {B n : Nat} {e : TypeId} {sz : Nat} {v : Value} {xs : List Value} (h : W.ownsRow B e sz v n xs) : (v = .slice none 0 0 ∧ n = 0) ∨ ∃ g c, v = .slice (some ⟨g, 0, none⟩) n c ∧ n ≤ c ∧ B ≤ g ∧ ∃ cur, W.heap[g]? = some (.cells cur e (0, 0)) := by
  rcases h.2 with h' | ⟨g, cap, cur, h', hb, hg, hnc, _⟩
  · exact .inl h'
  · exact .inr ⟨g, cap, h', hnc, hb, cur, hg⟩
theorem delc_all (L : List (List UInt8)) (n : Nat) (v : Value) (B : Nat) (x : List UInt8) (bw bx : Nat) (w : World) (hn : L.length = n) (hN : n ≤ 281474976710656) (h : w.ownsRow B 50 9 v n (ces L)) (gL : ∀ t ∈ L, good t = true) (gx : good x = true) (hq : WQ w bw bx x) (hne : v.ownBlock ≠ some bx) (q : List UInt8 → Bool) (hqd : q = fun t => !wiB t x) :
    Calls Tryz.prog 114 #[v, .func (.func 115) #[] #[.pointer (some ⟨bw, 0, none⟩), .pointer (some ⟨bx, 0, none⟩)]] w fun e w' => ∃ v', e = .returned v' ∧ w'.ownsRow B 50 9 v' (L.filter q).length (ces (L.filter q)) ∧ w.grownBy w' v.ownBlock := by
  rcases own_shapeQ h with ⟨rfl, rfl⟩ | ⟨g, c, rfl, -, -, cur, hg⟩
  · obtain rfl := List.length_eq_zero_iff.1 hn
    refine (delc_nil bw bx w).mono ?_
    rintro e w' ⟨rfl, hb⟩
    exact ⟨_, rfl, World.ownsRow_nil _ _ _ _, below_grown hb _⟩
  · have h1 : bw ≠ g := fun e => by
      subst e
      rw [hq.1] at hg
      injection hg with hg
      injection hg with _ hg _
      revert hg
      decide
    refine (delc_any L n c g B x bw bx w hn hN h gL gx hq h1 (fun e => hne (by rw [e]; rfl)) q hqd).mono ?_
    rintro e w' ⟨m, rfl, rfl, ho, hgr⟩
    exact ⟨_, rfl, ho, hgr⟩
theorem own_belQ {W X : World} {B n : Nat} {e : TypeId} {sz : Nat} {v : Value} {xs : List Value} (h : W.ownsRow B e sz v n xs) (hb : Below W.heap.size W X) : X.ownsRow B e sz v n xs := by
  refine h.kept (below_grown hb none) ?_
  generalize v.ownBlock = b
  cases b with
  | none => exact .inl rfl
  | some b => exact .inr (by intro e; cases e)
/-- the greatest of a list, one by one -/
def topS (T : List (List UInt8)) (x : List UInt8) : List (List UInt8) := if T.any (fun y => wiB x y) = true then T else T.filter (fun y => !wiB y x) ++ [x]
def topL (L : List (List UInt8)) : List (List UInt8) := L.foldl topS []
theorem topL_step {L : List (List UInt8)} {k : Nat} {x : List UInt8} (h : L[k]? = some x) : topL (L.take (k + 1)) = topS (topL (L.take k)) x := by
  unfold topL
  rw [List.take_add_one, h, List.foldl_append]
  rfl
theorem topS_mem {T : List (List UInt8)} {x t : List UInt8} (h : t ∈ topS T x) : t ∈ T ∨ t = x := by
  unfold topS at h
  split at h
  · exact .inl h
  · rcases List.mem_append.1 h with h | h
    · exact .inl (List.mem_filter.1 h).1
    · exact .inr (List.mem_singleton.1 h)
theorem topF_mem (L : List (List UInt8)) : ∀ (T : List (List UInt8)) (t : List UInt8), t ∈ L.foldl topS T → t ∈ T ∨ t ∈ L := by
  induction L with
  | nil => exact fun T t h => .inl h
  | cons x L ih =>
    intro T t h
    rcases ih _ t h with h | h
    · rcases topS_mem h with h | rfl
      · exact .inl h
      · exact .inr (by simp)
    · exact .inr (by simp [h])
theorem topL_mem {L : List (List UInt8)} {t : List UInt8} (h : t ∈ topL L) : t ∈ L := by
  rcases topF_mem L [] t h with h | h
  · cases h
  · exact h
theorem topS_len (T : List (List UInt8)) (x : List UInt8) : (topS T x).length ≤ T.length + 1 := by
  unfold topS
  split
  · omega
  · rw [List.length_append]
    have := List.length_filter_le (fun y => !wiB y x) T
    simp
    omega
theorem topF_len (L : List (List UInt8)) : ∀ T : List (List UInt8), (L.foldl topS T).length ≤ T.length + L.length := by
  induction L with
  | nil => intro T; simp
  | cons x L ih =>
    intro T
    have h1 := ih (topS T x)
    have h2 := topS_len T x
    rw [List.foldl_cons, List.length_cons]
    omega
theorem topL_len (L : List (List UInt8)) : (topL L).length ≤ L.length := by
  have := topF_len L []
  simpa [topL] using this
set_option maxRecDepth 100000 in
set_option maxHeartbeats 4000000 in
theorem great_any (L : List (List UInt8)) (n : Nat) (o : Option Addr) (c : Nat) (w : World) (hn : L.length = n) (hN : n ≤ 1000000) (hr : IRC w o L) (gL : ∀ t ∈ L, good t = true) :
    Calls Tryz.prog 94 #[.slice o n c, .func (.func 95) #[] #[]] w fun e w' => ∃ v, e = .returned v ∧ w'.ownsRow w.heap.size 50 9 v (topL L).length (ces (topL L)) ∧ Below w.heap.size w w' := by
  obtain ⟨i0, hi, hz0, hz1, hz2⟩ := info_parts info_cubeQ
  have HR : Hid (IRC w o L) := hr
  have HG : Hid (∀ t ∈ L, good t = true) := gL
  have HN : Hid (L.length = n) := hn
  clear hr gL hn
  go_enter Tryz.func94, Tryz.ntmps94
  go_wp2_with fail
  go_loopw [5, 10] (fun v5 v10 wr => ∃ k : Nat, v10 = .int .i64 (k : Int) ∧ k ≤ n ∧ wr.ownsRow w.heap.size 50 9 v5 (topL (L.take k)).length (ces (topL (L.take k))) ∧ Below w.heap.size w wr ∧ wr.heap[w.heap.size]? = some (.cells #[.func (.func 95) #[] #[]] 155 (0, 0))) (fun _ v10 _ => n - (intOf v10).toNat)
  case atStart => exact ⟨0, rfl, Nat.zero_le _, World.ownsRow_nil _ _ _ _, belA (Below.refl _ _) _, alloc_get _ _⟩
  case round =>
    obtain ⟨k, rfl, hk, oT, hB, hw⟩ := hrel
    by_cases hlt : k < n
    · have j1 : (k : Int) < (n : Int) := by omega
      have j0 : (0 : Int) ≤ (k : Int) := by omega
      obtain ⟨x, hx⟩ : ∃ x, L[k]? = some x := ⟨_, List.getElem?_eq_getElem (by rw [HN.out]; exact hlt)⟩
      obtain ⟨g, o0, rfl, p0, p1, p2, p3, p4, p5, p6, p7, p8⟩ := HR.out wr hB k x hx
      have gx := HG.out x (List.mem_of_getElem? hx)
      have HS := topL_step hx
      have hTl := topL_len (L.take k)
      have gT : ∀ t ∈ topL (L.take k), good t = true := fun t ht => HG.out t (List.mem_of_mem_take (topL_mem ht))
      have hTk : (L.take k).length ≤ 1000000 := by rw [List.length_take]; omega
      obtain ⟨Tk, hTe⟩ : ∃ T, topL (L.take k) = T := ⟨_, rfl⟩
      rw [hTe] at oT HS hTl gT
      have HTS : Hid (topL (L.take (k + 1)) = topS Tk x ∧ Tk.length ≤ 1000000 ∧ (∀ t ∈ Tk, good t = true) ∧ good x = true) := ⟨HS, by omega, gT, gx⟩
      clear hx HS hTl gT hTk hTe gx
      obtain ⟨w1, hw1⟩ : ∃ w1, wr.alloc (.cells #[.int .i64 (x.length : Int), .int .u64 (FW x 0 : Int), .int .u64 (FW x 1 : Int), .int .u64 (FW x 2 : Int), .int .u64 (FW x 3 : Int), .int .u64 (OW x 0 : Int), .int .u64 (OW x 1 : Int), .int .u64 (OW x 2 : Int), .int .u64 (OW x 3 : Int)] 50 (0, 0)) = w1 := ⟨_, rfl⟩
      have hal : Below wr.heap.size wr w1 := by rw [← hw1]; exact belA (Below.refl _ _) _
      have hq1 : WQ w1 w.heap.size wr.heap.size x := ⟨keepblk3 hal hw, by rw [← hw1]; exact alloc_get _ _⟩
      have oT1 : w1.ownsRow w.heap.size 50 9 u5 Tk.length (ces Tk) := own_belQ oT hal
      have hsh : ∃ p c2, u5 = .slice p Tk.length c2 := by
        rcases own_shapeQ oT with ⟨e, h0⟩ | ⟨g, c, e, _⟩
        · exact ⟨none, 0, by rw [h0]; exact e⟩
        · exact ⟨_, _, e⟩
      obtain ⟨p2', c2, hu⟩ := hsh
      have HC : Hid (Calls Tryz.prog 112 #[u5, .func (.func 113) #[] #[.pointer (some ⟨w.heap.size, 0, none⟩), .pointer (some ⟨wr.heap.size, 0, none⟩)]] w1 fun e w' => e = .returned (.bool (Tk.any (fun y => wiB x y))) ∧ Below w1.heap.size w1 w') := by
        rw [hu]
        rw [hu] at oT1
        exact contc_any Tk Tk.length p2' c2 w.heap.size wr.heap.size (fun y => wiB x y) w1 rfl (by have := HTS.out.2.1; omega) (IRC_own oT1 rfl) (fun W hW t ht => great1_any x t _ _ W HTS.out.2.2.2 (HTS.out.2.2.1 t ht) (hq1.below hW))
      have hob : u5.ownBlock ≠ some wr.heap.size := fun e => by
        have := (oT.lt _ e).2
        omega
      have HO1 : Hid (w1.ownsRow w.heap.size 50 9 u5 Tk.length (ces Tk) ∧ WQ w1 w.heap.size wr.heap.size x ∧ u5.ownBlock ≠ some wr.heap.size ∧ Below w.heap.size w w1) := ⟨oT1, hq1, hob, bel0 hB hal⟩
      clear oT oT1 hq1 hob hu hw
      go_wp2_with fail
      refine HC.out.mono ?_
      rintro e W2 ⟨rfl, hb2⟩
      clear HC p0 p1 p2 p3 p4 p5 p6 p7 p8
      have hB2 := bel0 HO1.out.2.2.2 hb2
      have hq2 := HO1.out.2.1.below hb2
      have oT2 := own_belQ HO1.out.1 hb2
      cases ha : Tk.any (fun y => wiB x y) with
      | true =>
        have HF : Hid (topL (L.take (k + 1)) = Tk ∧ W2.ownsRow w.heap.size 50 9 u5 Tk.length (ces Tk) ∧ W2.heap[w.heap.size]? = some (.cells #[.func (.func 95) #[] #[]] 155 (0, 0))) := ⟨by rw [HTS.out.1]; unfold topS; rw [if_pos ha], oT2, hq2.1⟩
        clear ha oT2 hq2
        go_wp2_with fail
        go_roundw
        case rel => exact ⟨k + 1, by go_num, by omega, by rw [HF.out.1]; exact HF.out.2.1, hB2, HF.out.2.2⟩
        case measure => simp [intOf]; omega
      | false =>
        have HF : Hid (topL (L.take (k + 1)) = Tk.filter (fun y => !wiB y x) ++ [x]) := by
          unfold Hid
          rw [HTS.out.1]
          unfold topS
          rw [ha, if_neg (by simp)]
        have HD : Hid (Calls Tryz.prog 114 #[u5, .func (.func 115) #[] #[.pointer (some ⟨w.heap.size, 0, none⟩), .pointer (some ⟨wr.heap.size, 0, none⟩)]] W2 fun e w' => ∃ v', e = .returned v' ∧ w'.ownsRow w.heap.size 50 9 v' (Tk.filter (fun y => !wiB y x)).length (ces (Tk.filter (fun y => !wiB y x))) ∧ W2.grownBy w' u5.ownBlock) := delc_all Tk Tk.length u5 w.heap.size x w.heap.size wr.heap.size W2 rfl (by have := HTS.out.2.1; omega) oT2 HTS.out.2.2.1 HTS.out.2.2.2 hq2 HO1.out.2.2.1 _ rfl
        have HQ2 : Hid (WQ W2 w.heap.size wr.heap.size x ∧ W2.ownsRow w.heap.size 50 9 u5 Tk.length (ces Tk)) := ⟨hq2, oT2⟩
        clear ha hq2 oT2
        go_wp2_with fail
        refine HD.out.mono ?_
        rintro e W3 ⟨v3, rfl, o3, g3⟩
        have hfl := List.length_filter_le (fun y => !wiB y x) Tk
        have hT6 := HTS.out.2.1
        have hb3 : W3.heap[wr.heap.size]? = some (.cells #[.int .i64 (x.length : Int), .int .u64 (FW x 0 : Int), .int .u64 (FW x 1 : Int), .int .u64 (FW x 2 : Int), .int .u64 (FW x 3 : Int), .int .u64 (OW x 0 : Int), .int .u64 (OW x 1 : Int), .int .u64 (OW x 2 : Int), .int .u64 (OW x 3 : Int)] 50 (0, 0)) := (g3.block _ (lt_of_get3 HQ2.out.1.2) (fun e => HO1.out.2.2.1 e.symm)).trans HQ2.out.1.2
        have hw3 : W3.heap[w.heap.size]? = some (.cells #[.func (.func 95) #[] #[]] 155 (0, 0)) := by
          refine (g3.block _ (lt_of_get3 HQ2.out.1.1) (fun e => ?_)).trans HQ2.out.1.1
          rcases own_shapeQ HQ2.out.2 with ⟨h, -⟩ | ⟨g9, c9, h, -, -, cur, hg9⟩
          · rw [h] at e
            cases e
          · rw [h] at e
            have e2 : w.heap.size = g9 := by injection e
            rw [← e2, HQ2.out.1.1] at hg9
            injection hg9 with hg9
            injection hg9 with _ hg9 _
            revert hg9
            decide
        have hB3 : Below w.heap.size w W3 := hB2.grown g3 hB2.size (fun b e => (HQ2.out.2.lt b e).1)
        have hs3 := hB3.size
        have HW3 : Hid (W3.heap[w.heap.size]? = some (.cells #[.func (.func 95) #[] #[]] 155 (0, 0))) := hw3
        obtain ⟨d0, d1, d2, d3, d4, d5, d6, d7, d8⟩ := CB_of hb3
        obtain ⟨Fk, hFk⟩ : ∃ F, Tk.filter (fun y => !wiB y x) = F := ⟨_, rfl⟩
        rw [hFk] at o3 hfl
        have HFE : Hid (topL (L.take (k + 1)) = Fk ++ [x]) := by
          unfold Hid
          rw [HF.out, hFk]
        clear hw3 hb3 HD HF hFk
        go_wp2_with (at_builtin; refine wpList_append_own _ rfl _ _ 30 rfl w.heap.size 50 i0 _ 9 72 Tryz.underlying30 hi hz0 hz1 hz2 rfl (by decide) _ _ _ rfl (o3.alloc _) ⟨_, 0, none⟩ 1 1 (ce9 x) rfl rfl (World.news_of_block (cs := #[.int .i64 (x.length : Int), .int .u64 (FW x 0 : Int), .int .u64 (FW x 1 : Int), .int .u64 (FW x 2 : Int), .int .u64 (FW x 3 : Int), .int .u64 (OW x 0 : Int), .int .u64 (OW x 1 : Int), .int .u64 (OW x 2 : Int), .int .u64 (OW x 3 : Int)]) (t := 50) (fr := (0, 0)) (alloc_get _ _)) (by simp [ce9, Value.oneCell']) (by unfold maxLen; omega) (by omega) (by simp; omega) ?_; intro v4 w4 o4 g4 _)
        have hB4 : Below w.heap.size w w4 := (belA hB3 _).grown g4 (by simp; omega) (fun b e => (o3.lt b e).1)
        have hw4 : w4.heap[w.heap.size]? = some (.cells #[.func (.func 95) #[] #[]] 155 (0, 0)) := by
          refine (g4.block _ (by simp; have := lt_of_get3 HW3.out; omega) (fun e => ?_)).trans (allocblk3 HW3.out _)
          rcases own_shapeQ o3 with ⟨h, -⟩ | ⟨g9, c9, h, -, -, cur, hg9⟩
          · rw [h] at e
            cases e
          · rw [h] at e
            have e2 : w.heap.size = g9 := by injection e
            rw [← e2, HW3.out] at hg9
            injection hg9 with hg9
            injection hg9 with _ hg9 _
            revert hg9
            decide
        have HO4 : Hid (w4.ownsRow w.heap.size 50 9 v4 (topL (L.take (k + 1))).length (ces (topL (L.take (k + 1)))) ∧ w4.heap[w.heap.size]? = some (.cells #[.func (.func 95) #[] #[]] 155 (0, 0))) := by
          refine ⟨?_, hw4⟩
          rw [HFE.out, List.length_append, ces_snoc]
          exact o4
        clear o3 o4 g4 hw4
        go_wp2_with fail
        go_roundw
        case rel => exact ⟨k + 1, by go_num, by omega, HO4.out.1, hB4, HO4.out.2⟩
        case measure => simp [intOf]; omega
    · have j1 : ¬ (k : Int) < (n : Int) := by omega
      obtain rfl : k = n := by omega
      have HE : Hid (wr.ownsRow w.heap.size 50 9 u5 (topL L).length (ces (topL L))) := by
        rw [List.take_of_length_le (by rw [HN.out]; exact Nat.le_refl _)] at oT
        exact oT
      clear oT hw
      go_wp2_with fail
      go_ret
      exact ⟨_, rfl, HE.out, hB⟩
end Go.Proofs.YtccbfaembcefjaaGreatDoor

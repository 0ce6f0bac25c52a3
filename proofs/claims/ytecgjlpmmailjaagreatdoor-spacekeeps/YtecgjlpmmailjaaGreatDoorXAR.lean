import Derived.Test.YtecgjlpmmailjaaGreatDoorXAO
import Derived.Test.YtecgjlpmmailjaaGreatDoorXAQ
import Derived.Shelf.Strings.Builder1
import Derived.Ground.NamesProg
import Derived.Test.YtecgjlpmmailjaaGreatDoorProg
import Derived.Test.YtecgjlpmmailjaaGreatDoorXAN
namespace Go.Proofs.YtecgjlpmmailjaaGreatDoor
open Go.RowKit Go.Shelf
set_option maxRecDepth 100000 in
set_option maxHeartbeats 2000000 in
theorem inOrder_nil (b : Int) (w : World) : Calls Tryz.prog 31 #[.int .i64 b, .slice none 0 0] w fun e w' => e = .returned (.agg #[.int .i64 b, .slice none 0 0, .bool false]) ∧ Below w.heap.size w w' := by
  obtain ⟨w2, hw2⟩ : ∃ w2, w.alloc (.cells #[.int .i64 0, .slice none 0 0, .bool false] 28 (0, 0)) = w2 := ⟨_, rfl⟩
  have hA : w2.heap[w.heap.size]? = some (.cells #[.int .i64 0, .slice none 0 0, .bool false] 28 (0, 0)) := by rw [← hw2]; exact alloc_get _ _
  have hB2 : Below w.heap.size w w2 := by rw [← hw2]; exact belA (Below.refl _ _) _
  have HA : Hid (w2.heap[w.heap.size]? = some (.cells #[.int .i64 0, .slice none 0 0, .bool false] 28 (0, 0)) ∧ Below w.heap.size w w2) := ⟨hA, hB2⟩
  clear hA hB2
  go_enter Tryz.func31, Tryz.ntmps31
  go_wp2_with fail
  clear hw2
  go_loopw [5, 16] (fun v5 v16 wr => v5 = .slice none 0 0 ∧ v16 = .int .i64 0 ∧ Below w2.heap.size w2 wr) (fun _ _ _ => 0)
  case atStart => exact ⟨rfl, rfl, Below.refl _ _⟩
  case round =>
    obtain ⟨rfl, rfl, hB⟩ := hrel
    go_wp2_with fail
    refine (sort_le1 0 (by omega) none 0 wr).mono ?_
    rintro e W3 ⟨rfl, hb3⟩
    have hB3 := bel0 hB hb3
    clear hB hb3
    go_wp2_with fail
    go_loopw [8, 30] (fun v8 v30 wr => v8 = .slice none 0 0 ∧ v30 = .int .i64 0 ∧ Below w2.heap.size w2 wr) (fun _ _ _ => 0)
    case atStart => exact ⟨rfl, rfl, hB3⟩
    case round =>
      clear hB3
      obtain ⟨rfl, rfl, hB⟩ := hrel
      have hgr := keepblk3 hB HA.out.1
      obtain ⟨hcR, hfR⟩ := cells_block hgr
      have HP : Hid (Below w.heap.size w (((wr.setCell ⟨w.heap.size, 0, none⟩ (.int .i64 b)).setCell ⟨w.heap.size, 1, none⟩ (.slice none 0 0)).setCell ⟨w.heap.size, 2, none⟩ (.bool false)) ∧ (((wr.setCell ⟨w.heap.size, 0, none⟩ (.int .i64 b)).setCell ⟨w.heap.size, 1, none⟩ (.slice none 0 0)).setCell ⟨w.heap.size, 2, none⟩ (.bool false)).heap[w.heap.size]? = some (.cells #[.int .i64 b, .slice none 0 0, .bool false] 28 (0, 0))) := by
        have h0 := set_get (j := 0) (.int .i64 b) hgr
        have h1 := set_get (j := 1) (.slice none 0 0) h0
        have h2 := set_get (j := 2) (.bool false) h1
        exact ⟨(((bel0 HA.out.2 hB).setCell (Nat.le_refl _) _).setCell (Nat.le_refl _) _).setCell (Nat.le_refl _) _, by rw [h2]; simp⟩
      clear hgr
      go_wp2_with fail
      refine bodyPost_ret (v := .agg #[.int .i64 b, .slice none 0 0, .bool false]) (res_space _ _ w.heap.size _ _ _ Tryz.results31 rfl HP.out.2) rfl ?_
      exact ⟨rfl, HP.out.1⟩
/-- what formed answers of one term -/
def FR (srt : List (List UInt8) → List (List UInt8)) (w w' : World) (b : Int) (c : List UInt8) (M : List (List UInt8)) (e : Ending) : Prop :=
  Below w.heap.size w w' ∧ ((setO c M = none ∧ e = .returned (.agg #[.int .i64 b, .slice none 0 0, .bool false])) ∨ (∃ R, setO c M = some R ∧ 1 + R.length ≤ 128 ∧ ∃ V v, e = .returned (.agg #[.int .i64 b, V, .bool false]) ∧ w'.ownsRow w.heap.size 67 10 V 1 ([.int .i64 (c.length : Int), .int .u64 (FW c 0 : Int), .int .u64 (FW c 1 : Int), .int .u64 (FW c 2 : Int), .int .u64 (FW c 3 : Int), .int .u64 (OW c 0 : Int), .int .u64 (OW c 1 : Int), .int .u64 (OW c 2 : Int), .int .u64 (OW c 3 : Int), v]) ∧ w'.ownsRow w.heap.size 58 9 v R.length (ces (srt R))) ∨ ∃ R, setO c M = some R ∧ 128 < 1 + R.length ∧ e = .panicked [{ v := .iface 81 (.agg #[]), recovered := false }])
theorem setO_len {c : List UInt8} {M R : List (List UInt8)} (h : setO c M = some R) : R.length ≤ M.length := by
  unfold setO at h
  split at h
  · cases h
  · obtain rfl := Option.some.inj h
    exact Nat.le_trans (topL_len _) (lesL_len _ _)
theorem setO_good {c : List UInt8} {M R : List (List UInt8)} (h : setO c M = some R) (gc : good c = true) (gM : ∀ m ∈ M, good m = true) : ∀ x ∈ R, good x = true := by
  unfold setO at h
  split at h
  · cases h
  · obtain rfl := Option.some.inj h
    exact fun x hx => lesL_good gc gM x (topL_mem hx)
set_option maxRecDepth 100000 in
set_option maxHeartbeats 8000000 in
theorem formed_one (srt : List (List UInt8) → List (List UInt8)) (hso : SortOK srt) (hsl : ∀ L, (srt L).length = L.length) (b : Int) (t : TRM) (L : List (List UInt8)) (p : Option Addr) (cp : Nat) (w : World) (hm : L.length = t.m) (hm2 : t.m ≤ 1000000) (gc : good t.c = true) (gL : ∀ x ∈ L, good x = true) (hr : IRT w p [t]) (hq : IRC w t.q L) :
    Calls Tryz.prog 18 #[.int .i64 b, .slice p 1 cp] w fun e w' => FR srt w w' b t.c L e := by
  obtain ⟨i1, hi1, hy0, hy1, hy2⟩ := info_parts info_term
  obtain ⟨w2, hw2⟩ : ∃ w2, w.alloc (.cells #[.int .i64 0, .slice none 0 0, .bool false] 28 (0, 0)) = w2 := ⟨_, rfl⟩
  have hA : w2.heap[w.heap.size]? = some (.cells #[.int .i64 0, .slice none 0 0, .bool false] 28 (0, 0)) := by rw [← hw2]; exact alloc_get _ _
  have hB2 : Below w.heap.size w w2 := by rw [← hw2]; exact belA (Below.refl _ _) _
  obtain ⟨tc, tq, m, tk⟩ := t
  simp only at hm hm2 gc hq ⊢
  have HA : Hid (w2.heap[w.heap.size]? = some (.cells #[.int .i64 0, .slice none 0 0, .bool false] 28 (0, 0)) ∧ Below w.heap.size w w2) := ⟨hA, hB2⟩
  have HR : Hid (IRT w2 p [⟨tc, tq, m, tk⟩]) := hr.later hB2
  have HQ : Hid (IRC w2 tq L ∧ L.length = m ∧ (∀ x ∈ L, good x = true) ∧ good tc = true) := ⟨hq.later hB2, hm, gL, gc⟩
  have HSO : Hid (SortOK srt ∧ ∀ L, (srt L).length = L.length) := ⟨hso, hsl⟩
  clear hA hB2 hr hq hm gc gL hso hsl
  go_enter Tryz.func18, Tryz.ntmps18
  go_wp2_with fail
  clear hw2
  go_loopw [5, 12] (fun v5 v12 wr => Below w2.heap.size w2 wr ∧ ((v5 = .slice none 0 0 ∧ v12 = .int .i64 0) ∨ (v12 = .int .i64 1 ∧ ((setO tc L = none ∧ v5 = .slice none 0 0) ∨ ∃ R v, setO tc L = some R ∧ wr.ownsRow w2.heap.size 67 10 v5 1 ([.int .i64 (tc.length : Int), .int .u64 (FW tc 0 : Int), .int .u64 (FW tc 1 : Int), .int .u64 (FW tc 2 : Int), .int .u64 (FW tc 3 : Int), .int .u64 (OW tc 0 : Int), .int .u64 (OW tc 1 : Int), .int .u64 (OW tc 2 : Int), .int .u64 (OW tc 3 : Int), v]) ∧ wr.ownsRow w2.heap.size 58 9 v R.length (ces R))))) (fun _ v12 _ => 1 - (intOf v12).toNat)
  case atStart => exact ⟨Below.refl _ _, .inl ⟨rfl, rfl⟩⟩
  case round =>
    obtain ⟨hB, ⟨rfl, rfl⟩ | ⟨rfl, hL⟩⟩ := hrel
    · obtain ⟨g, o0, rfl, ⟨p0, p1, p2, p3, p4, p5, p6, p7, p8⟩, p9⟩ := HR.out wr hB 0 _ rfl
      simp only at p0 p1 p2 p3 p4 p5 p6 p7 p8 p9
      rw [Nat.zero_mul, Nat.add_zero] at p0 p1 p2 p3 p4 p5 p6 p7 p8 p9
      obtain ⟨wa, hwa⟩ : ∃ wa, wr.alloc (.cells #[.int .i64 (tc.length : Int), .int .u64 (FW tc 0 : Int), .int .u64 (FW tc 1 : Int), .int .u64 (FW tc 2 : Int), .int .u64 (FW tc 3 : Int), .int .u64 (OW tc 0 : Int), .int .u64 (OW tc 1 : Int), .int .u64 (OW tc 2 : Int), .int .u64 (OW tc 3 : Int), .slice tq m tk] 67 (0, 0)) = wa := ⟨_, rfl⟩
      have hal : Below wr.heap.size wr wa := by rw [← hwa]; exact belA (Below.refl _ _) _
      have hgt : wa.heap[wr.heap.size]? = some (.cells #[.int .i64 (tc.length : Int), .int .u64 (FW tc 0 : Int), .int .u64 (FW tc 1 : Int), .int .u64 (FW tc 2 : Int), .int .u64 (FW tc 3 : Int), .int .u64 (OW tc 0 : Int), .int .u64 (OW tc 1 : Int), .int .u64 (OW tc 2 : Int), .int .u64 (OW tc 3 : Int), .slice tq m tk] 67 (0, 0)) := by rw [← hwa]; exact alloc_get _ _
      obtain ⟨hcT, -⟩ := cells_block hgt
      have hBa := bel0 hB hal
      obtain ⟨wb, hwb⟩ : ∃ wb, wa.alloc (.cells #[.slice tq m tk] 32 (0, 0)) = wb := ⟨_, rfl⟩
      have hbl : Below wa.heap.size wa wb := by rw [← hwb]; exact belA (Below.refl _ _) _
      have hgb : wb.heap[wa.heap.size]? = some (.cells #[.slice tq m tk] 32 (0, 0)) := by rw [← hwb]; exact alloc_get _ _
      have hBb := bel0 hBa hbl
      have hIRL : IRL wb (some ⟨wa.heap.size, 0, none⟩) [L] := fun W hW k K hK => by
        cases k with
        | succ k => simp at hK
        | zero =>
          obtain rfl : L = K := by simpa using hK
          exact ⟨wa.heap.size, 0, tq, tk, rfl, by rw [HQ.out.2.1]; exact (cells_block (keepblk3 hW hgb)).1 0, HQ.out.1.later (bel0 hBb hW)⟩
      have H1 := settled_any tc [L] 1 (some ⟨wa.heap.size, 0, none⟩) 1 wb rfl (by simp [HQ.out.2.1]; omega) (by omega) HQ.out.2.2.2 hIRL (by simpa using HQ.out.2.2.1)
      rw [show [L].flatten = L by simp] at H1
      have HST : Hid (Calls Tryz.prog 30 #[.agg #[.int .i64 (tc.length : Int), .int .u64 (FW tc 0 : Int), .int .u64 (FW tc 1 : Int), .int .u64 (FW tc 2 : Int), .int .u64 (FW tc 3 : Int), .int .u64 (OW tc 0 : Int), .int .u64 (OW tc 1 : Int), .int .u64 (OW tc 2 : Int), .int .u64 (OW tc 3 : Int)], .slice (some ⟨wa.heap.size, 0, none⟩) 1 1] wb fun e w' => Below wb.heap.size wb w' ∧ ((setO tc L = none ∧ e = .returned (.tuple #[.agg #[.int .i64 0, .int .u64 0, .int .u64 0, .int .u64 0, .int .u64 0, .int .u64 0, .int .u64 0, .int .u64 0, .int .u64 0, .slice none 0 0], .bool false])) ∨ ∃ R v, setO tc L = some R ∧ e = .returned (.tuple #[.agg #[.int .i64 (tc.length : Int), .int .u64 (FW tc 0 : Int), .int .u64 (FW tc 1 : Int), .int .u64 (FW tc 2 : Int), .int .u64 (FW tc 3 : Int), .int .u64 (OW tc 0 : Int), .int .u64 (OW tc 1 : Int), .int .u64 (OW tc 2 : Int), .int .u64 (OW tc 3 : Int), v], .bool true]) ∧ w'.ownsRow wb.heap.size 58 9 v R.length (ces R))) := H1
      clear hgt hgb hIRL H1
      go_wp2_with fail
      refine HST.out.mono ?_
      rintro e W1 ⟨hb1, ⟨hN, rfl⟩ | ⟨R, v, hN, rfl, oR⟩⟩
      · have HN : Hid (setO tc L = none) := hN
        have hB1 := bel0 hBb hb1
        clear hN HST hwa hwb hcT
        go_wp2_with fail
        go_roundw
        case rel => exact ⟨belA hB1 _, .inr ⟨by go_num, .inl ⟨HN.out, rfl⟩⟩⟩
        case measure => simp [intOf]
      · have HN : Hid (setO tc L = some R) := hN
        have hB1 := bel0 hBb hb1
        have hs1 := hB1.size
        obtain ⟨pv, cv1, rfl⟩ := shapeQ1 oR
        have HOR : Hid (W1.ownsRow w2.heap.size 58 9 (.slice pv R.length cv1) R.length (ces R)) := own_base oR hBb.size
        clear hN HST hwa hwb hcT oR
        go_wp2_with (at_builtin; refine wpList_append_own _ rfl _ _ 26 rfl w2.heap.size 67 i1 _ 10 96 Tryz.underlying26 hi1 hy0 hy1 hy2 rfl (by decide) _ _ _ rfl (World.ownsRow_nil _ _ _ _) ⟨_, 0, none⟩ 1 1 ([.int .i64 (tc.length : Int), .int .u64 (FW tc 0 : Int), .int .u64 (FW tc 1 : Int), .int .u64 (FW tc 2 : Int), .int .u64 (FW tc 3 : Int), .int .u64 (OW tc 0 : Int), .int .u64 (OW tc 1 : Int), .int .u64 (OW tc 2 : Int), .int .u64 (OW tc 3 : Int), .slice pv R.length cv1]) rfl rfl (World.news_of_block (cs := #[.int .i64 (tc.length : Int), .int .u64 (FW tc 0 : Int), .int .u64 (FW tc 1 : Int), .int .u64 (FW tc 2 : Int), .int .u64 (FW tc 3 : Int), .int .u64 (OW tc 0 : Int), .int .u64 (OW tc 1 : Int), .int .u64 (OW tc 2 : Int), .int .u64 (OW tc 3 : Int), .slice pv R.length cv1]) (t := 67) (fr := (0, 0)) (by first | exact alw_1 _ _ _ | exact alloc_get _ _)) (by simp [Value.oneCell']) (by unfold maxLen; omega) (by omega) (by simp; omega) ?_; intro v4 w4 o4 g4 _)
        have HE : Hid (Below w2.heap.size w2 w4 ∧ ∃ v, w4.ownsRow w2.heap.size 67 10 v4 1 ([.int .i64 (tc.length : Int), .int .u64 (FW tc 0 : Int), .int .u64 (FW tc 1 : Int), .int .u64 (FW tc 2 : Int), .int .u64 (FW tc 3 : Int), .int .u64 (OW tc 0 : Int), .int .u64 (OW tc 1 : Int), .int .u64 (OW tc 2 : Int), .int .u64 (OW tc 3 : Int), v]) ∧ w4.ownsRow w2.heap.size 58 9 v R.length (ces R)) := by
          have hb4 : Below W1.heap.size W1 w4 := (belA (belA (Below.refl _ _) _) _).grown g4 (by simp; omega) (fun b e => by cases e)
          exact ⟨bel0 hB1 hb4, _, by simpa using o4, own_belQ HOR.out hb4⟩
        clear o4 g4
        go_wp2_with fail
        go_roundw
        case rel => exact ⟨HE.out.1, .inr ⟨by go_num, .inr (by obtain ⟨v, a, b⟩ := HE.out.2; exact ⟨R, v, HN.out, a, b⟩)⟩⟩
        case measure => simp [intOf]
    · have fin : ∀ (W : World) (v1 : Value), Below w2.heap.size w2 W → W.heap[w.heap.size]? = some (.cells #[.int .i64 0, .slice none 0 0, .bool false] 28 (0, 0)) := fun W _ hW => keepblk3 hW HA.out.1
      obtain ⟨wl, rfl⟩ : ∃ wl, wl = wr := ⟨wr, rfl⟩
      rcases hL with ⟨hN, rfl⟩ | ⟨R, v, hN, oV, oR⟩
      · have HN : Hid (setO tc L = none) := hN
        clear hN fin
        go_wp2_with fail
        refine (topmost_nil wl).mono ?_
        rintro e W1 ⟨rfl, hb1⟩
        go_wp2_with fail
        refine (inOrder_nil b W1).mono ?_
        rintro e W2 ⟨rfl, hb2⟩
        have hBt := bel0 hB (bel0 hb1 hb2)
        have hgr := keepblk3 hBt HA.out.1
        obtain ⟨hcR, hfR⟩ := cells_block hgr
        have HP : Hid (Below w.heap.size w (((W2.setCell ⟨w.heap.size, 0, none⟩ (.int .i64 b)).setCell ⟨w.heap.size, 1, none⟩ (.slice none 0 0)).setCell ⟨w.heap.size, 2, none⟩ (.bool false)) ∧ (((W2.setCell ⟨w.heap.size, 0, none⟩ (.int .i64 b)).setCell ⟨w.heap.size, 1, none⟩ (.slice none 0 0)).setCell ⟨w.heap.size, 2, none⟩ (.bool false)).heap[w.heap.size]? = some (.cells #[.int .i64 b, .slice none 0 0, .bool false] 28 (0, 0))) := by
          have h0 := set_get (j := 0) (.int .i64 b) hgr
          have h1 := set_get (j := 1) (.slice none 0 0) h0
          have h2 := set_get (j := 2) (.bool false) h1
          exact ⟨(((bel0 HA.out.2 hBt).setCell (Nat.le_refl _) _).setCell (Nat.le_refl _) _).setCell (Nat.le_refl _) _, by rw [h2]; simp⟩
        clear hgr
        go_wp2_with fail
        refine bodyPost_ret (v := .agg #[.int .i64 b, .slice none 0 0, .bool false]) (res_space _ _ w.heap.size _ _ _ Tryz.results18 rfl HP.out.2) rfl ?_
        exact ⟨HP.out.1, .inl ⟨HN.out, rfl⟩⟩
      · obtain ⟨p5, c5, rfl⟩ := shapeQ1 oV
        obtain ⟨q6, c6, rfl⟩ := shapeQ1 oR
        have hRl : R.length ≤ 1000000 := by have := setO_len hN; have := HQ.out.2.1; omega
        have hIRT : IRT wl p5 [⟨tc, q6, R.length, c6⟩] := IRT_one (t := ⟨tc, q6, R.length, c6⟩) oV
        have hIRC : IRC wl q6 R := IRC_own oR rfl
        have H1 := topmost_one ⟨tc, q6, R.length, c6⟩ p5 c5 wl hIRT hRl
        simp only at H1
        have HN : Hid (setO tc L = some R) := hN
        have HI : Hid (IRC wl q6 R ∧ ∀ x ∈ R, good x = true) := ⟨hIRC, setO_good hN HQ.out.2.2.2 HQ.out.2.2.1⟩
        clear hN oV oR hIRT hIRC fin
        go_wp2_with fail
        refine H1.mono ?_
        rintro e W1 ⟨hb1, ⟨hle, v1, rfl, o1⟩ | ⟨hgt, rfl⟩⟩
        · obtain ⟨p7, c7, rfl⟩ := shapeQ1 o1
          have H2 := inOrder_one srt HSO.out.1 HSO.out.2 b ⟨tc, q6, R.length, c6⟩ R p7 c7 W1 rfl hRl HQ.out.2.2.2 HI.out.2 (IRT_one (t := ⟨tc, q6, R.length, c6⟩) o1) (HI.out.1.later hb1)
          simp only at H2
          clear H1 o1
          go_wp2_with fail
          refine H2.mono ?_
          rintro e W2 ⟨V, v, rfl, o8, oc, hb2⟩
          obtain ⟨p8, c8, rfl⟩ := shapeQ1 o8
          have hB1 := bel0 hB hb1
          have hBt := bel0 hB1 hb2
          have hgr := keepblk3 hBt HA.out.1
          obtain ⟨hcR, hfR⟩ := cells_block hgr
          have HP : Hid (Below w.heap.size w (((W2.setCell ⟨w.heap.size, 0, none⟩ (.int .i64 b)).setCell ⟨w.heap.size, 1, none⟩ (.slice p8 1 c8)).setCell ⟨w.heap.size, 2, none⟩ (.bool false)) ∧ (((W2.setCell ⟨w.heap.size, 0, none⟩ (.int .i64 b)).setCell ⟨w.heap.size, 1, none⟩ (.slice p8 1 c8)).setCell ⟨w.heap.size, 2, none⟩ (.bool false)).heap[w.heap.size]? = some (.cells #[.int .i64 b, .slice p8 1 c8, .bool false] 28 (0, 0)) ∧ (((W2.setCell ⟨w.heap.size, 0, none⟩ (.int .i64 b)).setCell ⟨w.heap.size, 1, none⟩ (.slice p8 1 c8)).setCell ⟨w.heap.size, 2, none⟩ (.bool false)).ownsRow w.heap.size 67 10 (.slice p8 1 c8) 1 ([.int .i64 (tc.length : Int), .int .u64 (FW tc 0 : Int), .int .u64 (FW tc 1 : Int), .int .u64 (FW tc 2 : Int), .int .u64 (FW tc 3 : Int), .int .u64 (OW tc 0 : Int), .int .u64 (OW tc 1 : Int), .int .u64 (OW tc 2 : Int), .int .u64 (OW tc 3 : Int), v]) ∧ (((W2.setCell ⟨w.heap.size, 0, none⟩ (.int .i64 b)).setCell ⟨w.heap.size, 1, none⟩ (.slice p8 1 c8)).setCell ⟨w.heap.size, 2, none⟩ (.bool false)).ownsRow w.heap.size 58 9 v R.length (ces (srt R))) := by
            have one : ∀ (X : World) (k : Nat) (u : Value), X.grownBy (X.setCell ⟨w.heap.size, k, none⟩ u) (some w.heap.size) := fun X k u => ⟨rfl, rfl, rfl, by simp, fun j _ hj => heap_setCell_other X ⟨w.heap.size, k, none⟩ j u (fun e => hj (by simp [e]))⟩
            have hg3 := grown_trans (one W2 0 (.int .i64 b)) (grown_trans (one _ 1 (.slice p8 1 c8)) (one _ 2 (.bool false)))
            have hlt := lt_of_get3 HA.out.1
            have hs1 := hB1.size
            have hs2 := HA.out.2.size
            have h0 := set_get (j := 0) (.int .i64 b) hgr
            have h1 := set_get (j := 1) (.slice p8 1 c8) h0
            have h2 := set_get (j := 2) (.bool false) h1
            refine ⟨(((bel0 HA.out.2 hBt).setCell (Nat.le_refl _) _).setCell (Nat.le_refl _) _).setCell (Nat.le_refl _) _, by rw [h2]; simp, own_base (o8.kept hg3 (.inr (fun e => ?_))) (by omega), own_base (oc.kept hg3 (.inr (fun e => ?_))) (by omega)⟩
            · have := (o8.lt _ e).1
              omega
            · have := (oc.lt _ e).1
              omega
          clear o8 oc hgr H2
          go_wp2_with fail
          refine bodyPost_ret (v := .agg #[.int .i64 b, .slice p8 1 c8, .bool false]) (res_space _ _ w.heap.size _ _ _ Tryz.results18 rfl HP.out.2.1) rfl ?_
          exact ⟨HP.out.1, .inr (.inl ⟨R, HN.out, hle, _, _, rfl, HP.out.2.2.1, HP.out.2.2.2⟩)⟩
        · have HZ : Hid (Below w.heap.size w W1) := bel0 HA.out.2 (bel0 hB hb1)
          clear H1
          go_wp2_with fail
          exact ⟨rfl, HZ.out, .inr (.inr ⟨R, HN.out, hgt, rfl⟩)⟩
end Go.Proofs.YtecgjlpmmailjaaGreatDoor
namespace Go.Proofs.YtecgjlpmmailjaaGreatDoor
open Go.RowKit Go.Shelf Go.Sort
def cvC (a b : List UInt8 × List (List UInt8)) : Bool := wiB a.1 b.1 && b.2.all (fun n => !(agB n a.1 && !a.2.any (fun y => wiB (mtT n a.1) y)))
def topCS (T : List (List UInt8 × List (List UInt8))) (x : List UInt8 × List (List UInt8)) : List (List UInt8 × List (List UInt8)) := if T.any (fun y => cvC x y) = true then T else T.filter (fun y => !cvC y x) ++ [x]
def topC (L : List (List UInt8 × List (List UInt8))) : List (List UInt8 × List (List UInt8)) := L.foldl topCS []
theorem topCS_map (T : List ZT) (x : ZT) : (topZS T x).map ZT.cont = topCS (T.map ZT.cont) x.cont := by
  have e1 : (T.map ZT.cont).any (fun y => cvC x.cont y) = T.any (fun y => cvB x y) := by rw [List.any_map]; rfl
  unfold topZS topCS
  rw [e1]
  split
  · rfl
  · rw [List.map_append, List.filter_map]
    rfl
theorem topCF_map (Z : List ZT) : ∀ T : List ZT, (Z.foldl topZS T).map ZT.cont = (Z.map ZT.cont).foldl topCS (T.map ZT.cont) := by
  induction Z with
  | nil => intro T; rfl
  | cons x Z ih =>
    intro T
    rw [List.foldl_cons, ih, topCS_map, List.map_cons, List.foldl_cons]
theorem topC_map (Z : List ZT) : (topZL Z).map ZT.cont = topC (Z.map ZT.cont) := topCF_map Z []
def szC : List (List UInt8 × List (List UInt8)) → Nat
  | [] => 0
  | t :: r => (1 + t.2.length) + szC r
theorem szC_map : ∀ Z : List ZT, szZ Z = szC (Z.map ZT.cont)
  | [] => rfl
  | z :: Z => by
    show (1 + z.L.length) + szT (Z.map ZT.t) = (1 + z.L.length) + szC (Z.map ZT.cont)
    rw [show szT (Z.map ZT.t) = szZ Z from rfl, szC_map Z]
theorem szZ_le : ∀ Z : List ZT, (∀ z ∈ Z, z.L.length ≤ 1000000) → szZ Z ≤ Z.length * 1000001
  | [], _ => Nat.le_refl _
  | z :: Z, h => by
    have h1 := szZ_le Z (fun y hy => h y (List.mem_cons_of_mem _ hy))
    have h2 := h z List.mem_cons_self
    show (1 + z.L.length) + szZ Z ≤ (Z.length + 1) * 1000001
    omega
/-- what is settled of terms -/
def stl (Ts : List (List UInt8 × List (List UInt8))) : List (List UInt8 × List (List UInt8)) := Ts.filterMap (fun t => (setO t.1 t.2).map (fun R => (t.1, R)))
theorem stl_step {Z : List ZT} {k : Nat} {z : ZT} (h : Z[k]? = some z) : stl ((Z.take (k + 1)).map ZT.cont) = stl ((Z.take k).map ZT.cont) ++ (match setO z.c z.L with | none => [] | some R => [(z.c, R)]) := by
  unfold stl
  rw [List.take_add_one, h, List.map_append, List.filterMap_append]
  congr 1
  cases hS : setO z.c z.L <;> simp [ZT.cont, hS]
theorem KC_own {W X : World} {B n : Nat} {v : Value} {xs : List Value} (h : W.ownsRow B 67 10 v n xs) (hg : W.grownBy X v.ownBlock) : KC W X := by
  rcases own_shapeQ h with ⟨rfl, -⟩ | ⟨g, c, rfl, -, -, cur, hc⟩
  · exact fun k cs fr hk => (hg.block k (lt_of_get3 hk) (fun e => by cases e)).trans hk
  · exact KC_grown hg hc (by decide)
/-- what formed answers -/
def FRL (w w' : World) (b : Int) (Ts : List (List UInt8 × List (List UInt8))) (e : Ending) : Prop := Below w.heap.size w w' ∧ ((szC (topC (stl Ts)) ≤ 128 ∧ ∃ V, e = .returned (.agg #[.int .i64 b, V, .bool false]) ∧ SPL w' w.heap.size V (ordT (topC (stl Ts)))) ∨ (128 < szC (topC (stl Ts)) ∧ e = .panicked [{ v := .iface 81 (.agg #[]), recovered := false }]))
set_option maxRecDepth 100000 in
set_option maxHeartbeats 8000000 in
theorem formed_any (b : Int) (Z : List ZT) (n : Nat) (p : Option Addr) (cp : Nat) (w : World) (hn : Z.length = n) (hN : n ≤ 100000) (hr : IRZ w p Z) (gZ : ∀ z ∈ Z, ZOK w z) :
    Calls Tryz.prog 18 #[.int .i64 b, .slice p n cp] w fun e w' => FRL w w' b (Z.map ZT.cont) e := by
  obtain ⟨i1, hi1, hy0, hy1, hy2⟩ := info_parts info_term
  obtain ⟨w2, hw2⟩ : ∃ w2, w.alloc (.cells #[.int .i64 0, .slice none 0 0, .bool false] 28 (0, 0)) = w2 := ⟨_, rfl⟩
  have hA : w2.heap[w.heap.size]? = some (.cells #[.int .i64 0, .slice none 0 0, .bool false] 28 (0, 0)) := by rw [← hw2]; exact alloc_get _ _
  have hB2 : Below w.heap.size w w2 := by rw [← hw2]; exact belA (Below.refl _ _) _
  have HA : Hid (w2.heap[w.heap.size]? = some (.cells #[.int .i64 0, .slice none 0 0, .bool false] 28 (0, 0)) ∧ Below w.heap.size w w2) := ⟨hA, hB2⟩
  have HR : Hid (IRZ w2 p Z) := hr.later hB2
  have HG : Hid (∀ z ∈ Z, ZOK w2 z) := fun z hz => (gZ z hz).later (KC_below hB2)
  have HN : Hid (Z.length = n) := hn
  clear hA hB2 hr gZ hn
  go_enter Tryz.func18, Tryz.ntmps18
  go_wp2_with fail
  clear hw2
  go_loopw [5, 12] (fun v5 v12 wr => ∃ k : Nat, v12 = .int .i64 (k : Int) ∧ k ≤ n ∧ Below w2.heap.size w2 wr ∧ Hid (∃ Zk : List ZT, Zk.map ZT.cont = stl ((Z.take k).map ZT.cont) ∧ Zk.length ≤ k ∧ wr.ownsRow w2.heap.size 67 10 v5 Zk.length (tes Zk) ∧ ∀ z ∈ Zk, ZOK wr z)) (fun _ v12 _ => n - (intOf v12).toNat)
  case atStart => exact ⟨0, rfl, Nat.zero_le _, Below.refl _ _, [], rfl, Nat.le_refl _, World.ownsRow_nil _ _ _ _, fun z hz => by cases hz⟩
  case round =>
    obtain ⟨k, rfl, hk, hB, hZ⟩ := hrel
    obtain ⟨Zk, hz1, hz2, hz3, hz4⟩ := hZ.out
    by_cases hlt : k < n
    · have j1 : (k : Int) < (n : Int) := by omega
      have j0 : (0 : Int) ≤ (k : Int) := by omega
      obtain ⟨z, hz⟩ : ∃ z, Z[k]? = some z := ⟨_, List.getElem?_eq_getElem (by rw [HN.out]; exact hlt)⟩
      obtain ⟨g, o0, rfl, p0, p1, p2, p3, p4, p5, p6, p7, p8, p9⟩ := HR.out wr hB k z hz
      have hzok := HG.out z (List.mem_of_getElem? hz)
      have hst := stl_step hz
      obtain ⟨wa, hwa⟩ : ∃ wa, wr.alloc (.cells #[.int .i64 (z.c.length : Int), .int .u64 (FW z.c 0 : Int), .int .u64 (FW z.c 1 : Int), .int .u64 (FW z.c 2 : Int), .int .u64 (FW z.c 3 : Int), .int .u64 (OW z.c 0 : Int), .int .u64 (OW z.c 1 : Int), .int .u64 (OW z.c 2 : Int), .int .u64 (OW z.c 3 : Int), .slice z.q z.L.length z.k] 67 (0, 0)) = wa := ⟨_, rfl⟩
      have hal : Below wr.heap.size wr wa := by rw [← hwa]; exact belA (Below.refl _ _) _
      have hgt : wa.heap[wr.heap.size]? = some (.cells #[.int .i64 (z.c.length : Int), .int .u64 (FW z.c 0 : Int), .int .u64 (FW z.c 1 : Int), .int .u64 (FW z.c 2 : Int), .int .u64 (FW z.c 3 : Int), .int .u64 (OW z.c 0 : Int), .int .u64 (OW z.c 1 : Int), .int .u64 (OW z.c 2 : Int), .int .u64 (OW z.c 3 : Int), .slice z.q z.L.length z.k] 67 (0, 0)) := by rw [← hwa]; exact alloc_get _ _
      obtain ⟨hcT, -⟩ := cells_block hgt
      have hBa := bel0 hB hal
      obtain ⟨wb, hwb⟩ : ∃ wb, wa.alloc (.cells #[.slice z.q z.L.length z.k] 32 (0, 0)) = wb := ⟨_, rfl⟩
      have hbl : Below wa.heap.size wa wb := by rw [← hwb]; exact belA (Below.refl _ _) _
      have hgb : wb.heap[wa.heap.size]? = some (.cells #[.slice z.q z.L.length z.k] 32 (0, 0)) := by rw [← hwb]; exact alloc_get _ _
      have hBb := bel0 hBa hbl
      have hIRL : IRL wb (some ⟨wa.heap.size, 0, none⟩) [z.L] := fun W hW k K hK => by
        cases k with
        | succ k => simp at hK
        | zero =>
          obtain rfl : z.L = K := by simpa using hK
          exact ⟨wa.heap.size, 0, z.q, z.k, rfl, (cells_block (keepblk3 hW hgb)).1 0, hzok.1.irc.later (bel0 hBb hW)⟩
      have H1 := settled_any z.c [z.L] 1 (some ⟨wa.heap.size, 0, none⟩) 1 wb rfl (by simp; exact hzok.2.1) (by omega) hzok.2.2.1 hIRL (by simpa using hzok.2.2.2)
      rw [show [z.L].flatten = z.L by simp] at H1
      have HST : Hid (Calls Tryz.prog 30 #[.agg #[.int .i64 (z.c.length : Int), .int .u64 (FW z.c 0 : Int), .int .u64 (FW z.c 1 : Int), .int .u64 (FW z.c 2 : Int), .int .u64 (FW z.c 3 : Int), .int .u64 (OW z.c 0 : Int), .int .u64 (OW z.c 1 : Int), .int .u64 (OW z.c 2 : Int), .int .u64 (OW z.c 3 : Int)], .slice (some ⟨wa.heap.size, 0, none⟩) 1 1] wb fun e w' => Below wb.heap.size wb w' ∧ ((setO z.c z.L = none ∧ e = .returned (.tuple #[.agg #[.int .i64 0, .int .u64 0, .int .u64 0, .int .u64 0, .int .u64 0, .int .u64 0, .int .u64 0, .int .u64 0, .int .u64 0, .slice none 0 0], .bool false])) ∨ ∃ R v, setO z.c z.L = some R ∧ e = .returned (.tuple #[.agg #[.int .i64 (z.c.length : Int), .int .u64 (FW z.c 0 : Int), .int .u64 (FW z.c 1 : Int), .int .u64 (FW z.c 2 : Int), .int .u64 (FW z.c 3 : Int), .int .u64 (OW z.c 0 : Int), .int .u64 (OW z.c 1 : Int), .int .u64 (OW z.c 2 : Int), .int .u64 (OW z.c 3 : Int), v], .bool true]) ∧ w'.ownsRow wb.heap.size 58 9 v R.length (ces R))) := H1
      have HZK : Hid (Zk.map ZT.cont = stl ((Z.take k).map ZT.cont) ∧ Zk.length ≤ k ∧ wr.ownsRow w2.heap.size 67 10 u5 Zk.length (tes Zk) ∧ (∀ z ∈ Zk, ZOK wr z) ∧ stl ((Z.take (k + 1)).map ZT.cont) = stl ((Z.take k).map ZT.cont) ++ (match setO z.c z.L with | none => [] | some R => [(z.c, R)]) ∧ ZOK w2 z) := ⟨hz1, hz2, hz3, hz4, hst, hzok⟩
      have HAL : Hid (Below wr.heap.size wr wb) := bel0 hal hbl
      clear hgt hgb hIRL H1 hz hz1 hz2 hz3 hz4 hst hZ hzok
      go_wp2_with fail
      refine HST.out.mono ?_
      rintro e W1 ⟨hb1, ⟨hN1, rfl⟩ | ⟨R, v, hN1, rfl, oR⟩⟩
      · have hB1 := bel0 hBb hb1
        have hB1r := bel0 HAL.out hb1
        have HE : Hid (∀ o : Obj, ∃ Z' : List ZT, Z'.map ZT.cont = stl ((Z.take (k + 1)).map ZT.cont) ∧ Z'.length ≤ k + 1 ∧ (W1.alloc o).ownsRow w2.heap.size 67 10 u5 Z'.length (tes Z') ∧ ∀ z ∈ Z', ZOK (W1.alloc o) z) := fun o => by
          refine ⟨Zk, ?_, by have := HZK.out.2.1; omega, own_belQ HZK.out.2.2.1 (belA hB1r _), fun z hz => (HZK.out.2.2.2.1 z hz).later (KC_below (belA hB1r _))⟩
          rw [HZK.out.2.2.2.2.1, hN1, HZK.out.1]
          simp
        clear hN1 HST hwa hwb hcT hB1r
        go_wp2_with fail
        go_roundw
        case rel => exact ⟨k + 1, by go_num, by omega, belA hB1 _, HE.out _⟩
        case measure => simp [intOf]; omega
      · have hB1 := bel0 hBb hb1
        have hB1r := bel0 HAL.out hb1
        have hs1 := hB1.size
        obtain ⟨pv, cv1, rfl⟩ := shapeQ1 oR
        have o5 := own_belQ HZK.out.2.2.1 hB1r
        obtain ⟨p5', c5', rfl⟩ := shapeQ1 o5
        have hzl := HZK.out.2.1
        have HOR : Hid (W1.ownsRow wb.heap.size 58 9 (.slice pv R.length cv1) R.length (ces R) ∧ setO z.c z.L = some R) := ⟨oR, hN1⟩
        clear hN1 HST hwa hwb hcT oR
        go_wp2_with (at_builtin; refine wpList_append_own _ rfl _ _ 26 rfl w2.heap.size 67 i1 _ 10 96 Tryz.underlying26 hi1 hy0 hy1 hy2 rfl (by decide) _ _ _ rfl ((o5.alloc _).alloc _) ⟨_, 0, none⟩ 1 1 ([.int .i64 (z.c.length : Int), .int .u64 (FW z.c 0 : Int), .int .u64 (FW z.c 1 : Int), .int .u64 (FW z.c 2 : Int), .int .u64 (FW z.c 3 : Int), .int .u64 (OW z.c 0 : Int), .int .u64 (OW z.c 1 : Int), .int .u64 (OW z.c 2 : Int), .int .u64 (OW z.c 3 : Int), .slice pv R.length cv1]) rfl rfl (World.news_of_block (cs := #[.int .i64 (z.c.length : Int), .int .u64 (FW z.c 0 : Int), .int .u64 (FW z.c 1 : Int), .int .u64 (FW z.c 2 : Int), .int .u64 (FW z.c 3 : Int), .int .u64 (OW z.c 0 : Int), .int .u64 (OW z.c 1 : Int), .int .u64 (OW z.c 2 : Int), .int .u64 (OW z.c 3 : Int), .slice pv R.length cv1]) (t := 67) (fr := (0, 0)) (by first | exact alw_1 _ _ _ | exact alloc_get _ _)) (by simp [Value.oneCell']) (by unfold maxLen; omega) (by omega) (by simp; omega) ?_; intro v4 w4 o4 g4 _)
        have HE : Hid (Below w2.heap.size w2 w4 ∧ ∃ Z' : List ZT, Z'.map ZT.cont = stl ((Z.take (k + 1)).map ZT.cont) ∧ Z'.length ≤ k + 1 ∧ w4.ownsRow w2.heap.size 67 10 v4 Z'.length (tes Z') ∧ ∀ z ∈ Z', ZOK w4 z) := by
          have oX := (o5.alloc (.cells #[.int .i64 (z.c.length : Int), .int .u64 (FW z.c 0 : Int), .int .u64 (FW z.c 1 : Int), .int .u64 (FW z.c 2 : Int), .int .u64 (FW z.c 3 : Int), .int .u64 (OW z.c 0 : Int), .int .u64 (OW z.c 1 : Int), .int .u64 (OW z.c 2 : Int), .int .u64 (OW z.c 3 : Int), .slice pv R.length cv1] 67 (0, 0))).alloc (.cells #[.int .i64 (z.c.length : Int), .int .u64 (FW z.c 0 : Int), .int .u64 (FW z.c 1 : Int), .int .u64 (FW z.c 2 : Int), .int .u64 (FW z.c 3 : Int), .int .u64 (OW z.c 0 : Int), .int .u64 (OW z.c 1 : Int), .int .u64 (OW z.c 2 : Int), .int .u64 (OW z.c 3 : Int), .slice pv R.length cv1] 67 (0, 0))
          have hk4 : KC W1 w4 := (KC_below (belA (belA (Below.refl _ _) _) _)).trans (KC_own oX g4)
          refine ⟨(belA (belA hB1 _) _).grown g4 (by simp; omega) (fun b e => (o5.lt b e).1), Zk ++ [⟨z.c, pv, cv1, R⟩], ?_, by rw [List.length_append]; have := HZK.out.2.1; simp; omega, ?_, ?_⟩
          · rw [HZK.out.2.2.2.2.1, HOR.out.2, List.map_append, HZK.out.1]
            rfl
          · rw [tes_snoc, List.length_append]
            exact o4
          · intro y hy
            rcases List.mem_append.1 hy with hy | hy
            · exact (HZK.out.2.2.2.1 y hy).later ((KC_below hB1r).trans hk4)
            · obtain rfl := List.mem_singleton.1 hy
              have hzo := HZK.out.2.2.2.2.2
              exact ⟨(IRK_own HOR.out.1 rfl).later hk4, by have := setO_len HOR.out.2; have := hzo.2.1; show R.length ≤ 1000000; omega, hzo.2.2.1, setO_good HOR.out.2 hzo.2.2.1 hzo.2.2.2⟩
        clear o4 g4 o5
        go_wp2_with fail
        go_roundw
        case rel => exact ⟨k + 1, by go_num, by omega, HE.out.1, HE.out.2⟩
        case measure => simp [intOf]; omega
    · have j1 : ¬ (k : Int) < (n : Int) := by omega
      have hkn : n = k := by omega
      subst hkn
      rw [List.take_of_length_le (by rw [HN.out]; exact Nat.le_refl _)] at hz1
      obtain ⟨wl, rfl⟩ : ∃ wl, wl = wr := ⟨wr, rfl⟩
      obtain ⟨p5, c5, rfl⟩ := shapeQ1 hz3
      have hT1 := topC_map Zk
      rw [hz1] at hT1
      have hT2 := szC_map (topZL Zk)
      rw [hT1] at hT2
      have hTm : ∀ z ∈ topZL Zk, ZOK wl z := fun z hz => hz4 z (topZL_mem hz)
      have hTl := topZL_len Zk
      have hTs := szZ_le (topZL Zk) (fun z hz => (hTm z hz).2.1)
      have H1 := topmost_any Zk Zk.length p5 c5 wl rfl (by omega) (IRZ_own hz3 rfl) hz4 (by
        have : (topZL Zk).length * 1000001 ≤ 100000 * 1000001 := Nat.mul_le_mul_right _ (by omega)
        omega)
      rw [hT2] at H1
      have HT : Hid ((topZL Zk).map ZT.cont = topC (stl (Z.map ZT.cont)) ∧ (∀ z ∈ topZL Zk, ZOK wl z) ∧ (topZL Zk).length ≤ 100000) := ⟨hT1, hTm, by omega⟩
      obtain ⟨TZ, hTZ⟩ : ∃ T, topZL Zk = T := ⟨_, rfl⟩
      rw [hTZ] at H1 HT
      clear hT1 hT2 hTm hTl hTs hTZ hz1 hz3 hz4 hZ
      go_wp2_with fail
      refine H1.mono ?_
      rintro e W1 ⟨hb1, ⟨hle, v1, rfl, o1⟩ | ⟨hgt, rfl⟩⟩
      · obtain ⟨p7, c7, rfl⟩ := shapeQ1 o1
        have H2 := inOrder_any b TZ TZ.length p7 c7 W1 rfl (by have := HT.out.2.2; omega) (IRZ_own o1 rfl) (fun z hz => (HT.out.2.1 z hz).later (KC_below hb1))
        rw [HT.out.1] at H2
        clear H1 o1
        go_wp2_with fail
        refine H2.mono ?_
        rintro e W2 ⟨V, rfl, ⟨Zf, hf1, hf2, hf3⟩, hb2⟩
        obtain ⟨p8, c8, rfl⟩ := shapeQ1 hf2
        have hB1 := bel0 hB hb1
        have hBt := bel0 hB1 hb2
        have hgr := keepblk3 hBt HA.out.1
        obtain ⟨hcR, hfR⟩ := cells_block hgr
        have HP : Hid (Below w.heap.size w (((W2.setCell ⟨w.heap.size, 0, none⟩ (.int .i64 b)).setCell ⟨w.heap.size, 1, none⟩ (.slice p8 Zf.length c8)).setCell ⟨w.heap.size, 2, none⟩ (.bool false)) ∧ (((W2.setCell ⟨w.heap.size, 0, none⟩ (.int .i64 b)).setCell ⟨w.heap.size, 1, none⟩ (.slice p8 Zf.length c8)).setCell ⟨w.heap.size, 2, none⟩ (.bool false)).heap[w.heap.size]? = some (.cells #[.int .i64 b, .slice p8 Zf.length c8, .bool false] 28 (0, 0)) ∧ SPL (((W2.setCell ⟨w.heap.size, 0, none⟩ (.int .i64 b)).setCell ⟨w.heap.size, 1, none⟩ (.slice p8 Zf.length c8)).setCell ⟨w.heap.size, 2, none⟩ (.bool false)) w.heap.size (.slice p8 Zf.length c8) (ordT (topC (stl (Z.map ZT.cont))))) := by
          have one : ∀ (X : World) (k : Nat) (u : Value), X.grownBy (X.setCell ⟨w.heap.size, k, none⟩ u) (some w.heap.size) := fun X k u => ⟨rfl, rfl, rfl, by simp, fun j _ hj => heap_setCell_other X ⟨w.heap.size, k, none⟩ j u (fun e => hj (by simp [e]))⟩
          have hg3 := grown_trans (one W2 0 (.int .i64 b)) (grown_trans (one _ 1 (.slice p8 Zf.length c8)) (one _ 2 (.bool false)))
          have hlt := lt_of_get3 HA.out.1
          have hs1 := hB1.size
          have hs2 := HA.out.2.size
          have h0 := set_get (j := 0) (.int .i64 b) hgr
          have h1 := set_get (j := 1) (.slice p8 Zf.length c8) h0
          have h2 := set_get (j := 2) (.bool false) h1
          exact ⟨(((bel0 HA.out.2 hBt).setCell (Nat.le_refl _) _).setCell (Nat.le_refl _) _).setCell (Nat.le_refl _) _, by rw [h2]; simp, Zf, hf1, own_base (hf2.kept hg3 (.inr (fun e => by have := (hf2.lt _ e).1; omega))) (by omega), fun z hz => own_base ((hf3 z hz).kept hg3 (.inr (fun e => by have := ((hf3 z hz).lt _ e).1; omega))) (by omega)⟩
        clear hf1 hf2 hf3 hgr H2
        go_wp2_with fail
        refine bodyPost_ret (v := .agg #[.int .i64 b, .slice p8 Zf.length c8, .bool false]) (res_space _ _ w.heap.size _ _ _ Tryz.results18 rfl HP.out.2.1) rfl ?_
        exact ⟨HP.out.1, .inl ⟨hle, _, rfl, HP.out.2.2⟩⟩
      · have HZ : Hid (Below w.heap.size w W1) := bel0 HA.out.2 (bel0 hB hb1)
        clear H1
        go_wp2_with fail
        exact ⟨rfl, HZ.out, .inr ⟨hgt, rfl⟩⟩
end Go.Proofs.YtecgjlpmmailjaaGreatDoor
namespace Go.Proofs
open Go.Shelf
def Tryz.l169_ren : Go.Shelf.Ren := ⟨fun | 169 => 27 | n => n, fun | 70 => 63 | 9 => 9 | 0 => 0 | 72 => 65 | 37 => 60 | 127 => 88 | 3 => 3 | 5 => 5 | n => n, fun | n => n⟩
theorem Tryz.l169 : Go.Proofs.Lays.n169 Tryz.prog Tryz.l169_ren := {
  mixed := by kernel_rfl
  f169 := Tryz.func27.trans (congrArg some (by kernel_rfl))
  t0 := Tryz.underlying0
  a0 := Tryz.isAgg0
  z0 := Tryz.sizeOf0
  v0 := Tryz.zeroValue0
  t3 := Tryz.underlying3
  a3 := Tryz.isAgg3
  z3 := Tryz.sizeOf3
  v3 := Tryz.zeroValue3
  t9 := Tryz.underlying9
  a9 := Tryz.isAgg9
  z9 := Tryz.sizeOf9
  v9 := Tryz.zeroValue9
  t37 := Tryz.underlying60
  a37 := Tryz.isAgg60
  z37 := Tryz.sizeOf60
  v37 := Tryz.zeroValue60
  t70 := Tryz.underlying63
  a70 := Tryz.isAgg63
  z70 := Tryz.sizeOf63
  v70 := Tryz.zeroValue63
  t72 := Tryz.underlying65
  a72 := Tryz.isAgg65
  z72 := Tryz.sizeOf65
  v72 := Tryz.zeroValue65
  t127 := Tryz.underlying88
  a127 := Tryz.isAgg88
  z127 := Tryz.sizeOf88
  v127 := Tryz.zeroValue88 }
end Go.Proofs
namespace Go.Proofs.YtecgjlpmmailjaaGreatDoor
open Go.RowKit Go.Shelf
theorem bextra : Builder.Extra Tryz.prog Tryz.l169_ren where
  sizeBuilder := by kernel_rfl
  liesBuilder := by kernel_rfl
  t5 := Tryz.underlying5
  a5 := Tryz.isAgg5
  z5 := Tryz.sizeOf5
  v5 := Tryz.zeroValue5
  infoByte := by kernel_rfl
  cellsByte := by kernel_rfl
  sizeByte := by kernel_rfl
  neB5 := by decide
theorem sizeBd : (Tryz.prog.info? 65).map (·.size) = some 2 := by kernel_rfl
theorem liesBd : liesAt Tryz.prog Tryz.prog.depth 65 (2 / Tryz.prog.cellsOf 65) 0 65 1 = true := by kernel_rfl
set_option maxHeartbeats 1000000 in
set_option maxRecDepth 100000 in
theorem cc_used (b : Nat) (w : World) (h0 : w.cell? ⟨b, 0, none⟩ = some (.pointer (some ⟨b, 0, none⟩))) :
    Calls Tryz.prog 38 #[.pointer (some ⟨b, 0, none⟩)] w fun e w' => e = .returned (.tuple #[]) ∧ w' = w := by
  obtain ⟨j, hj, _⟩ := Option.map_eq_some_iff.1 sizeBd
  go_enter Tryz.func38, Tryz.ntmps38
  go_wp2
  rw [Lib.run_neq_ptr_same w _ Tryz.underlying63 hj]
  go_wp2
  go_end0
  exact ⟨rfl, rfl⟩
set_option maxHeartbeats 1000000 in
set_option maxRecDepth 100000 in
theorem cc_fresh (b : Nat) (w : World) (h0 : w.cell? ⟨b, 0, none⟩ = some (.pointer none)) (hsh : w.shape? b = some (65, 2)) (hfz : w.frozen? ⟨b, 0, none⟩ = false) :
    Calls Tryz.prog 38 #[.pointer (some ⟨b, 0, none⟩)] w fun e w' => e = .returned (.tuple #[]) ∧ w' = w.setCell ⟨b, 0, none⟩ (.pointer (some ⟨b, 0, none⟩)) := by
  obtain ⟨j, hj, hjs⟩ := Option.map_eq_some_iff.1 sizeBd
  go_enter Tryz.func38, Tryz.ntmps38
  go_wp2
  rw [Lib.run_to_unsafe w ⟨b, 0, none⟩ Tryz.underlying63 Tryz.underlying113 hj (by rw [hjs]; decide) hsh (Nat.zero_lt_succ 1)]
  simp only [Result.andThen]
  rw [Oper.upon_value]
  go_wp2
  rw [run_callFunc_extern Tryz.func54 (by kernel_rfl) (by kernel_rfl) (by kernel_rfl) (e := Extern.AbiNoEscape.same) (by kernel_rfl)]
  rw [Lib.run_noEscape]
  simp only [Result.andThen]
  rw [Oper.upon_value]
  go_wp2
  rw [Lib.run_from_unsafe w ⟨b, 0, none⟩ Tryz.underlying113 Tryz.underlying63 hj hsh liesBd]
  simp only [Result.andThen]
  rw [Oper.upon_value]
  go_wp2
  go_end0
  exact ⟨rfl, rfl⟩
/-- what is neither a builder nor a row of bytes lies as it lay -/
def KT (w w' : World) : Prop := ∀ (k : Nat) (cs : Array Value) (t : TypeId) (fr : Nat × Nat), w.heap[k]? = some (.cells cs t fr) → t ≠ 65 → t ≠ 5 → w'.heap[k]? = some (.cells cs t fr)
theorem KT.refl (w : World) : KT w w := fun _ _ _ _ h _ _ => h
theorem KT.trans {a b c : World} (h1 : KT a b) (h2 : KT b c) : KT a c := fun k cs t fr h n1 n2 => h2 k cs t fr (h1 k cs t fr h n1 n2) n1 n2
theorem KT_below {a b : World} (h : Below a.heap.size a b) : KT a b := fun k _ _ _ hk _ _ => (h.block k (Array.getElem?_eq_some_iff.1 hk).1).trans hk
theorem KT_set {w : World} {b j : Nat} {cs : Array Value} {fr : Nat × Nat} (v : Value) (h : w.heap[b]? = some (.cells cs 65 fr)) : KT w (w.setCell ⟨b, j, none⟩ v) := fun k ds t f hk n1 _ => by
  rw [heap_setCell_other]
  · exact hk
  · rintro rfl
    rw [h] at hk
    injection hk with e
    injection e with _ e _
    exact n1 e.symm
theorem cc_any (B b : Nat) (bs : List Value) (w : World) (h : Lib.IsBuilder 65 5 B b bs w) :
    Calls Tryz.prog 38 #[.pointer (some ⟨b, 0, none⟩)] w fun e w' => e = .returned (.tuple #[]) ∧ (Lib.BuilderAt 65 5 B b (.pointer (some ⟨b, 0, none⟩)) bs w' ∧ Below B w w' ∧ KT w w') := by
  rcases h with h | h
  · refine (cc_fresh b w h.cell0 h.shape h.frozen0).mono ?_
    rintro e w' ⟨rfl, rfl⟩
    obtain ⟨_, v, hb, _⟩ := id h
    exact ⟨rfl, h.used _, (Below.refl B w).setCell (p := ⟨b, 0, none⟩) h.1 _, KT_set _ hb⟩
  · refine (cc_used b w h.cell0).mono ?_
    rintro e w' ⟨rfl, rfl⟩
    exact ⟨rfl, h, Below.refl B _, KT.refl _⟩
set_option maxHeartbeats 2000000 in
set_option maxRecDepth 100000 in
theorem ws_any (B b : Nat) (bs : List Value) (s : ByteArray) (w : World) (h : Lib.IsBuilder 65 5 B b bs w) (hlen : bs.length + s.size ≤ 140737488355328) (hBw : B ≤ w.heap.size) :
    Calls Tryz.prog 26 #[.pointer (some ⟨b, 0, none⟩), .string s] w fun e w' => e = .returned (.tuple #[.int .i64 s.size, .nilIface]) ∧ (Lib.IsBuilder 65 5 B b (bs ++ Lib.strCells s) w' ∧ Below B w w' ∧ KT w w') := by
  obtain ⟨i0, hi, hz0, hz1, hz2⟩ := info_parts info_u8
  go_enter Tryz.func26, Tryz.ntmps26
  go_wp2_with (go_at_call 38; refine (cc_any B b bs _ h).mono ?_)
  rintro e w1 ⟨rfl, h1, hb1, kt1⟩
  obtain ⟨hB, v, hbk, hown, hne⟩ := h1
  have c0 : w1.cell? ⟨b, 0, none⟩ = some (.pointer (some ⟨b, 0, none⟩)) := by rw [Lib.cell_of_heap hbk]; rfl
  have c1 : w1.cell? ⟨b, 1, none⟩ = some v := by rw [Lib.cell_of_heap hbk]; rfl
  go_wp2_with (at_builtin; refine Lib.wpList_append_own_string _ rfl _ _ 60 9 rfl B 5 i0 Tryz.underlying60 Tryz.underlying9 hi hz0 hz1 hz2 _ _ _ rfl hown s rfl ?c3 ?c4 ?c5 ?_)
  case c3 => unfold maxLen; omega
  case c4 => omega
  case c5 => have := hb1.size; omega
  intro v' w2 hown' hgrow _
  have hlt : b < w1.heap.size := by
    rcases Nat.lt_or_ge b w1.heap.size with h' | h'
    · exact h'
    · simp [Array.getElem?_eq_none h'] at hbk
  have hb2 : w2.heap[b]? = some (.cells #[.pointer (some ⟨b, 0, none⟩), v] 65 (0, 0)) := by
    rw [hgrow.block b hlt (fun e => hne e.symm)]
    exact hbk
  have d0 : w2.cell? ⟨b, 0, none⟩ = some (.pointer (some ⟨b, 0, none⟩)) := by rw [Lib.cell_of_heap hb2]; rfl
  have d1 : w2.cell? ⟨b, 1, none⟩ = some v := by rw [Lib.cell_of_heap hb2]; rfl
  have f1 : w2.frozen? ⟨b, 1, none⟩ = false := Lib.frozen_of_heap hb2 1
  obtain ⟨ao, n', cap, rfl⟩ : ∃ ao n' cap, v' = .slice ao n' cap := by
    rcases hown'.2 with ⟨hv, _⟩ | ⟨g, cap, cur, hv, _⟩
    · exact ⟨_, _, _, hv⟩
    · exact ⟨_, _, _, hv⟩
  go_wp2
  go_ret2
  refine ⟨rfl, .inr ?_, ?_, ?_⟩
  · exact Lib.BuilderAt.put (T := 65) (e := 5) hB hb2 (bs' := bs ++ Lib.strCells s) (by simpa [Lib.strCells_length] using hown') (by decide)
  · exact (hb1.grown hgrow (by have := hb1.size; omega) (fun k hk => (hown.lt k hk).1)).setCell (p := ⟨b, 1, none⟩) hB _
  · refine kt1.trans (KT.trans (fun k cs t fr hk n1 n2 => ?_) (KT_set _ hb2))
    rw [hgrow.block k (Array.getElem?_eq_some_iff.1 hk).1 ?_]
    · exact hk
    · intro e
      rcases hown.2 with ⟨rfl, _⟩ | ⟨g, cap, cur, rfl, _, hg, _⟩
      · cases e
      · have : k = g := by injection e
        subst this
        rw [hg] at hk
        injection hk with e2
        injection e2 with _ e2 _
        exact n2 e2.symm
theorem bstr_any (B b : Nat) (l : List UInt8) (w : World) (h : Lib.IsBuilder 65 5 B b (Lib.byteCells l) w) (hBw : B ≤ w.heap.size) :
    Calls Tryz.prog 27 #[.pointer (some ⟨b, 0, none⟩)] w fun e w' => e = .returned (.string ⟨l.toArray⟩) ∧ Below B w w' :=
  Any.Builder_String_any Tryz.l169 bextra B b l w h hBw
end Go.Proofs.YtecgjlpmmailjaaGreatDoor

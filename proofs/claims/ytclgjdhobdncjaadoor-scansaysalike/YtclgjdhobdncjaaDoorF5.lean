import Derived.Test.YtclgjdhobdncjaaDoorF4
import Derived.Test.YtclgjdhobdncjaaDoorCE
namespace Go.Proofs.YtclgjdhobdncjaaDoor
open Go.RowKit Go.Shelf
theorem SH.keep {w W : World} {B : Nat} (h : SH w) (hG : 0 < B) (hb : Below B w W) : SH W := by
  obtain ⟨t, fr, h⟩ := h
  exact ⟨t, fr, (hb.block _ hG).trans h⟩
theorem UN.keep {w W : World} {B : Nat} (h : UN w) (hG : 1 < B) (hb : Below B w W) : UN W := by
  obtain ⟨t, fr, h⟩ := h
  exact ⟨t, fr, (hb.block _ hG).trans h⟩
theorem DB.lt {w : World} (h : DB w) : 4 < w.heap.size := World.block_lt_of_cell? w _ (h 0 (by decide))
/-- a row of characters through what keeps such rows -/
theorem CH.keep {W X : World} {B g n cap : Nat} {C : List (Int × Nat)} {xs : List Value} (ho : W.ownsRow B 36 2 (.slice (some ⟨g, 0, none⟩) n cap) n xs) (h : CH W ⟨g, 0, none⟩ C) (hc : Ch W X) : CH X ⟨g, 0, none⟩ C := by
  rcases ho.2 with ⟨hh, _⟩ | ⟨g', c', cur, e1, _, hh, _⟩
  · cases hh
  · injection e1 with e1 _ _
    injection e1 with e1
    injection e1 with e1 _ _
    subst e1
    have hx := hc _ _ _ hh
    intro k c hk
    obtain ⟨a, b⟩ := h k c hk
    rw [add0] at a b ⊢
    rw [add0]
    exact ⟨(World.cell?_of_block (hx.trans hh.symm)).trans a, (World.cell?_of_block (hx.trans hh.symm)).trans b⟩
theorem conv_app {W : World} {B : Nat} {v : Value} (T : List UInt8) (h : W.ownsRow B 5 1 v (T.length + 1) (Lib.byteCells T ++ [Value.int .u8 34])) : Sem.run Tryd.prog (convert 32 9 v) W = .ok (.string ⟨(T ++ [34]).toArray⟩) W :=
  conv_own (T ++ [34]) (by rw [List.length_append, byteCells_append]; exact h)
/-- what stands in Quote's loop -/
def QI (l : List UInt8) (R : List UInt8) (w : World) (now : Nat) (v : Value) (wr : World) : Prop :=
  ∃ (q : List UInt8), (now = (chars l 0).length ∧ q = R ∨ ∃ j, (chars l 0).drop now = chars l j ∧ j ≤ l.length ∧ q ++ quoL l j = R) ∧ q.length ≤ 1 + 12 * now ∧ wr.ownsRow w.heap.size 5 1 v q.length (Lib.byteCells q) ∧ Below w.heap.size w wr
set_option maxRecDepth 100000 in
set_option maxHeartbeats 2000000 in
theorem quote_any (l : List UInt8) (w : World) (hm : l.length ≤ 281474976710656) (hsh0 : SH w) (hun0 : UN w) (hdb0 : DB w) :
    Calls Tryd.prog 6 #[.string ⟨l.toArray⟩] w fun e w' => e = .returned (.tuple #[.string ⟨(quoS l).1.toArray⟩, .int .i64 ((quoS l).2 : Int)]) ∧ Below w.heap.size w w' := by
  by_cases h1 : 256 < l.length
  · have hr : Hid (quoS l = ([], 37)) := if_pos h1
    have i1 : (256 : Int) < (l.length : Int) := by omega
    rw [hr.out]
    go_enter Tryd.func6, Tryd.ntmps6
    go_wp2_with fail
    go_ret2
    exact ⟨rfl, Below.refl _ _⟩
  · have hr : Hid (quoS l = ([34] ++ quoL l 0 ++ [34], 0)) := if_neg h1
    have i1 : ¬ (256 : Int) < (l.length : Int) := by omega
    rw [hr.out]
    clear hr
    obtain ⟨R, hR⟩ : ∃ R, [34] ++ quoL l 0 = R := ⟨_, rfl⟩
    rw [hR]
    have HR : Hid ([34] ++ quoL l 0 = R) := hR
    have hsh : Hid (SH w) := hsh0
    have hun : Hid (UN w) := hun0
    have hdb : Hid (DB w) := hdb0
    have hG : 4 < w.heap.size := hdb0.lt
    clear hR hsh0 hun0 hdb0
    have HC := fun W => charsOf_any l W (by omega)
    have hNm := chars_len l _ 0 (Nat.le_refl _)
    have hN0 : 0 < (chars l 0).length := drop_lt (now := 0) (j := 0) rfl
    obtain ⟨i0, hi, hz0, hz1, hz2⟩ := info_parts info_u8
    go_enter Tryd.func6, Tryd.ntmps6
    go_wp2_with fail
    refine (HC _).mono ?_
    rintro e w1 ⟨v1, rfl, ho1, hb1⟩
    obtain ⟨g, cap, rfl⟩ := own_form ho1 hN0
    have hCH := CH.of_own ho1
    have ht0 : w1.ownsRow w.heap.size 5 1 (.slice (some ⟨w.heap.size, 0, none⟩) 1 1) 1 (Lib.byteCells [34]) := own_below (World.ownsRow_lit (base := w.heap.size) (e := 5) (size := 1) w #[.int .u8 34] 1 (Nat.le_refl _) (by unfold maxLen; omega) rfl) hb1
    have hbw : Below w.heap.size w w1 := ((Below.refl _ _).alloc (Nat.le_refl _) _).trans (hb1.mono (by simp))
    have HQ : Hid (QI l R w 0 (.slice (some ⟨w.heap.size, 0, none⟩) 1 1) w1) := ⟨[34], .inr ⟨0, rfl, Nat.zero_le _, HR.out⟩, by simp, ht0, hbw⟩
    have HO : Hid (w1.ownsRow (w.alloc (.cells #[.int .u8 34] 5)).heap.size 36 2 (.slice (some ⟨g, 0, none⟩) (chars l 0).length cap) (chars l 0).length (ccels (chars l 0))) := ho1
    have HCH : Hid (CH w1 ⟨g, 0, none⟩ (chars l 0)) := hCH
    clear HC ho1 hCH ht0 hbw HR hb1
    go_wp2_with fail
    go_loopw [4, 14] (fun v vk wr => ∃ now : Nat, vk = .int .i64 now ∧ now ≤ (chars l 0).length ∧ QI l R w now v wr ∧ Ch w1 wr) (fun _ vk _ => (chars l 0).length - (intOf vk).toNat)
    case atStart => exact ⟨0, rfl, Nat.zero_le _, HQ.out, fun _ _ _ h => h⟩
    case round =>
      clear HQ
      obtain ⟨now, rfl, hnow, hQI, hCh⟩ := hrel
      obtain ⟨q, hq, hql, hown, hB⟩ := hQI
      have hsz := hB.size
      by_cases hlt : now < (chars l 0).length
      · rcases hq with ⟨hq, _⟩ | ⟨j, hdr, hjl, hqr⟩
        · omega
        have k0 : (0 : Int) ≤ (now : Int) := by omega
        have k1 : (now : Int) < ((chars l 0).length : Int) := by omega
        have hx := (CH.keep HO.out HCH.out hCh) _ _ (drop_get hdr)
        obtain ⟨hxr, hxa⟩ := hx
        simp only [add0] at hxr hxa
        by_cases hjt : j < l.length
        · have hat : (if j < l.length then j else l.length) = j := if_pos hjt
          rw [hat] at hxa
          have cm2 : chr l j ≠ -2 := by unfold chr; rw [if_pos hjt]; split <;> omega
          have crg : -1 ≤ chr l j ∧ chr l j ≤ 1114111 := by have := chr_range l j; omega
          have dm2 : (chr l j == -2) = false := beq_eq_false_iff_ne.2 cm2
          have dm3 : (chr l j != -2) = true := by rw [bne, dm2]; rfl
          have hnx := drop_next hdr hjt
          have hnl := drop_lt hnx
          have hle := dc_le l j hjt
          have hpl := pcS_len l j hjt
          have hpc := pcS_ap l j hjt
          rw [quoL_lt hjt] at hqr
          obtain ⟨c, hc, hlc⟩ := byte_get l j hjt
          have hbt := bt_of hlc
          have j0 : (0 : Int) ≤ (j : Int) := by omega
          have j1 : (j : Int) < (l.length : Int) := by omega
          obtain ⟨X, hX⟩ : ∃ X, wr.alloc (Obj.cells #[Value.int IntKind.i32 (chr l j), Value.int IntKind.i64 (j : Int)] 36) = X := ⟨_, rfl⟩
          have hXb : Below w.heap.size w X := by rw [← hX]; exact hB.alloc hsz _
          have hXo : X.ownsRow w.heap.size 5 1 u4 q.length (Lib.byteCells q) := by rw [← hX]; exact hown.alloc _
          have hXc : Ch w1 X := by rw [← hX]; exact hCh.trans (Ch.alloc _ _)
          have hXg : X.heap[wr.heap.size]? = some (Obj.cells #[Value.int IntKind.i32 (chr l j), Value.int IntKind.i64 (j : Int)] 36) := by rw [← hX]; exact alloc_get _ _
          have HP : Hid (∀ W, Below X.heap.size X W → Calls Tryd.prog 11 #[u4, .int .i32 (chr l j), .int .u8 (c.toNat : Int)] W fun e w' => ∃ v', e = .returned v' ∧ Hid (QI l R w (now + 1) v' w') ∧ Hid (Ch w1 w') ∧ (w'.cell? ⟨wr.heap.size, 0, none⟩ = some (.int .i32 (chr l j)) ∧ w'.cell? ⟨wr.heap.size, 1, none⟩ = some (.int .i64 (j : Int)))) := fun W hW => by
            have hWb : Below w.heap.size w W := hXb.trans (hW.mono hXb.size)
            have := appendPiece_any (chr l j) (bt l j) (bt_lt l j) crg.1 crg.2 w.heap.size q.length u4 (Lib.byteCells q) W (hsh.out.keep (by omega) hWb) (hun.out.keep (by omega) hWb) (hdb.out.keep hG hWb) (own_below hXo hW) hWb.size (by omega) hG
            rw [← hpc, hbt] at this
            refine this.mono ?_
            rintro e w' ⟨v', rfl, ho, hb, hch⟩
            refine ⟨v', rfl, ⟨q ++ pcS l j, .inr ⟨_, hnx, hle, by rw [List.append_assoc]; exact hqr⟩, by rw [List.length_append]; omega, ?_, hWb.trans hb⟩, (hXc.trans (Ch.below hW)).trans hch, ?_⟩
            · rw [List.length_append, byteCells_append]
              exact ho
            · have hk := ((Ch.below hW).trans hch) _ _ _ hXg
              exact ⟨cell_of_row w' _ 0 _ _ _ hk, cell_of_row w' _ 1 _ _ _ hk⟩
          have hxc0 : X.cell? ⟨wr.heap.size, 0, none⟩ = some (.int .i32 (chr l j)) := by rw [← hX]; exact cells_new wr _ _ 0
          have hxc1 : X.cell? ⟨wr.heap.size, 1, none⟩ = some (.int .i64 (j : Int)) := by rw [← hX]; exact cells_new wr _ _ 1
          obtain ⟨r, hr⟩ : ∃ r, chr l j = r := ⟨_, rfl⟩
          rw [hr] at hxr dm2 dm3 HP hxc0 hX
          have HX : Hid (wr.alloc (Obj.cells #[Value.int IntKind.i32 r, Value.int IntKind.i64 (j : Int)] 36) = X) := hX
          obtain ⟨qv, cv, rfl⟩ := shapeP hown
          clear hX hr crg cm2 hat hnx hpl hpc hqr hbt hXb hXo hXc hown hdr hCh hB hXg
          go_wp2_with fail
          rw [HX.out]
          go_region_held_law (fun W => W.cell? ⟨wr.heap.size, 0, none⟩ = some (.int .i32 r) ∧ W.cell? ⟨wr.heap.size, 1, none⟩ = some (.int .i64 (j : Int))) (first | exact ⟨hxc0, hxc1⟩ | exact hk5) ((go_at_call 11; refine (HP.out _ (by first | exact Below.refl _ _ | exact (Below.refl _ _).drew | exact bel_drewN _ (Below.refl _ _))).mono ?_; rintro e w5 ⟨v5, rfl, hq5, hc5, hk5⟩))
          all_goals
            try simp only [List.getElem_toArray, List.getElem_cons_succ, List.getElem_cons_zero, List.setIfInBounds_toArray, List.set_cons_succ, List.set_cons_zero]
            go_wp2_with fail
            go_roundw
            case rel => exact ⟨now + 1, by go_num, by omega, hq5.out, hc5.out⟩
            case measure => simp [intOf]; omega
        · have hat : (if j < l.length then j else l.length) = l.length := if_neg hjt
          rw [hat] at hxa
          have hcr : chr l j = -2 := by unfold chr; rw [if_neg hjt]
          rw [hcr] at hxr
          rw [quoL_end hjt, List.append_nil] at hqr
          have hlen : (chars l 0).length = now + 1 := by
            have h0 := congrArg List.length hdr
            rw [chars_end hjt] at h0
            simp at h0
            omega
          have HQ2 : ∀ o, Hid (QI l R w (now + 1) u4 (wr.alloc o)) := fun o => ⟨q, .inl ⟨hlen.symm, hqr⟩, by omega, hown.alloc _, hB.alloc hsz _⟩
          have HC2 : ∀ o, Hid (Ch w1 (wr.alloc o)) := fun o => hCh.trans (Ch.alloc _ _)
          have HL : Hid ((chars l 0).length = now + 1) := hlen
          clear hat hcr hqr hdr hown hB hCh hlen hql
          go_wp2_with fail
          go_roundw
          case rel => exact ⟨now + 1, by go_num, by rw [HL.out]; omega, (HQ2 _).out, (HC2 _).out⟩
          case measure => have := HL.out; simp [intOf]; omega
      · have k1 : ¬ (now : Int) < ((chars l 0).length : Int) := by omega
        have hqR : q = R := by
          rcases hq with ⟨_, h⟩ | ⟨j, hdr, _, _⟩
          · exact h
          · exact absurd (drop_lt hdr) hlt
        subst hqR
        obtain ⟨qv, cv, rfl⟩ := shapeP hown
        clear hq hCh
        go_wp2_with (at_builtin; refine wpList_append_own _ rfl _ _ 32 rfl w.heap.size 5 i0 _ 1 1 Tryd.underlying32 hi hz0 hz1 hz2 rfl (by decide) _ _ _ rfl (hown.alloc _) ⟨wr.heap.size, 0, none⟩ 1 1 [Value.int .u8 34] rfl rfl (World.news_of_block (cs := #[.int .u8 34]) (t := 5) (fr := (0, 0)) (alloc_get _ _)) (by simp [Value.oneCell']) (by unfold maxLen; omega) (by omega) (by simp; omega) ?_; intro v5 w5 oB5 hg5 _; have hcv := conv_app q oB5)
        have b5 : Below w.heap.size w w5 := (hB.alloc hsz _).grown hg5 (by simp; omega) (fun k e => (hown.lt k e).1)
        go_ret2
        exact ⟨rfl, b5⟩
end Go.Proofs.YtclgjdhobdncjaaDoor

import Derived.Test.YtppmncmhokkfdaaDoorZ7
import Derived.OwnWalk
import Derived.Test.YtppmncmhokkfdaaDoorZ8
import Derived.Deep.QuietTactic
import Derived.Test.YtppmncmhokkfdaaDoorZ9
namespace Go.Proofs.YtppmncmhokkfdaaDoor
open Go.RowKit
/-- what Unquote answers: what is said, the error, the place -/
def unqS (l : List UInt8) : List UInt8 × Nat × Nat :=
  if 16384 < l.length then ([], 2, 0)
  else if l = [] ∨ bt l 0 ≠ 34 then ([], 32, 0)
  else if (insS l 1 []).2.2 ≠ 0 then ([], (insS l 1 []).2.2, (insS l 1 []).2.1)
  else if (insS l 1 []).2.1 < l.length then ([], 32, (insS l 1 []).2.1)
  else if 256 < (insS l 1 []).1.length then ([], 37, 0)
  else ((insS l 1 []).1, 0, 0)
end Go.Proofs.YtppmncmhokkfdaaDoor
namespace Go.Proofs.YtppmncmhokkfdaaDoor
open Go.RowKit Go.Shelf
theorem add0 (g m : Nat) : (⟨g, 0, none⟩ : Addr).add m = ⟨g, m, none⟩ := by unfold Addr.add; split <;> simp_all
theorem ccels_at (C : List (Int × Nat)) : ∀ (k : Nat) (c : Int × Nat), C[k]? = some c → (ccels C)[k * 2]? = some (.int .i32 c.1) ∧ (ccels C)[k * 2 + 1]? = some (.int .i64 (c.2 : Int)) := by
  induction C with
  | nil => intro k c h; simp at h
  | cons y C ih =>
    intro k c h
    cases k with
    | zero =>
      simp at h
      subst h
      exact ⟨rfl, rfl⟩
    | succ k =>
      have := ih k c (by simpa using h)
      rw [show (k + 1) * 2 = k * 2 + 1 + 1 by omega]
      exact this
theorem CH.of_own {W : World} {B g cap : Nat} {C : List (Int × Nat)} (h : W.ownsRow B 54 2 (.slice (some ⟨g, 0, none⟩) C.length cap) C.length (ccels C)) : CH W ⟨g, 0, none⟩ C := fun k c hc =>
  ⟨h.cells rfl _ _ (ccels_at C k c hc).1, h.cells rfl _ _ (ccels_at C k c hc).2⟩
theorem own_cap {w : World} {B e sz n m g cap : Nat} {xs : List Value} (h : w.ownsRow B e sz (.slice (some ⟨g, 0, none⟩) m cap) n xs) : n ≤ cap := by
  rcases h.2 with ⟨hh, _⟩ | ⟨g', c, cur, h1, _, _, h4, _⟩
  · cases hh
  · injection h1 with _ _ h1
    omega
theorem conv_own {W : World} {B : Nat} {v : Value} (T : List UInt8) (h : W.ownsRow B 5 1 v T.length (Lib.byteCells T)) : Sem.run Tryd.prog (convert 52 9 v) W = .ok (.string ⟨T.toArray⟩) W := by
  rcases h.2 with ⟨rfl, h0⟩ | ⟨g, c, cur, rfl, _⟩
  · obtain rfl := List.length_eq_zero_iff.1 h0
    rw [run_convert_bytes_string W _ _ 5 _ _ _ Tryd.underlying52 Tryd.underlying5 Tryd.underlying9]
    rfl
  · exact run_convert_bytes_back W _ _ 5 ⟨g, 0, none⟩ c T Tryd.underlying52 Tryd.underlying5 Tryd.underlying9 (fun j hj => h.cells rfl _ _ (by simp [Lib.byteCells, List.getElem?_eq_getElem hj]))
set_option maxRecDepth 100000 in
set_option maxHeartbeats 2000000 in
theorem unquote_any (l : List UInt8) (w : World) (hm : l.length ≤ 281474976710656) (hsh : SH w) :
    Calls Tryd.prog 12 #[.string ⟨l.toArray⟩] w fun e w' => e = .returned (.tuple #[.string ⟨(unqS l).1.toArray⟩, .int .i64 ((unqS l).2.1 : Int), .int .i64 ((unqS l).2.2 : Int)]) ∧ Below w.heap.size w w' := by
  by_cases h1 : 16384 < l.length
  · have hr : Hid (unqS l = ([], 2, 0)) := if_pos h1
    have i1 : (16384 : Int) < (l.length : Int) := by omega
    rw [hr.out]
    go_enter Tryd.func12, Tryd.ntmps12
    go_wp2_with fail
    go_ret3
    exact ⟨rfl, Below.refl _ _⟩
  · have i1 : ¬ (16384 : Int) < (l.length : Int) := by omega
    have HC := charsOf_any l w (by omega)
    have hget0 : (chars l 0)[0]? = some (chr l 0, (if 0 < l.length then 0 else l.length)) := drop_get (now := 0) rfl
    have hN0 : 0 < (chars l 0).length := (List.getElem?_eq_some_iff.1 hget0).1
    have hNm := chars_len l _ 0 (Nat.le_refl _)
    by_cases h2 : 0 < l.length ∧ bt l 0 = 34
    · have hu : unqS l = if (insS l 1 []).2.2 ≠ 0 then ([], (insS l 1 []).2.2, (insS l 1 []).2.1) else if (insS l 1 []).2.1 < l.length then ([], 32, (insS l 1 []).2.1) else if 256 < (insS l 1 []).1.length then ([], 37, 0) else ((insS l 1 []).1, 0, 0) := by
        unfold unqS
        rw [if_neg h1, if_neg (fun e => e.elim (fun e => by rw [e] at h2; simp at h2) (fun e => e h2.2))]
      rw [(chr_asc l 0 34 (by decide)).2 h2] at hget0
      have HP := fun g cap W => pieces_any l ⟨g, 0, none⟩ cap W (by omega) h2.1 h2.2
      go_enter Tryd.func12, Tryd.ntmps12
      go_wp2_with fail
      refine HC.mono ?_
      rintro e w1 ⟨v1, rfl, ho1, hb1⟩
      obtain ⟨g, cap, rfl⟩ := own_form ho1 hN0
      have hcap := own_cap ho1
      have hCH := CH.of_own ho1
      have hx0 := (hCH 0 _ hget0).1
      have HP1 := HP g cap w1 hcap hCH (hsh.below hb1)
      have n1 : (0 : Int) < ((chars l 0).length : Int) := by omega
      simp only [Nat.zero_mul] at hx0
      have hx0' : w1.cell? ⟨g, 0, none⟩ = some (.int .i32 34) := by simpa [Addr.add] using hx0
      clear HC HP hget0 hx0 ho1
      go_wp2_with fail
      refine HP1.mono ?_
      rintro e w2 ⟨v2, k, rfl, hdr, hP, ho2, hb2⟩
      have hCH2 := hCH.below hb2
      have hB2 := bel0 hb1 hb2
      have hk := drop_lt hdr
      have hgk := drop_get hdr
      have hxk := hCH2 _ _ hgk
      have k0 : (0 : Int) ≤ (k : Int) := by omega
      have k1 : (k : Int) < ((chars l 0).length : Int) := by omega
      have hat : (if (insS l 1 []).2.1 < l.length then (insS l 1 []).2.1 else l.length) = (insS l 1 []).2.1 := by split <;> omega
      rw [hat] at hxk
      obtain ⟨hxr, hxa⟩ := hxk
      simp only [add0] at hxr hxa
      have hcm2 : (chr l (insS l 1 []).2.1 = -2) ↔ ¬ (insS l 1 []).2.1 < l.length := by
        unfold chr
        split
        · split
          · omega
          · omega
        · omega
      have hcv := conv_own (insS l 1 []).1 ho2
      obtain ⟨T, hT⟩ : ∃ T, (insS l 1 []).1 = T := ⟨_, rfl⟩
      obtain ⟨Pp, hPp⟩ : ∃ P, (insS l 1 []).2.1 = P := ⟨_, rfl⟩
      obtain ⟨E, hE⟩ : ∃ E, (insS l 1 []).2.2 = E := ⟨_, rfl⟩
      rw [hT, hPp, hE] at hu
      rw [hPp] at hxr hxa hcm2 hP
      rw [hT] at hcv ho2
      obtain ⟨R, hR⟩ : ∃ R, chr l Pp = R := ⟨_, rfl⟩
      rw [hR] at hxr hcm2
      have hv2 : ∃ ad2 c2, v2 = .slice ad2 T.length c2 := by
        rcases ho2.2 with ⟨rfl, h0⟩ | ⟨g2, c2, cur, rfl, _⟩
        · exact ⟨none, 0, by rw [h0]⟩
        · exact ⟨_, _, rfl⟩
      obtain ⟨ad2, c2, rfl⟩ := hv2
      rw [hE]
      clear HP1 hCH hCH2 hdr hgk hat hT hPp hE hR hsh hx0' hb1 hb2 ho2
      by_cases g1 : E = 0
      · subst g1
        rw [if_neg (by simp)] at hu
        by_cases g2 : Pp < l.length
        · have hR2 : (R == -2) = false := beq_eq_false_iff_ne.2 (fun e => (hcm2.1 e) g2)
          have hR3 : (R != -2) = true := by rw [bne, hR2]; rfl
          rw [if_pos g2] at hu
          have hr : Hid (unqS l = ([], 32, Pp)) := hu
          clear hu hcm2
          go_wp2_with fail
          go_quiet (fail)
          go_wp2_with fail
          go_ret3
          exact ⟨by rw [hr.out]; rfl, by first | exact hB2 | exact bel_drewN _ hB2⟩
        · have hR2 := hcm2.2 g2
          subst hR2
          rw [if_neg g2] at hu
          by_cases g3 : 256 < T.length
          · have i3 : (256 : Int) < (T.length : Int) := by omega
            rw [if_pos g3] at hu
            have hr : Hid (unqS l = ([], 37, 0)) := hu
            clear hu hcm2
            go_wp2_with fail
            go_ret3
            exact ⟨by rw [hr.out]; rfl, by first | exact hB2 | exact bel_drewN _ hB2⟩
          · have i3 : ¬ (256 : Int) < (T.length : Int) := by omega
            rw [if_neg g3] at hu
            have hr : Hid (unqS l = (T, 0, 0)) := hu
            clear hu hcm2
            go_wp2_with fail
            go_ret3
            exact ⟨by rw [hr.out]; rfl, by first | exact hB2 | exact bel_drewN _ hB2⟩
      · have j1 : ((E : Int) == 0) = false := by rw [beq_eq_false_iff_ne]; omega
        have j11 : ((E : Int) != 0) = true := by rw [bne, j1]; rfl
        rw [if_pos g1] at hu
        have hr : Hid (unqS l = ([], E, Pp)) := hu
        clear hu hcm2
        go_wp2_with fail
        go_quiet (fail)
        go_wp2_with fail
        go_ret3
        exact ⟨by rw [hr.out]; rfl, by first | exact hB2 | exact bel_drewN _ hB2⟩
    · have hr : Hid (unqS l = ([], 32, 0)) := by
        unfold Hid unqS
        rw [if_neg h1, if_pos]
        by_cases h3 : l = []
        · exact .inl h3
        · exact .inr (fun e => h2 ⟨List.length_pos_iff.2 h3, e⟩)
      have hne : chr l 0 ≠ 34 := fun e => h2 ((chr_asc l 0 34 (by decide)).1 e)
      rw [hr.out]
      go_enter Tryd.func12, Tryd.ntmps12
      go_wp2_with fail
      refine HC.mono ?_
      rintro e w1 ⟨v1, rfl, ho1, hb1⟩
      obtain ⟨g, cap, rfl⟩ := own_form ho1 hN0
      have hCH := CH.of_own ho1
      have hx0 := (hCH 0 _ hget0).1
      have n1 : (0 : Int) < ((chars l 0).length : Int) := by omega
      simp only [Nat.zero_mul] at hx0
      have hx0' : w1.cell? ⟨g, 0, none⟩ = some (.int .i32 (chr l 0)) := by simpa [Addr.add] using hx0
      obtain ⟨R, hR⟩ : ∃ R, chr l 0 = R := ⟨_, rfl⟩
      rw [hR] at hx0' hne
      have hR2 : (R == 34) = false := beq_eq_false_iff_ne.2 hne
      have hR3 : (R != 34) = true := by rw [bne, hR2]; rfl
      clear HC hget0 hx0 ho1 hCH hne hR hr
      go_wp2_with fail
      go_ret3
      exact ⟨rfl, hb1⟩
end Go.Proofs.YtppmncmhokkfdaaDoor
namespace Go.Proofs.YtppmncmhokkfdaaDoor
open Go.RowKit Go.Shelf
theorem SH.keep {w W : World} {B : Nat} (h : SH w) (hG : 0 < B) (hb : Below B w W) : SH W := by
  obtain ⟨t, fr, h⟩ := h
  exact ⟨t, fr, (hb.block _ hG).trans h⟩
theorem UN.keep {w W : World} {B : Nat} (h : UN w) (hG : 1 < B) (hb : Below B w W) : UN W := by
  obtain ⟨t, fr, h⟩ := h
  exact ⟨t, fr, (hb.block _ hG).trans h⟩
theorem DB.lt {w : World} (h : DB w) : 8 < w.heap.size := World.block_lt_of_cell? w _ (h 0 (by decide))
/-- a row of characters through what keeps such rows -/
theorem CH.keep {W X : World} {B g n cap : Nat} {C : List (Int × Nat)} {xs : List Value} (ho : W.ownsRow B 54 2 (.slice (some ⟨g, 0, none⟩) n cap) n xs) (h : CH W ⟨g, 0, none⟩ C) (hc : Ch W X) : CH X ⟨g, 0, none⟩ C := by
  rcases ho.2 with ⟨hh, _⟩ | ⟨g', c', cur, e1, _, hh, _⟩
  · cases hh
  · injection e1 with e1 _ _
    injection e1 with e1
    injection e1 with e1 _ _
    subst e1
    have hx := hc _ _ _ hh
    intro k c hk
    obtain ⟨a, b⟩ := h k c hk
    rw [add0] at a b ⊢
    rw [add0]
    exact ⟨(World.cell?_of_block (hx.trans hh.symm)).trans a, (World.cell?_of_block (hx.trans hh.symm)).trans b⟩
theorem conv_app {W : World} {B : Nat} {v : Value} (T : List UInt8) (h : W.ownsRow B 5 1 v (T.length + 1) (Lib.byteCells T ++ [Value.int .u8 34])) : Sem.run Tryd.prog (convert 52 9 v) W = .ok (.string ⟨(T ++ [34]).toArray⟩) W :=
  conv_own (T ++ [34]) (by rw [List.length_append, byteCells_append]; exact h)
/-- what stands in Quote's loop -/
def QI (l : List UInt8) (R : List UInt8) (w : World) (now : Nat) (v : Value) (wr : World) : Prop :=
  ∃ (q : List UInt8), (now = (chars l 0).length ∧ q = R ∨ ∃ j, (chars l 0).drop now = chars l j ∧ j ≤ l.length ∧ q ++ quoL l j = R) ∧ q.length ≤ 1 + 12 * now ∧ wr.ownsRow w.heap.size 5 1 v q.length (Lib.byteCells q) ∧ Below w.heap.size w wr
set_option maxRecDepth 100000 in
set_option maxHeartbeats 2000000 in
theorem quote_any (l : List UInt8) (w : World) (hm : l.length ≤ 281474976710656) (hsh0 : SH w) (hun0 : UN w) (hdb0 : DB w) :
    Calls Tryd.prog 11 #[.string ⟨l.toArray⟩] w fun e w' => e = .returned (.tuple #[.string ⟨(quoS l).1.toArray⟩, .int .i64 ((quoS l).2 : Int)]) ∧ Below w.heap.size w w' := by
  by_cases h1 : 256 < l.length
  · have hr : Hid (quoS l = ([], 37)) := if_pos h1
    have i1 : (256 : Int) < (l.length : Int) := by omega
    rw [hr.out]
    go_enter Tryd.func11, Tryd.ntmps11
    go_wp2_with fail
    go_ret2
    exact ⟨rfl, Below.refl _ _⟩
  · have hr : Hid (quoS l = ([34] ++ quoL l 0 ++ [34], 0)) := if_neg h1
    have i1 : ¬ (256 : Int) < (l.length : Int) := by omega
    rw [hr.out]
    clear hr
    obtain ⟨R, hR⟩ : ∃ R, [34] ++ quoL l 0 = R := ⟨_, rfl⟩
    rw [hR]
    have HR : Hid ([34] ++ quoL l 0 = R) := hR
    have hsh : Hid (SH w) := hsh0
    have hun : Hid (UN w) := hun0
    have hdb : Hid (DB w) := hdb0
    have hG : 8 < w.heap.size := hdb0.lt
    clear hR hsh0 hun0 hdb0
    have HC := fun W => charsOf_any l W (by omega)
    have hNm := chars_len l _ 0 (Nat.le_refl _)
    have hN0 : 0 < (chars l 0).length := drop_lt (now := 0) (j := 0) rfl
    obtain ⟨i0, hi, hz0, hz1, hz2⟩ := info_parts info_u8
    go_enter Tryd.func11, Tryd.ntmps11
    go_wp2_with fail
    refine (HC _).mono ?_
    rintro e w1 ⟨v1, rfl, ho1, hb1⟩
    obtain ⟨g, cap, rfl⟩ := own_form ho1 hN0
    have hCH := CH.of_own ho1
    have ht0 : w1.ownsRow w.heap.size 5 1 (.slice (some ⟨w.heap.size, 0, none⟩) 1 1) 1 (Lib.byteCells [34]) := own_below (World.ownsRow_lit (base := w.heap.size) (e := 5) (size := 1) w #[.int .u8 34] 1 (Nat.le_refl _) (by unfold maxLen; omega) rfl) hb1
    have hbw : Below w.heap.size w w1 := ((Below.refl _ _).alloc (Nat.le_refl _) _).trans (hb1.mono (by simp))
    have HQ : Hid (QI l R w 0 (.slice (some ⟨w.heap.size, 0, none⟩) 1 1) w1) := ⟨[34], .inr ⟨0, rfl, Nat.zero_le _, HR.out⟩, by simp, ht0, hbw⟩
    have HO : Hid (w1.ownsRow (w.alloc (.cells #[.int .u8 34] 5)).heap.size 54 2 (.slice (some ⟨g, 0, none⟩) (chars l 0).length cap) (chars l 0).length (ccels (chars l 0))) := ho1
    have HCH : Hid (CH w1 ⟨g, 0, none⟩ (chars l 0)) := hCH
    clear HC ho1 hCH ht0 hbw HR hb1
    go_wp2_with fail
    go_loopw [4, 14] (fun v vk wr => ∃ now : Nat, vk = .int .i64 now ∧ now ≤ (chars l 0).length ∧ QI l R w now v wr ∧ Ch w1 wr) (fun _ vk _ => (chars l 0).length - (intOf vk).toNat)
    case atStart => exact ⟨0, rfl, Nat.zero_le _, HQ.out, fun _ _ _ h => h⟩
    case round =>
      clear HQ
      obtain ⟨now, rfl, hnow, hQI, hCh⟩ := hrel
      obtain ⟨q, hq, hql, hown, hB⟩ := hQI
      have hsz := hB.size
      by_cases hlt : now < (chars l 0).length
      · rcases hq with ⟨hq, _⟩ | ⟨j, hdr, hjl, hqr⟩
        · omega
        have k0 : (0 : Int) ≤ (now : Int) := by omega
        have k1 : (now : Int) < ((chars l 0).length : Int) := by omega
        have hx := (CH.keep HO.out HCH.out hCh) _ _ (drop_get hdr)
        obtain ⟨hxr, hxa⟩ := hx
        simp only [add0] at hxr hxa
        by_cases hjt : j < l.length
        · have hat : (if j < l.length then j else l.length) = j := if_pos hjt
          rw [hat] at hxa
          have cm2 : chr l j ≠ -2 := by unfold chr; rw [if_pos hjt]; split <;> omega
          have crg : -1 ≤ chr l j ∧ chr l j ≤ 1114111 := by have := chr_range l j; omega
          have dm2 : (chr l j == -2) = false := beq_eq_false_iff_ne.2 cm2
          have dm3 : (chr l j != -2) = true := by rw [bne, dm2]; rfl
          have hnx := drop_next hdr hjt
          have hnl := drop_lt hnx
          have hle := dc_le l j hjt
          have hpl := pcS_len l j hjt
          have hpc := pcS_ap l j hjt
          rw [quoL_lt hjt] at hqr
          obtain ⟨c, hc, hlc⟩ := byte_get l j hjt
          have hbt := bt_of hlc
          have j0 : (0 : Int) ≤ (j : Int) := by omega
          have j1 : (j : Int) < (l.length : Int) := by omega
          obtain ⟨X, hX⟩ : ∃ X, wr.alloc (Obj.cells #[Value.int IntKind.i32 (chr l j), Value.int IntKind.i64 (j : Int)] 54) = X := ⟨_, rfl⟩
          have hXb : Below w.heap.size w X := by rw [← hX]; exact hB.alloc hsz _
          have hXo : X.ownsRow w.heap.size 5 1 u4 q.length (Lib.byteCells q) := by rw [← hX]; exact hown.alloc _
          have hXc : Ch w1 X := by rw [← hX]; exact hCh.trans (Ch.alloc _ _)
          have hXg : X.heap[wr.heap.size]? = some (Obj.cells #[Value.int IntKind.i32 (chr l j), Value.int IntKind.i64 (j : Int)] 54) := by rw [← hX]; exact alloc_get _ _
          have HP : Hid (∀ W, Below X.heap.size X W → Calls Tryd.prog 21 #[u4, .int .i32 (chr l j), .int .u8 (c.toNat : Int)] W fun e w' => ∃ v', e = .returned v' ∧ Hid (QI l R w (now + 1) v' w') ∧ Hid (Ch w1 w') ∧ (w'.cell? ⟨wr.heap.size, 0, none⟩ = some (.int .i32 (chr l j)) ∧ w'.cell? ⟨wr.heap.size, 1, none⟩ = some (.int .i64 (j : Int)))) := fun W hW => by
            have hWb : Below w.heap.size w W := hXb.trans (hW.mono hXb.size)
            have := appendPiece_any (chr l j) (bt l j) (bt_lt l j) crg.1 crg.2 w.heap.size q.length u4 (Lib.byteCells q) W (hsh.out.keep (by omega) hWb) (hun.out.keep (by omega) hWb) (hdb.out.keep hG hWb) (own_below hXo hW) hWb.size (by omega) hG
            rw [← hpc, hbt] at this
            refine this.mono ?_
            rintro e w' ⟨v', rfl, ho, hb, hch⟩
            refine ⟨v', rfl, ⟨q ++ pcS l j, .inr ⟨_, hnx, hle, by rw [List.append_assoc]; exact hqr⟩, by rw [List.length_append]; omega, ?_, hWb.trans hb⟩, (hXc.trans (Ch.below hW)).trans hch, ?_⟩
            · rw [List.length_append, byteCells_append]
              exact ho
            · have hk := ((Ch.below hW).trans hch) _ _ _ hXg
              exact ⟨cell_of_row w' _ 0 _ _ _ hk, cell_of_row w' _ 1 _ _ _ hk⟩
          have hxc0 : X.cell? ⟨wr.heap.size, 0, none⟩ = some (.int .i32 (chr l j)) := by rw [← hX]; exact cells_new wr _ _ 0
          have hxc1 : X.cell? ⟨wr.heap.size, 1, none⟩ = some (.int .i64 (j : Int)) := by rw [← hX]; exact cells_new wr _ _ 1
          obtain ⟨r, hr⟩ : ∃ r, chr l j = r := ⟨_, rfl⟩
          rw [hr] at hxr dm2 dm3 HP hxc0 hX
          have HX : Hid (wr.alloc (Obj.cells #[Value.int IntKind.i32 r, Value.int IntKind.i64 (j : Int)] 54) = X) := hX
          obtain ⟨qv, cv, rfl⟩ := shapeP hown
          clear hX hr crg cm2 hat hnx hpl hpc hqr hbt hXb hXo hXc hown hdr hCh hB hXg
          go_wp2_with fail
          rw [HX.out]
          go_region_held_law (fun W => W.cell? ⟨wr.heap.size, 0, none⟩ = some (.int .i32 r) ∧ W.cell? ⟨wr.heap.size, 1, none⟩ = some (.int .i64 (j : Int))) (first | exact ⟨hxc0, hxc1⟩ | exact hk5) ((go_at_call 21; refine (HP.out _ (by first | exact Below.refl _ _ | exact (Below.refl _ _).drew | exact bel_drewN _ (Below.refl _ _))).mono ?_; rintro e w5 ⟨v5, rfl, hq5, hc5, hk5⟩))
          all_goals
            try simp only [List.getElem_toArray, List.getElem_cons_succ, List.getElem_cons_zero, List.setIfInBounds_toArray, List.set_cons_succ, List.set_cons_zero]
            go_wp2_with fail
            go_roundw
            case rel => exact ⟨now + 1, by go_num, by omega, hq5.out, hc5.out⟩
            case measure => simp [intOf]; omega
        · have hat : (if j < l.length then j else l.length) = l.length := if_neg hjt
          rw [hat] at hxa
          have hcr : chr l j = -2 := by unfold chr; rw [if_neg hjt]
          rw [hcr] at hxr
          rw [quoL_end hjt, List.append_nil] at hqr
          have hlen : (chars l 0).length = now + 1 := by
            have h0 := congrArg List.length hdr
            rw [chars_end hjt] at h0
            simp at h0
            omega
          have HQ2 : ∀ o, Hid (QI l R w (now + 1) u4 (wr.alloc o)) := fun o => ⟨q, .inl ⟨hlen.symm, hqr⟩, by omega, hown.alloc _, hB.alloc hsz _⟩
          have HC2 : ∀ o, Hid (Ch w1 (wr.alloc o)) := fun o => hCh.trans (Ch.alloc _ _)
          have HL : Hid ((chars l 0).length = now + 1) := hlen
          clear hat hcr hqr hdr hown hB hCh hlen hql
          go_wp2_with fail
          go_roundw
          case rel => exact ⟨now + 1, by go_num, by rw [HL.out]; omega, (HQ2 _).out, (HC2 _).out⟩
          case measure => have := HL.out; simp [intOf]; omega
      · have k1 : ¬ (now : Int) < ((chars l 0).length : Int) := by omega
        have hqR : q = R := by
          rcases hq with ⟨_, h⟩ | ⟨j, hdr, _, _⟩
          · exact h
          · exact absurd (drop_lt hdr) hlt
        subst hqR
        obtain ⟨qv, cv, rfl⟩ := shapeP hown
        clear hq hCh
        go_wp2_with (at_builtin; refine wpList_append_own _ rfl _ _ 52 rfl w.heap.size 5 i0 _ 1 1 Tryd.underlying52 hi hz0 hz1 hz2 rfl (by decide) _ _ _ rfl (hown.alloc _) ⟨wr.heap.size, 0, none⟩ 1 1 [Value.int .u8 34] rfl rfl (World.news_of_block (cs := #[.int .u8 34]) (t := 5) (fr := (0, 0)) (alloc_get _ _)) (by simp [Value.oneCell']) (by unfold maxLen; omega) (by omega) (by simp; omega) ?_; intro v5 w5 oB5 hg5 _; have hcv := conv_app q oB5)
        have b5 : Below w.heap.size w w5 := (hB.alloc hsz _).grown hg5 (by simp; omega) (fun k e => (hown.lt k e).1)
        go_ret2
        exact ⟨rfl, b5⟩
end Go.Proofs.YtppmncmhokkfdaaDoor
namespace Go.Proofs.YtppmncmhokkfdaaDoor
open Go.RowKit
theorem bt_shift (P X : List UInt8) (j : Nat) : bt (P ++ X) (P.length + j) = bt X j := by
  unfold bt
  simp [List.getD, List.getElem?_append_right]
theorem drop_shift (P X : List UInt8) (j : Nat) : (P ++ X).drop (P.length + j) = X.drop j := by
  rw [← List.drop_drop, List.drop_left]
theorem getD_shift (P X : List UInt8) (j : Nat) : (P ++ X).getD (P.length + j) 0 = X.getD j 0 := by
  simp [List.getD, List.getElem?_append_right]
theorem dc_shift (P X : List UInt8) : dc (P ++ X) P.length = Lib.decodeN X.length (bt X 0) (bt X 1) (bt X 2) (bt X 3) := by
  unfold dc
  have h0 := bt_shift P X 0
  rw [Nat.add_zero] at h0
  rw [h0, bt_shift, bt_shift, bt_shift, List.length_append, Nat.add_sub_cancel_left]
theorem brS_shift (P X : List UInt8) : brS (P ++ X) P.length = brS X 0 := by
  unfold brS
  rw [drop_shift, bt_shift, Nat.add_assoc, bt_shift, List.length_append]
  simp only [Nat.zero_add]
  have e1 : (P.length + X.length < P.length + 3 ∨ bt X 2 ≠ 123) = (X.length < 3 ∨ bt X 2 ≠ 123) := by rw [Nat.add_lt_add_iff_left]
  have e2 : ∀ k, (P.length + X.length ≤ P.length + (3 + k)) = (X.length ≤ 3 + k) := fun k => by rw [Nat.add_le_add_iff_left]
  simp only [e1, e2]
theorem escS_shift (P X : List UInt8) : escS (P ++ X) P.length = escS X 0 := by
  unfold escS
  rw [bt_shift, getD_shift, getD_shift, brS_shift, List.length_append]
  simp only [Nat.zero_add]
  have e1 : (P.length + X.length ≤ P.length + 1) = (X.length ≤ 1) := by rw [Nat.add_le_add_iff_left]
  have e2 : (P.length + 3 < P.length + X.length) = (3 < X.length) := by rw [Nat.add_lt_add_iff_left]
  simp only [e1, e2]
theorem bt_own (l : List UInt8) (i : Nat) (rest : List UInt8) (h : i < l.length) (j : Nat) (hj : j < (dc l i).2) : bt (own l i ++ rest) j = bt l (i + j) := by
  have h1 := own_get l i j hj
  unfold bt
  rw [← h1]
  have hl := own_len l i h
  simp [List.getD, List.getElem?_append_left (show j < (own l i).length by omega)]
/-- a character that stands by itself is read as itself, whatever is behind it -/
theorem dc_same (l : List UInt8) (i : Nat) (P rest : List UInt8) (h : i < l.length) (hlo : lo1 l i = false) : dc (P ++ (own l i ++ rest)) P.length = dc l i := by
  rw [dc_shift]
  have hne : ¬ (dc l i = (65533, 1)) := of_decide_eq_false hlo
  have hb := bt_own l i rest h
  have hl : (own l i ++ rest).length = (dc l i).2 + rest.length := by rw [List.length_append, own_len l i h]
  have hd : dc l i = Lib.decodeN (l.length - i) (bt l i) (bt l (i + 1)) (bt l (i + 2)) (bt l (i + 3)) := rfl
  rcases Lib.decodeN_shape (l.length - i) (bt l i) (bt l (i + 1)) (bt l (i + 2)) (bt l (i + 3)) with ⟨a1, e⟩ | ⟨a1, a2, a3, a4, e⟩ | ⟨a1, a2, a3, a4, a5, a6, e⟩ | ⟨a1, a2, a3, a4, a5, a6, a7, e⟩ | e
  all_goals rw [e] at hd
  all_goals rw [hd] at hb hl ⊢
  all_goals simp only at hb hl
  · have h0 := hb 0 (by omega)
    simp only [Nat.add_zero] at h0
    rw [h0]
    unfold Lib.decodeN
    rw [if_pos a1]
  · have h0 := hb 0 (by omega)
    have h1 := hb 1 (by omega)
    simp only [Nat.add_zero] at h0
    rw [h0, h1]
    unfold Lib.decodeN
    rw [if_neg (by omega), if_pos ⟨a1, by omega, a3⟩, if_pos (by omega)]
  · have h0 := hb 0 (by omega)
    have h1 := hb 1 (by omega)
    have h2 := hb 2 (by omega)
    simp only [Nat.add_zero] at h0
    rw [h0, h1, h2]
    unfold Lib.decodeN
    rw [if_neg (by omega), if_neg (by omega), if_pos ⟨a1, ⟨by omega, a3⟩, by omega, a4⟩, if_pos (by omega)]
  · have h0 := hb 0 (by omega)
    have h1 := hb 1 (by omega)
    have h2 := hb 2 (by omega)
    have h3 := hb 3 (by omega)
    simp only [Nat.add_zero] at h0
    rw [h0, h1, h2, h3]
    unfold Lib.decodeN
    rw [if_neg (by omega), if_neg (by omega), if_neg (by omega), if_pos ⟨a1, ⟨by omega, a3⟩, ⟨by omega, a4⟩, by omega, a5⟩, if_pos (by omega)]
  · exact absurd hd hne
theorem hexD_hx (d : Nat) (hd : d < 16) : hexD (hx d) = some d := by
  have h : ∀ d : Fin 16, hexD (hx d.val) = some d.val := by decide
  exact h ⟨d, hd⟩
theorem hexRun_hexN (r : Nat) : ∀ (f m : Nat) (B : List UInt8), (hexN r).length ≤ f → hexRun f (hexN r ++ B) m = ((hexRun (f - (hexN r).length) B (m * 16 ^ (hexN r).length + r)).1 + (hexN r).length, (hexRun (f - (hexN r).length) B (m * 16 ^ (hexN r).length + r)).2) := by
  induction r using Nat.strongRecOn with
  | ind r ih =>
  intro f m B hf
  by_cases h : r < 16
  · have e : hexN r = [hx r] := by rw [hexN, if_pos h]
    rw [e] at hf ⊢
    obtain ⟨f', rfl⟩ : ∃ f', f = f' + 1 := ⟨f - 1, by simp at hf; omega⟩
    show hexRun (f' + 1) (hx r :: B) m = _
    rw [hexRun, hexD_hx r h]
    simp [Nat.mul_comm]
  · have e : hexN r = hexN (r / 16) ++ [hx (r % 16)] := by rw [hexN, if_neg h]
    have hl : (hexN r).length = (hexN (r / 16)).length + 1 := by rw [e]; simp
    rw [hl] at hf ⊢
    rw [e, List.append_assoc, ih (r / 16) (by omega) f m _ (by omega)]
    obtain ⟨g, hg⟩ : ∃ g, f - (hexN (r / 16)).length = g + 1 := ⟨f - (hexN (r / 16)).length - 1, by omega⟩
    have hg2 : f - ((hexN (r / 16)).length + 1) = g := by omega
    rw [hg, hg2]
    show ((hexRun (g + 1) (hx (r % 16) :: B) _).1 + _, (hexRun (g + 1) (hx (r % 16) :: B) _).2) = _
    rw [hexRun, hexD_hx _ (by omega)]
    have hv : 16 * (m * 16 ^ (hexN (r / 16)).length + r / 16) + r % 16 = m * 16 ^ ((hexN (r / 16)).length + 1) + r := by
      rw [Nat.pow_succ, ← Nat.mul_assoc]
      omega
    simp only [hv]
    exact Prod.ext (by simp only; omega) rfl
theorem hexRun_brace (f m : Nat) (rest : List UInt8) : hexRun f (125 :: rest) m = (0, m) := by
  cases f with
  | zero => rfl
  | succ f => rw [hexRun, show hexD 125 = none by decide]
end Go.Proofs.YtppmncmhokkfdaaDoor
namespace Go.Proofs.YtppmncmhokkfdaaDoor
open Go.RowKit
/-- one escape is read -/
theorem ins_esc (P X said : List UInt8) (n : Nat) (b : List UInt8) (hX : 0 < X.length) (h92 : bt X 0 = 92) (he : escS X 0 = (n, b)) (hn : 0 < n) : insS (P ++ X) P.length said = insS (P ++ X) (P.length + n) (said ++ b) := by
  have h0 := bt_shift P X 0
  rw [Nat.add_zero] at h0
  rw [insS, if_pos (by rw [List.length_append]; omega), h0, if_neg (by omega), if_pos h92, escS_shift, he, if_neg (by simp only; omega)]
theorem esc_loo (x : Nat) (hx2 : x < 256) (rest : List UInt8) : escS (looS x ++ rest) 0 = (4, [UInt8.ofNat x]) := by
  have h1 := hexD_hx (x / 16) (by omega)
  have h2 := hexD_hx (x % 16) (by omega)
  show escS (92 :: 120 :: hx (x / 16) :: hx (x % 16) :: rest) 0 = _
  unfold escS
  have b1 : bt (92 :: 120 :: hx (x / 16) :: hx (x % 16) :: rest) (0 + 1) = 120 := rfl
  have g2 : (92 :: 120 :: hx (x / 16) :: hx (x % 16) :: rest).getD (0 + 2) 0 = hx (x / 16) := rfl
  have g3 : (92 :: 120 :: hx (x / 16) :: hx (x % 16) :: rest).getD (0 + 3) 0 = hx (x % 16) := rfl
  rw [b1, g2, g3, h1, h2, if_neg (by simp), if_neg (by decide), if_neg (by decide), if_neg (by decide), if_neg (by decide), if_neg (by decide), if_pos rfl, if_pos (by simp)]
  exact congrArg (fun y => (4, [UInt8.ofNat y])) (by omega)
theorem esc_sh2 (c y : UInt8) (rest : List UInt8) (h : (c = 34 ∧ y = 34) ∨ (c = 92 ∧ y = 92) ∨ (c = 110 ∧ y = 10) ∨ (c = 114 ∧ y = 13) ∨ (c = 116 ∧ y = 9)) : escS ([92, c] ++ rest) 0 = (2, [y]) := by
  show escS (92 :: c :: rest) 0 = _
  unfold escS
  have b1 : bt (92 :: c :: rest) (0 + 1) = c.toNat := rfl
  rw [b1, if_neg (by simp)]
  rcases h with ⟨rfl, rfl⟩ | ⟨rfl, rfl⟩ | ⟨rfl, rfl⟩ | ⟨rfl, rfl⟩ | ⟨rfl, rfl⟩
  · rw [if_pos (by decide)]
  · rw [if_neg (by decide), if_pos (by decide)]
  · rw [if_neg (by decide), if_neg (by decide), if_pos (by decide)]
  · rw [if_neg (by decide), if_neg (by decide), if_neg (by decide), if_pos (by decide)]
  · rw [if_neg (by decide), if_neg (by decide), if_neg (by decide), if_neg (by decide), if_pos (by decide)]
theorem esc_uni (r : Nat) (hr : r ≤ 1114111) (hs : ¬ (55296 ≤ r ∧ r ≤ 57343)) (h6 : (hexN r).length ≤ 6) (rest : List UInt8) : escS ([92, 117, 123] ++ hexN r ++ [125] ++ rest) 0 = (4 + (hexN r).length, utfL r) := by
  obtain ⟨X, hX⟩ : ∃ X, [92, 117, 123] ++ hexN r ++ [125] ++ rest = X := ⟨_, rfl⟩
  have hX2 : X = 92 :: 117 :: 123 :: (hexN r ++ 125 :: rest) := by rw [← hX]; simp
  have hl1 : 1 ≤ (hexN r).length := by rw [hexN]; split <;> simp
  have hlen : X.length = 3 + (hexN r).length + 1 + rest.length := by rw [← hX]; simp; omega
  rw [hX]
  have hd : X.drop (0 + 3) = hexN r ++ 125 :: rest := by rw [hX2]; rfl
  have hrun : hexRun 6 (X.drop (0 + 3)) 0 = ((hexN r).length, r) := by
    rw [hd, hexRun_hexN r 6 0 _ h6, hexRun_brace]
    simp
  have hb : bt X (0 + 3 + (hexN r).length) = 125 := by
    have h := bt_shift ([92, 117, 123] ++ hexN r) ([125] ++ rest) 0
    rw [← List.append_assoc, hX] at h
    have e : 0 + 3 + (hexN r).length = ([92, 117, 123] ++ hexN r : List UInt8).length + 0 := by simp; omega
    rw [e, h]
    rfl
  have hbr : brS X 0 = (4 + (hexN r).length, r) := by
    unfold brS
    rw [hrun, if_neg (by rw [show bt X (0 + 2) = 123 by rw [hX2]; rfl]; simp; omega)]
    simp only
    rw [hb, if_neg (by omega)]
  unfold escS
  have b1 : bt X (0 + 1) = 117 := by rw [hX2]; rfl
  rw [b1, if_neg (by omega), if_neg (by decide), if_neg (by decide), if_neg (by decide), if_neg (by decide), if_neg (by decide), if_neg (by decide), if_pos rfl, hbr, if_pos (by simp only; omega)]
theorem uns_bounds {r : Nat} (h : unsN r = true) : 128 ≤ r ∧ r ≤ 65279 ∧ ¬ (55296 ≤ r ∧ r ≤ 57343) := by
  have := of_decide_eq_true h
  omega
theorem hexN_4 (r : Nat) (h : r < 65536) : (hexN r).length ≤ 4 := by
  have step : ∀ k m, m < 16 ^ (k + 1) → (hexN m).length ≤ k + 1 := by
    intro k
    induction k with
    | zero => intro m hm; rw [hexN, if_pos (by omega)]; simp
    | succ k ih =>
      intro m hm
      rw [hexN]
      split
      · simp
      · have := ih (m / 16) (by rw [Nat.pow_succ] at hm; omega)
        rw [List.length_append, List.length_singleton]
        omega
  exact step 3 r (by omega)
theorem own_byte (l : List UInt8) (i : Nat) (h : i < l.length) (h1 : (dc l i).2 = 1) : own l i = [UInt8.ofNat (bt l i)] := by
  unfold own bt
  rw [h1, getD_drop h]
  simp
/-- how a character is told is read as the character -/
theorem ins_piece (s : List UInt8) (i : Nat) (h : i < s.length) (P rest said : List UInt8) : insS (P ++ (pcS s i ++ rest)) P.length said = insS (P ++ (pcS s i ++ rest)) (P.length + (pcS s i).length) (said ++ own s i) := by
  have hap := pcS_ap s i h
  by_cases hlo : lo1 s i = true
  · have hd : dc s i = (65533, 1) := of_decide_eq_true hlo
    have hp : pcS s i = looS (bt s i) := by unfold pcS; rw [if_pos hlo]
    rw [hp, own_byte s i h (by rw [hd])]
    exact ins_esc P _ said 4 _ (by simp [looS]) rfl (esc_loo _ (bt_lt s i) rest) (by decide)
  · have hlo : lo1 s i = false := by simpa using hlo
    have hc : chr s i = ((dc s i).1 : Int) := by unfold chr; rw [if_pos h, if_neg (by rw [hlo]; decide)]
    have key : ∀ k : Nat, k < 128 → chr s i = (k : Int) → own s i = [UInt8.ofNat k] := fun k hk e => by
      have := (chr_asc s i k hk).1 e
      rw [own_byte s i h (by rw [dc_asc (by omega)]), this.2]
    unfold apT shL at hap
    by_cases g34 : chr s i = 34
    · rw [if_pos g34] at hap
      rw [hap, key 34 (by decide) g34]
      exact ins_esc P _ said 2 _ (by simp) rfl (esc_sh2 34 34 rest (.inl ⟨rfl, rfl⟩)) (by decide)
    rw [if_neg g34] at hap
    by_cases g92 : chr s i = 92
    · rw [if_pos g92] at hap
      rw [hap, key 92 (by decide) g92]
      exact ins_esc P _ said 2 _ (by simp) rfl (esc_sh2 92 92 rest (.inr (.inl ⟨rfl, rfl⟩))) (by decide)
    rw [if_neg g92] at hap
    by_cases g10 : chr s i = 10
    · rw [if_pos g10] at hap
      rw [hap, key 10 (by decide) g10]
      exact ins_esc P _ said 2 _ (by simp) rfl (esc_sh2 110 10 rest (.inr (.inr (.inl ⟨rfl, rfl⟩)))) (by decide)
    rw [if_neg g10] at hap
    by_cases g13 : chr s i = 13
    · rw [if_pos g13] at hap
      rw [hap, key 13 (by decide) g13]
      exact ins_esc P _ said 2 _ (by simp) rfl (esc_sh2 114 13 rest (.inr (.inr (.inr (.inl ⟨rfl, rfl⟩))))) (by decide)
    rw [if_neg g13] at hap
    by_cases g9 : chr s i = 9
    · rw [if_pos g9] at hap
      rw [hap, key 9 (by decide) g9]
      exact ins_esc P _ said 2 _ (by simp) rfl (esc_sh2 116 9 rest (.inr (.inr (.inr (.inr ⟨rfl, rfl⟩))))) (by decide)
    rw [if_neg g9] at hap
    simp only at hap
    by_cases gb : chr s i < 32 ∨ chr s i = 127
    · rw [if_pos gb] at hap
      have hb : bt s i < 128 := Classical.byContradiction (fun hn => by have := dc_big hn; omega)
      rw [hap, own_byte s i h (by rw [dc_asc hb])]
      exact ins_esc P _ said 4 _ (by simp [looS]) rfl (esc_loo _ (bt_lt s i) rest) (by decide)
    rw [if_neg gb, hc, Int.toNat_natCast] at hap
    have ht := take_own s i h hlo
    by_cases gu : unsN (dc s i).1 = true
    · rw [if_pos gu] at hap
      obtain ⟨u1, u2, u3⟩ := uns_bounds gu
      have h4 := hexN_4 (dc s i).1 (by omega)
      have hutf : utfL (dc s i).1 = own s i := byteCells_inj (by rw [← utf_cells _ (by omega) u3, ht]; rfl)
      have he := esc_uni (dc s i).1 (by omega) u3 (by omega) rest
      rw [hutf] at he
      have hl : (pcS s i).length = 4 + (hexN (dc s i).1).length := by rw [hap]; simp; omega
      rw [hl]
      rw [hap]
      exact ins_esc P _ said _ _ (by simp) rfl he (by omega)
    · rw [if_neg gu] at hap
      have henc : Lib.encodeRune ((dc s i).1 : Int) = own s i := byteCells_inj (by rw [Lib.byteCells_encodeRune, ht]; rfl)
      rw [henc] at hap
      have hol := own_len s i h
      have hp := dc_pos s i
      rw [hap, hol]
      have hdc := dc_same s i P rest h hlo
      have hb0 := bt_own s i rest h 0 (by omega)
      have hb1 := bt_shift P (own s i ++ rest) 0
      rw [Nat.add_zero] at hb1
      rw [hb0, Nat.add_zero] at hb1
      have hlo2 : lo1 (P ++ (own s i ++ rest)) P.length = false := by
        unfold lo1 at hlo ⊢
        rw [hdc]
        exact hlo
      have n34 : bt s i ≠ 34 := fun e => g34 ((chr_asc s i 34 (by decide)).2 ⟨h, e⟩)
      have n92 : bt s i ≠ 92 := fun e => g92 ((chr_asc s i 92 (by decide)).2 ⟨h, e⟩)
      have nb : ¬ (lo1 (P ++ (own s i ++ rest)) P.length = true ∨ bt s i < 32 ∨ bt s i = 127) := by
        rintro (e | e | e)
        · rw [hlo2] at e; cases e
        · exact gb (.inl (by have := (chr_asc s i (bt s i) (by omega)).2 ⟨h, rfl⟩; omega))
        · exact gb (.inr ((chr_asc s i 127 (by decide)).2 ⟨h, e⟩))
      rw [insS, if_pos (by rw [List.length_append, List.length_append]; omega), hb1, if_neg n34, if_neg n92, if_neg nb, hdc]
      have hd0 := drop_shift P (own s i ++ rest) 0
      rw [Nat.add_zero, List.drop_zero] at hd0
      rw [hd0, ← hol, List.take_left]
end Go.Proofs.YtppmncmhokkfdaaDoor

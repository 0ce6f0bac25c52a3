import Derived.Test.YtmblloddhpcdeacC1
import Derived.Deep.RegionHeld3
namespace Go.Proofs.Ytmblloddhpcdeac
open Go.RowKit

theorem written_D (a b : ByteArray) (M : List UInt8) (w : World) (hl : a.size ≤ 256) (hz : a.size = b.size) (h : wrT a.data.toList b.data.toList = M) :
    Calls Try.prog 14 #[.string a, .string b] w fun e w' => e = .returned (.string ⟨M.toArray⟩) ∧ Below w.heap.size w w' := by
  subst h; exact written_any a b w hl hz

theorem quiet_lit2 {P : Program} {id : Nat} {Q : Exit → Act → World → Prop} {a : Act} {w : World} {l : List Oper} {C : World → Prop} (hm : P.follows .mixedOrders = true) (hB : Region.lexB .any l.toArray = true) (hC : C w.drew)
    (h : wpQuiet P l.toArray C (fun a' => ∀ w', C w' → Q .normal a' w') l a) : (Code.region id l.toArray true).wp P Q a w :=
  wp_region_quiet (C := C) hm hB hC (by simpa using h)

/-- the worlds in which the cube F lies at f, and v owns the bytes G -/
def imC (f : Nat) (F G : List UInt8) (v : Value) (w W : World) : Prop :=
  (∀ j, W.cell? ⟨f, j, none⟩ = (#[.int .i64 (F.length : Int), .int .u64 (FW F 0 : Int), .int .u64 (FW F 1 : Int), .int .u64 (FW F 2 : Int), .int .u64 (FW F 3 : Int), .int .u64 (OW F 0 : Int), .int .u64 (OW F 1 : Int), .int .u64 (OW F 2 : Int), .int .u64 (OW F 3 : Int)] : Array Value)[j]?) ∧ f < W.heap.size ∧ W.ownsRow w.heap.size 5 1 v G.length (bys G) ∧ Below w.heap.size w W
theorem imC.keep {f : Nat} {F G : List UInt8} {v : Value} {w W w' : World} (h : imC f F G v w W) (hb : Below W.heap.size W w') : imC f F G v w w' :=
  ⟨fun j => (hb.cell (p := ⟨f, j, none⟩) h.2.1).trans (h.1 j), Nat.lt_of_lt_of_le h.2.1 hb.size, owns_below h.2.2.1 hb, bel0 h.2.2.2 hb⟩

theorem app_keep {wr w1 : World} {B : Nat} {o : Obj} {f : Nat} {size : Nat} {v : Value} {n : Nat} {xs : List Value} {cs : Array Value} (kF : wr.heap[f]? = some (.cells cs 26 (0, 0))) (hown : wr.ownsRow B 5 size v n xs) (hg : (wr.alloc o).grownBy w1 v.ownBlock) : w1.heap[f]? = some (.cells cs 26 (0, 0)) := by
  have hlt := lt_of_get kF
  have hne : some f ≠ v.ownBlock := by
    rcases hown.2 with ⟨rfl, _⟩ | ⟨g, cap, cur, rfl, _, hh, _⟩
    · simp [Value.ownBlock]
    · intro e
      simp [Value.ownBlock] at e
      subst e
      rw [kF] at hh
      simp at hh
  rw [hg.block f (by simp; omega) hne, Below.heap_alloc _ _ _ hlt]
  exact kF

set_option maxRecDepth 100000 in
set_option maxHeartbeats 4000000 in
theorem ternImages_on (t r h : ByteArray) (T R : List UInt8) (ET ER : Int) (w : World) (ht : t.size ≤ maxLen) (hr : r.size ≤ maxLen) (hh : h.size ≤ maxLen)
    (hT0 : cubeT t.data.toList = T) (hR0 : cubeT r.data.toList = R) (hET0 : refP t.data.toList = ET) (hER0 : refP r.data.toList = ER) (B F U G Z : List UInt8) (q b1 e1 b2 b3 : Bool)
    (hqt0 : cubB t.data.toList = true) (hqr0 : cubB r.data.toList = true) (hqh0 : (hdB h.data.toList && ((h.size : Int) == (t.size : Int))) = true)
    (gT : good T = true) (gB : good B = true) (gF : good F = true) (htl : t.size ≤ 256) (hhl : h.size ≤ 256) (hz0 : h.size = t.size) (hzr0 : h.size = r.size) (hUl0 : U.length = t.size) (hGl0 : G.length = h.size)
    (hU0 : wrT h.data.toList r.data.toList = U) (hB0 : beT T R = B) (hq0 : agB T R = q) (h10 : hasB B h.data.toList = b1) (he10 : hoB t.data.toList U = e1) (hm0 : e1 = (q && b1))
    (hF0 : wtT T R = F) (h20 : hoB t.data.toList h.data.toList = b2) (h2F0 : b2 = true → hasB F U = true) (hG0 : meetT t.data.toList h.data.toList = G) (hZ0 : wrT G r.data.toList = Z)
    (h30 : hasB F h.data.toList = b3) (hZ30 : (Z == h.toList) = b3) (e2 : ((t.size : Int) != (r.size : Int)) = false) :
    Calls Try.prog 3 #[.string t, .string r, .string h] w fun e w' => e = .returned (.bool true) ∧ Below w.heap.size w w' := by
  have hT : Hid (cubeT t.data.toList = T) := hT0
  have hR : Hid (cubeT r.data.toList = R) := hR0
  have hET : Hid (refP t.data.toList = ET) := hET0
  have hER : Hid (refP r.data.toList = ER) := hER0
  clear hT0 hR0 hET0 hER0
  have hqt : Hid (cubB t.data.toList = true) := hqt0
  have hqr : Hid (cubB r.data.toList = true) := hqr0
  have hqh : Hid ((hdB h.data.toList && ((h.size : Int) == (t.size : Int))) = true) := hqh0
  have hz : Hid (h.size = t.size) := hz0
  have hzr : Hid (h.size = r.size) := hzr0
  have hUl : Hid (U.length = t.size) := hUl0
  have hGl : Hid (G.length = h.size) := hGl0
  have hU : Hid (wrT h.data.toList r.data.toList = U) := hU0
  have hBT : Hid (beT T R = B) := hB0
  have hq : Hid (agB T R = q) := hq0
  have h1 : Hid (hasB B h.data.toList = b1) := h10
  have he1 : Hid (hoB t.data.toList U = e1) := he10
  have hm : Hid (e1 = (q && b1)) := hm0
  have hF : Hid (wtT T R = F) := hF0
  have h2 : Hid (hoB t.data.toList h.data.toList = b2) := h20
  have h2F : Hid (b2 = true → hasB F U = true) := h2F0
  have hG : Hid (meetT t.data.toList h.data.toList = G) := hG0
  have hZ : Hid (wrT G r.data.toList = Z) := hZ0
  have h3 : Hid (hasB F h.data.toList = b3) := h30
  clear hqt0 hqr0 hqh0 hz0 hzr0 hUl0 hGl0 hU0 hB0 hq0 h10 he10 hm0 hF0 h20 h2F0 hG0 hZ0 h30
  have hUm : Hid ((⟨U.toArray⟩ : ByteArray).size ≤ maxLen) := by unfold Hid; show U.toArray.size ≤ _; simp; rw [hUl.out]; unfold maxLen; omega
  have hGm : Hid ((⟨G.toArray⟩ : ByteArray).size ≤ 256) := by unfold Hid; show G.toArray.size ≤ _; simp; rw [hGl.out]; exact hhl
  have hGz : Hid ((⟨G.toArray⟩ : ByteArray).size = r.size) := by unfold Hid; show G.toArray.size = _; simp; rw [hGl.out]; exact hzr.out
  have hUz : Hid (t.size = (⟨U.toArray⟩ : ByteArray).size) := by unfold Hid; show _ = U.toArray.size; simp; exact hUl.out.symm
  obtain ⟨i0, hi, hz0, hz1, hz2⟩ := info_parts info_u8
  unfold maxLen at ht hr hh
  go_enter Try.func3, Try.ntmps3
  go_wp2_with fail
  refine (parse_D t _ ht T ET hT.out hET.out).mono ?_
  rintro e w1 ⟨rfl, hb1⟩
  have B1 := hb1
  unfold cubeV cv
  go_wp2_with fail
  refine (parse_D r _ hr R ER hR.out hER.out).mono ?_
  rintro e w2 ⟨rfl, hb2⟩
  have kX : w2.heap[w1.heap.size]? = some (.cells (#[.int .i64 (T.length : Int), .int .u64 (FW T 0 : Int), .int .u64 (FW T 1 : Int), .int .u64 (FW T 2 : Int), .int .u64 (FW T 3 : Int), .int .u64 (OW T 0 : Int), .int .u64 (OW T 1 : Int), .int .u64 (OW T 2 : Int), .int .u64 (OW T 3 : Int)]) 26 (0, 0)) := keepblk hb2 (alloc_get _ _)
  have cX_2 := (cells_block kX).1
  have zX_2 := lt_of_get kX
  have B2 := bel0 (belA B1 _) hb2
  unfold cubeV cv
  go_wp2_with fail
  refine (cube_D t true _ ht hqt.out).mono ?_
  rintro e w' ⟨rfl, rfl⟩
  go_wp2_with fail
  refine (cube_D r true _ hr hqr.out).mono ?_
  rintro e w' ⟨rfl, rfl⟩
  go_wp2_with fail
  refine (header_D h _ true _ hh hqh.out).mono ?_
  rintro e w' ⟨rfl, rfl⟩
  go_wp2_with fail
  refine (written_D h r U _ hhl hzr.out hU.out).mono ?_
  rintro e w3 ⟨rfl, hb3⟩
  replace kX := keepblk hb3 (allocblk kX _)
  have kY : w3.heap[w2.heap.size]? = some (.cells (#[.int .i64 (R.length : Int), .int .u64 (FW R 0 : Int), .int .u64 (FW R 1 : Int), .int .u64 (FW R 2 : Int), .int .u64 (FW R 3 : Int), .int .u64 (OW R 0 : Int), .int .u64 (OW R 1 : Int), .int .u64 (OW R 2 : Int), .int .u64 (OW R 3 : Int)]) 26 (0, 0)) := keepblk hb3 (alloc_get _ _)
  have cX_3 := (cells_block kX).1
  have zX_3 := lt_of_get kX
  have cY_3 := (cells_block kY).1
  have zY_3 := lt_of_get kY
  have B3 := bel0 (belA B2 _) hb3
  go_wp2_with fail
  refine (before_D T R B q _ gT hBT.out hq.out).mono ?_
  rintro e w4 ⟨rfl, hb4⟩
  replace kX := keepblk hb4 kX
  replace kY := keepblk hb4 kY
  have cX_4 := (cells_block kX).1
  have zX_4 := lt_of_get kX
  have cY_4 := (cells_block kY).1
  have zY_4 := lt_of_get kY
  have B4 := bel0 (B3) hb4
  unfold cubeV cv
  replace kX := allocblk kX (.cells #[.int .i64 (B.length : Int), .int .u64 (FW B 0 : Int), .int .u64 (FW B 1 : Int), .int .u64 (FW B 2 : Int), .int .u64 (FW B 3 : Int), .int .u64 (OW B 0 : Int), .int .u64 (OW B 1 : Int), .int .u64 (OW B 2 : Int), .int .u64 (OW B 3 : Int)] 26)
  replace kY := allocblk kY (.cells #[.int .i64 (B.length : Int), .int .u64 (FW B 0 : Int), .int .u64 (FW B 1 : Int), .int .u64 (FW B 2 : Int), .int .u64 (FW B 3 : Int), .int .u64 (OW B 0 : Int), .int .u64 (OW B 1 : Int), .int .u64 (OW B 2 : Int), .int .u64 (OW B 3 : Int)] 26)
  have kB : (w4.alloc (.cells #[.int .i64 (B.length : Int), .int .u64 (FW B 0 : Int), .int .u64 (FW B 1 : Int), .int .u64 (FW B 2 : Int), .int .u64 (FW B 3 : Int), .int .u64 (OW B 0 : Int), .int .u64 (OW B 1 : Int), .int .u64 (OW B 2 : Int), .int .u64 (OW B 3 : Int)] 26)).heap[w4.heap.size]? = some (.cells (#[.int .i64 (B.length : Int), .int .u64 (FW B 0 : Int), .int .u64 (FW B 1 : Int), .int .u64 (FW B 2 : Int), .int .u64 (FW B 3 : Int), .int .u64 (OW B 0 : Int), .int .u64 (OW B 1 : Int), .int .u64 (OW B 2 : Int), .int .u64 (OW B 3 : Int)]) 26 (0, 0)) := alloc_get _ _
  have BB := belA B4 (.cells #[.int .i64 (B.length : Int), .int .u64 (FW B 0 : Int), .int .u64 (FW B 1 : Int), .int .u64 (FW B 2 : Int), .int .u64 (FW B 3 : Int), .int .u64 (OW B 0 : Int), .int .u64 (OW B 1 : Int), .int .u64 (OW B 2 : Int), .int .u64 (OW B 3 : Int)] 26)
  have cB := (cells_block kB).1
  go_upto_region 7 with fail
  go_cut [70] (fun s wc => s = .bool false ∧ wc.heap[w1.heap.size]? = some (.cells (#[.int .i64 (T.length : Int), .int .u64 (FW T 0 : Int), .int .u64 (FW T 1 : Int), .int .u64 (FW T 2 : Int), .int .u64 (FW T 3 : Int), .int .u64 (OW T 0 : Int), .int .u64 (OW T 1 : Int), .int .u64 (OW T 2 : Int), .int .u64 (OW T 3 : Int)]) 26 (0, 0)) ∧ wc.heap[w2.heap.size]? = some (.cells (#[.int .i64 (R.length : Int), .int .u64 (FW R 0 : Int), .int .u64 (FW R 1 : Int), .int .u64 (FW R 2 : Int), .int .u64 (FW R 3 : Int), .int .u64 (OW R 0 : Int), .int .u64 (OW R 1 : Int), .int .u64 (OW R 2 : Int), .int .u64 (OW R 3 : Int)]) 26 (0, 0)) ∧ Below w.heap.size w wc)
  case first =>
    cases q
    · obtain rfl : e1 = false := hm.out
      go_wp2_with fail
      refine (holds_D t ⟨U.toArray⟩ false _ htl hUz.out he1.out).mono ?_
      rintro e wU ⟨rfl, hbU⟩
      replace kX := keepblk hbU kX
      replace kY := keepblk hbU kY
      go_wp2_with fail
      go_meet
      exact ⟨rfl, kX, kY, bel0 BB hbU⟩
    · obtain rfl : e1 = b1 := hm.out
      go_wp2_with fail
      refine (has_D B h e1 _ gB hh h1.out).mono ?_
      rintro e wV ⟨rfl, hbV⟩
      replace kX := keepblk hbV kX
      replace kY := keepblk hbV kY
      go_wp2_with fail
      refine (holds_D t ⟨U.toArray⟩ e1 _ htl hUz.out he1.out).mono ?_
      rintro e wU ⟨rfl, hbU⟩
      replace kX := keepblk hbU kX
      replace kY := keepblk hbU kY
      have ee : (e1 != e1) = false := by simp
      go_wp2_with fail
      go_meet
      exact ⟨rfl, kX, kY, bel0 (bel0 BB hbV) hbU⟩
  case rest =>
    clear kX kY kB cB BB cX_2 zX_2 cX_3 zX_3 cY_3 zY_3 cX_4 zX_4 cY_4 zY_4 hb1 hb2 hb3 hb4 B1 B2 B3 B4
    obtain ⟨rfl, kX, kY, BB⟩ := hcut
    have cX := (cells_block kX).1
    have cY := (cells_block kY).1
    go_wp2_with fail
    refine (write_D T R F _ hF.out).mono ?_
    rintro e wF ⟨rfl, hbF⟩
    unfold cubeV cv
    have BF := belA (bel0 BB hbF) (.cells #[.int .i64 (F.length : Int), .int .u64 (FW F 0 : Int), .int .u64 (FW F 1 : Int), .int .u64 (FW F 2 : Int), .int .u64 (FW F 3 : Int), .int .u64 (OW F 0 : Int), .int .u64 (OW F 1 : Int), .int .u64 (OW F 2 : Int), .int .u64 (OW F 3 : Int)] 26)
    have kF : (wF.alloc (.cells #[.int .i64 (F.length : Int), .int .u64 (FW F 0 : Int), .int .u64 (FW F 1 : Int), .int .u64 (FW F 2 : Int), .int .u64 (FW F 3 : Int), .int .u64 (OW F 0 : Int), .int .u64 (OW F 1 : Int), .int .u64 (OW F 2 : Int), .int .u64 (OW F 3 : Int)] 26)).heap[wF.heap.size]? = some (.cells (#[.int .i64 (F.length : Int), .int .u64 (FW F 0 : Int), .int .u64 (FW F 1 : Int), .int .u64 (FW F 2 : Int), .int .u64 (FW F 3 : Int), .int .u64 (OW F 0 : Int), .int .u64 (OW F 1 : Int), .int .u64 (OW F 2 : Int), .int .u64 (OW F 3 : Int)]) 26 (0, 0)) := alloc_get _ _
    clear kX kY cX cY hbF BB
    go_upto_region 10 with fail
    go_cut [82] (fun s wc => s = .bool false ∧ wc.heap[wF.heap.size]? = some (.cells (#[.int .i64 (F.length : Int), .int .u64 (FW F 0 : Int), .int .u64 (FW F 1 : Int), .int .u64 (FW F 2 : Int), .int .u64 (FW F 3 : Int), .int .u64 (OW F 0 : Int), .int .u64 (OW F 1 : Int), .int .u64 (OW F 2 : Int), .int .u64 (OW F 3 : Int)]) 26 (0, 0)) ∧ Below w.heap.size w wc)
    case first =>
      go_wp2_with fail
      refine (holds_D t h b2 _ htl hz.out.symm h2.out).mono ?_
      rintro e wU ⟨rfl, hbU⟩
      replace kF := keepblk hbU kF
      have cF := (cells_block kF).1
      cases b2
      · go_wp2_with fail
        go_meet
        exact ⟨rfl, kF, bel0 BF hbU⟩
      · go_wp2_with fail
        refine (has_D F ⟨U.toArray⟩ true _ gF hUm.out (by first | exact h2F.out rfl | exact h2F.out trivial)).mono ?_
        rintro e wV ⟨rfl, hbV⟩
        replace kF := keepblk hbV kF
        go_wp2_with fail
        go_meet
        exact ⟨rfl, kF, bel0 (bel0 BF hbU) hbV⟩
    case rest =>
      clear kF BF
      obtain ⟨rfl, kF, BF⟩ := hcut
      go_wp2
      go_loopw [15, 16] (fun v i wr => ∃ k : Nat, k ≤ h.size ∧ i = .int .i64 k ∧ wr.ownsRow w.heap.size 5 1 v k (bys ((meetT t.data.toList h.data.toList).take k)) ∧ wr.heap[wF.heap.size]? = some (.cells (#[.int .i64 (F.length : Int), .int .u64 (FW F 0 : Int), .int .u64 (FW F 1 : Int), .int .u64 (FW F 2 : Int), .int .u64 (FW F 3 : Int), .int .u64 (OW F 0 : Int), .int .u64 (OW F 1 : Int), .int .u64 (OW F 2 : Int), .int .u64 (OW F 3 : Int)]) 26 (0, 0)) ∧ Below w.heap.size w wr) (fun _ i _ => h.size - (intOf i).toNat)
      case atStart => exact ⟨0, Nat.zero_le _, rfl, World.ownsRow_nil _ _ _ _, kF, BF⟩
      case round =>
        clear kF BF
        obtain ⟨k, hk, rfl, hown, kF, hB⟩ := hrel
        by_cases hlt : k < h.size
        · have hkt : k < t.size := by rw [← hz.out]; exact hlt
          have i0' : (0 : Int) ≤ (k : Int) := by omega
          have i1 : (k : Int) < (t.size : Int) := by omega
          have i2 : (k : Int) < (h.size : Int) := by omega
          obtain ⟨p2, n2⟩ : ∃ p, ((t[k].toNat : Int) == 120) = p := ⟨_, rfl⟩
          have M2 : Hid ((t[k] == 120) = p2) := by
            unfold Hid
            have := byte_bne t[k] 120 (by decide)
            unfold bne at this
            rw [← n2]
            exact (Bool.not_inj this).symm
          cases p2
          · go_wp2_with (at_builtin; refine wpList_append_own _ rfl _ _ 39 rfl w.heap.size 5 i0 (.int .u8 0) 1 1 Try.underlying39 hi hz0 hz1 hz2 rfl (by decide) _ _ _ rfl (hown.alloc _) ⟨wr.heap.size, 0, none⟩ 1 1 [.int .u8 (t[k].toNat : Int)] rfl rfl (cell_one_new _ _ _) (by simp [Value.oneCell']) (by unfold maxLen; omega) (by omega) (by have := hB.size; simp; omega) ?_; intro v' w1 hown' hgrow _)
            have kF1 := app_keep kF hown hgrow
            go_roundw
            case rel => exact ⟨k + 1, by omega, by go_num, own_snoc2 (f := fun x y => if x == 120 then y else x) hz.out.symm hkt (by show (if (t[k] == 120) = true then h[k] else t[k]) = t[k]; rw [M2.out]; rfl) hown', kF1, bel_app hB hown hgrow⟩
            case measure => simp [intOf]; omega
          · go_wp2_with (at_builtin; refine wpList_append_own _ rfl _ _ 39 rfl w.heap.size 5 i0 (.int .u8 0) 1 1 Try.underlying39 hi hz0 hz1 hz2 rfl (by decide) _ _ _ rfl (hown.alloc _) ⟨wr.heap.size, 0, none⟩ 1 1 [.int .u8 (h[k].toNat : Int)] rfl rfl (cell_one_new _ _ _) (by simp [Value.oneCell']) (by unfold maxLen; omega) (by omega) (by have := hB.size; simp; omega) ?_; intro v' w1 hown' hgrow _)
            have kF1 := app_keep kF hown hgrow
            go_roundw
            case rel => exact ⟨k + 1, by omega, by go_num, own_snoc2 (f := fun x y => if x == 120 then y else x) hz.out.symm hkt (by show (if (t[k] == 120) = true then h[k] else t[k]) = h[k]; rw [M2.out]; rfl) hown', kF1, bel_app hB hown hgrow⟩
            case measure => simp [intOf]; omega
        · have hkn : k = h.size := by omega
          have hTk : (meetT t.data.toList h.data.toList).take k = G := by
            rw [hG.out]
            apply List.take_of_length_le
            rw [hGl.out]; omega
          rw [hTk] at hown
          have hown : wr.ownsRow w.heap.size 5 1 u15 G.length (bys G) := by rw [hGl.out, ← hkn]; exact hown
          have bb : (b3 == b3) = true := by simp
          go_wp2
          refine quiet_lit2 (C := imC wF.heap.size F G u15 w) (by kernel_rfl) (by kernel_rfl) ⟨(cells_block kF).1, lt_of_get kF, hown, hB.drew⟩ ?_
          go_big_quiet_want
          refine ⟨.agg #[.int .i64 (F.length : Int), .int .u64 (FW F 0 : Int), .int .u64 (FW F 1 : Int), .int .u64 (FW F 2 : Int), .int .u64 (FW F 3 : Int), .int .u64 (OW F 0 : Int), .int .u64 (OW F 1 : Int), .int .u64 (OW F 2 : Int), .int .u64 (OW F 3 : Int)], fun W hW => ?_, ?_⟩
          · have hx := hW.1
            go_simp
          go_big_quiet_on
          simp only [Act.put, List.setIfInBounds_toArray, List.set_cons_zero, List.set_cons_succ]
          go_big_quiet_want
          go_big_quiet_op
          go_big_quiet_on
          go_big_quiet_want
          refine ⟨.bool b3, fun W hW => ?_, ?_⟩
          · go_simp
            refine (has_D F h b3 _ gF hh h3.out).mono ?_
            rintro e w' ⟨rfl, hb⟩
            exact ⟨rfl, hW.keep hb⟩
          go_big_quiet_on
          simp only [Act.put, List.setIfInBounds_toArray, List.set_cons_zero, List.set_cons_succ]
          go_big_quiet_want
          go_big_quiet_op
          go_big_quiet_on
          go_big_quiet_want
          refine ⟨.string ⟨G.toArray⟩, fun W hW => ?_, ?_⟩
          · have hx := conv_any W _ _ G hW.2.2.1
            go_simp
          go_big_quiet_on
          simp only [Act.put, List.setIfInBounds_toArray, List.set_cons_zero, List.set_cons_succ]
          go_big_quiet_want
          go_big_quiet_op
          go_big_quiet_on
          go_big_quiet_want
          refine ⟨.string ⟨Z.toArray⟩, fun W hW => ?_, ?_⟩
          · go_simp
            refine (written_D ⟨G.toArray⟩ r Z _ hGm.out hGz.out hZ.out).mono ?_
            rintro e w' ⟨rfl, hb⟩
            exact ⟨rfl, hW.keep hb⟩
          go_big_quiet_on
          simp only [Act.put, List.setIfInBounds_toArray, List.set_cons_zero, List.set_cons_succ]
          go_big_quiet_want
          go_big_quiet_op
          go_big_quiet_on
          go_big_quiet_want
          refine ⟨.bool b3, fun W hW => ?_, ?_⟩
          · go_simp
          go_big_quiet_on
          simp only [Act.put, List.setIfInBounds_toArray, List.set_cons_zero, List.set_cons_succ]
          go_big_quiet_want
          refine ⟨.bool true, fun W hW => ?_, ?_⟩
          · go_simp
          go_big_quiet_on
          simp only [Act.put, List.setIfInBounds_toArray, List.set_cons_zero, List.set_cons_succ]
          go_big_quiet_want
          go_big_quiet_op
          go_big_quiet_on
          refine wpQuiet_nil ?_
          intro W hW
          go_wp2
          go_ret
          exact ⟨rfl, hW.2.2.2⟩
end Go.Proofs.Ytmblloddhpcdeac

import Derived.Test.YtdgglglemdbgcaaM8
import Derived.Test.YtdgglglemdbgcaaW19
import Derived.Test.YtdgglglemdbgcaaW13
import Derived.Deep.DeepCutAuto
import Derived.Deep.AppendLies
import Derived.BigQuiet
namespace Go.Proofs.Ytdgglglemdbgcaa
open Go.RowKit

/-- the cubes of the texts -/
def cubL (l : List ByteArray) : List (List UInt8) := l.map (fun s => cubeT s.data.toList)
/-- every text is a cube's, as wide as t -/
def okL (t : ByteArray) (l : List ByteArray) : Bool := l.all (fun s => cubB s.data.toList && ((s.size : Int) == (t.size : Int)))

theorem infoC : (Try.prog.info? 26).map (fun i => (i.zero, i.size, i.bytes)) = some (some (.agg #[.int .i64 0, .int .u64 0, .int .u64 0, .int .u64 0, .int .u64 0, .int .u64 0, .int .u64 0, .int .u64 0, .int .u64 0]), 9, 72) := by kernel_rfl
theorem alloc2_new (w : World) (o1 o2 : Obj) : ((w.alloc o1).alloc o2).heap[w.heap.size + 1]? = some o2 := by
  have := alloc_get (w.alloc o1) o2
  simpa using this
theorem growblk3 {W w' : World} {row : Option Nat} {b : Nat} {o : Obj} (hg : W.grownBy w' row) (h : W.heap[b]? = some o) (hne : some b ≠ row) : w'.heap[b]? = some o := (hg.block b (lt_of_get h) hne).trans h
theorem bel_app3 {w wr w1 : World} {o o2 : Obj} {base : Nat} {e : TypeId} {size : Nat} {v : Value} {n : Nat} {xs : List Value} (hB : Below w.heap.size w wr) (hown : wr.ownsRow base e size v n xs) (hg : ((wr.alloc o).alloc o2).grownBy w1 v.ownBlock) (hb : w.heap.size ≤ base) : Below w.heap.size w w1 :=
  (belA (belA hB o) o2).grown hg (belA (belA hB o) o2).size (fun k h => Nat.le_trans hb (hown.lt k h).1)
theorem quiet_lit4 {P : Program} {id : Nat} {Q : Exit → Act → World → Prop} {a : Act} {w : World} {l : List Oper} {C : World → Prop} (hm : P.follows .mixedOrders = true) (hB : Region.lexB .any l.toArray = true) (hC : C w.drew)
    (h : wpQuiet P l.toArray C (fun a' => ∀ w', C w' → Q .normal a' w') l a) : (Code.region id l.toArray true).wp P Q a w :=
  wp_region_quiet (C := C) hm hB hC (by simpa using h)
/-- the worlds in which the row, the hull and z stand -/
def lsC (g c B h z : Nat) (L : List (List UInt8)) (H R : List UInt8) (w W : World) : Prop :=
  W.ownsRow B 26 9 (.slice (some ⟨g, 0, none⟩) L.length c) L.length (ces L) ∧ W.heap[h]? = some (.cells (#[.int .i64 (H.length : Int), .int .u64 (FW H 0 : Int), .int .u64 (FW H 1 : Int), .int .u64 (FW H 2 : Int), .int .u64 (FW H 3 : Int), .int .u64 (OW H 0 : Int), .int .u64 (OW H 1 : Int), .int .u64 (OW H 2 : Int), .int .u64 (OW H 3 : Int)]) 26 (0, 0)) ∧ W.heap[z]? = some (.cells (#[.int .i64 (R.length : Int), .int .u64 (FW R 0 : Int), .int .u64 (FW R 1 : Int), .int .u64 (FW R 2 : Int), .int .u64 (FW R 3 : Int), .int .u64 (OW R 0 : Int), .int .u64 (OW R 1 : Int), .int .u64 (OW R 2 : Int), .int .u64 (OW R 3 : Int)]) 26 (0, 0)) ∧ Below w.heap.size w W
theorem lsC.keep {g c B h z : Nat} {L : List (List UInt8)} {H R : List UInt8} {w W w' : World} (hc : lsC g c B h z L H R w W) (hb : Below W.heap.size W w') : lsC g c B h z L H R w w' :=
  ⟨owns_below hc.1 hb, keepblk hb hc.2.1, keepblk hb hc.2.2.1, bel0 hc.2.2.2 hb⟩
theorem getD_at (SL : List ByteArray) (k : Nat) (hk : k < SL.length) : SL[k]? = some (SL.getD k ByteArray.empty) := by simp [List.getElem?_eq_getElem hk]
theorem getD_mem (SL : List ByteArray) (k : Nat) (hk : k < SL.length) : SL.getD k ByteArray.empty ∈ SL := List.mem_of_getElem? (getD_at SL k hk)
theorem cubL_step (SL : List ByteArray) (k : Nat) (hk : k < SL.length) (S : ByteArray) (hS : SL.getD k ByteArray.empty = S) (P : List UInt8) (hP : cubeT S.data.toList = P) : ces (cubL (SL.take (k + 1))) = ces (cubL (SL.take k)) ++ ce9 P := by
  rw [List.take_add_one, getD_at SL k hk, hS, ← hP, ← ces_snoc]
  simp [cubL]
theorem okL_step (t : ByteArray) (SL : List ByteArray) (k : Nat) (hk : k < SL.length) (S : ByteArray) (hS : SL.getD k ByteArray.empty = S) : okL t (SL.take (k + 1)) = (okL t (SL.take k) && (cubB S.data.toList && ((S.size : Int) == (t.size : Int)))) := by
  rw [List.take_add_one, getD_at SL k hk, hS]
  simp [okL]

set_option maxRecDepth 100000 in
set_option maxHeartbeats 2000000 in
theorem least_try (t r : ByteArray) (p : Option Addr) (len cap : Nat) (SL : List ByteArray) (T R : List UInt8) (ET ER : Int) (w : World) (ht : t.size ≤ maxLen) (hr : r.size ≤ maxLen)
    (hT0 : cubeT t.data.toList = T) (hR0 : cubeT r.data.toList = R) (hET0 : refP t.data.toList = ET) (hER0 : refP r.data.toList = ER) (qt qr : Bool) (hqt0 : cubB t.data.toList = qt) (hqr0 : cubB r.data.toList = qr)
    (hlen : SL.length = len) (hlb : len ≤ 1048576) (hcell0 : ∀ i, i < len → ∃ ad, p = some ad ∧ w.cell? (ad.add i) = some (.string (SL.getD i ByteArray.empty))) (hsz0 : ∀ s ∈ SL, s.size ≤ maxLen) (gT : good T = true) (gR : good R = true) (gL0 : ∀ x ∈ cubL SL, good x = true) (O : Option (List UInt8)) (hO0 : hulF T (cubL SL) = O)
    (hm0 : (qt && qr && ((t.size : Int) == (r.size : Int)) && okL t SL) = true → ∃ H, O = some H ∧ good H = true ∧ wiB T H = true ∧ (∀ x ∈ cubL SL, wiB x H = true) ∧ wiB H R = (wiB T R && (cubL SL).all (fun x => wiB x R))) :
    Calls Try.prog 6 #[.string t, .slice p len cap, .string r] w fun e w' => e = .returned (.bool true) ∧ Below w.heap.size w w' := by
  have hT : Hid (cubeT t.data.toList = T) := hT0
  have hR : Hid (cubeT r.data.toList = R) := hR0
  have hET : Hid (refP t.data.toList = ET) := hET0
  have hER : Hid (refP r.data.toList = ER) := hER0
  have hqt : Hid (cubB t.data.toList = qt) := hqt0
  have hqr : Hid (cubB r.data.toList = qr) := hqr0
  have hcell : Hid (∀ i, i < len → ∃ ad, p = some ad ∧ w.cell? (ad.add i) = some (.string (SL.getD i ByteArray.empty))) := hcell0
  have hsz : Hid (∀ s ∈ SL, s.size ≤ maxLen) := hsz0
  have gL : Hid (∀ x ∈ cubL SL, good x = true) := gL0
  have hO : Hid (hulF T (cubL SL) = O) := hO0
  have hm : Hid ((qt && qr && ((t.size : Int) == (r.size : Int)) && okL t SL) = true → ∃ H, O = some H ∧ good H = true ∧ wiB T H = true ∧ (∀ x ∈ cubL SL, wiB x H = true) ∧ wiB H R = (wiB T R && (cubL SL).all (fun x => wiB x R))) := hm0
  clear hT0 hR0 hET0 hER0 hqt0 hqr0 hcell0 hsz0 gL0 hO0 hm0
  unfold maxLen at ht hr
  go_enter Try.func6, Try.ntmps6
  go_wp2_with fail
  refine (parse_D t _ ht T ET hT.out hET.out).mono ?_
  rintro e w1 ⟨rfl, hb1⟩
  have B1 := hb1
  unfold cubeV cv
  go_wp2_with fail
  refine (parse_D r _ hr R ER hR.out hER.out).mono ?_
  rintro e w2 ⟨rfl, hb2⟩
  have kX : w2.heap[w1.heap.size]? = some (.cells (#[.int .i64 (T.length : Int), .int .u64 (FW T 0 : Int), .int .u64 (FW T 1 : Int), .int .u64 (FW T 2 : Int), .int .u64 (FW T 3 : Int), .int .u64 (OW T 0 : Int), .int .u64 (OW T 1 : Int), .int .u64 (OW T 2 : Int), .int .u64 (OW T 3 : Int)]) 26 (0, 0)) := keepblk hb2 (alloc_get _ _)
  have B2 := bel0 (belA B1 _) hb2
  unfold cubeV cv
  have kY : (w2.alloc (.cells #[.int .i64 (R.length : Int), .int .u64 (FW R 0 : Int), .int .u64 (FW R 1 : Int), .int .u64 (FW R 2 : Int), .int .u64 (FW R 3 : Int), .int .u64 (OW R 0 : Int), .int .u64 (OW R 1 : Int), .int .u64 (OW R 2 : Int), .int .u64 (OW R 3 : Int)] 26)).heap[w2.heap.size]? = some (.cells (#[.int .i64 (R.length : Int), .int .u64 (FW R 0 : Int), .int .u64 (FW R 1 : Int), .int .u64 (FW R 2 : Int), .int .u64 (FW R 3 : Int), .int .u64 (OW R 0 : Int), .int .u64 (OW R 1 : Int), .int .u64 (OW R 2 : Int), .int .u64 (OW R 3 : Int)]) 26 (0, 0)) := alloc_get _ _
  replace kX := allocblk kX (.cells #[.int .i64 (R.length : Int), .int .u64 (FW R 0 : Int), .int .u64 (FW R 1 : Int), .int .u64 (FW R 2 : Int), .int .u64 (FW R 3 : Int), .int .u64 (OW R 0 : Int), .int .u64 (OW R 1 : Int), .int .u64 (OW R 2 : Int), .int .u64 (OW R 3 : Int)] 26)
  have BB := belA B2 (.cells #[.int .i64 (R.length : Int), .int .u64 (FW R 0 : Int), .int .u64 (FW R 1 : Int), .int .u64 (FW R 2 : Int), .int .u64 (FW R 3 : Int), .int .u64 (OW R 0 : Int), .int .u64 (OW R 1 : Int), .int .u64 (OW R 2 : Int), .int .u64 (OW R 3 : Int)] 26)
  have hz12 : w1.heap.size < w2.heap.size := by have := hb2.size; simp at this; omega
  have hzw : w.heap.size ≤ w1.heap.size := B1.size
  clear hb1 hb2 B1 B2
  obtain ⟨q3, hq3⟩ : ∃ q, ((t.size : Int) == (r.size : Int)) = q := ⟨_, rfl⟩
  go_upto_region 3 with fail
  go_cut [11] (fun s wc => s = .bool (qt && qr && q3) ∧ wc.heap[w1.heap.size]? = some (.cells (#[.int .i64 (T.length : Int), .int .u64 (FW T 0 : Int), .int .u64 (FW T 1 : Int), .int .u64 (FW T 2 : Int), .int .u64 (FW T 3 : Int), .int .u64 (OW T 0 : Int), .int .u64 (OW T 1 : Int), .int .u64 (OW T 2 : Int), .int .u64 (OW T 3 : Int)]) 26 (0, 0)) ∧ wc.heap[w2.heap.size]? = some (.cells (#[.int .i64 (R.length : Int), .int .u64 (FW R 0 : Int), .int .u64 (FW R 1 : Int), .int .u64 (FW R 2 : Int), .int .u64 (FW R 3 : Int), .int .u64 (OW R 0 : Int), .int .u64 (OW R 1 : Int), .int .u64 (OW R 2 : Int), .int .u64 (OW R 3 : Int)]) 26 (0, 0)) ∧ Below w.heap.size w wc)
  case first =>
    go_wp2_with fail
    refine (cube_D t qt _ ht hqt.out).mono ?_
    rintro e w' ⟨rfl, rfl⟩
    cases qt
    · go_wp2_with fail
      go_meet
      exact ⟨rfl, kX, kY, BB⟩
    · go_wp2_with fail
      refine (cube_D r qr _ hr hqr.out).mono ?_
      rintro e w' ⟨rfl, rfl⟩
      cases qr
      · go_wp2_with fail
        go_meet
        exact ⟨rfl, kX, kY, BB⟩
      · cases q3
        · go_wp2_with fail
          go_meet
          exact ⟨rfl, kX, kY, BB⟩
        · go_wp2_with fail
          go_meet
          exact ⟨rfl, kX, kY, BB⟩
  case rest =>
    clear kX kY BB
    obtain ⟨rfl, kX, kY, BB⟩ := hcut
    obtain ⟨q0, hq0⟩ : ∃ q, (qt && qr && q3) = q := ⟨_, rfl⟩
    rw [hq0]
    go_wp2
    go_loopw [11, 12, 13] (fun f v i wr => ∃ k : Nat, k ≤ len ∧ i = .int .i64 k ∧ f = .bool (q0 && okL t (SL.take k)) ∧ wr.ownsRow (w2.heap.size + 1) 26 9 v k (ces (cubL (SL.take k))) ∧ wr.heap[w1.heap.size]? = some (.cells (#[.int .i64 (T.length : Int), .int .u64 (FW T 0 : Int), .int .u64 (FW T 1 : Int), .int .u64 (FW T 2 : Int), .int .u64 (FW T 3 : Int), .int .u64 (OW T 0 : Int), .int .u64 (OW T 1 : Int), .int .u64 (OW T 2 : Int), .int .u64 (OW T 3 : Int)]) 26 (0, 0)) ∧ wr.heap[w2.heap.size]? = some (.cells (#[.int .i64 (R.length : Int), .int .u64 (FW R 0 : Int), .int .u64 (FW R 1 : Int), .int .u64 (FW R 2 : Int), .int .u64 (FW R 3 : Int), .int .u64 (OW R 0 : Int), .int .u64 (OW R 1 : Int), .int .u64 (OW R 2 : Int), .int .u64 (OW R 3 : Int)]) 26 (0, 0)) ∧ Below w.heap.size w wr) (fun _ _ i _ => len - (intOf i).toNat)
    case atStart => exact ⟨0, Nat.zero_le _, rfl, by simp [okL], World.ownsRow_nil _ _ _ _, kX, kY, BB⟩
    case round =>
      clear kX kY BB
      obtain ⟨k, hk, rfl, rfl, hown, kX, kY, hB⟩ := hrel
      by_cases hlt : k < len
      · have i0 : (0 : Int) ≤ (k : Int) := by omega
        have i1 : (k : Int) < (len : Int) := by omega
        obtain ⟨S, hS⟩ : ∃ S, SL.getD k ByteArray.empty = S := ⟨_, rfl⟩
        obtain ⟨ad, rfl, hc⟩ := hcell.out k hlt
        rw [hS] at hc
        have hsS : S.size ≤ 2 ^ 63 - 1 := hsz.out S (by rw [← hS]; exact getD_mem SL k (by omega))
        have hbk := World.block_lt_of_cell? w _ hc
        have cS : wr.cell? (ad.add k) = some (.string S) := (hB.cell hbk).trans hc
        have Hc : Hid (w.cell? (ad.add k) = some (.string S)) := hc
        clear hc
        obtain ⟨P, hP⟩ : ∃ P, cubeT S.data.toList = P := ⟨_, rfl⟩
        obtain ⟨EP, hEP⟩ : ∃ E, refP S.data.toList = E := ⟨_, rfl⟩
        have HP : Hid (cubeT S.data.toList = P) := hP
        have HEP : Hid (refP S.data.toList = EP) := hEP
        clear hP hEP
        go_wp2_with fail
        refine (parse_D S _ hsS P EP HP.out HEP.out).mono ?_
        rintro e w3 ⟨rfl, hb3⟩
        replace kX := keepblk hb3 kX
        replace kY := keepblk hb3 kY
        have hown3 := owns_below hown hb3
        have B3 := bel0 hB hb3
        unfold cubeV cv
        clear hown hB hb3
        have hcl : Hid (ces (cubL (SL.take (k + 1))) = ces (cubL (SL.take k)) ++ ce9 P) := cubL_step SL k (by omega) S hS P HP.out
        obtain ⟨qs, hqs⟩ : ∃ q, cubB S.data.toList = q := ⟨_, rfl⟩
        obtain ⟨ql, hql⟩ : ∃ q, ((S.size : Int) == (t.size : Int)) = q := ⟨_, rfl⟩
        have Hqs : Hid (cubB S.data.toList = qs) := hqs
        have hok : Hid (okL t (SL.take (k + 1)) = (okL t (SL.take k) && (qs && ql))) := by unfold Hid; rw [okL_step t SL k (by omega) S hS, hqs, hql]
        obtain ⟨f, hf⟩ : ∃ f, (q0 && okL t (SL.take k)) = f := ⟨_, rfl⟩
        have Hf : Hid ((q0 && okL t (SL.take (k + 1))) = (f && (qs && ql))) := by unfold Hid; rw [hok.out, ← hf]; cases q0 <;> rfl
        rw [hf]
        clear hf hok hqs hS
        obtain ⟨i0', hi, hz0, hz1, hz2⟩ := info_parts infoC
        cases f
        · go_wp2_with (at_builtin; refine wpList_append_own _ rfl _ _ 44 rfl (w2.heap.size + 1) 26 i0' _ 9 72 Try.underlying44 hi hz0 hz1 hz2 rfl (by decide) _ _ _ rfl ((hown3.alloc _).alloc _) ⟨w3.heap.size + 1, 0, none⟩ 1 1 (ce9 P) rfl rfl (World.news_of_block (cs := #[.int .i64 (P.length : Int), .int .u64 (FW P 0 : Int), .int .u64 (FW P 1 : Int), .int .u64 (FW P 2 : Int), .int .u64 (FW P 3 : Int), .int .u64 (OW P 0 : Int), .int .u64 (OW P 1 : Int), .int .u64 (OW P 2 : Int), .int .u64 (OW P 3 : Int)]) (t := 26) (fr := (0, 0)) (alloc2_new _ _ _)) (by simp [ce9, Value.oneCell']) (by unfold maxLen; omega) (by omega) (by have := lt_of_get kY; simp; omega) ?_; intro v' w4 hown4 hgrow _; have B4 := bel_app3 B3 hown3 hgrow (by omega); have cS4 : w4.cell? (ad.add k) = some (.string S) := (B4.cell hbk).trans Hc.out)
          have kX4 := growblk3 hgrow (allocblk (allocblk kX _) _) (fun e => by have := (hown3.lt _ e.symm).1; omega)
          have kY4 := growblk3 hgrow (allocblk (allocblk kY _) _) (fun e => by have := (hown3.lt _ e.symm).1; omega)
          go_roundw
          case rel => exact ⟨k + 1, by omega, by go_num, by rw [Hf.out]; rfl, by rw [hcl.out]; exact hown4, kX4, kY4, B4⟩
          case measure => simp [intOf]; omega
        · cases qs
          · go_wp2_with (first | (at_builtin; refine wpList_append_own _ rfl _ _ 44 rfl (w2.heap.size + 1) 26 i0' _ 9 72 Try.underlying44 hi hz0 hz1 hz2 rfl (by decide) _ _ _ rfl ((hown3.alloc _).alloc _) ⟨w3.heap.size + 1, 0, none⟩ 1 1 (ce9 P) rfl rfl (World.news_of_block (cs := #[.int .i64 (P.length : Int), .int .u64 (FW P 0 : Int), .int .u64 (FW P 1 : Int), .int .u64 (FW P 2 : Int), .int .u64 (FW P 3 : Int), .int .u64 (OW P 0 : Int), .int .u64 (OW P 1 : Int), .int .u64 (OW P 2 : Int), .int .u64 (OW P 3 : Int)]) (t := 26) (fr := (0, 0)) (alloc2_new _ _ _)) (by simp [ce9, Value.oneCell']) (by unfold maxLen; omega) (by omega) (by have := lt_of_get kY; simp; omega) ?_; intro v' w4 hown4 hgrow _; have B4 := bel_app3 B3 hown3 hgrow (by omega); have cS4 : w4.cell? (ad.add k) = some (.string S) := (B4.cell hbk).trans Hc.out) | (go_at_call 23; refine (cube_D S false _ hsS Hqs.out).mono ?_; rintro e w' ⟨rfl, rfl⟩))
            have kX4 := growblk3 hgrow (allocblk (allocblk kX _) _) (fun e => by have := (hown3.lt _ e.symm).1; omega)
            have kY4 := growblk3 hgrow (allocblk (allocblk kY _) _) (fun e => by have := (hown3.lt _ e.symm).1; omega)
            go_roundw
            case rel => exact ⟨k + 1, by omega, by go_num, by rw [Hf.out]; rfl, by rw [hcl.out]; exact hown4, kX4, kY4, B4⟩
            case measure => simp [intOf]; omega
          · cases ql
            · go_wp2_with (first | (at_builtin; refine wpList_append_own _ rfl _ _ 44 rfl (w2.heap.size + 1) 26 i0' _ 9 72 Try.underlying44 hi hz0 hz1 hz2 rfl (by decide) _ _ _ rfl ((hown3.alloc _).alloc _) ⟨w3.heap.size + 1, 0, none⟩ 1 1 (ce9 P) rfl rfl (World.news_of_block (cs := #[.int .i64 (P.length : Int), .int .u64 (FW P 0 : Int), .int .u64 (FW P 1 : Int), .int .u64 (FW P 2 : Int), .int .u64 (FW P 3 : Int), .int .u64 (OW P 0 : Int), .int .u64 (OW P 1 : Int), .int .u64 (OW P 2 : Int), .int .u64 (OW P 3 : Int)]) (t := 26) (fr := (0, 0)) (alloc2_new _ _ _)) (by simp [ce9, Value.oneCell']) (by unfold maxLen; omega) (by omega) (by have := lt_of_get kY; simp; omega) ?_; intro v' w4 hown4 hgrow _; have B4 := bel_app3 B3 hown3 hgrow (by omega); have cS4 : w4.cell? (ad.add k) = some (.string S) := (B4.cell hbk).trans Hc.out) | (go_at_call 23; refine (cube_D S true _ hsS Hqs.out).mono ?_; rintro e w' ⟨rfl, rfl⟩))
              have kX4 := growblk3 hgrow (allocblk (allocblk kX _) _) (fun e => by have := (hown3.lt _ e.symm).1; omega)
              have kY4 := growblk3 hgrow (allocblk (allocblk kY _) _) (fun e => by have := (hown3.lt _ e.symm).1; omega)
              go_roundw
              case rel => exact ⟨k + 1, by omega, by go_num, by rw [Hf.out]; rfl, by rw [hcl.out]; exact hown4, kX4, kY4, B4⟩
              case measure => simp [intOf]; omega
            · go_wp2_with (first | (at_builtin; refine wpList_append_own _ rfl _ _ 44 rfl (w2.heap.size + 1) 26 i0' _ 9 72 Try.underlying44 hi hz0 hz1 hz2 rfl (by decide) _ _ _ rfl ((hown3.alloc _).alloc _) ⟨w3.heap.size + 1, 0, none⟩ 1 1 (ce9 P) rfl rfl (World.news_of_block (cs := #[.int .i64 (P.length : Int), .int .u64 (FW P 0 : Int), .int .u64 (FW P 1 : Int), .int .u64 (FW P 2 : Int), .int .u64 (FW P 3 : Int), .int .u64 (OW P 0 : Int), .int .u64 (OW P 1 : Int), .int .u64 (OW P 2 : Int), .int .u64 (OW P 3 : Int)]) (t := 26) (fr := (0, 0)) (alloc2_new _ _ _)) (by simp [ce9, Value.oneCell']) (by unfold maxLen; omega) (by omega) (by have := lt_of_get kY; simp; omega) ?_; intro v' w4 hown4 hgrow _; have B4 := bel_app3 B3 hown3 hgrow (by omega); have cS4 : w4.cell? (ad.add k) = some (.string S) := (B4.cell hbk).trans Hc.out) | (go_at_call 23; refine (cube_D S true _ hsS Hqs.out).mono ?_; rintro e w' ⟨rfl, rfl⟩))
              have kX4 := growblk3 hgrow (allocblk (allocblk kX _) _) (fun e => by have := (hown3.lt _ e.symm).1; omega)
              have kY4 := growblk3 hgrow (allocblk (allocblk kY _) _) (fun e => by have := (hown3.lt _ e.symm).1; omega)
              go_roundw
              case rel => exact ⟨k + 1, by omega, by go_num, by rw [Hf.out]; rfl, by rw [hcl.out]; exact hown4, kX4, kY4, B4⟩
              case measure => simp [intOf]; omega
      · have i1 : ¬ (k : Int) < (len : Int) := by omega
        have hkl : SL.take k = SL := List.take_of_length_le (by omega)
        rw [hkl] at hown ⊢
        obtain ⟨L, hL⟩ : ∃ L, cubL SL = L := ⟨_, rfl⟩
        have hLl : L.length = len := by rw [← hL]; simp [cubL, hlen]
        rw [hL] at hown
        have hown' : wr.ownsRow (w2.heap.size + 1) 26 9 u12 L.length (ces L) := by rw [hLl, show len = k by omega]; exact hown
        obtain ⟨f, hf⟩ : ∃ f, (q0 && okL t SL) = f := ⟨_, rfl⟩
        rw [hf]
        have HM : Hid (f = true → ∃ H, O = some H ∧ good H = true ∧ wiB T H = true ∧ (∀ x ∈ L, wiB x H = true) ∧ wiB H R = (wiB T R && L.all (fun x => wiB x R))) := by
          unfold Hid
          have h0 := hm.out
          rw [hL, hq3, hq0, hf] at h0
          exact h0
        have HO : Hid (hulF T L = O) := by unfold Hid; rw [← hL]; exact hO.out
        have HG : Hid (∀ x ∈ L, good x = true) := by unfold Hid; rw [← hL]; exact gL.out
        have cX := (cells_block kX).1
        have zX := lt_of_get kX
        clear hown hkl hL hm hO gL hf hq0 hq3
        go_wp2_with fail
        refine (hull_any T L u12 _ _ gT HG.out (by omega) hown').mono ?_
        rintro e w5 ⟨rfl, hb5⟩
        rw [HO.out]
        have hown5 := owns_below hown' hb5
        replace kX := keepblk hb5 kX
        replace kY := keepblk hb5 kY
        have B5 := bel0 hB hb5
        clear hown' hB hb5 cX zX
        cases f
        · cases O with
          | none =>
            unfold hulV cubeV cv
            go_wp2_with fail
            refine (allV 2 _).mono ?_
            rintro e wA ⟨rfl, hbA⟩
            go_wp2_with fail
            refine (text_any (allT 2) _ (good_allT 2)).mono ?_
            rintro e wT ⟨rfl, hbT⟩
            go_wp2_with fail
            go_ret
            exact ⟨rfl, bel0 (bel0 (belA B5 _) hbA) hbT⟩
          | some H =>
            unfold hulV cubeV cv
            go_wp2_with fail
            refine (allV 2 _).mono ?_
            rintro e wA ⟨rfl, hbA⟩
            go_wp2_with fail
            refine (text_any (allT 2) _ (good_allT 2)).mono ?_
            rintro e wT ⟨rfl, hbT⟩
            go_wp2_with fail
            go_ret
            exact ⟨rfl, bel0 (bel0 (belA B5 _) hbA) hbT⟩
        · obtain ⟨H, rfl, gH, hTH, hLH0, hHR0⟩ := HM.out rfl
          have hLH : Hid (∀ x ∈ L, wiB x H = true) := hLH0
          have hHR : Hid (wiB H R = (wiB T R && L.all (fun x => wiB x R))) := hHR0
          have hLb : L.length ≤ 1048576 := by omega
          clear hLH0 hHR0 HM hLl
          unfold hulV cubeV cv
          have kH : (w5.alloc (.cells #[.int .i64 (H.length : Int), .int .u64 (FW H 0 : Int), .int .u64 (FW H 1 : Int), .int .u64 (FW H 2 : Int), .int .u64 (FW H 3 : Int), .int .u64 (OW H 0 : Int), .int .u64 (OW H 1 : Int), .int .u64 (OW H 2 : Int), .int .u64 (OW H 3 : Int)] 26)).heap[w5.heap.size]? = some (.cells (#[.int .i64 (H.length : Int), .int .u64 (FW H 0 : Int), .int .u64 (FW H 1 : Int), .int .u64 (FW H 2 : Int), .int .u64 (FW H 3 : Int), .int .u64 (OW H 0 : Int), .int .u64 (OW H 1 : Int), .int .u64 (OW H 2 : Int), .int .u64 (OW H 3 : Int)]) 26 (0, 0)) := alloc_get _ _
          replace kX := allocblk kX (.cells #[.int .i64 (H.length : Int), .int .u64 (FW H 0 : Int), .int .u64 (FW H 1 : Int), .int .u64 (FW H 2 : Int), .int .u64 (FW H 3 : Int), .int .u64 (OW H 0 : Int), .int .u64 (OW H 1 : Int), .int .u64 (OW H 2 : Int), .int .u64 (OW H 3 : Int)] 26)
          replace kY := allocblk kY (.cells #[.int .i64 (H.length : Int), .int .u64 (FW H 0 : Int), .int .u64 (FW H 1 : Int), .int .u64 (FW H 2 : Int), .int .u64 (FW H 3 : Int), .int .u64 (OW H 0 : Int), .int .u64 (OW H 1 : Int), .int .u64 (OW H 2 : Int), .int .u64 (OW H 3 : Int)] 26)
          have hown6 := hown5.alloc (.cells #[.int .i64 (H.length : Int), .int .u64 (FW H 0 : Int), .int .u64 (FW H 1 : Int), .int .u64 (FW H 2 : Int), .int .u64 (FW H 3 : Int), .int .u64 (OW H 0 : Int), .int .u64 (OW H 1 : Int), .int .u64 (OW H 2 : Int), .int .u64 (OW H 3 : Int)] 26)
          have B6 := belA B5 (.cells #[.int .i64 (H.length : Int), .int .u64 (FW H 0 : Int), .int .u64 (FW H 1 : Int), .int .u64 (FW H 2 : Int), .int .u64 (FW H 3 : Int), .int .u64 (OW H 0 : Int), .int .u64 (OW H 1 : Int), .int .u64 (OW H 2 : Int), .int .u64 (OW H 3 : Int)] 26)
          have cX := (cells_block kX).1
          have cH := (cells_block kH).1
          clear hown5 B5
          go_wp2_with fail
          refine (num_any 0 _).mono ?_
          rintro e w6 ⟨rfl, rfl⟩
          go_wp2_with fail
          refine (within_D T H true _ gT gH hTH).mono ?_
          rintro e w7 ⟨rfl, hb7⟩
          replace kX := keepblk hb7 kX
          replace kY := keepblk hb7 kY
          replace kH := keepblk hb7 kH
          have hown7 := owns_below hown6 hb7
          have B7 := bel0 B6 hb7
          clear hown6 B6 hb7 cX cH
          have cX := (cells_block kX).1
          have cY := (cells_block kY).1
          obtain ⟨a0, ha0⟩ : ∃ a, wiB T R = a := ⟨_, rfl⟩
          have Ha0 : Hid (wiB T R = a0) := ha0
          clear ha0
          go_wp2_with fail
          refine (within_D T R a0 _ gT gR Ha0.out).mono ?_
          rintro e w8 ⟨rfl, hb8⟩
          replace kY := keepblk hb8 kY
          replace kH := keepblk hb8 kH
          have hown8 := owns_below hown7 hb8
          have B8 := bel0 B7 hb8
          clear hown7 B7 hb8 cX cY kX
          rcases hown8.2 with ⟨rfl, hn0⟩ | ⟨g, cap2, cur, rfl, hg1, hg2, hg3, hg4, hg5, hg6⟩
          · obtain rfl : L = [] := List.eq_nil_of_length_eq_zero hn0
            clear hn0 hown8
            go_wp2_with fail
            go_loopw [18, 19] (fun a i wr => i = .int .i64 0 ∧ a = .bool a0 ∧ wr.heap[w5.heap.size]? = some (.cells (#[.int .i64 (H.length : Int), .int .u64 (FW H 0 : Int), .int .u64 (FW H 1 : Int), .int .u64 (FW H 2 : Int), .int .u64 (FW H 3 : Int), .int .u64 (OW H 0 : Int), .int .u64 (OW H 1 : Int), .int .u64 (OW H 2 : Int), .int .u64 (OW H 3 : Int)]) 26 (0, 0)) ∧ wr.heap[w2.heap.size]? = some (.cells (#[.int .i64 (R.length : Int), .int .u64 (FW R 0 : Int), .int .u64 (FW R 1 : Int), .int .u64 (FW R 2 : Int), .int .u64 (FW R 3 : Int), .int .u64 (OW R 0 : Int), .int .u64 (OW R 1 : Int), .int .u64 (OW R 2 : Int), .int .u64 (OW R 3 : Int)]) 26 (0, 0)) ∧ Below w.heap.size w wr) (fun _ _ _ => 0)
            case atStart => exact ⟨rfl, rfl, kH, kY, B8⟩
            case round =>
              clear kH kY B8
              obtain ⟨rfl, rfl, kH, kY, hB⟩ := hrel
              have Hfin : Hid (wiB H R = a0) := by unfold Hid; rw [hHR.out, Ha0.out]; simp
              have aa : (a0 == a0) = true := by simp
              have cH := (cells_block kH).1
              have cY := (cells_block kY).1
              go_wp2_with fail
              refine (within_D H R a0 _ gH gR Hfin.out).mono ?_
              rintro e w9 ⟨rfl, hb9⟩
              go_wp2_with fail
              go_ret
              exact ⟨rfl, bel0 hB hb9⟩
          · clear hg1 hg2 hg5 hg6
            go_wp2_with fail
            go_loopw [18, 19] (fun a i wr => ∃ k : Nat, k ≤ L.length ∧ i = .int .i64 k ∧ a = .bool (a0 && (L.take k).all (fun x => wiB x R)) ∧ wr.ownsRow (w2.heap.size + 1) 26 9 (.slice (some ⟨g, 0, none⟩) L.length cap2) L.length (ces L) ∧ wr.heap[w5.heap.size]? = some (.cells (#[.int .i64 (H.length : Int), .int .u64 (FW H 0 : Int), .int .u64 (FW H 1 : Int), .int .u64 (FW H 2 : Int), .int .u64 (FW H 3 : Int), .int .u64 (OW H 0 : Int), .int .u64 (OW H 1 : Int), .int .u64 (OW H 2 : Int), .int .u64 (OW H 3 : Int)]) 26 (0, 0)) ∧ wr.heap[w2.heap.size]? = some (.cells (#[.int .i64 (R.length : Int), .int .u64 (FW R 0 : Int), .int .u64 (FW R 1 : Int), .int .u64 (FW R 2 : Int), .int .u64 (FW R 3 : Int), .int .u64 (OW R 0 : Int), .int .u64 (OW R 1 : Int), .int .u64 (OW R 2 : Int), .int .u64 (OW R 3 : Int)]) 26 (0, 0)) ∧ Below w.heap.size w wr) (fun _ i _ => L.length - (intOf i).toNat)
            case atStart => exact ⟨0, Nat.zero_le _, rfl, by simp, hown8, kH, kY, B8⟩
            case round =>
              clear kH kY hown8 B8
              obtain ⟨j, hj, rfl, rfl, hown, kH, kY, hB⟩ := hrel
              by_cases hlt2 : j < L.length
              · have j0 : (0 : Int) ≤ (j : Int) := by omega
                have j1 : (j : Int) < (L.length : Int) := by omega
                obtain ⟨P, hP⟩ : ∃ P, L[j] = P := ⟨_, rfl⟩
                have hPm : P ∈ L := by rw [← hP]; exact List.getElem_mem hlt2
                have gP : good P = true := HG.out P hPm
                have hPH : Hid (wiB P H = true) := hLH.out P hPm
                obtain ⟨x0, x1, x2, x3, x4, x5, x6, x7, x8⟩ := ce_at hown hlt2 hP
                obtain ⟨qp, hqp⟩ : ∃ q, wiB P R = q := ⟨_, rfl⟩
                have Hqp : Hid (wiB P R = qp) := hqp
                have Hst : Hid ((a0 && (L.take (j + 1)).all (fun x => wiB x R)) = ((a0 && (L.take j).all (fun x => wiB x R)) && qp)) := by
                  unfold Hid
                  rw [List.take_add_one, List.getElem?_eq_getElem hlt2, hP]
                  simp [hqp, Bool.and_assoc]
                obtain ⟨a1, ha1⟩ : ∃ a, (a0 && (L.take j).all (fun x => wiB x R)) = a := ⟨_, rfl⟩
                rw [ha1] at Hst ⊢
                have hP' : Hid (L[j] = P) := hP
                clear ha1 hqp hP hPm
                go_wp2_with fail
                refine quiet_lit4 (C := lsC g cap2 (w2.heap.size + 1) w5.heap.size w2.heap.size L H R w) (by kernel_rfl) (by kernel_rfl) ⟨hown.drew, kH, kY, hB.drew⟩ ?_
                clear hown kH kY hB
                go_big_quiet_want
                go_big_quiet_op
                go_big_quiet_on
                go_big_quiet_want
                go_big_quiet_op
                go_big_quiet_on
                go_big_quiet_want
                refine ⟨.pointer (some ⟨g, j * 9, none⟩), fun W hW => ?_, ?_⟩
                · go_simp
                go_big_quiet_on
                simp only [Act.put, List.setIfInBounds_toArray, List.set_cons_zero, List.set_cons_succ]
                go_big_quiet_want
                refine ⟨.agg #[.int .i64 (P.length : Int), .int .u64 (FW P 0 : Int), .int .u64 (FW P 1 : Int), .int .u64 (FW P 2 : Int), .int .u64 (FW P 3 : Int), .int .u64 (OW P 0 : Int), .int .u64 (OW P 1 : Int), .int .u64 (OW P 2 : Int), .int .u64 (OW P 3 : Int)], fun W hW => ?_, ?_⟩
                · obtain ⟨x0, x1, x2, x3, x4, x5, x6, x7, x8⟩ := ce_at hW.1 hlt2 hP'.out
                  go_simp
                go_big_quiet_on
                simp only [Act.put, List.setIfInBounds_toArray, List.set_cons_zero, List.set_cons_succ]
                go_big_quiet_want
                refine ⟨.agg #[.int .i64 (H.length : Int), .int .u64 (FW H 0 : Int), .int .u64 (FW H 1 : Int), .int .u64 (FW H 2 : Int), .int .u64 (FW H 3 : Int), .int .u64 (OW H 0 : Int), .int .u64 (OW H 1 : Int), .int .u64 (OW H 2 : Int), .int .u64 (OW H 3 : Int)], fun W hW => ?_, ?_⟩
                · have y := (cells_block hW.2.1).1
                  go_simp
                go_big_quiet_on
                simp only [Act.put, List.setIfInBounds_toArray, List.set_cons_zero, List.set_cons_succ]
                go_big_quiet_want
                refine ⟨.bool true, fun W hW => ?_, ?_⟩
                · go_simp
                  refine (within_D P H true _ gP gH hPH.out).mono ?_
                  rintro e w' ⟨rfl, hb⟩
                  exact ⟨rfl, hW.keep hb⟩
                go_big_quiet_on
                simp only [Act.put, List.setIfInBounds_toArray, List.set_cons_zero, List.set_cons_succ]
                go_big_quiet_want
                refine ⟨.bool false, fun W hW => ?_, ?_⟩
                · go_simp
                go_big_quiet_on
                simp only [Act.put, List.setIfInBounds_toArray, List.set_cons_zero, List.set_cons_succ]
                refine wpQuiet_nil ?_
                intro W1 hW1
                go_wp2
                cases a1
                · refine quiet_lit4 (C := lsC g cap2 (w2.heap.size + 1) w5.heap.size w2.heap.size L H R w) (by kernel_rfl) (by kernel_rfl) ⟨hW1.1.drew, hW1.2.1, hW1.2.2.1, hW1.2.2.2.drew⟩ ?_
                  clear hW1
                  go_big_quiet_want
                  go_big_quiet_op
                  go_big_quiet_on
                  go_big_quiet_want
                  go_big_quiet_op
                  go_big_quiet_on
                  go_big_quiet_skip
                  go_big_quiet_skip
                  go_big_quiet_skip
                  go_big_quiet_skip
                  go_big_quiet_skip
                  go_big_quiet_skip
                  go_big_quiet_want
                  refine ⟨.bool false, fun W hW => ?_, ?_⟩
                  · go_simp
                  go_big_quiet_on
                  simp only [Act.put, List.setIfInBounds_toArray, List.set_cons_zero, List.set_cons_succ]
                  go_big_quiet_want
                  go_big_quiet_op
                  go_big_quiet_on
                  refine wpQuiet_nil ?_
                  intro W2 hW2
                  go_wp2
                  go_roundw
                  case rel => exact ⟨j + 1, by omega, by go_num, by rw [Hst.out]; rfl, hW2.1, hW2.2.1, hW2.2.2.1, hW2.2.2.2⟩
                  case measure => simp [intOf]; omega
                · refine quiet_lit4 (C := lsC g cap2 (w2.heap.size + 1) w5.heap.size w2.heap.size L H R w) (by kernel_rfl) (by kernel_rfl) ⟨hW1.1.drew, hW1.2.1, hW1.2.2.1, hW1.2.2.2.drew⟩ ?_
                  clear hW1
                  go_big_quiet_want
                  go_big_quiet_op
                  go_big_quiet_on
                  go_big_quiet_want
                  go_big_quiet_op
                  go_big_quiet_on
                  go_big_quiet_want
                  go_big_quiet_op
                  go_big_quiet_on
                  go_big_quiet_want
                  go_big_quiet_op
                  go_big_quiet_on
                  go_big_quiet_want
                  refine ⟨.pointer (some ⟨g, j * 9, none⟩), fun W hW => ?_, ?_⟩
                  · go_simp
                  go_big_quiet_on
                  simp only [Act.put, List.setIfInBounds_toArray, List.set_cons_zero, List.set_cons_succ]
                  go_big_quiet_want
                  refine ⟨.agg #[.int .i64 (P.length : Int), .int .u64 (FW P 0 : Int), .int .u64 (FW P 1 : Int), .int .u64 (FW P 2 : Int), .int .u64 (FW P 3 : Int), .int .u64 (OW P 0 : Int), .int .u64 (OW P 1 : Int), .int .u64 (OW P 2 : Int), .int .u64 (OW P 3 : Int)], fun W hW => ?_, ?_⟩
                  · obtain ⟨x0, x1, x2, x3, x4, x5, x6, x7, x8⟩ := ce_at hW.1 hlt2 hP'.out
                    go_simp
                  go_big_quiet_on
                  simp only [Act.put, List.setIfInBounds_toArray, List.set_cons_zero, List.set_cons_succ]
                  go_big_quiet_want
                  refine ⟨.agg #[.int .i64 (R.length : Int), .int .u64 (FW R 0 : Int), .int .u64 (FW R 1 : Int), .int .u64 (FW R 2 : Int), .int .u64 (FW R 3 : Int), .int .u64 (OW R 0 : Int), .int .u64 (OW R 1 : Int), .int .u64 (OW R 2 : Int), .int .u64 (OW R 3 : Int)], fun W hW => ?_, ?_⟩
                  · have y := (cells_block hW.2.2.1).1
                    go_simp
                  go_big_quiet_on
                  simp only [Act.put, List.setIfInBounds_toArray, List.set_cons_zero, List.set_cons_succ]
                  go_big_quiet_want
                  refine ⟨.bool qp, fun W hW => ?_, ?_⟩
                  · go_simp
                    refine (within_D P R qp _ gP gR Hqp.out).mono ?_
                    rintro e w' ⟨rfl, hb⟩
                    exact ⟨rfl, hW.keep hb⟩
                  go_big_quiet_on
                  simp only [Act.put, List.setIfInBounds_toArray, List.set_cons_zero, List.set_cons_succ]
                  go_big_quiet_want
                  refine ⟨.bool qp, fun W hW => ?_, ?_⟩
                  · go_simp
                  go_big_quiet_on
                  simp only [Act.put, List.setIfInBounds_toArray, List.set_cons_zero, List.set_cons_succ]
                  go_big_quiet_want
                  go_big_quiet_op
                  go_big_quiet_on
                  refine wpQuiet_nil ?_
                  intro W2 hW2
                  go_wp2
                  go_roundw
                  case rel => exact ⟨j + 1, by omega, by go_num, by rw [Hst.out]; rfl, hW2.1, hW2.2.1, hW2.2.2.1, hW2.2.2.2⟩
                  case measure => simp [intOf]; omega
              · have j1 : ¬ (j : Int) < (L.length : Int) := by omega
                have hjl : L.take j = L := List.take_of_length_le (by omega)
                rw [hjl]
                obtain ⟨a1, ha1⟩ : ∃ a, (a0 && L.all (fun x => wiB x R)) = a := ⟨_, rfl⟩
                have Hfin : Hid (wiB H R = a1) := by unfold Hid; rw [hHR.out, Ha0.out, ← ha1]
                have aa : (a1 == a1) = true := by simp
                rw [ha1]
                clear ha1
                have cH := (cells_block kH).1
                have cY := (cells_block kY).1
                go_wp2_with fail
                refine (within_D H R a1 _ gH gR Hfin.out).mono ?_
                rintro e w9 ⟨rfl, hb9⟩
                go_wp2_with fail
                go_ret
                exact ⟨rfl, bel0 hB hb9⟩
end Go.Proofs.Ytdgglglemdbgcaa

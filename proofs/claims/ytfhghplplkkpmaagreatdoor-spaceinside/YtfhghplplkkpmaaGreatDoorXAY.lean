import Derived.Test.YtfhghplplkkpmaaGreatDoorXAF
import Derived.Test.YtfhghplplkkpmaaGreatDoorXAX
import Derived.BigQuiet
namespace Go.Proofs.YtfhghplplkkpmaaGreatDoor
open Go.RowKit Go.Shelf
theorem put10_KC {W : World} {b : Nat} {cs : Array Value} (v0 v1 v2 v3 v4 v5 v6 v7 v8 v9 : Value) (hb : W.heap[b]? = some (.cells cs 62 (0, 0))) : KC W (put10 W b v0 v1 v2 v3 v4 v5 v6 v7 v8 v9) := by
  have one : ∀ (X : World) (k : Nat) (u : Value), X.grownBy (X.setCell ⟨b, k, none⟩ u) (some b) := fun X k u => ⟨rfl, rfl, rfl, by simp, fun j _ hj => heap_setCell_other X ⟨b, k, none⟩ j u (fun e => hj (by simp [e]))⟩
  unfold put10
  exact KC_grown (grown_trans (one _ 0 _) (grown_trans (one _ 1 _) (grown_trans (one _ 2 _) (grown_trans (one _ 3 _) (grown_trans (one _ 4 _) (grown_trans (one _ 5 _) (grown_trans (one _ 6 _) (grown_trans (one _ 7 _) (grown_trans (one _ 8 _) (one _ 9 _)))))))))) hb (by decide)
theorem own_ne {W : World} {B n b : Nat} {v : Value} {xs : List Value} {cs : Array Value} (h : W.ownsRow B 40 9 v n xs) (hb : W.heap[b]? = some (.cells cs 62 (0, 0))) : v.ownBlock ≠ some b := fun e => by
  rcases own_shapeQ h with ⟨rfl, -⟩ | ⟨g', c', rfl, -, -, cur', h5⟩
  · cases e
  · have e3 : g' = b := Option.some.inj e
    subst e3
    rw [hb] at h5
    injection h5 with h5
    injection h5 with _ h7 _
    exact absurd h7 (by decide)
set_option maxRecDepth 100000 in
set_option maxHeartbeats 8000000 in
theorem outside_any (a : List UInt8) (zq : Option Addr) (n zk : Nat) (zL : List (List UInt8)) (c : List UInt8) (w : World) (hn : zL.length = n) (o : IRK w zq zL) (hN : n ≤ 1000000) (ga : good a = true) (gL : ∀ x ∈ zL, good x = true) (gc : good c = true) :
    Calls Tryz.prog 63 #[.agg #[.int .i64 (a.length : Int), .int .u64 (FW a 0 : Int), .int .u64 (FW a 1 : Int), .int .u64 (FW a 2 : Int), .int .u64 (FW a 3 : Int), .int .u64 (OW a 0 : Int), .int .u64 (OW a 1 : Int), .int .u64 (OW a 2 : Int), .int .u64 (OW a 3 : Int), .slice zq n zk], .agg #[.int .i64 (c.length : Int), .int .u64 (FW c 0 : Int), .int .u64 (FW c 1 : Int), .int .u64 (FW c 2 : Int), .int .u64 (FW c 3 : Int), .int .u64 (OW c 0 : Int), .int .u64 (OW c 1 : Int), .int .u64 (OW c 2 : Int), .int .u64 (OW c 3 : Int)]] w fun e w' => Below w.heap.size w w' ∧ ((outO (a, zL) c = none ∧ e = .returned (.tuple #[.agg #[.int .i64 0, .int .u64 0, .int .u64 0, .int .u64 0, .int .u64 0, .int .u64 0, .int .u64 0, .int .u64 0, .int .u64 0, .slice none 0 0], .bool false])) ∨ ∃ R q k, outO (a, zL) c = some (a, R) ∧ e = .returned (.tuple #[.agg #[.int .i64 (a.length : Int), .int .u64 (FW a 0 : Int), .int .u64 (FW a 1 : Int), .int .u64 (FW a 2 : Int), .int .u64 (FW a 3 : Int), .int .u64 (OW a 0 : Int), .int .u64 (OW a 1 : Int), .int .u64 (OW a 2 : Int), .int .u64 (OW a 3 : Int), .slice q R.length k], .bool true]) ∧ IRK w' q R) := by
  obtain ⟨i0, hi, hz0, hz1, hz2⟩ := info_parts info_cubeQ
  obtain ⟨wA, hwA⟩ : ∃ wA, (((w.alloc (.cells #[.int .i64 (a.length : Int), .int .u64 (FW a 0 : Int), .int .u64 (FW a 1 : Int), .int .u64 (FW a 2 : Int), .int .u64 (FW a 3 : Int), .int .u64 (OW a 0 : Int), .int .u64 (OW a 1 : Int), .int .u64 (OW a 2 : Int), .int .u64 (OW a 3 : Int), .slice zq n zk] 62 (0, 0))).alloc (.cells #[.int .i64 (c.length : Int), .int .u64 (FW c 0 : Int), .int .u64 (FW c 1 : Int), .int .u64 (FW c 2 : Int), .int .u64 (FW c 3 : Int), .int .u64 (OW c 0 : Int), .int .u64 (OW c 1 : Int), .int .u64 (OW c 2 : Int), .int .u64 (OW c 3 : Int)] 40 (0, 0))).alloc (.cells #[.int .i64 0, .int .u64 0, .int .u64 0, .int .u64 0, .int .u64 0, .int .u64 0, .int .u64 0, .int .u64 0, .int .u64 0, .slice none 0 0] 62 (0, 0))) = wA := ⟨_, rfl⟩
  have hBA : Below w.heap.size w wA := by rw [← hwA]; exact belA (belA (belA (Below.refl _ _) _) _) _
  have d1 : wA.heap[w.heap.size]? = some (.cells #[.int .i64 (a.length : Int), .int .u64 (FW a 0 : Int), .int .u64 (FW a 1 : Int), .int .u64 (FW a 2 : Int), .int .u64 (FW a 3 : Int), .int .u64 (OW a 0 : Int), .int .u64 (OW a 1 : Int), .int .u64 (OW a 2 : Int), .int .u64 (OW a 3 : Int), .slice zq n zk] 62 (0, 0)) := by rw [← hwA, Below.heap_alloc _ _ _ (by simp <;> omega)]; exact alw_0 _ _ _
  have d2 : wA.heap[w.heap.size + 1]? = some (.cells #[.int .i64 (c.length : Int), .int .u64 (FW c 0 : Int), .int .u64 (FW c 1 : Int), .int .u64 (FW c 2 : Int), .int .u64 (FW c 3 : Int), .int .u64 (OW c 0 : Int), .int .u64 (OW c 1 : Int), .int .u64 (OW c 2 : Int), .int .u64 (OW c 3 : Int)] 40 (0, 0)) := by rw [← hwA, Below.heap_alloc _ _ _ (by simp <;> omega)]; exact alw_1 _ _ _
  have d3 : wA.heap[(w.heap.size + 1 + 1)]? = some (.cells #[.int .i64 0, .int .u64 0, .int .u64 0, .int .u64 0, .int .u64 0, .int .u64 0, .int .u64 0, .int .u64 0, .int .u64 0, .slice none 0 0] 62 (0, 0)) := by rw [← hwA]; have := alloc_get ((w.alloc (.cells #[.int .i64 (a.length : Int), .int .u64 (FW a 0 : Int), .int .u64 (FW a 1 : Int), .int .u64 (FW a 2 : Int), .int .u64 (FW a 3 : Int), .int .u64 (OW a 0 : Int), .int .u64 (OW a 1 : Int), .int .u64 (OW a 2 : Int), .int .u64 (OW a 3 : Int), .slice zq n zk] 62 (0, 0))).alloc (.cells #[.int .i64 (c.length : Int), .int .u64 (FW c 0 : Int), .int .u64 (FW c 1 : Int), .int .u64 (FW c 2 : Int), .int .u64 (FW c 3 : Int), .int .u64 (OW c 0 : Int), .int .u64 (OW c 1 : Int), .int .u64 (OW c 2 : Int), .int .u64 (OW c 3 : Int)] 40 (0, 0))) (.cells #[.int .i64 0, .int .u64 0, .int .u64 0, .int .u64 0, .int .u64 0, .int .u64 0, .int .u64 0, .int .u64 0, .int .u64 0, .slice none 0 0] 62 (0, 0)); simpa using this
  have HD : Hid (∀ W, Below wA.heap.size wA W → W.heap[w.heap.size]? = some (.cells #[.int .i64 (a.length : Int), .int .u64 (FW a 0 : Int), .int .u64 (FW a 1 : Int), .int .u64 (FW a 2 : Int), .int .u64 (FW a 3 : Int), .int .u64 (OW a 0 : Int), .int .u64 (OW a 1 : Int), .int .u64 (OW a 2 : Int), .int .u64 (OW a 3 : Int), .slice zq n zk] 62 (0, 0)) ∧ W.heap[(w.heap.size + 1 + 1)]? = some (.cells #[.int .i64 0, .int .u64 0, .int .u64 0, .int .u64 0, .int .u64 0, .int .u64 0, .int .u64 0, .int .u64 0, .int .u64 0, .slice none 0 0] 62 (0, 0)) ∧ IRK W zq zL ∧ Below w.heap.size w W) := fun W hW => ⟨keepblk3 hW d1, keepblk3 hW d3, o.later (KC_below (bel0 hBA hW)), bel0 hBA hW⟩
  have hc1 := (cells_block d1).1
  have hc2 := (cells_block d2).1
  have HN : Hid (zL.length = n ∧ ∀ x ∈ zL, good x = true) := ⟨hn, gL⟩
  obtain ⟨D, hD⟩ : ∃ D, mtT c a = D := ⟨_, rfl⟩
  have gD : good D = true := by rw [← hD]; exact good_mtT c a gc ga
  obtain ⟨q, hq⟩ : ∃ q, agB c a = q := ⟨_, rfl⟩
  have HO : Hid (outO (a, zL) c = if q = true then (if zL.any (fun y => wiB D y) = true then some (a, zL) else if D = a then none else some (a, zL.filter (fun y => !wiB y D) ++ [D])) else some (a, zL)) := by
    unfold Hid outO
    simp only [hD, hq]
  have HM := meet_any c a wA gc
  rw [hD, hq] at HM
  unfold cubeV cv at HM
  have HMM : Hid (Calls Tryz.prog 56 #[.agg #[.int .i64 (c.length : Int), .int .u64 (FW c 0 : Int), .int .u64 (FW c 1 : Int), .int .u64 (FW c 2 : Int), .int .u64 (FW c 3 : Int), .int .u64 (OW c 0 : Int), .int .u64 (OW c 1 : Int), .int .u64 (OW c 2 : Int), .int .u64 (OW c 3 : Int)], .agg #[.int .i64 (a.length : Int), .int .u64 (FW a 0 : Int), .int .u64 (FW a 1 : Int), .int .u64 (FW a 2 : Int), .int .u64 (FW a 3 : Int), .int .u64 (OW a 0 : Int), .int .u64 (OW a 1 : Int), .int .u64 (OW a 2 : Int), .int .u64 (OW a 3 : Int)]] wA fun e w' => e = .returned (.tuple #[.agg #[.int .i64 (D.length : Int), .int .u64 (FW D 0 : Int), .int .u64 (FW D 1 : Int), .int .u64 (FW D 2 : Int), .int .u64 (FW D 3 : Int), .int .u64 (OW D 0 : Int), .int .u64 (OW D 1 : Int), .int .u64 (OW D 2 : Int), .int .u64 (OW D 3 : Int)], .bool q]) ∧ Below wA.heap.size wA w') := HM
  have hE := eql_cube D a gD ga
  have GD : Hid (good D = true) := gD
  have hmf : ∀ (fn : Fn) (first cap : Array Value) (w : World), (Instr.makeFunc fn first cap).run Tryz.prog w = .ok (.func fn first cap) w := fun _ _ _ _ => rfl
  clear hBA d1 d2 d3 hn o gL hD hq HM gD ga gc
  go_enter Tryz.func63, Tryz.ntmps63
  go_wp2_with fail
  refine HMM.out.mono ?_
  rintro e W1 ⟨rfl, hb1⟩
  obtain ⟨W2, hW2⟩ : ∃ W2, W1.alloc (.cells #[.int .i64 (D.length : Int), .int .u64 (FW D 0 : Int), .int .u64 (FW D 1 : Int), .int .u64 (FW D 2 : Int), .int .u64 (FW D 3 : Int), .int .u64 (OW D 0 : Int), .int .u64 (OW D 1 : Int), .int .u64 (OW D 2 : Int), .int .u64 (OW D 3 : Int)] 40 (0, 0)) = W2 := ⟨_, rfl⟩
  have hb2 : Below wA.heap.size wA W2 := by rw [← hW2]; exact belA hb1 _
  have HB2 : Hid (Below wA.heap.size wA W2 ∧ W2.heap[W1.heap.size]? = some (.cells #[.int .i64 (D.length : Int), .int .u64 (FW D 0 : Int), .int .u64 (FW D 1 : Int), .int .u64 (FW D 2 : Int), .int .u64 (FW D 3 : Int), .int .u64 (OW D 0 : Int), .int .u64 (OW D 1 : Int), .int .u64 (OW D 2 : Int), .int .u64 (OW D 3 : Int)] 40 (0, 0)) ∧ W1.heap.size < W2.heap.size) := ⟨hb2, by rw [← hW2]; exact alloc_get _ _, by rw [← hW2]; simp⟩
  clear hc1 hc2 HMM hwA hb1 hb2
  cases q with
  | false =>
    have HV : Hid (outO (a, zL) c = some (a, zL)) := HO.out
    clear HO hE
    obtain ⟨k2, k3, oX, hBX⟩ := HD.out W2 HB2.out.1
    obtain ⟨hc2, -⟩ := cells_block k2
    obtain ⟨hc3, hf3⟩ := cells_block k3
    have HP : Hid (Below w.heap.size w (put10 W2 (w.heap.size + 1 + 1) (.int .i64 (a.length : Int)) (.int .u64 (FW a 0 : Int)) (.int .u64 (FW a 1 : Int)) (.int .u64 (FW a 2 : Int)) (.int .u64 (FW a 3 : Int)) (.int .u64 (OW a 0 : Int)) (.int .u64 (OW a 1 : Int)) (.int .u64 (OW a 2 : Int)) (.int .u64 (OW a 3 : Int)) (.slice zq n zk)) ∧ (put10 W2 (w.heap.size + 1 + 1) (.int .i64 (a.length : Int)) (.int .u64 (FW a 0 : Int)) (.int .u64 (FW a 1 : Int)) (.int .u64 (FW a 2 : Int)) (.int .u64 (FW a 3 : Int)) (.int .u64 (OW a 0 : Int)) (.int .u64 (OW a 1 : Int)) (.int .u64 (OW a 2 : Int)) (.int .u64 (OW a 3 : Int)) (.slice zq n zk)).heap[(w.heap.size + 1 + 1)]? = some (.cells #[.int .i64 (a.length : Int), .int .u64 (FW a 0 : Int), .int .u64 (FW a 1 : Int), .int .u64 (FW a 2 : Int), .int .u64 (FW a 3 : Int), .int .u64 (OW a 0 : Int), .int .u64 (OW a 1 : Int), .int .u64 (OW a 2 : Int), .int .u64 (OW a 3 : Int), .slice zq n zk] 62 (0, 0)) ∧ IRK (put10 W2 (w.heap.size + 1 + 1) (.int .i64 (a.length : Int)) (.int .u64 (FW a 0 : Int)) (.int .u64 (FW a 1 : Int)) (.int .u64 (FW a 2 : Int)) (.int .u64 (FW a 3 : Int)) (.int .u64 (OW a 0 : Int)) (.int .u64 (OW a 1 : Int)) (.int .u64 (OW a 2 : Int)) (.int .u64 (OW a 3 : Int)) (.slice zq n zk)) zq zL) := ⟨put10_below _ _ _ _ _ _ _ _ _ _ hBX (by omega), put10_get _ _ _ _ _ _ _ _ _ _ k3, oX.later (put10_KC _ _ _ _ _ _ _ _ _ _ k3)⟩
    clear k2 k3 oX hBX
    go_wp2_with fail
    refine bodyPost_ret (res_term2 _ _ (w.heap.size + 1 + 1) _ _ _ _ _ _ _ _ _ _ Tryz.results63 rfl HP.out.2.1) rfl ?_
    exact ⟨HP.out.1, .inr ⟨zL, zq, zk, HV.out, by rw [HN.out.1]; rfl, HP.out.2.2⟩⟩

  | true =>
    obtain ⟨qa, hqa⟩ : ∃ qa, zL.any (fun y => wiB D y) = qa := ⟨_, rfl⟩
    have HCn : Hid (Calls Tryz.prog 75 #[.slice zq n zk, .func (.func 62) #[.agg #[.int .i64 (D.length : Int), .int .u64 (FW D 0 : Int), .int .u64 (FW D 1 : Int), .int .u64 (FW D 2 : Int), .int .u64 (FW D 3 : Int), .int .u64 (OW D 0 : Int), .int .u64 (OW D 1 : Int), .int .u64 (OW D 2 : Int), .int .u64 (OW D 3 : Int)]] #[]] W2 fun e w' => e = .returned (.bool qa) ∧ Below W2.heap.size W2 w') := by
      unfold Hid
      rw [← hqa]
      exact contw_any zL n zq zk D (fun y => wiB D y) W2 HN.out.1 (by omega) (HD.out W2 HB2.out.1).2.2.1.irc (fun W _ y hy => within_any D y W GD.out (HN.out.2 y hy))
    rw [hqa] at HO
    clear hqa
    have hc2 := (cells_block (HD.out W2 HB2.out.1).1).1
    have hc6 := (cells_block HB2.out.2.1).1
    cases qa with
    | true =>
      have HV : Hid (outO (a, zL) c = some (a, zL)) := HO.out
      clear HO hE
      go_wp2_with fail
      refine HCn.out.mono ?_
      rintro e W3 ⟨rfl, hb3⟩
      clear hc2 hc6 HCn
      obtain ⟨k2, k3, oX, hBX⟩ := HD.out W3 (bel0 HB2.out.1 hb3)
      obtain ⟨hc2, -⟩ := cells_block k2
      obtain ⟨hc3, hf3⟩ := cells_block k3
      have HP : Hid (Below w.heap.size w (put10 W3 (w.heap.size + 1 + 1) (.int .i64 (a.length : Int)) (.int .u64 (FW a 0 : Int)) (.int .u64 (FW a 1 : Int)) (.int .u64 (FW a 2 : Int)) (.int .u64 (FW a 3 : Int)) (.int .u64 (OW a 0 : Int)) (.int .u64 (OW a 1 : Int)) (.int .u64 (OW a 2 : Int)) (.int .u64 (OW a 3 : Int)) (.slice zq n zk)) ∧ (put10 W3 (w.heap.size + 1 + 1) (.int .i64 (a.length : Int)) (.int .u64 (FW a 0 : Int)) (.int .u64 (FW a 1 : Int)) (.int .u64 (FW a 2 : Int)) (.int .u64 (FW a 3 : Int)) (.int .u64 (OW a 0 : Int)) (.int .u64 (OW a 1 : Int)) (.int .u64 (OW a 2 : Int)) (.int .u64 (OW a 3 : Int)) (.slice zq n zk)).heap[(w.heap.size + 1 + 1)]? = some (.cells #[.int .i64 (a.length : Int), .int .u64 (FW a 0 : Int), .int .u64 (FW a 1 : Int), .int .u64 (FW a 2 : Int), .int .u64 (FW a 3 : Int), .int .u64 (OW a 0 : Int), .int .u64 (OW a 1 : Int), .int .u64 (OW a 2 : Int), .int .u64 (OW a 3 : Int), .slice zq n zk] 62 (0, 0)) ∧ IRK (put10 W3 (w.heap.size + 1 + 1) (.int .i64 (a.length : Int)) (.int .u64 (FW a 0 : Int)) (.int .u64 (FW a 1 : Int)) (.int .u64 (FW a 2 : Int)) (.int .u64 (FW a 3 : Int)) (.int .u64 (OW a 0 : Int)) (.int .u64 (OW a 1 : Int)) (.int .u64 (OW a 2 : Int)) (.int .u64 (OW a 3 : Int)) (.slice zq n zk)) zq zL) := ⟨put10_below _ _ _ _ _ _ _ _ _ _ hBX (by omega), put10_get _ _ _ _ _ _ _ _ _ _ k3, oX.later (put10_KC _ _ _ _ _ _ _ _ _ _ k3)⟩
      clear k2 k3 oX hBX
      go_wp2_with fail
      refine bodyPost_ret (res_term2 _ _ (w.heap.size + 1 + 1) _ _ _ _ _ _ _ _ _ _ Tryz.results63 rfl HP.out.2.1) rfl ?_
      exact ⟨HP.out.1, .inr ⟨zL, zq, zk, HV.out, by rw [HN.out.1]; rfl, HP.out.2.2⟩⟩

    | false =>
      go_wp2_with fail
      refine HCn.out.mono ?_
      rintro e W3 ⟨rfl, hb3⟩
      have HB3 : Hid (Below wA.heap.size wA W3 ∧ W3.heap[W1.heap.size]? = some (.cells #[.int .i64 (D.length : Int), .int .u64 (FW D 0 : Int), .int .u64 (FW D 1 : Int), .int .u64 (FW D 2 : Int), .int .u64 (FW D 3 : Int), .int .u64 (OW D 0 : Int), .int .u64 (OW D 1 : Int), .int .u64 (OW D 2 : Int), .int .u64 (OW D 3 : Int)] 40 (0, 0)) ∧ W1.heap.size < W3.heap.size) := ⟨bel0 HB2.out.1 hb3, keepblk3 hb3 HB2.out.2.1, Nat.lt_of_lt_of_le HB2.out.2.2 hb3.size⟩
      clear hc2 hc6 HCn hb3
      obtain ⟨k2, k3, oX, hBX⟩ := HD.out W3 HB3.out.1
      have hc2 := (cells_block k2).1
      have hc6 := (cells_block HB3.out.2.1).1
      cases hda : (D == a) with
      | true =>
        rw [hda] at hE
        have e : D = a := by simpa using hda
        have HV : Hid (outO (a, zL) c = none) := by
          unfold Hid
          rw [HO.out, if_pos (by first | rfl | trivial), if_neg (by simp), if_pos e]
        obtain ⟨hc3, hf3⟩ := cells_block k3
        have HP : Hid (Below w.heap.size w (put10 W3 (w.heap.size + 1 + 1) (.int .i64 0) (.int .u64 0) (.int .u64 0) (.int .u64 0) (.int .u64 0) (.int .u64 0) (.int .u64 0) (.int .u64 0) (.int .u64 0) (.slice none 0 0)) ∧ (put10 W3 (w.heap.size + 1 + 1) (.int .i64 0) (.int .u64 0) (.int .u64 0) (.int .u64 0) (.int .u64 0) (.int .u64 0) (.int .u64 0) (.int .u64 0) (.int .u64 0) (.slice none 0 0)).heap[(w.heap.size + 1 + 1)]? = some (.cells #[.int .i64 0, .int .u64 0, .int .u64 0, .int .u64 0, .int .u64 0, .int .u64 0, .int .u64 0, .int .u64 0, .int .u64 0, .slice none 0 0] 62 (0, 0))) := ⟨put10_below _ _ _ _ _ _ _ _ _ _ hBX (by omega), put10_get _ _ _ _ _ _ _ _ _ _ k3⟩
        clear k2 k3 oX hBX HO hda e
        go_wp2_with fail
        refine bodyPost_ret (res_term2 _ _ (w.heap.size + 1 + 1) _ _ _ _ _ _ _ _ _ _ Tryz.results63 rfl HP.out.2) rfl ?_
        exact ⟨HP.out.1, .inl ⟨HV.out, rfl⟩⟩
      | false =>
        rw [hda] at hE
        have e : ¬ D = a := by simpa using hda
        have HV : Hid (outO (a, zL) c = some (a, zL.filter (fun y => !wiB y D) ++ [D])) := by
          unfold Hid
          rw [HO.out, if_pos (by first | rfl | trivial), if_neg (by simp), if_neg e]
        have HCl : Hid (∀ W, Below W3.heap.size W3 W → Calls Tryz.prog 86 #[.slice zq n zk] W fun e w' => ∃ v, e = .returned v ∧ w'.ownsRow W.heap.size 40 9 v n (ces zL) ∧ Below W.heap.size W w') := fun W hW => clone_any zL zq n zk W HN.out.1 hN ((HD.out W3 HB3.out.1).2.2.1.irc.later hW)
        clear k2 k3 oX hBX HO hda e
        go_wp2_with fail
        refine (HCl.out _ (Below.refl _ _)).mono ?_
        rintro e W4 ⟨v4, rfl, o4, hb4⟩
        have hs34 := hb4.size
        have hne4 : v4.ownBlock ≠ some W1.heap.size := fun e => by have h1 := (o4.lt _ e).1; have h2 := HB3.out.2.2; omega
        have HDl := delo_all zL n v4 W3.heap.size D W1.heap.size W4 HN.out.1 (by omega) o4 HN.out.2 GD.out (keepblk3 hb4 HB3.out.2.1) hne4 _ rfl
        have HDD : Hid (Calls Tryz.prog 84 #[v4, .func (.func 87) #[] #[.pointer (some ⟨W1.heap.size, 0, none⟩)]] W4 fun e w' => ∃ v', e = .returned v' ∧ w'.ownsRow W3.heap.size 40 9 v' (zL.filter (fun t => !wiB t D)).length (ces (zL.filter (fun t => !wiB t D))) ∧ W4.grownBy w' v4.ownBlock) := HDl
        have HB4 : Hid (Below W3.heap.size W3 W4 ∧ ∀ b, v4.ownBlock = some b → W3.heap.size ≤ b) := ⟨hb4, fun b e => (o4.lt b e).1⟩
        clear hc2 hc6 hE HCl o4 hb4 hs34 hne4 HDl
        go_wp2_with fail
        refine HDD.out.mono ?_
        rintro e W5 ⟨v5, rfl, o5, g5⟩
        obtain ⟨F, hF⟩ : ∃ F, zL.filter (fun t => !wiB t D) = F := ⟨_, rfl⟩
        obtain ⟨m, hm⟩ : ∃ m, F.length = m := ⟨_, rfl⟩
        have hm2 : m ≤ 1000000 := by
          rw [← hm, ← hF]
          have h1 := List.length_filter_le (fun t => !wiB t D) zL
          have h2 := HN.out.1
          omega
        rw [hF, hm] at o5
        rw [hF] at HV
        have HM5 : Hid (F.length = m) := hm
        obtain ⟨p5, c5, rfl⟩ := shapeQ1 o5
        have hb5 : Below W3.heap.size W3 W5 := HB4.out.1.grown g5 HB4.out.1.size HB4.out.2
        have HB5 : Hid (Below W3.heap.size W3 W5) := hb5
        have hs35 := hb5.size
        have HO5 : Hid (∀ b, (Value.slice p5 m c5).ownBlock = some b → W3.heap.size ≤ b) := fun b e => (o5.lt b e).1
        have HK : Hid (∀ W, Below W5.heap.size W5 W → W.heap[w.heap.size]? = some (.cells #[.int .i64 (a.length : Int), .int .u64 (FW a 0 : Int), .int .u64 (FW a 1 : Int), .int .u64 (FW a 2 : Int), .int .u64 (FW a 3 : Int), .int .u64 (OW a 0 : Int), .int .u64 (OW a 1 : Int), .int .u64 (OW a 2 : Int), .int .u64 (OW a 3 : Int), .slice zq n zk] 62 (0, 0)) ∧ W.heap[W1.heap.size]? = some (.cells #[.int .i64 (D.length : Int), .int .u64 (FW D 0 : Int), .int .u64 (FW D 1 : Int), .int .u64 (FW D 2 : Int), .int .u64 (FW D 3 : Int), .int .u64 (OW D 0 : Int), .int .u64 (OW D 1 : Int), .int .u64 (OW D 2 : Int), .int .u64 (OW D 3 : Int)] 40 (0, 0)) ∧ W.heap[(w.heap.size + 1 + 1)]? = some (.cells #[.int .i64 0, .int .u64 0, .int .u64 0, .int .u64 0, .int .u64 0, .int .u64 0, .int .u64 0, .int .u64 0, .int .u64 0, .slice none 0 0] 62 (0, 0)) ∧ Below w.heap.size w W) := fun W hW => by
          obtain ⟨x1, x2, -, x4⟩ := HD.out W (bel0 HB3.out.1 (bel0 HB5.out hW))
          exact ⟨x1, keepblk3 (bel0 HB5.out hW) HB3.out.2.1, x2, x4⟩
        have HLT : Hid (w.heap.size < W3.heap.size ∧ W1.heap.size < W3.heap.size ∧ (w.heap.size + 1 + 1) < W3.heap.size) := by
          obtain ⟨x1, x2, -, -⟩ := HD.out W3 HB3.out.1
          exact ⟨lt_of_get3 x1, HB3.out.2.2, lt_of_get3 x2⟩
        have HLT2 : Hid (W1.heap.size ≠ (w.heap.size + 1 + 1)) := fun e => by
          have h1 := HB3.out.2.1
          rw [e, (HD.out W3 HB3.out.1).2.1] at h1
          injection h1 with h1
          injection h1 with _ h7 _
          exact absurd h7 (by decide)
        have HXG : Hid (∀ W X, Below W5.heap.size W5 W → W.grownBy X (Value.slice p5 m c5).ownBlock → X.heap[w.heap.size]? = some (.cells #[.int .i64 (a.length : Int), .int .u64 (FW a 0 : Int), .int .u64 (FW a 1 : Int), .int .u64 (FW a 2 : Int), .int .u64 (FW a 3 : Int), .int .u64 (OW a 0 : Int), .int .u64 (OW a 1 : Int), .int .u64 (OW a 2 : Int), .int .u64 (OW a 3 : Int), .slice zq n zk] 62 (0, 0)) ∧ X.heap[W1.heap.size]? = some (.cells #[.int .i64 (D.length : Int), .int .u64 (FW D 0 : Int), .int .u64 (FW D 1 : Int), .int .u64 (FW D 2 : Int), .int .u64 (FW D 3 : Int), .int .u64 (OW D 0 : Int), .int .u64 (OW D 1 : Int), .int .u64 (OW D 2 : Int), .int .u64 (OW D 3 : Int)] 40 (0, 0)) ∧ X.heap[(w.heap.size + 1 + 1)]? = some (.cells #[.int .i64 0, .int .u64 0, .int .u64 0, .int .u64 0, .int .u64 0, .int .u64 0, .int .u64 0, .int .u64 0, .int .u64 0, .slice none 0 0] 62 (0, 0)) ∧ Below w.heap.size w X) := fun W X hW hg => by
          obtain ⟨x1, x2, x3, x4⟩ := HK.out W hW
          obtain ⟨l1, l2, l3⟩ := HLT.out
          refine ⟨(hg.block _ (lt_of_get3 x1) (fun e => ?_)).trans x1, (hg.block _ (lt_of_get3 x2) (fun e => ?_)).trans x2, (hg.block _ (lt_of_get3 x3) (fun e => ?_)).trans x3, x4.grown hg x4.size (fun b e => ?_)⟩
          · have := HO5.out _ e.symm; omega
          · have := HO5.out _ e.symm; omega
          · have := HO5.out _ e.symm; omega
          · have := HO5.out _ e; omega
        have hS0 : (∀ j, W5.cell? ⟨w.heap.size, j, none⟩ = (#[.int .i64 (a.length : Int), .int .u64 (FW a 0 : Int), .int .u64 (FW a 1 : Int), .int .u64 (FW a 2 : Int), .int .u64 (FW a 3 : Int), .int .u64 (OW a 0 : Int), .int .u64 (OW a 1 : Int), .int .u64 (OW a 2 : Int), .int .u64 (OW a 3 : Int), .slice zq n zk] : Array Value)[j]?) ∧ (∀ j, W5.cell? ⟨W1.heap.size, j, none⟩ = (#[.int .i64 (D.length : Int), .int .u64 (FW D 0 : Int), .int .u64 (FW D 1 : Int), .int .u64 (FW D 2 : Int), .int .u64 (FW D 3 : Int), .int .u64 (OW D 0 : Int), .int .u64 (OW D 1 : Int), .int .u64 (OW D 2 : Int), .int .u64 (OW D 3 : Int)] : Array Value)[j]?) := ⟨(cells_block (HK.out W5 (Below.refl _ _)).1).1, (cells_block (HK.out W5 (Below.refl _ _)).2.1).1⟩
        have hS0d : (∀ j, W5.drew.cell? ⟨w.heap.size, j, none⟩ = (#[.int .i64 (a.length : Int), .int .u64 (FW a 0 : Int), .int .u64 (FW a 1 : Int), .int .u64 (FW a 2 : Int), .int .u64 (FW a 3 : Int), .int .u64 (OW a 0 : Int), .int .u64 (OW a 1 : Int), .int .u64 (OW a 2 : Int), .int .u64 (OW a 3 : Int), .slice zq n zk] : Array Value)[j]?) ∧ (∀ j, W5.drew.cell? ⟨W1.heap.size, j, none⟩ = (#[.int .i64 (D.length : Int), .int .u64 (FW D 0 : Int), .int .u64 (FW D 1 : Int), .int .u64 (FW D 2 : Int), .int .u64 (FW D 3 : Int), .int .u64 (OW D 0 : Int), .int .u64 (OW D 1 : Int), .int .u64 (OW D 2 : Int), .int .u64 (OW D 3 : Int)] : Array Value)[j]?) := hS0
        have hS1 : (∀ j, (W5.alloc (.cells #[.int .i64 (D.length : Int), .int .u64 (FW D 0 : Int), .int .u64 (FW D 1 : Int), .int .u64 (FW D 2 : Int), .int .u64 (FW D 3 : Int), .int .u64 (OW D 0 : Int), .int .u64 (OW D 1 : Int), .int .u64 (OW D 2 : Int), .int .u64 (OW D 3 : Int)] 40 (0, 0))).cell? ⟨w.heap.size, j, none⟩ = (#[.int .i64 (a.length : Int), .int .u64 (FW a 0 : Int), .int .u64 (FW a 1 : Int), .int .u64 (FW a 2 : Int), .int .u64 (FW a 3 : Int), .int .u64 (OW a 0 : Int), .int .u64 (OW a 1 : Int), .int .u64 (OW a 2 : Int), .int .u64 (OW a 3 : Int), .slice zq n zk] : Array Value)[j]?) ∧ (∀ j, (W5.alloc (.cells #[.int .i64 (D.length : Int), .int .u64 (FW D 0 : Int), .int .u64 (FW D 1 : Int), .int .u64 (FW D 2 : Int), .int .u64 (FW D 3 : Int), .int .u64 (OW D 0 : Int), .int .u64 (OW D 1 : Int), .int .u64 (OW D 2 : Int), .int .u64 (OW D 3 : Int)] 40 (0, 0))).cell? ⟨W1.heap.size, j, none⟩ = (#[.int .i64 (D.length : Int), .int .u64 (FW D 0 : Int), .int .u64 (FW D 1 : Int), .int .u64 (FW D 2 : Int), .int .u64 (FW D 3 : Int), .int .u64 (OW D 0 : Int), .int .u64 (OW D 1 : Int), .int .u64 (OW D 2 : Int), .int .u64 (OW D 3 : Int)] : Array Value)[j]?) := ⟨(cells_block (HK.out _ (belA (Below.refl _ _) _)).1).1, (cells_block (HK.out _ (belA (Below.refl _ _) _)).2.1).1⟩
        have hS1d : (∀ j, (W5.alloc (.cells #[.int .i64 (D.length : Int), .int .u64 (FW D 0 : Int), .int .u64 (FW D 1 : Int), .int .u64 (FW D 2 : Int), .int .u64 (FW D 3 : Int), .int .u64 (OW D 0 : Int), .int .u64 (OW D 1 : Int), .int .u64 (OW D 2 : Int), .int .u64 (OW D 3 : Int)] 40 (0, 0))).drew.cell? ⟨w.heap.size, j, none⟩ = (#[.int .i64 (a.length : Int), .int .u64 (FW a 0 : Int), .int .u64 (FW a 1 : Int), .int .u64 (FW a 2 : Int), .int .u64 (FW a 3 : Int), .int .u64 (OW a 0 : Int), .int .u64 (OW a 1 : Int), .int .u64 (OW a 2 : Int), .int .u64 (OW a 3 : Int), .slice zq n zk] : Array Value)[j]?) ∧ (∀ j, (W5.alloc (.cells #[.int .i64 (D.length : Int), .int .u64 (FW D 0 : Int), .int .u64 (FW D 1 : Int), .int .u64 (FW D 2 : Int), .int .u64 (FW D 3 : Int), .int .u64 (OW D 0 : Int), .int .u64 (OW D 1 : Int), .int .u64 (OW D 2 : Int), .int .u64 (OW D 3 : Int)] 40 (0, 0))).drew.cell? ⟨W1.heap.size, j, none⟩ = (#[.int .i64 (D.length : Int), .int .u64 (FW D 0 : Int), .int .u64 (FW D 1 : Int), .int .u64 (FW D 2 : Int), .int .u64 (FW D 3 : Int), .int .u64 (OW D 0 : Int), .int .u64 (OW D 1 : Int), .int .u64 (OW D 2 : Int), .int .u64 (OW D 3 : Int)] : Array Value)[j]?) := hS1
        have o5d : W5.drew.ownsRow W3.heap.size 40 9 (.slice p5 m c5) m (ces F) := o5
        clear g5 hF hm hb5 HDD
        go_upto_region 7 with fail
        go_region_held3 (fun W => (∀ j, W.cell? ⟨w.heap.size, j, none⟩ = (#[.int .i64 (a.length : Int), .int .u64 (FW a 0 : Int), .int .u64 (FW a 1 : Int), .int .u64 (FW a 2 : Int), .int .u64 (FW a 3 : Int), .int .u64 (OW a 0 : Int), .int .u64 (OW a 1 : Int), .int .u64 (OW a 2 : Int), .int .u64 (OW a 3 : Int), .slice zq n zk] : Array Value)[j]?) ∧ (∀ j, W.cell? ⟨W1.heap.size, j, none⟩ = (#[.int .i64 (D.length : Int), .int .u64 (FW D 0 : Int), .int .u64 (FW D 1 : Int), .int .u64 (FW D 2 : Int), .int .u64 (FW D 3 : Int), .int .u64 (OW D 0 : Int), .int .u64 (OW D 1 : Int), .int .u64 (OW D 2 : Int), .int .u64 (OW D 3 : Int)] : Array Value)[j]?)) (first | with_reducible exact hS0 | with_reducible exact hS0d | with_reducible exact hS1 | with_reducible exact hS1d | with_reducible exact hSP | with_reducible exact hS7 | fail) (first | (refine step_append_lies _ (by rfl) _ _ _ (by rfl) W3.heap.size 40 i0 _ 9 72 Tryz.underlying53 hi hz0 hz1 hz2 rfl (by decide) (.slice p5 m c5) m (ces F) (by rfl) (by first | exact World.ownsRow.alloc o5 _ | exact World.ownsRow.alloc o5d _) ⟨_, 0, none⟩ 1 1 (ce9 D) (by rfl) (by rfl) (World.news_of_block (cs := #[.int .i64 (D.length : Int), .int .u64 (FW D 0 : Int), .int .u64 (FW D 1 : Int), .int .u64 (FW D 2 : Int), .int .u64 (FW D 3 : Int), .int .u64 (OW D 0 : Int), .int .u64 (OW D 1 : Int), .int .u64 (OW D 2 : Int), .int .u64 (OW D 3 : Int)]) (t := 40) (fr := (0, 0)) (alloc_get _ _)) (by simp [ce9, Value.oneCell']) (by omega) (by unfold maxLen; omega) (by omega) (by simp; omega) _ rfl ?_; intro g9 c9 w7 o7 g7 _ _; obtain ⟨x1, x2, x3, x4⟩ := HXG.out _ _ (by first | exact belA (Below.refl _ _) _ | exact belA (Below.refl _ _).drew _) g7; have hS7 : (∀ j, w7.cell? ⟨w.heap.size, j, none⟩ = (#[.int .i64 (a.length : Int), .int .u64 (FW a 0 : Int), .int .u64 (FW a 1 : Int), .int .u64 (FW a 2 : Int), .int .u64 (FW a 3 : Int), .int .u64 (OW a 0 : Int), .int .u64 (OW a 1 : Int), .int .u64 (OW a 2 : Int), .int .u64 (OW a 3 : Int), .slice zq n zk] : Array Value)[j]?) ∧ (∀ j, w7.cell? ⟨W1.heap.size, j, none⟩ = (#[.int .i64 (D.length : Int), .int .u64 (FW D 0 : Int), .int .u64 (FW D 1 : Int), .int .u64 (FW D 2 : Int), .int .u64 (FW D 3 : Int), .int .u64 (OW D 0 : Int), .int .u64 (OW D 1 : Int), .int .u64 (OW D 2 : Int), .int .u64 (OW D 3 : Int)] : Array Value)[j]?) := ⟨(cells_block x1).1, (cells_block x2).1⟩; obtain ⟨hcR, hfR⟩ := cells_block x3; have hSP := And.intro (far10 (b := (w.heap.size + 1 + 1)) (.int .i64 (a.length : Int)) (.int .u64 (FW a 0 : Int)) (.int .u64 (FW a 1 : Int)) (.int .u64 (FW a 2 : Int)) (.int .u64 (FW a 3 : Int)) (.int .u64 (OW a 0 : Int)) (.int .u64 (OW a 1 : Int)) (.int .u64 (OW a 2 : Int)) (.int .u64 (OW a 3 : Int)) (.slice (some ⟨g9, 0, none⟩) (m + 1) c9) (by omega) hS7.1) (far10 (b := (w.heap.size + 1 + 1)) (.int .i64 (a.length : Int)) (.int .u64 (FW a 0 : Int)) (.int .u64 (FW a 1 : Int)) (.int .u64 (FW a 2 : Int)) (.int .u64 (FW a 3 : Int)) (.int .u64 (OW a 0 : Int)) (.int .u64 (OW a 1 : Int)) (.int .u64 (OW a 2 : Int)) (.int .u64 (OW a 3 : Int)) (.slice (some ⟨g9, 0, none⟩) (m + 1) c9) HLT2.out hS7.2)))
        have HP : Hid (Below w.heap.size w (put10 w7 (w.heap.size + 1 + 1) (.int .i64 (a.length : Int)) (.int .u64 (FW a 0 : Int)) (.int .u64 (FW a 1 : Int)) (.int .u64 (FW a 2 : Int)) (.int .u64 (FW a 3 : Int)) (.int .u64 (OW a 0 : Int)) (.int .u64 (OW a 1 : Int)) (.int .u64 (OW a 2 : Int)) (.int .u64 (OW a 3 : Int)) (.slice (some ⟨g9, 0, none⟩) (m + 1) c9)) ∧ (put10 w7 (w.heap.size + 1 + 1) (.int .i64 (a.length : Int)) (.int .u64 (FW a 0 : Int)) (.int .u64 (FW a 1 : Int)) (.int .u64 (FW a 2 : Int)) (.int .u64 (FW a 3 : Int)) (.int .u64 (OW a 0 : Int)) (.int .u64 (OW a 1 : Int)) (.int .u64 (OW a 2 : Int)) (.int .u64 (OW a 3 : Int)) (.slice (some ⟨g9, 0, none⟩) (m + 1) c9)).heap[(w.heap.size + 1 + 1)]? = some (.cells #[.int .i64 (a.length : Int), .int .u64 (FW a 0 : Int), .int .u64 (FW a 1 : Int), .int .u64 (FW a 2 : Int), .int .u64 (FW a 3 : Int), .int .u64 (OW a 0 : Int), .int .u64 (OW a 1 : Int), .int .u64 (OW a 2 : Int), .int .u64 (OW a 3 : Int), .slice (some ⟨g9, 0, none⟩) (m + 1) c9] 62 (0, 0)) ∧ (put10 w7 (w.heap.size + 1 + 1) (.int .i64 (a.length : Int)) (.int .u64 (FW a 0 : Int)) (.int .u64 (FW a 1 : Int)) (.int .u64 (FW a 2 : Int)) (.int .u64 (FW a 3 : Int)) (.int .u64 (OW a 0 : Int)) (.int .u64 (OW a 1 : Int)) (.int .u64 (OW a 2 : Int)) (.int .u64 (OW a 3 : Int)) (.slice (some ⟨g9, 0, none⟩) (m + 1) c9)).ownsRow 0 40 9 (.slice (some ⟨g9, 0, none⟩) (m + 1) c9) (m + 1) (ces (F ++ [D]))) := ⟨put10_below _ _ _ _ _ _ _ _ _ _ x4 (by omega), put10_get _ _ _ _ _ _ _ _ _ _ x3, put10_own _ _ _ _ _ _ _ _ _ _ (by rw [ces_snoc]; exact own_base o7 (Nat.zero_le _)) (own_ne o7 x3)⟩
        clear hS0 hS0d hS1 hS1d hS7 hSP hcR hfR o7 g7 x1 x2 x3 x4 o5 o5d
        go_wp2_with fail
        refine bodyPost_ret (res_term2 _ _ (w.heap.size + 1 + 1) _ _ _ _ _ _ _ _ _ _ Tryz.results63 rfl HP.out.2.1) rfl ?_
        exact ⟨HP.out.1, .inr ⟨F ++ [D], _, _, HV.out, by rw [List.length_append, HM5.out]; rfl, IRK_own HP.out.2.2 (by rw [List.length_append, HM5.out]; rfl)⟩⟩
end Go.Proofs.YtfhghplplkkpmaaGreatDoor

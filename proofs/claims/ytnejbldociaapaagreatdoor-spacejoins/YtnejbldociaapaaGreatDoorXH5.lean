import Derived.Test.YtnejbldociaapaaGreatDoorXBE
import Derived.Test.YtnejbldociaapaaGreatDoorXH4
import Derived.Test.YtnejbldociaapaaGreatDoorXBI
namespace Go.Proofs.YtnejbldociaapaaGreatDoor
open Go.RowKit Go.Shelf
def digB (d : UInt8) : Bool := d == 48 || d == 49
/-- a header of that width -/
def hdB (b : Int) (l : List UInt8) : Bool := ((l.length : Int) == b) && !(b == 0) && l.all digB
theorem dig_succ {s : ByteArray} {k : Nat} (hk : k < s.size) (h : ∀ j (h : j < s.data.toList.length), j < k → digB s.data.toList[j] = true) (c : s[k] = 48 ∨ s[k] = 49) : ∀ j (h : j < s.data.toList.length), j < k + 1 → digB s.data.toList[j] = true := by
  intro j hj hlt
  by_cases e : j < k
  · exact h j hj e
  · obtain rfl : j = k := by omega
    have e2 : s.data.toList[j] = s[j] := rfl
    rw [e2]
    unfold digB
    rcases c with c | c <;> rw [c] <;> rfl
set_option maxHeartbeats 2000000 in
theorem dHeader_any (b : Int) (s : ByteArray) (w : World) (hs : s.size ≤ maxLen) :
    Calls Tryz.prog 31 #[.int .i64 b, .string s] w fun e w' => e = .returned (.bool (hdB b s.data.toList)) ∧ Below w.heap.size w w' := by
  unfold maxLen at hs
  have hlen : Hid (s.data.toList.length = s.size) := by simp [Hid]
  by_cases h1 : (s.size : Int) = b
  · by_cases h2 : b = 0
    · have hR : Hid (hdB b s.data.toList = false) := by
        unfold Hid hdB
        rw [show (b == 0) = true by simpa using h2]
        simp
      have m1 : ((s.size : Int) != b) = false := by simpa using h1
      have m2 : (b == 0) = true := by simpa using h2
      clear h1 h2
      go_enter Tryz.func31, Tryz.ntmps31
      go_wp2
      go_ret
      exact ⟨by rw [hR.out]; rfl, Below.refl _ _⟩
    · have hQ : Hid (∀ q, s.data.toList.all digB = q → hdB b s.data.toList = q) := fun q hq => by
        unfold hdB
        rw [hlen.out, hq, show ((s.size : Int) == b) = true by simpa using h1, show (b == 0) = false by simpa using h2]
        simp
      have m1 : ((s.size : Int) != b) = false := by simpa using h1
      have m2 : (b == 0) = false := by simpa using h2
      clear h1 h2
      go_enter Tryz.func31, Tryz.ntmps31
      go_wp2
      clear m1 m2
      go_loopw [5] (fun i wr => ∃ k : Nat, k ≤ s.size ∧ i = .int .i64 k ∧ (∀ j (h : j < s.data.toList.length), j < k → digB s.data.toList[j] = true) ∧ Below w.heap.size w wr) (fun i _ => s.size - (intOf i).toNat)
      case atStart => exact ⟨0, Nat.zero_le _, rfl, fun j _ h => by omega, Below.refl _ _⟩
      case round =>
        obtain ⟨k, hk, rfl, htri, hB⟩ := hrel
        by_cases hlt : k < s.size
        · have i1 : (k : Int) < (s.size : Int) := by omega
          have i0 : (0 : Int) ≤ (k : Int) := by omega
          by_cases c3 : s[k] = 48 ∨ s[k] = 49
          · have R := dig_succ hlt htri c3
            clear htri
            rcases c3 with c | c
            · have m1 : ((s[k].toNat : Int) != 48) = false := by rw [c]; decide
              clear c
              go_wp2
              go_roundw
              case rel => exact ⟨k + 1, by omega, by go_num, R, hB⟩
              case measure => simp [intOf]; omega
            · have m1 : ((s[k].toNat : Int) != 48) = true := by rw [c]; decide
              have m2 : ((s[k].toNat : Int) != 49) = false := by rw [c]; decide
              clear c
              go_wp2
              go_roundw
              case rel => exact ⟨k + 1, by omega, by go_num, R, hB⟩
              case measure => simp [intOf]; omega
          · have c48 : ¬ s[k] = 48 := fun e => c3 (.inl e)
            have c49 : ¬ s[k] = 49 := fun e => c3 (.inr e)
            have R : Hid (hdB b s.data.toList = false) := hQ.out _ (by
              rw [List.all_eq_false]
              refine ⟨s[k], List.getElem_mem (l := s.data.toList) (by have := hlen.out; omega), ?_⟩
              unfold digB
              simp [c48, c49])
            have m1 : ((s[k].toNat : Int) != 48) = true := by rw [show ((s[k].toNat : Int) != 48) = !(s[k] == 48) from byte_bne s[k] 48 (by decide)]; simp [c48]
            have m2 : ((s[k].toNat : Int) != 49) = true := by rw [show ((s[k].toNat : Int) != 49) = !(s[k] == 49) from byte_bne s[k] 49 (by decide)]; simp [c49]
            clear htri c48 c49 c3
            go_wp2
            go_ret
            exact ⟨by rw [R.out]; rfl, hB⟩
        · have R : Hid (hdB b s.data.toList = true) := hQ.out _ (by
            rw [List.all_eq_true]
            intro t ht
            obtain ⟨j, hj, rfl⟩ := List.getElem_of_mem ht
            exact htri j hj (by have := hlen.out; omega))
          clear htri
          go_wp2
          go_ret
          exact ⟨by rw [R.out]; rfl, hB⟩
  · have hR : Hid (hdB b s.data.toList = false) := by
      unfold Hid hdB
      rw [hlen.out, show ((s.size : Int) == b) = false by simpa using h1]
      simp
    have m1 : ((s.size : Int) != b) = true := by simpa using h1
    clear h1
    go_enter Tryz.func31, Tryz.ntmps31
    go_wp2
    go_ret
    exact ⟨by rw [hR.out]; rfl, Below.refl _ _⟩
end Go.Proofs.YtnejbldociaapaaGreatDoor
namespace Go.Proofs.YtnejbldociaapaaGreatDoor
open Go.RowKit Go.Shelf
/-- the document's: a header is in a term -/
def tdB (c : List UInt8) (L : List (List UInt8)) (h : List UInt8) : Bool := wiB h c && L.all (fun m => !wiB h m)
theorem good_hd {b : Int} {l : List UInt8} (h : hdB b l = true) (hb : b ≤ 256) : good l = true := by
  unfold hdB at h
  obtain ⟨h1, h2⟩ := Bool.and_eq_true_iff.1 h
  have h3 : (l.length : Int) = b := by simpa using (Bool.and_eq_true_iff.1 h1).1
  have h4 := List.all_eq_true.1 h2
  unfold good
  rw [Bool.and_eq_true, List.all_eq_true]
  refine ⟨by simp; omega, fun x hx => ?_⟩
  have h5 := h4 x hx
  unfold digB at h5
  unfold tri
  rcases Bool.or_eq_true_iff.1 h5 with h5 | h5 <;> rw [h5] <;> simp
set_option maxRecDepth 100000 in
set_option maxHeartbeats 4000000 in
theorem dHas_any (b : Int) (V : Value) (Ts : List (List UInt8 × List (List UInt8))) (l : List UInt8) (w : World) (h : RSR w V Ts) (hl : Ts.length ≤ 1000000) (hll : ∀ t ∈ Ts, t.2.length ≤ 1000000) (hb : b ≤ 256) (hs : l.length ≤ maxLen) : Calls Tryz.prog 15 #[.agg #[.int .i64 b, V], .string ⟨l.toArray⟩] w fun e w' => e = .returned (.bool (hdB b l && Ts.any (fun t => tdB t.1 t.2 l))) ∧ Below w.heap.size w w' := by
  obtain ⟨Z, p, cp, rfl, rfl, hr, hq⟩ := h
  rw [List.length_map] at hl
  obtain ⟨n, hn⟩ : ∃ n, Z.length = n := ⟨_, rfl⟩
  rw [hn] at hl ⊢
  obtain ⟨w2, hw2⟩ : ∃ w2, w.alloc (.cells #[.int .i64 b, .slice p n cp] 27 (0, 0)) = w2 := ⟨_, rfl⟩
  have h0 : w2.heap[w.heap.size]? = some (.cells #[.int .i64 b, .slice p n cp] 27 (0, 0)) := by rw [← hw2]; exact alloc_get _ _
  have hB : Below w.heap.size w w2 := by rw [← hw2]; exact belA (Below.refl _ _) _
  have HN : Hid (Z.length = n) := hn
  have HR : Hid (IRR w2 p Z) := hr.later hB
  have HQ : Hid (∀ z ∈ Z, IRSt w2 z.q z.L ∧ z.L.length ≤ 1000000) := fun z hz => ⟨(hq z hz).later hB, hll z.cont (List.mem_map_of_mem (f := ZT.cont) hz)⟩
  have HB : Hid (Below w.heap.size w w2) := hB
  have HC : Hid (∀ W, Below w2.heap.size w2 W → ∀ j, W.cell? ⟨w.heap.size, j, none⟩ = (#[.int .i64 b, .slice p n cp] : Array Value)[j]?) := fun W hW => (cells_block (keepblk3 hW h0)).1
  obtain ⟨hc0, -⟩ := cells_block h0
  obtain ⟨P, hP⟩ : ∃ P : ZT → Bool, (fun z => tdB z.c z.L l) = P := ⟨_, rfl⟩
  have HP : Hid (∀ z, P z = tdB z.c z.L l) := fun n => by rw [← hP]
  obtain ⟨R, hR⟩ : ∃ R, (Z.map ZT.cont).any (fun t => tdB t.1 t.2 l) = R := ⟨_, rfl⟩
  rw [hR]
  have HCV : Hid (R = Z.any P) := by
    unfold Hid
    rw [← hR, List.any_map, ← hP]
    rfl
  clear hR
  have H1 : Hid (∀ q, hdB b l = q → Calls Tryz.prog 31 #[.int .i64 b, .string ⟨l.toArray⟩] w2 fun e w' => e = .returned (.bool q) ∧ Below w2.heap.size w2 w') := fun q hq => by
    rw [← hq]
    exact dHeader_any b ⟨l.toArray⟩ w2 hs
  cases hd : hdB b l with
  | false =>
    have H2 := H1.out false hd
    clear h0 hr hq hB hn hP hd H1
    go_enter Tryz.func15, Tryz.ntmps15
    go_wp2_with fail
    refine H2.mono ?_
    rintro e W1 ⟨rfl, hb1⟩
    go_wp2_with fail
    go_ret
    exact ⟨rfl, bel0 HB.out hb1⟩
  | true =>
    have H2 := H1.out true hd
    have HIN : Hid (∀ y W, Calls Tryz.prog 32 #[.string ⟨l.toArray⟩, .string ⟨y.toArray⟩] W fun e w' => e = .returned (.bool (wiB l y)) ∧ Below W.heap.size W w') := fun y W => dinside_any l y W (good_hd hd hb)
    clear h0 hr hq hB hn hP hd H1 hb hs hll
    go_enter Tryz.func15, Tryz.ntmps15
    go_wp2_with fail
    refine H2.mono ?_
    rintro e W1 ⟨rfl, hb1⟩
    have HB1 : Hid (Below w2.heap.size w2 W1) := hb1
    clear hc0 hw2 hb1 H2
    go_wp2_with fail
    go_loopw [5] (fun v5 wr => ∃ k : Nat, v5 = .int .i64 k ∧ k ≤ n ∧ Hid (∀ i t, i < k → Z[i]? = some t → P t = false) ∧ Below w2.heap.size w2 wr) (fun v5 _ => n - (intOf v5).toNat)
    case atStart => exact ⟨0, rfl, Nat.zero_le _, fun i t hi => by omega, HB1.out⟩
    case round =>
      clear HB1
      obtain ⟨k, rfl, hk, hok, hBk⟩ := hrel
      have hc1 := HC.out wr hBk
      by_cases hlt : k < n
      · have j1 : (k : Int) < (n : Int) := by omega
        have j0 : (0 : Int) ≤ (k : Int) := by omega
        obtain ⟨z, hz⟩ : ∃ z, Z[k]? = some z := ⟨_, List.getElem?_eq_getElem (by rw [HN.out]; exact hlt)⟩
        obtain ⟨zc, zq, zk, zL⟩ := z
        obtain ⟨g, o0, rfl, p0, p1⟩ := HR.out wr hBk k _ hz
        simp only at p0 p1
        have HT : Hid (Z[k]? = some ⟨zc, zq, zk, zL⟩) := hz
        have HZ := HQ.out _ (List.mem_of_getElem? hz)
        have HZL : Hid (IRSt w2 zq zL) := HZ.1
        have hzl : zL.length ≤ 1000000 := HZ.2
        have HPt : Hid (P ⟨zc, zq, zk, zL⟩ = (wiB l zc && zL.all (fun m => !wiB l m))) := HP.out _
        have HC2 : Hid (∀ W, Below w2.heap.size w2 W → (∀ j, W.cell? ⟨w.heap.size, j, none⟩ = (#[.int .i64 b, .slice (some ⟨g, o0, none⟩) n cp] : Array Value)[j]?) ∧ W.cell? ⟨g, o0 + k * 2 + 1, none⟩ = some (.slice zq zL.length zk)) := fun W hW => by
          obtain ⟨g2, o2, e, c0, c1⟩ := HR.out W hW k _ HT.out
          injection e with e
          injection e with e1 e2
          subst e1 e2
          exact ⟨HC.out W hW, c1⟩
        obtain ⟨m, hm⟩ : ∃ m, zL.length = m := ⟨_, rfl⟩
        rw [hm] at p1 hzl HC2
        have HM : Hid (zL.length = m) := hm
        clear hz HZ hm
        go_wp2_with fail
        refine (HIN.out zc _).mono ?_
        rintro e W8 ⟨rfl, hb8⟩
        have hB8 := bel0 hBk hb8
        obtain ⟨y, hy⟩ : ∃ y, wiB l zc = y := ⟨_, rfl⟩
        rw [hy]
        have HY : Hid (wiB l zc = y) := hy
        have HB8 : Hid (Below w2.heap.size w2 W8) := hB8
        clear hc1 p0 p1 hBk hb8 hy hB8
        go_wp2_with fail
        go_loopw [6, 7] (fun v6 v7 ws => ∃ (j : Nat) (x : Bool), v6 = .bool x ∧ v7 = .int .i64 j ∧ j ≤ m ∧ Hid ((x = true ∧ y = true ∧ ∀ i u, i < j → zL[i]? = some u → wiB l u = false) ∨ (x = false ∧ (wiB l zc && zL.all (fun m => !wiB l m)) = false)) ∧ Below w2.heap.size w2 ws) (fun v6 v7 _ => 2 * (m - (intOf v7).toNat) + (match v6 with | .bool false => 0 | _ => 1))
        case atStart =>
          refine ⟨0, y, rfl, rfl, Nat.zero_le _, ?_, HB8.out⟩
          cases y with
          | true => exact .inl ⟨rfl, rfl, fun i u h => by omega⟩
          | false => exact .inr ⟨rfl, by rw [HY.out]; rfl⟩
        case round =>
          clear HB8
          obtain ⟨j, x, rfl, rfl, hj, HJ, hBs⟩ := hrel
          obtain ⟨hc2, hc3⟩ := HC2.out _ hBs
          cases x with
          | false =>
            have HF : Hid (P ⟨zc, zq, zk, zL⟩ = false) := by
              rcases HJ.out with ⟨h, _⟩ | ⟨_, h⟩
              · cases h
              · exact HPt.out.trans h
            have HX : Hid (∀ i t, i < k + 1 → Z[i]? = some t → P t = false) := fun i v hi hv => by
              by_cases e : i = k
              · subst e
                rw [HT.out] at hv
                obtain rfl := Option.some.inj hv
                exact HF.out
              · exact hok.out i v (by omega) hv
            clear HJ
            by_cases hlj : j < m
            · have j2 : (j : Int) < (m : Int) := by omega
              go_wp2_with fail
              go_roundw
              case rel => exact ⟨k + 1, by go_num, by omega, HX, hBs⟩
              case measure => simp [intOf]; omega
            · have j2 : ¬ (j : Int) < (m : Int) := by omega
              go_wp2_with fail
              go_roundw
              case rel => exact ⟨k + 1, by go_num, by omega, HX, hBs⟩
              case measure => simp [intOf]; omega
          | true =>
            have HNJ : Hid (y = true ∧ ∀ i u, i < j → zL[i]? = some u → wiB l u = false) := by
              rcases HJ.out with ⟨_, h⟩ | ⟨h, _⟩
              · exact h
              · cases h
            clear HJ
            by_cases hlj : j < m
            · have j2 : (j : Int) < (m : Int) := by omega
              have j3 : (0 : Int) ≤ (j : Int) := by omega
              obtain ⟨u, hu⟩ : ∃ u, zL[j]? = some u := ⟨_, List.getElem?_eq_getElem (by rw [HM.out]; exact hlj)⟩
              obtain ⟨g3, o3, rfl, hc4⟩ := HZL.out _ hBs j u hu
              have HU : Hid (zL[j]? = some u) := hu
              clear hu
              go_wp2_with fail
              refine (HIN.out u _).mono ?_
              rintro e W9 ⟨rfl, hb9⟩
              have hB9 := bel0 hBs hb9
              obtain ⟨q, hq⟩ : ∃ q, wiB l u = q := ⟨_, rfl⟩
              rw [hq]
              have HJ2 : Hid (((!q) = true ∧ y = true ∧ ∀ i z, i < j + 1 → zL[i]? = some z → wiB l z = false) ∨ ((!q) = false ∧ (wiB l zc && zL.all (fun m => !wiB l m)) = false)) := by
                cases q with
                | true =>
                  refine .inr ⟨rfl, ?_⟩
                  have : zL.all (fun m => !wiB l m) = false := List.all_eq_false.2 ⟨u, List.mem_of_getElem? HU.out, by rw [hq]; simp⟩
                  rw [this]
                  simp
                | false =>
                  refine .inl ⟨rfl, HNJ.out.1, fun i z hi hz => ?_⟩
                  by_cases e : i = j
                  · subst e
                    rw [HU.out] at hz
                    obtain rfl := Option.some.inj hz
                    exact hq
                  · exact HNJ.out.2 i z (by omega) hz
              clear hc2 hc3 hc4 hb9 hBs hq HNJ
              cases q with
              | true =>
                go_wp2_with fail
                go_roundw
                case rel => exact ⟨j + 1, false, rfl, by go_num, by omega, HJ2, hB9⟩
                case measure => simp [intOf]; omega
              | false =>
                go_wp2_with fail
                go_roundw
                case rel => exact ⟨j + 1, true, rfl, by go_num, by omega, HJ2, hB9⟩
                case measure => simp [intOf]; omega
            · have j2 : ¬ (j : Int) < (m : Int) := by omega
              have HF : Hid (Z.any P = true) := by
                refine List.any_eq_true.2 ⟨_, List.mem_of_getElem? HT.out, ?_⟩
                rw [HPt.out, HY.out, HNJ.out.1, Bool.true_and]
                refine List.all_eq_true.2 (fun t ht => ?_)
                obtain ⟨i, hi, he⟩ := List.getElem_of_mem ht
                rw [HNJ.out.2 i t (by have := HM.out; omega) (by rw [List.getElem?_eq_getElem hi, he])]
                rfl
              clear HNJ
              go_wp2_with fail
              go_ret
              exact ⟨by rw [HCV.out, HF.out]; rfl, bel0 HB.out hBs⟩
      · have j1 : ¬ (k : Int) < (n : Int) := by omega
        have HX : Hid (Z.any P = false) := any_noV (n := k) (by rw [HN.out]; omega) hok.out
        clear hok
        go_wp2_with fail
        go_ret
        exact ⟨by rw [HCV.out, HX.out]; rfl, bel0 HB.out hBk⟩
end Go.Proofs.YtnejbldociaapaaGreatDoor

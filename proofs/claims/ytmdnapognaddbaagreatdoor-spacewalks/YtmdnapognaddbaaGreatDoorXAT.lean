import Derived.Test.YtmdnapognaddbaaGreatDoorXAS
import Derived.OneCell
import Derived.Deep.AppendLies
namespace Go.Proofs.YtmdnapognaddbaaGreatDoor
open Go.RowKit Go.Shelf
theorem any_no {T : List (List UInt8)} {p : List UInt8 → Bool} {n : Nat} (hn : T.length ≤ n) (h : ∀ j t, j < n → T[j]? = some t → p t = false) : T.any p = false := by
  rw [List.any_eq_false]
  intro t ht
  obtain ⟨j, hj, he⟩ := List.getElem_of_mem ht
  rw [h j t (by omega) (by rw [List.getElem?_eq_getElem hj, he])]
  simp
theorem app_bel {w wr w1 : World} {o : Obj} {base : Nat} {e : TypeId} {size : Nat} {v : Value} {n : Nat} {xs : List Value} (hB : Below w.heap.size w wr) (hown : wr.ownsRow base e size v n xs) (hg : (wr.alloc o).grownBy w1 v.ownBlock) (hb : w.heap.size ≤ base) : Below w.heap.size w w1 :=
  (belA hB o).grown hg (belA hB o).size (fun k h => Nat.le_trans hb (hown.lt k h).1)
set_option maxRecDepth 100000 in
set_option maxHeartbeats 4000000 in
theorem put_any (T : List (List UInt8)) (x : List UInt8) (n : Nat) (v : Value) (B : Nat) (w : World) (hn : T.length = n) (hN : n ≤ 1000000) (h : w.ownsRow B 9 1 v n (stx T)) (hB : B ≤ w.heap.size) (gT : ∀ t ∈ T, good t = true) (gx : good x = true) :
    Calls Tryz.prog 69 #[v, .string ⟨x.toArray⟩] w fun e w' => ∃ v', e = .returned v' ∧ w'.ownsRow B 9 1 v' (putT T x).length (stx (putT T x)) ∧ Below w.heap.size w w' := by
  obtain ⟨p, cap, rfl⟩ := shapeQ1 h
  have HR : Hid (IRSt w p T) := IRSt_own h hn
  have HO : Hid (∀ W, Below w.heap.size w W → W.ownsRow B 9 1 (.slice p n cap) n (stx T)) := fun W hW => own_belQ h hW
  have HN : Hid (T.length = n) := hn
  have HG : Hid (∀ t ∈ T, good t = true) := gT
  obtain ⟨iS, hiS, hzS0, hzS1, hzS2⟩ := info_parts info_str2
  clear h hn gT
  go_enter Tryz.func69, Tryz.ntmps69
  go_wp2_with fail
  go_loopw [5] (fun i wr => ∃ k : Nat, k ≤ n ∧ i = .int .i64 k ∧ Hid (∀ j t, j < k → T[j]? = some t → wiB x t = false) ∧ Below w.heap.size w wr) (fun i _ => n - (intOf i).toNat)
  case atStart => exact ⟨0, Nat.zero_le _, rfl, fun j t hj => by omega, Below.refl _ _⟩
  case round =>
    obtain ⟨k, hk, rfl, hno, hBw⟩ := hrel
    by_cases hlt : k < n
    · have j1 : (k : Int) < (n : Int) := by omega
      have j0 : (0 : Int) ≤ (k : Int) := by omega
      obtain ⟨t, ht⟩ : ∃ t, T[k]? = some t := ⟨_, List.getElem?_eq_getElem (by rw [HN.out]; exact hlt)⟩
      obtain ⟨g, o0, rfl, hc⟩ := HR.out wr hBw k t ht
      have HT : Hid (T[k]? = some t) := ht
      have HH : Hid (Calls Tryz.prog 89 #[.string ⟨x.toArray⟩, .string ⟨t.toArray⟩] wr fun e w' => e = .returned (.bool (wiB x t)) ∧ Below wr.heap.size wr w') := dinside_any x t wr gx
      clear ht
      cases hy : wiB x t with
      | true =>
        have HA : Hid (T.any (fun y => wiB x y) = true) := List.any_eq_true.2 ⟨t, List.mem_of_getElem? HT.out, hy⟩
        have HY : Hid (wiB x t = true) := hy
        clear hy
        go_wp2_with fail
        refine HH.out.mono ?_
        rintro e W1 ⟨rfl, hb1⟩
        rw [HY.out]
        go_wp2_with fail
        go_ret
        have hp : putT T x = T := by unfold putT; rw [if_pos HA.out]
        exact ⟨_, rfl, by rw [hp, HN.out]; exact HO.out W1 (bel0 hBw hb1), bel0 hBw hb1⟩
      | false =>
        have HX : Hid (∀ j t, j < k + 1 → T[j]? = some t → wiB x t = false) := fun j u hj hu => by
          by_cases e : j = k
          · subst e
            rw [HT.out] at hu
            obtain rfl := Option.some.inj hu
            exact hy
          · exact hno.out j u (by omega) hu
        have HY : Hid (wiB x t = false) := hy
        clear hy
        go_wp2_with fail
        refine HH.out.mono ?_
        rintro e W1 ⟨rfl, hb1⟩
        rw [HY.out]
        go_wp2_with fail
        go_roundw
        case rel => exact ⟨k + 1, by omega, by go_num, HX, bel0 hBw hb1⟩
        case measure => simp [intOf]; omega
    · have j1 : ¬ (k : Int) < (n : Int) := by omega
      have HA : Hid (T.any (fun y => wiB x y) = false) := any_no (n := k) (by rw [HN.out]; omega) hno.out
      clear hno
      go_wp2_with fail
      go_loopw [6, 7, 8] (fun m d i ws => ∃ q : Nat, q ≤ n ∧ i = .int .i64 q ∧ d = .bool (dn T x q) ∧ ws.ownsRow w.heap.size 9 1 m (mk T x q).length (stx (mk T x q)) ∧ Below w.heap.size w ws) (fun _ _ i _ => n - (intOf i).toNat)
      case atStart => exact ⟨0, Nat.zero_le _, rfl, rfl, World.ownsRow_nil _ _ _ _, hBw⟩
      case round =>
        clear hBw j1
        obtain ⟨q, hq, rfl, rfl, om, hBs⟩ := hrel
        by_cases hlq : q < n
        · have j1 : (q : Int) < (n : Int) := by omega
          have j0 : (0 : Int) ≤ (q : Int) := by omega
          obtain ⟨y, hy⟩ : ∃ y, T[q]? = some y := ⟨_, List.getElem?_eq_getElem (by rw [HN.out]; exact hlq)⟩
          obtain ⟨g, o0, rfl, hc⟩ := HR.out _ hBs q y hy
          have HT : Hid (T[q]? = some y) := hy
          have HH : Hid (∀ W, Calls Tryz.prog 89 #[.string ⟨y.toArray⟩, .string ⟨x.toArray⟩] W fun e w' => e = .returned (.bool (wiB y x)) ∧ Below W.heap.size W w') := fun W => dinside_any y x W (HG.out y (List.mem_of_getElem? hy))
          have HC : Hid (∀ W, Below w.heap.size w W → W.cell? ⟨g, o0 + q, none⟩ = some (.string ⟨y.toArray⟩)) := fun W hW => by
            obtain ⟨g2, o2, e, hc2⟩ := HR.out W hW q y hy
            injection e with e
            injection e with e1 e2
            subst e1 e2
            exact hc2
          have hml := mk_len T x q
          have HM : Hid ((mk T x q).length ≤ q + 1) := hml
          clear hy hml
          obtain ⟨dq, hdq⟩ : ∃ dq, dn T x q = dq := ⟨_, rfl⟩
          obtain ⟨M, hM⟩ : ∃ M, mk T x q = M := ⟨_, rfl⟩
          have HD : Hid (dn T x q = dq) := hdq
          have HMM : Hid (mk T x q = M) := hM
          rw [hdq]
          rw [hM] at om HM
          clear hdq hM
          have hMl : M.length ≤ 1000001 := by have := HM.out; omega
          cases hw : wiB y x with
          | true =>
            have HY : Hid (wiB y x = true) := hw
            have HK : Hid (mk T x (q + 1) = M ∧ dn T x (q + 1) = dq) := by
              have h1 := mk_skip HT.out hw
              exact ⟨h1.1.trans HMM.out, h1.2.trans HD.out⟩
            clear hw
            go_wp2_with fail
            refine (HH.out _).mono ?_
            rintro e W1 ⟨rfl, hb1⟩
            rw [HY.out]
            go_wp2_with fail
            go_roundw
            case rel => exact ⟨q + 1, by omega, by go_num, by rw [HK.out.2], by rw [HK.out.1]; exact own_belQ om hb1, bel0 hBs hb1⟩
            case measure => simp [intOf]; omega
          | false =>
            have HY : Hid (wiB y x = false) := hw
            clear hw
            cases dq
            · cases hl : Op.bytesLess x y with
              | true =>
                have HK : Hid (mk T x (q + 1) = M ++ [x] ++ [y] ∧ dn T x (q + 1) = true) := by
                  have h1 := mk_now HT.out HY.out HD.out hl
                  rw [HMM.out] at h1
                  exact h1
                have hl2 : Op.bytesLess (⟨x.toArray⟩ : ByteArray).toList (⟨y.toArray⟩ : ByteArray).toList = true := by rw [ByteArray.toList_eq, ByteArray.toList_eq]; exact hl
                go_wp2_with fail
                refine (HH.out _).mono ?_
                rintro e W1 ⟨rfl, hb1⟩
                rw [HY.out]
                have om1 := own_belQ om hb1
                have hB1 := bel0 hBs hb1
                have hc1 := HC.out W1 hB1
                have hz1' := hB1.size
                clear om hBs hb1 hc
                go_wp2_with (at_builtin; refine wpList_append_own _ rfl _ _ 33 rfl w.heap.size 9 iS (.string ⟨#[]⟩) 1 16 Tryz.underlying33 hiS hzS0 hzS1 hzS2 rfl (by decide) _ _ _ rfl (om1.alloc _) ⟨_, 0, none⟩ 1 1 [.string ⟨x.toArray⟩] rfl rfl (cell_one_new _ _ _) (by simp [Value.oneCell']) (by unfold maxLen; omega) (by omega) (by simp; omega) ?_)
                intro v2 w5 om5 hgrow5 _
                have hB5 := app_bel hB1 om1 hgrow5 (Nat.le_refl _)
                have hc5 := HC.out w5 hB5
                have hz5 := hB5.size
                clear om1 hB1 hc1 hgrow5 hz1'
                go_wp2_with (at_builtin; refine wpList_append_own _ rfl _ _ 33 rfl w.heap.size 9 iS (.string ⟨#[]⟩) 1 16 Tryz.underlying33 hiS hzS0 hzS1 hzS2 rfl (by decide) _ _ _ rfl (om5.alloc _) ⟨_, 0, none⟩ 1 1 [.string ⟨y.toArray⟩] rfl rfl (cell_one_new _ _ _) (by simp [Value.oneCell']) (by unfold maxLen; omega) (by omega) (by simp; omega) ?_)
                intro v3 w6 om6 hgrow6 _
                have hB6 := app_bel hB5 om5 hgrow6 (Nat.le_refl _)
                clear om5 hB5 hc5 hgrow6 hz5
                go_wp2_with fail
                go_roundw
                case rel => exact ⟨q + 1, by omega, by go_num, by rw [HK.out.2], by rw [HK.out.1, stx_snoc, stx_snoc, List.length_append, List.length_append, List.append_assoc]; exact om6, hB6⟩
                case measure => simp [intOf]; omega
              | false =>
                have HK : Hid (mk T x (q + 1) = M ++ [y] ∧ dn T x (q + 1) = false) := by
                  have h1 := mk_not HT.out HY.out HD.out hl
                  rw [HMM.out] at h1
                  exact h1
                have hl2 : Op.bytesLess (⟨x.toArray⟩ : ByteArray).toList (⟨y.toArray⟩ : ByteArray).toList = false := by rw [ByteArray.toList_eq, ByteArray.toList_eq]; exact hl
                go_wp2_with fail
                refine (HH.out _).mono ?_
                rintro e W1 ⟨rfl, hb1⟩
                rw [HY.out]
                have om1 := own_belQ om hb1
                have hB1 := bel0 hBs hb1
                have hc1 := HC.out W1 hB1
                have hz1' := hB1.size
                clear om hBs hb1 hc
                go_wp2_with (at_builtin; refine wpList_append_own _ rfl _ _ 33 rfl w.heap.size 9 iS (.string ⟨#[]⟩) 1 16 Tryz.underlying33 hiS hzS0 hzS1 hzS2 rfl (by decide) _ _ _ rfl (om1.alloc _) ⟨_, 0, none⟩ 1 1 [.string ⟨y.toArray⟩] rfl rfl (cell_one_new _ _ _) (by simp [Value.oneCell']) (by unfold maxLen; omega) (by omega) (by simp; omega) ?_)
                intro v3 w6 om6 hgrow6 _
                have hB6 := app_bel hB1 om1 hgrow6 (Nat.le_refl _)
                clear om1 hB1 hc1 hgrow6 hz1'
                go_wp2_with fail
                go_roundw
                case rel => exact ⟨q + 1, by omega, by go_num, by rw [HK.out.2], by rw [HK.out.1, stx_snoc, List.length_append]; exact om6, hB6⟩
                case measure => simp [intOf]; omega
            · have HK : Hid (mk T x (q + 1) = M ++ [y] ∧ dn T x (q + 1) = true) := by
                have h1 := mk_done HT.out HY.out HD.out
                rw [HMM.out] at h1
                exact h1
              go_wp2_with fail
              refine (HH.out _).mono ?_
              rintro e W1 ⟨rfl, hb1⟩
              rw [HY.out]
              have om1 := own_belQ om hb1
              have hB1 := bel0 hBs hb1
              have hc1 := HC.out W1 hB1
              have hz1' := hB1.size
              clear om hBs hb1 hc
              go_wp2_with (at_builtin; refine wpList_append_own _ rfl _ _ 33 rfl w.heap.size 9 iS (.string ⟨#[]⟩) 1 16 Tryz.underlying33 hiS hzS0 hzS1 hzS2 rfl (by decide) _ _ _ rfl (om1.alloc _) ⟨_, 0, none⟩ 1 1 [.string ⟨y.toArray⟩] rfl rfl (cell_one_new _ _ _) (by simp [Value.oneCell']) (by unfold maxLen; omega) (by omega) (by simp; omega) ?_)
              intro v3 w6 om6 hgrow6 _
              have hB6 := app_bel hB1 om1 hgrow6 (Nat.le_refl _)
              clear om1 hB1 hc1 hgrow6 hz1'
              go_wp2_with fail
              go_roundw
              case rel => exact ⟨q + 1, by omega, by go_num, by rw [HK.out.2], by rw [HK.out.1, stx_snoc, List.length_append]; exact om6, hB6⟩
              case measure => simp [intOf]; omega
        · have j1 : ¬ (q : Int) < (n : Int) := by omega
          have HE : Hid (putT T x = if dn T x q = true then mk T x q else mk T x q ++ [x]) := mk_end (by rw [HN.out]; omega) HA.out
          have hml := mk_len T x q
          obtain ⟨dq, hdq⟩ : ∃ dq, dn T x q = dq := ⟨_, rfl⟩
          obtain ⟨M, hM⟩ : ∃ M, mk T x q = M := ⟨_, rfl⟩
          rw [hdq]
          rw [hM] at om hml
          rw [hM, hdq] at HE
          clear hdq hM
          have hz := hBs.size
          cases dq
          · go_wp2_with (at_builtin; refine wpList_append_own _ rfl _ _ 33 rfl w.heap.size 9 iS (.string ⟨#[]⟩) 1 16 Tryz.underlying33 hiS hzS0 hzS1 hzS2 rfl (by decide) _ _ _ rfl (om.alloc _) ⟨_, 0, none⟩ 1 1 [.string ⟨x.toArray⟩] rfl rfl (cell_one_new _ _ _) (by simp [Value.oneCell']) (by unfold maxLen; omega) (by omega) (by simp; omega) ?_)
            intro v3 w6 om6 hgrow6 _
            have hB6 := app_bel hBs om hgrow6 (Nat.le_refl _)
            obtain ⟨p3, c3, rfl⟩ := shapeQ1 om6
            clear om hgrow6
            go_wp2_with fail
            go_ret
            refine ⟨_, rfl, ?_, hB6⟩
            have he : putT T x = M ++ [x] := HE.out
            rw [he, stx_snoc, List.length_append]
            exact own_base om6 hB
          · obtain ⟨p3, c3, rfl⟩ := shapeQ1 om
            go_wp2_with fail
            go_ret
            refine ⟨_, rfl, ?_, hBs⟩
            have he : putT T x = M := HE.out
            rw [he]
            exact own_base om hB
end Go.Proofs.YtmdnapognaddbaaGreatDoor
namespace Go.Proofs.YtmdnapognaddbaaGreatDoor
open Go.RowKit Go.Shelf
theorem res_rt2 {fn : Func} {p u : Tmp} {m : Nat × Nat} (tmps : Array Value) (W : World) (b : Nat) (v0 v1 : Value) (hr : fn.results = #[.cell p 64, .tmp u]) (hp : tmps.getD p undef = .pointer (some ⟨b, 0, none⟩)) (h : W.heap[b]? = some (.cells #[v0, v1] 64 m)) :
    (results fn tmps).run Tryz.prog W = .ok (.tuple #[.agg #[v0, v1], tmps.getD u undef]) W := by
  have hc : ∀ j, W.cell? ⟨b, j, none⟩ = (#[v0, v1] : Array Value)[j]? := by
    intro j; unfold World.cell?; rw [h]; simp
  rw [results_cell_tmp hr, hp]
  simp [go_sem, hc]
theorem res_rs2 {fn : Func} {p u : Tmp} {m : Nat × Nat} (tmps : Array Value) (W : World) (b : Nat) (v0 v1 : Value) (hr : fn.results = #[.cell p 27, .tmp u]) (hp : tmps.getD p undef = .pointer (some ⟨b, 0, none⟩)) (h : W.heap[b]? = some (.cells #[v0, v1] 27 m)) :
    (results fn tmps).run Tryz.prog W = .ok (.tuple #[.agg #[v0, v1], tmps.getD u undef]) W := by
  have hc : ∀ j, W.cell? ⟨b, j, none⟩ = (#[v0, v1] : Array Value)[j]? := by
    intro j; unfold World.cell?; rw [h]; simp
  rw [results_cell_tmp hr, hp]
  simp [go_sem, hc]
theorem set2_get {W : World} {b t : Nat} {x0 x1 : Value} (v0 v1 : Value) (h : W.heap[b]? = some (.cells #[x0, x1] t (0, 0))) : ((W.setCell ⟨b, 0, none⟩ v0).setCell ⟨b, 1, none⟩ v1).heap[b]? = some (.cells #[v0, v1] t (0, 0)) := by
  have h0 := set_get (j := 0) v0 h
  have h1 := set_get (j := 1) v1 h0
  rw [h1]
  simp
theorem set_gr (X : World) (b k : Nat) (u : Value) : X.grownBy (X.setCell ⟨b, k, none⟩ u) (some b) := ⟨rfl, rfl, rfl, by simp, fun j _ hj => heap_setCell_other X ⟨b, k, none⟩ j u (fun e => hj (by simp [e]))⟩
theorem lesL_step {c : List UInt8} {M : List (List UInt8)} {k : Nat} {m : List UInt8} (h : M[k]? = some m) : putL (lesL c (M.take (k + 1))) = if agB m c = true then putT (putL (lesL c (M.take k))) (mtT m c) else putL (lesL c (M.take k)) := by
  rw [List.take_add_one, h]
  show putL (lesL c (M.take k ++ [m])) = _
  rw [lesL_snoc]
  split
  · unfold putL
    rw [List.foldl_append]
    rfl
  · rw [List.append_nil]
theorem putL_mem {L : List (List UInt8)} {t : List UInt8} (h : t ∈ putL L) : t ∈ L := by
  rw [putL_eq] at h
  exact topL_mem ((srtT_perm _).mem_iff.1 h)
theorem putL_len (L : List (List UInt8)) : (putL L).length ≤ L.length := by
  rw [putL_eq, srtT_len]
  exact topL_len L
/-- what the document's term holds of a list -/
def DT (w1 wr : World) (c : List UInt8) (v : Value) (M : List (List UInt8)) : Prop := wr.heap[w1.heap.size]? = some (.cells #[.string ⟨c.toArray⟩, v] 64 (0, 0)) ∧ wr.ownsRow (w1.heap.size + 1) 9 1 v (putL (lesL c M)).length (stx (putL (lesL c M))) ∧ Below w1.heap.size w1 wr
set_option maxRecDepth 100000 in
set_option maxHeartbeats 4000000 in
theorem term_any (c : List UInt8) (L : List (List UInt8)) (n : Nat) (p : Option Addr) (cp : Nat) (w : World) (hn : L.length = n) (hN : n ≤ 1000000) (gc : good c = true) (gL : ∀ t ∈ L, good t = true) (hr : IRSt w p L) :
    Calls Tryz.prog 48 #[.string ⟨c.toArray⟩, .slice p n cp] w fun e w' => Below w.heap.size w w' ∧ ((setO c L = none ∧ e = .returned (.tuple #[.agg #[.string ⟨#[]⟩, .slice none 0 0], .bool false])) ∨ ∃ R v, setO c L = some R ∧ e = .returned (.tuple #[.agg #[.string ⟨c.toArray⟩, v], .bool true]) ∧ w'.ownsRow w.heap.size 9 1 v R.length (stx (srtT R))) := by
  obtain ⟨w1, hw1⟩ : ∃ w1, w.alloc (.cells #[.string ⟨#[]⟩, .slice none 0 0] 64 (0, 0)) = w1 := ⟨_, rfl⟩
  have hA1 : w1.heap[w.heap.size]? = some (.cells #[.string ⟨#[]⟩, .slice none 0 0] 64 (0, 0)) := by rw [← hw1]; exact alloc_get _ _
  have hB1 : Below w.heap.size w w1 := by rw [← hw1]; exact belA (Below.refl _ _) _
  have hs1 : w1.heap.size = w.heap.size + 1 := by rw [← hw1]; simp
  have HA1 : Hid (w1.heap[w.heap.size]? = some (.cells #[.string ⟨#[]⟩, .slice none 0 0] 64 (0, 0)) ∧ Below w.heap.size w w1 ∧ w1.heap.size = w.heap.size + 1) := ⟨hA1, hB1, hs1⟩
  have HD0 : Hid (DT w1 (w1.alloc (.cells #[.string ⟨c.toArray⟩, .slice none 0 0] 64 (0, 0))) c (.slice none 0 0) (L.take 0)) := ⟨alloc_get _ _, World.ownsRow_nil _ _ _ _, belA (Below.refl _ _) _⟩
  have HR : Hid (IRSt w p L) := hr
  have HN : Hid (L.length = n) := hn
  have HG : Hid (∀ t ∈ L, good t = true) := gL
  have HGC : Hid (good c = true) := gc
  clear hA1 hB1 hr hn gL gc
  go_enter Tryz.func48, Tryz.ntmps48
  go_wp2_with fail
  rw [← hs1]
  clear hs1 hw1
  go_loopw [7] (fun i wr => ∃ (k : Nat) (v : Value), k ≤ n ∧ i = .int .i64 k ∧ Hid (DT w1 wr c v (L.take k))) (fun i _ => n - (intOf i).toNat)
  case atStart => exact ⟨0, _, Nat.zero_le _, rfl, HD0⟩
  case round =>
    clear HD0
    obtain ⟨k, v, hk, rfl, HD⟩ := hrel
    have hBw := bel0 HA1.out.2.1 HD.out.2.2
    by_cases hlt : k < n
    · have j1 : (k : Int) < (n : Int) := by omega
      have j0 : (0 : Int) ≤ (k : Int) := by omega
      obtain ⟨t, ht⟩ : ∃ t, L[k]? = some t := ⟨_, List.getElem?_eq_getElem (by rw [HN.out]; exact hlt)⟩
      obtain ⟨g, o0, rfl, hc⟩ := HR.out wr hBw k t ht
      have HT : Hid (L[k]? = some t) := ht
      have gt := HG.out t (List.mem_of_getElem? ht)
      have HH : Hid (Calls Tryz.prog 54 #[.string ⟨t.toArray⟩, .string ⟨c.toArray⟩] wr fun e w' => e = .returned (.tuple #[.string ⟨(mtT t c).toArray⟩, .bool (agB t c)]) ∧ Below wr.heap.size wr w') := dmeet_any t c wr gt HGC.out
      have gM : Hid (good (mtT t c) = true) := good_mtT t c gt HGC.out
      clear ht gt hBw
      obtain ⟨M, hM⟩ : ∃ M, mtT t c = M := ⟨_, rfl⟩
      have HM : Hid (mtT t c = M) := hM
      rw [hM] at HH gM
      clear hM
      cases ha : agB t c with
      | true =>
        have HAg : Hid (agB t c = true) := ha
        have HK : Hid (putL (lesL c (L.take (k + 1))) = putT (putL (lesL c (L.take k))) M) := by
          unfold Hid
          rw [lesL_step HT.out, if_pos ha, HM.out]
        clear ha
        go_wp2_with fail
        refine HH.out.mono ?_
        rintro e W1 ⟨rfl, hb1⟩
        rw [HAg.out]
        have hblk := keepblk3 hb1 HD.out.1
        obtain ⟨hcT, hfT⟩ := cells_block hblk
        have hB1 := bel0 HD.out.2.2 hb1
        have own1 := own_belQ HD.out.2.1 hb1
        have hlt1 := lt_of_get3 hblk
        obtain ⟨pv, cv2, hpv⟩ := shapeQ1 own1
        have HU : Hid (W1.heap[w1.heap.size]? = some (.cells #[.string ⟨c.toArray⟩, v] 64 (0, 0)) ∧ W1.ownsRow (w1.heap.size + 1) 9 1 v (putL (lesL c (L.take k))).length (stx (putL (lesL c (L.take k)))) ∧ Below w1.heap.size w1 W1) := ⟨hblk, own1, hB1⟩
        have hgood : ∀ x ∈ putL (lesL c (L.take k)), good x = true := fun x hx => lesL_good HGC.out (fun m hm => HG.out m (List.mem_of_mem_take hm)) x (putL_mem hx)
        have hlen : (putL (lesL c (L.take k))).length ≤ 1000000 := by
          have h1 := putL_len (lesL c (L.take k))
          have h2 := lesL_len c (L.take k)
          have h3 : (L.take k).length ≤ k := List.length_take_le _ _
          omega
        have HP : Hid (Calls Tryz.prog 69 #[v, .string ⟨M.toArray⟩] W1 fun e w' => ∃ v', e = .returned v' ∧ w'.ownsRow (w1.heap.size + 1) 9 1 v' (putT (putL (lesL c (L.take k))) M).length (stx (putT (putL (lesL c (L.take k))) M)) ∧ Below W1.heap.size W1 w') := put_any _ M _ v (w1.heap.size + 1) W1 rfl hlen own1 (by omega) hgood gM.out
        clear hblk hB1 own1 hb1 hlt1 hgood hlen HD HH hc
        subst hpv
        go_wp2_with fail
        refine HP.out.mono ?_
        rintro e W2 ⟨v2, rfl, own2, hb2⟩
        obtain ⟨p2, c2, rfl⟩ := shapeQ1 own2
        have hblk2 := keepblk3 hb2 HU.out.1
        obtain ⟨hcT2, hfT2⟩ := cells_block hblk2
        have HD2 : Hid (DT w1 (W2.setCell ⟨w1.heap.size, 1, none⟩ (.slice p2 (putT (putL (lesL c (L.take k))) M).length c2)) c (.slice p2 (putT (putL (lesL c (L.take k))) M).length c2) (L.take (k + 1))) := by
          refine ⟨?_, ?_, (bel0 HU.out.2.2 hb2).setCell (Nat.le_refl _) _⟩
          · have h1 := set_get (j := 1) (.slice p2 (putT (putL (lesL c (L.take k))) M).length c2) hblk2
            rw [h1]
            simp
          · rw [HK.out]
            exact own2.kept (set_gr _ _ _ _) (.inr (fun e => by have := (own2.lt _ e).1; omega))
        clear own2 hb2 hblk2 HU HP hcT hfT
        go_wp2_with fail
        go_roundw
        case rel => exact ⟨k + 1, _, by omega, by go_num, HD2⟩
        case measure => simp [intOf]; omega
      | false =>
        have HAg : Hid (agB t c = false) := ha
        have HK : Hid (putL (lesL c (L.take (k + 1))) = putL (lesL c (L.take k))) := by
          unfold Hid
          rw [lesL_step HT.out, if_neg (by rw [ha]; simp)]
        clear ha
        go_wp2_with fail
        refine HH.out.mono ?_
        rintro e W1 ⟨rfl, hb1⟩
        rw [HAg.out]
        have HD2 : Hid (DT w1 W1 c v (L.take (k + 1))) := by
          refine ⟨keepblk3 hb1 HD.out.1, ?_, bel0 HD.out.2.2 hb1⟩
          rw [HK.out]
          exact own_belQ HD.out.2.1 hb1
        clear HD HH hb1 hc
        go_wp2_with fail
        go_roundw
        case rel => exact ⟨k + 1, _, by omega, by go_num, HD2⟩
        case measure => simp [intOf]; omega
    · have j1 : ¬ (k : Int) < (n : Int) := by omega
      have hkL : L.take k = L := List.take_of_length_le (by rw [HN.out]; omega)
      rw [hkL] at HD
      clear hkL
      obtain ⟨hcT, hfT⟩ := cells_block HD.out.1
      obtain ⟨hcA, hfA⟩ := cells_block (keepblk3 HD.out.2.2 HA1.out.1)
      have own := HD.out.2.1
      cases hS : setO c L with
      | none =>
        have hp := put_none HGC.out HG.out hS
        rw [hp] at own
        obtain ⟨g, cap, rfl⟩ : ∃ g cap, v = .slice (some ⟨g, 0, none⟩) 1 cap := by
          rcases own.2 with ⟨_, h0⟩ | ⟨g, cap, cur, e, _⟩
          · simp at h0
          · exact ⟨g, cap, e⟩
        have hc0 : wr.cell? ⟨g, 0, none⟩ = some (.string ⟨c.toArray⟩) := stx_at (k := 0) (L := [c]) own (by simp) rfl
        have HS : Hid (setO c L = none) := hS
        have hne : ((⟨c.toArray⟩ : ByteArray).toList == (⟨c.toArray⟩ : ByteArray).toList) = true := by simp
        have HF : Hid (((wr.setCell ⟨w.heap.size, 0, none⟩ (.string ⟨#[]⟩)).setCell ⟨w.heap.size, 1, none⟩ (.slice none 0 0)).heap[w.heap.size]? = some (.cells #[.string ⟨#[]⟩, .slice none 0 0] 64 (0, 0)) ∧ Below w.heap.size w ((wr.setCell ⟨w.heap.size, 0, none⟩ (.string ⟨#[]⟩)).setCell ⟨w.heap.size, 1, none⟩ (.slice none 0 0))) := ⟨set2_get _ _ (keepblk3 HD.out.2.2 HA1.out.1), (hBw.setCell (Nat.le_refl _) _).setCell (Nat.le_refl _) _⟩
        clear hp own hS hBw
        go_wp2_with fail
        refine bodyPost_ret (v := .tuple #[.agg #[.string ⟨#[]⟩, .slice none 0 0], .bool false]) (res_rt2 _ _ w.heap.size _ _ Tryz.results48 rfl HF.out.1) rfl ?_
        exact ⟨HF.out.2, .inl ⟨HS.out, rfl⟩⟩
      | some R =>
        obtain ⟨hp, hcn⟩ := put_some hS
        rw [hp] at own
        obtain ⟨q, cap, rfl⟩ := shapeQ1 own
        have HS : Hid (setO c L = some R) := hS
        have hlt1 : w.heap.size < w1.heap.size := by have := HA1.out.2.2; omega
        have HF : Hid (((wr.setCell ⟨w.heap.size, 0, none⟩ (.string ⟨c.toArray⟩)).setCell ⟨w.heap.size, 1, none⟩ (.slice q (srtT R).length cap)).heap[w.heap.size]? = some (.cells #[.string ⟨c.toArray⟩, .slice q (srtT R).length cap] 64 (0, 0)) ∧ Below w.heap.size w ((wr.setCell ⟨w.heap.size, 0, none⟩ (.string ⟨c.toArray⟩)).setCell ⟨w.heap.size, 1, none⟩ (.slice q (srtT R).length cap)) ∧ ((wr.setCell ⟨w.heap.size, 0, none⟩ (.string ⟨c.toArray⟩)).setCell ⟨w.heap.size, 1, none⟩ (.slice q (srtT R).length cap)).ownsRow w.heap.size 9 1 (.slice q (srtT R).length cap) R.length (stx (srtT R))) := by
          refine ⟨set2_get _ _ (keepblk3 HD.out.2.2 HA1.out.1), (hBw.setCell (Nat.le_refl _) _).setCell (Nat.le_refl _) _, ?_⟩
          have k1 := own.kept (set_gr wr w.heap.size 0 (.string ⟨c.toArray⟩)) (.inr (fun e => by have := (own.lt _ e).1; omega))
          have k2 := k1.kept (set_gr _ w.heap.size 1 (.slice q (srtT R).length cap)) (.inr (fun e => by have := (k1.lt _ e).1; omega))
          rw [srtT_len] at k2 ⊢
          exact own_base k2 (by omega)
        by_cases h1 : ((srtT R).length : Int) = 1
        · have h1n : (srtT R).length = 1 := by omega
          have b1 : (((srtT R).length : Int) == 1) = true := by rw [h1]; rfl
          obtain ⟨x, hx⟩ : ∃ x, srtT R = [x] := by
            match hz : srtT R, h1n with
            | [x], _ => exact ⟨x, rfl⟩
          obtain ⟨g, cap2, hqq⟩ : ∃ g cap2, (Value.slice q (srtT R).length cap) = .slice (some ⟨g, 0, none⟩) (srtT R).length cap2 := by
            rcases own.2 with ⟨_, h0⟩ | ⟨g, cap2, cur, e, _⟩
            · omega
            · exact ⟨g, cap2, e⟩
          injection hqq with e1 _ e3
          subst e1
          have hc0 : wr.cell? ⟨g, 0, none⟩ = some (.string ⟨x.toArray⟩) := stx_at (k := 0) own (by omega) (by simp [hx])
          have hxc : (x == c) = false := by
            rw [beq_eq_false_iff_ne]
            rintro rfl
            exact hcn (by rw [hx]; simp)
          have hne : ((⟨x.toArray⟩ : ByteArray).toList == (⟨c.toArray⟩ : ByteArray).toList) = false := by rw [ByteArray.toList_eq, ByteArray.toList_eq]; exact hxc
          have i1 : (0 : Int) < ((srtT R).length : Int) := by omega
          clear hp hcn own hS hBw hx h1n h1 e3
          go_wp2_with fail
          refine bodyPost_ret (v := .tuple #[.agg #[.string ⟨c.toArray⟩, .slice (some ⟨g, 0, none⟩) (srtT R).length cap], .bool true]) (res_rt2 _ _ w.heap.size _ _ Tryz.results48 rfl HF.out.1) rfl ?_
          first | exact ⟨HF.out.2.1, .inr ⟨R, HS.out, _, rfl, HF.out.2.2⟩⟩ | exact ⟨HF.out.2.1, .inr ⟨_, rfl, HF.out.2.2⟩⟩ | exact ⟨HF.out.2.1, _, rfl, HF.out.2.2⟩ | exact ⟨HF.out.2.1, .inr ⟨_, _, rfl, rfl, HF.out.2.2⟩⟩
        · have b1 : (((srtT R).length : Int) == 1) = false := by rw [beq_eq_false_iff_ne]; exact h1
          clear hp hcn own hS hBw h1
          go_wp2_with fail
          refine bodyPost_ret (v := .tuple #[.agg #[.string ⟨c.toArray⟩, .slice q (srtT R).length cap], .bool true]) (res_rt2 _ _ w.heap.size _ _ Tryz.results48 rfl HF.out.1) rfl ?_
          first | exact ⟨HF.out.2.1, .inr ⟨R, HS.out, _, rfl, HF.out.2.2⟩⟩ | exact ⟨HF.out.2.1, .inr ⟨_, rfl, HF.out.2.2⟩⟩ | exact ⟨HF.out.2.1, _, rfl, HF.out.2.2⟩ | exact ⟨HF.out.2.1, .inr ⟨_, _, rfl, rfl, HF.out.2.2⟩⟩
end Go.Proofs.YtmdnapognaddbaaGreatDoor
namespace Go.Proofs.YtmdnapognaddbaaGreatDoor
open Go.RowKit Go.Shelf
theorem idx_at {L : List UInt8} {s : UInt8} {k : Nat} (h : L[k]? = some s) (hn : ∀ j, j < k → L[j]? ≠ some s) : Lib.indexByte L s = k := by
  have h1 := Lib.indexByte_ge L s
  by_cases h2 : Lib.indexByte L s = -1
  · exact absurd h (Lib.indexByte_none h2 k)
  · obtain ⟨o, ho⟩ : ∃ o : Nat, Lib.indexByte L s = o := ⟨(Lib.indexByte L s).toNat, by omega⟩
    obtain ⟨h3, h4⟩ := Lib.indexByte_some ho
    rw [ho]
    rcases Nat.lt_trichotomy o k with h5 | h5 | h5
    · exact absurd h3 (hn o h5)
    · rw [h5]
    · exact absurd h (h4 k h5)
theorem idx_no {L : List UInt8} {s : UInt8} (h : ∀ j : Nat, L[j]? ≠ some s) : Lib.indexByte L s < 0 := by
  have h1 := Lib.indexByte_ge L s
  by_cases h2 : Lib.indexByte L s = -1
  · omega
  · obtain ⟨o, ho⟩ : ∃ o : Nat, Lib.indexByte L s = o := ⟨(Lib.indexByte L s).toNat, by omega⟩
    exact absurd (Lib.indexByte_some ho).1 (h o)
/-- what stands while a text is cut -/
def CTI (L : List UInt8) (s : UInt8) (f k : Nat) (D : List (List UInt8)) : Prop :=
  (k ≤ L.length ∧ f ≤ k ∧ D ++ prts s (L.drop f) = prts s L ∧ ∀ j, f ≤ j → j < k → L[j]? ≠ some s) ∨ (k = L.length + 1 ∧ D = prts s L)
theorem CTI.skip {L : List UInt8} {s x : UInt8} {f k : Nat} {D : List (List UInt8)} (h : CTI L s f k D) (hx : L[k]? = some x) (hne : x ≠ s) : CTI L s f (k + 1) D := by
  have hk := (List.getElem?_eq_some_iff.1 hx).1
  rcases h with ⟨h1, h2, h3, h4⟩ | ⟨h1, _⟩
  · refine .inl ⟨by omega, by omega, h3, fun j h5 h6 => ?_⟩
    by_cases e : j = k
    · subst e
      rw [hx]
      intro e2
      exact hne (Option.some.inj e2)
    · exact h4 j h5 (by omega)
  · omega
theorem CTI.cut {L : List UInt8} {s : UInt8} {f k : Nat} {D : List (List UInt8)} (h : CTI L s f k D) (hx : L[k]? = some s) : CTI L s (k + 1) (k + 1) (D ++ [(L.drop f).take (k - f)]) := by
  have hk := (List.getElem?_eq_some_iff.1 hx).1
  rcases h with ⟨h1, h2, h3, h4⟩ | ⟨h1, _⟩
  · refine .inl ⟨by omega, by omega, ?_, fun j h5 h6 => by omega⟩
    have hi : Lib.indexByte (L.drop f) s = ((k - f : Nat) : Int) := by
      refine idx_at ?_ (fun j hj => ?_)
      · rw [List.getElem?_drop, show f + (k - f) = k from by omega]
        exact hx
      · rw [List.getElem?_drop]
        exact h4 (f + j) (by omega) (by omega)
    rw [prts_pos hi, List.drop_drop, show f + (k - f + 1) = k + 1 from by omega] at h3
    rw [List.append_assoc]
    exact h3
  · omega
theorem CTI.last {L : List UInt8} {s : UInt8} {f : Nat} {D : List (List UInt8)} (h : CTI L s f L.length D) : CTI L s (L.length + 1) (L.length + 1) (D ++ [(L.drop f).take (L.length - f)]) := by
  rcases h with ⟨h1, h2, h3, h4⟩ | ⟨h1, _⟩
  · refine .inr ⟨rfl, ?_⟩
    have hi : Lib.indexByte (L.drop f) s < 0 := by
      refine idx_no (fun j => ?_)
      rw [List.getElem?_drop]
      by_cases hj : f + j < L.length
      · exact h4 (f + j) (by omega) hj
      · rw [List.getElem?_eq_none (by omega)]
        simp
    rw [prts_neg hi] at h3
    rw [← h3, List.take_of_length_le (by simp)]
  · omega
theorem CTI.len {L : List UInt8} {s : UInt8} {f k : Nat} {D : List (List UInt8)} (h : CTI L s f k D) : D.length ≤ (prts s L).length := by
  rcases h with ⟨_, _, h3, _⟩ | ⟨_, h2⟩
  · have := congrArg List.length h3
    rw [List.length_append] at this
    omega
  · rw [h2]
    omega
theorem CTI.fk {L : List UInt8} {s : UInt8} {f k : Nat} {D : List (List UInt8)} (h : CTI L s f k D) (hk : k ≤ L.length) : f ≤ k := by
  rcases h with ⟨_, h2, _⟩ | ⟨h1, _⟩ <;> omega
theorem ext_mid (a : ByteArray) (f k : Nat) : a.extract f k = ⟨((a.data.toList.drop f).take (k - f)).toArray⟩ := by
  refine ByteArray.ext ?_
  rw [ByteArray.data_extract]
  refine Array.ext' ?_
  rw [Array.toList_extract]
set_option maxRecDepth 100000 in
set_option maxHeartbeats 2000000 in
theorem cut_raw (a : ByteArray) (s : UInt8) (w : World) (hL : a.size ≤ 40000) :
    Calls Tryz.prog 46 #[.string a, .int .u8 (s.toNat : Int)] w fun e w' => ∃ v, e = .returned v ∧ w'.ownsRow w.heap.size 9 1 v (prts s a.data.toList).length (stx (prts s a.data.toList)) ∧ Below w.heap.size w w' := by
  obtain ⟨iS, hiS, hzS0, hzS1, hzS2⟩ := info_parts info_str2
  have LA : Hid (a.data.toList.length = a.size) := by simp [Hid]
  have HP : Hid ((prts s a.data.toList).length ≤ 40001) := prts_len s 40000 _ (by rw [LA.out]; exact hL)
  obtain ⟨L, hLL⟩ : ∃ L, a.data.toList = L := ⟨_, rfl⟩
  rw [hLL] at LA HP ⊢
  have HLL : Hid (a.data.toList = L) := hLL
  clear hLL
  go_enter Tryz.func46, Tryz.ntmps46
  go_wp2_with fail
  go_loopw [5, 6, 7] (fun v5 v6 v7 wr => ∃ (D : List (List UInt8)) (f k : Nat), v6 = .int .i64 f ∧ v7 = .int .i64 k ∧ k ≤ a.size + 1 ∧ f ≤ a.size + 1 ∧ Hid (CTI L s f k D) ∧ wr.ownsRow w.heap.size 9 1 v5 D.length (stx D) ∧ Below w.heap.size w wr) (fun _ _ v7 _ => a.size + 1 - (intOf v7).toNat)
  case atStart => exact ⟨[], 0, 0, rfl, rfl, Nat.zero_le _, Nat.zero_le _, .inl ⟨Nat.zero_le _, Nat.le_refl _, rfl, fun j _ h => by omega⟩, World.ownsRow_nil _ _ _ _, Below.refl _ _⟩
  case round =>
    obtain ⟨D, f, k, rfl, rfl, hk, hf, HI, ho, hB⟩ := hrel
    obtain ⟨pv, cv, rfl⟩ := shapeQ1 ho
    have hDl := HI.out.len
    have hPl := HP.out
    by_cases hlt : k ≤ a.size
    · have j1 : (k : Int) ≤ (a.size : Int) := by omega
      have j0 : (0 : Int) ≤ (k : Int) := by omega
      have hfk : f ≤ k := HI.out.fk (by rw [LA.out]; exact hlt)
      have j2 : (f : Int) ≤ (k : Int) := by omega
      have j3 : (0 : Int) ≤ (f : Int) := by omega
      have hz := hB.size
      by_cases hend : k = a.size
      · have q1 : ((k : Int) == (a.size : Int)) = true := by rw [beq_iff_eq]; omega
        have HX : Hid (CTI L s (k + 1) (k + 1) (D ++ [(L.drop f).take (k - f)])) := by
          have h := HI.out
          unfold Hid
          have e : k = L.length := by rw [LA.out]; exact hend
          rw [e] at h ⊢
          exact h.last
        have HEX : Hid (a.extract f k = ⟨((L.drop f).take (k - f)).toArray⟩) := by
          unfold Hid
          rw [← HLL.out]
          exact ext_mid a f k
        clear HI hend
        go_wp2_with (at_builtin; refine wpList_append_own _ rfl _ _ 33 rfl w.heap.size 9 iS (.string ⟨#[]⟩) 1 16 Tryz.underlying33 hiS hzS0 hzS1 hzS2 rfl (by decide) _ _ _ rfl (ho.alloc _) ⟨_, 0, none⟩ 1 1 [.string (a.extract f k)] rfl rfl (cell_one_new _ _ _) (by simp [Value.oneCell']) (by unfold maxLen; omega) (by omega) (by simp; omega) ?_)
        intro v2 w5 o5 g5 _
        have hB5 := app_bel hB ho g5 (Nat.le_refl _)
        clear ho g5 hB hz
        go_wp2_with fail
        go_roundw
        case rel => exact ⟨_, k + 1, k + 1, by go_num, by go_num, by omega, by omega, HX, by rw [stx_snoc, List.length_append, ← HEX.out]; exact o5, hB5⟩
        case measure => simp [intOf]; omega
      · have q1 : ((k : Int) == (a.size : Int)) = false := by rw [beq_eq_false_iff_ne]; omega
        have hka : k < a.size := by omega
        have i1 : (k : Int) < (a.size : Int) := by omega
        have hx : Hid (L[k]? = some a[k]) := by
          unfold Hid
          rw [← HLL.out, List.getElem?_eq_getElem (by simp; exact hka)]
          simp [ByteArray.getElem_eq_getElem_data]
        by_cases hs : a[k] = s
        · have n1 : ((a[k].toNat : Int) == (s.toNat : Int)) = true := by rw [hs]; simp
          have HX : Hid (CTI L s (k + 1) (k + 1) (D ++ [(L.drop f).take (k - f)])) := HI.out.cut (by rw [hx.out, hs])
          have HEX : Hid (a.extract f k = ⟨((L.drop f).take (k - f)).toArray⟩) := by
            unfold Hid
            rw [← HLL.out]
            exact ext_mid a f k
          clear HI hend hs hx
          go_wp2_with (at_builtin; refine wpList_append_own _ rfl _ _ 33 rfl w.heap.size 9 iS (.string ⟨#[]⟩) 1 16 Tryz.underlying33 hiS hzS0 hzS1 hzS2 rfl (by decide) _ _ _ rfl (ho.alloc _) ⟨_, 0, none⟩ 1 1 [.string (a.extract f k)] rfl rfl (cell_one_new _ _ _) (by simp [Value.oneCell']) (by unfold maxLen; omega) (by omega) (by simp; omega) ?_)
          intro v2 w5 o5 g5 _
          have hB5 := app_bel hB ho g5 (Nat.le_refl _)
          clear ho g5 hB hz
          go_wp2_with fail
          go_roundw
          case rel => exact ⟨_, k + 1, k + 1, by go_num, by go_num, by omega, by omega, HX, by rw [stx_snoc, List.length_append, ← HEX.out]; exact o5, hB5⟩
          case measure => simp [intOf]; omega
        · have n1 : ((a[k].toNat : Int) == (s.toNat : Int)) = false := by
            rw [beq_eq_false_iff_ne]
            intro e
            exact hs (UInt8.toNat_inj.1 (by omega))
          have HX : Hid (CTI L s f (k + 1) D) := HI.out.skip hx.out hs
          clear HI hend hs hx
          go_wp2_with fail
          go_roundw
          case rel => exact ⟨D, f, k + 1, by go_num, by go_num, by omega, by omega, HX, ho, hB⟩
          case measure => simp [intOf]; omega
    · have j1 : ¬ (k : Int) ≤ (a.size : Int) := by omega
      have HD : Hid (D = prts s L) := by
        rcases HI.out with ⟨h1, _⟩ | ⟨_, h2⟩
        · rw [LA.out] at h1; omega
        · exact h2
      clear HI
      go_wp2_with fail
      go_ret
      exact ⟨_, rfl, by rw [← HD.out]; exact ho, hB⟩
theorem cut_any (L : List UInt8) (s : UInt8) (w : World) (hL : L.length ≤ 40000) :
    Calls Tryz.prog 46 #[.string ⟨L.toArray⟩, .int .u8 (s.toNat : Int)] w fun e w' => ∃ v, e = .returned v ∧ w'.ownsRow w.heap.size 9 1 v (prts s L).length (stx (prts s L)) ∧ Below w.heap.size w w' := cut_raw ⟨L.toArray⟩ s w (by simpa [ByteArray.size] using hL)
end Go.Proofs.YtmdnapognaddbaaGreatDoor

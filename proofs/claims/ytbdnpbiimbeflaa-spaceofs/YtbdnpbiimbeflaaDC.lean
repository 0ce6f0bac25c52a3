import Derived.Test.YtbdnpbiimbeflaaDB
import Derived.OneCell
namespace Go.Proofs.Ytbdnpbiimbeflaa
open Go.RowKit Go.Shelf
theorem any_no {T : List (List UInt8)} {p : List UInt8 → Bool} {n : Nat} (hn : T.length ≤ n) (h : ∀ j t, j < n → T[j]? = some t → p t = false) : T.any p = false := by
  rw [List.any_eq_false]
  intro t ht
  obtain ⟨j, hj, he⟩ := List.getElem_of_mem ht
  rw [h j t (by omega) (by rw [List.getElem?_eq_getElem hj, he])]
  simp
theorem app_bel {w wr w1 : World} {o : Obj} {base : Nat} {e : TypeId} {size : Nat} {v : Value} {n : Nat} {xs : List Value} (hB : Below w.heap.size w wr) (hown : wr.ownsRow base e size v n xs) (hg : (wr.alloc o).grownBy w1 v.ownBlock) (hb : w.heap.size ≤ base) : Below w.heap.size w w1 :=
  (belA hB o).grown hg (belA hB o).size (fun k h => Nat.le_trans hb (hown.lt k h).1)
set_option maxRecDepth 100000 in
set_option maxHeartbeats 4000000 in
theorem put_any (T : List (List UInt8)) (x : List UInt8) (n : Nat) (v : Value) (B : Nat) (w : World) (hn : T.length = n) (hN : n ≤ 1000000) (h : w.ownsRow B 9 1 v n (stx T)) (hB : B ≤ w.heap.size) (gT : ∀ t ∈ T, good t = true) (gx : good x = true) :
    Calls Try.prog 30 #[v, .string ⟨x.toArray⟩] w fun e w' => ∃ v', e = .returned v' ∧ w'.ownsRow B 9 1 v' (putT T x).length (stx (putT T x)) ∧ Below w.heap.size w w' := by
  obtain ⟨p, cap, rfl⟩ := shapeQ1 h
  have HR : Hid (IRSt w p T) := IRSt_own h hn
  have HO : Hid (∀ W, Below w.heap.size w W → W.ownsRow B 9 1 (.slice p n cap) n (stx T)) := fun W hW => own_belQ h hW
  have HN : Hid (T.length = n) := hn
  have HG : Hid (∀ t ∈ T, good t = true) := gT
  obtain ⟨iS, hiS, hzS0, hzS1, hzS2⟩ := info_parts info_str2
  clear h hn gT
  go_enter Try.func30, Try.ntmps30
  go_wp2_with fail
  go_loopw [5] (fun i wr => ∃ k : Nat, k ≤ n ∧ i = .int .i64 k ∧ Hid (∀ j t, j < k → T[j]? = some t → wiB x t = false) ∧ Below w.heap.size w wr) (fun i _ => n - (intOf i).toNat)
  case atStart => exact ⟨0, Nat.zero_le _, rfl, fun j t hj => by omega, Below.refl _ _⟩
  case round =>
    obtain ⟨k, hk, rfl, hno, hBw⟩ := hrel
    by_cases hlt : k < n
    · have j1 : (k : Int) < (n : Int) := by omega
      have j0 : (0 : Int) ≤ (k : Int) := by omega
      obtain ⟨t, ht⟩ : ∃ t, T[k]? = some t := ⟨_, List.getElem?_eq_getElem (by rw [HN.out]; exact hlt)⟩
      obtain ⟨g, o0, rfl, hc⟩ := HR.out wr hBw k t ht
      have HT : Hid (T[k]? = some t) := ht
      have HH : Hid (Calls Try.prog 49 #[.string ⟨x.toArray⟩, .string ⟨t.toArray⟩] wr fun e w' => e = .returned (.bool (wiB x t)) ∧ Below wr.heap.size wr w') := dinside_any x t wr gx
      clear ht
      cases hy : wiB x t with
      | true =>
        have HA : Hid (T.any (fun y => wiB x y) = true) := List.any_eq_true.2 ⟨t, List.mem_of_getElem? HT.out, hy⟩
        have HY : Hid (wiB x t = true) := hy
        clear hy
        go_wp2_with fail
        refine HH.out.mono ?_
        rintro e W1 ⟨rfl, hb1⟩
        rw [HY.out]
        go_wp2_with fail
        go_ret
        have hp : putT T x = T := by unfold putT; rw [if_pos HA.out]
        exact ⟨_, rfl, by rw [hp, HN.out]; exact HO.out W1 (bel0 hBw hb1), bel0 hBw hb1⟩
      | false =>
        have HX : Hid (∀ j t, j < k + 1 → T[j]? = some t → wiB x t = false) := fun j u hj hu => by
          by_cases e : j = k
          · subst e
            rw [HT.out] at hu
            obtain rfl := Option.some.inj hu
            exact hy
          · exact hno.out j u (by omega) hu
        have HY : Hid (wiB x t = false) := hy
        clear hy
        go_wp2_with fail
        refine HH.out.mono ?_
        rintro e W1 ⟨rfl, hb1⟩
        rw [HY.out]
        go_wp2_with fail
        go_roundw
        case rel => exact ⟨k + 1, by omega, by go_num, HX, bel0 hBw hb1⟩
        case measure => simp [intOf]; omega
    · have j1 : ¬ (k : Int) < (n : Int) := by omega
      have HA : Hid (T.any (fun y => wiB x y) = false) := any_no (n := k) (by rw [HN.out]; omega) hno.out
      clear hno
      go_wp2_with fail
      go_loopw [6, 7, 8] (fun m d i ws => ∃ q : Nat, q ≤ n ∧ i = .int .i64 q ∧ d = .bool (dn T x q) ∧ ws.ownsRow w.heap.size 9 1 m (mk T x q).length (stx (mk T x q)) ∧ Below w.heap.size w ws) (fun _ _ i _ => n - (intOf i).toNat)
      case atStart => exact ⟨0, Nat.zero_le _, rfl, rfl, World.ownsRow_nil _ _ _ _, hBw⟩
      case round =>
        clear hBw j1
        obtain ⟨q, hq, rfl, rfl, om, hBs⟩ := hrel
        by_cases hlq : q < n
        · have j1 : (q : Int) < (n : Int) := by omega
          have j0 : (0 : Int) ≤ (q : Int) := by omega
          obtain ⟨y, hy⟩ : ∃ y, T[q]? = some y := ⟨_, List.getElem?_eq_getElem (by rw [HN.out]; exact hlq)⟩
          obtain ⟨g, o0, rfl, hc⟩ := HR.out _ hBs q y hy
          have HT : Hid (T[q]? = some y) := hy
          have HH : Hid (∀ W, Calls Try.prog 49 #[.string ⟨y.toArray⟩, .string ⟨x.toArray⟩] W fun e w' => e = .returned (.bool (wiB y x)) ∧ Below W.heap.size W w') := fun W => dinside_any y x W (HG.out y (List.mem_of_getElem? hy))
          have HC : Hid (∀ W, Below w.heap.size w W → W.cell? ⟨g, o0 + q, none⟩ = some (.string ⟨y.toArray⟩)) := fun W hW => by
            obtain ⟨g2, o2, e, hc2⟩ := HR.out W hW q y hy
            injection e with e
            injection e with e1 e2
            subst e1 e2
            exact hc2
          have hml := mk_len T x q
          have HM : Hid ((mk T x q).length ≤ q + 1) := hml
          clear hy hml
          obtain ⟨dq, hdq⟩ : ∃ dq, dn T x q = dq := ⟨_, rfl⟩
          obtain ⟨M, hM⟩ : ∃ M, mk T x q = M := ⟨_, rfl⟩
          have HD : Hid (dn T x q = dq) := hdq
          have HMM : Hid (mk T x q = M) := hM
          rw [hdq]
          rw [hM] at om HM
          clear hdq hM
          have hMl : M.length ≤ 1000001 := by have := HM.out; omega
          cases hw : wiB y x with
          | true =>
            have HY : Hid (wiB y x = true) := hw
            have HK : Hid (mk T x (q + 1) = M ∧ dn T x (q + 1) = dq) := by
              have h1 := mk_skip HT.out hw
              exact ⟨h1.1.trans HMM.out, h1.2.trans HD.out⟩
            clear hw
            go_wp2_with fail
            refine (HH.out _).mono ?_
            rintro e W1 ⟨rfl, hb1⟩
            rw [HY.out]
            go_wp2_with fail
            go_roundw
            case rel => exact ⟨q + 1, by omega, by go_num, by rw [HK.out.2], by rw [HK.out.1]; exact own_belQ om hb1, bel0 hBs hb1⟩
            case measure => simp [intOf]; omega
          | false =>
            have HY : Hid (wiB y x = false) := hw
            clear hw
            cases dq
            · cases hl : Op.bytesLess x y with
              | true =>
                have HK : Hid (mk T x (q + 1) = M ++ [x] ++ [y] ∧ dn T x (q + 1) = true) := by
                  have h1 := mk_now HT.out HY.out HD.out hl
                  rw [HMM.out] at h1
                  exact h1
                have hl2 : Op.bytesLess (⟨x.toArray⟩ : ByteArray).toList (⟨y.toArray⟩ : ByteArray).toList = true := by rw [ByteArray.toList_eq, ByteArray.toList_eq]; exact hl
                go_wp2_with fail
                refine (HH.out _).mono ?_
                rintro e W1 ⟨rfl, hb1⟩
                rw [HY.out]
                have om1 := own_belQ om hb1
                have hB1 := bel0 hBs hb1
                have hc1 := HC.out W1 hB1
                have hz1' := hB1.size
                clear om hBs hb1 hc
                go_wp2_with (at_builtin; refine wpList_append_own _ rfl _ _ 22 rfl w.heap.size 9 iS (.string ⟨#[]⟩) 1 16 Try.underlying22 hiS hzS0 hzS1 hzS2 rfl (by decide) _ _ _ rfl (om1.alloc _) ⟨_, 0, none⟩ 1 1 [.string ⟨x.toArray⟩] rfl rfl (cell_one_new _ _ _) (by simp [Value.oneCell']) (by unfold maxLen; omega) (by omega) (by simp; omega) ?_)
                intro v2 w5 om5 hgrow5 _
                have hB5 := app_bel hB1 om1 hgrow5 (Nat.le_refl _)
                have hc5 := HC.out w5 hB5
                have hz5 := hB5.size
                clear om1 hB1 hc1 hgrow5 hz1'
                go_wp2_with (at_builtin; refine wpList_append_own _ rfl _ _ 22 rfl w.heap.size 9 iS (.string ⟨#[]⟩) 1 16 Try.underlying22 hiS hzS0 hzS1 hzS2 rfl (by decide) _ _ _ rfl (om5.alloc _) ⟨_, 0, none⟩ 1 1 [.string ⟨y.toArray⟩] rfl rfl (cell_one_new _ _ _) (by simp [Value.oneCell']) (by unfold maxLen; omega) (by omega) (by simp; omega) ?_)
                intro v3 w6 om6 hgrow6 _
                have hB6 := app_bel hB5 om5 hgrow6 (Nat.le_refl _)
                clear om5 hB5 hc5 hgrow6 hz5
                go_wp2_with fail
                go_roundw
                case rel => exact ⟨q + 1, by omega, by go_num, by rw [HK.out.2], by rw [HK.out.1, stx_snoc, stx_snoc, List.length_append, List.length_append, List.append_assoc]; exact om6, hB6⟩
                case measure => simp [intOf]; omega
              | false =>
                have HK : Hid (mk T x (q + 1) = M ++ [y] ∧ dn T x (q + 1) = false) := by
                  have h1 := mk_not HT.out HY.out HD.out hl
                  rw [HMM.out] at h1
                  exact h1
                have hl2 : Op.bytesLess (⟨x.toArray⟩ : ByteArray).toList (⟨y.toArray⟩ : ByteArray).toList = false := by rw [ByteArray.toList_eq, ByteArray.toList_eq]; exact hl
                go_wp2_with fail
                refine (HH.out _).mono ?_
                rintro e W1 ⟨rfl, hb1⟩
                rw [HY.out]
                have om1 := own_belQ om hb1
                have hB1 := bel0 hBs hb1
                have hc1 := HC.out W1 hB1
                have hz1' := hB1.size
                clear om hBs hb1 hc
                go_wp2_with (at_builtin; refine wpList_append_own _ rfl _ _ 22 rfl w.heap.size 9 iS (.string ⟨#[]⟩) 1 16 Try.underlying22 hiS hzS0 hzS1 hzS2 rfl (by decide) _ _ _ rfl (om1.alloc _) ⟨_, 0, none⟩ 1 1 [.string ⟨y.toArray⟩] rfl rfl (cell_one_new _ _ _) (by simp [Value.oneCell']) (by unfold maxLen; omega) (by omega) (by simp; omega) ?_)
                intro v3 w6 om6 hgrow6 _
                have hB6 := app_bel hB1 om1 hgrow6 (Nat.le_refl _)
                clear om1 hB1 hc1 hgrow6 hz1'
                go_wp2_with fail
                go_roundw
                case rel => exact ⟨q + 1, by omega, by go_num, by rw [HK.out.2], by rw [HK.out.1, stx_snoc, List.length_append]; exact om6, hB6⟩
                case measure => simp [intOf]; omega
            · have HK : Hid (mk T x (q + 1) = M ++ [y] ∧ dn T x (q + 1) = true) := by
                have h1 := mk_done HT.out HY.out HD.out
                rw [HMM.out] at h1
                exact h1
              go_wp2_with fail
              refine (HH.out _).mono ?_
              rintro e W1 ⟨rfl, hb1⟩
              rw [HY.out]
              have om1 := own_belQ om hb1
              have hB1 := bel0 hBs hb1
              have hc1 := HC.out W1 hB1
              have hz1' := hB1.size
              clear om hBs hb1 hc
              go_wp2_with (at_builtin; refine wpList_append_own _ rfl _ _ 22 rfl w.heap.size 9 iS (.string ⟨#[]⟩) 1 16 Try.underlying22 hiS hzS0 hzS1 hzS2 rfl (by decide) _ _ _ rfl (om1.alloc _) ⟨_, 0, none⟩ 1 1 [.string ⟨y.toArray⟩] rfl rfl (cell_one_new _ _ _) (by simp [Value.oneCell']) (by unfold maxLen; omega) (by omega) (by simp; omega) ?_)
              intro v3 w6 om6 hgrow6 _
              have hB6 := app_bel hB1 om1 hgrow6 (Nat.le_refl _)
              clear om1 hB1 hc1 hgrow6 hz1'
              go_wp2_with fail
              go_roundw
              case rel => exact ⟨q + 1, by omega, by go_num, by rw [HK.out.2], by rw [HK.out.1, stx_snoc, List.length_append]; exact om6, hB6⟩
              case measure => simp [intOf]; omega
        · have j1 : ¬ (q : Int) < (n : Int) := by omega
          have HE : Hid (putT T x = if dn T x q = true then mk T x q else mk T x q ++ [x]) := mk_end (by rw [HN.out]; omega) HA.out
          have hml := mk_len T x q
          obtain ⟨dq, hdq⟩ : ∃ dq, dn T x q = dq := ⟨_, rfl⟩
          obtain ⟨M, hM⟩ : ∃ M, mk T x q = M := ⟨_, rfl⟩
          rw [hdq]
          rw [hM] at om hml
          rw [hM, hdq] at HE
          clear hdq hM
          have hz := hBs.size
          cases dq
          · go_wp2_with (at_builtin; refine wpList_append_own _ rfl _ _ 22 rfl w.heap.size 9 iS (.string ⟨#[]⟩) 1 16 Try.underlying22 hiS hzS0 hzS1 hzS2 rfl (by decide) _ _ _ rfl (om.alloc _) ⟨_, 0, none⟩ 1 1 [.string ⟨x.toArray⟩] rfl rfl (cell_one_new _ _ _) (by simp [Value.oneCell']) (by unfold maxLen; omega) (by omega) (by simp; omega) ?_)
            intro v3 w6 om6 hgrow6 _
            have hB6 := app_bel hBs om hgrow6 (Nat.le_refl _)
            obtain ⟨p3, c3, rfl⟩ := shapeQ1 om6
            clear om hgrow6
            go_wp2_with fail
            go_ret
            refine ⟨_, rfl, ?_, hB6⟩
            have he : putT T x = M ++ [x] := HE.out
            rw [he, stx_snoc, List.length_append]
            exact own_base om6 hB
          · obtain ⟨p3, c3, rfl⟩ := shapeQ1 om
            go_wp2_with fail
            go_ret
            refine ⟨_, rfl, ?_, hBs⟩
            have he : putT T x = M := HE.out
            rw [he]
            exact own_base om hB
end Go.Proofs.Ytbdnpbiimbeflaa

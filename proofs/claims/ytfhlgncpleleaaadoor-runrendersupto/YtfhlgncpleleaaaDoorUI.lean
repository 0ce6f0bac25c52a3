import Derived.Test.YtfhlgncpleleaaaDoorUH
import Derived.Deep.Cut
namespace Go.Proofs.YtfhlgncpleleaaaDoor
open Go.RowKit Go.Shelf
theorem oW_none (pre : List UInt8) : oW pre [] = [] := if_pos rfl
theorem oW_some {pre x : List UInt8} (h : x ≠ []) : oW pre x = [pre ++ x] := if_neg h
theorem oL_none (pre sep : List UInt8) : oL pre [] sep = [] := if_pos rfl
theorem oL_some {pre : List UInt8} {L : List (List UInt8)} (sep : List UInt8) (h : L ≠ []) : oL pre L sep = [pre ++ Lib.join L sep] := if_neg h
theorem join_pL {wd : List UInt8} (L : List (List UInt8)) (sep : List UInt8) : (Lib.join L sep).length ≤ (pL wd L sep).length := by
  unfold pL
  split
  · rename_i h
    subst h
    simp [Lib.join]
  · simp [pI]
    omega
theorem x_pW {wd : List UInt8} (x : List UInt8) : x.length ≤ (pW wd x).length := by
  unfold pW
  split
  · rename_i h
    subst h
    simp
  · simp [pI]
    omega
theorem x_pN {L : List (List UInt8)} {i : Nat} {x : List UInt8} (h : L[i]? = some x) : x.length ≤ (pN L).length := by
  have h1 := pN_succ h
  have h2 := pN_le L (i + 1)
  rw [h1] at h2
  simp [pI] at h2
  omega
set_option maxRecDepth 100000 in
set_option maxHeartbeats 16000000 in
theorem told_any (e : VR) (w : World) (hv : VOK w e) (hlen : (rnR e.r).length ≤ 1000000000000) (hcn : e.r.po.length ≤ 1000000000 ∧ e.r.en.length ≤ 1000000000 ∧ e.r.li.length ≤ 1000000000) :
    Calls Tryd.prog 12 #[.agg e.vs.toArray] w fun x w' => ∃ v, x = .returned v ∧ OWZ 9 w' w.heap.size v (stZ (tdL e.r)) ∧ Below w.heap.size w w' := by
  obtain ⟨iS, hiS, hzS0, hzS1, hzS2⟩ := info_parts info_stZ
  obtain ⟨⟨k, fd, sp, wi, po, en, fi, li, mo⟩, p1, c1, p2, c2, p3, c3⟩ := e
  simp only at hlen hcn hv
  obtain ⟨n1, hn1⟩ : ∃ n, po.length = n := ⟨_, rfl⟩
  obtain ⟨n2, hn2⟩ : ∃ n, en.length = n := ⟨_, rfl⟩
  obtain ⟨n3, hn3⟩ : ∃ n, li.length = n := ⟨_, rfl⟩
  rw [hn1, hn2, hn3] at hcn
  have HV : Hid ((∀ X, Below w.heap.size w X → LSR X p1 po ∧ LSR X p2 en ∧ LSR X p3 li) ∧ po.length = n1 ∧ en.length = n2 ∧ li.length = n3 ∧ n1 ≤ 1000000000 ∧ n2 ≤ 1000000000 ∧ n3 ≤ 1000000000) := ⟨fun X hX => ⟨hv.l1.later hX, hv.l2.later hX, hv.l3.later hX⟩, hn1, hn2, hn3, hcn⟩
  have HLN : Hid (sp.length ≤ 1000000000000 ∧ wi.length ≤ 1000000000000 ∧ (Lib.join po [32]).length ≤ 1000000000000 ∧ (Lib.join en [44, 32]).length ≤ 1000000000000 ∧ fi.length ≤ 1000000000000 ∧ (pN li).length ≤ 1000000000000) := by
    have h1 := x_pW (wd := [115, 112, 97, 99, 101]) sp
    have h2 := x_pW (wd := [119, 105, 116, 110, 101, 115, 115]) wi
    have h3 := join_pL (wd := [112, 97, 116, 104]) po [32]
    have h4 := join_pL (wd := [98, 121]) en [44, 32]
    have h5 := x_pW (wd := [102, 105, 110, 97, 108]) fi
    unfold rnR at hlen
    simp only [List.length_append] at hlen
    refine ⟨?_, ?_, ?_, ?_, ?_, ?_⟩ <;> omega
  obtain ⟨wd, hwd⟩ : ∃ wd, wdK k = wd := ⟨_, rfl⟩
  have hwl : wd.length ≤ 7 := by rw [← hwd]; exact wdK_len k
  obtain ⟨X0, hX0⟩ : ∃ X, wd ++ [58, 32, 110, 111, 110, 101] = X := ⟨_, rfl⟩
  obtain ⟨X1, hX1⟩ : ∃ X, wd ++ [58, 32, 102, 111, 117, 110, 100] = X := ⟨_, rfl⟩
  obtain ⟨T1, hT1⟩ : ∃ T, [wd ++ fdT fd] = T := ⟨_, rfl⟩
  obtain ⟨T2, hT2⟩ : ∃ T, T1 ++ oW [32, 32, 115, 112, 97, 99, 101, 32] sp = T := ⟨_, rfl⟩
  obtain ⟨T3, hT3⟩ : ∃ T, T2 ++ oW [32, 32, 119, 105, 116, 110, 101, 115, 115, 32] wi = T := ⟨_, rfl⟩
  obtain ⟨T4, hT4⟩ : ∃ T, T3 ++ oL [32, 32, 112, 97, 116, 104, 32] po [32] = T := ⟨_, rfl⟩
  obtain ⟨T5, hT5⟩ : ∃ T, T4 ++ oL [32, 32, 98, 121, 32] en [44, 32] = T := ⟨_, rfl⟩
  obtain ⟨T6, hT6⟩ : ∃ T, T5 ++ oW [32, 32, 102, 105, 110, 97, 108, 32] fi = T := ⟨_, rfl⟩
  have HALL : Hid (∀ mo, tdL ⟨k, fd, sp, wi, po, en, fi, li, mo⟩ = T6 ++ li.map (fun l => [32, 32] ++ l) ++ (if mo = true then [[32, 32, 109, 111, 114, 101]] else [])) := fun mo => by
    rw [← hT6, ← hT5, ← hT4, ← hT3, ← hT2, ← hT1, ← hwd]
    rfl
  have HT1 : Hid ([if fd = true then X1 else X0] = T1) := by
    unfold Hid
    rw [← hT1, ← hX0, ← hX1]
    cases fd <;> rfl
  have HT2 : Hid (T1 ++ oW [32, 32, 115, 112, 97, 99, 101, 32] sp = T2) := hT2
  have HT3 : Hid (T2 ++ oW [32, 32, 119, 105, 116, 110, 101, 115, 115, 32] wi = T3) := hT3
  have HT4 : Hid (T3 ++ oL [32, 32, 112, 97, 116, 104, 32] po [32] = T4) := hT4
  have HT5 : Hid (T4 ++ oL [32, 32, 98, 121, 32] en [44, 32] = T5) := hT5
  have HT6 : Hid (T5 ++ oW [32, 32, 102, 105, 110, 97, 108, 32] fi = T6) := hT6
  have e1 : (⟨wd.toArray⟩ : ByteArray) ++ ⟨#[58, 32, 110, 111, 110, 101]⟩ = ⟨X0.toArray⟩ := by rw [← hX0]; exact baA' wd [58, 32, 110, 111, 110, 101]
  have e2 : (⟨wd.toArray⟩ : ByteArray) ++ ⟨#[58, 32, 102, 111, 117, 110, 100]⟩ = ⟨X1.toArray⟩ := by rw [← hX1]; exact baA' wd [58, 32, 102, 111, 117, 110, 100]
  obtain ⟨bb, hbb⟩ : ∃ bb, w.heap.size = bb := ⟨_, rfl⟩
  obtain ⟨A2, hA2⟩ : ∃ A2, ((w.alloc (.cells #[.int .i64 k, .bool fd, .string ⟨sp.toArray⟩, .string ⟨wi.toArray⟩, .slice p1 n1 c1, .slice p2 n2 c2, .string ⟨fi.toArray⟩, .slice p3 n3 c3, .bool mo] 30 (0, 0))).alloc (.cells #[.string ⟨#[114, 101, 112, 108, 121]⟩, .string ⟨#[114, 101, 97, 99, 104]⟩, .string ⟨#[109, 105, 115, 115, 101, 100]⟩, .string ⟨#[108, 111, 111, 112]⟩, .string ⟨#[108, 111, 115, 116]⟩, .string ⟨#[105, 115, 111, 108, 97, 116, 101]⟩, .string ⟨#[112, 97, 116, 104]⟩, .string ⟨#[97, 118, 111, 105, 100]⟩, .string ⟨#[99, 111, 118, 101, 114]⟩, .string ⟨#[116, 114, 97, 99, 101]⟩] 51 (0, 0))) = A2 := ⟨_, rfl⟩
  have HA2 : Hid (((w.alloc (.cells #[.int .i64 k, .bool fd, .string ⟨sp.toArray⟩, .string ⟨wi.toArray⟩, .slice p1 n1 c1, .slice p2 n2 c2, .string ⟨fi.toArray⟩, .slice p3 n3 c3, .bool mo] 30 (0, 0))).alloc (.cells #[.string ⟨#[114, 101, 112, 108, 121]⟩, .string ⟨#[114, 101, 97, 99, 104]⟩, .string ⟨#[109, 105, 115, 115, 101, 100]⟩, .string ⟨#[108, 111, 111, 112]⟩, .string ⟨#[108, 111, 115, 116]⟩, .string ⟨#[105, 115, 111, 108, 97, 116, 101]⟩, .string ⟨#[112, 97, 116, 104]⟩, .string ⟨#[97, 118, 111, 105, 100]⟩, .string ⟨#[99, 111, 118, 101, 114]⟩, .string ⟨#[116, 114, 97, 99, 101]⟩] 51 (0, 0))) = A2) := hA2
  have hbel : Below w.heap.size w A2 := by rw [← hA2]; exact belAZ (belAZ (Below.refl _ _) _) _
  have BBL : Hid (∀ U, BLZ A2 U → Below w.heap.size w U) := fun U hU => bel0Z hbel hU
  have HSZ : Hid (w.heap.size ≤ A2.heap.size) := hbel.size
  have HCL : Hid (∀ U, BLZ A2 U → ∀ j, U.cell? ⟨bb, j, none⟩ = (#[.int .i64 k, .bool fd, .string ⟨sp.toArray⟩, .string ⟨wi.toArray⟩, .slice p1 n1 c1, .slice p2 n2 c2, .string ⟨fi.toArray⟩, .slice p3 n3 c3, .bool mo] : Array Value)[j]?) := fun U hU => (cellsZ (keepZ (show Below _ _ _ from hU) (by rw [← hA2, ← hbb]; exact keepZ (belAZ (Below.refl _ _) _) (alloc_getZ _ _)))).1
  have cw : ∀ j, A2.cell? ⟨bb + 1, j, none⟩ = (#[.string ⟨#[114, 101, 112, 108, 121]⟩, .string ⟨#[114, 101, 97, 99, 104]⟩, .string ⟨#[109, 105, 115, 115, 101, 100]⟩, .string ⟨#[108, 111, 111, 112]⟩, .string ⟨#[108, 111, 115, 116]⟩, .string ⟨#[105, 115, 111, 108, 97, 116, 101]⟩, .string ⟨#[112, 97, 116, 104]⟩, .string ⟨#[97, 118, 111, 105, 100]⟩, .string ⟨#[99, 111, 118, 101, 114]⟩, .string ⟨#[116, 114, 97, 99, 101]⟩] : Array Value)[j]? := (cellsZ (by
    rw [← hA2, show bb + 1 = (w.alloc (.cells #[.int .i64 k, .bool fd, .string ⟨sp.toArray⟩, .string ⟨wi.toArray⟩, .slice p1 n1 c1, .slice p2 n2 c2, .string ⟨fi.toArray⟩, .slice p3 n3 c3, .bool mo] 30 (0, 0))).heap.size by rw [← hbb]; simp]
    exact alloc_getZ _ _)).1
  have hO := World.ownsRow_lit (e := 9) (base := A2.heap.size) (size := 1) A2 #[.string ⟨X0.toArray⟩] 1 (Nat.le_refl _) (by decide) rfl
  have HO0 : Hid ((A2.alloc (.cells #[.string ⟨X0.toArray⟩] 9 (0, 0))).ownsRow A2.heap.size 9 1 (.slice (some ⟨A2.heap.size, 0, none⟩) 1 1) 1 (stZ [X0]) ∧ BLZ A2 (A2.alloc (.cells #[.string ⟨X0.toArray⟩] 9 (0, 0)))) := ⟨hO, belAZ (Below.refl _ _) _⟩
  obtain ⟨ga, hga⟩ : ∃ ga, A2.heap.size = ga := ⟨_, rfl⟩
  have HGA : Hid (A2.heap.size = ga) := hga
  have cl := HCL.out A2 (Below.refl _ _)
  have cl0 := HCL.out (A2.alloc (.cells #[.string ⟨X0.toArray⟩] 9 (0, 0))) (belAZ (Below.refl _ _) _)
  unfold VR.vs
  simp only [hn1, hn2, hn3]
  clear hv hlen hcn hT1 hT2 hT3 hT4 hT5 hT6 hX0 hX1 hbel hO hga hA2 hn1 hn2 hn3
  have l1 : ¬ 9223372036854775807 < wd.length + 6 := by omega
  have l2 : ¬ 9223372036854775807 < wd.length + 7 := by omega
  by_cases hk : 0 < k ∧ k < 10
  · obtain ⟨j, rfl⟩ : ∃ j : Nat, k = (j : Int) := ⟨k.toNat, by omega⟩
    have hcw : A2.cell? ⟨bb + 1, j, none⟩ = some (.string ⟨wd.toArray⟩) := by
      rw [cw, ← hwd]
      unfold wdK
      rw [if_pos hk, Int.toNat_natCast]
      have : ∀ j : Fin 10, (#[.string ⟨#[114, 101, 112, 108, 121]⟩, .string ⟨#[114, 101, 97, 99, 104]⟩, .string ⟨#[109, 105, 115, 115, 101, 100]⟩, .string ⟨#[108, 111, 111, 112]⟩, .string ⟨#[108, 111, 115, 116]⟩, .string ⟨#[105, 115, 111, 108, 97, 116, 101]⟩, .string ⟨#[112, 97, 116, 104]⟩, .string ⟨#[97, 118, 111, 105, 100]⟩, .string ⟨#[99, 111, 118, 101, 114]⟩, .string ⟨#[116, 114, 97, 99, 101]⟩] : Array Value)[j.val]? = some (.string ⟨(wdT.getD j.val []).toArray⟩) := fun j => by
        obtain ⟨j, hj⟩ := j
        match j, hj with
        | 0, _ | 1, _ | 2, _ | 3, _ | 4, _ | 5, _ | 6, _ | 7, _ | 8, _ | 9, _ => rfl
      exact this ⟨j, by omega⟩
    have cw0 := cw 0
    clear cw
    simp only [List.getElem?_toArray, List.getElem?_cons_zero] at cw0
    have j0 : (0 : Int) ≤ (j : Int) := by omega
    have j1 : (j : Int) < 10 := hk.2
    have j2 : (0 : Int) < (j : Int) := hk.1
    have j3 : (j : Int) > 0 := hk.1
    clear hk hwd
    go_enter Tryd.func12, Tryd.ntmps12
    go_upto_region 2 with fail
    rw [HA2.out]
    go_upto_if 26 with fail
    go_cut [5] from 7 (fun v5 wc => ∃ (p : Option Addr) (n c : Nat), v5 = .slice p n c ∧ n ≤ 1 ∧ Hid (T1.length = n ∧ wc.ownsRow A2.heap.size 9 1 (.slice p n c) n (stZ T1) ∧ BLZ A2 wc))
    case first =>
      cases fd
      · have HY : Hid (T1.length = 1 ∧ (A2.alloc (.cells #[.string ⟨X0.toArray⟩] 9 (0, 0))).ownsRow A2.heap.size 9 1 (.slice (some ⟨A2.heap.size, 0, none⟩) 1 1) 1 (stZ T1) ∧ BLZ A2 (A2.alloc (.cells #[.string ⟨X0.toArray⟩] 9 (0, 0)))) := ⟨by rw [← HT1.out]; rfl, by rw [← HT1.out]; exact HO0.out.1, HO0.out.2⟩
        go_wp2_with fail
        go_meet
        exact ⟨some ⟨A2.heap.size, 0, none⟩, 1, 1, rfl, by omega, by first | exact HY | (rw [HGA.out] at HY; exact HY)⟩
      · obtain ⟨st1, st2⟩ := World.ownsRow.stored HO0.out.1 0 (.string ⟨X1.toArray⟩)
        have HY : Hid (T1.length = 1 ∧ ((A2.alloc (.cells #[.string ⟨X0.toArray⟩] 9 (0, 0))).setCell ⟨A2.heap.size, 0, none⟩ (.string ⟨X1.toArray⟩)).ownsRow A2.heap.size 9 1 (.slice (some ⟨A2.heap.size, 0, none⟩) 1 1) 1 (stZ T1) ∧ BLZ A2 ((A2.alloc (.cells #[.string ⟨X0.toArray⟩] 9 (0, 0))).setCell ⟨A2.heap.size, 0, none⟩ (.string ⟨X1.toArray⟩))) := ⟨by rw [← HT1.out]; rfl, by rw [← HT1.out]; exact st1, bel_grZ HO0.out.2 st2 (fun k e => (HO0.out.1.lt k e).1)⟩
        have hO1 := World.ownsRow_lit (e := 9) (base := A2.heap.size) (size := 1) A2 #[.string ⟨X1.toArray⟩] 1 (Nat.le_refl _) (by decide) rfl
        have HY1 : Hid (T1.length = 1 ∧ (A2.alloc (.cells #[.string ⟨X1.toArray⟩] 9 (0, 0))).ownsRow A2.heap.size 9 1 (.slice (some ⟨A2.heap.size, 0, none⟩) 1 1) 1 (stZ T1) ∧ BLZ A2 (A2.alloc (.cells #[.string ⟨X1.toArray⟩] 9 (0, 0)))) := ⟨by rw [← HT1.out]; rfl, by rw [← HT1.out]; exact hO1, belAZ (Below.refl _ _) _⟩
        clear hO1
        obtain ⟨u1, u2⟩ := cellsZ (alloc_getZ A2 (.cells #[.string ⟨X0.toArray⟩] 9 (0, 0)))
        clear st1 st2
        go_wp2_with fail
        go_meet
        exact ⟨some ⟨A2.heap.size, 0, none⟩, 1, 1, rfl, by omega, by first | exact HY | exact HY1⟩
    case rest =>
      clear cl cl0 cw0 HO0
      obtain ⟨pp, nn, cc, rfl, hnn, HK⟩ := hcut
      rename World => WW
      have cl := HCL.out WW HK.out.2.2
      go_upto_if 33 with fail
      go_cut [5] from 7 (fun v5 wc => ∃ (p : Option Addr) (n c : Nat), v5 = .slice p n c ∧ n ≤ 2 ∧ Hid (T2.length = n ∧ wc.ownsRow A2.heap.size 9 1 (.slice p n c) n (stZ T2) ∧ BLZ A2 wc))
      case first =>
        by_cases hx : sp = []
        · have hx1 : sp.isEmpty = true := by rw [hx]; rfl
          have HY : Hid (T2.length = nn ∧ WW.ownsRow A2.heap.size 9 1 (.slice pp nn cc) nn (stZ T2) ∧ BLZ A2 WW) := by
            have := HK.out
            rw [show T2 = T1 by rw [← HT2.out, hx, oW_none, List.append_nil]]
            exact this
          clear hx
          simp only [hx1, Bool.not_true]
          go_wp2_with fail
          go_meet
          exact ⟨pp, nn, cc, rfl, by omega, HY⟩
        · have hx1 : sp.isEmpty = false := by simpa using hx
          simp only [hx1, Bool.not_false]
          obtain ⟨X, hX⟩ : ∃ X, [32, 32, 115, 112, 97, 99, 101, 32] ++ sp = X := ⟨_, rfl⟩
          have e1 : (⟨#[32, 32, 115, 112, 97, 99, 101, 32]⟩ : ByteArray) ++ ⟨sp.toArray⟩ = ⟨X.toArray⟩ := by rw [← hX]; exact baA' [32, 32, 115, 112, 97, 99, 101, 32] sp
          have m1 : ¬ 9223372036854775807 < 8 + sp.length := by have := HLN.out.1; omega
          have HTN : Hid (T1 ++ [X] = T2) := by unfold Hid; rw [← HT2.out, oW_some hx, hX]
          clear hx hX
          have oF : (WW.alloc (.cells #[.string ⟨X.toArray⟩] 9 (0, 0))).ownsRow A2.heap.size 9 1 (.slice pp nn cc) nn (stZ T1) := own_belZ HK.out.2.1 (belAZ (Below.refl _ _) _)
          have hbs : A2.heap.size ≤ (WW.alloc (.cells #[.string ⟨X.toArray⟩] 9 (0, 0))).heap.size := (HK.out.2.2.trans (belAZ (Below.refl _ _) _)).size
          go_wp2_with (at_builtin; refine wpList_append_own _ rfl _ _ 28 rfl A2.heap.size 9 iS _ 1 16 Tryd.underlying28 hiS hzS0 hzS1 hzS2 rfl (by decide) _ _ _ rfl oF ⟨_, 0, none⟩ 1 1 [.string ⟨X.toArray⟩] rfl rfl (World.news_of_block (cs := #[.string ⟨X.toArray⟩]) (t := 9) (fr := (0, 0)) (alloc_getZ _ _)) (by simp [Value.oneCell']) (by unfold maxLen; omega) (by omega) hbs ?_; intro v9 w9 o9 g9 _)
          obtain ⟨p9, c9, rfl⟩ := shapeZ o9
          have HX : Hid (T2.length = (nn + 1) ∧ w9.ownsRow A2.heap.size 9 1 (.slice p9 (nn + 1) c9) (nn + 1) (stZ T2) ∧ BLZ A2 w9) := ⟨by rw [← HTN.out, List.length_append, HK.out.1]; rfl, by rw [← HTN.out, show stZ (T1 ++ [X]) = stZ T1 ++ [.string ⟨X.toArray⟩] by simp [stZ]]; exact o9, bel_grZ (HK.out.2.2.trans (belAZ (Below.refl _ _) _)) g9 (fun k e => (oF.lt k e).1)⟩
          clear o9 g9 oF hbs
          go_meet
          exact ⟨p9, nn + 1, c9, rfl, by omega, HX⟩
      case rest =>
        clear HK cl hnn
        clear WW pp nn cc
        obtain ⟨pp, nn, cc, rfl, hnn, HK⟩ := hcut
        rename World => WW
        have cl := HCL.out WW HK.out.2.2
        go_upto_if 42 with fail
        go_cut [5] from 7 (fun v5 wc => ∃ (p : Option Addr) (n c : Nat), v5 = .slice p n c ∧ n ≤ 3 ∧ Hid (T3.length = n ∧ wc.ownsRow A2.heap.size 9 1 (.slice p n c) n (stZ T3) ∧ BLZ A2 wc))
        case first =>
          by_cases hx : wi = []
          · have hx1 : wi.isEmpty = true := by rw [hx]; rfl
            have HY : Hid (T3.length = nn ∧ WW.ownsRow A2.heap.size 9 1 (.slice pp nn cc) nn (stZ T3) ∧ BLZ A2 WW) := by
              have := HK.out
              rw [show T3 = T2 by rw [← HT3.out, hx, oW_none, List.append_nil]]
              exact this
            clear hx
            simp only [hx1, Bool.not_true]
            go_wp2_with fail
            go_meet
            exact ⟨pp, nn, cc, rfl, by omega, HY⟩
          · have hx1 : wi.isEmpty = false := by simpa using hx
            simp only [hx1, Bool.not_false]
            obtain ⟨X, hX⟩ : ∃ X, [32, 32, 119, 105, 116, 110, 101, 115, 115, 32] ++ wi = X := ⟨_, rfl⟩
            have e1 : (⟨#[32, 32, 119, 105, 116, 110, 101, 115, 115, 32]⟩ : ByteArray) ++ ⟨wi.toArray⟩ = ⟨X.toArray⟩ := by rw [← hX]; exact baA' [32, 32, 119, 105, 116, 110, 101, 115, 115, 32] wi
            have m1 : ¬ 9223372036854775807 < 10 + wi.length := by have := HLN.out.2.1; omega
            have HTN : Hid (T2 ++ [X] = T3) := by unfold Hid; rw [← HT3.out, oW_some hx, hX]
            clear hx hX
            have oF : (WW.alloc (.cells #[.string ⟨X.toArray⟩] 9 (0, 0))).ownsRow A2.heap.size 9 1 (.slice pp nn cc) nn (stZ T2) := own_belZ HK.out.2.1 (belAZ (Below.refl _ _) _)
            have hbs : A2.heap.size ≤ (WW.alloc (.cells #[.string ⟨X.toArray⟩] 9 (0, 0))).heap.size := (HK.out.2.2.trans (belAZ (Below.refl _ _) _)).size
            go_wp2_with (at_builtin; refine wpList_append_own _ rfl _ _ 28 rfl A2.heap.size 9 iS _ 1 16 Tryd.underlying28 hiS hzS0 hzS1 hzS2 rfl (by decide) _ _ _ rfl oF ⟨_, 0, none⟩ 1 1 [.string ⟨X.toArray⟩] rfl rfl (World.news_of_block (cs := #[.string ⟨X.toArray⟩]) (t := 9) (fr := (0, 0)) (alloc_getZ _ _)) (by simp [Value.oneCell']) (by unfold maxLen; omega) (by omega) hbs ?_; intro v9 w9 o9 g9 _)
            obtain ⟨p9, c9, rfl⟩ := shapeZ o9
            have HX : Hid (T3.length = (nn + 1) ∧ w9.ownsRow A2.heap.size 9 1 (.slice p9 (nn + 1) c9) (nn + 1) (stZ T3) ∧ BLZ A2 w9) := ⟨by rw [← HTN.out, List.length_append, HK.out.1]; rfl, by rw [← HTN.out, show stZ (T2 ++ [X]) = stZ T2 ++ [.string ⟨X.toArray⟩] by simp [stZ]]; exact o9, bel_grZ (HK.out.2.2.trans (belAZ (Below.refl _ _) _)) g9 (fun k e => (oF.lt k e).1)⟩
            clear o9 g9 oF hbs
            go_meet
            exact ⟨p9, nn + 1, c9, rfl, by omega, HX⟩
        case rest =>
          clear HK cl hnn
          clear WW pp nn cc
          obtain ⟨pp, nn, cc, rfl, hnn, HK⟩ := hcut
          rename World => WW
          have cl := HCL.out WW HK.out.2.2
          go_upto_if 52 with fail
          go_cut [5] from 7 (fun v5 wc => ∃ (p : Option Addr) (n c : Nat), v5 = .slice p n c ∧ n ≤ 4 ∧ Hid (T4.length = n ∧ wc.ownsRow A2.heap.size 9 1 (.slice p n c) n (stZ T4) ∧ BLZ A2 wc))
          case first =>
            by_cases hx : n1 = 0
            · have hx1 : ¬ (n1 : Int) > 0 := by omega
              have hx2 : ¬ (0 : Int) < (n1 : Int) := by omega
              have HY : Hid (T4.length = nn ∧ WW.ownsRow A2.heap.size 9 1 (.slice pp nn cc) nn (stZ T4) ∧ BLZ A2 WW) := by
                have := HK.out
                have hl : po = [] := List.eq_nil_of_length_eq_zero (by rw [HV.out.2.1]; exact hx)
                rw [show T4 = T3 by rw [← HT4.out, hl, oL_none, List.append_nil]]
                exact this
              have HN0 : Hid (n1 = 0) := hx
              have hx3 : decide ((0 : Int) < (n1 : Int)) = false := decide_eq_false hx2
              have hx4 : decide (0 < n1) = false := decide_eq_false (by omega)
              first | simp only [gt_iff_lt, hx3] | simp only [hx4]
              clear hx
              go_wp2_with fail
              go_meet
              exact ⟨pp, nn, cc, rfl, by omega, HY⟩
            · have hx1 : (n1 : Int) > 0 := by omega
              have hx2 : (0 : Int) < (n1 : Int) := by omega
              have hx3 : decide ((0 : Int) < (n1 : Int)) = true := decide_eq_true hx2
              have hx4 : decide (0 < n1) = true := decide_eq_true (by omega)
              first | simp only [gt_iff_lt, hx3] | simp only [hx4]
              have HJ := djoin_any po p1 n1 c1 [32] WW HV.out.2.1 (by have := HV.out.2.2.2.2; omega) (HV.out.1 WW (BBL.out WW HK.out.2.2)).1 (by have := HLN.out.2.2.1; omega)
              obtain ⟨J, hJ⟩ : ∃ J, Lib.join po [32] = J := ⟨_, rfl⟩
              rw [hJ] at HJ
              obtain ⟨X, hX⟩ : ∃ X, [32, 32, 112, 97, 116, 104, 32] ++ J = X := ⟨_, rfl⟩
              have e1 : (⟨#[32, 32, 112, 97, 116, 104, 32]⟩ : ByteArray) ++ ⟨J.toArray⟩ = ⟨X.toArray⟩ := by rw [← hX]; exact baA' [32, 32, 112, 97, 116, 104, 32] J
              have m1 : ¬ 9223372036854775807 < 7 + J.length := by have := HLN.out.2.2.1; rw [hJ] at this; omega
              have HTN : Hid (T3 ++ [X] = T4) := by unfold Hid; rw [← HT4.out, oL_some [32] (fun h => hx (by rw [← HV.out.2.1, h]; rfl)), hJ, hX]
              clear hx hX hJ
              go_wp2_with fail
              refine HJ.mono ?_
              rintro e wj ⟨rfl, hbj⟩
              have HK' : Hid (T3.length = nn ∧ wj.ownsRow A2.heap.size 9 1 (.slice pp nn cc) nn (stZ T3) ∧ BLZ A2 wj) := ⟨HK.out.1, own_belZ HK.out.2.1 hbj, HK.out.2.2.trans hbj⟩
              clear HK HJ hbj
              have HK := HK'
              clear HK'
              have oF : (wj.alloc (.cells #[.string ⟨X.toArray⟩] 9 (0, 0))).ownsRow A2.heap.size 9 1 (.slice pp nn cc) nn (stZ T3) := own_belZ HK.out.2.1 (belAZ (Below.refl _ _) _)
              have hbs : A2.heap.size ≤ (wj.alloc (.cells #[.string ⟨X.toArray⟩] 9 (0, 0))).heap.size := (HK.out.2.2.trans (belAZ (Below.refl _ _) _)).size
              go_wp2_with (at_builtin; refine wpList_append_own _ rfl _ _ 28 rfl A2.heap.size 9 iS _ 1 16 Tryd.underlying28 hiS hzS0 hzS1 hzS2 rfl (by decide) _ _ _ rfl oF ⟨_, 0, none⟩ 1 1 [.string ⟨X.toArray⟩] rfl rfl (World.news_of_block (cs := #[.string ⟨X.toArray⟩]) (t := 9) (fr := (0, 0)) (alloc_getZ _ _)) (by simp [Value.oneCell']) (by unfold maxLen; omega) (by omega) hbs ?_; intro v9 w9 o9 g9 _)
              obtain ⟨p9, c9, rfl⟩ := shapeZ o9
              have HX : Hid (T4.length = (nn + 1) ∧ w9.ownsRow A2.heap.size 9 1 (.slice p9 (nn + 1) c9) (nn + 1) (stZ T4) ∧ BLZ A2 w9) := ⟨by rw [← HTN.out, List.length_append, HK.out.1]; rfl, by rw [← HTN.out, show stZ (T3 ++ [X]) = stZ T3 ++ [.string ⟨X.toArray⟩] by simp [stZ]]; exact o9, bel_grZ (HK.out.2.2.trans (belAZ (Below.refl _ _) _)) g9 (fun k e => (oF.lt k e).1)⟩
              clear o9 g9 oF hbs
              go_meet
              exact ⟨p9, nn + 1, c9, rfl, by omega, HX⟩
          case rest =>
            clear HK cl hnn
            clear WW pp nn cc
            obtain ⟨pp, nn, cc, rfl, hnn, HK⟩ := hcut
            rename World => WW
            have cl := HCL.out WW HK.out.2.2
            go_upto_if 63 with fail
            go_cut [5] from 7 (fun v5 wc => ∃ (p : Option Addr) (n c : Nat), v5 = .slice p n c ∧ n ≤ 5 ∧ Hid (T5.length = n ∧ wc.ownsRow A2.heap.size 9 1 (.slice p n c) n (stZ T5) ∧ BLZ A2 wc))
            case first =>
              by_cases hx : n2 = 0
              · have hx1 : ¬ (n2 : Int) > 0 := by omega
                have hx2 : ¬ (0 : Int) < (n2 : Int) := by omega
                have HY : Hid (T5.length = nn ∧ WW.ownsRow A2.heap.size 9 1 (.slice pp nn cc) nn (stZ T5) ∧ BLZ A2 WW) := by
                  have := HK.out
                  have hl : en = [] := List.eq_nil_of_length_eq_zero (by rw [HV.out.2.2.1]; exact hx)
                  rw [show T5 = T4 by rw [← HT5.out, hl, oL_none, List.append_nil]]
                  exact this
                have HN0 : Hid (n2 = 0) := hx
                have hx3 : decide ((0 : Int) < (n2 : Int)) = false := decide_eq_false hx2
                have hx4 : decide (0 < n2) = false := decide_eq_false (by omega)
                first | simp only [gt_iff_lt, hx3] | simp only [hx4]
                clear hx
                go_wp2_with fail
                go_meet
                exact ⟨pp, nn, cc, rfl, by omega, HY⟩
              · have hx1 : (n2 : Int) > 0 := by omega
                have hx2 : (0 : Int) < (n2 : Int) := by omega
                have hx3 : decide ((0 : Int) < (n2 : Int)) = true := decide_eq_true hx2
                have hx4 : decide (0 < n2) = true := decide_eq_true (by omega)
                first | simp only [gt_iff_lt, hx3] | simp only [hx4]
                have HJ := djoin_any en p2 n2 c2 [44, 32] WW HV.out.2.2.1 (by have := HV.out.2.2.2.2; omega) (HV.out.1 WW (BBL.out WW HK.out.2.2)).2.1 (by have := HLN.out.2.2.2.1; omega)
                obtain ⟨J, hJ⟩ : ∃ J, Lib.join en [44, 32] = J := ⟨_, rfl⟩
                rw [hJ] at HJ
                obtain ⟨X, hX⟩ : ∃ X, [32, 32, 98, 121, 32] ++ J = X := ⟨_, rfl⟩
                have e1 : (⟨#[32, 32, 98, 121, 32]⟩ : ByteArray) ++ ⟨J.toArray⟩ = ⟨X.toArray⟩ := by rw [← hX]; exact baA' [32, 32, 98, 121, 32] J
                have m1 : ¬ 9223372036854775807 < 5 + J.length := by have := HLN.out.2.2.2.1; rw [hJ] at this; omega
                have HTN : Hid (T4 ++ [X] = T5) := by unfold Hid; rw [← HT5.out, oL_some [44, 32] (fun h => hx (by rw [← HV.out.2.2.1, h]; rfl)), hJ, hX]
                clear hx hX hJ
                go_wp2_with fail
                refine HJ.mono ?_
                rintro e wj ⟨rfl, hbj⟩
                have HK' : Hid (T4.length = nn ∧ wj.ownsRow A2.heap.size 9 1 (.slice pp nn cc) nn (stZ T4) ∧ BLZ A2 wj) := ⟨HK.out.1, own_belZ HK.out.2.1 hbj, HK.out.2.2.trans hbj⟩
                clear HK HJ hbj
                have HK := HK'
                clear HK'
                have oF : (wj.alloc (.cells #[.string ⟨X.toArray⟩] 9 (0, 0))).ownsRow A2.heap.size 9 1 (.slice pp nn cc) nn (stZ T4) := own_belZ HK.out.2.1 (belAZ (Below.refl _ _) _)
                have hbs : A2.heap.size ≤ (wj.alloc (.cells #[.string ⟨X.toArray⟩] 9 (0, 0))).heap.size := (HK.out.2.2.trans (belAZ (Below.refl _ _) _)).size
                go_wp2_with (at_builtin; refine wpList_append_own _ rfl _ _ 28 rfl A2.heap.size 9 iS _ 1 16 Tryd.underlying28 hiS hzS0 hzS1 hzS2 rfl (by decide) _ _ _ rfl oF ⟨_, 0, none⟩ 1 1 [.string ⟨X.toArray⟩] rfl rfl (World.news_of_block (cs := #[.string ⟨X.toArray⟩]) (t := 9) (fr := (0, 0)) (alloc_getZ _ _)) (by simp [Value.oneCell']) (by unfold maxLen; omega) (by omega) hbs ?_; intro v9 w9 o9 g9 _)
                obtain ⟨p9, c9, rfl⟩ := shapeZ o9
                have HX : Hid (T5.length = (nn + 1) ∧ w9.ownsRow A2.heap.size 9 1 (.slice p9 (nn + 1) c9) (nn + 1) (stZ T5) ∧ BLZ A2 w9) := ⟨by rw [← HTN.out, List.length_append, HK.out.1]; rfl, by rw [← HTN.out, show stZ (T4 ++ [X]) = stZ T4 ++ [.string ⟨X.toArray⟩] by simp [stZ]]; exact o9, bel_grZ (HK.out.2.2.trans (belAZ (Below.refl _ _) _)) g9 (fun k e => (oF.lt k e).1)⟩
                clear o9 g9 oF hbs
                go_meet
                exact ⟨p9, nn + 1, c9, rfl, by omega, HX⟩
            case rest =>
              clear HK cl hnn
              clear WW pp nn cc
              obtain ⟨pp, nn, cc, rfl, hnn, HK⟩ := hcut
              rename World => WW
              have cl := HCL.out WW HK.out.2.2
              go_upto_if 73 with fail
              go_cut [5] from 7 (fun v5 wc => ∃ (p : Option Addr) (n c : Nat), v5 = .slice p n c ∧ n ≤ 6 ∧ Hid (T6.length = n ∧ wc.ownsRow A2.heap.size 9 1 (.slice p n c) n (stZ T6) ∧ BLZ A2 wc))
              case first =>
                by_cases hx : fi = []
                · have hx1 : fi.isEmpty = true := by rw [hx]; rfl
                  have HY : Hid (T6.length = nn ∧ WW.ownsRow A2.heap.size 9 1 (.slice pp nn cc) nn (stZ T6) ∧ BLZ A2 WW) := by
                    have := HK.out
                    rw [show T6 = T5 by rw [← HT6.out, hx, oW_none, List.append_nil]]
                    exact this
                  clear hx
                  simp only [hx1, Bool.not_true]
                  go_wp2_with fail
                  go_meet
                  exact ⟨pp, nn, cc, rfl, by omega, HY⟩
                · have hx1 : fi.isEmpty = false := by simpa using hx
                  simp only [hx1, Bool.not_false]
                  obtain ⟨X, hX⟩ : ∃ X, [32, 32, 102, 105, 110, 97, 108, 32] ++ fi = X := ⟨_, rfl⟩
                  have e1 : (⟨#[32, 32, 102, 105, 110, 97, 108, 32]⟩ : ByteArray) ++ ⟨fi.toArray⟩ = ⟨X.toArray⟩ := by rw [← hX]; exact baA' [32, 32, 102, 105, 110, 97, 108, 32] fi
                  have m1 : ¬ 9223372036854775807 < 8 + fi.length := by have := HLN.out.2.2.2.2.1; omega
                  have HTN : Hid (T5 ++ [X] = T6) := by unfold Hid; rw [← HT6.out, oW_some hx, hX]
                  clear hx hX
                  have oF : (WW.alloc (.cells #[.string ⟨X.toArray⟩] 9 (0, 0))).ownsRow A2.heap.size 9 1 (.slice pp nn cc) nn (stZ T5) := own_belZ HK.out.2.1 (belAZ (Below.refl _ _) _)
                  have hbs : A2.heap.size ≤ (WW.alloc (.cells #[.string ⟨X.toArray⟩] 9 (0, 0))).heap.size := (HK.out.2.2.trans (belAZ (Below.refl _ _) _)).size
                  go_wp2_with (at_builtin; refine wpList_append_own _ rfl _ _ 28 rfl A2.heap.size 9 iS _ 1 16 Tryd.underlying28 hiS hzS0 hzS1 hzS2 rfl (by decide) _ _ _ rfl oF ⟨_, 0, none⟩ 1 1 [.string ⟨X.toArray⟩] rfl rfl (World.news_of_block (cs := #[.string ⟨X.toArray⟩]) (t := 9) (fr := (0, 0)) (alloc_getZ _ _)) (by simp [Value.oneCell']) (by unfold maxLen; omega) (by omega) hbs ?_; intro v9 w9 o9 g9 _)
                  obtain ⟨p9, c9, rfl⟩ := shapeZ o9
                  have HX : Hid (T6.length = (nn + 1) ∧ w9.ownsRow A2.heap.size 9 1 (.slice p9 (nn + 1) c9) (nn + 1) (stZ T6) ∧ BLZ A2 w9) := ⟨by rw [← HTN.out, List.length_append, HK.out.1]; rfl, by rw [← HTN.out, show stZ (T5 ++ [X]) = stZ T5 ++ [.string ⟨X.toArray⟩] by simp [stZ]]; exact o9, bel_grZ (HK.out.2.2.trans (belAZ (Below.refl _ _) _)) g9 (fun k e => (oF.lt k e).1)⟩
                  clear o9 g9 oF hbs
                  go_meet
                  exact ⟨p9, nn + 1, c9, rfl, by omega, HX⟩
              case rest =>
                clear HK cl hnn
                clear WW pp nn cc
                obtain ⟨pp, nn, cc, rfl, hnn, HK⟩ := hcut
                rename World => WW
                have cl := HCL.out WW HK.out.2.2
                have H0 : Hid (∃ TT, T6 ++ (li.take 0).map (fun l => [32, 32] ++ l) = TT ∧ TT.length = nn ∧ WW.ownsRow A2.heap.size 9 1 (.slice pp nn cc) nn (stZ TT) ∧ BLZ A2 WW) := ⟨T6, by simp, HK.out.1, HK.out.2.1, HK.out.2.2⟩
                have hn3 : n3 ≤ 1000000000 := HV.out.2.2.2.2.2.2
                clear HK
                go_wp2_with fail
                clear cl
                go_loopw [5, 6] (fun v5 v6 wr => ∃ (i n : Nat) (p : Option Addr) (c : Nat), v6 = .int .i64 (i : Int) ∧ v5 = .slice p n c ∧ i ≤ n3 ∧ n ≤ 6 + i ∧ Hid (∃ TT, T6 ++ (li.take i).map (fun l => [32, 32] ++ l) = TT ∧ TT.length = n ∧ wr.ownsRow A2.heap.size 9 1 (.slice p n c) n (stZ TT) ∧ BLZ A2 wr)) (fun _ v6 _ => n3 - (intOf v6).toNat)
                case atStart => exact ⟨0, nn, pp, cc, rfl, rfl, Nat.zero_le _, by omega, H0⟩
                case round =>
                  clear H0 hnn
                  clear WW pp nn cc
                  obtain ⟨i, nn, pp, cc, rfl, rfl, hi, hnn, HR⟩ := hrel
                  obtain ⟨TT, hTT, hk⟩ := HR.out
                  rename World => WW
                  have HK : Hid (TT.length = nn ∧ WW.ownsRow A2.heap.size 9 1 (.slice pp nn cc) nn (stZ TT) ∧ BLZ A2 WW) := hk
                  have cl := HCL.out WW HK.out.2.2
                  have HTT : Hid (T6 ++ (li.take i).map (fun l => [32, 32] ++ l) = TT) := hTT
                  clear HR hk hTT
                  by_cases hlt : i < n3
                  · have i0 : (0 : Int) ≤ (i : Int) := by omega
                    have i1 : (i : Int) < (n3 : Int) := by omega
                    obtain ⟨x, hx⟩ : ∃ x, li[i]? = some x := ⟨_, List.getElem?_eq_getElem (by rw [HV.out.2.2.2.1]; exact hlt)⟩
                    obtain ⟨g, o0, rfl, hc⟩ := (HV.out.1 WW (BBL.out WW HK.out.2.2)).2.2 WW (Below.refl _ _) i x hx
                    obtain ⟨X, hX⟩ : ∃ X, [32, 32] ++ x = X := ⟨_, rfl⟩
                    have e1 : (⟨#[32, 32]⟩ : ByteArray) ++ ⟨x.toArray⟩ = ⟨X.toArray⟩ := by rw [← hX]; exact baA' [32, 32] x
                    have m1 : ¬ 9223372036854775807 < 2 + x.length := by have := HLN.out.2.2.2.2.2; have := x_pN hx; omega
                    obtain ⟨TN, hTN⟩ : ∃ TN, TT ++ [X] = TN := ⟨_, rfl⟩
                    have HTN : Hid (TT ++ [X] = TN) := hTN
                    have HTS : Hid (T6 ++ (li.take (i + 1)).map (fun l => [32, 32] ++ l) = TN) := by
                      unfold Hid
                      rw [← hTN, ← HTT.out, List.take_add_one, hx, Option.toList_some, List.map_append, ← List.append_assoc, ← hX]
                      rfl
                    clear hx hX hTN HTT
                    have oF : (WW.alloc (.cells #[.string ⟨X.toArray⟩] 9 (0, 0))).ownsRow A2.heap.size 9 1 (.slice pp nn cc) nn (stZ TT) := own_belZ HK.out.2.1 (belAZ (Below.refl _ _) _)
                    have hbs : A2.heap.size ≤ (WW.alloc (.cells #[.string ⟨X.toArray⟩] 9 (0, 0))).heap.size := (HK.out.2.2.trans (belAZ (Below.refl _ _) _)).size
                    go_wp2_with (at_builtin; refine wpList_append_own _ rfl _ _ 28 rfl A2.heap.size 9 iS _ 1 16 Tryd.underlying28 hiS hzS0 hzS1 hzS2 rfl (by decide) _ _ _ rfl oF ⟨_, 0, none⟩ 1 1 [.string ⟨X.toArray⟩] rfl rfl (World.news_of_block (cs := #[.string ⟨X.toArray⟩]) (t := 9) (fr := (0, 0)) (alloc_getZ _ _)) (by simp [Value.oneCell']) (by unfold maxLen; omega) (by omega) hbs ?_; intro v9 w9 o9 g9 _)
                    obtain ⟨p9, c9, rfl⟩ := shapeZ o9
                    have HX : Hid (TN.length = (nn + 1) ∧ w9.ownsRow A2.heap.size 9 1 (.slice p9 (nn + 1) c9) (nn + 1) (stZ TN) ∧ BLZ A2 w9) := ⟨by rw [← HTN.out, List.length_append, HK.out.1]; rfl, by rw [← HTN.out, show stZ (TT ++ [X]) = stZ TT ++ [.string ⟨X.toArray⟩] by simp [stZ]]; exact o9, bel_grZ (HK.out.2.2.trans (belAZ (Below.refl _ _) _)) g9 (fun k e => (oF.lt k e).1)⟩
                    clear o9 g9 oF hbs
                    have HY : Hid (∃ TT, T6 ++ (li.take (i + 1)).map (fun l => [32, 32] ++ l) = TT ∧ TT.length = nn + 1 ∧ w9.ownsRow A2.heap.size 9 1 (.slice p9 (nn + 1) c9) (nn + 1) (stZ TT) ∧ BLZ A2 w9) := ⟨TN, HTS.out, HX.out⟩
                    clear HX cl hc HK HTN HTS
                    go_roundw
                    case rel => exact ⟨i + 1, nn + 1, p9, c9, by go_num, rfl, by omega, by omega, HY⟩
                    case measure => simp [intOf]; omega
                  · have i1 : ¬ (i : Int) < (n3 : Int) := by omega
                    have HT7 : Hid (T6 ++ li.map (fun l => [32, 32] ++ l) = TT) := by
                      have := HTT.out
                      rw [List.take_of_length_le (by rw [HV.out.2.2.2.1]; omega)] at this
                      exact this
                    cases mo
                    · have HE : Hid (∃ v, Ending.returned (.slice pp nn cc) = .returned v ∧ OWZ 9 WW w.heap.size v (stZ (tdL ⟨(j : Int), fd, sp, wi, po, en, fi, li, false⟩)) ∧ Below w.heap.size w WW) := by
                        refine ⟨_, rfl, ?_, BBL.out WW HK.out.2.2⟩
                        have e : tdL ⟨(j : Int), fd, sp, wi, po, en, fi, li, false⟩ = TT := by rw [HALL.out, HT7.out]; simp
                        unfold OWZ
                        rw [stZ_len, e, HK.out.1]
                        exact own_baseZ HK.out.2.1 HSZ.out
                      clear HK HT7 HTT
                      go_wp2_with fail
                      go_ret
                      have HE' := HE.out
                      rw [hbb] at HE'
                      exact HE'
                    · obtain ⟨X, hX⟩ : ∃ X : List UInt8, [32, 32, 109, 111, 114, 101] = X := ⟨_, rfl⟩
                      obtain ⟨TN, hTN⟩ : ∃ TN, TT ++ [X] = TN := ⟨_, rfl⟩
                      have HTN : Hid (TT ++ [X] = TN) := hTN
                      have e1 : (⟨#[32, 32, 109, 111, 114, 101]⟩ : ByteArray) = ⟨X.toArray⟩ := by rw [← hX]
                      have HXX : Hid ([32, 32, 109, 111, 114, 101] = X) := hX
                      clear hX hTN
                      have oF : (WW.alloc (.cells #[.string ⟨X.toArray⟩] 9 (0, 0))).ownsRow A2.heap.size 9 1 (.slice pp nn cc) nn (stZ TT) := own_belZ HK.out.2.1 (belAZ (Below.refl _ _) _)
                      have hbs : A2.heap.size ≤ (WW.alloc (.cells #[.string ⟨X.toArray⟩] 9 (0, 0))).heap.size := (HK.out.2.2.trans (belAZ (Below.refl _ _) _)).size
                      go_wp2_with (at_builtin; refine wpList_append_own _ rfl _ _ 28 rfl A2.heap.size 9 iS _ 1 16 Tryd.underlying28 hiS hzS0 hzS1 hzS2 rfl (by decide) _ _ _ rfl oF ⟨_, 0, none⟩ 1 1 [.string ⟨X.toArray⟩] rfl rfl (World.news_of_block (cs := #[.string ⟨X.toArray⟩]) (t := 9) (fr := (0, 0)) (alloc_getZ _ _)) (by simp [Value.oneCell']) (by unfold maxLen; omega) (by omega) hbs ?_; intro v9 w9 o9 g9 _)
                      obtain ⟨p9, c9, rfl⟩ := shapeZ o9
                      have HX : Hid (TN.length = (nn + 1) ∧ w9.ownsRow A2.heap.size 9 1 (.slice p9 (nn + 1) c9) (nn + 1) (stZ TN) ∧ BLZ A2 w9) := ⟨by rw [← HTN.out, List.length_append, HK.out.1]; rfl, by rw [← HTN.out, show stZ (TT ++ [X]) = stZ TT ++ [.string ⟨X.toArray⟩] by simp [stZ]]; exact o9, bel_grZ (HK.out.2.2.trans (belAZ (Below.refl _ _) _)) g9 (fun k e => (oF.lt k e).1)⟩
                      clear o9 g9 oF hbs
                      have HE : Hid (∃ v, Ending.returned (.slice p9 (nn + 1) c9) = .returned v ∧ OWZ 9 w9 w.heap.size v (stZ (tdL ⟨(j : Int), fd, sp, wi, po, en, fi, li, true⟩)) ∧ Below w.heap.size w w9) := by
                        refine ⟨_, rfl, ?_, BBL.out w9 HX.out.2.2⟩
                        have e : tdL ⟨(j : Int), fd, sp, wi, po, en, fi, li, true⟩ = TN := by rw [HALL.out, HT7.out, ← HTN.out, ← HXX.out]; simp
                        unfold OWZ
                        rw [stZ_len, e, HX.out.1]
                        exact own_baseZ HX.out.2.1 HSZ.out
                      clear HK HT7 HTT HX
                      go_wp2_with fail
                      go_ret
                      have HE' := HE.out
                      rw [hbb] at HE'
                      exact HE'
  · have cw0 : A2.cell? ⟨bb + 1, 0, none⟩ = some (.string ⟨wd.toArray⟩) := by
      rw [cw, ← hwd]
      unfold wdK
      rw [if_neg hk]
      rfl
    clear cw hwd
    by_cases hk0 : 0 < k
    · have hk1 : k > 0 := hk0
      have hk2 : ¬ k < 10 := fun h => hk ⟨hk0, h⟩
      clear hk
      go_enter Tryd.func12, Tryd.ntmps12
      go_upto_region 2 with fail
      rw [HA2.out]
      go_upto_if 26 with fail
      go_cut [5] from 7 (fun v5 wc => ∃ (p : Option Addr) (n c : Nat), v5 = .slice p n c ∧ n ≤ 1 ∧ Hid (T1.length = n ∧ wc.ownsRow A2.heap.size 9 1 (.slice p n c) n (stZ T1) ∧ BLZ A2 wc))
      case first =>
        cases fd
        · have HY : Hid (T1.length = 1 ∧ (A2.alloc (.cells #[.string ⟨X0.toArray⟩] 9 (0, 0))).ownsRow A2.heap.size 9 1 (.slice (some ⟨A2.heap.size, 0, none⟩) 1 1) 1 (stZ T1) ∧ BLZ A2 (A2.alloc (.cells #[.string ⟨X0.toArray⟩] 9 (0, 0)))) := ⟨by rw [← HT1.out]; rfl, by rw [← HT1.out]; exact HO0.out.1, HO0.out.2⟩
          go_wp2_with fail
          go_meet
          exact ⟨some ⟨A2.heap.size, 0, none⟩, 1, 1, rfl, by omega, by first | exact HY | (rw [HGA.out] at HY; exact HY)⟩
        · obtain ⟨st1, st2⟩ := World.ownsRow.stored HO0.out.1 0 (.string ⟨X1.toArray⟩)
          have HY : Hid (T1.length = 1 ∧ ((A2.alloc (.cells #[.string ⟨X0.toArray⟩] 9 (0, 0))).setCell ⟨A2.heap.size, 0, none⟩ (.string ⟨X1.toArray⟩)).ownsRow A2.heap.size 9 1 (.slice (some ⟨A2.heap.size, 0, none⟩) 1 1) 1 (stZ T1) ∧ BLZ A2 ((A2.alloc (.cells #[.string ⟨X0.toArray⟩] 9 (0, 0))).setCell ⟨A2.heap.size, 0, none⟩ (.string ⟨X1.toArray⟩))) := ⟨by rw [← HT1.out]; rfl, by rw [← HT1.out]; exact st1, bel_grZ HO0.out.2 st2 (fun k e => (HO0.out.1.lt k e).1)⟩
          have hO1 := World.ownsRow_lit (e := 9) (base := A2.heap.size) (size := 1) A2 #[.string ⟨X1.toArray⟩] 1 (Nat.le_refl _) (by decide) rfl
          have HY1 : Hid (T1.length = 1 ∧ (A2.alloc (.cells #[.string ⟨X1.toArray⟩] 9 (0, 0))).ownsRow A2.heap.size 9 1 (.slice (some ⟨A2.heap.size, 0, none⟩) 1 1) 1 (stZ T1) ∧ BLZ A2 (A2.alloc (.cells #[.string ⟨X1.toArray⟩] 9 (0, 0)))) := ⟨by rw [← HT1.out]; rfl, by rw [← HT1.out]; exact hO1, belAZ (Below.refl _ _) _⟩
          clear hO1
          obtain ⟨u1, u2⟩ := cellsZ (alloc_getZ A2 (.cells #[.string ⟨X0.toArray⟩] 9 (0, 0)))
          clear st1 st2
          go_wp2_with fail
          go_meet
          exact ⟨some ⟨A2.heap.size, 0, none⟩, 1, 1, rfl, by omega, by first | exact HY | exact HY1⟩
      case rest =>
        clear cl cl0 cw0 HO0
        obtain ⟨pp, nn, cc, rfl, hnn, HK⟩ := hcut
        rename World => WW
        have cl := HCL.out WW HK.out.2.2
        go_upto_if 33 with fail
        go_cut [5] from 7 (fun v5 wc => ∃ (p : Option Addr) (n c : Nat), v5 = .slice p n c ∧ n ≤ 2 ∧ Hid (T2.length = n ∧ wc.ownsRow A2.heap.size 9 1 (.slice p n c) n (stZ T2) ∧ BLZ A2 wc))
        case first =>
          by_cases hx : sp = []
          · have hx1 : sp.isEmpty = true := by rw [hx]; rfl
            have HY : Hid (T2.length = nn ∧ WW.ownsRow A2.heap.size 9 1 (.slice pp nn cc) nn (stZ T2) ∧ BLZ A2 WW) := by
              have := HK.out
              rw [show T2 = T1 by rw [← HT2.out, hx, oW_none, List.append_nil]]
              exact this
            clear hx
            simp only [hx1, Bool.not_true]
            go_wp2_with fail
            go_meet
            exact ⟨pp, nn, cc, rfl, by omega, HY⟩
          · have hx1 : sp.isEmpty = false := by simpa using hx
            simp only [hx1, Bool.not_false]
            obtain ⟨X, hX⟩ : ∃ X, [32, 32, 115, 112, 97, 99, 101, 32] ++ sp = X := ⟨_, rfl⟩
            have e1 : (⟨#[32, 32, 115, 112, 97, 99, 101, 32]⟩ : ByteArray) ++ ⟨sp.toArray⟩ = ⟨X.toArray⟩ := by rw [← hX]; exact baA' [32, 32, 115, 112, 97, 99, 101, 32] sp
            have m1 : ¬ 9223372036854775807 < 8 + sp.length := by have := HLN.out.1; omega
            have HTN : Hid (T1 ++ [X] = T2) := by unfold Hid; rw [← HT2.out, oW_some hx, hX]
            clear hx hX
            have oF : (WW.alloc (.cells #[.string ⟨X.toArray⟩] 9 (0, 0))).ownsRow A2.heap.size 9 1 (.slice pp nn cc) nn (stZ T1) := own_belZ HK.out.2.1 (belAZ (Below.refl _ _) _)
            have hbs : A2.heap.size ≤ (WW.alloc (.cells #[.string ⟨X.toArray⟩] 9 (0, 0))).heap.size := (HK.out.2.2.trans (belAZ (Below.refl _ _) _)).size
            go_wp2_with (at_builtin; refine wpList_append_own _ rfl _ _ 28 rfl A2.heap.size 9 iS _ 1 16 Tryd.underlying28 hiS hzS0 hzS1 hzS2 rfl (by decide) _ _ _ rfl oF ⟨_, 0, none⟩ 1 1 [.string ⟨X.toArray⟩] rfl rfl (World.news_of_block (cs := #[.string ⟨X.toArray⟩]) (t := 9) (fr := (0, 0)) (alloc_getZ _ _)) (by simp [Value.oneCell']) (by unfold maxLen; omega) (by omega) hbs ?_; intro v9 w9 o9 g9 _)
            obtain ⟨p9, c9, rfl⟩ := shapeZ o9
            have HX : Hid (T2.length = (nn + 1) ∧ w9.ownsRow A2.heap.size 9 1 (.slice p9 (nn + 1) c9) (nn + 1) (stZ T2) ∧ BLZ A2 w9) := ⟨by rw [← HTN.out, List.length_append, HK.out.1]; rfl, by rw [← HTN.out, show stZ (T1 ++ [X]) = stZ T1 ++ [.string ⟨X.toArray⟩] by simp [stZ]]; exact o9, bel_grZ (HK.out.2.2.trans (belAZ (Below.refl _ _) _)) g9 (fun k e => (oF.lt k e).1)⟩
            clear o9 g9 oF hbs
            go_meet
            exact ⟨p9, nn + 1, c9, rfl, by omega, HX⟩
        case rest =>
          clear HK cl hnn
          clear WW pp nn cc
          obtain ⟨pp, nn, cc, rfl, hnn, HK⟩ := hcut
          rename World => WW
          have cl := HCL.out WW HK.out.2.2
          go_upto_if 42 with fail
          go_cut [5] from 7 (fun v5 wc => ∃ (p : Option Addr) (n c : Nat), v5 = .slice p n c ∧ n ≤ 3 ∧ Hid (T3.length = n ∧ wc.ownsRow A2.heap.size 9 1 (.slice p n c) n (stZ T3) ∧ BLZ A2 wc))
          case first =>
            by_cases hx : wi = []
            · have hx1 : wi.isEmpty = true := by rw [hx]; rfl
              have HY : Hid (T3.length = nn ∧ WW.ownsRow A2.heap.size 9 1 (.slice pp nn cc) nn (stZ T3) ∧ BLZ A2 WW) := by
                have := HK.out
                rw [show T3 = T2 by rw [← HT3.out, hx, oW_none, List.append_nil]]
                exact this
              clear hx
              simp only [hx1, Bool.not_true]
              go_wp2_with fail
              go_meet
              exact ⟨pp, nn, cc, rfl, by omega, HY⟩
            · have hx1 : wi.isEmpty = false := by simpa using hx
              simp only [hx1, Bool.not_false]
              obtain ⟨X, hX⟩ : ∃ X, [32, 32, 119, 105, 116, 110, 101, 115, 115, 32] ++ wi = X := ⟨_, rfl⟩
              have e1 : (⟨#[32, 32, 119, 105, 116, 110, 101, 115, 115, 32]⟩ : ByteArray) ++ ⟨wi.toArray⟩ = ⟨X.toArray⟩ := by rw [← hX]; exact baA' [32, 32, 119, 105, 116, 110, 101, 115, 115, 32] wi
              have m1 : ¬ 9223372036854775807 < 10 + wi.length := by have := HLN.out.2.1; omega
              have HTN : Hid (T2 ++ [X] = T3) := by unfold Hid; rw [← HT3.out, oW_some hx, hX]
              clear hx hX
              have oF : (WW.alloc (.cells #[.string ⟨X.toArray⟩] 9 (0, 0))).ownsRow A2.heap.size 9 1 (.slice pp nn cc) nn (stZ T2) := own_belZ HK.out.2.1 (belAZ (Below.refl _ _) _)
              have hbs : A2.heap.size ≤ (WW.alloc (.cells #[.string ⟨X.toArray⟩] 9 (0, 0))).heap.size := (HK.out.2.2.trans (belAZ (Below.refl _ _) _)).size
              go_wp2_with (at_builtin; refine wpList_append_own _ rfl _ _ 28 rfl A2.heap.size 9 iS _ 1 16 Tryd.underlying28 hiS hzS0 hzS1 hzS2 rfl (by decide) _ _ _ rfl oF ⟨_, 0, none⟩ 1 1 [.string ⟨X.toArray⟩] rfl rfl (World.news_of_block (cs := #[.string ⟨X.toArray⟩]) (t := 9) (fr := (0, 0)) (alloc_getZ _ _)) (by simp [Value.oneCell']) (by unfold maxLen; omega) (by omega) hbs ?_; intro v9 w9 o9 g9 _)
              obtain ⟨p9, c9, rfl⟩ := shapeZ o9
              have HX : Hid (T3.length = (nn + 1) ∧ w9.ownsRow A2.heap.size 9 1 (.slice p9 (nn + 1) c9) (nn + 1) (stZ T3) ∧ BLZ A2 w9) := ⟨by rw [← HTN.out, List.length_append, HK.out.1]; rfl, by rw [← HTN.out, show stZ (T2 ++ [X]) = stZ T2 ++ [.string ⟨X.toArray⟩] by simp [stZ]]; exact o9, bel_grZ (HK.out.2.2.trans (belAZ (Below.refl _ _) _)) g9 (fun k e => (oF.lt k e).1)⟩
              clear o9 g9 oF hbs
              go_meet
              exact ⟨p9, nn + 1, c9, rfl, by omega, HX⟩
          case rest =>
            clear HK cl hnn
            clear WW pp nn cc
            obtain ⟨pp, nn, cc, rfl, hnn, HK⟩ := hcut
            rename World => WW
            have cl := HCL.out WW HK.out.2.2
            go_upto_if 52 with fail
            go_cut [5] from 7 (fun v5 wc => ∃ (p : Option Addr) (n c : Nat), v5 = .slice p n c ∧ n ≤ 4 ∧ Hid (T4.length = n ∧ wc.ownsRow A2.heap.size 9 1 (.slice p n c) n (stZ T4) ∧ BLZ A2 wc))
            case first =>
              by_cases hx : n1 = 0
              · have hx1 : ¬ (n1 : Int) > 0 := by omega
                have hx2 : ¬ (0 : Int) < (n1 : Int) := by omega
                have HY : Hid (T4.length = nn ∧ WW.ownsRow A2.heap.size 9 1 (.slice pp nn cc) nn (stZ T4) ∧ BLZ A2 WW) := by
                  have := HK.out
                  have hl : po = [] := List.eq_nil_of_length_eq_zero (by rw [HV.out.2.1]; exact hx)
                  rw [show T4 = T3 by rw [← HT4.out, hl, oL_none, List.append_nil]]
                  exact this
                have HN0 : Hid (n1 = 0) := hx
                have hx3 : decide ((0 : Int) < (n1 : Int)) = false := decide_eq_false hx2
                have hx4 : decide (0 < n1) = false := decide_eq_false (by omega)
                first | simp only [gt_iff_lt, hx3] | simp only [hx4]
                clear hx
                go_wp2_with fail
                go_meet
                exact ⟨pp, nn, cc, rfl, by omega, HY⟩
              · have hx1 : (n1 : Int) > 0 := by omega
                have hx2 : (0 : Int) < (n1 : Int) := by omega
                have hx3 : decide ((0 : Int) < (n1 : Int)) = true := decide_eq_true hx2
                have hx4 : decide (0 < n1) = true := decide_eq_true (by omega)
                first | simp only [gt_iff_lt, hx3] | simp only [hx4]
                have HJ := djoin_any po p1 n1 c1 [32] WW HV.out.2.1 (by have := HV.out.2.2.2.2; omega) (HV.out.1 WW (BBL.out WW HK.out.2.2)).1 (by have := HLN.out.2.2.1; omega)
                obtain ⟨J, hJ⟩ : ∃ J, Lib.join po [32] = J := ⟨_, rfl⟩
                rw [hJ] at HJ
                obtain ⟨X, hX⟩ : ∃ X, [32, 32, 112, 97, 116, 104, 32] ++ J = X := ⟨_, rfl⟩
                have e1 : (⟨#[32, 32, 112, 97, 116, 104, 32]⟩ : ByteArray) ++ ⟨J.toArray⟩ = ⟨X.toArray⟩ := by rw [← hX]; exact baA' [32, 32, 112, 97, 116, 104, 32] J
                have m1 : ¬ 9223372036854775807 < 7 + J.length := by have := HLN.out.2.2.1; rw [hJ] at this; omega
                have HTN : Hid (T3 ++ [X] = T4) := by unfold Hid; rw [← HT4.out, oL_some [32] (fun h => hx (by rw [← HV.out.2.1, h]; rfl)), hJ, hX]
                clear hx hX hJ
                go_wp2_with fail
                refine HJ.mono ?_
                rintro e wj ⟨rfl, hbj⟩
                have HK' : Hid (T3.length = nn ∧ wj.ownsRow A2.heap.size 9 1 (.slice pp nn cc) nn (stZ T3) ∧ BLZ A2 wj) := ⟨HK.out.1, own_belZ HK.out.2.1 hbj, HK.out.2.2.trans hbj⟩
                clear HK HJ hbj
                have HK := HK'
                clear HK'
                have oF : (wj.alloc (.cells #[.string ⟨X.toArray⟩] 9 (0, 0))).ownsRow A2.heap.size 9 1 (.slice pp nn cc) nn (stZ T3) := own_belZ HK.out.2.1 (belAZ (Below.refl _ _) _)
                have hbs : A2.heap.size ≤ (wj.alloc (.cells #[.string ⟨X.toArray⟩] 9 (0, 0))).heap.size := (HK.out.2.2.trans (belAZ (Below.refl _ _) _)).size
                go_wp2_with (at_builtin; refine wpList_append_own _ rfl _ _ 28 rfl A2.heap.size 9 iS _ 1 16 Tryd.underlying28 hiS hzS0 hzS1 hzS2 rfl (by decide) _ _ _ rfl oF ⟨_, 0, none⟩ 1 1 [.string ⟨X.toArray⟩] rfl rfl (World.news_of_block (cs := #[.string ⟨X.toArray⟩]) (t := 9) (fr := (0, 0)) (alloc_getZ _ _)) (by simp [Value.oneCell']) (by unfold maxLen; omega) (by omega) hbs ?_; intro v9 w9 o9 g9 _)
                obtain ⟨p9, c9, rfl⟩ := shapeZ o9
                have HX : Hid (T4.length = (nn + 1) ∧ w9.ownsRow A2.heap.size 9 1 (.slice p9 (nn + 1) c9) (nn + 1) (stZ T4) ∧ BLZ A2 w9) := ⟨by rw [← HTN.out, List.length_append, HK.out.1]; rfl, by rw [← HTN.out, show stZ (T3 ++ [X]) = stZ T3 ++ [.string ⟨X.toArray⟩] by simp [stZ]]; exact o9, bel_grZ (HK.out.2.2.trans (belAZ (Below.refl _ _) _)) g9 (fun k e => (oF.lt k e).1)⟩
                clear o9 g9 oF hbs
                go_meet
                exact ⟨p9, nn + 1, c9, rfl, by omega, HX⟩
            case rest =>
              clear HK cl hnn
              clear WW pp nn cc
              obtain ⟨pp, nn, cc, rfl, hnn, HK⟩ := hcut
              rename World => WW
              have cl := HCL.out WW HK.out.2.2
              go_upto_if 63 with fail
              go_cut [5] from 7 (fun v5 wc => ∃ (p : Option Addr) (n c : Nat), v5 = .slice p n c ∧ n ≤ 5 ∧ Hid (T5.length = n ∧ wc.ownsRow A2.heap.size 9 1 (.slice p n c) n (stZ T5) ∧ BLZ A2 wc))
              case first =>
                by_cases hx : n2 = 0
                · have hx1 : ¬ (n2 : Int) > 0 := by omega
                  have hx2 : ¬ (0 : Int) < (n2 : Int) := by omega
                  have HY : Hid (T5.length = nn ∧ WW.ownsRow A2.heap.size 9 1 (.slice pp nn cc) nn (stZ T5) ∧ BLZ A2 WW) := by
                    have := HK.out
                    have hl : en = [] := List.eq_nil_of_length_eq_zero (by rw [HV.out.2.2.1]; exact hx)
                    rw [show T5 = T4 by rw [← HT5.out, hl, oL_none, List.append_nil]]
                    exact this
                  have HN0 : Hid (n2 = 0) := hx
                  have hx3 : decide ((0 : Int) < (n2 : Int)) = false := decide_eq_false hx2
                  have hx4 : decide (0 < n2) = false := decide_eq_false (by omega)
                  first | simp only [gt_iff_lt, hx3] | simp only [hx4]
                  clear hx
                  go_wp2_with fail
                  go_meet
                  exact ⟨pp, nn, cc, rfl, by omega, HY⟩
                · have hx1 : (n2 : Int) > 0 := by omega
                  have hx2 : (0 : Int) < (n2 : Int) := by omega
                  have hx3 : decide ((0 : Int) < (n2 : Int)) = true := decide_eq_true hx2
                  have hx4 : decide (0 < n2) = true := decide_eq_true (by omega)
                  first | simp only [gt_iff_lt, hx3] | simp only [hx4]
                  have HJ := djoin_any en p2 n2 c2 [44, 32] WW HV.out.2.2.1 (by have := HV.out.2.2.2.2; omega) (HV.out.1 WW (BBL.out WW HK.out.2.2)).2.1 (by have := HLN.out.2.2.2.1; omega)
                  obtain ⟨J, hJ⟩ : ∃ J, Lib.join en [44, 32] = J := ⟨_, rfl⟩
                  rw [hJ] at HJ
                  obtain ⟨X, hX⟩ : ∃ X, [32, 32, 98, 121, 32] ++ J = X := ⟨_, rfl⟩
                  have e1 : (⟨#[32, 32, 98, 121, 32]⟩ : ByteArray) ++ ⟨J.toArray⟩ = ⟨X.toArray⟩ := by rw [← hX]; exact baA' [32, 32, 98, 121, 32] J
                  have m1 : ¬ 9223372036854775807 < 5 + J.length := by have := HLN.out.2.2.2.1; rw [hJ] at this; omega
                  have HTN : Hid (T4 ++ [X] = T5) := by unfold Hid; rw [← HT5.out, oL_some [44, 32] (fun h => hx (by rw [← HV.out.2.2.1, h]; rfl)), hJ, hX]
                  clear hx hX hJ
                  go_wp2_with fail
                  refine HJ.mono ?_
                  rintro e wj ⟨rfl, hbj⟩
                  have HK' : Hid (T4.length = nn ∧ wj.ownsRow A2.heap.size 9 1 (.slice pp nn cc) nn (stZ T4) ∧ BLZ A2 wj) := ⟨HK.out.1, own_belZ HK.out.2.1 hbj, HK.out.2.2.trans hbj⟩
                  clear HK HJ hbj
                  have HK := HK'
                  clear HK'
                  have oF : (wj.alloc (.cells #[.string ⟨X.toArray⟩] 9 (0, 0))).ownsRow A2.heap.size 9 1 (.slice pp nn cc) nn (stZ T4) := own_belZ HK.out.2.1 (belAZ (Below.refl _ _) _)
                  have hbs : A2.heap.size ≤ (wj.alloc (.cells #[.string ⟨X.toArray⟩] 9 (0, 0))).heap.size := (HK.out.2.2.trans (belAZ (Below.refl _ _) _)).size
                  go_wp2_with (at_builtin; refine wpList_append_own _ rfl _ _ 28 rfl A2.heap.size 9 iS _ 1 16 Tryd.underlying28 hiS hzS0 hzS1 hzS2 rfl (by decide) _ _ _ rfl oF ⟨_, 0, none⟩ 1 1 [.string ⟨X.toArray⟩] rfl rfl (World.news_of_block (cs := #[.string ⟨X.toArray⟩]) (t := 9) (fr := (0, 0)) (alloc_getZ _ _)) (by simp [Value.oneCell']) (by unfold maxLen; omega) (by omega) hbs ?_; intro v9 w9 o9 g9 _)
                  obtain ⟨p9, c9, rfl⟩ := shapeZ o9
                  have HX : Hid (T5.length = (nn + 1) ∧ w9.ownsRow A2.heap.size 9 1 (.slice p9 (nn + 1) c9) (nn + 1) (stZ T5) ∧ BLZ A2 w9) := ⟨by rw [← HTN.out, List.length_append, HK.out.1]; rfl, by rw [← HTN.out, show stZ (T4 ++ [X]) = stZ T4 ++ [.string ⟨X.toArray⟩] by simp [stZ]]; exact o9, bel_grZ (HK.out.2.2.trans (belAZ (Below.refl _ _) _)) g9 (fun k e => (oF.lt k e).1)⟩
                  clear o9 g9 oF hbs
                  go_meet
                  exact ⟨p9, nn + 1, c9, rfl, by omega, HX⟩
              case rest =>
                clear HK cl hnn
                clear WW pp nn cc
                obtain ⟨pp, nn, cc, rfl, hnn, HK⟩ := hcut
                rename World => WW
                have cl := HCL.out WW HK.out.2.2
                go_upto_if 73 with fail
                go_cut [5] from 7 (fun v5 wc => ∃ (p : Option Addr) (n c : Nat), v5 = .slice p n c ∧ n ≤ 6 ∧ Hid (T6.length = n ∧ wc.ownsRow A2.heap.size 9 1 (.slice p n c) n (stZ T6) ∧ BLZ A2 wc))
                case first =>
                  by_cases hx : fi = []
                  · have hx1 : fi.isEmpty = true := by rw [hx]; rfl
                    have HY : Hid (T6.length = nn ∧ WW.ownsRow A2.heap.size 9 1 (.slice pp nn cc) nn (stZ T6) ∧ BLZ A2 WW) := by
                      have := HK.out
                      rw [show T6 = T5 by rw [← HT6.out, hx, oW_none, List.append_nil]]
                      exact this
                    clear hx
                    simp only [hx1, Bool.not_true]
                    go_wp2_with fail
                    go_meet
                    exact ⟨pp, nn, cc, rfl, by omega, HY⟩
                  · have hx1 : fi.isEmpty = false := by simpa using hx
                    simp only [hx1, Bool.not_false]
                    obtain ⟨X, hX⟩ : ∃ X, [32, 32, 102, 105, 110, 97, 108, 32] ++ fi = X := ⟨_, rfl⟩
                    have e1 : (⟨#[32, 32, 102, 105, 110, 97, 108, 32]⟩ : ByteArray) ++ ⟨fi.toArray⟩ = ⟨X.toArray⟩ := by rw [← hX]; exact baA' [32, 32, 102, 105, 110, 97, 108, 32] fi
                    have m1 : ¬ 9223372036854775807 < 8 + fi.length := by have := HLN.out.2.2.2.2.1; omega
                    have HTN : Hid (T5 ++ [X] = T6) := by unfold Hid; rw [← HT6.out, oW_some hx, hX]
                    clear hx hX
                    have oF : (WW.alloc (.cells #[.string ⟨X.toArray⟩] 9 (0, 0))).ownsRow A2.heap.size 9 1 (.slice pp nn cc) nn (stZ T5) := own_belZ HK.out.2.1 (belAZ (Below.refl _ _) _)
                    have hbs : A2.heap.size ≤ (WW.alloc (.cells #[.string ⟨X.toArray⟩] 9 (0, 0))).heap.size := (HK.out.2.2.trans (belAZ (Below.refl _ _) _)).size
                    go_wp2_with (at_builtin; refine wpList_append_own _ rfl _ _ 28 rfl A2.heap.size 9 iS _ 1 16 Tryd.underlying28 hiS hzS0 hzS1 hzS2 rfl (by decide) _ _ _ rfl oF ⟨_, 0, none⟩ 1 1 [.string ⟨X.toArray⟩] rfl rfl (World.news_of_block (cs := #[.string ⟨X.toArray⟩]) (t := 9) (fr := (0, 0)) (alloc_getZ _ _)) (by simp [Value.oneCell']) (by unfold maxLen; omega) (by omega) hbs ?_; intro v9 w9 o9 g9 _)
                    obtain ⟨p9, c9, rfl⟩ := shapeZ o9
                    have HX : Hid (T6.length = (nn + 1) ∧ w9.ownsRow A2.heap.size 9 1 (.slice p9 (nn + 1) c9) (nn + 1) (stZ T6) ∧ BLZ A2 w9) := ⟨by rw [← HTN.out, List.length_append, HK.out.1]; rfl, by rw [← HTN.out, show stZ (T5 ++ [X]) = stZ T5 ++ [.string ⟨X.toArray⟩] by simp [stZ]]; exact o9, bel_grZ (HK.out.2.2.trans (belAZ (Below.refl _ _) _)) g9 (fun k e => (oF.lt k e).1)⟩
                    clear o9 g9 oF hbs
                    go_meet
                    exact ⟨p9, nn + 1, c9, rfl, by omega, HX⟩
                case rest =>
                  clear HK cl hnn
                  clear WW pp nn cc
                  obtain ⟨pp, nn, cc, rfl, hnn, HK⟩ := hcut
                  rename World => WW
                  have cl := HCL.out WW HK.out.2.2
                  have H0 : Hid (∃ TT, T6 ++ (li.take 0).map (fun l => [32, 32] ++ l) = TT ∧ TT.length = nn ∧ WW.ownsRow A2.heap.size 9 1 (.slice pp nn cc) nn (stZ TT) ∧ BLZ A2 WW) := ⟨T6, by simp, HK.out.1, HK.out.2.1, HK.out.2.2⟩
                  have hn3 : n3 ≤ 1000000000 := HV.out.2.2.2.2.2.2
                  clear HK
                  go_wp2_with fail
                  clear cl
                  go_loopw [5, 6] (fun v5 v6 wr => ∃ (i n : Nat) (p : Option Addr) (c : Nat), v6 = .int .i64 (i : Int) ∧ v5 = .slice p n c ∧ i ≤ n3 ∧ n ≤ 6 + i ∧ Hid (∃ TT, T6 ++ (li.take i).map (fun l => [32, 32] ++ l) = TT ∧ TT.length = n ∧ wr.ownsRow A2.heap.size 9 1 (.slice p n c) n (stZ TT) ∧ BLZ A2 wr)) (fun _ v6 _ => n3 - (intOf v6).toNat)
                  case atStart => exact ⟨0, nn, pp, cc, rfl, rfl, Nat.zero_le _, by omega, H0⟩
                  case round =>
                    clear H0 hnn
                    clear WW pp nn cc
                    obtain ⟨i, nn, pp, cc, rfl, rfl, hi, hnn, HR⟩ := hrel
                    obtain ⟨TT, hTT, hk⟩ := HR.out
                    rename World => WW
                    have HK : Hid (TT.length = nn ∧ WW.ownsRow A2.heap.size 9 1 (.slice pp nn cc) nn (stZ TT) ∧ BLZ A2 WW) := hk
                    have cl := HCL.out WW HK.out.2.2
                    have HTT : Hid (T6 ++ (li.take i).map (fun l => [32, 32] ++ l) = TT) := hTT
                    clear HR hk hTT
                    by_cases hlt : i < n3
                    · have i0 : (0 : Int) ≤ (i : Int) := by omega
                      have i1 : (i : Int) < (n3 : Int) := by omega
                      obtain ⟨x, hx⟩ : ∃ x, li[i]? = some x := ⟨_, List.getElem?_eq_getElem (by rw [HV.out.2.2.2.1]; exact hlt)⟩
                      obtain ⟨g, o0, rfl, hc⟩ := (HV.out.1 WW (BBL.out WW HK.out.2.2)).2.2 WW (Below.refl _ _) i x hx
                      obtain ⟨X, hX⟩ : ∃ X, [32, 32] ++ x = X := ⟨_, rfl⟩
                      have e1 : (⟨#[32, 32]⟩ : ByteArray) ++ ⟨x.toArray⟩ = ⟨X.toArray⟩ := by rw [← hX]; exact baA' [32, 32] x
                      have m1 : ¬ 9223372036854775807 < 2 + x.length := by have := HLN.out.2.2.2.2.2; have := x_pN hx; omega
                      obtain ⟨TN, hTN⟩ : ∃ TN, TT ++ [X] = TN := ⟨_, rfl⟩
                      have HTN : Hid (TT ++ [X] = TN) := hTN
                      have HTS : Hid (T6 ++ (li.take (i + 1)).map (fun l => [32, 32] ++ l) = TN) := by
                        unfold Hid
                        rw [← hTN, ← HTT.out, List.take_add_one, hx, Option.toList_some, List.map_append, ← List.append_assoc, ← hX]
                        rfl
                      clear hx hX hTN HTT
                      have oF : (WW.alloc (.cells #[.string ⟨X.toArray⟩] 9 (0, 0))).ownsRow A2.heap.size 9 1 (.slice pp nn cc) nn (stZ TT) := own_belZ HK.out.2.1 (belAZ (Below.refl _ _) _)
                      have hbs : A2.heap.size ≤ (WW.alloc (.cells #[.string ⟨X.toArray⟩] 9 (0, 0))).heap.size := (HK.out.2.2.trans (belAZ (Below.refl _ _) _)).size
                      go_wp2_with (at_builtin; refine wpList_append_own _ rfl _ _ 28 rfl A2.heap.size 9 iS _ 1 16 Tryd.underlying28 hiS hzS0 hzS1 hzS2 rfl (by decide) _ _ _ rfl oF ⟨_, 0, none⟩ 1 1 [.string ⟨X.toArray⟩] rfl rfl (World.news_of_block (cs := #[.string ⟨X.toArray⟩]) (t := 9) (fr := (0, 0)) (alloc_getZ _ _)) (by simp [Value.oneCell']) (by unfold maxLen; omega) (by omega) hbs ?_; intro v9 w9 o9 g9 _)
                      obtain ⟨p9, c9, rfl⟩ := shapeZ o9
                      have HX : Hid (TN.length = (nn + 1) ∧ w9.ownsRow A2.heap.size 9 1 (.slice p9 (nn + 1) c9) (nn + 1) (stZ TN) ∧ BLZ A2 w9) := ⟨by rw [← HTN.out, List.length_append, HK.out.1]; rfl, by rw [← HTN.out, show stZ (TT ++ [X]) = stZ TT ++ [.string ⟨X.toArray⟩] by simp [stZ]]; exact o9, bel_grZ (HK.out.2.2.trans (belAZ (Below.refl _ _) _)) g9 (fun k e => (oF.lt k e).1)⟩
                      clear o9 g9 oF hbs
                      have HY : Hid (∃ TT, T6 ++ (li.take (i + 1)).map (fun l => [32, 32] ++ l) = TT ∧ TT.length = nn + 1 ∧ w9.ownsRow A2.heap.size 9 1 (.slice p9 (nn + 1) c9) (nn + 1) (stZ TT) ∧ BLZ A2 w9) := ⟨TN, HTS.out, HX.out⟩
                      clear HX cl hc HK HTN HTS
                      go_roundw
                      case rel => exact ⟨i + 1, nn + 1, p9, c9, by go_num, rfl, by omega, by omega, HY⟩
                      case measure => simp [intOf]; omega
                    · have i1 : ¬ (i : Int) < (n3 : Int) := by omega
                      have HT7 : Hid (T6 ++ li.map (fun l => [32, 32] ++ l) = TT) := by
                        have := HTT.out
                        rw [List.take_of_length_le (by rw [HV.out.2.2.2.1]; omega)] at this
                        exact this
                      cases mo
                      · have HE : Hid (∃ v, Ending.returned (.slice pp nn cc) = .returned v ∧ OWZ 9 WW w.heap.size v (stZ (tdL ⟨k, fd, sp, wi, po, en, fi, li, false⟩)) ∧ Below w.heap.size w WW) := by
                          refine ⟨_, rfl, ?_, BBL.out WW HK.out.2.2⟩
                          have e : tdL ⟨k, fd, sp, wi, po, en, fi, li, false⟩ = TT := by rw [HALL.out, HT7.out]; simp
                          unfold OWZ
                          rw [stZ_len, e, HK.out.1]
                          exact own_baseZ HK.out.2.1 HSZ.out
                        clear HK HT7 HTT
                        go_wp2_with fail
                        go_ret
                        have HE' := HE.out
                        rw [hbb] at HE'
                        exact HE'
                      · obtain ⟨X, hX⟩ : ∃ X : List UInt8, [32, 32, 109, 111, 114, 101] = X := ⟨_, rfl⟩
                        obtain ⟨TN, hTN⟩ : ∃ TN, TT ++ [X] = TN := ⟨_, rfl⟩
                        have HTN : Hid (TT ++ [X] = TN) := hTN
                        have e1 : (⟨#[32, 32, 109, 111, 114, 101]⟩ : ByteArray) = ⟨X.toArray⟩ := by rw [← hX]
                        have HXX : Hid ([32, 32, 109, 111, 114, 101] = X) := hX
                        clear hX hTN
                        have oF : (WW.alloc (.cells #[.string ⟨X.toArray⟩] 9 (0, 0))).ownsRow A2.heap.size 9 1 (.slice pp nn cc) nn (stZ TT) := own_belZ HK.out.2.1 (belAZ (Below.refl _ _) _)
                        have hbs : A2.heap.size ≤ (WW.alloc (.cells #[.string ⟨X.toArray⟩] 9 (0, 0))).heap.size := (HK.out.2.2.trans (belAZ (Below.refl _ _) _)).size
                        go_wp2_with (at_builtin; refine wpList_append_own _ rfl _ _ 28 rfl A2.heap.size 9 iS _ 1 16 Tryd.underlying28 hiS hzS0 hzS1 hzS2 rfl (by decide) _ _ _ rfl oF ⟨_, 0, none⟩ 1 1 [.string ⟨X.toArray⟩] rfl rfl (World.news_of_block (cs := #[.string ⟨X.toArray⟩]) (t := 9) (fr := (0, 0)) (alloc_getZ _ _)) (by simp [Value.oneCell']) (by unfold maxLen; omega) (by omega) hbs ?_; intro v9 w9 o9 g9 _)
                        obtain ⟨p9, c9, rfl⟩ := shapeZ o9
                        have HX : Hid (TN.length = (nn + 1) ∧ w9.ownsRow A2.heap.size 9 1 (.slice p9 (nn + 1) c9) (nn + 1) (stZ TN) ∧ BLZ A2 w9) := ⟨by rw [← HTN.out, List.length_append, HK.out.1]; rfl, by rw [← HTN.out, show stZ (TT ++ [X]) = stZ TT ++ [.string ⟨X.toArray⟩] by simp [stZ]]; exact o9, bel_grZ (HK.out.2.2.trans (belAZ (Below.refl _ _) _)) g9 (fun k e => (oF.lt k e).1)⟩
                        clear o9 g9 oF hbs
                        have HE : Hid (∃ v, Ending.returned (.slice p9 (nn + 1) c9) = .returned v ∧ OWZ 9 w9 w.heap.size v (stZ (tdL ⟨k, fd, sp, wi, po, en, fi, li, true⟩)) ∧ Below w.heap.size w w9) := by
                          refine ⟨_, rfl, ?_, BBL.out w9 HX.out.2.2⟩
                          have e : tdL ⟨k, fd, sp, wi, po, en, fi, li, true⟩ = TN := by rw [HALL.out, HT7.out, ← HTN.out, ← HXX.out]; simp
                          unfold OWZ
                          rw [stZ_len, e, HX.out.1]
                          exact own_baseZ HX.out.2.1 HSZ.out
                        clear HK HT7 HTT HX
                        go_wp2_with fail
                        go_ret
                        have HE' := HE.out
                        rw [hbb] at HE'
                        exact HE'
    · have hk1 : ¬ k > 0 := hk0
      clear hk
      go_enter Tryd.func12, Tryd.ntmps12
      go_upto_region 2 with fail
      rw [HA2.out]
      go_upto_if 26 with fail
      go_cut [5] from 7 (fun v5 wc => ∃ (p : Option Addr) (n c : Nat), v5 = .slice p n c ∧ n ≤ 1 ∧ Hid (T1.length = n ∧ wc.ownsRow A2.heap.size 9 1 (.slice p n c) n (stZ T1) ∧ BLZ A2 wc))
      case first =>
        cases fd
        · have HY : Hid (T1.length = 1 ∧ (A2.alloc (.cells #[.string ⟨X0.toArray⟩] 9 (0, 0))).ownsRow A2.heap.size 9 1 (.slice (some ⟨A2.heap.size, 0, none⟩) 1 1) 1 (stZ T1) ∧ BLZ A2 (A2.alloc (.cells #[.string ⟨X0.toArray⟩] 9 (0, 0)))) := ⟨by rw [← HT1.out]; rfl, by rw [← HT1.out]; exact HO0.out.1, HO0.out.2⟩
          go_wp2_with fail
          go_meet
          exact ⟨some ⟨A2.heap.size, 0, none⟩, 1, 1, rfl, by omega, by first | exact HY | (rw [HGA.out] at HY; exact HY)⟩
        · obtain ⟨st1, st2⟩ := World.ownsRow.stored HO0.out.1 0 (.string ⟨X1.toArray⟩)
          have HY : Hid (T1.length = 1 ∧ ((A2.alloc (.cells #[.string ⟨X0.toArray⟩] 9 (0, 0))).setCell ⟨A2.heap.size, 0, none⟩ (.string ⟨X1.toArray⟩)).ownsRow A2.heap.size 9 1 (.slice (some ⟨A2.heap.size, 0, none⟩) 1 1) 1 (stZ T1) ∧ BLZ A2 ((A2.alloc (.cells #[.string ⟨X0.toArray⟩] 9 (0, 0))).setCell ⟨A2.heap.size, 0, none⟩ (.string ⟨X1.toArray⟩))) := ⟨by rw [← HT1.out]; rfl, by rw [← HT1.out]; exact st1, bel_grZ HO0.out.2 st2 (fun k e => (HO0.out.1.lt k e).1)⟩
          have hO1 := World.ownsRow_lit (e := 9) (base := A2.heap.size) (size := 1) A2 #[.string ⟨X1.toArray⟩] 1 (Nat.le_refl _) (by decide) rfl
          have HY1 : Hid (T1.length = 1 ∧ (A2.alloc (.cells #[.string ⟨X1.toArray⟩] 9 (0, 0))).ownsRow A2.heap.size 9 1 (.slice (some ⟨A2.heap.size, 0, none⟩) 1 1) 1 (stZ T1) ∧ BLZ A2 (A2.alloc (.cells #[.string ⟨X1.toArray⟩] 9 (0, 0)))) := ⟨by rw [← HT1.out]; rfl, by rw [← HT1.out]; exact hO1, belAZ (Below.refl _ _) _⟩
          clear hO1
          obtain ⟨u1, u2⟩ := cellsZ (alloc_getZ A2 (.cells #[.string ⟨X0.toArray⟩] 9 (0, 0)))
          clear st1 st2
          go_wp2_with fail
          go_meet
          exact ⟨some ⟨A2.heap.size, 0, none⟩, 1, 1, rfl, by omega, by first | exact HY | exact HY1⟩
      case rest =>
        clear cl cl0 cw0 HO0
        obtain ⟨pp, nn, cc, rfl, hnn, HK⟩ := hcut
        rename World => WW
        have cl := HCL.out WW HK.out.2.2
        go_upto_if 33 with fail
        go_cut [5] from 7 (fun v5 wc => ∃ (p : Option Addr) (n c : Nat), v5 = .slice p n c ∧ n ≤ 2 ∧ Hid (T2.length = n ∧ wc.ownsRow A2.heap.size 9 1 (.slice p n c) n (stZ T2) ∧ BLZ A2 wc))
        case first =>
          by_cases hx : sp = []
          · have hx1 : sp.isEmpty = true := by rw [hx]; rfl
            have HY : Hid (T2.length = nn ∧ WW.ownsRow A2.heap.size 9 1 (.slice pp nn cc) nn (stZ T2) ∧ BLZ A2 WW) := by
              have := HK.out
              rw [show T2 = T1 by rw [← HT2.out, hx, oW_none, List.append_nil]]
              exact this
            clear hx
            simp only [hx1, Bool.not_true]
            go_wp2_with fail
            go_meet
            exact ⟨pp, nn, cc, rfl, by omega, HY⟩
          · have hx1 : sp.isEmpty = false := by simpa using hx
            simp only [hx1, Bool.not_false]
            obtain ⟨X, hX⟩ : ∃ X, [32, 32, 115, 112, 97, 99, 101, 32] ++ sp = X := ⟨_, rfl⟩
            have e1 : (⟨#[32, 32, 115, 112, 97, 99, 101, 32]⟩ : ByteArray) ++ ⟨sp.toArray⟩ = ⟨X.toArray⟩ := by rw [← hX]; exact baA' [32, 32, 115, 112, 97, 99, 101, 32] sp
            have m1 : ¬ 9223372036854775807 < 8 + sp.length := by have := HLN.out.1; omega
            have HTN : Hid (T1 ++ [X] = T2) := by unfold Hid; rw [← HT2.out, oW_some hx, hX]
            clear hx hX
            have oF : (WW.alloc (.cells #[.string ⟨X.toArray⟩] 9 (0, 0))).ownsRow A2.heap.size 9 1 (.slice pp nn cc) nn (stZ T1) := own_belZ HK.out.2.1 (belAZ (Below.refl _ _) _)
            have hbs : A2.heap.size ≤ (WW.alloc (.cells #[.string ⟨X.toArray⟩] 9 (0, 0))).heap.size := (HK.out.2.2.trans (belAZ (Below.refl _ _) _)).size
            go_wp2_with (at_builtin; refine wpList_append_own _ rfl _ _ 28 rfl A2.heap.size 9 iS _ 1 16 Tryd.underlying28 hiS hzS0 hzS1 hzS2 rfl (by decide) _ _ _ rfl oF ⟨_, 0, none⟩ 1 1 [.string ⟨X.toArray⟩] rfl rfl (World.news_of_block (cs := #[.string ⟨X.toArray⟩]) (t := 9) (fr := (0, 0)) (alloc_getZ _ _)) (by simp [Value.oneCell']) (by unfold maxLen; omega) (by omega) hbs ?_; intro v9 w9 o9 g9 _)
            obtain ⟨p9, c9, rfl⟩ := shapeZ o9
            have HX : Hid (T2.length = (nn + 1) ∧ w9.ownsRow A2.heap.size 9 1 (.slice p9 (nn + 1) c9) (nn + 1) (stZ T2) ∧ BLZ A2 w9) := ⟨by rw [← HTN.out, List.length_append, HK.out.1]; rfl, by rw [← HTN.out, show stZ (T1 ++ [X]) = stZ T1 ++ [.string ⟨X.toArray⟩] by simp [stZ]]; exact o9, bel_grZ (HK.out.2.2.trans (belAZ (Below.refl _ _) _)) g9 (fun k e => (oF.lt k e).1)⟩
            clear o9 g9 oF hbs
            go_meet
            exact ⟨p9, nn + 1, c9, rfl, by omega, HX⟩
        case rest =>
          clear HK cl hnn
          clear WW pp nn cc
          obtain ⟨pp, nn, cc, rfl, hnn, HK⟩ := hcut
          rename World => WW
          have cl := HCL.out WW HK.out.2.2
          go_upto_if 42 with fail
          go_cut [5] from 7 (fun v5 wc => ∃ (p : Option Addr) (n c : Nat), v5 = .slice p n c ∧ n ≤ 3 ∧ Hid (T3.length = n ∧ wc.ownsRow A2.heap.size 9 1 (.slice p n c) n (stZ T3) ∧ BLZ A2 wc))
          case first =>
            by_cases hx : wi = []
            · have hx1 : wi.isEmpty = true := by rw [hx]; rfl
              have HY : Hid (T3.length = nn ∧ WW.ownsRow A2.heap.size 9 1 (.slice pp nn cc) nn (stZ T3) ∧ BLZ A2 WW) := by
                have := HK.out
                rw [show T3 = T2 by rw [← HT3.out, hx, oW_none, List.append_nil]]
                exact this
              clear hx
              simp only [hx1, Bool.not_true]
              go_wp2_with fail
              go_meet
              exact ⟨pp, nn, cc, rfl, by omega, HY⟩
            · have hx1 : wi.isEmpty = false := by simpa using hx
              simp only [hx1, Bool.not_false]
              obtain ⟨X, hX⟩ : ∃ X, [32, 32, 119, 105, 116, 110, 101, 115, 115, 32] ++ wi = X := ⟨_, rfl⟩
              have e1 : (⟨#[32, 32, 119, 105, 116, 110, 101, 115, 115, 32]⟩ : ByteArray) ++ ⟨wi.toArray⟩ = ⟨X.toArray⟩ := by rw [← hX]; exact baA' [32, 32, 119, 105, 116, 110, 101, 115, 115, 32] wi
              have m1 : ¬ 9223372036854775807 < 10 + wi.length := by have := HLN.out.2.1; omega
              have HTN : Hid (T2 ++ [X] = T3) := by unfold Hid; rw [← HT3.out, oW_some hx, hX]
              clear hx hX
              have oF : (WW.alloc (.cells #[.string ⟨X.toArray⟩] 9 (0, 0))).ownsRow A2.heap.size 9 1 (.slice pp nn cc) nn (stZ T2) := own_belZ HK.out.2.1 (belAZ (Below.refl _ _) _)
              have hbs : A2.heap.size ≤ (WW.alloc (.cells #[.string ⟨X.toArray⟩] 9 (0, 0))).heap.size := (HK.out.2.2.trans (belAZ (Below.refl _ _) _)).size
              go_wp2_with (at_builtin; refine wpList_append_own _ rfl _ _ 28 rfl A2.heap.size 9 iS _ 1 16 Tryd.underlying28 hiS hzS0 hzS1 hzS2 rfl (by decide) _ _ _ rfl oF ⟨_, 0, none⟩ 1 1 [.string ⟨X.toArray⟩] rfl rfl (World.news_of_block (cs := #[.string ⟨X.toArray⟩]) (t := 9) (fr := (0, 0)) (alloc_getZ _ _)) (by simp [Value.oneCell']) (by unfold maxLen; omega) (by omega) hbs ?_; intro v9 w9 o9 g9 _)
              obtain ⟨p9, c9, rfl⟩ := shapeZ o9
              have HX : Hid (T3.length = (nn + 1) ∧ w9.ownsRow A2.heap.size 9 1 (.slice p9 (nn + 1) c9) (nn + 1) (stZ T3) ∧ BLZ A2 w9) := ⟨by rw [← HTN.out, List.length_append, HK.out.1]; rfl, by rw [← HTN.out, show stZ (T2 ++ [X]) = stZ T2 ++ [.string ⟨X.toArray⟩] by simp [stZ]]; exact o9, bel_grZ (HK.out.2.2.trans (belAZ (Below.refl _ _) _)) g9 (fun k e => (oF.lt k e).1)⟩
              clear o9 g9 oF hbs
              go_meet
              exact ⟨p9, nn + 1, c9, rfl, by omega, HX⟩
          case rest =>
            clear HK cl hnn
            clear WW pp nn cc
            obtain ⟨pp, nn, cc, rfl, hnn, HK⟩ := hcut
            rename World => WW
            have cl := HCL.out WW HK.out.2.2
            go_upto_if 52 with fail
            go_cut [5] from 7 (fun v5 wc => ∃ (p : Option Addr) (n c : Nat), v5 = .slice p n c ∧ n ≤ 4 ∧ Hid (T4.length = n ∧ wc.ownsRow A2.heap.size 9 1 (.slice p n c) n (stZ T4) ∧ BLZ A2 wc))
            case first =>
              by_cases hx : n1 = 0
              · have hx1 : ¬ (n1 : Int) > 0 := by omega
                have hx2 : ¬ (0 : Int) < (n1 : Int) := by omega
                have HY : Hid (T4.length = nn ∧ WW.ownsRow A2.heap.size 9 1 (.slice pp nn cc) nn (stZ T4) ∧ BLZ A2 WW) := by
                  have := HK.out
                  have hl : po = [] := List.eq_nil_of_length_eq_zero (by rw [HV.out.2.1]; exact hx)
                  rw [show T4 = T3 by rw [← HT4.out, hl, oL_none, List.append_nil]]
                  exact this
                have HN0 : Hid (n1 = 0) := hx
                have hx3 : decide ((0 : Int) < (n1 : Int)) = false := decide_eq_false hx2
                have hx4 : decide (0 < n1) = false := decide_eq_false (by omega)
                first | simp only [gt_iff_lt, hx3] | simp only [hx4]
                clear hx
                go_wp2_with fail
                go_meet
                exact ⟨pp, nn, cc, rfl, by omega, HY⟩
              · have hx1 : (n1 : Int) > 0 := by omega
                have hx2 : (0 : Int) < (n1 : Int) := by omega
                have hx3 : decide ((0 : Int) < (n1 : Int)) = true := decide_eq_true hx2
                have hx4 : decide (0 < n1) = true := decide_eq_true (by omega)
                first | simp only [gt_iff_lt, hx3] | simp only [hx4]
                have HJ := djoin_any po p1 n1 c1 [32] WW HV.out.2.1 (by have := HV.out.2.2.2.2; omega) (HV.out.1 WW (BBL.out WW HK.out.2.2)).1 (by have := HLN.out.2.2.1; omega)
                obtain ⟨J, hJ⟩ : ∃ J, Lib.join po [32] = J := ⟨_, rfl⟩
                rw [hJ] at HJ
                obtain ⟨X, hX⟩ : ∃ X, [32, 32, 112, 97, 116, 104, 32] ++ J = X := ⟨_, rfl⟩
                have e1 : (⟨#[32, 32, 112, 97, 116, 104, 32]⟩ : ByteArray) ++ ⟨J.toArray⟩ = ⟨X.toArray⟩ := by rw [← hX]; exact baA' [32, 32, 112, 97, 116, 104, 32] J
                have m1 : ¬ 9223372036854775807 < 7 + J.length := by have := HLN.out.2.2.1; rw [hJ] at this; omega
                have HTN : Hid (T3 ++ [X] = T4) := by unfold Hid; rw [← HT4.out, oL_some [32] (fun h => hx (by rw [← HV.out.2.1, h]; rfl)), hJ, hX]
                clear hx hX hJ
                go_wp2_with fail
                refine HJ.mono ?_
                rintro e wj ⟨rfl, hbj⟩
                have HK' : Hid (T3.length = nn ∧ wj.ownsRow A2.heap.size 9 1 (.slice pp nn cc) nn (stZ T3) ∧ BLZ A2 wj) := ⟨HK.out.1, own_belZ HK.out.2.1 hbj, HK.out.2.2.trans hbj⟩
                clear HK HJ hbj
                have HK := HK'
                clear HK'
                have oF : (wj.alloc (.cells #[.string ⟨X.toArray⟩] 9 (0, 0))).ownsRow A2.heap.size 9 1 (.slice pp nn cc) nn (stZ T3) := own_belZ HK.out.2.1 (belAZ (Below.refl _ _) _)
                have hbs : A2.heap.size ≤ (wj.alloc (.cells #[.string ⟨X.toArray⟩] 9 (0, 0))).heap.size := (HK.out.2.2.trans (belAZ (Below.refl _ _) _)).size
                go_wp2_with (at_builtin; refine wpList_append_own _ rfl _ _ 28 rfl A2.heap.size 9 iS _ 1 16 Tryd.underlying28 hiS hzS0 hzS1 hzS2 rfl (by decide) _ _ _ rfl oF ⟨_, 0, none⟩ 1 1 [.string ⟨X.toArray⟩] rfl rfl (World.news_of_block (cs := #[.string ⟨X.toArray⟩]) (t := 9) (fr := (0, 0)) (alloc_getZ _ _)) (by simp [Value.oneCell']) (by unfold maxLen; omega) (by omega) hbs ?_; intro v9 w9 o9 g9 _)
                obtain ⟨p9, c9, rfl⟩ := shapeZ o9
                have HX : Hid (T4.length = (nn + 1) ∧ w9.ownsRow A2.heap.size 9 1 (.slice p9 (nn + 1) c9) (nn + 1) (stZ T4) ∧ BLZ A2 w9) := ⟨by rw [← HTN.out, List.length_append, HK.out.1]; rfl, by rw [← HTN.out, show stZ (T3 ++ [X]) = stZ T3 ++ [.string ⟨X.toArray⟩] by simp [stZ]]; exact o9, bel_grZ (HK.out.2.2.trans (belAZ (Below.refl _ _) _)) g9 (fun k e => (oF.lt k e).1)⟩
                clear o9 g9 oF hbs
                go_meet
                exact ⟨p9, nn + 1, c9, rfl, by omega, HX⟩
            case rest =>
              clear HK cl hnn
              clear WW pp nn cc
              obtain ⟨pp, nn, cc, rfl, hnn, HK⟩ := hcut
              rename World => WW
              have cl := HCL.out WW HK.out.2.2
              go_upto_if 63 with fail
              go_cut [5] from 7 (fun v5 wc => ∃ (p : Option Addr) (n c : Nat), v5 = .slice p n c ∧ n ≤ 5 ∧ Hid (T5.length = n ∧ wc.ownsRow A2.heap.size 9 1 (.slice p n c) n (stZ T5) ∧ BLZ A2 wc))
              case first =>
                by_cases hx : n2 = 0
                · have hx1 : ¬ (n2 : Int) > 0 := by omega
                  have hx2 : ¬ (0 : Int) < (n2 : Int) := by omega
                  have HY : Hid (T5.length = nn ∧ WW.ownsRow A2.heap.size 9 1 (.slice pp nn cc) nn (stZ T5) ∧ BLZ A2 WW) := by
                    have := HK.out
                    have hl : en = [] := List.eq_nil_of_length_eq_zero (by rw [HV.out.2.2.1]; exact hx)
                    rw [show T5 = T4 by rw [← HT5.out, hl, oL_none, List.append_nil]]
                    exact this
                  have HN0 : Hid (n2 = 0) := hx
                  have hx3 : decide ((0 : Int) < (n2 : Int)) = false := decide_eq_false hx2
                  have hx4 : decide (0 < n2) = false := decide_eq_false (by omega)
                  first | simp only [gt_iff_lt, hx3] | simp only [hx4]
                  clear hx
                  go_wp2_with fail
                  go_meet
                  exact ⟨pp, nn, cc, rfl, by omega, HY⟩
                · have hx1 : (n2 : Int) > 0 := by omega
                  have hx2 : (0 : Int) < (n2 : Int) := by omega
                  have hx3 : decide ((0 : Int) < (n2 : Int)) = true := decide_eq_true hx2
                  have hx4 : decide (0 < n2) = true := decide_eq_true (by omega)
                  first | simp only [gt_iff_lt, hx3] | simp only [hx4]
                  have HJ := djoin_any en p2 n2 c2 [44, 32] WW HV.out.2.2.1 (by have := HV.out.2.2.2.2; omega) (HV.out.1 WW (BBL.out WW HK.out.2.2)).2.1 (by have := HLN.out.2.2.2.1; omega)
                  obtain ⟨J, hJ⟩ : ∃ J, Lib.join en [44, 32] = J := ⟨_, rfl⟩
                  rw [hJ] at HJ
                  obtain ⟨X, hX⟩ : ∃ X, [32, 32, 98, 121, 32] ++ J = X := ⟨_, rfl⟩
                  have e1 : (⟨#[32, 32, 98, 121, 32]⟩ : ByteArray) ++ ⟨J.toArray⟩ = ⟨X.toArray⟩ := by rw [← hX]; exact baA' [32, 32, 98, 121, 32] J
                  have m1 : ¬ 9223372036854775807 < 5 + J.length := by have := HLN.out.2.2.2.1; rw [hJ] at this; omega
                  have HTN : Hid (T4 ++ [X] = T5) := by unfold Hid; rw [← HT5.out, oL_some [44, 32] (fun h => hx (by rw [← HV.out.2.2.1, h]; rfl)), hJ, hX]
                  clear hx hX hJ
                  go_wp2_with fail
                  refine HJ.mono ?_
                  rintro e wj ⟨rfl, hbj⟩
                  have HK' : Hid (T4.length = nn ∧ wj.ownsRow A2.heap.size 9 1 (.slice pp nn cc) nn (stZ T4) ∧ BLZ A2 wj) := ⟨HK.out.1, own_belZ HK.out.2.1 hbj, HK.out.2.2.trans hbj⟩
                  clear HK HJ hbj
                  have HK := HK'
                  clear HK'
                  have oF : (wj.alloc (.cells #[.string ⟨X.toArray⟩] 9 (0, 0))).ownsRow A2.heap.size 9 1 (.slice pp nn cc) nn (stZ T4) := own_belZ HK.out.2.1 (belAZ (Below.refl _ _) _)
                  have hbs : A2.heap.size ≤ (wj.alloc (.cells #[.string ⟨X.toArray⟩] 9 (0, 0))).heap.size := (HK.out.2.2.trans (belAZ (Below.refl _ _) _)).size
                  go_wp2_with (at_builtin; refine wpList_append_own _ rfl _ _ 28 rfl A2.heap.size 9 iS _ 1 16 Tryd.underlying28 hiS hzS0 hzS1 hzS2 rfl (by decide) _ _ _ rfl oF ⟨_, 0, none⟩ 1 1 [.string ⟨X.toArray⟩] rfl rfl (World.news_of_block (cs := #[.string ⟨X.toArray⟩]) (t := 9) (fr := (0, 0)) (alloc_getZ _ _)) (by simp [Value.oneCell']) (by unfold maxLen; omega) (by omega) hbs ?_; intro v9 w9 o9 g9 _)
                  obtain ⟨p9, c9, rfl⟩ := shapeZ o9
                  have HX : Hid (T5.length = (nn + 1) ∧ w9.ownsRow A2.heap.size 9 1 (.slice p9 (nn + 1) c9) (nn + 1) (stZ T5) ∧ BLZ A2 w9) := ⟨by rw [← HTN.out, List.length_append, HK.out.1]; rfl, by rw [← HTN.out, show stZ (T4 ++ [X]) = stZ T4 ++ [.string ⟨X.toArray⟩] by simp [stZ]]; exact o9, bel_grZ (HK.out.2.2.trans (belAZ (Below.refl _ _) _)) g9 (fun k e => (oF.lt k e).1)⟩
                  clear o9 g9 oF hbs
                  go_meet
                  exact ⟨p9, nn + 1, c9, rfl, by omega, HX⟩
              case rest =>
                clear HK cl hnn
                clear WW pp nn cc
                obtain ⟨pp, nn, cc, rfl, hnn, HK⟩ := hcut
                rename World => WW
                have cl := HCL.out WW HK.out.2.2
                go_upto_if 73 with fail
                go_cut [5] from 7 (fun v5 wc => ∃ (p : Option Addr) (n c : Nat), v5 = .slice p n c ∧ n ≤ 6 ∧ Hid (T6.length = n ∧ wc.ownsRow A2.heap.size 9 1 (.slice p n c) n (stZ T6) ∧ BLZ A2 wc))
                case first =>
                  by_cases hx : fi = []
                  · have hx1 : fi.isEmpty = true := by rw [hx]; rfl
                    have HY : Hid (T6.length = nn ∧ WW.ownsRow A2.heap.size 9 1 (.slice pp nn cc) nn (stZ T6) ∧ BLZ A2 WW) := by
                      have := HK.out
                      rw [show T6 = T5 by rw [← HT6.out, hx, oW_none, List.append_nil]]
                      exact this
                    clear hx
                    simp only [hx1, Bool.not_true]
                    go_wp2_with fail
                    go_meet
                    exact ⟨pp, nn, cc, rfl, by omega, HY⟩
                  · have hx1 : fi.isEmpty = false := by simpa using hx
                    simp only [hx1, Bool.not_false]
                    obtain ⟨X, hX⟩ : ∃ X, [32, 32, 102, 105, 110, 97, 108, 32] ++ fi = X := ⟨_, rfl⟩
                    have e1 : (⟨#[32, 32, 102, 105, 110, 97, 108, 32]⟩ : ByteArray) ++ ⟨fi.toArray⟩ = ⟨X.toArray⟩ := by rw [← hX]; exact baA' [32, 32, 102, 105, 110, 97, 108, 32] fi
                    have m1 : ¬ 9223372036854775807 < 8 + fi.length := by have := HLN.out.2.2.2.2.1; omega
                    have HTN : Hid (T5 ++ [X] = T6) := by unfold Hid; rw [← HT6.out, oW_some hx, hX]
                    clear hx hX
                    have oF : (WW.alloc (.cells #[.string ⟨X.toArray⟩] 9 (0, 0))).ownsRow A2.heap.size 9 1 (.slice pp nn cc) nn (stZ T5) := own_belZ HK.out.2.1 (belAZ (Below.refl _ _) _)
                    have hbs : A2.heap.size ≤ (WW.alloc (.cells #[.string ⟨X.toArray⟩] 9 (0, 0))).heap.size := (HK.out.2.2.trans (belAZ (Below.refl _ _) _)).size
                    go_wp2_with (at_builtin; refine wpList_append_own _ rfl _ _ 28 rfl A2.heap.size 9 iS _ 1 16 Tryd.underlying28 hiS hzS0 hzS1 hzS2 rfl (by decide) _ _ _ rfl oF ⟨_, 0, none⟩ 1 1 [.string ⟨X.toArray⟩] rfl rfl (World.news_of_block (cs := #[.string ⟨X.toArray⟩]) (t := 9) (fr := (0, 0)) (alloc_getZ _ _)) (by simp [Value.oneCell']) (by unfold maxLen; omega) (by omega) hbs ?_; intro v9 w9 o9 g9 _)
                    obtain ⟨p9, c9, rfl⟩ := shapeZ o9
                    have HX : Hid (T6.length = (nn + 1) ∧ w9.ownsRow A2.heap.size 9 1 (.slice p9 (nn + 1) c9) (nn + 1) (stZ T6) ∧ BLZ A2 w9) := ⟨by rw [← HTN.out, List.length_append, HK.out.1]; rfl, by rw [← HTN.out, show stZ (T5 ++ [X]) = stZ T5 ++ [.string ⟨X.toArray⟩] by simp [stZ]]; exact o9, bel_grZ (HK.out.2.2.trans (belAZ (Below.refl _ _) _)) g9 (fun k e => (oF.lt k e).1)⟩
                    clear o9 g9 oF hbs
                    go_meet
                    exact ⟨p9, nn + 1, c9, rfl, by omega, HX⟩
                case rest =>
                  clear HK cl hnn
                  clear WW pp nn cc
                  obtain ⟨pp, nn, cc, rfl, hnn, HK⟩ := hcut
                  rename World => WW
                  have cl := HCL.out WW HK.out.2.2
                  have H0 : Hid (∃ TT, T6 ++ (li.take 0).map (fun l => [32, 32] ++ l) = TT ∧ TT.length = nn ∧ WW.ownsRow A2.heap.size 9 1 (.slice pp nn cc) nn (stZ TT) ∧ BLZ A2 WW) := ⟨T6, by simp, HK.out.1, HK.out.2.1, HK.out.2.2⟩
                  have hn3 : n3 ≤ 1000000000 := HV.out.2.2.2.2.2.2
                  clear HK
                  go_wp2_with fail
                  clear cl
                  go_loopw [5, 6] (fun v5 v6 wr => ∃ (i n : Nat) (p : Option Addr) (c : Nat), v6 = .int .i64 (i : Int) ∧ v5 = .slice p n c ∧ i ≤ n3 ∧ n ≤ 6 + i ∧ Hid (∃ TT, T6 ++ (li.take i).map (fun l => [32, 32] ++ l) = TT ∧ TT.length = n ∧ wr.ownsRow A2.heap.size 9 1 (.slice p n c) n (stZ TT) ∧ BLZ A2 wr)) (fun _ v6 _ => n3 - (intOf v6).toNat)
                  case atStart => exact ⟨0, nn, pp, cc, rfl, rfl, Nat.zero_le _, by omega, H0⟩
                  case round =>
                    clear H0 hnn
                    clear WW pp nn cc
                    obtain ⟨i, nn, pp, cc, rfl, rfl, hi, hnn, HR⟩ := hrel
                    obtain ⟨TT, hTT, hk⟩ := HR.out
                    rename World => WW
                    have HK : Hid (TT.length = nn ∧ WW.ownsRow A2.heap.size 9 1 (.slice pp nn cc) nn (stZ TT) ∧ BLZ A2 WW) := hk
                    have cl := HCL.out WW HK.out.2.2
                    have HTT : Hid (T6 ++ (li.take i).map (fun l => [32, 32] ++ l) = TT) := hTT
                    clear HR hk hTT
                    by_cases hlt : i < n3
                    · have i0 : (0 : Int) ≤ (i : Int) := by omega
                      have i1 : (i : Int) < (n3 : Int) := by omega
                      obtain ⟨x, hx⟩ : ∃ x, li[i]? = some x := ⟨_, List.getElem?_eq_getElem (by rw [HV.out.2.2.2.1]; exact hlt)⟩
                      obtain ⟨g, o0, rfl, hc⟩ := (HV.out.1 WW (BBL.out WW HK.out.2.2)).2.2 WW (Below.refl _ _) i x hx
                      obtain ⟨X, hX⟩ : ∃ X, [32, 32] ++ x = X := ⟨_, rfl⟩
                      have e1 : (⟨#[32, 32]⟩ : ByteArray) ++ ⟨x.toArray⟩ = ⟨X.toArray⟩ := by rw [← hX]; exact baA' [32, 32] x
                      have m1 : ¬ 9223372036854775807 < 2 + x.length := by have := HLN.out.2.2.2.2.2; have := x_pN hx; omega
                      obtain ⟨TN, hTN⟩ : ∃ TN, TT ++ [X] = TN := ⟨_, rfl⟩
                      have HTN : Hid (TT ++ [X] = TN) := hTN
                      have HTS : Hid (T6 ++ (li.take (i + 1)).map (fun l => [32, 32] ++ l) = TN) := by
                        unfold Hid
                        rw [← hTN, ← HTT.out, List.take_add_one, hx, Option.toList_some, List.map_append, ← List.append_assoc, ← hX]
                        rfl
                      clear hx hX hTN HTT
                      have oF : (WW.alloc (.cells #[.string ⟨X.toArray⟩] 9 (0, 0))).ownsRow A2.heap.size 9 1 (.slice pp nn cc) nn (stZ TT) := own_belZ HK.out.2.1 (belAZ (Below.refl _ _) _)
                      have hbs : A2.heap.size ≤ (WW.alloc (.cells #[.string ⟨X.toArray⟩] 9 (0, 0))).heap.size := (HK.out.2.2.trans (belAZ (Below.refl _ _) _)).size
                      go_wp2_with (at_builtin; refine wpList_append_own _ rfl _ _ 28 rfl A2.heap.size 9 iS _ 1 16 Tryd.underlying28 hiS hzS0 hzS1 hzS2 rfl (by decide) _ _ _ rfl oF ⟨_, 0, none⟩ 1 1 [.string ⟨X.toArray⟩] rfl rfl (World.news_of_block (cs := #[.string ⟨X.toArray⟩]) (t := 9) (fr := (0, 0)) (alloc_getZ _ _)) (by simp [Value.oneCell']) (by unfold maxLen; omega) (by omega) hbs ?_; intro v9 w9 o9 g9 _)
                      obtain ⟨p9, c9, rfl⟩ := shapeZ o9
                      have HX : Hid (TN.length = (nn + 1) ∧ w9.ownsRow A2.heap.size 9 1 (.slice p9 (nn + 1) c9) (nn + 1) (stZ TN) ∧ BLZ A2 w9) := ⟨by rw [← HTN.out, List.length_append, HK.out.1]; rfl, by rw [← HTN.out, show stZ (TT ++ [X]) = stZ TT ++ [.string ⟨X.toArray⟩] by simp [stZ]]; exact o9, bel_grZ (HK.out.2.2.trans (belAZ (Below.refl _ _) _)) g9 (fun k e => (oF.lt k e).1)⟩
                      clear o9 g9 oF hbs
                      have HY : Hid (∃ TT, T6 ++ (li.take (i + 1)).map (fun l => [32, 32] ++ l) = TT ∧ TT.length = nn + 1 ∧ w9.ownsRow A2.heap.size 9 1 (.slice p9 (nn + 1) c9) (nn + 1) (stZ TT) ∧ BLZ A2 w9) := ⟨TN, HTS.out, HX.out⟩
                      clear HX cl hc HK HTN HTS
                      go_roundw
                      case rel => exact ⟨i + 1, nn + 1, p9, c9, by go_num, rfl, by omega, by omega, HY⟩
                      case measure => simp [intOf]; omega
                    · have i1 : ¬ (i : Int) < (n3 : Int) := by omega
                      have HT7 : Hid (T6 ++ li.map (fun l => [32, 32] ++ l) = TT) := by
                        have := HTT.out
                        rw [List.take_of_length_le (by rw [HV.out.2.2.2.1]; omega)] at this
                        exact this
                      cases mo
                      · have HE : Hid (∃ v, Ending.returned (.slice pp nn cc) = .returned v ∧ OWZ 9 WW w.heap.size v (stZ (tdL ⟨k, fd, sp, wi, po, en, fi, li, false⟩)) ∧ Below w.heap.size w WW) := by
                          refine ⟨_, rfl, ?_, BBL.out WW HK.out.2.2⟩
                          have e : tdL ⟨k, fd, sp, wi, po, en, fi, li, false⟩ = TT := by rw [HALL.out, HT7.out]; simp
                          unfold OWZ
                          rw [stZ_len, e, HK.out.1]
                          exact own_baseZ HK.out.2.1 HSZ.out
                        clear HK HT7 HTT
                        go_wp2_with fail
                        go_ret
                        have HE' := HE.out
                        rw [hbb] at HE'
                        exact HE'
                      · obtain ⟨X, hX⟩ : ∃ X : List UInt8, [32, 32, 109, 111, 114, 101] = X := ⟨_, rfl⟩
                        obtain ⟨TN, hTN⟩ : ∃ TN, TT ++ [X] = TN := ⟨_, rfl⟩
                        have HTN : Hid (TT ++ [X] = TN) := hTN
                        have e1 : (⟨#[32, 32, 109, 111, 114, 101]⟩ : ByteArray) = ⟨X.toArray⟩ := by rw [← hX]
                        have HXX : Hid ([32, 32, 109, 111, 114, 101] = X) := hX
                        clear hX hTN
                        have oF : (WW.alloc (.cells #[.string ⟨X.toArray⟩] 9 (0, 0))).ownsRow A2.heap.size 9 1 (.slice pp nn cc) nn (stZ TT) := own_belZ HK.out.2.1 (belAZ (Below.refl _ _) _)
                        have hbs : A2.heap.size ≤ (WW.alloc (.cells #[.string ⟨X.toArray⟩] 9 (0, 0))).heap.size := (HK.out.2.2.trans (belAZ (Below.refl _ _) _)).size
                        go_wp2_with (at_builtin; refine wpList_append_own _ rfl _ _ 28 rfl A2.heap.size 9 iS _ 1 16 Tryd.underlying28 hiS hzS0 hzS1 hzS2 rfl (by decide) _ _ _ rfl oF ⟨_, 0, none⟩ 1 1 [.string ⟨X.toArray⟩] rfl rfl (World.news_of_block (cs := #[.string ⟨X.toArray⟩]) (t := 9) (fr := (0, 0)) (alloc_getZ _ _)) (by simp [Value.oneCell']) (by unfold maxLen; omega) (by omega) hbs ?_; intro v9 w9 o9 g9 _)
                        obtain ⟨p9, c9, rfl⟩ := shapeZ o9
                        have HX : Hid (TN.length = (nn + 1) ∧ w9.ownsRow A2.heap.size 9 1 (.slice p9 (nn + 1) c9) (nn + 1) (stZ TN) ∧ BLZ A2 w9) := ⟨by rw [← HTN.out, List.length_append, HK.out.1]; rfl, by rw [← HTN.out, show stZ (TT ++ [X]) = stZ TT ++ [.string ⟨X.toArray⟩] by simp [stZ]]; exact o9, bel_grZ (HK.out.2.2.trans (belAZ (Below.refl _ _) _)) g9 (fun k e => (oF.lt k e).1)⟩
                        clear o9 g9 oF hbs
                        have HE : Hid (∃ v, Ending.returned (.slice p9 (nn + 1) c9) = .returned v ∧ OWZ 9 w9 w.heap.size v (stZ (tdL ⟨k, fd, sp, wi, po, en, fi, li, true⟩)) ∧ Below w.heap.size w w9) := by
                          refine ⟨_, rfl, ?_, BBL.out w9 HX.out.2.2⟩
                          have e : tdL ⟨k, fd, sp, wi, po, en, fi, li, true⟩ = TN := by rw [HALL.out, HT7.out, ← HTN.out, ← HXX.out]; simp
                          unfold OWZ
                          rw [stZ_len, e, HX.out.1]
                          exact own_baseZ HX.out.2.1 HSZ.out
                        clear HK HT7 HTT HX
                        go_wp2_with fail
                        go_ret
                        have HE' := HE.out
                        rw [hbb] at HE'
                        exact HE'
end Go.Proofs.YtfhlgncpleleaaaDoor

import Derived.Test.YtmdnapognaddbaaGreatDoorXBH
import Derived.Test.YtmdnapognaddbaaGreatDoorXBC
import Derived.Test.YtmdnapognaddbaaGreatDoorXAU
import Derived.Test.YtmdnapognaddbaaGreatDoorXAE
import Derived.Deep.AppendLies
import Derived.Laws.OwnMore
namespace Go.Proofs.YtmdnapognaddbaaGreatDoor
open Go.RowKit
theorem info_strE : (Tryz.prog.info? 9).map (fun i => (i.zero, i.size, i.bytes)) = some (some (.string ⟨#[]⟩), 1, 16) := by kernel_rfl
theorem rs_bxk (a b : List UInt8) (k : Nat) : rsT a b k = bxk (meetT a b) a k := by
  unfold rsT bxk meetT
  rw [List.take_zipWith]
theorem notU {W : World} {B g n : Nat} {e e2 : TypeId} {sz : Nat} {v : Value} {xs : List Value} {cs : Array Value} {m : Nat × Nat} (h : W.ownsRow B e sz v n xs) (hk : W.heap[g]? = some (.cells cs e2 m)) (hne : e ≠ e2) : v.ownBlock ≠ some g := by
  intro hb
  rcases h.2 with ⟨rfl, _⟩ | ⟨g2, c2, cur2, rfl, _, hg2, _⟩
  · cases hb
  · have : g2 = g := by injection hb
    subst this
    rw [hk] at hg2
    injection hg2 with h
    injection h with _ h _
    exact hne h.symm
theorem hdr_grown {W W2 : World} {gh : Nat} {z : List Value} {h : List UInt8} {row : Option Nat} (hh : hdr W gh z h) (hg : W.grownBy W2 row) (hne : row ≠ some gh) : hdr W2 gh z h := by
  unfold hdr at hh ⊢
  exact (hg.block gh (lt_of_get3 hh) (fun e => hne e.symm)).trans hh
theorem pcs_skipE (a b : List UInt8) (k : Nat) (h : qual a b k = false) : pcs a b (k + 1) = pcs a b k := by
  refine pcs_skip a b k (k + 1) (by omega) ?_
  intro j h1 h2
  obtain rfl : j = k := by omega
  exact h
theorem stx_snocE (l : List (List UInt8)) (t : List UInt8) : stx (l ++ [t]) = stx l ++ [.string ⟨t.toArray⟩] := by simp [stx]
theorem hdr_bel {W W2 : World} {gh : Nat} {z : List Value} {h : List UInt8} (hh : hdr W gh z h) (hb : Below W.heap.size W W2) : hdr W2 gh z h := keepblk3 hb hh
theorem dsplit_no (a b : ByteArray) (w : World) (ga : good a.data.toList = true) (gb : good b.data.toList = true) (hq0 : agB a.data.toList b.data.toList = false) :
    Calls Tryz.prog 24 #[.string a, .string b] w fun e w' => ∃ v, e = .returned v ∧ w'.ownsRow w.heap.size 9 1 v 1 (stx [a.data.toList]) ∧ Below w.heap.size w w' := by
  have HM := dmeet_any a.data.toList b.data.toList w ga gb
  rw [hq0] at HM
  have ea : (⟨a.data.toList.toArray⟩ : ByteArray) = a := by cases a; rfl
  have eb : (⟨b.data.toList.toArray⟩ : ByteArray) = b := by cases b; rfl
  rw [ea, eb] at HM
  have es : stx [a.data.toList] = [.string a] := by simp [stx, ea]
  rw [es]
  clear hq0 ea eb es
  obtain ⟨i0, hi, hz0, hz1, hz2⟩ := info_parts info_strE
  go_enter Tryz.func24, Tryz.ntmps24
  go_wp2_with fail
  refine HM.mono ?_
  rintro e w1 ⟨rfl, hb1⟩
  clear HM
  go_wp2_with (at_builtin; refine wpList_append_own _ rfl _ _ 33 rfl w.heap.size 9 i0 (.string ⟨#[]⟩) 1 16 Tryz.underlying33 hi hz0 hz1 hz2 rfl (by decide) _ _ _ rfl ((World.ownsRow_nil _ _ _ _).alloc _) ⟨w1.heap.size, 0, none⟩ 1 1 [.string a] rfl rfl (cell_one_new _ _ _) (by simp [Value.oneCell']) (by unfold maxLen; omega) (by omega) (by have := hb1.size; simp; omega) ?_; intro v' w3 hown' hgrow _)
  go_ret
  exact ⟨_, rfl, hown', (belA hb1 _).grown hgrow (belA hb1 _).size (fun k h => by cases h)⟩
set_option maxRecDepth 100000 in
set_option maxHeartbeats 4000000 in
theorem dsplit_yes (a b : ByteArray) (w : World) (ga : good a.data.toList = true) (gb : good b.data.toList = true) (hq0 : agB a.data.toList b.data.toList = true) :
    Calls Tryz.prog 24 #[.string a, .string b] w fun e w' => ∃ v, e = .returned v ∧ w'.ownsRow w.heap.size 9 1 v (pcs a.data.toList b.data.toList a.size).length (stx (pcs a.data.toList b.data.toList a.size)) ∧ Below w.heap.size w w' := by
  have HM := dmeet_any a.data.toList b.data.toList w ga gb
  rw [hq0] at HM
  have ea : (⟨a.data.toList.toArray⟩ : ByteArray) = a := by cases a; rfl
  have eb : (⟨b.data.toList.toArray⟩ : ByteArray) = b := by cases b; rfl
  rw [ea, eb] at HM
  have hll : Hid (a.data.toList.length = b.data.toList.length) := fitB_len (agB_fit hq0)
  have hz : Hid (a.size = b.size) := by unfold Hid; simpa using hll.out
  have hl : a.size ≤ 256 := by simpa using good_len ga
  have LA : Hid (a.data.toList.length = a.size) := by simp [Hid]
  obtain ⟨T, hT0⟩ : ∃ T, meetT a.data.toList b.data.toList = T := ⟨_, rfl⟩
  have hTl0 : T.length = a.data.toList.length := by rw [← hT0]; exact meetT_len _ _ hll.out
  have HTL : Hid (T.length = a.data.toList.length) := hTl0
  have HG : Hid (∀ (k : Nat) (ha : k < a.size) (hb : k < b.size) (ht : k < T.length), T[k] = if a[k] == 120 then b[k] else a[k]) := fun k ha hb ht => by
    have h1 := meetT_get _ _ hll.out k (by simpa using ha)
    rw [hT0, List.getElem?_eq_getElem ht] at h1
    exact Option.some.inj h1
  have HPC : Hid (∀ k, pcT a.data.toList b.data.toList k = (bxk T a.data.toList k).set k (oth (b.data.toList.getD k 0))) := fun k => by
    unfold pcT
    rw [rs_bxk, hT0]
  have GB : Hid (good b.data.toList = true) := gb
  have hcv : ∀ W, _ := fun W => Lib.run_convert_string_bytes (P := Tryz.prog) W 9 66 5 a Tryz.underlying9 Tryz.underlying66 Tryz.underlying5
  clear hq0 hT0 hTl0 ea eb ga gb
  obtain ⟨i0, hi, hz0, hz1, hz2⟩ := info_parts info_strE
  go_enter Tryz.func24, Tryz.ntmps24
  go_wp2_with fail
  refine HM.mono ?_
  rintro e w1 ⟨rfl, hb1⟩
  clear HM
  have hcv1 := hcv w1
  have hN := hdr_new w1 a.data.toList
  have B2 := bel0 hb1 (bel_bytes w1 a)
  have ea : (⟨a.data.toList.toArray⟩ : ByteArray) = a := by cases a; rfl
  rw [ea] at hN
  clear ea
  obtain ⟨cp, hcp⟩ : ∃ c, grownCap w1 a.size 0 5 = c := ⟨_, rfl⟩
  obtain ⟨z, hz'⟩ : ∃ z, List.replicate (grownCap w1 a.data.toList.length 0 5 - a.data.toList.length) (Value.int .u8 0) = z := ⟨_, rfl⟩
  rw [hcp] at hcv1
  rw [hz'] at hN
  obtain ⟨w2, hw2⟩ : ∃ w2, Lib.bytesWorld w1 5 a = w2 := ⟨_, rfl⟩
  rw [hw2] at hcv1 hN B2
  have hgh : w.heap.size ≤ w1.heap.size := hb1.size
  obtain ⟨gh, hgh'⟩ : ∃ g, w1.heap.size = g := ⟨_, rfl⟩
  rw [hgh'] at hN hgh hcv1
  clear hw2 hz' hcp hcv hb1
  go_wp2_with fail
  clear hcv1 hgh'
  go_loopw [5, 9] (fun v j wr => ∃ k : Nat, k ≤ a.size ∧ j = .int .i64 k ∧ hdr wr gh z (bxk T a.data.toList k) ∧ wr.ownsRow w.heap.size 9 1 v (pcs a.data.toList b.data.toList k).length (stx (pcs a.data.toList b.data.toList k)) ∧ Below w.heap.size w wr) (fun _ j _ => a.size - (intOf j).toNat)
  case atStart => exact ⟨0, Nat.zero_le _, rfl, by rw [bxk_zero]; exact hN, World.ownsRow_nil _ _ _ _, B2⟩
  case round =>
    clear hN B2
    obtain ⟨k, hk, rfl, hrow, hown, hB⟩ := hrel
    by_cases hlt : k < a.size
    · have hkb : k < b.size := by rw [← hz.out]; exact hlt
      have hkl : k < a.data.toList.length := by rw [LA.out]; exact hlt
      have hkT : k < T.length := by rw [HTL.out]; exact hkl
      have i0' : (0 : Int) ≤ (k : Int) := by omega
      have i1 : (k : Int) < (a.size : Int) := by omega
      have i2 : (k : Int) < (b.size : Int) := by omega
      have hqb := qual_bytes _ _ hll.out k (by rw [LA.out]; exact hlt)
      have hqb : qual a.data.toList b.data.toList k = (!(b[k] == 120) && (a[k] == 120)) := hqb
      obtain ⟨p1, n1⟩ : ∃ p, ((a[k].toNat : Int) == 120) = p := ⟨_, rfl⟩
      obtain ⟨p2, n2⟩ : ∃ p, ((b[k].toNat : Int) != 120) = p := ⟨_, rfl⟩
      have M1 : (a[k] == 120) = p1 := by
        have := byte_bne a[k] 120 (by decide)
        unfold bne at this
        rw [← n1]
        exact (Bool.not_inj this).symm
      have M2 : (!(b[k] == 120)) = p2 := by rw [← n2]; exact (byte_bne b[k] 120 (by decide)).symm
      rw [M1, M2] at hqb
      have hQ : Hid (qual a.data.toList b.data.toList k = (p2 && p1)) := hqb
      have GT : Hid (T[k] = if p1 = true then b[k] else a[k]) := by
        have h := HG.out k hlt hkb hkT
        rw [M1] at h
        exact h
      have hjk : k < (bxk T a.data.toList k).length := by rw [bxk_len _ _ HTL.out k (by omega)]; exact hkl
      have HPl := pcs_len a.data.toList b.data.toList k
      have HKP : Hid ((p2 && p1) = false → bxk T a.data.toList (k + 1) = bxk T a.data.toList k) := fun hp => by
        refine bxk_keep _ _ HTL.out k hkl ?_
        rw [GT.out]
        have ea : a.data.toList[k] = a[k] := rfl
        rw [ea]
        cases p1 with
        | false => rfl
        | true =>
          have h2 : p2 = false := by simpa using hp
          rw [h2] at M2
          have e1 : a[k] = 120 := by simpa using M1
          have e2 : b[k] = 120 := by simpa using M2
          rw [if_pos rfl, e1, e2]
      have HM2 : Hid (p2 = true → b[k] = 48 ∨ b[k] = 49) := fun hp => by
        have t := good_tri GB.out k (by simpa using hkb)
        have eb : b.data.toList[k]'(by simpa using hkb) = b[k] := rfl
        rw [eb] at t
        rw [hp] at M2
        simp [tri] at t
        rcases t with (h | h) | h
        · exact .inl h
        · exact .inr h
        · rw [h] at M2; cases M2
      clear hqb M1 M2
      have HW : Hid (hdr wr gh z (bxk T a.data.toList k)) := hrow
      cases p2
      · have HS : Hid (pcs a.data.toList b.data.toList (k + 1) = pcs a.data.toList b.data.toList k) := pcs_skipE _ _ k hQ.out
        clear hrow
        cases p1
        all_goals
          go_wp2
          go_roundw
          case rel => exact ⟨k + 1, by omega, by go_num, by rw [HKP.out rfl]; exact HW.out, by rw [HS.out]; exact hown, hB⟩
          case measure => simp [intOf]; omega
      · cases p1
        · have HS : Hid (pcs a.data.toList b.data.toList (k + 1) = pcs a.data.toList b.data.toList k) := pcs_skipE _ _ k hQ.out
          clear hrow
          go_wp2
          go_roundw
          case rel => exact ⟨k + 1, by omega, by go_num, by rw [HKP.out rfl]; exact HW.out, by rw [HS.out]; exact hown, hB⟩
          case measure => simp [intOf]; omega
        · have HS0 : pcs a.data.toList b.data.toList (k + 1) = pcs a.data.toList b.data.toList k ++ [pcT a.data.toList b.data.toList k] := pcs_succ _ _ k hQ.out
          have eb : b.data.toList.getD k 0 = b[k] := by
            rw [List.getD_eq_getElem?_getD, List.getElem?_eq_getElem (by simpa using hkb)]
            rfl
          obtain ⟨P, hP⟩ : ∃ P, pcT a.data.toList b.data.toList k = P := ⟨_, rfl⟩
          have hPe : P = (bxk T a.data.toList k).set k (oth b[k]) := by rw [← hP, HPC.out k, eb]
          rw [hP] at HS0
          obtain ⟨L, hL⟩ : ∃ L, pcs a.data.toList b.data.toList k = L := ⟨_, rfl⟩
          rw [hL] at hown HS0 HPl
          have HS : Hid (pcs a.data.toList b.data.toList (k + 1) = L ++ [P]) := HS0
          have hPlen : P.length = a.size := by rw [hPe, List.length_set, bxk_len _ _ HTL.out k (by omega)]; exact LA.out
          have hnu : Hid (u5.ownBlock ≠ some gh) := notU hown HW.out (by decide)
          have key : ∀ x : UInt8, oth b[k] = x → (hdr (wr.setCell ⟨gh, k, none⟩ (.int .u8 (x.toNat : Int))) gh z P) := fun x hx => by
            have h1 := hdr_set (x := x) hrow hjk
            rw [hPe, hx]
            exact h1
          have hB1 : ∀ x : UInt8, Below w.heap.size w (wr.setCell ⟨gh, k, none⟩ (.int .u8 (x.toNat : Int))) := fun x => hB.setCell hgh _
          have hO1 : ∀ x : UInt8, (wr.setCell ⟨gh, k, none⟩ (.int .u8 (x.toNat : Int))).ownsRow w.heap.size 9 1 u5 L.length (stx L) := fun x => ownsRow_setCell_other hown (a := ⟨gh, k, none⟩) hnu.out _
          obtain ⟨cv0, hc2⟩ : ∃ v, wr.cell? ⟨gh, k, none⟩ = some v := ⟨_, hdr_cell hrow hjk⟩
          have hf2 := hdr_frozen hrow hjk
          have HKEY : Hid (∀ x : UInt8, oth b[k] = x → hdr (wr.setCell ⟨gh, k, none⟩ (.int .u8 (x.toNat : Int))) gh z P ∧ Below w.heap.size w (wr.setCell ⟨gh, k, none⟩ (.int .u8 (x.toNat : Int))) ∧ (wr.setCell ⟨gh, k, none⟩ (.int .u8 (x.toNat : Int))).ownsRow w.heap.size 9 1 u5 L.length (stx L)) := fun x hx => ⟨key x hx, hB1 x, hO1 x⟩
          have HNX : Hid (P.set k b[k] = bxk T a.data.toList (k + 1)) := by
            unfold Hid
            rw [hPe, List.set_set, bxk_succ _ _ HTL.out k hkl, GT.out, if_pos rfl]
          have hkP : k < P.length := by omega
          have HPLN : Hid (P.length = a.size) := hPlen
          clear key hB1 hO1 hrow hown hB HS0 hPe eb hP hL
          rcases HM2.out rfl with hd | hd
          · have hb48 : (b[k].toNat : Int) = 48 := by rw [hd]; rfl
            have ho : oth b[k] = 49 := by rw [hd]; decide
            have h1 : hdr (wr.setCell ⟨gh, k, none⟩ (.int .u8 49)) gh z P := (HKEY.out 49 ho).1
            have h2 : Below w.heap.size w (wr.setCell ⟨gh, k, none⟩ (.int .u8 49)) := (HKEY.out 49 ho).2.1
            have h3 : (wr.setCell ⟨gh, k, none⟩ (.int .u8 49)).ownsRow w.heap.size 9 1 u5 L.length (stx L) := (HKEY.out 49 ho).2.2
            have hcvb := run_convert_bytes_back (P := Tryz.prog) (wr.setCell ⟨gh, k, none⟩ (.int .u8 49)) 66 9 5 ⟨gh, 0, none⟩ cp P Tryz.underlying66 Tryz.underlying5 Tryz.underlying9 (fun j hj => by rw [add_plain]; simpa using hdr_cell h1 hj)
            rw [HPLN.out] at hcvb
            have H1 : Hid (hdr (wr.setCell ⟨gh, k, none⟩ (.int .u8 49)) gh z P) := h1
            have HD : Hid ((b[k].toNat : Int) = 48) := hb48
            clear hd ho h1
            go_wp2_with (at_builtin; refine wpList_append_own _ rfl _ _ 33 rfl w.heap.size 9 i0 (.string ⟨#[]⟩) 1 16 Tryz.underlying33 hi hz0 hz1 hz2 rfl (by decide) _ _ _ rfl (h3.alloc _) _ 1 1 [.string ⟨P.toArray⟩] rfl rfl (by first | exact cell_one_new _ _ _ | (intro j u hj; have h := cell_one_new (wr.setCell ⟨gh, k, none⟩ (.int .u8 49)) (.string ⟨P.toArray⟩) 9 j u hj; simpa using h)) (by simp [Value.oneCell']) (by unfold maxLen; omega) (by omega) (by have := h2.size; simp at this; simp; omega) ?_; intro v' w5 hown' hgrow _; have hr5 := hdr_grown (hdr_alloc H1.out _) hgrow hnu.out; have hc5 := hdr_cell hr5 hkP; have hf5 := hdr_frozen hr5 hkP; obtain ⟨cv5, hc5'⟩ : ∃ v, w5.cell? ⟨gh, k, none⟩ = some v := ⟨_, hc5⟩; clear hc5)
            go_roundw
            case rel =>
              have h6 := hdr_set (x := b[k]) hr5 hkP
              rw [HNX.out, HD.out] at h6
              have h7 := ownsRow_setCell_other hown' (a := ⟨gh, k, none⟩) (notU hown' hr5 (by decide)) (.int .u8 48)
              refine ⟨k + 1, by omega, by go_num, h6, ?_, (bel_app h2 h3 hgrow).setCell hgh _⟩
              rw [HS.out, stx_snocE]
              simpa using h7
            case measure => simp [intOf]; omega
          · have hb48 : (b[k].toNat : Int) = 49 := by rw [hd]; rfl
            have ho : oth b[k] = 48 := by rw [hd]; decide
            have h1 : hdr (wr.setCell ⟨gh, k, none⟩ (.int .u8 48)) gh z P := (HKEY.out 48 ho).1
            have h2 : Below w.heap.size w (wr.setCell ⟨gh, k, none⟩ (.int .u8 48)) := (HKEY.out 48 ho).2.1
            have h3 : (wr.setCell ⟨gh, k, none⟩ (.int .u8 48)).ownsRow w.heap.size 9 1 u5 L.length (stx L) := (HKEY.out 48 ho).2.2
            have hcvb := run_convert_bytes_back (P := Tryz.prog) (wr.setCell ⟨gh, k, none⟩ (.int .u8 48)) 66 9 5 ⟨gh, 0, none⟩ cp P Tryz.underlying66 Tryz.underlying5 Tryz.underlying9 (fun j hj => by rw [add_plain]; simpa using hdr_cell h1 hj)
            rw [HPLN.out] at hcvb
            have H1 : Hid (hdr (wr.setCell ⟨gh, k, none⟩ (.int .u8 48)) gh z P) := h1
            have HD : Hid ((b[k].toNat : Int) = 49) := hb48
            clear hd ho h1
            go_wp2_with (at_builtin; refine wpList_append_own _ rfl _ _ 33 rfl w.heap.size 9 i0 (.string ⟨#[]⟩) 1 16 Tryz.underlying33 hi hz0 hz1 hz2 rfl (by decide) _ _ _ rfl (h3.alloc _) _ 1 1 [.string ⟨P.toArray⟩] rfl rfl (by first | exact cell_one_new _ _ _ | (intro j u hj; have h := cell_one_new (wr.setCell ⟨gh, k, none⟩ (.int .u8 48)) (.string ⟨P.toArray⟩) 9 j u hj; simpa using h)) (by simp [Value.oneCell']) (by unfold maxLen; omega) (by omega) (by have := h2.size; simp at this; simp; omega) ?_; intro v' w5 hown' hgrow _; have hr5 := hdr_grown (hdr_alloc H1.out _) hgrow hnu.out; have hc5 := hdr_cell hr5 hkP; have hf5 := hdr_frozen hr5 hkP; obtain ⟨cv5, hc5'⟩ : ∃ v, w5.cell? ⟨gh, k, none⟩ = some v := ⟨_, hc5⟩; clear hc5)
            go_roundw
            case rel =>
              have h6 := hdr_set (x := b[k]) hr5 hkP
              rw [HNX.out, HD.out] at h6
              have h7 := ownsRow_setCell_other hown' (a := ⟨gh, k, none⟩) (notU hown' hr5 (by decide)) (.int .u8 49)
              refine ⟨k + 1, by omega, by go_num, h6, ?_, (bel_app h2 h3 hgrow).setCell hgh _⟩
              rw [HS.out, stx_snocE]
              simpa using h7
            case measure => simp [intOf]; omega
    · have hkn : k = a.size := by omega
      subst hkn
      go_wp2
      go_ret
      exact ⟨_, rfl, hown, hB⟩
theorem dsplit_any (A B : List UInt8) (w : World) (ga : good A = true) (gb : good B = true) :
    Calls Tryz.prog 24 #[.string ⟨A.toArray⟩, .string ⟨B.toArray⟩] w fun e w' => ∃ v, e = .returned v ∧ w'.ownsRow w.heap.size 9 1 v (splT A B).length (stx (splT A B)) ∧ Below w.heap.size w w' := by
  unfold splT
  cases h : agB A B
  · exact dsplit_no ⟨A.toArray⟩ ⟨B.toArray⟩ w ga gb h
  · have e := dsplit_yes ⟨A.toArray⟩ ⟨B.toArray⟩ w ga gb h
    have es : (⟨A.toArray⟩ : ByteArray).size = A.length := by simp [ByteArray.size]
    rw [es] at e
    exact e
end Go.Proofs.YtmdnapognaddbaaGreatDoor
namespace Go.Proofs.YtmdnapognaddbaaGreatDoor
open Go.RowKit Go.Shelf
theorem app_none0 {P : Program} {w : World} {ops : Array Oper} {rest : List Oper} {o : Oper} {a : Act} {Q : Exit → Act → World → Prop} (hgd : o.guard = none) (s x : Operand) (t : TypeId)
    (ho : o.op = .call { callee := .builtin .append, args := #[s, x], argTypes := #[t, t] })
    (base : Nat) (e : TypeId) (i : TypeInfo) (size : Nat) (ht : P.underlying t = some (.slice e)) (hi : P.info? e = some i)
    (v : Value) (n c : Nat) (xs : List Value) (hs : a.eval s = v) (hown : w.ownsRow base e size v n xs) (hx : a.eval x = .slice none 0 c)
    (h : wpList P ops Q rest (a.put o.dst v) w) : wpList P ops Q (o :: rest) a w := by
  refine wpList_plain hgd fun K hK => ?_
  have hrun : (Builtin.append_ #[t, t] o.type #[v, .slice none 0 c]).run P w = .ok v w := by
    rcases hown.2 with ⟨rfl, rfl⟩ | ⟨g, cap, cur, rfl, _, _, hnc, _⟩
    · simp [Builtin.append_, run_underlying ht, sizeOf, typeInfo, hi, Builtin.lenOf, Builtin.firstCells]
    · simp [Builtin.append_, run_underlying ht, sizeOf, typeInfo, hi, Builtin.lenOf, Builtin.firstCells, hnc, storeCells]
  unfold Oper.wp
  simp [execOp, ho, resolve, invoke, builtin, hs, hx, hrun, Result.andThen]
  exact hK _ _ h
theorem app_belC {w W X : World} {n : Nat} {e : TypeId} {sz : Nat} {v : Value} {xs : List Value} (hB : Below w.heap.size w W) (h : W.ownsRow w.heap.size e sz v n xs) (hg : W.grownBy X v.ownBlock) : Below w.heap.size w X :=
  hB.grown hg hB.size (fun k hk => (h.lt k hk).1)
theorem info_strY : (Tryz.prog.info? 9).map (fun i => (i.zero, i.size, i.bytes)) = some (some (.string ⟨#[]⟩), 1, 16) := by kernel_rfl
theorem stx_one (L : List (List UInt8)) : ∀ v ∈ stx L, v.oneCell' = true := fun v hv => by
  obtain ⟨z, _, rfl⟩ := List.mem_map.1 hv
  rfl
theorem stx_news {W : World} {ad : Addr} {L : List (List UInt8)} (h : IRSt W (some ad) L) : ∀ j u, (stx L)[j]? = some u → W.cell? (ad.add j) = some u := fun j u hu => by
  unfold stx at hu
  rw [List.getElem?_map] at hu
  cases hz : L[j]? with
  | none => rw [hz] at hu; cases hu
  | some t =>
    rw [hz] at hu
    obtain ⟨g, o0, e1, c0⟩ := h W (Below.refl _ _) j t hz
    injection e1 with e1
    subst e1
    have ea : (⟨g, o0, none⟩ : Addr).add j = ⟨g, o0 + j, none⟩ := by simp [Addr.add]
    rw [ea, c0]
    exact hu
theorem app_st {ops : Array Oper} {rest : List Oper} {o : Oper} {a : Act} {Q : Exit → Act → World → Prop} {w : World} (hgd : o.guard = none) (s x : Operand)
    (ho : o.op = .call { callee := .builtin .append, args := #[s, x], argTypes := #[33, 33] }) (base : Nat) (v : Value) (m : Nat) (xs : List Value) (hs : a.eval s = v) (hown : w.ownsRow base 9 1 v m xs)
    (p : Option Addr) (n k : Nat) (L : List (List UInt8)) (hx : a.eval x = .slice p n k) (hL : L.length = n) (hr : IRSt w p L) (hm : m + n ≤ 10000000) (hbase : base ≤ w.heap.size)
    (h : ∀ v' w', w'.ownsRow base 9 1 v' (m + n) (xs ++ stx L) → w.grownBy w' v.ownBlock → wpList Tryz.prog ops Q rest (a.put o.dst v') w') : wpList Tryz.prog ops Q (o :: rest) a w := by
  obtain ⟨iT, hiT, hzT0, hzT1, hzT2⟩ := info_parts info_strY
  cases p with
  | none =>
    have hz : L = [] := by
      cases hc : L with
      | nil => rfl
      | cons z l =>
        obtain ⟨g, o0, e, -⟩ := hr w (Below.refl _ _) 0 z (by rw [hc]; rfl)
        cases e
    subst hz
    have hn : n = 0 := hL.symm
    subst hn
    refine app_none0 hgd s x 33 ho base 9 iT 1 Tryz.underlying33 hiT v m k xs hs hown hx (h v w ?_ ⟨rfl, rfl, rfl, Nat.le_refl _, fun _ _ _ => rfl⟩)
    have e : xs ++ stx [] = xs := by simp [stx]
    rw [e]
    exact hown
  | some ad =>
    exact wpList_append_own _ hgd s x 33 ho base 9 iT _ 1 16 Tryz.underlying33 hiT hzT0 hzT1 hzT2 rfl (by decide) v m xs hs hown ad n k (stx L) hx (by simp [stx, hL]) (stx_news hr) (stx_one L) (by unfold maxLen; omega) (by omega) hbase (fun v' w' h1 h2 _ => h v' w' h1 h2)
end Go.Proofs.YtmdnapognaddbaaGreatDoor

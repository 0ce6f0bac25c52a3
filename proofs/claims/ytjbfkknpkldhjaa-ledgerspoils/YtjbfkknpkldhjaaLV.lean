import Derived.Test.YtjbfkknpkldhjaaLR
import Derived.Test.YtjbfkknpkldhjaaLT
import Derived.Test.YtjbfkknpkldhjaaLV0
import Derived.Test.YtjbfkknpkldhjaaLK
namespace Go.Proofs.Ytjbfkknpkldhjaa
open Go.RowKit
/-- entries lie there -/
def ER (w : World) (p : Option Addr) (L : List (Int × List UInt8)) : Prop := ∀ (k : Nat) (e : Int × List UInt8), L[k]? = some e → ∃ g o, p = some ⟨g, o, none⟩ ∧ w.cell? ⟨g, o + k * 2, none⟩ = some (.int .i64 e.1) ∧ w.cell? ⟨g, o + k * 2 + 1, none⟩ = some (.string ⟨e.2.toArray⟩)
theorem ER.below {w w' : World} {p : Option Addr} {L : List (Int × List UInt8)} (h : ER w p L) (hb : Below w.heap.size w w') : ER w' p L := fun k x hx => by
  obtain ⟨g, o, rfl, h0, h1⟩ := h k x hx
  exact ⟨g, o, rfl, (hb.cell (World.block_lt_of_cell? w _ h0)).trans h0, (hb.cell (World.block_lt_of_cell? w _ h1)).trans h1⟩
/-- the kind that the law makes of a number -/
def kdN (k : Int) : Nat := 1 + (Int.tmod k 4).natAbs
theorem kdN_ok (k : Int) : 1 ≤ kdN k ∧ kdN k ≤ 4 := by
  unfold kdN
  have := Int.tmod_lt_of_pos k (b := 4) (by decide)
  have h2 := Int.lt_tmod_of_pos k (b := 4) (by decide)
  omega
def enP (e : Int × List UInt8) : Nat × List UInt8 := (kdN e.1, e.2.take 16384)
/-- what is written of entries -/
def enA (L : List (Int × List UInt8)) : List (Nat × List UInt8) := (L.take 40).map enP
theorem enA_ok (L : List (Int × List UInt8)) : okA 1 (enA L) := by
  refine okA_of 1 (Nat.le_refl _) ?_ ?_
  · simp [enA]; omega
  · intro e he
    obtain ⟨x, -, rfl⟩ := List.mem_map.1 he
    have := kdN_ok x.1
    exact ⟨this.1, this.2, by simp [enP]; omega⟩
theorem enA_len (L : List (Int × List UInt8)) : (enA L).length ≤ 40 := by simp [enA]; omega
theorem enA_bytes (L : List (Int × List UInt8)) : (encA 1 (enA L)).length ≤ 656160 := by
  have h := encA_bound (l := enA L) 1 (fun e he => by
    obtain ⟨x, -, rfl⟩ := List.mem_map.1 he
    simp [enP]; omega)
  have := enA_len L
  omega
theorem res_wr (tmps : Array Value) (W : World) (x y z : Value) (h : tmps[2]?.getD undef = x ∧ tmps[3]?.getD undef = y ∧ tmps[4]?.getD undef = z) : (results Try.f17 tmps).run Try.prog W = .ok (.tuple #[x, y, z]) W := by
  simp [results, h.1, h.2.1, h.2.2, go_sem]
/-- what written answers -/
def WRQ (L : List (Int × List UInt8)) (w : World) (e : Ending) (w' : World) : Prop :=
  ∃ v u, e = .returned (.tuple #[v, u, .bool true]) ∧ OR w' w.heap.size v (recA 1 (enA L)) ∧ OB w' w.heap.size u (encA 1 (enA L)) ∧ Below w.heap.size w w'
set_option maxRecDepth 100000 in
set_option maxHeartbeats 8000000 in
theorem written_any (L : List (Int × List UInt8)) (p : Option Addr) (n c : Nat) (w : World) (hn : L.length = n) (hr : ER w p L) :
    Calls Try.prog 17 #[.slice p n c] w (WRQ L w) := by
  obtain ⟨i0, hi, hz0, hz1, hz2⟩ := info_parts info_rec
  have HN : Hid (L.length = n) := hn
  have HR : Hid (ER w p L) := hr
  clear hn hr
  go_enter Try.func17, Try.ntmps17
  go_wp2_with fail
  go_loopw [5, 6, 7] (fun vr vd vi wr => ∃ i : Nat, vi = .int .i64 i ∧ i ≤ n ∧ i ≤ 40 ∧ Hid (OR wr w.heap.size vr (recA 1 ((enA L).take i))) ∧ Hid (OB wr w.heap.size vd (encA 1 ((enA L).take i))) ∧ Hid (Below w.heap.size w wr)) (fun _ _ vi _ => 40 - (intOf vi).toNat)
  case atStart => exact ⟨0, rfl, Nat.zero_le _, Nat.zero_le _, World.ownsRow_nil _ _ _ _, World.ownsRow_nil _ _ _ _, Below.refl _ _⟩
  case round =>
    obtain ⟨i, rfl, hin, hi40, hO, hD, hB⟩ := hrel
    by_cases hlt : i < n
    · have j1 : (i : Int) < (n : Int) := by omega
      have j0 : (0 : Int) ≤ (i : Int) := by omega
      by_cases h40 : i < 40
      · have j2 : (i : Int) < 40 := by omega
        obtain ⟨⟨ek, et⟩, he⟩ : ∃ e, L[i]? = some e := ⟨_, List.getElem?_eq_getElem (by rw [HN.out]; omega)⟩
        obtain ⟨g, o, rfl, c0, c1⟩ := HR.out.below hB.out i (ek, et) he
        simp only at c0 c1
        have hsn : (enA L).take (i + 1) = (enA L).take i ++ [(kdN ek, et.take 16384)] := by
          have h1 : (enA L)[i]? = some (enP (ek, et)) := by
            simp only [enA, List.getElem?_map, List.getElem?_take, if_pos h40, he, Option.map_some]
          rw [List.take_add_one, h1]; rfl
        have htl : ((enA L).take i).length = i := by
          rw [List.length_take]
          have : (enA L).length = min 40 n := by simp [enA, HN.out]
          omega
        obtain ⟨pr, cr, hvr⟩ := hO.out.shape
        obtain ⟨pd, cd, hvd, -⟩ := hD.out.shape
        rw [recA_len, htl] at hvr
        subst hvr hvd
        have HSN : Hid ((enA L).take (i + 1) = (enA L).take i ++ [(kdN ek, et.take 16384)] ∧ ((enA L).take i).length = i) := ⟨hsn, htl⟩
        obtain ⟨q, hq⟩ : ∃ q, (Int.tmod ek 4).natAbs = q := ⟨_, rfl⟩
        have hq4 : q ≤ 3 := by have := kdN_ok ek; unfold kdN at this; omega
        have HQ : Hid (kdN ek = 1 + q) := by show kdN ek = 1 + q; unfold kdN; rw [hq]
        clear hsn htl he
        go_upto_if 30 with fail
        go_cut [8] from 11 to 62 (fun v8 wc => v8 = .int .i64 (q : Int) ∧ wc = wr)
        case first =>
          by_cases hneg : Int.tmod ek 4 < 0
          · have ew : wrap64 (-Int.tmod ek 4) = (q : Int) := by rw [wr_in (by omega)]; omega
            clear hq
            go_wp2_with fail
            go_meet
            exact ⟨by first | rfl | rw [ew], rfl⟩
          · have ew : Int.tmod ek 4 = (q : Int) := by omega
            clear hq
            go_wp2_with fail
            go_meet
            exact ⟨by first | rfl | rw [ew], rfl⟩
        case rest =>
          obtain ⟨rfl, rfl⟩ := hcut
          obtain ⟨T, hT⟩ : ∃ T, et.take 16384 = T := ⟨_, rfl⟩
          have HT : Hid (et.take 16384 = T) := hT
          have hTl : T.length ≤ 16384 := by rw [← hT, List.length_take]; omega
          go_upto_if 40 with fail
          go_cut [9] from 11 to 62 (fun v9 wz => v9 = .string ⟨T.toArray⟩ ∧ wz = wc)
          case first =>
            by_cases hlong : 16384 < et.length
            · have hl' : (16384 : Int) < (et.length : Int) := by omega
              have ex : (⟨et.toArray⟩ : ByteArray).extract 0 16384 = ⟨T.toArray⟩ := by
                rw [← hT]
                apply ByteArray.ext
                simp [ByteArray.data_extract]
              have hl2 : (16384 : Int) ≤ (et.length : Int) := by omega
              clear hT
              go_wp2_with fail
              go_meet
              exact ⟨by first | rfl | rw [ex], rfl⟩
            · have hl' : ¬ (16384 : Int) < (et.length : Int) := by omega
              have ex : et = T := by rw [← hT, List.take_of_length_le (by omega)]
              clear hT
              go_wp2_with fail
              go_meet
              exact ⟨by first | rfl | rw [ex], rfl⟩
          case rest =>
            obtain ⟨rfl, rfl⟩ := hcut
            clear hT
            obtain ⟨x1, x2⟩ : enE ((i : Int) + 1) (1 + (q : Int)) T = 0 ∧ enB ((i : Int) + 1) (1 + (q : Int)) T = encL (1 + i) (1 + q) T := by
              have h0 : enE ((i : Int) + 1) (1 + (q : Int)) T = 0 := by
                unfold enE
                rw [if_neg (by omega), if_pos]
                exact decide_eq_true (by omega)
              refine ⟨h0, ?_⟩
              unfold enB
              rw [if_pos h0, show ((i : Int) + 1).toNat = 1 + i by omega, show (1 + (q : Int)).toNat = 1 + q by omega]
            go_upto_region 13 with fail
            obtain ⟨X1, hX1⟩ : ∃ X1, wc.alloc (.cells #[.int .i64 ((i : Int) + 1), .int .i64 (1 + (q : Int)), .string ⟨T.toArray⟩] 28 (0, 0)) = X1 := ⟨_, rfl⟩
            have b1 : Below wc.heap.size wc X1 := by rw [← hX1]; exact (Below.refl _ _).alloc (Nat.le_refl _) _
            have HX : Hid (RBX X1 wc.heap.size ((i : Int) + 1) (1 + (q : Int)) T) := by rw [← hX1]; exact RBX_new (alloc_getZ _ _)
            obtain ⟨c0, c1, c2⟩ := HX.out
            rw [hX1]
            clear hX1
            have HEN := encode_any ((i : Int) + 1) (1 + (q : Int)) T X1
            rw [x1, x2] at HEN
            clear x1 x2
            go_wp2_with fail
            refine HEN.mono ?_
            rintro e X2 ⟨v2, rfl, o2, b2⟩
            obtain ⟨p2, q2, rfl, -⟩ := o2.shape
            obtain ⟨d0, d1, d2⟩ := HX.out.below b2
            have HO2 : Hid (OR X2 w.heap.size (.slice pr i cr) (recA 1 ((enA L).take i))) := (hO.out.below b1).below b2
            have HD2 : Hid (OB X2 w.heap.size (.slice pd (encA 1 ((enA L).take i)).length cd) (encA 1 ((enA L).take i))) := (hD.out.below b1).below b2
            have HB2 : Hid (Below w.heap.size w X2) := bel0Z (bel0Z hB.out b1) b2
            have HE2 : Hid (BR X2 p2 (encL (1 + i) (1 + q) T)) := o2.br
            have HE2o : Hid (OB X2 X1.heap.size (.slice p2 (encL (1 + i) (1 + q) T).length q2) (encL (1 + i) (1 + q) T)) := o2
            have HEL : Hid ((encL (1 + i) (1 + q) T).length ≤ 16404) := by show (encL (1 + i) (1 + q) T).length ≤ 16404; rw [encL_len]; omega
            have hBs := HB2.out.size
            clear o2 b2 b1 HEN c0 c1 c2
            have ow2 : X2.ownsRow w.heap.size 28 3 (.slice pr i cr) i (rcs (recA 1 ((enA L).take i))) := by
              have := HO2.out
              unfold OR at this
              rw [recA_len, HSN.out.2] at this
              exact this
            go_wp2_with (at_builtin; refine wpList_append_own_at _ rfl _ _ 39 rfl w.heap.size 28 i0 _ 3 32 Try.underlying39 hi hz0 hz1 hz2 rfl (by decide) _ _ _ rfl (ow2.alloc _) ⟨X2.heap.size, 0, none⟩ 1 1 [.int .i64 ((i : Int) + 1), .int .i64 (1 + (q : Int)), .string ⟨T.toArray⟩] rfl rfl (World.news_of_block (cs := #[.int .i64 ((i : Int) + 1), .int .i64 (1 + (q : Int)), .string ⟨T.toArray⟩]) (t := 28) (fr := (0, 0)) (alloc_getZ _ _)) (by simp [Value.oneCell']) (by unfold maxLen; omega) (by omega) (by simp; omega) ?_)
            intro v4 w4 o4 g4 _ _
            have HB4 : Hid (Below w.heap.size w w4) := bel_grZ (belAZ HB2.out _) g4 (fun j e => (World.ownsRow.lt ow2 j e).1)
            have HO4 : Hid (OR w4 w.heap.size v4 (recA 1 ((enA L).take (i + 1)))) := by
              show OR w4 w.heap.size v4 (recA 1 ((enA L).take (i + 1)))
              unfold OR
              rw [HSN.out.1, recA_snoc, rcs_snoc, List.length_append, recA_len, HSN.out.2, HQ.out, HT.out]
              have e : rcC ⟨1 + i, 1 + q, T⟩ = [.int .i64 ((i : Int) + 1), .int .i64 (1 + (q : Int)), .string ⟨T.toArray⟩] := by
                show [_, _, _] = _
                rw [show (((1 + i : Nat)) : Int) = (i : Int) + 1 by omega, show (((1 + q : Nat)) : Int) = 1 + (q : Int) by omega]
              rw [e]
              exact o4
            have hbA : Below X2.heap.size X2 (X2.alloc (.cells #[.int .i64 ((i : Int) + 1), .int .i64 (1 + (q : Int)), .string ⟨T.toArray⟩] 28 (0, 0))) := (Below.refl _ _).alloc (Nat.le_refl _) _
            have HD4 : Hid (OB w4 w.heap.size (.slice pd (encA 1 ((enA L).take i)).length cd) (encA 1 ((enA L).take i))) := World.ownsRow.kept (HD2.out.below hbA) g4 (own_neZ (HD2.out.below hbA) (ow2.alloc _) (by decide))
            have HE4 : Hid (BR w4 p2 (encL (1 + i) (1 + q) T)) := by
              have h : OB w4 X1.heap.size (.slice p2 (encL (1 + i) (1 + q) T).length q2) (encL (1 + i) (1 + q) T) := World.ownsRow.kept (HE2o.out.below hbA) g4 (own_neZ (HE2o.out.below hbA) (ow2.alloc _) (by decide))
              exact h.br
            have HAB : Hid ((encA 1 ((enA L).take i)).length ≤ 656160) := by
              have h := encA_bound (l := (enA L).take i) 1 (fun e he => by
                obtain ⟨x, -, rfl⟩ := List.mem_map.1 (List.mem_of_mem_take he)
                simp [enP]; omega)
              rw [HSN.out.2] at h
              show _ ≤ _
              omega
            have hB4s := HB4.out.size
            obtain ⟨p4, c4, rfl⟩ := shapeZ o4
            clear o4 g4 ow2 HD2 HO2 HE2 HE2o hbA d0 d1 d2 HX HB2
            go_wp2_with (at_builtin; refine app_bytes rfl _ _ rfl w.heap.size _ (encA 1 ((enA L).take i)) rfl HD4.out _ _ _ (encL (1 + i) (1 + q) T) rfl rfl HE4.out (by have := HAB.out; have := HEL.out; omega) hB4s ?_)
            intro v5 w5 o5 g5 _
            have HB5 : Hid (Below w.heap.size w w5) := bel_grZ HB4.out g5 (fun j e => (World.ownsRow.lt HD4.out j e).1)
            have HO5 : Hid (OR w5 w.heap.size (.slice p4 (i + 1) c4) (recA 1 ((enA L).take (i + 1)))) := World.ownsRow.kept HO4.out g5 (own_neZ HO4.out HD4.out (by decide))
            have HD5 : Hid (OB w5 w.heap.size v5 (encA 1 ((enA L).take (i + 1)))) := by
              show OB w5 w.heap.size v5 (encA 1 ((enA L).take (i + 1)))
              rw [HSN.out.1, encA_snoc, HSN.out.2, HQ.out, HT.out]
              exact o5
            clear o5 g5
            go_wp2_with fail
            exact ⟨⟨i + 1, rfl, by omega, by omega, HO5, HD5, HB5⟩, by simp only [intOf]; omega⟩
      · obtain rfl : i = 40 := by omega
        have HF : Hid ((enA L).take 40 = enA L) := List.take_of_length_le (enA_len L)
        obtain ⟨pr, cr, rfl⟩ := hO.out.shape
        obtain ⟨pd, cd, rfl, -⟩ := hD.out.shape
        go_wp2_with fail
        refine bodyPost_ret (res_wr _ _ _ _ _ ⟨rfl, rfl, rfl⟩) rfl ?_
        have h1 : OR wr w.heap.size (.slice pr (recA 1 ((enA L).take 40)).length cr) (recA 1 (enA L)) := by
          have h := hO.out
          rw [HF.out] at h ⊢
          exact h
        have h2 : OB wr w.heap.size (.slice pd (encA 1 ((enA L).take 40)).length cd) (encA 1 (enA L)) := by
          have h := hD.out
          rw [HF.out] at h ⊢
          exact h
        exact ⟨_, _, rfl, h1, h2, hB.out⟩
    · obtain rfl : i = n := by omega
      have HF : Hid ((enA L).take i = enA L) := List.take_of_length_le (by simp [enA, HN.out]; omega)
      obtain ⟨pr, cr, rfl⟩ := hO.out.shape
      obtain ⟨pd, cd, rfl, -⟩ := hD.out.shape
      go_wp2_with fail
      refine bodyPost_ret (res_wr _ _ _ _ _ ⟨rfl, rfl, rfl⟩) rfl ?_
      have h1 : OR wr w.heap.size (.slice pr (recA 1 ((enA L).take i)).length cr) (recA 1 (enA L)) := by
        have h := hO.out
        rw [HF.out] at h ⊢
        exact h
      have h2 : OB wr w.heap.size (.slice pd (encA 1 ((enA L).take i)).length cd) (encA 1 (enA L)) := by
        have h := hD.out
        rw [HF.out] at h ⊢
        exact h
      exact ⟨_, _, rfl, h1, h2, hB.out⟩
end Go.Proofs.Ytjbfkknpkldhjaa

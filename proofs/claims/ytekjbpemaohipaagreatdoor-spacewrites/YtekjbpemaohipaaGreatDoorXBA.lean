import Derived.Test.YtekjbpemaohipaaGreatDoorXAZ
import Derived.Test.YtekjbpemaohipaaGreatDoorXAM
import Derived.Test.YtekjbpemaohipaaGreatDoorXAY
import Derived.Test.YtekjbpemaohipaaGreatDoorXAX
import Derived.Test.YtekjbpemaohipaaGreatDoorXAN
import Derived.Test.YtekjbpemaohipaaGreatDoorXAC
import Derived.BigQuiet
import Derived.Deep.RegionHeld3
import Derived.Defers
import Derived.Recover
import Derived.Laws.Pointers
import Derived.Test.YtekjbpemaohipaaGreatDoorChecked
import Derived.Laws.AppendOwnNone
namespace Go.Proofs.YtekjbpemaohipaaGreatDoor
open Go.RowKit Go.Shelf
/-- every term of what is read has its form, and its width -/
theorem prT_ft (b : Int) (l : List UInt8) : ∀ t ∈ prT b l, FTm t ∧ (t.1.length : Int) = b ∧ 1 ≤ b ∧ b ≤ 256 ∧ prE b l = 0 := fun t ht => by
  unfold prT at ht
  split at ht
  · rename_i h0
    obtain ⟨h1, h2, h3⟩ := prE_zero h0
    split at ht
    · cases ht
    · rename_i hn
      rcases h3 with h3 | h3
      · exact absurd h3 hn
      · obtain ⟨hf, y, hy, he⟩ := FTm_form (gdC_tcon h3) t ht
        refine ⟨hf, ?_, h1, h2, h0⟩
        obtain ⟨p, hp, rfl⟩ := List.mem_map.1 hy
        have h4 := List.all_eq_true.1 h3 p hp
        have hne := prts_ne 45 p
        have : (tcon p).1.length = b.toNat := by
          unfold tcon
          unfold okT at h4
          cases hc : prts 45 p with
          | nil => rw [hc] at hne; exact absurd hne (by simp)
          | cons c r =>
            rw [hc] at h4
            have h5 := List.all_eq_true.1 h4 c List.mem_cons_self
            unfold okP at h5
            simpa using (Bool.and_eq_true_iff.1 h5).2
        rw [← he, this]
        omega
  · cases ht
theorem okH_at {t h : List UInt8} {k : Nat} (hk : k < t.length) (hk2 : k < h.length) : okH t h k = ((h[k] == 48 || h[k] == 49) && (t[k] == 120 || t[k] == h[k])) := by
  unfold okH
  rw [List.getElem?_eq_getElem hk, List.getElem?_eq_getElem hk2]
theorem has_wi {t h : List UInt8} (hl : t.length = h.length) (hd : h.all digB = true) : hasB t h = wiB h t := by
  have hd' := List.all_eq_true.1 hd
  unfold hasB wiB fitB
  have e1 : t.isEmpty = h.isEmpty := by
    cases t <;> cases h <;> first | rfl | (simp at hl)
  rw [e1, hl, Bool.eq_iff_iff]
  simp only [Bool.and_eq_true, allTo_iff]
  refine and_congr (by simp) (forall_congr' fun k => forall_congr' fun hk => ?_)
  rw [okH_at (by omega) hk, List.getElem?_eq_getElem hk, List.getElem?_eq_getElem (show k < t.length by omega)]
  have h1 := hd' _ (List.getElem_mem hk)
  unfold digB at h1
  rw [h1, Bool.true_and]
  simp only [Bool.or_eq_true, beq_iff_eq]
  exact ⟨fun h => h.imp id Eq.symm, fun h => h.imp id Eq.symm⟩
theorem has_hd {b : Int} {t h : List UInt8} (hb : (t.length : Int) = b) (h1 : 1 ≤ b) (hh : hdB b h = false) : hasB t h = false := by
  cases hc : hasB t h with
  | false => rfl
  | true =>
    unfold hasB at hc
    obtain ⟨h2, h3⟩ := Bool.and_eq_true_iff.1 hc
    have h4 : t.length = h.length := by simpa using (Bool.and_eq_true_iff.1 h2).2
    have h5 := (allTo_iff _ _).1 h3
    have : hdB b h = true := by
      unfold hdB
      rw [← h4, show ((t.length : Int) == b) = true by simpa using hb, show (b == 0) = false by simp; omega]
      simp only [Bool.not_false, Bool.and_true, Bool.true_and]
      refine List.all_eq_true.2 (fun x hx => ?_)
      obtain ⟨k, hk, rfl⟩ := List.getElem_of_mem hx
      have h6 := h5 k (by omega)
      rw [okH_at (by omega) hk] at h6
      exact (Bool.and_eq_true_iff.1 h6).1
    rw [this] at hh
    cases hh
theorem any_congrB {α : Type} {L : List α} {p q : α → Bool} (h : ∀ t ∈ L, p t = q t) : L.any p = L.any q := by
  induction L with
  | nil => rfl
  | cons x l ih => rw [List.any_cons, List.any_cons, h x List.mem_cons_self, ih (fun t ht => h t (List.mem_cons_of_mem _ ht))]
theorem all_congrB {α : Type} {L : List α} {p q : α → Bool} (h : ∀ t ∈ L, p t = q t) : L.all p = L.all q := by
  induction L with
  | nil => rfl
  | cons x l ih => rw [List.all_cons, List.all_cons, h x List.mem_cons_self, ih (fun t ht => h t (List.mem_cons_of_mem _ ht))]
/-- the program's Has is the document's -/
theorem hs_eq (b : Int) (l h : List UInt8) : hsB (prT b l) h = (hdB (prB b l) h && (prT b l).any (fun t => tdB t.1 t.2 h)) := by
  have hF := prT_ft b l
  unfold hsB
  by_cases hX : prT b l = []
  · rw [hX]; simp
  · obtain ⟨t0, ht0⟩ : ∃ t, t ∈ prT b l := by
      cases hx : prT b l with
      | nil => exact absurd hx hX
      | cons t r => exact ⟨t, List.mem_cons_self⟩
    have e0 : prB b l = b := by unfold prB; rw [if_pos (hF t0 ht0).2.2.2.2]
    rw [e0]
    cases hh : hdB b h with
    | false =>
      rw [Bool.false_and, List.any_eq_false]
      intro t ht
      obtain ⟨hf, hl, h1, h2, -⟩ := hF t ht
      unfold thB
      rw [has_hd hl h1 hh]
      simp
    | true =>
      rw [Bool.true_and]
      refine any_congrB (fun t ht => ?_)
      obtain ⟨hf, hl, h1, h2, -⟩ := hF t ht
      have hd : h.all digB = true := (Bool.and_eq_true_iff.1 hh).2
      have hln : (h.length : Int) = b := by simpa using (Bool.and_eq_true_iff.1 (Bool.and_eq_true_iff.1 hh).1).1
      unfold thB tdB
      rw [has_wi (by omega) hd]
      congr 1
      refine all_congrB (fun m hm => ?_)
      have h3 := hf.wi m hm
      unfold wiB at h3
      have h4 := fitB_len (Bool.and_eq_true_iff.1 h3).1
      rw [has_wi (by omega) hd]
end Go.Proofs.YtekjbpemaohipaaGreatDoor
namespace Go.Proofs.YtekjbpemaohipaaGreatDoor
open Go.RowKit Go.Shelf
/-- the terms of a space, good, each of one width -/
def gdS (Ts : List (List UInt8 × List (List UInt8))) : Prop := ∀ t ∈ Ts, good t.1 = true ∧ gdW t.1.length t.2
theorem gdS_ft {Ts : List (List UInt8 × List (List UInt8))} (h : ∀ t ∈ Ts, FTm t) : gdS Ts := fun t ht => by
  have h0 := h t ht
  refine ⟨h0.gc, fun x hx => ⟨h0.gl x hx, ?_⟩⟩
  have h3 := h0.wi x hx
  rw [wiB_eq, Bool.and_eq_true] at h3
  have h4 := h3.1
  simp [fitB] at h4
  omega
theorem gdS_pr (b : Int) (l : List UInt8) : gdS (prT b l) := gdS_ft (fun t ht => (prT_ft b l t ht).1)
theorem TRC_spl {W : World} {B n cp : Nat} {p : Option Addr} {Z : List ZT} (h : W.ownsRow B 62 10 (.slice p n cp) n (tes Z)) (hn : Z.length = n) (hz : ZL W B Z) : TRC W (fun _ => False) none p Z := fun i z hzi => by
  obtain ⟨g, o0, e, c⟩ := IRZ_own h hn W (Below.refl _ _) i z hzi
  have hL := hz z (List.mem_of_getElem? hzi)
  refine ⟨g, o0, e, c, fun h => h, by simp, fun j t ht => ?_, ?_⟩
  · obtain ⟨g2, o2, e2, c2⟩ := IRC_own hL rfl W (Below.refl _ _) j t ht
    exact ⟨g2, o2, e2, c2, fun h => h, by simp⟩
  · rcases own_shapeQ hL with ⟨_, e2⟩ | ⟨g3, c3, e3, e4, -⟩
    · omega
    · injection e3 with _ _ e5
      omega
set_option maxRecDepth 100000 in
set_option maxHeartbeats 4000000 in
theorem sExpand_any (b lim : Int) (Ts : List (List UInt8 × List (List UInt8))) (B : Nat) (V : Value) (w : World) (h : SPL w B V Ts) (hs : szC Ts ≤ 128) (hg : gdS Ts) :
    Calls Tryz.prog 30 #[.agg #[.int .i64 b, V, .bool false], .int .i64 lim] w fun e w' => ∃ v, e = .returned (.tuple #[v, .int .i64 (xpE b lim Ts)]) ∧ w'.ownsRow w.heap.size 34 9 v (xpL b lim Ts).length (ces (xpL b lim Ts)) ∧ Below w.heap.size w w' := by
  obtain ⟨Z, rfl, hrow, hzl⟩ := h
  obtain ⟨p, cp, rfl⟩ := shapeQ1 hrow
  have hq1 := szC_len (Z.map ZT.cont)
  rw [List.length_map] at hq1
  obtain ⟨n, hn⟩ : ∃ n, Z.length = n := ⟨_, rfl⟩
  rw [hn] at hrow hq1 ⊢
  have hzg : ∀ z ∈ Z, good z.c = true ∧ gdW z.c.length z.L ∧ z.L.length ≤ 128 := fun z hz => by
    have hm := List.mem_map_of_mem (f := ZT.cont) hz
    have h1 := szC_mem z.cont hm
    have e : z.cont.2 = z.L := rfl
    rw [e] at h1
    obtain ⟨g1, g2⟩ := hg z.cont hm
    exact ⟨g1, g2, by omega⟩
  have ht := TRC_spl hrow hn hzl
  obtain ⟨w2, hw2⟩ : ∃ w2, (w.alloc (.cells #[.int .i64 b, .slice p n cp, .bool false] 26 (0, 0))).alloc (.cells #[.int .i64 lim] 3 (0, 0)) = w2 := ⟨_, rfl⟩
  have b1 : w2.heap[w.heap.size]? = some (.cells #[.int .i64 b, .slice p n cp, .bool false] 26 (0, 0)) := by rw [← hw2]; exact alw_0 _ _ _
  have b2 : w2.heap[w.heap.size + 1]? = some (.cells #[.int .i64 lim] 3 (0, 0)) := by rw [← hw2]; exact alw_1 _ _ _
  have hB2 : Below w.heap.size w w2 := by rw [← hw2]; exact belA (belA (Below.refl _ _) _) _
  have hc1 := (cells_block b1).1
  have hc2 : w2.cell? ⟨w.heap.size + 1, 0, none⟩ = some (.int .i64 lim) := (cells_block b2).1 0
  have hmf : ∀ (fn : Fn) (first cap : Array Value) (w : World), (Instr.makeFunc fn first cap).run Tryz.prog w = .ok (.func fn first cap) w := fun _ _ _ _ => rfl
  have HRF := refusal_any b lim p n cp w2
  obtain ⟨E, hE⟩ : ∃ E, rfE b lim = E := ⟨_, rfl⟩
  rw [hE] at HRF
  have HB : Hid (Below w.heap.size w w2) := hB2
  have hsz2 : w.heap.size ≤ w2.heap.size := hB2.size
  by_cases hE0 : E = 0
  · have hb0 : ¬ b = 0 := fun h => by unfold rfE at hE; rw [if_pos h] at hE; omega
    have hl0 : ¬ (lim < 0 ∨ 2048 < lim) := fun h => by unfold rfE at hE; rw [if_neg hb0, if_pos h] at hE; omega
    obtain ⟨M, rfl⟩ : ∃ M : Nat, lim = M := ⟨lim.toNat, by omega⟩
    have hM : M ≤ 2048 := by omega
    obtain ⟨R, ok, hxp, HG⟩ : ∃ (R : List (List UInt8)) (ok : Bool), (XPD b (M : Int) (Z.map ZT.cont) (if ok = true then 0 else 3) (if ok = true then R else [])) ∧ ∀ W, Below w2.heap.size w2 W → Calls Tryz.prog 47 #[.pointer (some ⟨w.heap.size, 0, none⟩), .pointer (some ⟨w.heap.size + 1, 0, none⟩)] W fun e w' => Below W.heap.size W w' ∧ ((ok = true ∧ ∃ v, e = .returned v ∧ w'.ownsRow W.heap.size 34 9 v R.length (ces R)) ∨ (ok = false ∧ e = .panicked [{ v := .iface 94 (.agg #[]), recovered := false }])) := by
      have H1 : ∀ W, Below w2.heap.size w2 W → _ := fun W hW => expand1_any inForm_any b Z n p cp w.heap.size (w.heap.size + 1) M W hn (by omega) hM (keepblk3 hW b1) (keepblk3 hW b2) (ht.ofW (bel0 hB2 hW) (fun k h => h.elim)) hzg
      cases hx : exE splT M [] (Z.map ZT.cont) with
      | none =>
        refine ⟨[], false, xpd_n hb0 hM hx, fun W hW => (H1 W hW).mono ?_⟩
        rintro e w' ⟨h1, ⟨R, v, h2, -⟩ | ⟨-, h3⟩⟩
        · rw [show exE splT M [] (Z.map ctZ) = none from hx] at h2
          cases h2
        · exact ⟨h1, .inr ⟨rfl, h3⟩⟩
      | some R =>
        refine ⟨R, true, xpd_s hb0 hM hx, fun W hW => (H1 W hW).mono ?_⟩
        rintro e w' ⟨h1, ⟨R', v, h2, h3, h4⟩ | ⟨h3, -⟩⟩
        · rw [show exE splT M [] (Z.map ctZ) = some R from hx] at h2
          injection h2 with h2
          subst h2
          exact ⟨h1, .inl ⟨rfl, v, h3, h4⟩⟩
        · rw [show exE splT M [] (Z.map ctZ) = some R from hx] at h3
          cases h3
    rw [← hxp.1, ← hxp.2]
    have HGV : Hid (∀ W, Below w2.heap.size w2 W → Calls Tryz.prog 46 #[.func (.func 47) #[] #[.pointer (some ⟨w.heap.size, 0, none⟩), .pointer (some ⟨w.heap.size + 1, 0, none⟩)]] W fun e w' => ∃ v, e = .returned (.tuple #[v, .int .i64 (if ok = true then 0 else 3)]) ∧ w'.ownsRow W.heap.size 34 9 v (if ok = true then R else []).length (ces (if ok = true then R else [])) ∧ Below W.heap.size W w') := fun W hW => giveC R ok _ _ W (fun X hX => HG X (bel0 hW hX))
    obtain ⟨EE, hEE⟩ : ∃ E : Int, (if ok = true then 0 else 3) = E := ⟨_, rfl⟩
    obtain ⟨LL, hLL⟩ : ∃ E, (if ok = true then R else []) = E := ⟨_, rfl⟩
    rw [hEE, hLL] at HGV ⊢
    subst hE0
    clear hE hb0 hl0 HG hxp hEE hLL b1 b2 ht hzg hrow hzl hg hs hB2 hn hq1
    go_enter Tryz.func30, Tryz.ntmps30
    go_wp2_with fail
    refine HRF.mono ?_
    rintro e w3 ⟨rfl, hb3⟩
    clear HRF hc1 hc2 hw2
    have HB3 : Hid (Below w2.heap.size w2 w3) := hb3
    clear hb3
    go_wp2_with fail
    refine (HGV.out w3 HB3.out).mono ?_
    rintro e w4 ⟨v, rfl, o4, hb4⟩
    obtain ⟨p4, c4, rfl⟩ := shapeQ1 o4
    have hs3 := HB3.out.size
    have HZ : Hid (w4.ownsRow w.heap.size 34 9 (.slice p4 LL.length c4) LL.length (ces LL) ∧ Below w.heap.size w w4) := ⟨own_base o4 (by omega), bel0 HB.out (bel0 HB3.out hb4)⟩
    clear o4 hb4
    go_wp2_with fail
    go_ret2
    exact ⟨_, rfl, HZ.out.1, HZ.out.2⟩
  · have hxp : XPD b lim (Z.map ZT.cont) E [] := by
      unfold rfE at hE
      split at hE
      · rename_i h1
        subst h1
        rw [← hE]
        exact xpd_w _ _
      · rename_i h1
        split at hE
        · rename_i h2
          rw [← hE]
          exact xpd_a _ h1 h2
        · omega
    rw [← hxp.1, ← hxp.2]
    have e0 : (E != 0) = true := by rw [bne_iff_ne]; exact hE0
    clear hE hxp b1 b2 ht hzg hrow hzl hg hs hB2 hn hq1 hE0
    go_enter Tryz.func30, Tryz.ntmps30
    go_wp2_with fail
    refine HRF.mono ?_
    rintro e w3 ⟨rfl, hb3⟩
    have HZ : Hid (Below w.heap.size w w3) := bel0 HB.out hb3
    clear HRF hc1 hc2 hw2 hb3
    go_wp2_with fail
    go_ret2
    exact ⟨_, rfl, World.ownsRow_nil _ _ _ _, HZ.out⟩
end Go.Proofs.YtekjbpemaohipaaGreatDoor
namespace Go.Proofs.YtekjbpemaohipaaGreatDoor
open Go.RowKit

set_option maxHeartbeats 400000 in
theorem write_no (a b : List UInt8) (w : World) (hq0 : fitB a b = false) :
    Calls Tryz.prog 33 #[cubeV a, cubeV b] w fun e w' => e = .returned (cubeV []) ∧ Below w.heap.size w w' := by
  have hq : Hid (fitB a b = false) := hq0
  clear hq0
  rw [cubeV_nil]
  unfold cubeV cv
  go_enter Tryz.func33, Tryz.ntmps33
  go_wp2_with (go_at_call 50; refine (fits_D a b false _ hq.out).mono ?_; rintro e w1 ⟨rfl, hb1⟩; obtain ⟨hc1, hf1⟩ := bcell hb1)
  have hk : w1.heap[w.heap.size + 2]? = some (.cells #[.int .i64 0, .int .u64 0, .int .u64 0, .int .u64 0, .int .u64 0, .int .u64 0, .int .u64 0, .int .u64 0, .int .u64 0] 34 (0, 0)) := by
    rw [hb1.block _ (by simp)]
    exact alloc_get2 _ _ _ _
  refine bodyPost_ret (v := cv 0 0 0 0 0 0 0 0 0) ?_ rfl ⟨rfl, ?_⟩
  · exact res_cube1 _ _ (w.heap.size + 2) _ _ _ _ _ _ _ _ _ Tryz.results33 rfl (put9_get _ _ _ _ _ _ _ _ _ hk)
  · exact put9_below _ _ _ _ _ _ _ _ _ (bel1 (bel1 (bel1 hb1))) (by omega)

set_option maxHeartbeats 400000 in
theorem before_no (a b : List UInt8) (w : World) (ha : good a = true) (hq0 : agB a b = false) :
    Calls Tryz.prog 28 #[cubeV a, cubeV b] w fun e w' => e = .returned (.tuple #[cubeV [], .bool false]) ∧ Below w.heap.size w w' := by
  have hq : Hid (agB a b = false) := hq0
  clear hq0
  rw [cubeV_nil]
  unfold cubeV cv
  go_enter Tryz.func28, Tryz.ntmps28
  go_wp2_with (go_at_call 44; refine (agrees_D a b false _ ha hq.out).mono ?_; rintro e w1 ⟨rfl, hb1⟩; obtain ⟨hc1, hf1⟩ := bcell hb1)
  have hk : w1.heap[w.heap.size + 2]? = some (.cells #[.int .i64 0, .int .u64 0, .int .u64 0, .int .u64 0, .int .u64 0, .int .u64 0, .int .u64 0, .int .u64 0, .int .u64 0] 34 (0, 0)) := by
    rw [hb1.block _ (by simp)]
    exact alloc_get2 _ _ _ _
  refine bodyPost_ret (v := .tuple #[cv 0 0 0 0 0 0 0 0 0, .bool false]) ?_ rfl ⟨rfl, ?_⟩
  · exact res_cube2 _ _ (w.heap.size + 2) _ _ _ _ _ _ _ _ _ Tryz.results28 rfl (put9_get _ _ _ _ _ _ _ _ _ hk)
  · exact put9_below _ _ _ _ _ _ _ _ _ (bel1 (bel1 (bel1 hb1))) (by omega)

theorem write_any (a b : List UInt8) (w : World) :
    Calls Tryz.prog 33 #[cubeV a, cubeV b] w fun e w' => e = .returned (cubeV (wtT a b)) ∧ Below w.heap.size w w' := by
  unfold wtT
  cases hq : fitB a b
  · exact write_no a b w hq
  · have hl := fitB_len hq
    refine (write_raw _ _ _ _ _ _ _ _ _ _ _ _ _ _ _ _ _ _ w (fun W => fits_D a b true W hq)).mono ?_
    rintro e w' ⟨rfl, hb⟩
    refine ⟨?_, hb⟩
    rw [FW_wr a b hl, FW_wr a b hl, FW_wr a b hl, FW_wr a b hl, OW_wr a b hl, OW_wr a b hl, OW_wr a b hl, OW_wr a b hl, if_pos rfl]
    have e : (wrT a b).length = a.length := zip_len _ a b hl
    unfold cubeV
    rw [e]
theorem write_D (a b M : List UInt8) (w : World) (hM : wtT a b = M) :
    Calls Tryz.prog 33 #[cubeV a, cubeV b] w fun e w' => e = .returned (cubeV M) ∧ Below w.heap.size w w' := by
  subst hM; exact write_any a b w

theorem before_any (a b : List UInt8) (w : World) (ha : good a = true) :
    Calls Tryz.prog 28 #[cubeV a, cubeV b] w fun e w' => e = .returned (.tuple #[cubeV (beT a b), .bool (agB a b)]) ∧ Below w.heap.size w w' := by
  unfold beT
  cases hq : agB a b
  · exact before_no a b w ha hq
  · have hl := fitB_len (agB_fit hq)
    refine (before_raw _ _ _ _ _ _ _ _ _ _ _ _ _ _ _ _ _ _ w (fun W => agrees_D a b true W ha hq)).mono ?_
    rintro e w' ⟨rfl, hb⟩
    refine ⟨?_, hb⟩
    rw [FW_bf a b hl, FW_bf a b hl, FW_bf a b hl, FW_bf a b hl, OW_bf a b hl, OW_bf a b hl, OW_bf a b hl, OW_bf a b hl, if_pos rfl]
    have e : (bfT a b).length = a.length := zip_len _ a b hl
    unfold cubeV
    rw [e]
theorem before_D (a b M : List UInt8) (q : Bool) (w : World) (ha : good a = true) (hM : beT a b = M) (hq : agB a b = q) :
    Calls Tryz.prog 28 #[cubeV a, cubeV b] w fun e w' => e = .returned (.tuple #[cubeV M, .bool q]) ∧ Below w.heap.size w w' := by
  subst hM hq; exact before_any a b w ha
end Go.Proofs.YtekjbpemaohipaaGreatDoor
namespace Go.Proofs.YtekjbpemaohipaaGreatDoor
open Go.RowKit Go.Shelf
theorem quiet_lit3 {P : Program} {id : Nat} {Q : Exit → Act → World → Prop} {a : Act} {w : World} {l : List Oper} {C : World → Prop} (hm : P.follows .mixedOrders = true) (hB : Region.lexB .any l.toArray = true) (hC : C w.drew)
    (h : wpQuiet P l.toArray C (fun a' => ∀ w', C w' → Q .normal a' w') l a) : (Code.region id l.toArray true).wp P Q a w :=
  wp_region_quiet (C := C) hm hB hC (by simpa using h)
theorem RSR.shape {W : World} {V : Value} {Ts : List (List UInt8 × List (List UInt8))} (h : RSR W V Ts) : ∃ p c, V = .slice p Ts.length c := by
  obtain ⟨Z, p, c, rfl, rfl, -, -⟩ := h
  exact ⟨p, c, by rw [List.length_map]⟩
theorem RSR.kept {W X : World} {b : Nat} {V : Value} {Ts : List (List UInt8 × List (List UInt8))} (h : RSR W V Ts) (hg : W.grownBy X (some b)) (hb : ∀ o t, W.cell? ⟨b, o, none⟩ ≠ some (.string t)) : RSR X V Ts := by
  have far : ∀ (X' : World) (g o : Nat) (u : Value), Below X.heap.size X X' → (∃ o' t, W.cell? ⟨g, o', none⟩ = some (.string t)) → W.cell? ⟨g, o, none⟩ = some u → X'.cell? ⟨g, o, none⟩ = some u := fun X' g o u hX hs hc => by
    have hne : some g ≠ some b := fun e => by
      obtain rfl := Option.some.inj e
      obtain ⟨o', t, h⟩ := hs
      exact hb o' t h
    have hlt := World.block_lt_of_cell? W _ hc
    have e1 : X'.heap[g]? = W.heap[g]? := (hX.block g (Nat.lt_of_lt_of_le hlt hg.size)).trans (hg.block g hlt hne)
    rw [World.cell?_of_block (a := ⟨g, o, none⟩) e1]
    exact hc
  obtain ⟨Z, p, cp, h1, h2, h3, h4⟩ := h
  refine ⟨Z, p, cp, h1, h2, fun X' hX k z hz => ?_, fun z hz X' hX k t ht => ?_⟩
  · obtain ⟨g, o0, e, c0, c1⟩ := h3 W (Below.refl _ _) k z hz
    exact ⟨g, o0, e, far X' g _ _ hX ⟨_, _, c0⟩ c0, far X' g _ _ hX ⟨_, _, c0⟩ c1⟩
  · obtain ⟨g, o0, e, c0⟩ := h4 z hz W (Below.refl _ _) k t ht
    exact ⟨g, o0, e, far X' g _ _ hX ⟨_, _, c0⟩ c0⟩
theorem no_str3 {W : World} {b : Nat} {i : Int} {q : Option Addr} {n c : Nat} {f : Bool} {T : TypeId} {fr : Nat × Nat} (hb : W.heap[b]? = some (.cells #[.int .i64 i, .slice q n c, .bool f] T fr)) : ∀ o t, W.cell? ⟨b, o, none⟩ ≠ some (.string t) := fun o t h => by
  unfold World.cell? at h
  rw [hb] at h
  match o, h with
  | 0, h => simp at h
  | 1, h => simp at h
  | 2, h => simp at h
  | k + 3, h => simp at h
theorem no_str2 {W : World} {b : Nat} {i : Int} {q : Option Addr} {n c : Nat} {T : TypeId} {fr : Nat × Nat} (hb : W.heap[b]? = some (.cells #[.int .i64 i, .slice q n c] T fr)) : ∀ o t, W.cell? ⟨b, o, none⟩ ≠ some (.string t) := fun o t h => by
  unfold World.cell? at h
  rw [hb] at h
  match o, h with
  | 0, h => simp at h
  | 1, h => simp at h
  | k + 2, h => simp at h
end Go.Proofs.YtekjbpemaohipaaGreatDoor
namespace Go.Proofs.YtekjbpemaohipaaGreatDoor
open Go.RowKit Go.Shelf
def RDS (w w' : World) (b : Int) (l : List UInt8) (e : Ending) : Prop := ∃ V V2, e = .returned (.tuple #[.agg #[.int .i64 (prB b l), V, .bool false], .agg #[.int .i64 (prB b l), V2], .bool true]) ∧ SPL w' w.heap.size V (prT b l) ∧ RSR w' V2 (prT b l) ∧ Below w.heap.size w w'
theorem put5_get {W : World} {a c : Nat} {x0 x1 x2 y0 y1 : Value} {T U : TypeId} {m m2 : Nat × Nat} (v0 v1 v2 u0 u1 : Value) (hne : a ≠ c) (h : W.heap[a]? = some (.cells #[x0, x1, x2] T m)) (h2 : W.heap[c]? = some (.cells #[y0, y1] U m2)) :
    (((((W.setCell ⟨a, 0, none⟩ v0).setCell ⟨a, 1, none⟩ v1).setCell ⟨a, 2, none⟩ v2).setCell ⟨c, 0, none⟩ u0).setCell ⟨c, 1, none⟩ u1).heap[a]? = some (.cells #[v0, v1, v2] T m) ∧ (((((W.setCell ⟨a, 0, none⟩ v0).setCell ⟨a, 1, none⟩ v1).setCell ⟨a, 2, none⟩ v2).setCell ⟨c, 0, none⟩ u0).setCell ⟨c, 1, none⟩ u1).heap[c]? = some (.cells #[u0, u1] U m2) := by
  constructor
  · rw [heap_setCell_other _ _ _ _ (fun e => hne e), heap_setCell_other _ _ _ _ (fun e => hne e)]
    have h0 := set_get (j := 0) v0 h
    have h1 := set_get (j := 1) v1 h0
    have h2 := set_get (j := 2) v2 h1
    rw [h2]
    simp
  · have k : (((W.setCell ⟨a, 0, none⟩ v0).setCell ⟨a, 1, none⟩ v1).setCell ⟨a, 2, none⟩ v2).heap[c]? = some (.cells #[y0, y1] U m2) := by
      rw [heap_setCell_other _ _ _ _ (fun e => hne e.symm), heap_setCell_other _ _ _ _ (fun e => hne e.symm), heap_setCell_other _ _ _ _ (fun e => hne e.symm)]
      exact h2
    have h0 := set_get (j := 0) u0 k
    have h1 := set_get (j := 1) u1 h0
    rw [h1]
    simp
theorem gr3 (X : World) (b : Nat) (u0 u1 u2 : Value) : X.grownBy (((X.setCell ⟨b, 0, none⟩ u0).setCell ⟨b, 1, none⟩ u1).setCell ⟨b, 2, none⟩ u2) (some b) := ⟨rfl, rfl, rfl, by simp, fun j _ hj => by
  rw [heap_setCell_other _ _ _ _ (fun e => hj (by rw [e])), heap_setCell_other _ _ _ _ (fun e => hj (by rw [e])), heap_setCell_other _ _ _ _ (fun e => hj (by rw [e]))]⟩
theorem gr2 (X : World) (b : Nat) (u0 u1 : Value) : X.grownBy ((X.setCell ⟨b, 0, none⟩ u0).setCell ⟨b, 1, none⟩ u1) (some b) := ⟨rfl, rfl, rfl, by simp, fun j _ hj => by
  rw [heap_setCell_other _ _ _ _ (fun e => hj (by rw [e])), heap_setCell_other _ _ _ _ (fun e => hj (by rw [e]))]⟩
theorem far3h {W : World} {a b : Nat} (v0 v1 v2 : Value) (hne : a ≠ b) : (((W.setCell ⟨b, 0, none⟩ v0).setCell ⟨b, 1, none⟩ v1).setCell ⟨b, 2, none⟩ v2).heap[a]? = W.heap[a]? := by
  rw [heap_setCell_other _ _ _ _ (fun e => hne e), heap_setCell_other _ _ _ _ (fun e => hne e), heap_setCell_other _ _ _ _ (fun e => hne e)]
theorem far3c {W : World} {a b : Nat} {cs : Array Value} (v0 v1 v2 : Value) (hne : a ≠ b) (h : ∀ j, W.cell? ⟨a, j, none⟩ = cs[j]?) : ∀ j, (((W.setCell ⟨b, 0, none⟩ v0).setCell ⟨b, 1, none⟩ v1).setCell ⟨b, 2, none⟩ v2).cell? ⟨a, j, none⟩ = cs[j]? := fun j => by
  rw [World.cell?_of_block (a := ⟨a, j, none⟩) (far3h v0 v1 v2 hne)]
  exact h j
theorem far2c {W : World} {a b : Nat} {cs : Array Value} (v0 v1 : Value) (hne : a ≠ b) (h : ∀ j, W.cell? ⟨a, j, none⟩ = cs[j]?) : ∀ j, ((W.setCell ⟨b, 0, none⟩ v0).setCell ⟨b, 1, none⟩ v1).cell? ⟨a, j, none⟩ = cs[j]? := fun j => by
  rw [World.cell?_of_block (a := ⟨a, j, none⟩) (show _ = W.heap[a]? by rw [heap_setCell_other _ _ _ _ (fun e => hne e), heap_setCell_other _ _ _ _ (fun e => hne e)])]
  exact h j
end Go.Proofs.YtekjbpemaohipaaGreatDoor
namespace Go.Proofs.YtekjbpemaohipaaGreatDoor
open Go.RowKit Go.Shelf
theorem put3_get {W : World} {b : Nat} {x0 x1 x2 : Value} {T : TypeId} {m : Nat × Nat} (v0 v1 v2 : Value) (h : W.heap[b]? = some (.cells #[x0, x1, x2] T m)) : (((W.setCell ⟨b, 0, none⟩ v0).setCell ⟨b, 1, none⟩ v1).setCell ⟨b, 2, none⟩ v2).heap[b]? = some (.cells #[v0, v1, v2] T m) := by
  have h0 := set_get (j := 0) v0 h
  have h1 := set_get (j := 1) v1 h0
  have h2 := set_get (j := 2) v2 h1
  rw [h2]
  simp
theorem SPL_put {W : World} {B b : Nat} {V x0 x1 x2 : Value} {y : Int} {X : List (List UInt8 × List (List UInt8))} (h : W.heap[b]? = some (.cells #[x0, x1, x2] 26 (0, 0))) (hs : SPL W B V X) (hb : b < B) : (((W.setCell ⟨b, 0, none⟩ (.int .i64 y)).setCell ⟨b, 1, none⟩ V).setCell ⟨b, 2, none⟩ (.bool false)).heap[b]? = some (.cells #[.int .i64 y, V, .bool false] 26 (0, 0)) ∧ SPL (((W.setCell ⟨b, 0, none⟩ (.int .i64 y)).setCell ⟨b, 1, none⟩ V).setCell ⟨b, 2, none⟩ (.bool false)) 0 V X :=
  ⟨put3_get _ _ _ h, (hs.kept (gr3 _ _ _ _ _) hb).base (Nat.zero_le _)⟩
theorem num_le (b : Int) (l : List UInt8) (h : prE b l = 0) : (prB b l == 0) = false ∧ prB b l = b := by
  have h1 := prE_zero h
  have e : prB b l = b := by unfold prB; rw [if_pos h]
  refine ⟨?_, e⟩
  rw [e]
  simp
  omega
end Go.Proofs.YtekjbpemaohipaaGreatDoor
namespace Go.Proofs.YtekjbpemaohipaaGreatDoor
open Go.RowKit Go.Shelf
set_option maxRecDepth 100000 in
theorem eq_over (w : World) : (binOp BinOp.eql 20 (.iface 94 (.agg #[])) (.iface 94 (.agg #[]))).run Tryz.prog w = .ok (.bool true) w := by
  first | rfl | kernel_rfl | simp [go_sem]
set_option maxRecDepth 100000 in
theorem caught (b : Nat) (x : Int) (older : List PanicEntry) (w : World) (hc : w.cell? ⟨b, 0, none⟩ = some (.int .i64 x)) (hz : w.frozen? ⟨b, 0, none⟩ = false) :
    CallsD Tryz.prog 49 #[.pointer (some ⟨b, 0, none⟩)] (.panicking ({ v := .iface 94 (.agg #[]), recovered := false } :: older)) w fun e u' w' =>
      e = .returned (.tuple #[]) ∧ u' = .panicking ({ v := .iface 94 (.agg #[]), recovered := true } :: older) ∧ w' = w.setCell ⟨b, 0, none⟩ (.int .i64 3) := by
  refine callsD_of_wpS Tryz.func49 rfl fun c₀ cs hu => ?_
  apply wpS_seq
  apply wpS_region
  simp [wpOpsS, go_sem, recoverD, hu, Tryz.ntmps49, Exit.thenS]
  refine wpS_of_wp ?_
  have hE := eq_over
  go_wp2_with fail
  simp [bodyPostS, results, Tryz.results49]
set_option maxRecDepth 100000 in
theorem idle (b : Nat) (w : World) :
    CallsD Tryz.prog 49 #[.pointer (some ⟨b, 0, none⟩)] .returning w fun e u' w' => e = .returned (.tuple #[]) ∧ u' = .returning ∧ w' = w := by
  refine callsD_of_wpS Tryz.func49 rfl fun c₀ cs hu => ?_
  apply wpS_seq
  apply wpS_region
  simp [wpOpsS, go_sem, recoverD, hu, Tryz.ntmps49, Exit.thenS]
  refine wpS_of_wp ?_
  go_wp2_with fail
  cases c₀
  simp_all [bodyPostS, results, Tryz.results49]
end Go.Proofs.YtekjbpemaohipaaGreatDoor
namespace Go.Proofs.YtekjbpemaohipaaGreatDoor
end Go.Proofs.YtekjbpemaohipaaGreatDoor
namespace Go.Proofs.YtekjbpemaohipaaGreatDoor
open Go.RowKit Go.Shelf
theorem tes_len10 (L : List ZT) : (tes L).length = L.length * 10 := by
  induction L with
  | nil => rfl
  | cons z l ih =>
    have e : tes (z :: l) = z.cells ++ tes l := rfl
    rw [e, List.length_append, ih, List.length_cons]
    have : z.cells.length = 10 := rfl
    omega
theorem tes_one (L : List ZT) : ∀ v ∈ tes L, v.oneCell' = true := fun v hv => by
  obtain ⟨z, _, hz⟩ := List.mem_flatMap.1 hv
  simp only [ZT.cells, List.mem_cons, List.not_mem_nil, or_false] at hz
  rcases hz with rfl | rfl | rfl | rfl | rfl | rfl | rfl | rfl | rfl | rfl <;> rfl
end Go.Proofs.YtekjbpemaohipaaGreatDoor
namespace Go.Proofs.YtekjbpemaohipaaGreatDoor
open Go.RowKit Go.Shelf
/-- an operation that ends the region leaves nothing to walk -/
theorem dummyQ {X : Prop} {P : Program} {md : Region.Mode} {a : Act} {w : World} (hx : X) (_ : wpAny P md #[] (fun _ _ _ => True) 0 #[] a w) : X := hx
end Go.Proofs.YtekjbpemaohipaaGreatDoor
namespace Go.Proofs.YtekjbpemaohipaaGreatDoor
open Go.RowKit Go.Shelf
theorem res_sp2 {fn : Func} (tmps : Array Value) (W : World) (b : Nat) (v0 v1 v2 x : Value) {m : Nat × Nat} (hr : fn.results = #[.cell 4 26, .tmp 5]) (hp : tmps.getD 4 undef = .pointer (some ⟨b, 0, none⟩)) (hx : tmps.getD 5 undef = x) (h : W.heap[b]? = some (.cells #[v0, v1, v2] 26 m)) :
    (results fn tmps).run Tryz.prog W = .ok (.tuple #[.agg #[v0, v1, v2], x]) W := by
  have hc : ∀ j, W.cell? ⟨b, j, none⟩ = (#[v0, v1, v2] : Array Value)[j]? := by
    intro j; unfold World.cell?; rw [h]; simp
  have hp' : tmps[4]?.getD undef = .pointer (some ⟨b, 0, none⟩) := by simpa using hp
  have hx' : tmps[5]?.getD undef = x := by simpa using hx
  simp [results, hr, hp', hx', go_sem, hc]
theorem fits_any2 (b x : Int) (p : Option Addr) (n c : Nat) (w : World) : Calls Tryz.prog 25 #[.agg #[.int .i64 b, .slice p n c, .bool false], .int .i64 x] w fun e w' => e = .returned (.bool (!(b == 0) && (b == x))) ∧ Below w.heap.size w w' := by
  obtain ⟨w2, hw2⟩ : ∃ w2, w.alloc (.cells #[.int .i64 b, .slice p n c, .bool false] 26 (0, 0)) = w2 := ⟨_, rfl⟩
  have h0 : w2.heap[w.heap.size]? = some (.cells #[.int .i64 b, .slice p n c, .bool false] 26 (0, 0)) := by rw [← hw2]; exact alloc_get _ _
  have hB : Below w.heap.size w w2 := by rw [← hw2]; exact belA (Below.refl _ _) _
  obtain ⟨hc0, -⟩ := cells_block h0
  have HB : Hid (Below w.heap.size w w2) := hB
  clear h0 hB
  by_cases hz : b = 0
  · have m1 : (b != 0) = false := by simpa using hz
    have m2 : (b == 0) = true := by simpa using hz
    have HR : Hid ((!(b == 0) && (b == x)) = false) := by unfold Hid; rw [m2]; rfl
    clear hz m2
    go_enter Tryz.func25, Tryz.ntmps25
    go_wp2_with fail
    go_ret
    exact ⟨by rw [HR.out]; rfl, HB.out⟩
  · have m1 : (b != 0) = true := by simpa using hz
    have m2 : (b == 0) = false := by simpa using hz
    obtain ⟨q, hq⟩ : ∃ q, (b == x) = q := ⟨_, rfl⟩
    have HR : Hid ((!(b == 0) && (b == x)) = q) := by unfold Hid; rw [m2, hq]; rfl
    clear hz m2
    go_enter Tryz.func25, Tryz.ntmps25
    go_wp2_with fail
    go_ret
    exact ⟨by rw [HR.out]; rfl, HB.out⟩
def jnE (b b2 : Int) (A C : List (List UInt8 × List (List UInt8))) : Int := if (!(b == 0) && (b == b2)) = false then 11 else if szC (topC (A ++ C)) ≤ 128 then 0 else 3
def jnB (b b2 : Int) (A C : List (List UInt8 × List (List UInt8))) : Int := if jnE b b2 A C = 0 then b else 0
def jnT (b b2 : Int) (A C : List (List UInt8 × List (List UInt8))) : List (List UInt8 × List (List UInt8)) := if jnE b b2 A C = 0 then ordT (topC (A ++ C)) else []
end Go.Proofs.YtekjbpemaohipaaGreatDoor

import Derived.Test.YtpbbmmkhlpkkbaaGreatDoorXAU
import Derived.Test.YtpbbmmkhlpkkbaaGreatDoorXBD
import Derived.Test.YtpbbmmkhlpkkbaaGreatDoorXBB
import Derived.Test.YtpbbmmkhlpkkbaaGreatDoorXBC
import Derived.Test.YtpbbmmkhlpkkbaaGreatDoorXAP
namespace Go.Proofs.YtpbbmmkhlpkkbaaGreatDoor
open Go.RowKit
/-- a header is in one of the terms -/
def hsB (Ts : List (List UInt8 × List (List UInt8))) (h : List UInt8) : Bool := Ts.any (fun t => thB t.1 t.2 h)
theorem any_noV {α : Type} {L : List α} {p : α → Bool} {n : Nat} (hn : L.length ≤ n) (h : ∀ j t, j < n → L[j]? = some t → p t = false) : L.any p = false := by
  rw [List.any_eq_false]
  intro t ht
  obtain ⟨j, hj, he⟩ := List.getElem_of_mem ht
  rw [h j t (by omega) (by rw [List.getElem?_eq_getElem hj, he])]
  simp
set_option maxRecDepth 100000 in
set_option maxHeartbeats 4000000 in
theorem sHas_any (b : Int) (V : Value) (Ts : List (List UInt8 × List (List UInt8))) (B : Nat) (s : ByteArray) (w : World) (h : SPL w B V Ts) (hg : ∀ t ∈ Ts, good t.1 = true ∧ ∀ x ∈ t.2, good x = true) (hl : Ts.length ≤ 1000000) (hll : ∀ t ∈ Ts, t.2.length ≤ 1000000) (hs : s.size ≤ maxLen) : Calls Tryz.prog 9 #[.agg #[.int .i64 b, V, .bool false], .string s] w fun e w' => e = .returned (.bool (hsB Ts s.data.toList)) ∧ Below w.heap.size w w' := by
  obtain ⟨Z, rfl, h2, h3⟩ := h
  obtain ⟨p, c, rfl⟩ := shapeQ1 h2
  rw [List.length_map] at hl
  obtain ⟨w2, hw2⟩ : ∃ w2, w.alloc (.cells #[.int .i64 b, .slice p Z.length c, .bool false] 25 (0, 0)) = w2 := ⟨_, rfl⟩
  have h0 : w2.heap[w.heap.size]? = some (.cells #[.int .i64 b, .slice p Z.length c, .bool false] 25 (0, 0)) := by rw [← hw2]; exact alloc_get _ _
  have hB : Below w.heap.size w w2 := by rw [← hw2]; exact belA (Below.refl _ _) _
  obtain ⟨hc0, -⟩ := cells_block h0
  have HR : Hid (IRZ w p Z) := IRZ_own h2 rfl
  have HZ : Hid (∀ z ∈ Z, IRC w z.q z.L ∧ (good z.c = true ∧ ∀ x ∈ z.L, good x = true) ∧ z.L.length ≤ 1000000) := fun z hz => ⟨IRC_own (h3 z hz) rfl, hg z.cont (List.mem_map_of_mem (f := ZT.cont) hz), hll z.cont (List.mem_map_of_mem (f := ZT.cont) hz)⟩
  have HS : Hid (s.size ≤ maxLen) := hs
  obtain ⟨P, hP⟩ : ∃ P : ZT → Bool, (fun z => thB z.c z.L s.data.toList) = P := ⟨_, rfl⟩
  have HP : Hid (∀ z, P z = thB z.c z.L s.data.toList) := fun n => by rw [← hP]
  have HCV : Hid (hsB (Z.map ZT.cont) s.data.toList = Z.any P) := by
    unfold Hid hsB
    rw [List.any_map, ← hP]
    rfl
  have HBB : Hid (Below w.heap.size w w2) := hB
  obtain ⟨n, hn⟩ : ∃ n, Z.length = n := ⟨_, rfl⟩
  rw [hn] at hc0 hw2 hl ⊢
  have HN : Hid (Z.length = n) := hn
  clear h0 hB h2 h3 hg hll hs hP hn
  go_enter Tryz.func9, Tryz.ntmps9
  go_wp2_with fail
  clear hc0 hw2
  go_loopw [10] (fun vi wr => ∃ j : Nat, vi = .int .i64 j ∧ j ≤ n ∧ Hid (∀ i t, i < j → Z[i]? = some t → P t = false) ∧ Below w2.heap.size w2 wr) (fun vi _ => n - (intOf vi).toNat)
  case atStart => exact ⟨0, rfl, Nat.zero_le _, fun i t hi => by omega, Below.refl _ _⟩
  case round =>
    obtain ⟨j, rfl, hj, hok, hBj⟩ := hrel
    by_cases hlt : j < n
    · have j1 : (j : Int) < (n : Int) := by omega
      have j0 : (0 : Int) ≤ (j : Int) := by omega
      obtain ⟨z, hz⟩ : ∃ z, Z[j]? = some z := ⟨_, List.getElem?_eq_getElem (by rw [HN.out]; exact hlt)⟩
      obtain ⟨zc, zq, zk, zL⟩ := z
      obtain ⟨g, o0, rfl, p0, p1, p2, p3, p4, p5, p6, p7, p8, p9⟩ := HR.out wr (bel0 HBB.out hBj) j _ hz
      simp only at p0 p1 p2 p3 p4 p5 p6 p7 p8 p9
      have hZ := HZ.out _ (List.mem_of_getElem? hz)
      obtain ⟨wa, hwa⟩ : ∃ wa, wr.alloc (.cells #[.int .i64 (zc.length : Int), .int .u64 (FW zc 0 : Int), .int .u64 (FW zc 1 : Int), .int .u64 (FW zc 2 : Int), .int .u64 (FW zc 3 : Int), .int .u64 (OW zc 0 : Int), .int .u64 (OW zc 1 : Int), .int .u64 (OW zc 2 : Int), .int .u64 (OW zc 3 : Int), .slice zq zL.length zk] 60 (0, 0)) = wa := ⟨_, rfl⟩
      have hal : Below wr.heap.size wr wa := by rw [← hwa]; exact belA (Below.refl _ _) _
      have hgt : wa.heap[wr.heap.size]? = some (.cells #[.int .i64 (zc.length : Int), .int .u64 (FW zc 0 : Int), .int .u64 (FW zc 1 : Int), .int .u64 (FW zc 2 : Int), .int .u64 (FW zc 3 : Int), .int .u64 (OW zc 0 : Int), .int .u64 (OW zc 1 : Int), .int .u64 (OW zc 2 : Int), .int .u64 (OW zc 3 : Int), .slice zq zL.length zk] 60 (0, 0)) := by rw [← hwa]; exact alloc_get _ _
      obtain ⟨hct, -⟩ := cells_block hgt
      have hBa : Below w2.heap.size w2 wa := bel0 hBj hal
      have HT : Hid (Z[j]? = some ⟨zc, zq, zk, zL⟩) := hz
      obtain ⟨q, hq⟩ : ∃ q, thB zc zL s.data.toList = q := ⟨_, rfl⟩
      have HPt : Hid (P ⟨zc, zq, zk, zL⟩ = q) := by unfold Hid; rw [HP.out, hq]
      have H2 : Hid (Calls Tryz.prog 28 #[.agg #[.int .i64 (zc.length : Int), .int .u64 (FW zc 0 : Int), .int .u64 (FW zc 1 : Int), .int .u64 (FW zc 2 : Int), .int .u64 (FW zc 3 : Int), .int .u64 (OW zc 0 : Int), .int .u64 (OW zc 1 : Int), .int .u64 (OW zc 2 : Int), .int .u64 (OW zc 3 : Int), .slice zq zL.length zk], .string s] wa fun e w' => e = .returned (.bool q) ∧ Below wa.heap.size wa w') := by
        unfold Hid
        rw [← hq]
        exact thas_any zc zq zk zL s wa (hZ.1.later (bel0 HBB.out hBa)) hZ.2.1.1 hZ.2.1.2 hZ.2.2 HS.out
      clear hz hgt hal hq hZ
      cases q with
      | true =>
        have HX : Hid (Z.any P = true) := List.any_eq_true.2 ⟨_, List.mem_of_getElem? HT.out, HPt.out⟩
        go_wp2_with fail
        refine H2.out.mono ?_
        rintro e W5 ⟨rfl, hb5⟩
        clear hct hwa p0 p1 p2 p3 p4 p5 p6 p7 p8 p9
        go_wp2_with fail
        go_ret
        exact ⟨by rw [HCV.out, HX.out]; rfl, bel0 HBB.out (bel0 hBa hb5)⟩
      | false =>
        have HX : Hid (∀ i t, i < j + 1 → Z[i]? = some t → P t = false) := fun i v hi hv => by
          by_cases e : i = j
          · subst e
            rw [HT.out] at hv
            obtain rfl := Option.some.inj hv
            exact HPt.out
          · exact hok.out i v (by omega) hv
        go_wp2_with fail
        refine H2.out.mono ?_
        rintro e W5 ⟨rfl, hb5⟩
        clear hct hwa p0 p1 p2 p3 p4 p5 p6 p7 p8 p9
        go_wp2_with fail
        go_roundw
        case rel => exact ⟨j + 1, by go_num, by omega, HX, bel0 hBa hb5⟩
        case measure => simp [intOf]; omega
    · have j1 : ¬ (j : Int) < (n : Int) := by omega
      have HX : Hid (Z.any P = false) := any_noV (n := j) (by rw [HN.out]; omega) hok.out
      clear hok
      go_wp2_with fail
      go_ret
      exact ⟨by rw [HCV.out, HX.out]; rfl, bel0 HBB.out hBj⟩
end Go.Proofs.YtpbbmmkhlpkkbaaGreatDoor
namespace Go.Proofs.YtpbbmmkhlpkkbaaGreatDoor
open Go.RowKit Go.Shelf
def digB (d : UInt8) : Bool := d == 48 || d == 49
/-- a header of that width -/
def hdB (b : Int) (l : List UInt8) : Bool := ((l.length : Int) == b) && !(b == 0) && l.all digB
theorem dig_succ {s : ByteArray} {k : Nat} (hk : k < s.size) (h : ∀ j (h : j < s.data.toList.length), j < k → digB s.data.toList[j] = true) (c : s[k] = 48 ∨ s[k] = 49) : ∀ j (h : j < s.data.toList.length), j < k + 1 → digB s.data.toList[j] = true := by
  intro j hj hlt
  by_cases e : j < k
  · exact h j hj e
  · obtain rfl : j = k := by omega
    have e2 : s.data.toList[j] = s[j] := rfl
    rw [e2]
    unfold digB
    rcases c with c | c <;> rw [c] <;> rfl
end Go.Proofs.YtpbbmmkhlpkkbaaGreatDoor
namespace Go.Proofs.YtpbbmmkhlpkkbaaGreatDoor
open Go.RowKit Go.Shelf
/-- the document's: a header is in a term -/
def tdB (c : List UInt8) (L : List (List UInt8)) (h : List UInt8) : Bool := wiB h c && L.all (fun m => !wiB h m)
theorem good_hd {b : Int} {l : List UInt8} (h : hdB b l = true) (hb : b ≤ 256) : good l = true := by
  unfold hdB at h
  obtain ⟨h1, h2⟩ := Bool.and_eq_true_iff.1 h
  have h3 : (l.length : Int) = b := by simpa using (Bool.and_eq_true_iff.1 h1).1
  have h4 := List.all_eq_true.1 h2
  unfold good
  rw [Bool.and_eq_true, List.all_eq_true]
  refine ⟨by simp; omega, fun x hx => ?_⟩
  have h5 := h4 x hx
  unfold digB at h5
  unfold tri
  rcases Bool.or_eq_true_iff.1 h5 with h5 | h5 <;> rw [h5] <;> simp
end Go.Proofs.YtpbbmmkhlpkkbaaGreatDoor
namespace Go.Proofs.YtpbbmmkhlpkkbaaGreatDoor
open Go.RowKit Go.Shelf
/-- every term of what is read has its form, and its width -/
theorem prT_ft (b : Int) (l : List UInt8) : ∀ t ∈ prT b l, FTm t ∧ (t.1.length : Int) = b ∧ 1 ≤ b ∧ b ≤ 256 ∧ prE b l = 0 := fun t ht => by
  unfold prT at ht
  split at ht
  · rename_i h0
    obtain ⟨h1, h2, h3⟩ := prE_zero h0
    split at ht
    · cases ht
    · rename_i hn
      rcases h3 with h3 | h3
      · exact absurd h3 hn
      · obtain ⟨hf, y, hy, he⟩ := FTm_form (gdC_tcon h3) t ht
        refine ⟨hf, ?_, h1, h2, h0⟩
        obtain ⟨p, hp, rfl⟩ := List.mem_map.1 hy
        have h4 := List.all_eq_true.1 h3 p hp
        have hne := prts_ne 45 p
        have : (tcon p).1.length = b.toNat := by
          unfold tcon
          unfold okT at h4
          cases hc : prts 45 p with
          | nil => rw [hc] at hne; exact absurd hne (by simp)
          | cons c r =>
            rw [hc] at h4
            have h5 := List.all_eq_true.1 h4 c List.mem_cons_self
            unfold okP at h5
            simpa using (Bool.and_eq_true_iff.1 h5).2
        rw [← he, this]
        omega
  · cases ht
theorem okH_at {t h : List UInt8} {k : Nat} (hk : k < t.length) (hk2 : k < h.length) : okH t h k = ((h[k] == 48 || h[k] == 49) && (t[k] == 120 || t[k] == h[k])) := by
  unfold okH
  rw [List.getElem?_eq_getElem hk, List.getElem?_eq_getElem hk2]
theorem has_wi {t h : List UInt8} (hl : t.length = h.length) (hd : h.all digB = true) : hasB t h = wiB h t := by
  have hd' := List.all_eq_true.1 hd
  unfold hasB wiB fitB
  have e1 : t.isEmpty = h.isEmpty := by
    cases t <;> cases h <;> first | rfl | (simp at hl)
  rw [e1, hl, Bool.eq_iff_iff]
  simp only [Bool.and_eq_true, allTo_iff]
  refine and_congr (by simp) (forall_congr' fun k => forall_congr' fun hk => ?_)
  rw [okH_at (by omega) hk, List.getElem?_eq_getElem hk, List.getElem?_eq_getElem (show k < t.length by omega)]
  have h1 := hd' _ (List.getElem_mem hk)
  unfold digB at h1
  rw [h1, Bool.true_and]
  simp only [Bool.or_eq_true, beq_iff_eq]
  exact ⟨fun h => h.imp id Eq.symm, fun h => h.imp id Eq.symm⟩
theorem has_hd {b : Int} {t h : List UInt8} (hb : (t.length : Int) = b) (h1 : 1 ≤ b) (hh : hdB b h = false) : hasB t h = false := by
  cases hc : hasB t h with
  | false => rfl
  | true =>
    unfold hasB at hc
    obtain ⟨h2, h3⟩ := Bool.and_eq_true_iff.1 hc
    have h4 : t.length = h.length := by simpa using (Bool.and_eq_true_iff.1 h2).2
    have h5 := (allTo_iff _ _).1 h3
    have : hdB b h = true := by
      unfold hdB
      rw [← h4, show ((t.length : Int) == b) = true by simpa using hb, show (b == 0) = false by simp; omega]
      simp only [Bool.not_false, Bool.and_true, Bool.true_and]
      refine List.all_eq_true.2 (fun x hx => ?_)
      obtain ⟨k, hk, rfl⟩ := List.getElem_of_mem hx
      have h6 := h5 k (by omega)
      rw [okH_at (by omega) hk] at h6
      exact (Bool.and_eq_true_iff.1 h6).1
    rw [this] at hh
    cases hh
theorem any_congrB {α : Type} {L : List α} {p q : α → Bool} (h : ∀ t ∈ L, p t = q t) : L.any p = L.any q := by
  induction L with
  | nil => rfl
  | cons x l ih => rw [List.any_cons, List.any_cons, h x List.mem_cons_self, ih (fun t ht => h t (List.mem_cons_of_mem _ ht))]
theorem all_congrB {α : Type} {L : List α} {p q : α → Bool} (h : ∀ t ∈ L, p t = q t) : L.all p = L.all q := by
  induction L with
  | nil => rfl
  | cons x l ih => rw [List.all_cons, List.all_cons, h x List.mem_cons_self, ih (fun t ht => h t (List.mem_cons_of_mem _ ht))]
/-- the program's Has is the document's -/
theorem hs_eq (b : Int) (l h : List UInt8) : hsB (prT b l) h = (hdB (prB b l) h && (prT b l).any (fun t => tdB t.1 t.2 h)) := by
  have hF := prT_ft b l
  unfold hsB
  by_cases hX : prT b l = []
  · rw [hX]; simp
  · obtain ⟨t0, ht0⟩ : ∃ t, t ∈ prT b l := by
      cases hx : prT b l with
      | nil => exact absurd hx hX
      | cons t r => exact ⟨t, List.mem_cons_self⟩
    have e0 : prB b l = b := by unfold prB; rw [if_pos (hF t0 ht0).2.2.2.2]
    rw [e0]
    cases hh : hdB b h with
    | false =>
      rw [Bool.false_and, List.any_eq_false]
      intro t ht
      obtain ⟨hf, hl, h1, h2, -⟩ := hF t ht
      unfold thB
      rw [has_hd hl h1 hh]
      simp
    | true =>
      rw [Bool.true_and]
      refine any_congrB (fun t ht => ?_)
      obtain ⟨hf, hl, h1, h2, -⟩ := hF t ht
      have hd : h.all digB = true := (Bool.and_eq_true_iff.1 hh).2
      have hln : (h.length : Int) = b := by simpa using (Bool.and_eq_true_iff.1 (Bool.and_eq_true_iff.1 hh).1).1
      unfold thB tdB
      rw [has_wi (by omega) hd]
      congr 1
      refine all_congrB (fun m hm => ?_)
      have h3 := hf.wi m hm
      unfold wiB at h3
      have h4 := fitB_len (Bool.and_eq_true_iff.1 h3).1
      rw [has_wi (by omega) hd]
end Go.Proofs.YtpbbmmkhlpkkbaaGreatDoor
namespace Go.Proofs.YtpbbmmkhlpkkbaaGreatDoor
open Go.RowKit Go.Shelf
/-- the terms of a space, good, each of one width -/
def gdS (Ts : List (List UInt8 × List (List UInt8))) : Prop := ∀ t ∈ Ts, good t.1 = true ∧ gdW t.1.length t.2
theorem gdS_ft {Ts : List (List UInt8 × List (List UInt8))} (h : ∀ t ∈ Ts, FTm t) : gdS Ts := fun t ht => by
  have h0 := h t ht
  refine ⟨h0.gc, fun x hx => ⟨h0.gl x hx, ?_⟩⟩
  have h3 := h0.wi x hx
  rw [wiB_eq, Bool.and_eq_true] at h3
  have h4 := h3.1
  simp [fitB] at h4
  omega
theorem gdS_pr (b : Int) (l : List UInt8) : gdS (prT b l) := gdS_ft (fun t ht => (prT_ft b l t ht).1)
theorem TRC_spl {W : World} {B n cp : Nat} {p : Option Addr} {Z : List ZT} (h : W.ownsRow B 60 10 (.slice p n cp) n (tes Z)) (hn : Z.length = n) (hz : ZL W B Z) : TRC W (fun _ => False) none p Z := fun i z hzi => by
  obtain ⟨g, o0, e, c⟩ := IRZ_own h hn W (Below.refl _ _) i z hzi
  have hL := hz z (List.mem_of_getElem? hzi)
  refine ⟨g, o0, e, c, fun h => h, by simp, fun j t ht => ?_, ?_⟩
  · obtain ⟨g2, o2, e2, c2⟩ := IRC_own hL rfl W (Below.refl _ _) j t ht
    exact ⟨g2, o2, e2, c2, fun h => h, by simp⟩
  · rcases own_shapeQ hL with ⟨_, e2⟩ | ⟨g3, c3, e3, e4, -⟩
    · omega
    · injection e3 with _ _ e5
      omega
set_option maxRecDepth 100000 in
set_option maxHeartbeats 4000000 in
theorem sExpand_any (b lim : Int) (Ts : List (List UInt8 × List (List UInt8))) (B : Nat) (V : Value) (w : World) (h : SPL w B V Ts) (hs : szC Ts ≤ 128) (hg : gdS Ts) :
    Calls Tryz.prog 16 #[.agg #[.int .i64 b, V, .bool false], .int .i64 lim] w fun e w' => ∃ v, e = .returned (.tuple #[v, .int .i64 (xpE b lim Ts)]) ∧ w'.ownsRow w.heap.size 38 9 v (xpL b lim Ts).length (ces (xpL b lim Ts)) ∧ Below w.heap.size w w' := by
  obtain ⟨Z, rfl, hrow, hzl⟩ := h
  obtain ⟨p, cp, rfl⟩ := shapeQ1 hrow
  have hq1 := szC_len (Z.map ZT.cont)
  rw [List.length_map] at hq1
  obtain ⟨n, hn⟩ : ∃ n, Z.length = n := ⟨_, rfl⟩
  rw [hn] at hrow hq1 ⊢
  have hzg : ∀ z ∈ Z, good z.c = true ∧ gdW z.c.length z.L ∧ z.L.length ≤ 128 := fun z hz => by
    have hm := List.mem_map_of_mem (f := ZT.cont) hz
    have h1 := szC_mem z.cont hm
    have e : z.cont.2 = z.L := rfl
    rw [e] at h1
    obtain ⟨g1, g2⟩ := hg z.cont hm
    exact ⟨g1, g2, by omega⟩
  have ht := TRC_spl hrow hn hzl
  obtain ⟨w2, hw2⟩ : ∃ w2, (w.alloc (.cells #[.int .i64 b, .slice p n cp, .bool false] 25 (0, 0))).alloc (.cells #[.int .i64 lim] 3 (0, 0)) = w2 := ⟨_, rfl⟩
  have b1 : w2.heap[w.heap.size]? = some (.cells #[.int .i64 b, .slice p n cp, .bool false] 25 (0, 0)) := by rw [← hw2]; exact alw_0 _ _ _
  have b2 : w2.heap[w.heap.size + 1]? = some (.cells #[.int .i64 lim] 3 (0, 0)) := by rw [← hw2]; exact alw_1 _ _ _
  have hB2 : Below w.heap.size w w2 := by rw [← hw2]; exact belA (belA (Below.refl _ _) _) _
  have hc1 := (cells_block b1).1
  have hc2 : w2.cell? ⟨w.heap.size + 1, 0, none⟩ = some (.int .i64 lim) := (cells_block b2).1 0
  have hmf : ∀ (fn : Fn) (first cap : Array Value) (w : World), (Instr.makeFunc fn first cap).run Tryz.prog w = .ok (.func fn first cap) w := fun _ _ _ _ => rfl
  have HRF := refusal_any b lim p n cp w2
  obtain ⟨E, hE⟩ : ∃ E, rfE b lim = E := ⟨_, rfl⟩
  rw [hE] at HRF
  have HB : Hid (Below w.heap.size w w2) := hB2
  have hsz2 : w.heap.size ≤ w2.heap.size := hB2.size
  by_cases hE0 : E = 0
  · have hb0 : ¬ b = 0 := fun h => by unfold rfE at hE; rw [if_pos h] at hE; omega
    have hl0 : ¬ (lim < 0 ∨ 2048 < lim) := fun h => by unfold rfE at hE; rw [if_neg hb0, if_pos h] at hE; omega
    obtain ⟨M, rfl⟩ : ∃ M : Nat, lim = M := ⟨lim.toNat, by omega⟩
    have hM : M ≤ 2048 := by omega
    obtain ⟨R, ok, hxp, HG⟩ : ∃ (R : List (List UInt8)) (ok : Bool), (XPD b (M : Int) (Z.map ZT.cont) (if ok = true then 0 else 3) (if ok = true then R else [])) ∧ ∀ W, Below w2.heap.size w2 W → Calls Tryz.prog 48 #[.pointer (some ⟨w.heap.size, 0, none⟩), .pointer (some ⟨w.heap.size + 1, 0, none⟩)] W fun e w' => Below W.heap.size W w' ∧ ((ok = true ∧ ∃ v, e = .returned v ∧ w'.ownsRow W.heap.size 38 9 v R.length (ces R)) ∨ (ok = false ∧ e = .panicked [{ v := .iface 99 (.agg #[]), recovered := false }])) := by
      have H1 : ∀ W, Below w2.heap.size w2 W → _ := fun W hW => expand1_any inForm_any b Z n p cp w.heap.size (w.heap.size + 1) M W hn (by omega) hM (keepblk3 hW b1) (keepblk3 hW b2) (ht.ofW (bel0 hB2 hW) (fun k h => h.elim)) hzg
      cases hx : exE splT M [] (Z.map ZT.cont) with
      | none =>
        refine ⟨[], false, xpd_n hb0 hM hx, fun W hW => (H1 W hW).mono ?_⟩
        rintro e w' ⟨h1, ⟨R, v, h2, -⟩ | ⟨-, h3⟩⟩
        · rw [show exE splT M [] (Z.map ctZ) = none from hx] at h2
          cases h2
        · exact ⟨h1, .inr ⟨rfl, h3⟩⟩
      | some R =>
        refine ⟨R, true, xpd_s hb0 hM hx, fun W hW => (H1 W hW).mono ?_⟩
        rintro e w' ⟨h1, ⟨R', v, h2, h3, h4⟩ | ⟨h3, -⟩⟩
        · rw [show exE splT M [] (Z.map ctZ) = some R from hx] at h2
          injection h2 with h2
          subst h2
          exact ⟨h1, .inl ⟨rfl, v, h3, h4⟩⟩
        · rw [show exE splT M [] (Z.map ctZ) = some R from hx] at h3
          cases h3
    rw [← hxp.1, ← hxp.2]
    have HGV : Hid (∀ W, Below w2.heap.size w2 W → Calls Tryz.prog 47 #[.func (.func 48) #[] #[.pointer (some ⟨w.heap.size, 0, none⟩), .pointer (some ⟨w.heap.size + 1, 0, none⟩)]] W fun e w' => ∃ v, e = .returned (.tuple #[v, .int .i64 (if ok = true then 0 else 3)]) ∧ w'.ownsRow W.heap.size 38 9 v (if ok = true then R else []).length (ces (if ok = true then R else [])) ∧ Below W.heap.size W w') := fun W hW => giveC R ok _ _ W (fun X hX => HG X (bel0 hW hX))
    obtain ⟨EE, hEE⟩ : ∃ E : Int, (if ok = true then 0 else 3) = E := ⟨_, rfl⟩
    obtain ⟨LL, hLL⟩ : ∃ E, (if ok = true then R else []) = E := ⟨_, rfl⟩
    rw [hEE, hLL] at HGV ⊢
    subst hE0
    clear hE hb0 hl0 HG hxp hEE hLL b1 b2 ht hzg hrow hzl hg hs hB2 hn hq1
    go_enter Tryz.func16, Tryz.ntmps16
    go_wp2_with fail
    refine HRF.mono ?_
    rintro e w3 ⟨rfl, hb3⟩
    clear HRF hc1 hc2 hw2
    have HB3 : Hid (Below w2.heap.size w2 w3) := hb3
    clear hb3
    go_wp2_with fail
    refine (HGV.out w3 HB3.out).mono ?_
    rintro e w4 ⟨v, rfl, o4, hb4⟩
    obtain ⟨p4, c4, rfl⟩ := shapeQ1 o4
    have hs3 := HB3.out.size
    have HZ : Hid (w4.ownsRow w.heap.size 38 9 (.slice p4 LL.length c4) LL.length (ces LL) ∧ Below w.heap.size w w4) := ⟨own_base o4 (by omega), bel0 HB.out (bel0 HB3.out hb4)⟩
    clear o4 hb4
    go_wp2_with fail
    go_ret2
    exact ⟨_, rfl, HZ.out.1, HZ.out.2⟩
  · have hxp : XPD b lim (Z.map ZT.cont) E [] := by
      unfold rfE at hE
      split at hE
      · rename_i h1
        subst h1
        rw [← hE]
        exact xpd_w _ _
      · rename_i h1
        split at hE
        · rename_i h2
          rw [← hE]
          exact xpd_a _ h1 h2
        · omega
    rw [← hxp.1, ← hxp.2]
    have e0 : (E != 0) = true := by rw [bne_iff_ne]; exact hE0
    clear hE hxp b1 b2 ht hzg hrow hzl hg hs hB2 hn hq1 hE0
    go_enter Tryz.func16, Tryz.ntmps16
    go_wp2_with fail
    refine HRF.mono ?_
    rintro e w3 ⟨rfl, hb3⟩
    have HZ : Hid (Below w.heap.size w w3) := bel0 HB.out hb3
    clear HRF hc1 hc2 hw2 hb3
    go_wp2_with fail
    go_ret2
    exact ⟨_, rfl, World.ownsRow_nil _ _ _ _, HZ.out⟩
end Go.Proofs.YtpbbmmkhlpkkbaaGreatDoor
namespace Go.Proofs.YtpbbmmkhlpkkbaaGreatDoor
open Go.RowKit Go.Shelf
/-- example 1 -/
def awT : List UInt8 := [49, 48, 120, 120, 45, 49, 49, 49, 49, 45, 49, 48, 49, 120, 45, 49, 48, 49, 48, 43, 48, 120, 120, 120, 45, 49, 120, 120, 120]
theorem aw1 : stl [([49, 48, 120, 120], [[49, 49, 49, 49], [49, 48, 49, 120], [49, 48, 49, 48]]), ([48, 120, 120, 120], [[49, 120, 120, 120]])] = [([49, 48, 120, 120], [[49, 48, 49, 120]]), ([48, 120, 120, 120], [])] := by decide +kernel
theorem aw2 : topC [([49, 48, 120, 120], [[49, 48, 49, 120]]), ([48, 120, 120, 120], [])] = [([49, 48, 120, 120], [[49, 48, 49, 120]]), ([48, 120, 120, 120], [])] := by decide +kernel
theorem aw3 : ordT [([49, 48, 120, 120], [[49, 48, 49, 120]]), ([48, 120, 120, 120], [])] = [([48, 120, 120, 120], []), ([49, 48, 120, 120], [[49, 48, 49, 120]])] := by
  have h : ¬ leLn [[49, 48, 120, 120], [49, 48, 49, 120]] [[48, 120, 120, 120]] = true := by decide +kernel
  unfold ordT srtLn
  simp [srtT, List.mergeSort, h]
set_option maxRecDepth 100000 in
theorem aw5 : prE 4 awT = 0 := by decide +kernel
set_option maxRecDepth 100000 in
theorem aw6 : (prts 43 awT).map tcon = [([49, 48, 120, 120], [[49, 49, 49, 49], [49, 48, 49, 120], [49, 48, 49, 48]]), ([48, 120, 120, 120], [[49, 120, 120, 120]])] := by decide +kernel
theorem aw7 : prT 4 awT = [([48, 120, 120, 120], []), ([49, 48, 120, 120], [[49, 48, 49, 120]])] := by
  unfold prT
  rw [if_pos aw5, if_neg (by decide), aw6, aw1, aw2, aw3]
theorem aw_ok : prE 4 awT = 0 ∧ txC (prT 4 awT) = [48, 120, 120, 120, 43, 49, 48, 120, 120, 45, 49, 48, 49, 120] ∧ szC (prT 4 awT) = 3 := by
  rw [aw7]
  exact ⟨aw5, by decide +kernel, by decide +kernel⟩
set_option maxRecDepth 100000 in
set_option maxHeartbeats 4000000 in
theorem awake_any (w : World) : Calls Tryz.prog 4 #[] w fun e w' => e = .returned (.bool true) ∧ Below w.heap.size w w' := by
  obtain ⟨a1, a2, a3⟩ := aw_ok
  have ok := prT_ok 4 awT
  have hB : prB 4 awT = 4 := by unfold prB; rw [if_pos a1]
  obtain ⟨X, hX⟩ : ∃ X, prT 4 awT = X := ⟨_, rfl⟩
  have HP : Hid (Calls Tryz.prog 5 #[.int .i64 4, .string ⟨#[49, 48, 120, 120, 45, 49, 49, 49, 49, 45, 49, 48, 49, 120, 45, 49, 48, 49, 48, 43, 48, 120, 120, 120, 45, 49, 120, 120, 120]⟩] w fun e w' => ∃ V, e = .returned (.tuple #[.agg #[.int .i64 4, V, .bool false], .int .i64 0]) ∧ SPL w' w.heap.size V X ∧ Below w.heap.size w w') := by
    have h := sParse_any 4 awT w (by unfold maxLen awT; decide)
    unfold PRS at h
    rw [hB, a1, hX] at h
    exact h
  rw [hX] at a2 a3 ok
  have HT : Hid (∀ (W : World) (V : Value) (B : Nat), SPL W B V X → Calls Tryz.prog 7 #[.agg #[.int .i64 4, V, .bool false]] W fun e w' => e = .returned (.string ⟨#[48, 120, 120, 120, 43, 49, 48, 120, 120, 45, 49, 48, 49, 120]⟩) ∧ Below W.heap.size W w') := fun W V B h => by
    have h1 := spText_any 4 V X B W h ok.2 ok.1
    rw [a2] at h1
    exact h1
  have HS : Hid (∀ (W : World) (V : Value) (B : Nat), SPL W B V X → Calls Tryz.prog 8 #[.agg #[.int .i64 4, V, .bool false]] W fun e w' => e = .returned (.int .i64 3) ∧ Below W.heap.size W w') := fun W V B h => by
    have h1 := spSize_any 4 V X B W h ok.2
    rw [a3] at h1
    exact h1
  clear a1 a2 a3 ok hB hX
  obtain ⟨n, hn⟩ : ∃ n, X.length = n := ⟨_, rfl⟩
  go_enter Tryz.func4, Tryz.ntmps4
  go_wp2_with fail
  refine HP.out.mono ?_
  rintro e w1 ⟨V, rfl, sv, hb1⟩
  obtain ⟨p, c, rfl⟩ := sv.shape
  rw [hn] at sv ⊢
  have HF : Hid (∀ W, Below (w1.alloc (.cells #[.int .i64 4, .slice p n c, .bool false] 25 (0, 0))).heap.size (w1.alloc (.cells #[.int .i64 4, .slice p n c, .bool false] 25 (0, 0))) W → (∀ j, W.cell? ⟨w1.heap.size, j, none⟩ = (#[.int .i64 4, .slice p n c, .bool false] : Array Value)[j]?) ∧ SPL W w.heap.size (.slice p n c) X ∧ Below w.heap.size w W) := fun W hW => by
    have h1 : Below w1.heap.size w1 W := bel0 (belA (Below.refl _ _) _) hW
    exact ⟨(cells_block (keepblk3 hW (alloc_get _ _))).1, sv.below h1, bel0 hb1 h1⟩
  obtain ⟨f1, g1, -⟩ := HF.out _ (Below.refl _ _)
  clear sv hb1 HP
  go_wp2_with fail
  refine (HT.out _ _ _ g1).mono ?_
  rintro e w2 ⟨rfl, hb2⟩
  obtain ⟨f2, g2, -⟩ := HF.out w2 hb2
  clear f1 g1
  go_wp2_with fail
  refine (HS.out _ _ _ g2).mono ?_
  rintro e w3 ⟨rfl, hb3⟩
  have hb3' := bel0 hb2 hb3
  obtain ⟨f3, g3, -⟩ := HF.out w3 hb3'
  clear f2 g2 hb2 hb3
  go_wp2_with fail
  refine (bits_any 4 p n c _).mono ?_
  rintro e w4 ⟨rfl, hb4⟩
  clear f3 g3
  go_wp2_with fail
  go_ret
  exact ⟨rfl, (HF.out w4 (bel0 hb3' hb4)).2.2⟩
end Go.Proofs.YtpbbmmkhlpkkbaaGreatDoor

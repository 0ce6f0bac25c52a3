import Derived.Test.YtfbmagnfgnebdaaGreatDoorYBP
import Derived.Test.YtfbmagnfgnebdaaGreatDoorYBO
namespace Go.Proofs.YtfbmagnfgnebdaaGreatDoor
open Go.RowKit Go.Shelf
theorem valF_snoc {Y : List UInt8} {j : Nat} {c : UInt8} (h : Y[j]? = some c) : valF 0 (Y.take (j + 1)) = 2 * valF 0 (Y.take j) + (if c = 49 then 1 else 0) := by
  rw [List.take_add_one, h, Option.toList_some, valF_app]
  rfl
theorem valF_32 {Y : List UInt8} (h : Y.length ≤ 32) : valF 0 Y ≤ 4294967296 :=
  Nat.le_trans (Nat.le_of_lt (valF_lt Y)) (show 2 ^ Y.length ≤ 2 ^ 32 from Nat.pow_le_pow_right (by decide) h)
theorem sub_getK {s : List UInt8} {p b j : Nat} (hj : j < b) : (subL s p (p + b))[j]? = s[p + j]? := by
  unfold subL
  rw [Nat.add_sub_cancel_left, List.getElem?_take_of_lt hj, List.getElem?_drop]
set_option maxRecDepth 100000 in
set_option maxHeartbeats 4000000 in
theorem lvalue_any (L : List IFld) (o : Option Addr) (c k : Nat) (x : List UInt8) (b p : Nat) (s : List UInt8) (w : World) (hL : L.length ≤ 12) (hfk : L[k]? = some (x, (b : Int))) (hp : sumB (L.take k) = (p : Int)) (hb : b ≤ 32) (hpb : p + b ≤ s.length) (hs : s.length ≤ 400) (hd : s.all dg01 = true) (hb0 : ∀ f ∈ L, 0 ≤ f.2 ∧ f.2 ≤ 32) (hr : IRF w o L) :
    Calls Tryz.prog 14 #[.slice o L.length c, .int .i64 k, .string ⟨s.toArray⟩] w fun e w' => e = .returned (.int .i64 (valF 0 (subL s p (p + b)) : Int)) ∧ w' = w := by
  have hkL : k < L.length := (List.getElem?_eq_some_iff.1 hfk).1
  obtain ⟨g, o0, rfl, -, z0⟩ := hr w (Below.refl _ _) k _ hfk
  have XF : Hid (∀ (j : Nat) (f : IFld), L[j]? = some f → w.cell? ⟨g, o0 + j * 2 + 1, none⟩ = some (.int .i64 f.2)) := fun j f hf => by
    obtain ⟨g3, q3, h1, -, h2⟩ := hr w (Below.refl _ _) j f hf
    injection h1 with h1
    injection h1 with h1 h4
    subst h1 h4
    exact h2
  obtain ⟨Y, hY⟩ : ∃ Y, subL s p (p + b) = Y := ⟨_, rfl⟩
  have hYl : Y.length = b := by rw [← hY]; unfold subL; rw [List.length_take, List.length_drop]; omega
  have HYG : Hid (∀ j, j < b → Y[j]? = s[p + j]?) := fun j hj => by rw [← hY]; exact sub_getK hj
  have HB0 : Hid (∀ f ∈ L, 0 ≤ f.2 ∧ f.2 ≤ 32) := hb0
  have HP : Hid (sumB (L.take k) = (p : Int)) := hp
  have HD : Hid (s.all dg01 = true) := hd
  have HYL : Hid (Y.length = b) := hYl
  rw [hY]
  clear hr hfk hY hb0 hp hd hYl
  go_enter Tryz.func14, Tryz.ntmps14
  go_wp2_with fail
  go_loopw [7, 8] (fun v vj wr => ∃ (j q : Nat), vj = .int .i64 j ∧ j ≤ k ∧ v = .int .i64 q ∧ Hid (sumB (L.take j) = (q : Int)) ∧ wr = w) (fun _ vj _ => k - (intOf vj).toNat)
  case atStart => exact ⟨0, 0, rfl, Nat.zero_le _, rfl, rfl, rfl⟩
  case round =>
    obtain ⟨j, q, rfl, hj, rfl, hq, rfl⟩ := hrel
    by_cases hjk : j < k
    · have q1 : (j : Int) < (k : Int) := by omega
      have q0 : (0 : Int) ≤ (j : Int) := by omega
      have q2 : (j : Int) < (L.length : Int) := by omega
      obtain ⟨f, hf⟩ : ∃ f, L[j]? = some f := ⟨_, List.getElem?_eq_getElem (by omega)⟩
      have z1 := XF.out j f hf
      have hfb := HB0.out f (List.mem_of_getElem? hf)
      have hst := sumB_take hf
      rw [hq.out] at hst
      have hle := (sumB_bound (L.take j) (fun f hf => HB0.out f (List.mem_of_mem_take hf))).2
      rw [hq.out, List.length_take] at hle
      obtain ⟨x1, bi⟩ := f
      obtain ⟨b1, rfl⟩ : ∃ b : Nat, bi = (b : Int) := ⟨bi.toNat, by simp only at hfb; omega⟩
      simp only at hfb hst z1
      have HST : Hid (sumB (L.take (j + 1)) = ((q + b1 : Nat) : Int)) := by unfold Hid; rw [hst]; omega
      have e1 : IntKind.i64.wrap ((q : Int) + (b1 : Int)) = ((q + b1 : Nat) : Int) := by rw [IntKind.wrap_i64]; omega
      clear hf hst hq hle
      go_wp2_with fail
      go_roundw
      case rel => exact ⟨j + 1, q + b1, by go_num, by omega, by go_num, HST, by first | rfl | trivial⟩
      case measure => simp [intOf]; omega
    · have q1 : ¬ (j : Int) < (k : Int) := by omega
      obtain rfl : j = k := by omega
      obtain rfl : q = p := by have h1 := hq.out; rw [HP.out] at h1; omega
      have q0 : (0 : Int) ≤ (j : Int) := by omega
      have q2 : (j : Int) < (L.length : Int) := by omega
      clear hq
      go_wp2_with fail
      go_loopw [9, 10] (fun v vj wi => ∃ (i u : Nat), vj = .int .i64 i ∧ i ≤ b ∧ v = .int .i64 u ∧ Hid (valF 0 (Y.take i) = u) ∧ wi = wr) (fun _ vj _ => b - (intOf vj).toNat)
      case atStart => exact ⟨0, 0, rfl, Nat.zero_le _, rfl, rfl, rfl⟩
      case round =>
        obtain ⟨i, u, rfl, hi, rfl, hu, rfl⟩ := hrel
        by_cases hib : i < b
        · have r1 : (i : Int) < (b : Int) := by omega
          have r0 : (0 : Int) ≤ (q : Int) + (i : Int) := by omega
          have r2 : (q : Int) + (i : Int) < (s.length : Int) := by omega
          obtain ⟨m, hm⟩ : ∃ m, q + i = m := ⟨_, rfl⟩
          have e0 : IntKind.i64.wrap ((q : Int) + (i : Int)) = (m : Int) := by rw [IntKind.wrap_i64]; omega
          have r3 : (0 : Int) ≤ (m : Int) := by omega
          have r4 : (m : Int) < (s.length : Int) := by omega
          obtain ⟨d, hdd, hld⟩ := byte_get s m (by omega)
          have hYi : Y[i]? = some d := by rw [HYG.out i hib, hm]; exact hld
          have hsn := valF_snoc hYi
          rw [hu.out] at hsn
          have hd1 : dg01 d = true := List.all_eq_true.1 HD.out d (List.mem_of_getElem? hld)
          have hub : u ≤ 4294967296 := by rw [← hu.out]; exact valF_32 (by rw [List.length_take, HYL.out]; omega)
          have e1 : IntKind.i64.wrap (2 * (u : Int)) = 2 * (u : Int) := by rw [IntKind.wrap_i64]; omega
          have e2 : IntKind.i64.wrap (2 * (u : Int) + 1) = 2 * (u : Int) + 1 := by rw [IntKind.wrap_i64]; omega
          have e3 : IntKind.i64.wrap (2 * (u : Int) + 0) = 2 * (u : Int) + 0 := by rw [IntKind.wrap_i64]; omega
          rcases (show d = 48 ∨ d = 49 by revert hd1; revert d; unfold dg01; simp) with rfl | rfl
          · have HSN : Hid (valF 0 (Y.take (i + 1)) = 2 * u + 0) := hsn
            clear hsn hYi hld hu hd1 hm
            go_wp2_with fail
            go_roundw
            case rel => exact ⟨i + 1, 2 * u + 0, by go_num, by omega, by go_num, HSN, by first | rfl | trivial⟩
            case measure => simp [intOf]; omega
          · have HSN : Hid (valF 0 (Y.take (i + 1)) = 2 * u + 1) := hsn
            clear hsn hYi hld hu hd1 hm
            go_wp2_with fail
            go_roundw
            case rel => exact ⟨i + 1, 2 * u + 1, by go_num, by omega, by go_num, HSN, by first | rfl | trivial⟩
            case measure => simp [intOf]; omega
        · have r1 : ¬ (i : Int) < (b : Int) := by omega
          have hY : valF 0 Y = u := by rw [← hu.out, List.take_of_length_le (by rw [HYL.out]; omega)]
          have HY : Hid (valF 0 Y = u) := hY
          clear hu hY
          go_wp2_with fail
          go_ret
          exact ⟨by rw [HY.out]; rfl, rfl⟩
end Go.Proofs.YtfbmagnfgnebdaaGreatDoor
namespace Go.Proofs.YtfbmagnfgnebdaaGreatDoor
open Go.RowKit Go.Shelf
/-- what a test's form says of a value -/
def isM (b : Nat) (t : TS) (v : Nat) : Bool := if t.form = 1 then decide ((v : Int) = t.lo) else if t.form = 2 then decide (v / 2 ^ (b - t.len.toNat) = t.lo.toNat / 2 ^ (b - t.len.toNat)) else if t.form = 3 then decide (t.lo ≤ (v : Int) ∧ (v : Int) ≤ t.hi) else hasT t.pat (digL b v 0)
/-- whether a test holds for a value -/
def holdsM (b : Nat) (t : TS) (v : Nat) : Bool := if t.op = 1 then isM b t v else if t.op = 2 then !isM b t v else if t.op = 3 then decide ((v : Int) < t.lo) else if t.op = 4 then decide ((v : Int) ≤ t.lo) else if t.op = 5 then decide (t.lo < (v : Int)) else decide (t.lo ≤ (v : Int))
theorem div_eq {f lo v : Nat} (h : lo % 2 ^ f = 0) : (lo ≤ v ∧ v < lo + 2 ^ f) ↔ v / 2 ^ f = lo / 2 ^ f := by
  have hp : 0 < 2 ^ f := Nat.pow_pos (by decide)
  obtain ⟨q, rfl⟩ := Nat.dvd_of_mod_eq_zero h
  rw [Nat.mul_div_cancel_left _ hp]
  obtain ⟨P, hP⟩ : ∃ P, 2 ^ f = P := ⟨_, rfl⟩
  rw [hP] at hp ⊢
  constructor
  · intro ⟨h1, h2⟩
    have h3 : q ≤ v / P := (Nat.le_div_iff_mul_le hp).2 (by rw [Nat.mul_comm]; exact h1)
    have h4 : v / P < q + 1 := (Nat.div_lt_iff_lt_mul hp).2 (by rw [Nat.add_mul, Nat.one_mul, Nat.mul_comm q]; exact h2)
    omega
  · intro e
    have h1 := Nat.div_add_mod v P
    have h2 := Nat.mod_lt v hp
    rw [e] at h1
    omega
theorem has_one {b : Nat} {t : TS} {v : Nat} (h : TOK b t) (h3 : t.form ≠ 3) (hv : v < 2 ^ b) : hasT (oneM b t) (digL b v 0) = isM b t v := by
  have hp0 : 0 < 2 ^ b := Nat.pow_pos (by decide)
  have ht := of_decide_eq_true h.tst
  obtain ⟨-, k2, k3, k4, k5, k6, k7, k8, -, -⟩ := h
  obtain ⟨t1, t2, t3, t4, -⟩ := ht
  have hlt : t.lo.toNat < 2 ^ b := by omega
  unfold oneM isM
  by_cases f4 : t.form = 4
  · rw [if_pos f4, if_neg (by omega), if_neg (by omega), if_neg (by omega)]
  · rw [if_neg f4]
    by_cases f2 : t.form = 2
    · rw [if_pos f2, if_neg (by omega), if_pos f2, has_dig (Nat.sub_le _ _) (Nat.dvd_of_mod_eq_zero (k8 f2)) hlt hv]
      exact decide_eq_decide.2 (div_eq (k8 f2))
    · rw [if_neg f2, if_pos (by omega), has_dig (Nat.zero_le _) (by rw [Nat.pow_zero]; exact Nat.one_dvd _) hlt hv]
      refine decide_eq_decide.2 ?_
      rw [Nat.pow_zero]
      omega
theorem cnt_one (c h : List UInt8) : cntT [c] h = if hasT c h = true then 1 else 0 := by
  unfold cntT
  rw [List.filter_cons]
  split <;> rfl
/-- the cubes of a test: a header is in just one of them if the test holds for its value -/
theorem cnt_pie {b : Nat} {t : TS} {v : Nat} (hb : b ≤ 32) (h : TOK b t) (hv : v < 2 ^ b) : cntT (pieM b t) (digL b v 0) = if holdsM b t v = true then 1 else 0 := by
  have hp0 : 0 < 2 ^ b := Nat.pow_pos (by decide)
  have hone := fun h3 : t.form ≠ 3 => has_one h h3 hv
  have hgood := one_good hb h
  have htri : (oneM b t).all Tn.tri = true := by have := hgood.2; unfold Tn.good at this; simp only [Bool.and_eq_true] at this; exact this.2
  have hdl : (digL b v 0).length = b := digL_len _ _ _ (Nat.zero_le _)
  have ht := of_decide_eq_true h.tst
  obtain ⟨-, k2, k3, k4, k5, -, -, -, k9, -⟩ := h
  obtain ⟨t1, t2, t3, t4, t5, -⟩ := ht
  have hif : ∀ (C : Prop) [Decidable C] (D : Bool), (C ↔ D = true) → (if C then 1 else 0 : Nat) = if D = true then 1 else 0 := fun C _ D h => by
    by_cases c : C
    · rw [if_pos c, if_pos (h.1 c)]
    · rw [if_neg c, if_neg (fun e => c (h.2 e))]
  unfold pieM othM
  by_cases p4 : t.op = 4
  · have hh : holdsM b t v = decide ((v : Int) ≤ t.lo) := by simp [holdsM, p4]
    rw [if_pos p4, cnt_covI hb (by omega) (by omega) hv, hh]
    refine hif _ _ ?_
    rw [decide_eq_true_eq]
    omega
  rw [if_neg p4]
  by_cases p3 : t.op = 3
  · have hh : holdsM b t v = decide ((v : Int) < t.lo) := by simp [holdsM, p3]
    rw [if_pos p3, cnt_covI hb (by omega) (by omega) hv, hh]
    refine hif _ _ ?_
    rw [decide_eq_true_eq]
    omega
  rw [if_neg p3]
  by_cases p6 : t.op = 6
  · have hh : holdsM b t v = decide (t.lo ≤ (v : Int)) := by simp [holdsM, p6]
    rw [if_pos p6, cnt_covI hb (by omega) (by omega) hv, hh]
    refine hif _ _ ?_
    rw [decide_eq_true_eq]
    omega
  rw [if_neg p6]
  by_cases p5 : t.op = 5
  · have hh : holdsM b t v = decide (t.lo < (v : Int)) := by simp [holdsM, p5]
    rw [if_pos p5, cnt_covI hb (by omega) (by omega) hv, hh]
    refine hif _ _ ?_
    rw [decide_eq_true_eq]
    omega
  rw [if_neg p5]
  have his : t.form = 3 → isM b t v = decide (t.lo ≤ (v : Int) ∧ (v : Int) ≤ t.hi) := fun f3 => by unfold isM; rw [if_neg (by omega), if_neg (by omega), if_pos f3]
  by_cases p2 : t.op = 2
  · have hh : holdsM b t v = !isM b t v := by simp [holdsM, p2]
    rw [if_pos p2, hh]
    by_cases f3 : t.form = 3
    · have h9 := k9 f3
      rw [if_pos f3, cntT_app, cnt_covI hb (by omega) (by omega) hv, cnt_covI hb (by omega) (by omega) hv, his f3]
      by_cases c : t.lo ≤ (v : Int) ∧ (v : Int) ≤ t.hi
      · rw [decide_eq_true c, if_neg (by omega), if_neg (by omega)]
        rfl
      · rw [decide_eq_false c]
        by_cases d : (v : Int) < t.lo
        · rw [if_pos (by omega), if_neg (by omega)]
          rfl
        · rw [if_neg (by omega), if_pos (by omega)]
          rfl
    · rw [if_neg f3, cnt_splX hgood.1 hdl htri (digL_01 _ _), hone f3]
      cases isM b t v <;> rfl
  rw [if_neg p2]
  have p1 : t.op = 1 := by omega
  have hh : holdsM b t v = isM b t v := by simp [holdsM, p1]
  rw [hh]
  by_cases f3 : t.form = 3
  · rw [if_pos f3, cnt_covI hb (by omega) (by omega) hv, his f3]
    refine hif _ _ ?_
    rw [decide_eq_true_eq]
  · rw [if_neg f3, cnt_one, hone f3]
theorem flt_of {b : Nat} {t : TS} (h : TOK b t) : fltM b t = 0 := by
  obtain ⟨k1, k2, k3, k4, k5, k6, k7, k8, k9, k10⟩ := h
  unfold fltM
  rw [if_neg (by rw [k1]; decide), if_neg (fun hn => hn ⟨k2, k3, k4, k5, k6, k7⟩), if_neg (fun hn => hn.2 (k8 hn.1)), if_neg (fun hn => by have := k9 hn.1; omega), if_neg (fun hn => by rw [k10 hn.1] at hn; exact absurd hn.2 (by decide))]
/-- what Cubes answers of a right test, and how many of them have a header -/
theorem cb_holds {L : List IFld} {t : TS} {k b p n : Nat} {G : List UInt8} (hc : chkM L = (0, 0)) (hn : (L.map (·.1)).Nodup) (hf : L[k]? = some (t.f, (b : Int))) (hb : b ≤ 32) (h : TOK b t) (hp : sumB (L.take k) = (p : Int)) (hs : sumB L = (n : Int)) (hpb : p + b ≤ n) (hG : G.length = n) (h01 : G.all dg01 = true) :
    ∃ C : List (List UInt8), cbM L t = (C, 0) ∧ (∀ x ∈ C, x.length = n) ∧ C.length ≤ 8589934592 ∧ cntT C G = if holdsM b t (valF 0 (subL G p (p + b))) = true then 1 else 0 := by
  refine ⟨(pieM b t).map (putL (List.replicate n 120) p), ?_, ?_, ?_, ?_⟩
  · unfold cbM
    have hi := idxF_at hn hf
    simp only at hi
    have hgd : L.getD k ([], 0) = (t.f, (b : Int)) := by simp [List.getD, hf]
    rw [if_neg (by rw [hc]; exact fun h => h rfl), hi, if_neg (by omega), Int.toNat_natCast, hgd, if_neg (by simp only [Int.toNat_natCast]; rw [flt_of h]; exact fun h => h rfl), hp, hs]
    rfl
  · intro x hx
    obtain ⟨y, hy, rfl⟩ := List.mem_map.1 hx
    have hyl := pie_w hb h y hy
    rw [put_h hyl hpb, List.length_append, List.length_append, List.length_replicate, List.length_replicate]
    omega
  · rw [List.length_map]
    exact pie_len hb h
  · have hsl : (subL G p (p + b)).length = b := by
      unfold subL
      rw [List.length_take, List.length_drop]
      omega
    have hs01 : (subL G p (p + b)).all dg01 = true := sub_all h01
    have hd := digL_valF hs01
    rw [hsl] at hd
    have hlt := valF_lt (subL G p (p + b))
    rw [hsl] at hlt
    rw [cntT_put hpb hG _ (pie_w hb h)]
    conv => lhs; rw [← hd]
    exact cnt_pie hb h hlt
end Go.Proofs.YtfbmagnfgnebdaaGreatDoor

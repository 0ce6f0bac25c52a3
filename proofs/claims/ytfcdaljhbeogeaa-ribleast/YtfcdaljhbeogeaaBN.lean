import Derived.Test.YtfcdaljhbeogeaaBM
namespace Go.Proofs.Ytfcdaljhbeogeaa
open Go.RowKit
theorem set_nv (V : List Nat) (i y : Nat) : (V.map nv).set i (.int .i64 (y : Int)) = (V.set i y).map nv := by rw [List.map_set]; rfl
theorem set_at {V : List Nat} {a b y : Nat} (la : a < V.length) (hb : V[b]? = some y) : (V.set a y)[b]? = some y := by
  by_cases e : a = b
  · subst e
    rw [List.getElem?_set_self la]
  · rw [List.getElem?_set_ne e]
    exact hb
theorem sw_eq {V : List Nat} {a b x y : Nat} (ha : V[a]? = some x) (hb : V[b]? = some y) : sw V a b = (V.set a y).set b x := by
  unfold sw
  simp only [List.getD, ha, hb, Option.getD_some]
set_option maxRecDepth 100000 in
set_option maxHeartbeats 1000000 in
theorem hswap_any {X : HX} (C : HC X) {W : World} {v : Value} {V : List Nat} (h : HS X W v V) {a b x y : Nat} (ha : V[a]? = some x) (hb : V[b]? = some y) : Calls Try.prog 59 #[.pointer (some ⟨X.hb, X.ho, none⟩), .int .i64 (a : Int), .int .i64 (b : Int)] W fun e w' => e = .returned (.tuple #[]) ∧ HS X w' v (sw V a b) := by
  have la := (List.getElem?_eq_some_iff.1 ha).1
  have lb := (List.getElem?_eq_some_iff.1 hb).1
  have hc := h.c0 C
  obtain ⟨g, c, rfl⟩ : ∃ g c, v = .slice (some ⟨g, 0, none⟩) V.length c := by
    rcases shapeO h.own with ⟨_, e⟩ | e
    · omega
    · exact e
  have pa := h.at rfl ha
  have pb := h.at rfl hb
  have za := h.gz rfl a
  have zb := h.gz rfl b
  have j0 : (0 : Int) ≤ (a : Int) := by omega
  have j1 : (0 : Int) ≤ (b : Int) := by omega
  have j2 : (a : Int) < (V.length : Int) := by omega
  have j3 : (b : Int) < (V.length : Int) := by omega
  have h1 := h.put C rfl (V' := V.set a y) (by simp) a (.int .i64 (y : Int)) (set_nv V a y)
  have pb1 := h1.at (by simp) (set_at la hb)
  have zb1 := h1.gz (by simp) b
  have h2 := h1.put C (by simp) (V' := (V.set a y).set b x) (by simp) b (.int .i64 (x : Int)) (set_nv _ b x)
  rw [← sw_eq ha hb] at h2
  have HH : Hid (HS X ((W.setCell ⟨g, a, none⟩ (.int .i64 (y : Int))).setCell ⟨g, b, none⟩ (.int .i64 (x : Int))) (.slice (some ⟨g, 0, none⟩) V.length c) (sw V a b)) := h2
  obtain ⟨n, hn⟩ : ∃ n, V.length = n := ⟨_, rfl⟩
  rw [hn] at hc j2 j3
  clear h h1 h2
  go_enter Try.func59, Try.ntmps59
  go_region
  go_wp2_with fail
  go_end0
  exact ⟨rfl, HH.out.below C (Below.refl _ _).drew⟩
set_option maxRecDepth 100000 in
set_option maxHeartbeats 1000000 in
theorem hrise_any {X : HX} (C : HC X) {lt : Nat → Nat → Bool} (S : SWO lt) {N : Nat} (F : FA X lt N) {W : World} {v : Value} {V : List Nat} (h : HS X W v V) (hV : ∀ x ∈ V, x < N) (hl : V.length ≤ 65536) {k : Nat} (hk : k < V.length) (hr : HR lt V k) : Calls Try.prog 63 #[.pointer (some ⟨X.hb, X.ho, none⟩), .int .i64 (k : Int)] W fun e w' => e = .returned (.tuple #[]) ∧ ∃ V', V'.Perm V ∧ hp lt V' ∧ HS X w' v V' := by
  have FF : Hid (FA X lt N) := F
  have SS : Hid (SWO lt) := S
  have CC : Hid (HC X) := C
  have H0 : Hid (HS X W v V) := h
  have HV : Hid (∀ x ∈ V, x < N) := hV
  have HR0 : Hid (HR lt V k) := hr
  obtain ⟨n, hn⟩ : ∃ n, V.length = n := ⟨_, rfl⟩
  obtain ⟨g, c, rfl⟩ : ∃ g c, v = .slice (some ⟨g, 0, none⟩) V.length c := by
    rcases shapeO h.own with ⟨_, e⟩ | e
    · omega
    · exact e
  rw [hn] at H0 hk hl ⊢
  have HN : Hid (V.length = n) := hn
  clear h F S C hV hr hn
  go_enter Try.func63, Try.ntmps63
  go_wp2_with fail
  go_loopw [1] (fun vk wr => ∃ (q : Nat) (U : List Nat), vk = .int .i64 (q : Int) ∧ q < n ∧ Hid (U.Perm V ∧ HR lt U q ∧ HS X wr (.slice (some ⟨g, 0, none⟩) n c) U)) (fun vk _ => (intOf vk).toNat)
  case atStart => exact ⟨k, V, rfl, hk, List.Perm.refl _, HR0.out, H0.out⟩
  case round =>
    obtain ⟨q, U, rfl, hq, hU⟩ := hrel
    by_cases h0 : q = 0
    · subst h0
      go_wp2_with fail
      go_end0
      exact ⟨rfl, U, hU.out.1, HR_done0 hU.out.2.1, hU.out.2.2⟩
    · have i0 : (0 : Int) < (q : Int) := by omega
      obtain ⟨m, hm⟩ : ∃ m, (q - 1) / 2 = m := ⟨_, rfl⟩
      have em : Int.tdiv ((q : Int) - 1) 2 = (m : Int) := by rw [Int.tdiv_eq_ediv_of_nonneg (by omega)]; omega
      have hUn : U.length = n := by rw [hU.out.1.length_eq]; exact HN.out
      obtain ⟨x, hx⟩ : ∃ x, U[q]? = some x := ⟨_, List.getElem?_eq_getElem (by omega)⟩
      obtain ⟨y, hy⟩ : ∃ y, U[m]? = some y := ⟨_, List.getElem?_eq_getElem (by omega)⟩
      have xN := HV.out x (hU.out.1.subset (List.mem_of_getElem? hx))
      have yN := HV.out y (hU.out.1.subset (List.mem_of_getElem? hy))
      have HL : Hid (∀ W1, Below wr.heap.size wr W1 → W1.cell? ⟨X.hb, X.ho, none⟩ = some (.slice (some ⟨g, 0, none⟩) n c) ∧ W1.cell? ⟨X.hb, X.ho + 1, none⟩ = some (.func (.func X.K) #[X.rv] #[]) ∧ W1.cell? ⟨g, q, none⟩ = some (.int .i64 (x : Int)) ∧ W1.cell? ⟨g, m, none⟩ = some (.int .i64 (y : Int))) := fun W1 hW => by
        have hs := hU.out.2.2.below CC.out hW
        exact ⟨hs.c0 CC.out, hs.c1 CC.out, hs.at hUn hx, hs.at hUn hy⟩
      have HF : Hid (∀ W1, Below wr.heap.size wr W1 → Calls Try.prog X.K #[X.rv, .int .i64 (x : Int), .int .i64 (y : Int)] W1 fun e w' => e = .returned (.bool (lt x y)) ∧ Below W1.heap.size W1 w') := fun W1 hW => FF.out x y W1 (hU.out.2.2.below CC.out hW).bel xN yN
      have j0 : (0 : Int) ≤ (q : Int) := by omega
      have j1 : (q : Int) < (n : Int) := by omega
      have j2 : (0 : Int) ≤ (m : Int) := by omega
      have j3 : (m : Int) < (n : Int) := by omega
      have hmn : m < n := by omega
      have u1 : wrap64 ((q : Int) - 1) = (q : Int) - 1 := by unfold wrap64; omega
      have hmq : m < q := by omega
      obtain ⟨D, hD⟩ : ∃ D, lt x y = D := ⟨_, rfl⟩
      have HF2 := HF.out
      simp only [hD] at HF2
      have HFD : Hid (∀ W1, Below wr.heap.size wr W1 → Calls Try.prog X.K #[X.rv, .int .i64 (x : Int), .int .i64 (y : Int)] W1 fun e w' => e = .returned (.bool D) ∧ Below W1.heap.size W1 w') := HF2
      have HM : Hid ((q - 1) / 2 = m) := hm
      have HUN : Hid (U.length = n) := hUn
      have HXY : Hid (U[q]? = some x ∧ U[m]? = some y ∧ lt x y = D) := ⟨hx, hy, hD⟩
      clear HF HF2 hD hx hy xN yN hm hUn
      cases D with
      | false =>
        go_wp2_with fail
        refine quiet_lit3 (C := fun W => Below wr.heap.size wr W) (by kernel_rfl) (by kernel_rfl) (show Below _ _ _ from (Below.refl _ _).drew) ?_
        go_big_quiet_want
        go_big_quiet_op
        go_big_quiet_on
        go_big_quiet_want
        refine ⟨.pointer (some ⟨X.hb, X.ho, none⟩), fun W hW => ?_, ?_⟩
        · go_simp
        go_big_quiet_on
        simp only [Act.put, List.setIfInBounds_toArray, List.set_cons_zero, List.set_cons_succ]
        go_big_quiet_want
        refine ⟨.pointer (some ⟨X.hb, X.ho + 1, none⟩), fun W hW => ?_, ?_⟩
        · go_simp
        go_big_quiet_on
        simp only [Act.put, List.setIfInBounds_toArray, List.set_cons_zero, List.set_cons_succ]
        go_big_quiet_want
        refine ⟨.func (.func X.K) #[X.rv] #[], fun W hW => ?_, ?_⟩
        · obtain ⟨x0, x1, x2, x3⟩ := HL.out W hW
          go_simp
        go_big_quiet_on
        simp only [Act.put, List.setIfInBounds_toArray, List.set_cons_zero, List.set_cons_succ]
        go_big_quiet_want
        go_big_quiet_op
        go_big_quiet_on
        go_big_quiet_want
        refine ⟨.pointer (some ⟨X.hb, X.ho, none⟩), fun W hW => ?_, ?_⟩
        · go_simp
        go_big_quiet_on
        simp only [Act.put, List.setIfInBounds_toArray, List.set_cons_zero, List.set_cons_succ]
        go_big_quiet_want
        refine ⟨.pointer (some ⟨X.hb, X.ho, none⟩), fun W hW => ?_, ?_⟩
        · go_simp
        go_big_quiet_on
        simp only [Act.put, List.setIfInBounds_toArray, List.set_cons_zero, List.set_cons_succ]
        go_big_quiet_want
        refine ⟨.slice (some ⟨g, 0, none⟩) n c, fun W hW => ?_, ?_⟩
        · obtain ⟨x0, x1, x2, x3⟩ := HL.out W hW
          go_simp
        go_big_quiet_on
        simp only [Act.put, List.setIfInBounds_toArray, List.set_cons_zero, List.set_cons_succ]
        go_big_quiet_want
        go_big_quiet_op
        go_big_quiet_on
        go_big_quiet_want
        refine ⟨.pointer (some ⟨g, q, none⟩), fun W hW => ?_, ?_⟩
        · go_simp
        go_big_quiet_on
        simp only [Act.put, List.setIfInBounds_toArray, List.set_cons_zero, List.set_cons_succ]
        go_big_quiet_want
        refine ⟨.int .i64 (x : Int), fun W hW => ?_, ?_⟩
        · obtain ⟨x0, x1, x2, x3⟩ := HL.out W hW
          go_simp
        go_big_quiet_on
        simp only [Act.put, List.setIfInBounds_toArray, List.set_cons_zero, List.set_cons_succ]
        go_big_quiet_want
        go_big_quiet_op
        go_big_quiet_on
        go_big_quiet_want
        refine ⟨.pointer (some ⟨X.hb, X.ho, none⟩), fun W hW => ?_, ?_⟩
        · go_simp
        go_big_quiet_on
        simp only [Act.put, List.setIfInBounds_toArray, List.set_cons_zero, List.set_cons_succ]
        go_big_quiet_want
        refine ⟨.pointer (some ⟨X.hb, X.ho, none⟩), fun W hW => ?_, ?_⟩
        · go_simp
        go_big_quiet_on
        simp only [Act.put, List.setIfInBounds_toArray, List.set_cons_zero, List.set_cons_succ]
        go_big_quiet_want
        refine ⟨.slice (some ⟨g, 0, none⟩) n c, fun W hW => ?_, ?_⟩
        · obtain ⟨x0, x1, x2, x3⟩ := HL.out W hW
          go_simp
        go_big_quiet_on
        simp only [Act.put, List.setIfInBounds_toArray, List.set_cons_zero, List.set_cons_succ]
        go_big_quiet_want
        go_big_quiet_op
        go_big_quiet_on
        go_big_quiet_want
        refine ⟨.pointer (some ⟨g, m, none⟩), fun W hW => ?_, ?_⟩
        · go_simp
        go_big_quiet_on
        simp only [Act.put, List.setIfInBounds_toArray, List.set_cons_zero, List.set_cons_succ]
        go_big_quiet_want
        refine ⟨.int .i64 (y : Int), fun W hW => ?_, ?_⟩
        · obtain ⟨x0, x1, x2, x3⟩ := HL.out W hW
          go_simp
        go_big_quiet_on
        simp only [Act.put, List.setIfInBounds_toArray, List.set_cons_zero, List.set_cons_succ]
        go_big_quiet_want
        refine ⟨.bool false, fun W hW => ?_, ?_⟩
        · go_simp
          rw [CC.out.cf]
          refine ⟨rfl, (HFD.out W hW).mono ?_⟩
          rintro e w7 ⟨rfl, hb⟩
          exact ⟨rfl, bel0 hW hb⟩
        go_big_quiet_on
        simp only [Act.put, List.setIfInBounds_toArray, List.set_cons_zero, List.set_cons_succ]
        go_big_quiet_want
        refine ⟨.bool true, fun W hW => ?_, ?_⟩
        · go_simp
        go_big_quiet_on
        simp only [Act.put, List.setIfInBounds_toArray, List.set_cons_zero, List.set_cons_succ]
        refine wpQuiet_nil ?_
        intro W hW
        go_wp2_with fail
        refine bodyPost_ret (results_none rfl _ _ _) rfl ?_
        refine ⟨rfl, U, hU.out.1, HR_done hU.out.2.1 HXY.out.1 ?_ HXY.out.2.2, hU.out.2.2.below CC.out hW⟩
        rw [HM.out]
        exact HXY.out.2.1
      | true =>
        go_wp2_with fail
        refine quiet_lit3 (C := fun W => Below wr.heap.size wr W) (by kernel_rfl) (by kernel_rfl) (show Below _ _ _ from (Below.refl _ _).drew) ?_
        go_big_quiet_want
        go_big_quiet_op
        go_big_quiet_on
        go_big_quiet_want
        refine ⟨.pointer (some ⟨X.hb, X.ho, none⟩), fun W hW => ?_, ?_⟩
        · go_simp
        go_big_quiet_on
        simp only [Act.put, List.setIfInBounds_toArray, List.set_cons_zero, List.set_cons_succ]
        go_big_quiet_want
        refine ⟨.pointer (some ⟨X.hb, X.ho + 1, none⟩), fun W hW => ?_, ?_⟩
        · go_simp
        go_big_quiet_on
        simp only [Act.put, List.setIfInBounds_toArray, List.set_cons_zero, List.set_cons_succ]
        go_big_quiet_want
        refine ⟨.func (.func X.K) #[X.rv] #[], fun W hW => ?_, ?_⟩
        · obtain ⟨x0, x1, x2, x3⟩ := HL.out W hW
          go_simp
        go_big_quiet_on
        simp only [Act.put, List.setIfInBounds_toArray, List.set_cons_zero, List.set_cons_succ]
        go_big_quiet_want
        go_big_quiet_op
        go_big_quiet_on
        go_big_quiet_want
        refine ⟨.pointer (some ⟨X.hb, X.ho, none⟩), fun W hW => ?_, ?_⟩
        · go_simp
        go_big_quiet_on
        simp only [Act.put, List.setIfInBounds_toArray, List.set_cons_zero, List.set_cons_succ]
        go_big_quiet_want
        refine ⟨.pointer (some ⟨X.hb, X.ho, none⟩), fun W hW => ?_, ?_⟩
        · go_simp
        go_big_quiet_on
        simp only [Act.put, List.setIfInBounds_toArray, List.set_cons_zero, List.set_cons_succ]
        go_big_quiet_want
        refine ⟨.slice (some ⟨g, 0, none⟩) n c, fun W hW => ?_, ?_⟩
        · obtain ⟨x0, x1, x2, x3⟩ := HL.out W hW
          go_simp
        go_big_quiet_on
        simp only [Act.put, List.setIfInBounds_toArray, List.set_cons_zero, List.set_cons_succ]
        go_big_quiet_want
        go_big_quiet_op
        go_big_quiet_on
        go_big_quiet_want
        refine ⟨.pointer (some ⟨g, q, none⟩), fun W hW => ?_, ?_⟩
        · go_simp
        go_big_quiet_on
        simp only [Act.put, List.setIfInBounds_toArray, List.set_cons_zero, List.set_cons_succ]
        go_big_quiet_want
        refine ⟨.int .i64 (x : Int), fun W hW => ?_, ?_⟩
        · obtain ⟨x0, x1, x2, x3⟩ := HL.out W hW
          go_simp
        go_big_quiet_on
        simp only [Act.put, List.setIfInBounds_toArray, List.set_cons_zero, List.set_cons_succ]
        go_big_quiet_want
        go_big_quiet_op
        go_big_quiet_on
        go_big_quiet_want
        refine ⟨.pointer (some ⟨X.hb, X.ho, none⟩), fun W hW => ?_, ?_⟩
        · go_simp
        go_big_quiet_on
        simp only [Act.put, List.setIfInBounds_toArray, List.set_cons_zero, List.set_cons_succ]
        go_big_quiet_want
        refine ⟨.pointer (some ⟨X.hb, X.ho, none⟩), fun W hW => ?_, ?_⟩
        · go_simp
        go_big_quiet_on
        simp only [Act.put, List.setIfInBounds_toArray, List.set_cons_zero, List.set_cons_succ]
        go_big_quiet_want
        refine ⟨.slice (some ⟨g, 0, none⟩) n c, fun W hW => ?_, ?_⟩
        · obtain ⟨x0, x1, x2, x3⟩ := HL.out W hW
          go_simp
        go_big_quiet_on
        simp only [Act.put, List.setIfInBounds_toArray, List.set_cons_zero, List.set_cons_succ]
        go_big_quiet_want
        go_big_quiet_op
        go_big_quiet_on
        go_big_quiet_want
        refine ⟨.pointer (some ⟨g, m, none⟩), fun W hW => ?_, ?_⟩
        · go_simp
        go_big_quiet_on
        simp only [Act.put, List.setIfInBounds_toArray, List.set_cons_zero, List.set_cons_succ]
        go_big_quiet_want
        refine ⟨.int .i64 (y : Int), fun W hW => ?_, ?_⟩
        · obtain ⟨x0, x1, x2, x3⟩ := HL.out W hW
          go_simp
        go_big_quiet_on
        simp only [Act.put, List.setIfInBounds_toArray, List.set_cons_zero, List.set_cons_succ]
        go_big_quiet_want
        refine ⟨.bool true, fun W hW => ?_, ?_⟩
        · go_simp
          rw [CC.out.cf]
          refine ⟨rfl, (HFD.out W hW).mono ?_⟩
          rintro e w7 ⟨rfl, hb⟩
          exact ⟨rfl, bel0 hW hb⟩
        go_big_quiet_on
        simp only [Act.put, List.setIfInBounds_toArray, List.set_cons_zero, List.set_cons_succ]
        go_big_quiet_want
        refine ⟨.bool false, fun W hW => ?_, ?_⟩
        · go_simp
        go_big_quiet_on
        simp only [Act.put, List.setIfInBounds_toArray, List.set_cons_zero, List.set_cons_succ]
        refine wpQuiet_nil ?_
        intro W hW
        have hs := hU.out.2.2.below CC.out hW
        have HSW : Hid (Calls Try.prog 59 #[.pointer (some ⟨X.hb, X.ho, none⟩), .int .i64 (q : Int), .int .i64 (m : Int)] W fun e w' => e = .returned (.tuple #[]) ∧ HS X w' (.slice (some ⟨g, 0, none⟩) n c) (sw U q m)) := hswap_any CC.out hs HXY.out.1 HXY.out.2.1
        clear hs
        go_wp2_with fail
        refine HSW.out.mono ?_
        rintro e W3 ⟨rfl, h3⟩
        go_wp2_with fail
        go_roundw
        case rel =>
          refine ⟨m, sw U q m, rfl, hmn, (sw_perm HXY.out.1 HXY.out.2.1).trans hU.out.1, ?_, h3⟩
          have := HR_step SS.out hU.out.2.1 (by omega) HXY.out.1 (y := y) (by rw [HM.out]; exact HXY.out.2.1) HXY.out.2.2
          rw [HM.out] at this
          exact this
        case measure => simp [intOf]; omega
end Go.Proofs.Ytfcdaljhbeogeaa

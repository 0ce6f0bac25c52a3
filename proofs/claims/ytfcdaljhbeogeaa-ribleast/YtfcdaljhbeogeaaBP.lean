import Derived.Test.YtfcdaljhbeogeaaBO
namespace Go.Proofs.Ytfcdaljhbeogeaa
open Go.RowKit
/-- of a place and those below it that were looked at none is ahead of the one at nx -/
def Nx (lt : Nat → Nat → Bool) (U : List Nat) (q nx bl : Nat) : Prop := (nx = q ∨ (2 * q + 1 ≤ nx ∧ nx ≤ 2 * q + 2 ∧ nx < bl)) ∧ ∀ i x y, i = q ∨ (2 * q + 1 ≤ i ∧ i ≤ 2 * q + 2 ∧ i < bl) → U[i]? = some x → U[nx]? = some y → lt x y = false
theorem Nx.start {lt : Nat → Nat → Bool} (S : SWO lt) (U : List Nat) (q : Nat) : Nx lt U q q (2 * q + 1) :=
  ⟨.inl rfl, fun i x y hi hx hy => by
    obtain rfl : i = q := by omega
    rw [hx] at hy
    cases hy
    exact S.irrefl _⟩
theorem Nx.stay {lt : Nat → Nat → Bool} {U : List Nat} {q nx bl a b : Nat} (h : Nx lt U q nx bl) (ha : U[bl]? = some a) (hb : U[nx]? = some b) (hn : lt a b = false) : Nx lt U q nx (bl + 1) :=
  ⟨by rcases h.1 with e | e <;> omega, fun i x y hi hx hy => by
    by_cases e : i = bl
    · subst e
      rw [ha] at hx
      rw [hb] at hy
      cases hx
      cases hy
      exact hn
    · exact h.2 i x y (by omega) hx hy⟩
theorem Nx.go {lt : Nat → Nat → Bool} (S : SWO lt) {U : List Nat} {q nx bl a b : Nat} (h : Nx lt U q nx bl) (h1 : 2 * q + 1 ≤ bl) (h2 : bl ≤ 2 * q + 2) (ha : U[bl]? = some a) (hb : U[nx]? = some b) (hn : lt a b = true) : Nx lt U q bl (bl + 1) :=
  ⟨by omega, fun i x y hi hx hy => by
    rw [ha] at hy
    cases hy
    by_cases e : i = bl
    · subst e
      rw [ha] at hx
      cases hx
      exact S.irrefl _
    · exact S.ntr _ b _ (h.2 i x b (by omega) hx hb) (S.asymm _ _ hn)⟩
theorem Nx.done {lt : Nat → Nat → Bool} {U : List Nat} {q nx bl : Nat} (h : Nx lt U q nx bl) (hd : 2 * q + 2 < bl ∨ U.length ≤ bl) : Nxt lt U q nx :=
  ⟨by rcases h.1 with e | e <;> omega, fun i x y hi hx hy => by
    have := (List.getElem?_eq_some_iff.1 hx).1
    exact h.2 i x y (by omega) hx hy⟩
set_option maxRecDepth 100000 in
set_option maxHeartbeats 4000000 in
theorem hsink_any {X : HX} (C : HC X) {lt : Nat → Nat → Bool} (S : SWO lt) {N : Nat} (F : FA X lt N) {W : World} {v : Value} {V : List Nat} (h : HS X W v V) (hV : ∀ x ∈ V, x < N) (hl : V.length ≤ 65536) (hr : HD lt V 0) : Calls Try.prog 60 #[.pointer (some ⟨X.hb, X.ho, none⟩)] W fun e w' => e = .returned (.tuple #[]) ∧ ∃ V', V'.Perm V ∧ hp lt V' ∧ HS X w' v V' := by
  have FF : Hid (FA X lt N) := F
  have SS : Hid (SWO lt) := S
  have CC : Hid (HC X) := C
  have H0 : Hid (HS X W v V) := h
  have HV : Hid (∀ x ∈ V, x < N) := hV
  have HR0 : Hid (HD lt V 0) := hr
  obtain ⟨n, hn⟩ : ∃ n, V.length = n := ⟨_, rfl⟩
  rcases shapeO h.own with ⟨rfl, e0⟩ | ⟨g, c, rfl⟩
  · have hc := h.c0 C
    obtain rfl : V = [] := List.length_eq_zero_iff.1 e0
    clear h F S C hV hr hn e0
    go_enter Try.func60, Try.ntmps60
    go_wp2_with fail
    go_loopw [2] (fun vk wr => vk = .int .i64 0 ∧ wr = W) (fun _ _ => 0)
    case atStart => exact ⟨rfl, rfl⟩
    case round =>
      obtain ⟨rfl, rfl⟩ := hrel
      go_wp2_with fail
      go_loopw [3, 4] (fun va vb wi => va = .int .i64 0 ∧ vb = .int .i64 1 ∧ wi = wr) (fun _ _ _ => 0)
      case atStart => exact ⟨rfl, rfl, rfl⟩
      case round =>
        obtain ⟨rfl, rfl, rfl⟩ := hrel
        go_wp2_with fail
        refine bodyPost_ret (results_none rfl _ _ _) rfl ?_
        exact ⟨rfl, [], List.Perm.refl _, fun i x y h0 hx => by simp at hx, H0.out⟩
  · rw [hn] at H0 hl ⊢
    have HN : Hid (V.length = n) := hn
    clear h F S C hV hr hn
    go_enter Try.func60, Try.ntmps60
    go_wp2_with fail
    go_loopw [2] (fun vk wr => ∃ (q : Nat) (U : List Nat), vk = .int .i64 (q : Int) ∧ (q < n ∨ (q = 0 ∧ n = 0)) ∧ Hid (U.Perm V ∧ HD lt U q ∧ HS X wr (.slice (some ⟨g, 0, none⟩) n c) U)) (fun vk _ => n - (intOf vk).toNat)
    case atStart => exact ⟨0, V, rfl, by omega, List.Perm.refl _, HR0.out, H0.out⟩
    case round =>
      obtain ⟨q, U, rfl, hq, hU⟩ := hrel
      obtain ⟨wo, rfl⟩ : ∃ wo, wo = wr := ⟨wr, rfl⟩
      have HUN : Hid (U.length = n) := by unfold Hid; rw [hU.out.1.length_eq]; exact HN.out
      have u1 : wrap64 (2 * (q : Int)) = 2 * (q : Int) := by unfold wrap64; omega
      have u2 : wrap64 (2 * (q : Int) + 1) = 2 * (q : Int) + 1 := by unfold wrap64; omega
      have u3 : wrap64 (2 * (q : Int) + 2) = 2 * (q : Int) + 2 := by unfold wrap64; omega
      go_wp2_with fail
      go_loopw [3, 4] (fun va vb wr => ∃ nx bl : Nat, va = .int .i64 (nx : Int) ∧ vb = .int .i64 (bl : Int) ∧ 2 * q + 1 ≤ bl ∧ bl ≤ 2 * q + 3 ∧ (nx < n ∨ (nx = q ∧ n = 0)) ∧ Hid (Nx lt U q nx bl) ∧ Below wo.heap.size wo wr) (fun _ vb _ => 2 * q + 3 - (intOf vb).toNat)
      case atStart => exact ⟨q, 2 * q + 1, rfl, by first | rfl | go_num | (congr 1; omega), by omega, by omega, by omega, Nx.start SS.out U q, Below.refl _ _⟩
      case round =>
        obtain ⟨nx, bl, rfl, rfl, hb1, hb2, hnx, hX, hB⟩ := hrel
        have HL0 : Hid (∀ W1, Below wo.heap.size wo W1 → W1.cell? ⟨X.hb, X.ho, none⟩ = some (.slice (some ⟨g, 0, none⟩) n c)) := fun W1 hW => (hU.out.2.2.below CC.out hW).c0 CC.out
        have hcw := HL0.out _ hB
        by_cases d1 : bl ≤ 2 * q + 2
        · have k1 : (bl : Int) ≤ 2 * (q : Int) + 2 := by omega
          by_cases d2 : bl < n
          · have k2 : (bl : Int) < (n : Int) := by omega
            have nxn : nx < n := by omega
            obtain ⟨x, hx⟩ : ∃ x, U[bl]? = some x := ⟨_, List.getElem?_eq_getElem (by rw [HUN.out]; omega)⟩
            obtain ⟨y, hy⟩ : ∃ y, U[nx]? = some y := ⟨_, List.getElem?_eq_getElem (by rw [HUN.out]; omega)⟩
            have xN := HV.out x (hU.out.1.subset (List.mem_of_getElem? hx))
            have yN := HV.out y (hU.out.1.subset (List.mem_of_getElem? hy))
            have HL : Hid (∀ W1, Below wr.heap.size wr W1 → W1.cell? ⟨X.hb, X.ho, none⟩ = some (.slice (some ⟨g, 0, none⟩) n c) ∧ W1.cell? ⟨X.hb, X.ho + 1, none⟩ = some (.func (.func X.K) #[X.rv] #[]) ∧ W1.cell? ⟨g, bl, none⟩ = some (.int .i64 (x : Int)) ∧ W1.cell? ⟨g, nx, none⟩ = some (.int .i64 (y : Int))) := fun W1 hW => by
              have hs := hU.out.2.2.below CC.out (bel0 hB hW)
              exact ⟨hs.c0 CC.out, hs.c1 CC.out, hs.at HUN.out hx, hs.at HUN.out hy⟩
            have HF := fun W1 (hW : Below wr.heap.size wr W1) => FF.out x y W1 (hU.out.2.2.below CC.out (bel0 hB hW)).bel xN yN
            have j0 : (0 : Int) ≤ (bl : Int) := by omega
            have j2 : (0 : Int) ≤ (nx : Int) := by omega
            have j3 : (nx : Int) < (n : Int) := by omega
            obtain ⟨D, hD⟩ : ∃ D, lt x y = D := ⟨_, rfl⟩
            simp only [hD] at HF
            have HFD : Hid (∀ W1, Below wr.heap.size wr W1 → Calls Try.prog X.K #[X.rv, .int .i64 (x : Int), .int .i64 (y : Int)] W1 fun e w' => e = .returned (.bool D) ∧ Below W1.heap.size W1 w') := HF
            have HXY : Hid (U[bl]? = some x ∧ U[nx]? = some y ∧ lt x y = D) := ⟨hx, hy, hD⟩
            clear HF hD hx hy xN yN
            cases D with
            | false =>
              go_wp2_with fail
              refine quiet_lit3 (C := fun W => Below wr.heap.size wr W) (by kernel_rfl) (by kernel_rfl) (show Below _ _ _ from (Below.refl _ _).drew) ?_
              go_big_quiet_want
              go_big_quiet_op
              go_big_quiet_on
              go_big_quiet_want
              refine ⟨.pointer (some ⟨X.hb, X.ho, none⟩), fun W hW => ?_, ?_⟩
              · go_simp
              go_big_quiet_on
              simp only [Act.put, List.setIfInBounds_toArray, List.set_cons_zero, List.set_cons_succ]
              go_big_quiet_want
              refine ⟨.pointer (some ⟨X.hb, X.ho + 1, none⟩), fun W hW => ?_, ?_⟩
              · go_simp
              go_big_quiet_on
              simp only [Act.put, List.setIfInBounds_toArray, List.set_cons_zero, List.set_cons_succ]
              go_big_quiet_want
              refine ⟨.func (.func X.K) #[X.rv] #[], fun W hW => ?_, ?_⟩
              · obtain ⟨x0, x1, x2, x3⟩ := HL.out W hW
                go_simp
              go_big_quiet_on
              simp only [Act.put, List.setIfInBounds_toArray, List.set_cons_zero, List.set_cons_succ]
              go_big_quiet_want
              go_big_quiet_op
              go_big_quiet_on
              go_big_quiet_want
              refine ⟨.pointer (some ⟨X.hb, X.ho, none⟩), fun W hW => ?_, ?_⟩
              · go_simp
              go_big_quiet_on
              simp only [Act.put, List.setIfInBounds_toArray, List.set_cons_zero, List.set_cons_succ]
              go_big_quiet_want
              refine ⟨.pointer (some ⟨X.hb, X.ho, none⟩), fun W hW => ?_, ?_⟩
              · go_simp
              go_big_quiet_on
              simp only [Act.put, List.setIfInBounds_toArray, List.set_cons_zero, List.set_cons_succ]
              go_big_quiet_want
              refine ⟨.slice (some ⟨g, 0, none⟩) n c, fun W hW => ?_, ?_⟩
              · obtain ⟨x0, x1, x2, x3⟩ := HL.out W hW
                go_simp
              go_big_quiet_on
              simp only [Act.put, List.setIfInBounds_toArray, List.set_cons_zero, List.set_cons_succ]
              go_big_quiet_want
              go_big_quiet_op
              go_big_quiet_on
              go_big_quiet_want
              refine ⟨.pointer (some ⟨g, bl, none⟩), fun W hW => ?_, ?_⟩
              · go_simp
              go_big_quiet_on
              simp only [Act.put, List.setIfInBounds_toArray, List.set_cons_zero, List.set_cons_succ]
              go_big_quiet_want
              refine ⟨.int .i64 (x : Int), fun W hW => ?_, ?_⟩
              · obtain ⟨x0, x1, x2, x3⟩ := HL.out W hW
                go_simp
              go_big_quiet_on
              simp only [Act.put, List.setIfInBounds_toArray, List.set_cons_zero, List.set_cons_succ]
              go_big_quiet_want
              go_big_quiet_op
              go_big_quiet_on
              go_big_quiet_want
              refine ⟨.pointer (some ⟨X.hb, X.ho, none⟩), fun W hW => ?_, ?_⟩
              · go_simp
              go_big_quiet_on
              simp only [Act.put, List.setIfInBounds_toArray, List.set_cons_zero, List.set_cons_succ]
              go_big_quiet_want
              refine ⟨.pointer (some ⟨X.hb, X.ho, none⟩), fun W hW => ?_, ?_⟩
              · go_simp
              go_big_quiet_on
              simp only [Act.put, List.setIfInBounds_toArray, List.set_cons_zero, List.set_cons_succ]
              go_big_quiet_want
              refine ⟨.slice (some ⟨g, 0, none⟩) n c, fun W hW => ?_, ?_⟩
              · obtain ⟨x0, x1, x2, x3⟩ := HL.out W hW
                go_simp
              go_big_quiet_on
              simp only [Act.put, List.setIfInBounds_toArray, List.set_cons_zero, List.set_cons_succ]
              go_big_quiet_want
              go_big_quiet_op
              go_big_quiet_on
              go_big_quiet_want
              refine ⟨.pointer (some ⟨g, nx, none⟩), fun W hW => ?_, ?_⟩
              · go_simp
              go_big_quiet_on
              simp only [Act.put, List.setIfInBounds_toArray, List.set_cons_zero, List.set_cons_succ]
              go_big_quiet_want
              refine ⟨.int .i64 (y : Int), fun W hW => ?_, ?_⟩
              · obtain ⟨x0, x1, x2, x3⟩ := HL.out W hW
                go_simp
              go_big_quiet_on
              simp only [Act.put, List.setIfInBounds_toArray, List.set_cons_zero, List.set_cons_succ]
              go_big_quiet_want
              refine ⟨.bool false, fun W hW => ?_, ?_⟩
              · go_simp
                rw [CC.out.cf]
                refine ⟨rfl, (HFD.out W hW).mono ?_⟩
                rintro e w7 ⟨rfl, hb⟩
                exact ⟨rfl, bel0 hW hb⟩
              go_big_quiet_on
              simp only [Act.put, List.setIfInBounds_toArray, List.set_cons_zero, List.set_cons_succ]
              refine wpQuiet_nil ?_
              intro W hW
              go_wp2_with fail
              go_roundw
              case rel => exact ⟨nx, bl + 1, rfl, by go_num, by omega, by omega, hnx, hX.out.stay HXY.out.1 HXY.out.2.1 HXY.out.2.2, bel0 hB hW⟩
              case measure => simp [intOf]; omega
            | true =>
              go_wp2_with fail
              refine quiet_lit3 (C := fun W => Below wr.heap.size wr W) (by kernel_rfl) (by kernel_rfl) (show Below _ _ _ from (Below.refl _ _).drew) ?_
              go_big_quiet_want
              go_big_quiet_op
              go_big_quiet_on
              go_big_quiet_want
              refine ⟨.pointer (some ⟨X.hb, X.ho, none⟩), fun W hW => ?_, ?_⟩
              · go_simp
              go_big_quiet_on
              simp only [Act.put, List.setIfInBounds_toArray, List.set_cons_zero, List.set_cons_succ]
              go_big_quiet_want
              refine ⟨.pointer (some ⟨X.hb, X.ho + 1, none⟩), fun W hW => ?_, ?_⟩
              · go_simp
              go_big_quiet_on
              simp only [Act.put, List.setIfInBounds_toArray, List.set_cons_zero, List.set_cons_succ]
              go_big_quiet_want
              refine ⟨.func (.func X.K) #[X.rv] #[], fun W hW => ?_, ?_⟩
              · obtain ⟨x0, x1, x2, x3⟩ := HL.out W hW
                go_simp
              go_big_quiet_on
              simp only [Act.put, List.setIfInBounds_toArray, List.set_cons_zero, List.set_cons_succ]
              go_big_quiet_want
              go_big_quiet_op
              go_big_quiet_on
              go_big_quiet_want
              refine ⟨.pointer (some ⟨X.hb, X.ho, none⟩), fun W hW => ?_, ?_⟩
              · go_simp
              go_big_quiet_on
              simp only [Act.put, List.setIfInBounds_toArray, List.set_cons_zero, List.set_cons_succ]
              go_big_quiet_want
              refine ⟨.pointer (some ⟨X.hb, X.ho, none⟩), fun W hW => ?_, ?_⟩
              · go_simp
              go_big_quiet_on
              simp only [Act.put, List.setIfInBounds_toArray, List.set_cons_zero, List.set_cons_succ]
              go_big_quiet_want
              refine ⟨.slice (some ⟨g, 0, none⟩) n c, fun W hW => ?_, ?_⟩
              · obtain ⟨x0, x1, x2, x3⟩ := HL.out W hW
                go_simp
              go_big_quiet_on
              simp only [Act.put, List.setIfInBounds_toArray, List.set_cons_zero, List.set_cons_succ]
              go_big_quiet_want
              go_big_quiet_op
              go_big_quiet_on
              go_big_quiet_want
              refine ⟨.pointer (some ⟨g, bl, none⟩), fun W hW => ?_, ?_⟩
              · go_simp
              go_big_quiet_on
              simp only [Act.put, List.setIfInBounds_toArray, List.set_cons_zero, List.set_cons_succ]
              go_big_quiet_want
              refine ⟨.int .i64 (x : Int), fun W hW => ?_, ?_⟩
              · obtain ⟨x0, x1, x2, x3⟩ := HL.out W hW
                go_simp
              go_big_quiet_on
              simp only [Act.put, List.setIfInBounds_toArray, List.set_cons_zero, List.set_cons_succ]
              go_big_quiet_want
              go_big_quiet_op
              go_big_quiet_on
              go_big_quiet_want
              refine ⟨.pointer (some ⟨X.hb, X.ho, none⟩), fun W hW => ?_, ?_⟩
              · go_simp
              go_big_quiet_on
              simp only [Act.put, List.setIfInBounds_toArray, List.set_cons_zero, List.set_cons_succ]
              go_big_quiet_want
              refine ⟨.pointer (some ⟨X.hb, X.ho, none⟩), fun W hW => ?_, ?_⟩
              · go_simp
              go_big_quiet_on
              simp only [Act.put, List.setIfInBounds_toArray, List.set_cons_zero, List.set_cons_succ]
              go_big_quiet_want
              refine ⟨.slice (some ⟨g, 0, none⟩) n c, fun W hW => ?_, ?_⟩
              · obtain ⟨x0, x1, x2, x3⟩ := HL.out W hW
                go_simp
              go_big_quiet_on
              simp only [Act.put, List.setIfInBounds_toArray, List.set_cons_zero, List.set_cons_succ]
              go_big_quiet_want
              go_big_quiet_op
              go_big_quiet_on
              go_big_quiet_want
              refine ⟨.pointer (some ⟨g, nx, none⟩), fun W hW => ?_, ?_⟩
              · go_simp
              go_big_quiet_on
              simp only [Act.put, List.setIfInBounds_toArray, List.set_cons_zero, List.set_cons_succ]
              go_big_quiet_want
              refine ⟨.int .i64 (y : Int), fun W hW => ?_, ?_⟩
              · obtain ⟨x0, x1, x2, x3⟩ := HL.out W hW
                go_simp
              go_big_quiet_on
              simp only [Act.put, List.setIfInBounds_toArray, List.set_cons_zero, List.set_cons_succ]
              go_big_quiet_want
              refine ⟨.bool true, fun W hW => ?_, ?_⟩
              · go_simp
                rw [CC.out.cf]
                refine ⟨rfl, (HFD.out W hW).mono ?_⟩
                rintro e w7 ⟨rfl, hb⟩
                exact ⟨rfl, bel0 hW hb⟩
              go_big_quiet_on
              simp only [Act.put, List.setIfInBounds_toArray, List.set_cons_zero, List.set_cons_succ]
              refine wpQuiet_nil ?_
              intro W hW
              go_wp2_with fail
              go_roundw
              case rel => exact ⟨bl, bl + 1, rfl, by go_num, by omega, by omega, by omega, hX.out.go SS.out hb1 d1 HXY.out.1 HXY.out.2.1 HXY.out.2.2, bel0 hB hW⟩
              case measure => simp [intOf]; omega
          · have k2 : ¬ (bl : Int) < (n : Int) := by omega
            have HD2 : Hid (Nxt lt U q nx) := hX.out.done (.inr (by rw [HUN.out]; omega))
            clear hX
            by_cases e1 : nx = q
            · subst e1
              go_wp2_with fail
              refine bodyPost_ret (results_none rfl _ _ _) rfl ?_
              exact ⟨rfl, U, hU.out.1, HD_done hU.out.2.1 HD2.out, hU.out.2.2.below CC.out hB⟩
            · have e2 : ((nx : Int) == (q : Int)) = false := beq_eq_false_iff_ne.2 (by omega)
              have nxn : nx < n := by omega
              have nxq : q < nx := by
                rcases HD2.out.own with e | e
                · exact absurd e e1
                · omega
              obtain ⟨a, ha⟩ : ∃ a, U[q]? = some a := ⟨_, List.getElem?_eq_getElem (by rw [HUN.out]; omega)⟩
              obtain ⟨b, hb⟩ : ∃ b, U[nx]? = some b := ⟨_, List.getElem?_eq_getElem (by rw [HUN.out]; omega)⟩
              have HSW : Hid (Calls Try.prog 59 #[.pointer (some ⟨X.hb, X.ho, none⟩), .int .i64 (q : Int), .int .i64 (nx : Int)] wr fun e w' => e = .returned (.tuple #[]) ∧ HS X w' (.slice (some ⟨g, 0, none⟩) n c) (sw U q nx)) := hswap_any CC.out (hU.out.2.2.below CC.out hB) ha hb
              have HNW : Hid ((sw U q nx).Perm V ∧ HD lt (sw U q nx) nx) := ⟨(sw_perm ha hb).trans hU.out.1, HD_step hU.out.2.1 HD2.out e1 ha hb⟩
              clear ha hb HD2
              go_wp2_with fail
              refine HSW.out.mono ?_
              rintro e W3 ⟨rfl, h3⟩
              go_wp2_with fail
              go_roundw
              case rel => exact ⟨nx, sw U q nx, rfl, by omega, HNW.out.1, HNW.out.2, h3⟩
              case measure => simp [intOf]; omega
        · have k1 : ¬ (bl : Int) ≤ 2 * (q : Int) + 2 := by omega
          have HD2 : Hid (Nxt lt U q nx) := hX.out.done (.inl (by omega))
          clear hX
          by_cases e1 : nx = q
          · subst e1
            go_wp2_with fail
            refine bodyPost_ret (results_none rfl _ _ _) rfl ?_
            exact ⟨rfl, U, hU.out.1, HD_done hU.out.2.1 HD2.out, hU.out.2.2.below CC.out hB⟩
          · have e2 : ((nx : Int) == (q : Int)) = false := beq_eq_false_iff_ne.2 (by omega)
            have nxn : nx < n := by omega
            have nxq : q < nx := by
              rcases HD2.out.own with e | e
              · exact absurd e e1
              · omega
            obtain ⟨a, ha⟩ : ∃ a, U[q]? = some a := ⟨_, List.getElem?_eq_getElem (by rw [HUN.out]; omega)⟩
            obtain ⟨b, hb⟩ : ∃ b, U[nx]? = some b := ⟨_, List.getElem?_eq_getElem (by rw [HUN.out]; omega)⟩
            have HSW : Hid (Calls Try.prog 59 #[.pointer (some ⟨X.hb, X.ho, none⟩), .int .i64 (q : Int), .int .i64 (nx : Int)] wr fun e w' => e = .returned (.tuple #[]) ∧ HS X w' (.slice (some ⟨g, 0, none⟩) n c) (sw U q nx)) := hswap_any CC.out (hU.out.2.2.below CC.out hB) ha hb
            have HNW : Hid ((sw U q nx).Perm V ∧ HD lt (sw U q nx) nx) := ⟨(sw_perm ha hb).trans hU.out.1, HD_step hU.out.2.1 HD2.out e1 ha hb⟩
            clear ha hb HD2
            go_wp2_with fail
            refine HSW.out.mono ?_
            rintro e W3 ⟨rfl, h3⟩
            go_wp2_with fail
            go_roundw
            case rel => exact ⟨nx, sw U q nx, rfl, by omega, HNW.out.1, HNW.out.2, h3⟩
            case measure => simp [intOf]; omega
end Go.Proofs.Ytfcdaljhbeogeaa

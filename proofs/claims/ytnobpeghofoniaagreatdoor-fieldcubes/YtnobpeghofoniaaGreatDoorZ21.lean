import Derived.Test.YtnobpeghofoniaaGreatDoorZ19
import Derived.Test.YtnobpeghofoniaaGreatDoorZ20
import Derived.Test.YtnobpeghofoniaaGreatDoorZ6
namespace Go.Proofs.YtnobpeghofoniaaGreatDoor
open Go.RowKit Go.Shelf
set_option maxRecDepth 100000 in
theorem arr_67 (u : Array Value) (h : u.size = 67) : ∃ u0 u1 u2 u3 u4 u5 u6 u7 u8 u9 u10 u11 u12 u13 u14 u15 u16 u17 u18 u19 u20 u21 u22 u23 u24 u25 u26 u27 u28 u29 u30 u31 u32 u33 u34 u35 u36 u37 u38 u39 u40 u41 u42 u43 u44 u45 u46 u47 u48 u49 u50 u51 u52 u53 u54 u55 u56 u57 u58 u59 u60 u61 u62 u63 u64 u65 u66, u = #[u0, u1, u2, u3, u4, u5, u6, u7, u8, u9, u10, u11, u12, u13, u14, u15, u16, u17, u18, u19, u20, u21, u22, u23, u24, u25, u26, u27, u28, u29, u30, u31, u32, u33, u34, u35, u36, u37, u38, u39, u40, u41, u42, u43, u44, u45, u46, u47, u48, u49, u50, u51, u52, u53, u54, u55, u56, u57, u58, u59, u60, u61, u62, u63, u64, u65, u66] := by
  obtain ⟨l⟩ := u
  have h' : l.length = 67 := by simpa using h
  obtain ⟨u0, r0, rfl, h0⟩ := uncons h'
  obtain ⟨u1, r1, rfl, h1⟩ := uncons h0
  obtain ⟨u2, r2, rfl, h2⟩ := uncons h1
  obtain ⟨u3, r3, rfl, h3⟩ := uncons h2
  obtain ⟨u4, r4, rfl, h4⟩ := uncons h3
  obtain ⟨u5, r5, rfl, h5⟩ := uncons h4
  obtain ⟨u6, r6, rfl, h6⟩ := uncons h5
  obtain ⟨u7, r7, rfl, h7⟩ := uncons h6
  obtain ⟨u8, r8, rfl, h8⟩ := uncons h7
  obtain ⟨u9, r9, rfl, h9⟩ := uncons h8
  obtain ⟨u10, r10, rfl, h10⟩ := uncons h9
  obtain ⟨u11, r11, rfl, h11⟩ := uncons h10
  obtain ⟨u12, r12, rfl, h12⟩ := uncons h11
  obtain ⟨u13, r13, rfl, h13⟩ := uncons h12
  obtain ⟨u14, r14, rfl, h14⟩ := uncons h13
  obtain ⟨u15, r15, rfl, h15⟩ := uncons h14
  obtain ⟨u16, r16, rfl, h16⟩ := uncons h15
  obtain ⟨u17, r17, rfl, h17⟩ := uncons h16
  obtain ⟨u18, r18, rfl, h18⟩ := uncons h17
  obtain ⟨u19, r19, rfl, h19⟩ := uncons h18
  obtain ⟨u20, r20, rfl, h20⟩ := uncons h19
  obtain ⟨u21, r21, rfl, h21⟩ := uncons h20
  obtain ⟨u22, r22, rfl, h22⟩ := uncons h21
  obtain ⟨u23, r23, rfl, h23⟩ := uncons h22
  obtain ⟨u24, r24, rfl, h24⟩ := uncons h23
  obtain ⟨u25, r25, rfl, h25⟩ := uncons h24
  obtain ⟨u26, r26, rfl, h26⟩ := uncons h25
  obtain ⟨u27, r27, rfl, h27⟩ := uncons h26
  obtain ⟨u28, r28, rfl, h28⟩ := uncons h27
  obtain ⟨u29, r29, rfl, h29⟩ := uncons h28
  obtain ⟨u30, r30, rfl, h30⟩ := uncons h29
  obtain ⟨u31, r31, rfl, h31⟩ := uncons h30
  obtain ⟨u32, r32, rfl, h32⟩ := uncons h31
  obtain ⟨u33, r33, rfl, h33⟩ := uncons h32
  obtain ⟨u34, r34, rfl, h34⟩ := uncons h33
  obtain ⟨u35, r35, rfl, h35⟩ := uncons h34
  obtain ⟨u36, r36, rfl, h36⟩ := uncons h35
  obtain ⟨u37, r37, rfl, h37⟩ := uncons h36
  obtain ⟨u38, r38, rfl, h38⟩ := uncons h37
  obtain ⟨u39, r39, rfl, h39⟩ := uncons h38
  obtain ⟨u40, r40, rfl, h40⟩ := uncons h39
  obtain ⟨u41, r41, rfl, h41⟩ := uncons h40
  obtain ⟨u42, r42, rfl, h42⟩ := uncons h41
  obtain ⟨u43, r43, rfl, h43⟩ := uncons h42
  obtain ⟨u44, r44, rfl, h44⟩ := uncons h43
  obtain ⟨u45, r45, rfl, h45⟩ := uncons h44
  obtain ⟨u46, r46, rfl, h46⟩ := uncons h45
  obtain ⟨u47, r47, rfl, h47⟩ := uncons h46
  obtain ⟨u48, r48, rfl, h48⟩ := uncons h47
  obtain ⟨u49, r49, rfl, h49⟩ := uncons h48
  obtain ⟨u50, r50, rfl, h50⟩ := uncons h49
  obtain ⟨u51, r51, rfl, h51⟩ := uncons h50
  obtain ⟨u52, r52, rfl, h52⟩ := uncons h51
  obtain ⟨u53, r53, rfl, h53⟩ := uncons h52
  obtain ⟨u54, r54, rfl, h54⟩ := uncons h53
  obtain ⟨u55, r55, rfl, h55⟩ := uncons h54
  obtain ⟨u56, r56, rfl, h56⟩ := uncons h55
  obtain ⟨u57, r57, rfl, h57⟩ := uncons h56
  obtain ⟨u58, r58, rfl, h58⟩ := uncons h57
  obtain ⟨u59, r59, rfl, h59⟩ := uncons h58
  obtain ⟨u60, r60, rfl, h60⟩ := uncons h59
  obtain ⟨u61, r61, rfl, h61⟩ := uncons h60
  obtain ⟨u62, r62, rfl, h62⟩ := uncons h61
  obtain ⟨u63, r63, rfl, h63⟩ := uncons h62
  obtain ⟨u64, r64, rfl, h64⟩ := uncons h63
  obtain ⟨u65, r65, rfl, h65⟩ := uncons h64
  obtain ⟨u66, r66, rfl, h66⟩ := uncons h65
  obtain rfl := List.length_eq_zero_iff.1 h66
  exact ⟨u0, u1, u2, u3, u4, u5, u6, u7, u8, u9, u10, u11, u12, u13, u14, u15, u16, u17, u18, u19, u20, u21, u22, u23, u24, u25, u26, u27, u28, u29, u30, u31, u32, u33, u34, u35, u36, u37, u38, u39, u40, u41, u42, u43, u44, u45, u46, u47, u48, u49, u50, u51, u52, u53, u54, u55, u56, u57, u58, u59, u60, u61, u62, u63, u64, u65, u66, rfl⟩

theorem insS_le (l : List UInt8) : ∀ (m j : Nat) (s : List UInt8), l.length - j ≤ m → j ≤ l.length → (insS l j s).2.1 ≤ l.length := by
  intro m
  induction m with
  | zero =>
    intro j s h hj
    rw [insS, if_neg (by omega)]
    exact Nat.le_refl _
  | succ m ih =>
    intro j s h hj
    rw [insS]
    by_cases h1 : j < l.length
    · rw [if_pos h1]
      split
      · exact h1
      · split
        · split
          · exact hj
          · have := (escS_end l j (by omega)).1
            exact ih (j + (escS l j).1) (s ++ (escS l j).2) (by omega) (by omega)
        · split
          · exact hj
          · have hp := dc_pos l j
            have hl := dc_le l j h1
            exact ih (j + (dc l j).2) (s ++ (l.drop j).take (dc l j).2) (by omega) (by omega)
    · rw [if_neg h1]
      exact Nat.le_refl _
theorem tok_ge {l : List UInt8} {j : Nat} (hj : j < l.length) (he : tokE l j ≠ 0) : j ≤ tokJ l j ∧ tokJ l j ≤ l.length := by
  have hj1 : j + 1 ≤ l.length := hj
  unfold tokE at he
  unfold tokJ
  split
  · have hg := insS_ge l _ (j + 1) [] (Nat.le_refl _) hj1
    have hle := insS_le l _ (j + 1) [] (Nat.le_refl _) hj1
    unfold quoJ
    split
    · omega
    · omega
  · rename_i h7
    rw [if_neg h7] at he
    rw [if_neg he]
    omega
theorem tok_adv {l : List UInt8} {j : Nat} (hj : j < l.length) (_ : kl l j ≠ 1) (he : tokE l j = 0) : j < tokJ l j ∧ tokJ l j ≤ l.length := by
  have hj1 : j + 1 ≤ l.length := hj
  have wr := wrun_ge l _ (j + 1) (Nat.le_refl _)
  have nr := nrun_ge l _ (j + 1) (Nat.le_refl _)
  have wr2 := wrun_ge l _ (wrun l (j + 1) + 1) (Nat.le_refl _)
  have hw1 := wr.2 hj1
  have hn1 := nr.2 hj1
  by_cases h7 : kl l j = 7 ∧ quoE l j ≠ 0
  · unfold tokE at he
    rw [if_pos h7] at he
    exact absurd he h7.2
  · unfold tokE at he
    rw [if_neg h7] at he
    unfold tokJ
    rw [if_neg h7, if_pos he]
    unfold tokC at he ⊢
    split
    · show j < (endF 0 l j).2 ∧ (endF 0 l j).2 ≤ l.length
      show j < (if dotA l (wrun l (j + 1)) 3 = true then ((3 : Nat), wrun l (wrun l (j + 1) + 1)) else (2, wrun l (j + 1))).2 ∧ (if dotA l (wrun l (j + 1)) 3 = true then ((3 : Nat), wrun l (wrun l (j + 1) + 1)) else (2, wrun l (j + 1))).2 ≤ l.length
      split
      · rename_i hd
        have := (dotA_asc hd).1
        have := wr2.2 (by omega)
        exact ⟨by simp only; omega, by simp only; omega⟩
      · exact ⟨by simp only; omega, by simp only; omega⟩
    · split
      · show j < nrun l (j + 1) ∧ nrun l (j + 1) ≤ l.length
        omega
      · split
        · show j < wrun l (j + 1) ∧ wrun l (j + 1) ≤ l.length
          omega
        · split
          · rename_i hk
            have hq : quoE l j = 0 := Classical.byContradiction (fun h => h7 ⟨hk, h⟩)
            show j < quoJ l j ∧ quoJ l j ≤ l.length
            have hg := insS_ge l _ (j + 1) [] (Nat.le_refl _) hj1
            have hle := insS_le l _ (j + 1) [] (Nat.le_refl _) hj1
            unfold quoJ
            unfold quoE at hq
            split
            · rename_i hc
              rw [if_neg (by rw [hc.1]; simp), if_pos hc] at hq
              cases hq
            · omega
          · rename_i k3 k4 k6 k7
            rw [if_neg k3, if_neg k4, if_neg k6, if_neg k7] at he
            obtain ⟨hs1, _⟩ := sgn_pre (l.drop j)
            rw [List.length_drop] at hs1
            have hne : subL l j (j + sgn (l.drop j)) ≠ [] := fun e => by
              unfold faultE at he
              simp only [e] at he
              revert he
              decide
            have : 0 < sgn (l.drop j) := by
              refine Nat.pos_of_ne_zero (fun e => hne ?_)
              unfold subL
              rw [e]
              simp
            show j < j + sgn (l.drop j) ∧ j + sgn (l.drop j) ≤ l.length
            omega

/-- what run leaves -/
def RunR (X : MX) (R : Res) (e : Ending) (w' : World) : Prop :=
  e = .returned (.int .i64 (R.2.1 : Int)) ∧ ∃ now fst line head v D, MS X w' now fst line head v D ∧ head ≤ now ∧ now ≤ 16384 ∧ (R.2.1 = 0 → R = (D, 0, 0, 0)) ∧ (R.2.1 ≠ 0 → R = ([], R.2.1, line, now - head + 1))
/-- what stands at a label of run -/
def RF (X : MX) (R : Res) (lab now j fst line head hb : Nat) (v : Value) (D : List Tok) (wr : World) : Prop :=
  (lab = 0 ∨ lab = 1 ∨ lab = 2) ∧ MS X wr now fst line head v D ∧ AT X.l now j ∧ AT X.l head hb ∧ head ≤ now ∧ j ≤ X.l.length ∧ D.length ≤ 2 * now ∧ line ≤ now + 1 ∧
  (lab = 0 → ∃ f, X.l.length - j < f ∧ runM f X.l j line hb D = R) ∧
  (lab = 1 → j < X.l.length ∧ kl X.l j ≠ 1 ∧ ∃ f, X.l.length - j ≤ f ∧ lendM f X.l (cend X.l (j + (dc X.l j).2)) line hb D = R) ∧
  (lab = 2 → (kl X.l j = 1 ∨ kl X.l j = 0) ∧ ∃ f, X.l.length - j ≤ f ∧ lendM f X.l j line hb D = R)
def RJ (X : MX) (R : Res) (lab : Nat) (a : Act) (wr : World) : Prop :=
  ∃ (now j fst line head hb : Nat) (v : Value) (D : List Tok) (u : Array Value), a = { tmps := u, defers := [] } ∧ u.size = 67 ∧ u.getD 0 undef = .pointer (some ⟨X.b, 0, none⟩) ∧ Hid (RF X R lab now j fst line head hb v D wr)
def rM (X : MX) (lab : Nat) (wr : World) : Nat := 3 * mNow X wr + (if lab = 0 then 2 else if lab = 1 then 1 else 0)
theorem results_rn (tmps : Array Value) (W : World) : (results Tryz.f114 tmps).run Tryz.prog W = .ok (tmps.getD 2 undef) W := by
  simp [results, go_sem]
theorem use_pass2 {P : Program} {a : Act} {w : World} {Q : Exit → Act → World → Prop} {c X : Code} {J : Nat → Act → World → Prop} {m : Nat → Act → World → Nat} {l K0 K1 : Nat} (h : ∃ Y, findLabel c l = some (.seq .skip Y) ∧ Y.wp P (jumpN (fun l' a' w' => J l' a' w' ∧ m l' a' w' < K0) Q) a w) (hf : findLabel c l = some (.seq .skip X)) (hK : K0 ≤ K1) : X.wp P (jumpN (fun l' a' w' => J l' a' w' ∧ m l' a' w' < K1) Q) a w := by
  obtain ⟨Y, hY, hr⟩ := h
  have e := Option.some.inj (hf.symm.trans hY)
  injection e with _ e
  rw [e]
  refine wp_mono hr ?_
  intro e a' w' hq
  cases e with
  | goto l' => exact ⟨hq.1, Nat.lt_of_lt_of_le hq.2 hK⟩
  | normal => exact hq
  | exit id => exact hq
  | ret => exact hq
  | panic ch => exact hq
  | outgrown => exact hq
end Go.Proofs.YtnobpeghofoniaaGreatDoor
namespace Go.Proofs.YtnobpeghofoniaaGreatDoor
open Go.RowKit
theorem bt_shift (P X : List UInt8) (j : Nat) : bt (P ++ X) (P.length + j) = bt X j := by
  unfold bt
  simp [List.getD, List.getElem?_append_right]
theorem drop_shift (P X : List UInt8) (j : Nat) : (P ++ X).drop (P.length + j) = X.drop j := by
  rw [← List.drop_drop, List.drop_left]
theorem getD_shift (P X : List UInt8) (j : Nat) : (P ++ X).getD (P.length + j) 0 = X.getD j 0 := by
  simp [List.getD, List.getElem?_append_right]
theorem dc_shift (P X : List UInt8) : dc (P ++ X) P.length = Lib.decodeN X.length (bt X 0) (bt X 1) (bt X 2) (bt X 3) := by
  unfold dc
  have h0 := bt_shift P X 0
  rw [Nat.add_zero] at h0
  rw [h0, bt_shift, bt_shift, bt_shift, List.length_append, Nat.add_sub_cancel_left]
theorem brS_shift (P X : List UInt8) : brS (P ++ X) P.length = brS X 0 := by
  unfold brS
  rw [drop_shift, bt_shift, Nat.add_assoc, bt_shift, List.length_append]
  simp only [Nat.zero_add]
  have e1 : (P.length + X.length < P.length + 3 ∨ bt X 2 ≠ 123) = (X.length < 3 ∨ bt X 2 ≠ 123) := by rw [Nat.add_lt_add_iff_left]
  have e2 : ∀ k, (P.length + X.length ≤ P.length + (3 + k)) = (X.length ≤ 3 + k) := fun k => by rw [Nat.add_le_add_iff_left]
  simp only [e1, e2]
theorem escS_shift (P X : List UInt8) : escS (P ++ X) P.length = escS X 0 := by
  unfold escS
  rw [bt_shift, getD_shift, getD_shift, brS_shift, List.length_append]
  simp only [Nat.zero_add]
  have e1 : (P.length + X.length ≤ P.length + 1) = (X.length ≤ 1) := by rw [Nat.add_le_add_iff_left]
  have e2 : (P.length + 3 < P.length + X.length) = (3 < X.length) := by rw [Nat.add_lt_add_iff_left]
  simp only [e1, e2]
end Go.Proofs.YtnobpeghofoniaaGreatDoor
namespace Go.Proofs.YtnobpeghofoniaaGreatDoor
open Go.RowKit Go.Shelf
/-- what stands behind a line: the text's end, or a newline -/
def stopL (S : List UInt8) : Prop := S = [] ∨ ∃ S', S = 10 :: S'
section
variable {P a S : List UInt8}
theorem btL {j : Nat} (hj : j < a.length) : bt (P ++ (a ++ S)) (P.length + j) = bt a j := by
  rw [bt_shift]
  unfold bt
  rw [List.getD_eq_getElem?_getD, List.getD_eq_getElem?_getD, List.getElem?_append_left hj]
theorem btE (hS : stopL S) : bt (P ++ (a ++ S)) (P.length + a.length) = 10 ∨ P.length + a.length = (P ++ (a ++ S)).length := by
  rcases hS with rfl | ⟨S', rfl⟩
  · exact .inr (by simp)
  · left
    rw [bt_shift]
    exact bt_of (l := a ++ 10 :: S') (c := 10) (by simp)
theorem lenL {j : Nat} (_ : j ≤ a.length) : a.length - j ≤ (P ++ (a ++ S)).length - (P.length + j) := by simp; omega
theorem lenE (hS : stopL S) {j : Nat} (hj : j ≤ a.length) : (a.length - j < (P ++ (a ++ S)).length - (P.length + j) ∧ ∃ S', S = 10 :: S') ∨ (a.length - j = (P ++ (a ++ S)).length - (P.length + j) ∧ S = []) := by
  rcases hS with rfl | ⟨S', rfl⟩
  · exact .inr ⟨by simp; omega, rfl⟩
  · exact .inl ⟨by simp; omega, S', rfl⟩
theorem decodeN_cut (n m b0 b1 b2 b3 c1 c2 c3 : Nat) (hn : 1 ≤ n) (hm : n ≤ m) (h1 : 1 < n → c1 = b1) (h2 : 2 < n → c2 = b2) (h3 : 3 < n → c3 = b3)
    (e1 : n = 1 → 1 < m → c1 = 10) (e2 : n = 2 → 2 < m → c2 = 10) (e3 : n = 3 → 3 < m → c3 = 10) : Lib.decodeN m b0 c1 c2 c3 = Lib.decodeN n b0 b1 b2 b3 := by
  have k1 : (1 < m ∧ c1 / 64 = 2) ↔ (1 < n ∧ b1 / 64 = 2) := by
    constructor
    · rintro ⟨p, q⟩
      by_cases hh : 1 < n
      · rw [h1 hh] at q; exact ⟨hh, q⟩
      · rw [e1 (by omega) p] at q; exact absurd q (by decide)
    · rintro ⟨p, q⟩
      exact ⟨by omega, by rw [h1 p]; exact q⟩
  have k2 : 1 < n → ((2 < m ∧ c2 / 64 = 2) ↔ (2 < n ∧ b2 / 64 = 2)) := fun hh1 => by
    constructor
    · rintro ⟨p, q⟩
      by_cases hh : 2 < n
      · rw [h2 hh] at q; exact ⟨hh, q⟩
      · rw [e2 (by omega) p] at q; exact absurd q (by decide)
    · rintro ⟨p, q⟩
      exact ⟨by omega, by rw [h2 p]; exact q⟩
  have k3 : 2 < n → ((3 < m ∧ c3 / 64 = 2) ↔ (3 < n ∧ b3 / 64 = 2)) := fun hh1 => by
    constructor
    · rintro ⟨p, q⟩
      by_cases hh : 3 < n
      · rw [h3 hh] at q; exact ⟨hh, q⟩
      · rw [e3 (by omega) p] at q; exact absurd q (by decide)
    · rintro ⟨p, q⟩
      exact ⟨by omega, by rw [h3 p]; exact q⟩
  unfold Lib.decodeN
  by_cases p1 : 1 < n ∧ b1 / 64 = 2
  · obtain ⟨q11, q12⟩ := k1.2 p1
    obtain ⟨p11, p12⟩ := p1
    have ec1 := h1 p11
    subst ec1
    simp only [p11, q11, p12, and_self, true_and]
    by_cases p2 : 2 < n ∧ b2 / 64 = 2
    · obtain ⟨q21, q22⟩ := (k2 p11).2 p2
      obtain ⟨p21, p22⟩ := p2
      have ec2 := h2 p21
      subst ec2
      simp only [p21, q21, p22, and_self, true_and]
      by_cases p3 : 3 < n ∧ b3 / 64 = 2
      · obtain ⟨q31, q32⟩ := (k3 p21).2 p3
        obtain ⟨p31, p32⟩ := p3
        have ec3 := h3 p31
        subst ec3
        simp only [p31, q31, p32]
      · have q3 : ¬ (3 < m ∧ c3 / 64 = 2) := fun h => p3 ((k3 p21).1 h)
        simp only [p3, q3, and_false, if_false]
    · have q2 : ¬ (2 < m ∧ c2 / 64 = 2) := fun h => p2 ((k2 p11).1 h)
      simp only [p2, q2, and_false, false_and, if_false]
  · have q1 : ¬ (1 < m ∧ c1 / 64 = 2) := fun h => p1 (k1.1 h)
    simp only [p1, q1, and_false, false_and, if_false]
theorem dcL (hS : stopL S) {j : Nat} (hj : j < a.length) : dc (P ++ (a ++ S)) (P.length + j) = dc a j := by
  unfold dc
  rw [btL hj]
  have hlen : ∀ k, j + k < a.length → bt (P ++ (a ++ S)) (P.length + j + k) = bt a (j + k) := fun k hk => by
    rw [Nat.add_assoc]
    exact btL hk
  have hend : ∀ k, j + k = a.length → k < (P ++ (a ++ S)).length - (P.length + j) → bt (P ++ (a ++ S)) (P.length + j + k) = 10 := fun k hk hlt => by
    rw [Nat.add_assoc, hk]
    rcases btE (P := P) (a := a) hS with h | h
    · exact h
    · omega
  exact decodeN_cut _ _ _ _ _ _ _ _ _ (by omega) (lenL (by omega)) (fun h => hlen 1 (by omega)) (fun h => hlen 2 (by omega)) (fun h => hlen 3 (by omega)) (fun h h2 => hend 1 (by omega) h2) (fun h h2 => hend 2 (by omega) h2) (fun h h2 => hend 3 (by omega) h2)
theorem chrL (hS : stopL S) {j : Nat} (hj : j < a.length) : chr (P ++ (a ++ S)) (P.length + j) = chr a j := by
  unfold chr lo1
  rw [dcL hS hj, if_pos hj, if_pos (by simp; omega)]
theorem klL (hS : stopL S) {j : Nat} (hj : j < a.length) : kl (P ++ (a ++ S)) (P.length + j) = kl a j := by
  unfold kl
  rw [chrL hS hj]
theorem klE (hS : stopL S) : kl (P ++ (a ++ S)) (P.length + a.length) = 0 ∨ kl (P ++ (a ++ S)) (P.length + a.length) = 1 := by
  rcases hS with rfl | ⟨S', rfl⟩
  · exact .inl (kl0.2 (by simp))
  · right
    have hb : bt (P ++ (a ++ 10 :: S')) (P.length + a.length) = 10 := by
      rw [bt_shift]
      exact bt_of (l := a ++ 10 :: S') (c := 10) (by simp)
    unfold kl
    rw [(chr_asc _ _ 10 (by decide)).2 ⟨by simp, hb⟩]
    rfl
theorem inWL (hS : stopL S) {j : Nat} (hj : j ≤ a.length) : inW (P ++ (a ++ S)) (P.length + j) = inW a j := by
  rcases Nat.lt_or_ge j a.length with h | h
  · unfold inW
    rw [klL hS h]
  · obtain rfl : j = a.length := by omega
    have k0 : kl a a.length = 0 := kl0.2 (by omega)
    unfold inW
    rcases klE (P := P) (a := a) hS with e | e
    · rw [e, k0]
    · rw [e, k0]; rfl
theorem dotAL (hS : stopL S) {j c : Nat} (hj : j ≤ a.length) (hc : 2 ≤ c) : dotA (P ++ (a ++ S)) (P.length + j) c = dotA a j c := by
  rcases Nat.lt_or_ge j a.length with h | h
  · unfold dotA
    rw [klL hS h]
    rcases Nat.lt_or_ge (j + 1) a.length with h2 | h2
    · rw [Nat.add_assoc, klL hS h2]
    · have e2 : j + 1 = a.length := by omega
      have k0 : kl a a.length = 0 := kl0.2 (by omega)
      have d0 : decide (kl a (j + 1) = c) = false := decide_eq_false (by rw [e2, k0]; omega)
      have d1 : decide (kl (P ++ (a ++ S)) (P.length + j + 1) = c) = false := decide_eq_false (by
        rw [Nat.add_assoc, e2]
        rcases klE (P := P) (a := a) hS with e | e
        · rw [e]; omega
        · rw [e]; omega)
      rw [d0, d1]
  · obtain rfl : j = a.length := by omega
    have k0 : kl a a.length = 0 := kl0.2 (by omega)
    unfold dotA
    have d0 : decide (kl a a.length = 5) = false := decide_eq_false (by rw [k0]; decide)
    have d1 : decide (kl (P ++ (a ++ S)) (P.length + a.length) = 5) = false := decide_eq_false (by
      rcases klE (P := P) (a := a) hS with e | e
      · rw [e]; decide
      · rw [e]; decide)
    rw [d0, d1]
    rfl
theorem wrunL (hS : stopL S) : ∀ (m j : Nat), a.length - j ≤ m → j ≤ a.length → wrun (P ++ (a ++ S)) (P.length + j) = P.length + wrun a j
  | m, j, hm, hj => by
    have hw := inWL (P := P) hS hj
    cases h : inW a j with
    | false => rw [wrun_no h, wrun_no (hw.trans h)]
    | true =>
      have hlt := (inW_asc h).1
      match m, hm with
      | 0, hm => omega
      | m + 1, hm =>
        rw [wrun_yes h, wrun_yes (hw.trans h), Nat.add_assoc]
        exact wrunL hS m (j + 1) (by omega) hlt
theorem nrunL (hS : stopL S) : ∀ (m j : Nat), a.length - j ≤ m → j ≤ a.length → nrun (P ++ (a ++ S)) (P.length + j) = P.length + nrun a j
  | m, j, hm, hj => by
    have hw : (inW (P ++ (a ++ S)) (P.length + j) || dotA (P ++ (a ++ S)) (P.length + j) 4) = (inW a j || dotA a j 4) := by rw [inWL hS hj, dotAL hS hj (by decide)]
    cases h : (inW a j || dotA a j 4) with
    | false => rw [nrun_no h, nrun_no (hw.trans h)]
    | true =>
      have hlt : j < a.length := by
        rcases Bool.or_eq_true_iff.1 h with h | h
        · exact (inW_asc h).1
        · exact (dotA_asc h).1
      match m, hm with
      | 0, hm => omega
      | m + 1, hm =>
        rw [nrun_yes h, nrun_yes (hw.trans h), Nat.add_assoc]
        exact nrunL hS m (j + 1) (by omega) hlt
theorem findc {α : Type} {p q : α → Bool} : ∀ (L : List α), (∀ x ∈ L, p x = q x) → L.find? p = L.find? q
  | [], _ => rfl
  | x :: L, h => by
    rw [List.find?_cons, List.find?_cons, h x (by simp), findc L (fun y hy => h y (by simp [hy]))]
theorem pre_stop {s : List UInt8} (hs : ∀ c ∈ s, c ≠ 10) (hS : stopL S) : ∀ x : List UInt8, Lib.hasPrefix (x ++ S) s = Lib.hasPrefix x s := by
  unfold Lib.hasPrefix
  induction s with
  | nil => intro x; simp
  | cons c s ih =>
    intro x
    cases x with
    | nil =>
      rcases hS with rfl | ⟨S', rfl⟩
      · rfl
      · have : (c == 10) = false := beq_eq_false_iff_ne.2 (hs c (by simp))
        show (c :: s).isPrefixOf (10 :: S') = (c :: s).isPrefixOf []
        rw [List.isPrefixOf_cons_cons, this]
        rfl
    | cons y x =>
      have := ih (fun d hd => hs d (by simp [hd])) x
      simp only [List.cons_append, List.isPrefixOf_cons_cons, this]
theorem sgnL (hS : stopL S) (j : Nat) (hj : j ≤ a.length) : sgn ((P ++ (a ++ S)).drop (P.length + j)) = sgn (a.drop j) := by
  have e : (P ++ (a ++ S)).drop (P.length + j) = a.drop j ++ S := by
    rw [drop_shift, List.drop_append_of_le_length hj]
  rw [e]
  unfold sgn
  have hall : ∀ s ∈ signsL, ∀ c ∈ s, c ≠ 10 := by decide
  have : signsL.find? (fun s => Lib.hasPrefix (a.drop j ++ S) s) = signsL.find? (fun s => Lib.hasPrefix (a.drop j) s) := by
    apply findc
    intro s hs
    exact pre_stop (hall s hs) hS _
  rw [this]
end
end Go.Proofs.YtnobpeghofoniaaGreatDoor
namespace Go.Proofs.YtnobpeghofoniaaGreatDoor
open Go.RowKit Go.Shelf
section
variable {P a S : List UInt8}
theorem hexRun_stop (hS : stopL S) : ∀ (f : Nat) (x : List UInt8) (n : Nat), hexRun f (x ++ S) n = hexRun f x n
  | 0, _, _ => by unfold hexRun; rfl
  | f + 1, [], n => by
    rcases hS with rfl | ⟨S', rfl⟩
    · rfl
    · show hexRun (f + 1) (10 :: S') n = _
      rw [hexRun, hexRun, show hexD 10 = none by decide]
  | f + 1, c :: x, n => by
    show hexRun (f + 1) (c :: (x ++ S)) n = _
    rw [hexRun, hexRun]
    cases hexD c with
    | none => rfl
    | some d => simp only [hexRun_stop hS f x (16 * n + d)]
theorem bt_app {x : List UInt8} {i : Nat} (h : i < x.length) : bt (x ++ S) i = bt x i := by
  unfold bt
  rw [List.getD_eq_getElem?_getD, List.getD_eq_getElem?_getD, List.getElem?_append_left h]
theorem getD_app {x : List UInt8} {i : Nat} (h : i < x.length) : (x ++ S).getD i 0 = x.getD i 0 := by
  rw [List.getD_eq_getElem?_getD, List.getD_eq_getElem?_getD, List.getElem?_append_left h]
theorem bt_at {x S' : List UInt8} : bt (x ++ 10 :: S') x.length = 10 := bt_of (l := x ++ 10 :: S') (c := 10) (by simp)
theorem getD_at {x S' : List UInt8} : (x ++ 10 :: S').getD x.length 0 = 10 := by simp [List.getD]
theorem brS_stop (hS : stopL S) {x : List UInt8} (hx : 2 ≤ x.length) : brS (x ++ S) 0 = brS x 0 := by
  have hk := hexRun_le 6 (x.drop 3) 0
  unfold brS
  simp only [Nat.zero_add]
  by_cases h3 : x.length < 3
  · rw [if_pos (c := x.length < 3 ∨ bt x 2 ≠ 123) (.inl h3)]
    have e2 : x.length = 2 := by omega
    rcases hS with rfl | ⟨S', rfl⟩
    · rw [List.append_nil, if_pos (.inl h3)]
    · have hb : bt (x ++ 10 :: S') 2 = 10 := by rw [← e2]; exact bt_at
      rw [if_pos (.inr (by rw [hb]; decide))]
  · have hl : ¬ (x ++ S).length < 3 := by simp; omega
    have hd : (x ++ S).drop 3 = x.drop 3 ++ S := List.drop_append_of_le_length (by omega)
    rw [bt_app (by omega), hd, hexRun_stop hS]
    by_cases h123 : bt x 2 ≠ 123
    · rw [if_pos (.inr h123), if_pos (.inr h123)]
    have n1 : ¬ ((x ++ S).length < 3 ∨ bt x 2 ≠ 123) := fun e => e.elim hl h123
    have n2 : ¬ (x.length < 3 ∨ bt x 2 ≠ 123) := fun e => e.elim h3 h123
    rw [if_neg n1, if_neg n2]
    obtain ⟨k, hkk⟩ : ∃ k, (hexRun 6 (x.drop 3) 0).1 = k := ⟨_, rfl⟩
    rw [List.length_drop, hkk] at hk
    rw [hkk]
    by_cases hlt : 3 + k < x.length
    · rw [bt_app hlt]
      have e1 : ((x ++ S).length ≤ 3 + k) = (x.length ≤ 3 + k) := by
        rw [eq_iff_iff]
        constructor
        · intro h; simp at h; omega
        · intro h; omega
      simp only [e1]
    · have ek : 3 + k = x.length := by omega
      have hle : x.length ≤ 3 + k := by omega
      simp only [hle, true_or, or_true, if_true]
      rcases hS with rfl | ⟨S', rfl⟩
      · simp only [List.append_nil, hle, true_or, or_true, if_true]
      · have hb : bt (x ++ 10 :: S') (3 + k) = 10 := by rw [ek]; exact bt_at
        have hb2 : bt (x ++ 10 :: S') (3 + k) ≠ 125 := by rw [hb]; decide
        simp only [hb2, ne_eq, not_false_eq_true, true_or, or_true, if_true]
theorem escS_stop (hS : stopL S) {x : List UInt8} (hx : 1 ≤ x.length) : escS (x ++ S) 0 = escS x 0 := by
  unfold escS
  simp only [Nat.zero_add]
  by_cases h1 : x.length ≤ 1
  · have e1 : x.length = 1 := by omega
    rw [if_pos h1]
    rcases hS with rfl | ⟨S', rfl⟩
    · rw [List.append_nil, if_pos h1]
    · have hb : bt (x ++ 10 :: S') 1 = 10 := by rw [← e1]; exact bt_at
      rw [if_neg (by simp; omega), hb]
      rfl
  · rw [if_neg h1, if_neg (by simp; omega), bt_app (by omega), brS_stop hS (by omega)]
    by_cases h120 : bt x 1 = 120
    · have i1 : ¬ bt x 1 = 34 := by omega
      have i2 : ¬ bt x 1 = 92 := by omega
      have i3 : ¬ bt x 1 = 110 := by omega
      have i4 : ¬ bt x 1 = 114 := by omega
      have i5 : ¬ bt x 1 = 116 := by omega
      rw [if_neg i1, if_neg i2, if_neg i3, if_neg i4, if_neg i5, if_pos h120, if_neg i1, if_neg i2, if_neg i3, if_neg i4, if_neg i5, if_pos h120]
      by_cases h3 : 3 < x.length
      · rw [if_pos h3, if_pos (by simp; omega), getD_app (by omega), getD_app h3]
      · rw [if_neg h3]
        rcases hS with rfl | ⟨S', rfl⟩
        · rw [List.append_nil, if_neg h3]
        · have hn : hexD 10 = none := by decide
          by_cases h4 : 3 < (x ++ 10 :: S').length
          · rw [if_pos h4]
            by_cases e2 : x.length = 2
            · have hg : (x ++ 10 :: S').getD 2 0 = 10 := by rw [← e2]; exact getD_at
              rw [hg, hn]
            · have e3 : x.length = 3 := by omega
              have hg : (x ++ 10 :: S').getD 3 0 = 10 := by rw [← e3]; exact getD_at
              rw [hg, hn]
              cases hexD ((x ++ 10 :: S').getD 2 0) <;> rfl
          · rw [if_neg h4]
    · simp only [h120, if_false]
theorem escL (hS : stopL S) {j : Nat} (hj : j < a.length) : escS (P ++ (a ++ S)) (P.length + j) = escS a j := by
  have e1 : P ++ (a ++ S) = (P ++ a.take j) ++ (a.drop j ++ S) := by
    rw [List.append_assoc, ← List.append_assoc (a.take j), List.take_append_drop]
  have e2 : P.length + j = (P ++ a.take j).length := by simp; omega
  have e3 : escS a j = escS (a.take j ++ a.drop j) (a.take j).length := by
    rw [List.take_append_drop, List.length_take, Nat.min_eq_left (by omega)]
  rw [e1, e2, escS_shift, e3, escS_shift]
  exact escS_stop hS (by simp; omega)
/-- a quoted text in a line, in the text and in the line alone -/
theorem insL (hS : stopL S) : ∀ (m j : Nat) (s : List UInt8), a.length - j ≤ m → j ≤ a.length →
    insS (P ++ (a ++ S)) (P.length + j) s = if (insS a j s).2.2 = 32 then ([], P.length + a.length, if S = [] then 32 else 33) else ((insS a j s).1, P.length + (insS a j s).2.1, (insS a j s).2.2)
  | m, j, s, hm, hj => by
    rcases Nat.lt_or_ge j a.length with h | h
    · match m, hm with
      | 0, hm => omega
      | m + 1, hm =>
        have hl : P.length + j < (P ++ (a ++ S)).length := by simp; omega
        have hdrop : ((P ++ (a ++ S)).drop (P.length + j)).take (dc a j).2 = (a.drop j).take (dc a j).2 := by
          have := dc_le a j h
          rw [drop_shift, List.drop_append_of_le_length hj, List.take_append_of_le_length (by simp; omega)]
        rw [insS, if_pos hl, btL h, escL hS h, dcL hS h, hdrop]
        have hlo : lo1 (P ++ (a ++ S)) (P.length + j) = lo1 a j := by unfold lo1; rw [dcL hS h]
        rw [hlo]
        rw [show insS a j s = _ from by rw [insS, if_pos h]]
        by_cases c34 : bt a j = 34
        · simp only [c34, if_true]
          rfl
        simp only [c34, if_false]
        by_cases c92 : bt a j = 92
        · simp only [c92, if_true]
          by_cases c0 : (escS a j).1 = 0
          · simp only [c0, if_true]
            rfl
          · simp only [c0, if_false]
            have := (escS_end a j (by omega)).1
            rw [Nat.add_assoc]
            exact insL hS m (j + (escS a j).1) _ (by omega) this
        simp only [c92, if_false]
        by_cases cb : lo1 a j = true ∨ bt a j < 32 ∨ bt a j = 127
        · simp only [cb, if_true]
          rfl
        · simp only [cb, if_false]
          have hp := dc_pos a j
          have := dc_le a j h
          rw [Nat.add_assoc]
          exact insL hS m (j + (dc a j).2) _ (by omega) this
    · obtain rfl : j = a.length := by omega
      have e0 : insS a a.length s = ([], a.length, 32) := by rw [insS, if_neg (by omega)]
      rw [e0]
      simp only [if_true]
      rcases hS with rfl | ⟨S', rfl⟩
      · rw [insS, if_neg (by simp)]
        simp
      · have hb : bt (P ++ (a ++ 10 :: S')) (P.length + a.length) = 10 := by rw [bt_shift]; exact bt_at
        rw [insS, if_pos (by simp), hb]
        simp
end
end Go.Proofs.YtnobpeghofoniaaGreatDoor
namespace Go.Proofs.YtnobpeghofoniaaGreatDoor
open Go.RowKit Go.Shelf
theorem insS_at (l : List UInt8) : ∀ (m j : Nat) (s : List UInt8), l.length - j ≤ m → j ≤ l.length → ((insS l j s).2.2 = 32 → (insS l j s).2.1 = l.length) ∧ ((insS l j s).2.2 = 33 → (insS l j s).2.1 < l.length) := by
  intro m
  induction m with
  | zero =>
    intro j s h hj
    rw [insS, if_neg (by omega)]
    exact ⟨fun _ => rfl, fun h => by simp at h⟩
  | succ m ih =>
    intro j s h hj
    by_cases h1 : j < l.length
    · rw [insS, if_pos h1]
      split
      · exact ⟨fun h => by simp at h, fun h => by simp at h⟩
      · split
        · split
          · exact ⟨fun h => by simp at h, fun h => by simp at h⟩
          · have := (escS_end l j (by omega)).1
            exact ih _ _ (by omega) this
        · split
          · exact ⟨fun h => by simp at h, fun _ => h1⟩
          · have hp := dc_pos l j
            have := dc_le l j h1
            exact ih _ _ (by omega) this
    · rw [insS, if_neg h1]
      exact ⟨fun _ => rfl, fun h => by simp at h⟩
section
variable {P a S : List UInt8}
theorem quoEL (hS : stopL S) {j : Nat} (hj : j < a.length) : quoE (P ++ (a ++ S)) (P.length + j) = quoE a j ∧ quoJ (P ++ (a ++ S)) (P.length + j) = P.length + quoJ a j := by
  have hi := insL (P := P) hS _ (j + 1) [] (Nat.le_refl _) (show j + 1 ≤ a.length from hj)
  obtain ⟨h32, h33⟩ := insS_at a _ (j + 1) [] (Nat.le_refl _) hj
  unfold quoE quoJ
  rw [Nat.add_assoc, hi]
  by_cases e : (insS a (j + 1) []).2.2 = 32
  · have e1 := h32 e
    rw [if_pos e]
    rw [e, e1]
    rcases hS with rfl | ⟨S', rfl⟩
    · simp
    · have hk : kl (P ++ (a ++ 10 :: S')) (P.length + a.length) = 1 := by
        rcases klE (P := P) (a := a) (S := 10 :: S') (.inr ⟨S', rfl⟩) with h | h
        · exact absurd (kl0.1 h) (by simp)
        · exact h
      simp [hk]
  · rw [if_neg e]
    by_cases e33 : (insS a (j + 1) []).2.2 = 33
    · have hk := klL (P := P) hS (h33 e33)
      simp only [e33, hk]
      simp
    · simp only [e33, false_and, if_false]
      split
      · exact ⟨trivial, rfl⟩
      · exact ⟨trivial, rfl⟩
theorem subLL {j e : Nat} (hj : j ≤ e) (he : e ≤ a.length) : subL (P ++ (a ++ S)) (P.length + j) (P.length + e) = subL a j e := by
  unfold subL
  rw [drop_shift, List.drop_append_of_le_length (by omega), show P.length + e - (P.length + j) = e - j by omega, List.take_append_of_le_length (by simp; omega)]
/-- the bounds of a token's end -/
theorem tokC_le {l : List UInt8} {j : Nat} (hj : j < l.length) : j ≤ (tokC l j).2 ∧ (tokC l j).2 ≤ l.length := by
  have wr := wrun_ge l _ (j + 1) (Nat.le_refl _)
  have nr := nrun_ge l _ (j + 1) (Nat.le_refl _)
  have wr2 := wrun_ge l _ (wrun l (j + 1) + 1) (Nat.le_refl _)
  have hw1 := wr.2 hj
  have hn1 := nr.2 hj
  have hg := insS_ge l _ (j + 1) [] (Nat.le_refl _) hj
  have hle := insS_le l _ (j + 1) [] (Nat.le_refl _) hj
  obtain ⟨hs1, _⟩ := sgn_pre (l.drop j)
  rw [List.length_drop] at hs1
  unfold tokC
  split
  · show j ≤ (if dotA l (wrun l (j + 1)) 3 = true then ((3 : Nat), wrun l (wrun l (j + 1) + 1)) else (2, wrun l (j + 1))).2 ∧ (if dotA l (wrun l (j + 1)) 3 = true then ((3 : Nat), wrun l (wrun l (j + 1) + 1)) else (2, wrun l (j + 1))).2 ≤ l.length
    split
    · rename_i hd
      have := (dotA_asc hd).1
      have := wr2.2 (by omega)
      exact ⟨by simp only; omega, by simp only; omega⟩
    · exact ⟨by simp only; omega, by simp only; omega⟩
  · split
    · show j ≤ nrun l (j + 1) ∧ nrun l (j + 1) ≤ l.length
      omega
    · split
      · show j ≤ wrun l (j + 1) ∧ wrun l (j + 1) ≤ l.length
        omega
      · split
        · show j ≤ quoJ l j ∧ quoJ l j ≤ l.length
          unfold quoJ
          split
          · omega
          · omega
        · show j ≤ j + sgn (l.drop j) ∧ j + sgn (l.drop j) ≤ l.length
          omega
theorem tokCL (hS : stopL S) {j : Nat} (hj : j < a.length) : tokC (P ++ (a ++ S)) (P.length + j) = ((tokC a j).1, P.length + (tokC a j).2) := by
  have w1 := wrunL (P := P) hS _ (j + 1) (Nat.le_refl _) hj
  have n1 := nrunL (P := P) hS _ (j + 1) (Nat.le_refl _) hj
  have hwl := (wrun_ge a _ (j + 1) (Nat.le_refl _)).2 hj
  rw [← Nat.add_assoc] at w1 n1
  unfold tokC
  rw [klL hS hj]
  by_cases k3 : kl a j = 3
  · rw [if_pos k3, if_pos k3]
    show (if dotA (P ++ (a ++ S)) (wrun (P ++ (a ++ S)) (P.length + j + 1)) 3 = true then ((3 : Nat), wrun (P ++ (a ++ S)) (wrun (P ++ (a ++ S)) (P.length + j + 1) + 1)) else (2, wrun (P ++ (a ++ S)) (P.length + j + 1))) = _
    rw [w1, dotAL hS hwl (by decide)]
    show _ = ((if dotA a (wrun a (j + 1)) 3 = true then ((3 : Nat), wrun a (wrun a (j + 1) + 1)) else (2, wrun a (j + 1))).1, P.length + (if dotA a (wrun a (j + 1)) 3 = true then ((3 : Nat), wrun a (wrun a (j + 1) + 1)) else (2, wrun a (j + 1))).2)
    by_cases hd : dotA a (wrun a (j + 1)) 3 = true
    · have hlt := (dotA_asc hd).1
      have w2 := wrunL (P := P) hS _ (wrun a (j + 1) + 1) (Nat.le_refl _) hlt
      rw [if_pos hd, if_pos hd, Nat.add_assoc, w2]
    · rw [if_neg hd, if_neg hd]
  rw [if_neg k3, if_neg k3]
  by_cases k4 : kl a j = 4
  · rw [if_pos k4, if_pos k4]
    show ((4 : Nat), nrun (P ++ (a ++ S)) (P.length + j + 1)) = (4, P.length + nrun a (j + 1))
    rw [n1]
  rw [if_neg k4, if_neg k4]
  by_cases k6 : kl a j = 6
  · rw [if_pos k6, if_pos k6]
    show ((5 : Nat), wrun (P ++ (a ++ S)) (P.length + j + 1)) = (5, P.length + wrun a (j + 1))
    rw [w1]
  rw [if_neg k6, if_neg k6]
  by_cases k7 : kl a j = 7
  · rw [if_pos k7, if_pos k7]
    show ((6 : Nat), quoJ (P ++ (a ++ S)) (P.length + j)) = (6, P.length + quoJ a j)
    rw [(quoEL hS hj).2]
  rw [if_neg k7, if_neg k7, sgnL hS j (by omega), Nat.add_assoc]
theorem tokEL (hS : stopL S) {j : Nat} (hj : j < a.length) : tokE (P ++ (a ++ S)) (P.length + j) = tokE a j ∧ tokJ (P ++ (a ++ S)) (P.length + j) = P.length + tokJ a j := by
  obtain ⟨q1, q2⟩ := quoEL (P := P) hS hj
  obtain ⟨t1, t2⟩ := tokC_le hj
  have hs := subLL (P := P) (S := S) t1 t2
  unfold tokE tokJ
  rw [klL hS hj, q1, q2, tokCL hS hj]
  simp only [hs]
  refine ⟨trivial, ?_⟩
  split
  · rfl
  · split
    · rfl
    · rfl
end
end Go.Proofs.YtnobpeghofoniaaGreatDoor
namespace Go.Proofs.YtnobpeghofoniaaGreatDoor
open Go.RowKit Go.Shelf
/-- a byte at which a character begins -/
def RE (l : List UInt8) (j : Nat) : Prop := ∃ k, AT l k j
theorem RE.zero (l : List UInt8) : RE l 0 := ⟨0, rfl⟩
theorem RE.asc {l : List UInt8} {j : Nat} (h : RE l j) (hj : j < l.length) (hb : bt l j < 128) : RE l (j + 1) := by
  obtain ⟨k, h⟩ := h
  exact ⟨k + 1, h.asc hj hb⟩
theorem RE.next {l : List UInt8} {j : Nat} (h : RE l j) (hj : j < l.length) : RE l (j + (dc l j).2) := by
  obtain ⟨k, h⟩ := h
  exact ⟨k + 1, h.next hj⟩
theorem RE.wrun {l : List UInt8} : ∀ (m j : Nat), l.length - j ≤ m → RE l j → RE l (wrun l j)
  | m, j, hm, h => by
    cases hw : inW l j with
    | false => rw [wrun_no hw]; exact h
    | true =>
      obtain ⟨h1, h2⟩ := inW_asc hw
      match m, hm with
      | 0, hm => omega
      | m + 1, hm =>
        rw [wrun_yes hw]
        exact RE.wrun m (j + 1) (by omega) (h.asc h1 h2)
theorem RE.nrun {l : List UInt8} : ∀ (m j : Nat), l.length - j ≤ m → RE l j → RE l (nrun l j)
  | m, j, hm, h => by
    cases hw : (inW l j || dotA l j 4) with
    | false => rw [nrun_no hw]; exact h
    | true =>
      have ⟨h1, h2⟩ : j < l.length ∧ bt l j < 128 := by
        rcases Bool.or_eq_true_iff.1 hw with h | h
        · exact inW_asc h
        · exact dotA_asc h
      match m, hm with
      | 0, hm => omega
      | m + 1, hm =>
        rw [nrun_yes hw]
        exact RE.nrun m (j + 1) (by omega) (h.asc h1 h2)
theorem RE.ins {l : List UInt8} : ∀ (m j : Nat) (s : List UInt8), l.length - j ≤ m → j ≤ l.length → RE l j → RE l (insS l j s).2.1 := by
  intro m
  induction m with
  | zero =>
    intro j s h hj hr
    rw [insS, if_neg (by omega)]
    obtain rfl : j = l.length := by omega
    exact hr
  | succ m ih =>
    intro j s h hj hr
    by_cases h1 : j < l.length
    · rw [insS, if_pos h1]
      split
      · rename_i h34
        exact hr.asc h1 (by omega)
      · split
        · rename_i h92
          split
          · exact hr
          · rename_i hne
            have he := (escS_end l j (by omega)).1
            refine ih _ _ (by omega) he ?_
            obtain ⟨k, hk⟩ := hr
            have hd := escS_drop l j h1 h92 (by omega)
            exact ⟨k + (escS l j).1, by
              show (chars l 0).drop _ = _
              rw [← List.drop_drop, show (chars l 0).drop k = chars l j from hk]
              exact hd⟩
        · split
          · exact hr
          · have hp := dc_pos l j
            have := dc_le l j h1
            exact ih _ _ (by omega) this (hr.next h1)
    · rw [insS, if_neg h1]
      obtain rfl : j = l.length := by omega
      exact hr
theorem RE.cend {l : List UInt8} : ∀ (m j : Nat), l.length - j ≤ m → RE l j → RE l (cend l j)
  | m, j, hm, h => by
    by_cases hk : kl l j = 1 ∨ kl l j = 0
    · rw [cend_end hk]; exact h
    · have h1 : kl l j ≠ 1 := fun e => hk (.inl e)
      have h0 : kl l j ≠ 0 := fun e => hk (.inr e)
      have hj : j < l.length := Classical.byContradiction (fun e => h0 (kl0.2 e))
      have hp := dc_pos l j
      match m, hm with
      | 0, hm => omega
      | m + 1, hm =>
        rw [cend_on h1 h0]
        exact RE.cend m _ (by omega) (h.next hj)
theorem RE.tok {l : List UInt8} {j : Nat} (h : RE l j) (hj : j < l.length) : RE l (tokJ l j) := by
  have hq : kl l j = 7 → RE l (quoJ l j) := fun h7 => by
    unfold quoJ
    split
    · exact h
    · obtain ⟨h1, h2⟩ := kl_asc (l := l) (j := j) (by omega) (by omega)
      exact RE.ins _ _ _ (Nat.le_refl _) hj (h.asc h1 h2)
  unfold tokJ
  split
  · rename_i h7
    exact hq h7.1
  · split
    · unfold tokC
      split
      · rename_i k3
        obtain ⟨h1, h2⟩ := kl_asc (l := l) (j := j) (by omega) (by omega)
        have hw := RE.wrun _ _ (Nat.le_refl _) (h.asc h1 h2)
        show RE l (if dotA l (Proofs.YtnobpeghofoniaaGreatDoor.wrun l (j + 1)) 3 = true then ((3 : Nat), Proofs.YtnobpeghofoniaaGreatDoor.wrun l (Proofs.YtnobpeghofoniaaGreatDoor.wrun l (j + 1) + 1)) else (2, Proofs.YtnobpeghofoniaaGreatDoor.wrun l (j + 1))).2
        split
        · rename_i hd
          obtain ⟨d1, d2⟩ := dotA_asc hd
          exact RE.wrun _ _ (Nat.le_refl _) (hw.asc d1 d2)
        · exact hw
      · split
        · obtain ⟨h1, h2⟩ := kl_asc (l := l) (j := j) (by omega) (by omega)
          exact RE.nrun _ _ (Nat.le_refl _) (h.asc h1 h2)
        · split
          · obtain ⟨h1, h2⟩ := kl_asc (l := l) (j := j) (by omega) (by omega)
            exact RE.wrun _ _ (Nat.le_refl _) (h.asc h1 h2)
          · split
            · rename_i k7
              exact hq k7
            · obtain ⟨k, hk⟩ := h
              exact ⟨_, (at_sgn hk (Nat.le_of_lt hj)).1⟩
    · exact h
section
variable {P a S : List UInt8}
/-- a character of the line is one of the text -/
theorem charsL (hS : stopL S) : ∀ (i j j' : Nat), j ≤ a.length → j' ≤ a.length → (chars a j).drop i = chars a j' → (chars (P ++ (a ++ S)) (P.length + j)).drop i = chars (P ++ (a ++ S)) (P.length + j')
  | 0, j, j', hj, hj', h => by
    have h2 : chars a j = chars a j' := h
    obtain ⟨r1, e1⟩ := chars_head a j
    obtain ⟨r2, e2⟩ := chars_head a j'
    rw [e1, e2] at h2
    have h3 := congrArg Prod.snd (List.cons.inj h2).1
    simp only at h3
    have : j = j' := by
      split at h3
      · split at h3
        · exact h3
        · omega
      · split at h3
        · omega
        · omega
    rw [this]
    rfl
  | i + 1, j, j', hj, hj', h => by
    by_cases hlt : j < a.length
    · rw [chars_lt hlt, List.drop_succ_cons] at h
      have hl : P.length + j < (P ++ (a ++ S)).length := by simp; omega
      rw [chars_lt hl, List.drop_succ_cons, dcL hS hlt, Nat.add_assoc]
      exact charsL hS i _ j' (dc_le a j hlt) hj' h
    · rw [chars_end hlt] at h
      obtain ⟨r, e⟩ := chars_head a j'
      rw [e] at h
      simp at h
theorem atL (hS : stopL S) {k0 k j : Nat} (h0 : AT (P ++ (a ++ S)) k0 P.length) (hj : j ≤ a.length) (h : AT a k j) : AT (P ++ (a ++ S)) (k0 + k) (P.length + j) := by
  have := charsL (P := P) hS k 0 j (Nat.zero_le _) hj h
  show (chars (P ++ (a ++ S)) 0).drop (k0 + k) = _
  rw [← List.drop_drop, show (chars (P ++ (a ++ S)) 0).drop k0 = chars (P ++ (a ++ S)) P.length from h0]
  exact this
/-- columns are counted in the line -/
theorem ciL (hS : stopL S) (h0 : RE (P ++ (a ++ S)) P.length) {j : Nat} (hj : j ≤ a.length) (h : RE a j) : ci (P ++ (a ++ S)) (P.length + j) - ci (P ++ (a ++ S)) P.length = ci a j - ci a 0 := by
  obtain ⟨k0, h0⟩ := h0
  obtain ⟨k, h⟩ := h
  have h1 := (atL hS h0 hj h).ci
  have h2 := h0.ci
  have h3 := h.ci
  have h4 : ci a 0 = 0 := by unfold ci; omega
  omega
end
end Go.Proofs.YtnobpeghofoniaaGreatDoor
namespace Go.Proofs.YtnobpeghofoniaaGreatDoor
open Go.RowKit Go.Shelf
/-- a line: no byte ends it -/
def noNL (a : List UInt8) : Prop := ∀ j, j < a.length → kl a j ≠ 1
theorem cend_noNL {a : List UInt8} (hn : noNL a) : ∀ (m j : Nat), a.length - j ≤ m → j ≤ a.length → cend a j = a.length
  | m, j, hm, hj => by
    by_cases hlt : j < a.length
    · have hp := dc_pos a j
      have hl := dc_le a j hlt
      match m, hm with
      | 0, hm => omega
      | m + 1, hm =>
        rw [cend_on (hn j hlt) (fun e => kl0.1 e hlt)]
        exact cend_noNL hn m _ (by omega) hl
    · rw [cend_end (.inr (kl0.2 hlt))]
      omega
section
variable {P a S : List UInt8}
theorem cendL (hS : stopL S) (hn : noNL a) : ∀ (m j : Nat), a.length - j ≤ m → j ≤ a.length → cend (P ++ (a ++ S)) (P.length + j) = P.length + a.length
  | m, j, hm, hj => by
    by_cases hlt : j < a.length
    · have hp := dc_pos a j
      have hl := dc_le a j hlt
      have hk := klL (P := P) hS hlt
      match m, hm with
      | 0, hm => omega
      | m + 1, hm =>
        rw [cend_on (by rw [hk]; exact hn j hlt) (by rw [hk]; exact fun e => kl0.1 e hlt), dcL hS hlt, Nat.add_assoc]
        exact cendL hS hn m _ (by omega) hl
    · obtain rfl : j = a.length := by omega
      exact cend_end (klE (P := P) (a := a) hS).symm
/-- what a line's answer becomes in the text -/
def goesOn (f : Nat) (P a S : List UInt8) (line : Nat) (r : Res) : Res := if r.2.1 ≠ 0 then r else if S = [] then r else runM f (P ++ (a ++ S)) (P.length + a.length + 1) (line + 1) (P.length + a.length + 1) r.1
theorem lend_line (hS : stopL S) (h0 : RE (P ++ (a ++ S)) P.length) (f g line : Nat) (D : List Tok) (hr : RE a a.length) : lendM f (P ++ (a ++ S)) (P.length + a.length) line P.length D = goesOn f P a S line (lendM g a a.length line 0 D) := by
  have hc := ciL (P := P) hS h0 (Nat.le_refl _) hr
  have ha : lendM g a a.length line 0 D = (endT D line (ci a a.length - ci a 0 + 1), 0, 0, 0) := by
    unfold lendM
    rw [if_pos (kl0.2 (Nat.lt_irrefl _))]
  rw [ha]
  have hg : goesOn f P a S line (endT D line (ci a a.length - ci a 0 + 1), 0, 0, 0) = if S = [] then (endT D line (ci a a.length - ci a 0 + 1), 0, 0, 0) else runM f (P ++ (a ++ S)) (P.length + a.length + 1) (line + 1) (P.length + a.length + 1) (endT D line (ci a a.length - ci a 0 + 1)) := by
    unfold goesOn
    exact if_neg (fun h => h rfl)
  rw [hg]
  unfold lendM
  rw [hc]
  rcases hS with rfl | ⟨S', rfl⟩
  · have hk : kl (P ++ (a ++ [])) (P.length + a.length) = 0 := kl0.2 (by simp)
    rw [if_pos hk, if_pos rfl]
  · have hk : ¬ kl (P ++ (a ++ 10 :: S')) (P.length + a.length) = 0 := fun e => kl0.1 e (by simp)
    have hs : ¬ (10 :: S' = []) := by simp
    rw [if_neg hk, if_neg hs]
/-- a line in a text is read as it is read alone -/
theorem line_run (hS : stopL S) (h0 : RE (P ++ (a ++ S)) P.length) (hn : noNL a) : ∀ (f j line : Nat) (D : List Tok), j ≤ a.length → a.length - j < f → RE a j → ∃ f', f ≤ f' + (a.length - j) + 1 ∧ f' < f ∧ runM f (P ++ (a ++ S)) (P.length + j) line P.length D = goesOn f' P a S line (runM f a j line 0 D)
  | 0, j, line, D, hj, hf, hr => by omega
  | f + 1, j, line, D, hj, hf, hr => by
    by_cases hlt : j < a.length
    · have hk := klL (P := P) hS hlt
      have h0' : kl a j ≠ 0 := fun e => kl0.1 e hlt
      have h1 := hn j hlt
      by_cases h2 : kl a j = 2
      · obtain ⟨_, hb⟩ := kl_asc (l := a) (j := j) (by omega) (by omega)
        obtain ⟨f', e1, e2, e3⟩ := line_run hS h0 hn f (j + 1) line D hlt (by omega) (hr.asc hlt hb)
        refine ⟨f', by omega, by omega, ?_⟩
        rw [runM_blank (by rw [hk]; exact h2), runM_blank h2, Nat.add_assoc]
        exact e3
      by_cases h8 : kl a j = 8
      · obtain ⟨_, hb⟩ := kl_asc (l := a) (j := j) (by omega) (by omega)
        have hc := cend_noNL hn _ (j + 1) (Nat.le_refl _) hlt
        have hre : RE a a.length := by
          have := RE.cend _ _ (Nat.le_refl _) (hr.asc hlt hb)
          rwa [hc] at this
        refine ⟨f, by omega, by omega, ?_⟩
        rw [runM_hash (by rw [hk]; exact h8), runM_hash h8, Nat.add_assoc, cendL hS hn _ (j + 1) (Nat.le_refl _) hlt, hc]
        exact lend_line hS h0 f f line D hre
      obtain ⟨tE, tJ⟩ := tokEL (P := P) hS hlt
      have hcj := ciL (P := P) hS h0 hj hr
      by_cases he : tokE a j = 0
      · obtain ⟨a1, a2⟩ := tok_adv hlt h1 he
        obtain ⟨f', e1, e2, e3⟩ := line_run hS h0 hn f (tokJ a j) line (D ++ [((tokC a j).1, subL a j (tokC a j).2, line, ci a j - ci a 0 + 1)]) a2 (by omega) (hr.tok hlt)
        refine ⟨f', by omega, by omega, ?_⟩
        obtain ⟨c1, c2⟩ := tokC_le hlt
        rw [runM_tok (by rw [hk]; exact h2) (by rw [hk]; exact h8) (by rw [hk]; exact h1) (by rw [hk]; exact h0') (by rw [tE]; exact he), runM_tok h2 h8 h1 h0' he, tJ, tokCL hS hlt, hcj]
        simp only [subLL c1 c2]
        exact e3
      · obtain ⟨g1, g2⟩ := tok_ge hlt he
        refine ⟨f, by omega, by omega, ?_⟩
        rw [runM_err (by rw [hk]; exact h2) (by rw [hk]; exact h8) (by rw [hk]; exact h1) (by rw [hk]; exact h0') (by rw [tE]; exact he), runM_err h2 h8 h1 h0' he, tE, tJ, ciL hS h0 g2 (hr.tok hlt)]
        unfold goesOn
        rw [if_pos he]
    · obtain rfl : j = a.length := by omega
      refine ⟨f, by omega, by omega, ?_⟩
      rw [runM_end (klE (P := P) (a := a) hS).symm, runM_end (.inr (kl0.2 hlt))]
      exact lend_line hS h0 f f line D hr
end
end Go.Proofs.YtnobpeghofoniaaGreatDoor

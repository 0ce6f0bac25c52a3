import Derived.Test.YthlgjdadkmpbbaaDoorXAY
import Derived.Test.YthlgjdadkmpbbaaDoorXAZ
import Derived.Test.YthlgjdadkmpbbaaDoorXAE
namespace Go.Proofs.YthlgjdadkmpbbaaDoor
open Go.RowKit Go.Shelf
set_option maxRecDepth 100000 in
theorem arr_67 (u : Array Value) (h : u.size = 67) : ∃ u0 u1 u2 u3 u4 u5 u6 u7 u8 u9 u10 u11 u12 u13 u14 u15 u16 u17 u18 u19 u20 u21 u22 u23 u24 u25 u26 u27 u28 u29 u30 u31 u32 u33 u34 u35 u36 u37 u38 u39 u40 u41 u42 u43 u44 u45 u46 u47 u48 u49 u50 u51 u52 u53 u54 u55 u56 u57 u58 u59 u60 u61 u62 u63 u64 u65 u66, u = #[u0, u1, u2, u3, u4, u5, u6, u7, u8, u9, u10, u11, u12, u13, u14, u15, u16, u17, u18, u19, u20, u21, u22, u23, u24, u25, u26, u27, u28, u29, u30, u31, u32, u33, u34, u35, u36, u37, u38, u39, u40, u41, u42, u43, u44, u45, u46, u47, u48, u49, u50, u51, u52, u53, u54, u55, u56, u57, u58, u59, u60, u61, u62, u63, u64, u65, u66] := by
  obtain ⟨l⟩ := u
  have h' : l.length = 67 := by simpa using h
  obtain ⟨u0, r0, rfl, h0⟩ := uncons h'
  obtain ⟨u1, r1, rfl, h1⟩ := uncons h0
  obtain ⟨u2, r2, rfl, h2⟩ := uncons h1
  obtain ⟨u3, r3, rfl, h3⟩ := uncons h2
  obtain ⟨u4, r4, rfl, h4⟩ := uncons h3
  obtain ⟨u5, r5, rfl, h5⟩ := uncons h4
  obtain ⟨u6, r6, rfl, h6⟩ := uncons h5
  obtain ⟨u7, r7, rfl, h7⟩ := uncons h6
  obtain ⟨u8, r8, rfl, h8⟩ := uncons h7
  obtain ⟨u9, r9, rfl, h9⟩ := uncons h8
  obtain ⟨u10, r10, rfl, h10⟩ := uncons h9
  obtain ⟨u11, r11, rfl, h11⟩ := uncons h10
  obtain ⟨u12, r12, rfl, h12⟩ := uncons h11
  obtain ⟨u13, r13, rfl, h13⟩ := uncons h12
  obtain ⟨u14, r14, rfl, h14⟩ := uncons h13
  obtain ⟨u15, r15, rfl, h15⟩ := uncons h14
  obtain ⟨u16, r16, rfl, h16⟩ := uncons h15
  obtain ⟨u17, r17, rfl, h17⟩ := uncons h16
  obtain ⟨u18, r18, rfl, h18⟩ := uncons h17
  obtain ⟨u19, r19, rfl, h19⟩ := uncons h18
  obtain ⟨u20, r20, rfl, h20⟩ := uncons h19
  obtain ⟨u21, r21, rfl, h21⟩ := uncons h20
  obtain ⟨u22, r22, rfl, h22⟩ := uncons h21
  obtain ⟨u23, r23, rfl, h23⟩ := uncons h22
  obtain ⟨u24, r24, rfl, h24⟩ := uncons h23
  obtain ⟨u25, r25, rfl, h25⟩ := uncons h24
  obtain ⟨u26, r26, rfl, h26⟩ := uncons h25
  obtain ⟨u27, r27, rfl, h27⟩ := uncons h26
  obtain ⟨u28, r28, rfl, h28⟩ := uncons h27
  obtain ⟨u29, r29, rfl, h29⟩ := uncons h28
  obtain ⟨u30, r30, rfl, h30⟩ := uncons h29
  obtain ⟨u31, r31, rfl, h31⟩ := uncons h30
  obtain ⟨u32, r32, rfl, h32⟩ := uncons h31
  obtain ⟨u33, r33, rfl, h33⟩ := uncons h32
  obtain ⟨u34, r34, rfl, h34⟩ := uncons h33
  obtain ⟨u35, r35, rfl, h35⟩ := uncons h34
  obtain ⟨u36, r36, rfl, h36⟩ := uncons h35
  obtain ⟨u37, r37, rfl, h37⟩ := uncons h36
  obtain ⟨u38, r38, rfl, h38⟩ := uncons h37
  obtain ⟨u39, r39, rfl, h39⟩ := uncons h38
  obtain ⟨u40, r40, rfl, h40⟩ := uncons h39
  obtain ⟨u41, r41, rfl, h41⟩ := uncons h40
  obtain ⟨u42, r42, rfl, h42⟩ := uncons h41
  obtain ⟨u43, r43, rfl, h43⟩ := uncons h42
  obtain ⟨u44, r44, rfl, h44⟩ := uncons h43
  obtain ⟨u45, r45, rfl, h45⟩ := uncons h44
  obtain ⟨u46, r46, rfl, h46⟩ := uncons h45
  obtain ⟨u47, r47, rfl, h47⟩ := uncons h46
  obtain ⟨u48, r48, rfl, h48⟩ := uncons h47
  obtain ⟨u49, r49, rfl, h49⟩ := uncons h48
  obtain ⟨u50, r50, rfl, h50⟩ := uncons h49
  obtain ⟨u51, r51, rfl, h51⟩ := uncons h50
  obtain ⟨u52, r52, rfl, h52⟩ := uncons h51
  obtain ⟨u53, r53, rfl, h53⟩ := uncons h52
  obtain ⟨u54, r54, rfl, h54⟩ := uncons h53
  obtain ⟨u55, r55, rfl, h55⟩ := uncons h54
  obtain ⟨u56, r56, rfl, h56⟩ := uncons h55
  obtain ⟨u57, r57, rfl, h57⟩ := uncons h56
  obtain ⟨u58, r58, rfl, h58⟩ := uncons h57
  obtain ⟨u59, r59, rfl, h59⟩ := uncons h58
  obtain ⟨u60, r60, rfl, h60⟩ := uncons h59
  obtain ⟨u61, r61, rfl, h61⟩ := uncons h60
  obtain ⟨u62, r62, rfl, h62⟩ := uncons h61
  obtain ⟨u63, r63, rfl, h63⟩ := uncons h62
  obtain ⟨u64, r64, rfl, h64⟩ := uncons h63
  obtain ⟨u65, r65, rfl, h65⟩ := uncons h64
  obtain ⟨u66, r66, rfl, h66⟩ := uncons h65
  obtain rfl := List.length_eq_zero_iff.1 h66
  exact ⟨u0, u1, u2, u3, u4, u5, u6, u7, u8, u9, u10, u11, u12, u13, u14, u15, u16, u17, u18, u19, u20, u21, u22, u23, u24, u25, u26, u27, u28, u29, u30, u31, u32, u33, u34, u35, u36, u37, u38, u39, u40, u41, u42, u43, u44, u45, u46, u47, u48, u49, u50, u51, u52, u53, u54, u55, u56, u57, u58, u59, u60, u61, u62, u63, u64, u65, u66, rfl⟩

theorem insS_le (l : List UInt8) : ∀ (m j : Nat) (s : List UInt8), l.length - j ≤ m → j ≤ l.length → (insS l j s).2.1 ≤ l.length := by
  intro m
  induction m with
  | zero =>
    intro j s h hj
    rw [insS, if_neg (by omega)]
    exact Nat.le_refl _
  | succ m ih =>
    intro j s h hj
    rw [insS]
    by_cases h1 : j < l.length
    · rw [if_pos h1]
      split
      · exact h1
      · split
        · split
          · exact hj
          · have := (escS_end l j (by omega)).1
            exact ih (j + (escS l j).1) (s ++ (escS l j).2) (by omega) (by omega)
        · split
          · exact hj
          · have hp := dc_pos l j
            have hl := dc_le l j h1
            exact ih (j + (dc l j).2) (s ++ (l.drop j).take (dc l j).2) (by omega) (by omega)
    · rw [if_neg h1]
      exact Nat.le_refl _
theorem tok_ge {l : List UInt8} {j : Nat} (hj : j < l.length) (he : tokE l j ≠ 0) : j ≤ tokJ l j ∧ tokJ l j ≤ l.length := by
  have hj1 : j + 1 ≤ l.length := hj
  unfold tokE at he
  unfold tokJ
  split
  · have hg := insS_ge l _ (j + 1) [] (Nat.le_refl _) hj1
    have hle := insS_le l _ (j + 1) [] (Nat.le_refl _) hj1
    unfold quoJ
    split
    · omega
    · omega
  · rename_i h7
    rw [if_neg h7] at he
    rw [if_neg he]
    omega
theorem tok_adv {l : List UInt8} {j : Nat} (hj : j < l.length) (_ : kl l j ≠ 1) (he : tokE l j = 0) : j < tokJ l j ∧ tokJ l j ≤ l.length := by
  have hj1 : j + 1 ≤ l.length := hj
  have wr := wrun_ge l _ (j + 1) (Nat.le_refl _)
  have nr := nrun_ge l _ (j + 1) (Nat.le_refl _)
  have wr2 := wrun_ge l _ (wrun l (j + 1) + 1) (Nat.le_refl _)
  have hw1 := wr.2 hj1
  have hn1 := nr.2 hj1
  by_cases h7 : kl l j = 7 ∧ quoE l j ≠ 0
  · unfold tokE at he
    rw [if_pos h7] at he
    exact absurd he h7.2
  · unfold tokE at he
    rw [if_neg h7] at he
    unfold tokJ
    rw [if_neg h7, if_pos he]
    unfold tokC at he ⊢
    split
    · show j < (endF 0 l j).2 ∧ (endF 0 l j).2 ≤ l.length
      show j < (if dotA l (wrun l (j + 1)) 3 = true then ((3 : Nat), wrun l (wrun l (j + 1) + 1)) else (2, wrun l (j + 1))).2 ∧ (if dotA l (wrun l (j + 1)) 3 = true then ((3 : Nat), wrun l (wrun l (j + 1) + 1)) else (2, wrun l (j + 1))).2 ≤ l.length
      split
      · rename_i hd
        have := (dotA_asc hd).1
        have := wr2.2 (by omega)
        exact ⟨by simp only; omega, by simp only; omega⟩
      · exact ⟨by simp only; omega, by simp only; omega⟩
    · split
      · show j < nrun l (j + 1) ∧ nrun l (j + 1) ≤ l.length
        omega
      · split
        · show j < wrun l (j + 1) ∧ wrun l (j + 1) ≤ l.length
          omega
        · split
          · rename_i hk
            have hq : quoE l j = 0 := Classical.byContradiction (fun h => h7 ⟨hk, h⟩)
            show j < quoJ l j ∧ quoJ l j ≤ l.length
            have hg := insS_ge l _ (j + 1) [] (Nat.le_refl _) hj1
            have hle := insS_le l _ (j + 1) [] (Nat.le_refl _) hj1
            unfold quoJ
            unfold quoE at hq
            split
            · rename_i hc
              rw [if_neg (by rw [hc.1]; simp), if_pos hc] at hq
              cases hq
            · omega
          · rename_i k3 k4 k6 k7
            rw [if_neg k3, if_neg k4, if_neg k6, if_neg k7] at he
            obtain ⟨hs1, _⟩ := sgn_pre (l.drop j)
            rw [List.length_drop] at hs1
            have hne : subL l j (j + sgn (l.drop j)) ≠ [] := fun e => by
              unfold faultE at he
              simp only [e] at he
              revert he
              decide
            have : 0 < sgn (l.drop j) := by
              refine Nat.pos_of_ne_zero (fun e => hne ?_)
              unfold subL
              rw [e]
              simp
            show j < j + sgn (l.drop j) ∧ j + sgn (l.drop j) ≤ l.length
            omega

/-- what run leaves -/
def RunR (X : MX) (R : Res) (e : Ending) (w' : World) : Prop :=
  e = .returned (.int .i64 (R.2.1 : Int)) ∧ ∃ now fst line head v D, MS X w' now fst line head v D ∧ head ≤ now ∧ now ≤ 16384 ∧ (R.2.1 = 0 → R = (D, 0, 0, 0)) ∧ (R.2.1 ≠ 0 → R = ([], R.2.1, line, now - head + 1))
/-- what stands at a label of run -/
def RF (X : MX) (R : Res) (lab now j fst line head hb : Nat) (v : Value) (D : List Tok) (wr : World) : Prop :=
  (lab = 0 ∨ lab = 1 ∨ lab = 2) ∧ MS X wr now fst line head v D ∧ AT X.l now j ∧ AT X.l head hb ∧ head ≤ now ∧ j ≤ X.l.length ∧ D.length ≤ 2 * now ∧ line ≤ now + 1 ∧
  (lab = 0 → ∃ f, X.l.length - j < f ∧ runM f X.l j line hb D = R) ∧
  (lab = 1 → j < X.l.length ∧ kl X.l j ≠ 1 ∧ ∃ f, X.l.length - j ≤ f ∧ lendM f X.l (cend X.l (j + (dc X.l j).2)) line hb D = R) ∧
  (lab = 2 → (kl X.l j = 1 ∨ kl X.l j = 0) ∧ ∃ f, X.l.length - j ≤ f ∧ lendM f X.l j line hb D = R)
def RJ (X : MX) (R : Res) (lab : Nat) (a : Act) (wr : World) : Prop :=
  ∃ (now j fst line head hb : Nat) (v : Value) (D : List Tok) (u : Array Value), a = { tmps := u, defers := [] } ∧ u.size = 67 ∧ u.getD 0 undef = .pointer (some ⟨X.b, 0, none⟩) ∧ Hid (RF X R lab now j fst line head hb v D wr)
def rM (X : MX) (lab : Nat) (wr : World) : Nat := 3 * mNow X wr + (if lab = 0 then 2 else if lab = 1 then 1 else 0)
theorem results_rn (tmps : Array Value) (W : World) : (results Tryd.f10 tmps).run Tryd.prog W = .ok (tmps.getD 2 undef) W := by
  simp [results, go_sem]
theorem use_pass2 {P : Program} {a : Act} {w : World} {Q : Exit → Act → World → Prop} {c X : Code} {J : Nat → Act → World → Prop} {m : Nat → Act → World → Nat} {l K0 K1 : Nat} (h : ∃ Y, findLabel c l = some (.seq .skip Y) ∧ Y.wp P (jumpN (fun l' a' w' => J l' a' w' ∧ m l' a' w' < K0) Q) a w) (hf : findLabel c l = some (.seq .skip X)) (hK : K0 ≤ K1) : X.wp P (jumpN (fun l' a' w' => J l' a' w' ∧ m l' a' w' < K1) Q) a w := by
  obtain ⟨Y, hY, hr⟩ := h
  have e := Option.some.inj (hf.symm.trans hY)
  injection e with _ e
  rw [e]
  refine wp_mono hr ?_
  intro e a' w' hq
  cases e with
  | goto l' => exact ⟨hq.1, Nat.lt_of_lt_of_le hq.2 hK⟩
  | normal => exact hq
  | exit id => exact hq
  | ret => exact hq
  | panic ch => exact hq
  | outgrown => exact hq
end Go.Proofs.YthlgjdadkmpbbaaDoor
namespace Go.Proofs.YthlgjdadkmpbbaaDoor
open Go.RowKit
end Go.Proofs.YthlgjdadkmpbbaaDoor
namespace Go.Proofs.YthlgjdadkmpbbaaDoor
open Go.RowKit Go.Shelf
/-- what stands behind a line: the text's end, or a newline -/
def stopL (S : List UInt8) : Prop := S = [] ∨ ∃ S', S = 10 :: S'
section
variable {P a S : List UInt8}
end
end Go.Proofs.YthlgjdadkmpbbaaDoor
namespace Go.Proofs.YthlgjdadkmpbbaaDoor
open Go.RowKit Go.Shelf
section
variable {P a S : List UInt8}
end
end Go.Proofs.YthlgjdadkmpbbaaDoor
namespace Go.Proofs.YthlgjdadkmpbbaaDoor
open Go.RowKit Go.Shelf
section
variable {P a S : List UInt8}
end
end Go.Proofs.YthlgjdadkmpbbaaDoor
namespace Go.Proofs.YthlgjdadkmpbbaaDoor
open Go.RowKit Go.Shelf
/-- a byte at which a character begins -/
def RE (l : List UInt8) (j : Nat) : Prop := ∃ k, AT l k j
theorem RE.zero (l : List UInt8) : RE l 0 := ⟨0, rfl⟩
theorem RE.asc {l : List UInt8} {j : Nat} (h : RE l j) (hj : j < l.length) (hb : bt l j < 128) : RE l (j + 1) := by
  obtain ⟨k, h⟩ := h
  exact ⟨k + 1, h.asc hj hb⟩
theorem RE.next {l : List UInt8} {j : Nat} (h : RE l j) (hj : j < l.length) : RE l (j + (dc l j).2) := by
  obtain ⟨k, h⟩ := h
  exact ⟨k + 1, h.next hj⟩
theorem RE.wrun {l : List UInt8} : ∀ (m j : Nat), l.length - j ≤ m → RE l j → RE l (wrun l j)
  | m, j, hm, h => by
    cases hw : inW l j with
    | false => rw [wrun_no hw]; exact h
    | true =>
      obtain ⟨h1, h2⟩ := inW_asc hw
      match m, hm with
      | 0, hm => omega
      | m + 1, hm =>
        rw [wrun_yes hw]
        exact RE.wrun m (j + 1) (by omega) (h.asc h1 h2)
theorem RE.nrun {l : List UInt8} : ∀ (m j : Nat), l.length - j ≤ m → RE l j → RE l (nrun l j)
  | m, j, hm, h => by
    cases hw : (inW l j || dotA l j 4) with
    | false => rw [nrun_no hw]; exact h
    | true =>
      have ⟨h1, h2⟩ : j < l.length ∧ bt l j < 128 := by
        rcases Bool.or_eq_true_iff.1 hw with h | h
        · exact inW_asc h
        · exact dotA_asc h
      match m, hm with
      | 0, hm => omega
      | m + 1, hm =>
        rw [nrun_yes hw]
        exact RE.nrun m (j + 1) (by omega) (h.asc h1 h2)
theorem RE.cend {l : List UInt8} : ∀ (m j : Nat), l.length - j ≤ m → RE l j → RE l (cend l j)
  | m, j, hm, h => by
    by_cases hk : kl l j = 1 ∨ kl l j = 0
    · rw [cend_end hk]; exact h
    · have h1 : kl l j ≠ 1 := fun e => hk (.inl e)
      have h0 : kl l j ≠ 0 := fun e => hk (.inr e)
      have hj : j < l.length := Classical.byContradiction (fun e => h0 (kl0.2 e))
      have hp := dc_pos l j
      match m, hm with
      | 0, hm => omega
      | m + 1, hm =>
        rw [cend_on h1 h0]
        exact RE.cend m _ (by omega) (h.next hj)
section
variable {P a S : List UInt8}
end
end Go.Proofs.YthlgjdadkmpbbaaDoor
namespace Go.Proofs.YthlgjdadkmpbbaaDoor
open Go.RowKit Go.Shelf
section
variable {P a S : List UInt8}
end
end Go.Proofs.YthlgjdadkmpbbaaDoor
namespace Go.Proofs.YthlgjdadkmpbbaaDoor
open Go.RowKit Go.Shelf
theorem cend_ge {l : List UInt8} : ∀ (m j : Nat), l.length - j ≤ m → j ≤ cend l j
  | m, j, hm => by
    by_cases hk : kl l j = 1 ∨ kl l j = 0
    · rw [cend_end hk]; exact Nat.le_refl _
    · have h1 : kl l j ≠ 1 := fun e => hk (.inl e)
      have h0 : kl l j ≠ 0 := fun e => hk (.inr e)
      have hj : j < l.length := Classical.byContradiction (fun e => h0 (kl0.2 e))
      have hp := dc_pos l j
      match m, hm with
      | 0, hm => omega
      | m + 1, hm =>
        rw [cend_on h1 h0]
        have := cend_ge (l := l) m (j + (dc l j).2) (by omega)
        omega
theorem RE.fwd {l : List UInt8} : ∀ (m j : Nat), l.length - j ≤ m → j ≤ l.length → RE l j → RE l l.length
  | m, j, hm, hj, h => by
    by_cases hlt : j < l.length
    · have hp := dc_pos l j
      have hl := dc_le l j hlt
      match m, hm with
      | 0, hm => omega
      | m + 1, hm => exact RE.fwd m _ (by omega) hl (h.next hlt)
    · have e : j = l.length := by omega
      rw [e] at h
      exact h
theorem RE.len (l : List UInt8) : RE l l.length := RE.fwd _ 0 (Nat.le_refl _) (Nat.zero_le _) (RE.zero l)
theorem cut (T : List UInt8) : ∃ a S, T = a ++ S ∧ stopL S ∧ ∀ c ∈ a, c ≠ 10 := by
  induction T with
  | nil => exact ⟨[], [], rfl, .inl rfl, fun c h => by simp at h⟩
  | cons c T ih =>
    by_cases h : c = 10
    · exact ⟨[], c :: T, rfl, .inr ⟨T, by rw [h]⟩, fun c h => by simp at h⟩
    · obtain ⟨a, S, e, hS, ha⟩ := ih
      refine ⟨c :: a, S, by rw [e]; rfl, hS, fun d hd => ?_⟩
      rcases List.mem_cons.1 hd with e | e
      · rw [e]; exact h
      · exact ha d e
end Go.Proofs.YthlgjdadkmpbbaaDoor

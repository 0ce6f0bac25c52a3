import Derived.Test.YtggifkdgkjmljaaGreatDoorZ33
import Derived.Test.YtggifkdgkjmljaaGreatDoorZ31
import Derived.Deep.QuietTactic
namespace Go.Proofs.YtggifkdgkjmljaaGreatDoor
open Go.RowKit Go.Shelf
theorem kl_one {l : List UInt8} {j : Nat} (h : kl l j = 1) : bt l j = 10 := by
  have h10 : chr l j = 10 := by
    unfold kl cls at h
    repeat' split at h
    all_goals first | assumption | omega
  exact ((chr_asc l j 10 (by decide)).1 h10).2
theorem noNL_of {a : List UInt8} (h : ∀ c ∈ a, c ≠ 10) : noNL a := fun j hj h1 => by
  have := kl_one h1
  unfold bt at this
  have e : a.getD j 0 = a[j] := by simp [List.getD, hj]
  rw [e] at this
  exact h _ (List.getElem_mem hj) (UInt8.toNat_inj.1 this)
theorem cend_ge {l : List UInt8} : ∀ (m j : Nat), l.length - j ≤ m → j ≤ cend l j
  | m, j, hm => by
    by_cases hk : kl l j = 1 ∨ kl l j = 0
    · rw [cend_end hk]; exact Nat.le_refl _
    · have h1 : kl l j ≠ 1 := fun e => hk (.inl e)
      have h0 : kl l j ≠ 0 := fun e => hk (.inr e)
      have hj : j < l.length := Classical.byContradiction (fun e => h0 (kl0.2 e))
      have hp := dc_pos l j
      match m, hm with
      | 0, hm => omega
      | m + 1, hm =>
        rw [cend_on h1 h0]
        have := cend_ge (l := l) m (j + (dc l j).2) (by omega)
        omega
/-- more fuel says the same -/
theorem runM_fuel (l : List UInt8) : ∀ (f g j line hb : Nat) (D : List Tok), l.length - j < f → l.length - j < g → runM f l j line hb D = runM g l j line hb D
  | 0, g, j, line, hb, D, hf, hg => by omega
  | f + 1, 0, j, line, hb, D, hf, hg => by omega
  | f + 1, g + 1, j, line, hb, D, hf, hg => by
    have hend : ∀ e, j ≤ e → lendM f l e line hb D = lendM g l e line hb D := fun e he => by
      unfold lendM
      by_cases h0 : kl l e = 0
      · rw [if_pos h0, if_pos h0]
      · have hlt : e < l.length := Classical.byContradiction (fun h => h0 (kl0.2 h))
        rw [if_neg h0, if_neg h0]
        exact runM_fuel l f g _ _ _ _ (by omega) (by omega)
    by_cases h10 : kl l j = 1 ∨ kl l j = 0
    · rw [runM_end h10, runM_end h10]
      exact hend j (Nat.le_refl _)
    have h1 : kl l j ≠ 1 := fun e => h10 (.inl e)
    have h0 : kl l j ≠ 0 := fun e => h10 (.inr e)
    have hj : j < l.length := Classical.byContradiction (fun e => h0 (kl0.2 e))
    by_cases h2 : kl l j = 2
    · rw [runM_blank h2, runM_blank h2]
      exact runM_fuel l f g _ _ _ _ (by omega) (by omega)
    by_cases h8 : kl l j = 8
    · rw [runM_hash h8, runM_hash h8]
      have := cend_ge (l := l) _ (j + 1) (Nat.le_refl _)
      exact hend _ (by omega)
    by_cases he : tokE l j = 0
    · obtain ⟨a1, a2⟩ := tok_adv hj h1 he
      rw [runM_tok h2 h8 h1 h0 he, runM_tok h2 h8 h1 h0 he]
      exact runM_fuel l f g _ _ _ _ (by omega) (by omega)
    · rw [runM_err h2 h8 h1 h0 he, runM_err h2 h8 h1 h0 he]
theorem RE.fwd {l : List UInt8} : ∀ (m j : Nat), l.length - j ≤ m → j ≤ l.length → RE l j → RE l l.length
  | m, j, hm, hj, h => by
    by_cases hlt : j < l.length
    · have hp := dc_pos l j
      have hl := dc_le l j hlt
      match m, hm with
      | 0, hm => omega
      | m + 1, hm => exact RE.fwd m _ (by omega) hl (h.next hlt)
    · have e : j = l.length := by omega
      rw [e] at h
      exact h
theorem RE.len (l : List UInt8) : RE l l.length := RE.fwd _ 0 (Nat.le_refl _) (Nat.zero_le _) (RE.zero l)
/-- a text from a line on -/
def textM (T : List UInt8) (line : Nat) (D : List Tok) : Res := runM (T.length + 1) T 0 line 0 D
theorem cut (T : List UInt8) : ∃ a S, T = a ++ S ∧ stopL S ∧ ∀ c ∈ a, c ≠ 10 := by
  induction T with
  | nil => exact ⟨[], [], rfl, .inl rfl, fun c h => by simp at h⟩
  | cons c T ih =>
    by_cases h : c = 10
    · exact ⟨[], c :: T, rfl, .inr ⟨T, by rw [h]⟩, fun c h => by simp at h⟩
    · obtain ⟨a, S, e, hS, ha⟩ := ih
      refine ⟨c :: a, S, by rw [e]; rfl, hS, fun d hd => ?_⟩
      rcases List.mem_cons.1 hd with e | e
      · rw [e]; exact h
      · exact ha d e
/-- a line's reachable end -/
theorem RE.nl {P a S' : List UInt8} (h0 : RE (P ++ (a ++ 10 :: S')) P.length) : RE (P ++ (a ++ 10 :: S')) (P.length + a.length + 1) := by
  obtain ⟨k0, h0⟩ := h0
  obtain ⟨k, h⟩ := RE.len a
  have hS : stopL (10 :: S') := .inr ⟨S', rfl⟩
  have h1 : RE (P ++ (a ++ 10 :: S')) (P.length + a.length) := ⟨_, atL hS h0 (Nat.le_refl _) h⟩
  refine h1.asc (by simp) ?_
  rcases btE (P := P) (a := a) hS with e | e
  · omega
  · simp at e
/-- what stands ahead of a line says nothing of it -/
theorem text_run : ∀ (m : Nat) (P T : List UInt8) (f line : Nat) (D : List Tok), T.length ≤ m → RE (P ++ T) P.length → T.length < f → runM f (P ++ T) P.length line P.length D = textM T line D
  | m, P, T, f, line, D, hm, h0, hf => by
    obtain ⟨a, S, e, hS, ha⟩ := cut T
    subst e
    have hn := noNL_of ha
    have hla : a.length ≤ (a ++ S).length := by simp
    obtain ⟨f1, e1, e2, e3⟩ := line_run (P := P) hS h0 hn f 0 line D (Nat.zero_le _) (by omega) (RE.zero a)
    obtain ⟨f2, d1, d2, d3⟩ := line_run (P := []) hS (RE.zero _) hn ((a ++ S).length + 1) 0 line D (Nat.zero_le _) (by omega) (RE.zero a)
    rw [show runM ((a ++ S).length + 1) a 0 line 0 D = runM f a 0 line 0 D from runM_fuel a _ _ _ _ _ _ (by omega) (by omega)] at d3
    have e3' : runM f (P ++ (a ++ S)) P.length line P.length D = goesOn f1 P a S line (runM f a 0 line 0 D) := e3
    have d3' : textM (a ++ S) line D = goesOn f2 [] a S line (runM f a 0 line 0 D) := d3
    rw [e3', d3']
    unfold goesOn
    by_cases hr : (runM f a 0 line 0 D).2.1 ≠ 0
    · rw [if_pos hr, if_pos hr]
    rw [if_neg hr, if_neg hr]
    rcases hS with rfl | ⟨S', rfl⟩
    · rw [if_pos rfl, if_pos rfl]
    have hs : ¬ (10 :: S' = []) := by simp
    rw [if_neg hs, if_neg hs]
    have hlen : (a ++ 10 :: S').length = a.length + S'.length + 1 := by simp; omega
    have key : ∀ (Q : List UInt8) (g : Nat), RE (Q ++ (a ++ 10 :: S')) Q.length → S'.length < g → runM g (Q ++ (a ++ 10 :: S')) (Q.length + a.length + 1) (line + 1) (Q.length + a.length + 1) (runM f a 0 line 0 D).1 = textM S' (line + 1) (runM f a 0 line 0 D).1 := fun Q g hQ hg => by
      have hq := RE.nl hQ
      have eq : Q ++ (a ++ 10 :: S') = (Q ++ (a ++ [10])) ++ S' := by simp
      have el : Q.length + a.length + 1 = (Q ++ (a ++ [10])).length := by simp; omega
      rw [eq, el] at hq ⊢
      match m, hm with
      | 0, hm => omega
      | m + 1, hm => exact text_run m _ S' g _ _ (by omega) hq hg
    rw [key P f1 h0 (by omega), key [] f2 (RE.zero _) (by omega)]
/-- a text is read line by line -/
theorem text_cons {a S' : List UInt8} (ha : ∀ c ∈ a, c ≠ 10) (line : Nat) (D : List Tok) : textM (a ++ 10 :: S') line D = if (textM a line D).2.1 ≠ 0 then textM a line D else textM S' (line + 1) (textM a line D).1 := by
  have hS : stopL (10 :: S') := .inr ⟨S', rfl⟩
  have hlen : (a ++ 10 :: S').length = a.length + S'.length + 1 := by simp; omega
  obtain ⟨f2, d1, d2, d3⟩ := line_run (P := []) hS (RE.zero _) (noNL_of ha) ((a ++ 10 :: S').length + 1) 0 line D (Nat.zero_le _) (by omega) (RE.zero a)
  rw [show runM ((a ++ 10 :: S').length + 1) a 0 line 0 D = textM a line D from runM_fuel a _ _ _ _ _ _ (by omega) (by omega)] at d3
  have d3' : textM (a ++ 10 :: S') line D = goesOn f2 [] a (10 :: S') line (textM a line D) := d3
  rw [d3']
  unfold goesOn
  by_cases hr : (textM a line D).2.1 ≠ 0
  · rw [if_pos hr, if_pos hr]
  have hs : ¬ (10 :: S' = []) := by simp
  rw [if_neg hr, if_neg hr, if_neg hs]
  have hq := RE.nl (P := []) (a := a) (S' := S') (RE.zero _)
  have eq : [] ++ (a ++ 10 :: S') = (a ++ [10]) ++ S' := by simp
  have el : ([] : List UInt8).length + a.length + 1 = (a ++ [10]).length := by simp
  rw [eq, el] at hq ⊢
  exact text_run _ _ S' f2 _ _ (Nat.le_refl _) hq (by omega)
end Go.Proofs.YtggifkdgkjmljaaGreatDoor
namespace Go.Proofs.YtggifkdgkjmljaaGreatDoor
open Go.RowKit Go.Shelf
theorem RE.at {l : List UInt8} {j : Nat} (h : RE l j) : AT l (ci l j) j := by
  obtain ⟨k, hk⟩ := h
  rw [← hk.ci]
  exact hk
theorem RE.step {l : List UInt8} {p q : Nat} (h1 : RE l p) (h2 : RE l q) (h : p < q) (hq : q ≤ l.length) : p + (dc l p).2 ≤ q ∧ ci l (p + (dc l p).2) = ci l p + 1 ∧ RE l (p + (dc l p).2) := by
  have a1 := h1.at
  have a2 := h2.at
  have a3 := a1.next (show p < l.length by omega)
  have hle := dc_le l p (by omega)
  have hlt := at_mono a1 a2 h hq
  refine ⟨Classical.byContradiction (fun hc => ?_), a3.ci.symm, ⟨_, a3⟩⟩
  have := at_mono a2 a3 (by omega) hle
  omega
theorem sub_get {l : List UInt8} {i j k : Nat} {c : UInt8} (h : (subL l i j)[k]? = some c) : l[i + k]? = some c ∧ i + k < j := by
  unfold subL at h
  rw [List.getElem?_take] at h
  split at h
  · rw [List.getElem?_drop] at h
    exact ⟨h, by omega⟩
  · cases h
theorem tok_same {l : List UInt8} {j : Nat} (he : tokE l j = 0) : tokJ l j = (tokC l j).2 := by
  by_cases h7 : kl l j = 7 ∧ quoE l j ≠ 0
  · unfold tokE at he
    rw [if_pos h7] at he
    exact absurd he h7.2
  · unfold tokE at he
    rw [if_neg h7] at he
    unfold tokJ
    rw [if_neg h7, if_pos he]
theorem cls_high (r : Int) (h2 : r ≠ -2) (h : ¬ (0 ≤ r ∧ r < 128)) : cls r = 9 := by
  unfold cls
  rw [if_neg (by omega), if_neg (by omega), if_neg (by omega), if_neg (by omega), if_neg (by omega), if_neg (by omega), if_neg (by omega), if_neg (by omega), if_neg (by omega), if_neg (by omega), if_neg (by omega)]
/-- a byte's class is its character's -/
theorem kl_bt {l : List UInt8} {i : Nat} (h : i < l.length) : kl l i = cls (bt l i : Int) := by
  unfold kl
  by_cases hb : bt l i < 128
  · rw [(chr_asc l i (bt l i) hb).2 ⟨h, rfl⟩]
  · have hn : ∀ x : Nat, x < 128 → chr l i ≠ (x : Int) := fun x hx e => hb (by rw [((chr_asc l i x hx).1 e).2]; exact hx)
    have h2 : chr l i ≠ -2 := by unfold chr; rw [if_pos h]; split <;> omega
    rw [cls_high _ h2 (fun hh => hn (chr l i).toNat (by omega) (by omega)), cls_high _ (by omega) (by omega)]
def letX (x : Nat) : Bool := decide ((65 ≤ x ∧ x ≤ 90) ∨ (97 ≤ x ∧ x ≤ 122) ∨ x = 95)
def digX (x : Nat) : Bool := decide (48 ≤ x ∧ x ≤ 57)
def blaX (x : Nat) : Bool := decide (x = 32 ∨ x = 9 ∨ x = 13)
theorem cls_tab : ∀ x : Fin 256, letX x.val = decide (cls (x.val : Int) = 3) ∧ digX x.val = decide (cls (x.val : Int) = 4) ∧ blaX x.val = decide (cls (x.val : Int) = 2) ∧ (cls (x.val : Int) = 8 → x.val = 35) := by decide +kernel
theorem letX_cls {x : Nat} (h : x < 256) : letX x = decide (cls (x : Int) = 3) := (cls_tab ⟨x, h⟩).1
theorem digX_cls {x : Nat} (h : x < 256) : digX x = decide (cls (x : Int) = 4) := (cls_tab ⟨x, h⟩).2.1
theorem blaX_cls {x : Nat} (h : x < 256) : blaX x = decide (cls (x : Int) = 2) := (cls_tab ⟨x, h⟩).2.2.1
theorem hashX_cls {x : Nat} (h : x < 256) : cls (x : Int) = 8 → x = 35 := (cls_tab ⟨x, h⟩).2.2.2
theorem blank_bt {l : List UInt8} {j : Nat} (h : kl l j = 2) : bt l j = 32 ∨ bt l j = 9 ∨ bt l j = 13 := by
  have hj := (kl_asc (l := l) (j := j) (by omega) (by omega)).1
  rw [kl_bt hj] at h
  have h2 := blaX_cls (bt_lt l j)
  rw [decide_eq_true h] at h2
  exact of_decide_eq_true h2
theorem hash_bt {l : List UInt8} {j : Nat} (h : kl l j = 8) : j < l.length ∧ bt l j = 35 := by
  have hj := (kl_asc (l := l) (j := j) (by omega) (by omega)).1
  rw [kl_bt hj] at h
  exact ⟨hj, hashX_cls (bt_lt l j) h⟩
end Go.Proofs.YtggifkdgkjmljaaGreatDoor
namespace Go.Proofs.YtggifkdgkjmljaaGreatDoor
open Go.RowKit Go.Shelf
set_option maxRecDepth 100000 in
theorem refLetter_any (x : Nat) (w : World) : Calls Tryz.prog 24 #[.int .u8 (x : Int)] w fun e w' => e = .returned (.bool (letX x)) ∧ w' = w := by
  by_cases a1 : 65 ≤ x
  · by_cases a2 : x ≤ 90
    · have j1 : (65 : Int) ≤ (x : Int) := by omega
      have j2 : (x : Int) ≤ 90 := by omega
      have hr : Hid (letX x = true) := by unfold Hid letX; simp; omega
      go_enter Tryz.func24, Tryz.ntmps24
      go_wp2_with fail
      go_ret
      exact ⟨by rw [hr.out]; first | rfl | simp_all, rfl⟩
    · by_cases a3 : 97 ≤ x
      · by_cases a4 : x ≤ 122
        · have j1 : (65 : Int) ≤ (x : Int) := by omega
          have j2 : ¬ (x : Int) ≤ 90 := by omega
          have j3 : (97 : Int) ≤ (x : Int) := by omega
          have j4 : (x : Int) ≤ 122 := by omega
          have hr : Hid (letX x = true) := by unfold Hid letX; simp; omega
          go_enter Tryz.func24, Tryz.ntmps24
          go_wp2_with fail
          go_ret
          exact ⟨by rw [hr.out]; first | rfl | simp_all, rfl⟩
        · have j1 : (65 : Int) ≤ (x : Int) := by omega
          have j2 : ¬ (x : Int) ≤ 90 := by omega
          have j3 : (97 : Int) ≤ (x : Int) := by omega
          have j4 : ¬ (x : Int) ≤ 122 := by omega
          have j5 : ((x : Int) == 95) = false := by rw [beq_eq_false_iff_ne]; omega
          have hr : Hid (letX x = false) := by unfold Hid letX; simp; omega
          go_enter Tryz.func24, Tryz.ntmps24
          go_wp2_with fail
          go_ret
          exact ⟨by rw [hr.out]; first | rfl | simp_all, rfl⟩
      · by_cases a4 : x = 95
        · subst a4
          have hr : Hid (letX 95 = true) := show letX 95 = true by decide
          go_enter Tryz.func24, Tryz.ntmps24
          go_wp2_with fail
          go_ret
          exact ⟨by rw [hr.out]; first | rfl | simp_all, rfl⟩
        · have j1 : (65 : Int) ≤ (x : Int) := by omega
          have j2 : ¬ (x : Int) ≤ 90 := by omega
          have j3 : ¬ (97 : Int) ≤ (x : Int) := by omega
          have j5 : ((x : Int) == 95) = false := by rw [beq_eq_false_iff_ne]; omega
          have hr : Hid (letX x = false) := by unfold Hid letX; simp; omega
          go_enter Tryz.func24, Tryz.ntmps24
          go_wp2_with fail
          go_ret
          exact ⟨by rw [hr.out]; first | rfl | simp_all, rfl⟩
  · have j1 : ¬ (65 : Int) ≤ (x : Int) := by omega
    have j3 : ¬ (97 : Int) ≤ (x : Int) := by omega
    have j5 : ((x : Int) == 95) = false := by rw [beq_eq_false_iff_ne]; omega
    have hr : Hid (letX x = false) := by unfold Hid letX; simp; omega
    go_enter Tryz.func24, Tryz.ntmps24
    go_wp2_with fail
    go_ret
    exact ⟨by rw [hr.out]; first | rfl | simp_all, rfl⟩
set_option maxRecDepth 100000 in
theorem refDigit_any (x : Nat) (w : World) : Calls Tryz.prog 26 #[.int .u8 (x : Int)] w fun e w' => e = .returned (.bool (digX x)) ∧ w' = w := by
  by_cases a1 : 48 ≤ x
  · by_cases a2 : x ≤ 57
    · have j1 : (48 : Int) ≤ (x : Int) := by omega
      have j2 : (x : Int) ≤ 57 := by omega
      have hr : Hid (digX x = true) := by unfold Hid digX; simp; omega
      go_enter Tryz.func26, Tryz.ntmps26
      go_wp2_with fail
      go_ret
      exact ⟨by rw [hr.out]; first | rfl | simp_all, rfl⟩
    · have j1 : (48 : Int) ≤ (x : Int) := by omega
      have j2 : ¬ (x : Int) ≤ 57 := by omega
      have hr : Hid (digX x = false) := by unfold Hid digX; simp; omega
      go_enter Tryz.func26, Tryz.ntmps26
      go_wp2_with fail
      go_ret
      exact ⟨by rw [hr.out]; first | rfl | simp_all, rfl⟩
  · have j1 : ¬ (48 : Int) ≤ (x : Int) := by omega
    have hr : Hid (digX x = false) := by unfold Hid digX; simp; omega
    go_enter Tryz.func26, Tryz.ntmps26
    go_wp2_with fail
    go_ret
    exact ⟨by rw [hr.out]; first | rfl | simp_all, rfl⟩
set_option maxRecDepth 100000 in
theorem refBlank_any (x : Nat) (w : World) : Calls Tryz.prog 18 #[.int .u8 (x : Int)] w fun e w' => e = .returned (.bool (blaX x)) ∧ w' = w := by
  by_cases a1 : x = 32
  · subst a1
    go_enter Tryz.func18, Tryz.ntmps18
    go_wp2_with fail
    go_ret
    exact ⟨rfl, rfl⟩
  · by_cases a2 : x = 9
    · subst a2
      go_enter Tryz.func18, Tryz.ntmps18
      go_wp2_with fail
      go_ret
      exact ⟨rfl, rfl⟩
    · by_cases a3 : x = 13
      · subst a3
        go_enter Tryz.func18, Tryz.ntmps18
        go_wp2_with fail
        go_ret
        exact ⟨rfl, rfl⟩
      · have j1 : ((x : Int) == 32) = false := by rw [beq_eq_false_iff_ne]; omega
        have j2 : ((x : Int) == 9) = false := by rw [beq_eq_false_iff_ne]; omega
        have j3 : ((x : Int) == 13) = false := by rw [beq_eq_false_iff_ne]; omega
        have hr : Hid (blaX x = false) := by unfold Hid blaX; simp; omega
        go_enter Tryz.func18, Tryz.ntmps18
        go_wp2_with fail
        go_ret
        exact ⟨by rw [hr.out]; first | rfl | simp_all, rfl⟩
set_option maxRecDepth 100000 in
theorem refWord_any (x : Nat) (w : World) : Calls Tryz.prog 27 #[.int .u8 (x : Int)] w fun e w' => e = .returned (.bool (letX x || digX x)) ∧ w' = w := by
  have H1 := refLetter_any x w
  have H2 := refDigit_any x w
  obtain ⟨p, hp⟩ : ∃ p, letX x = p := ⟨_, rfl⟩
  obtain ⟨q, hq⟩ : ∃ q, digX x = q := ⟨_, rfl⟩
  rw [hp] at H1 ⊢
  rw [hq] at H2 ⊢
  clear hp hq
  cases p with
  | true =>
    go_enter Tryz.func27, Tryz.ntmps27
    go_wp2_with fail
    refine H1.mono ?_
    rintro e w2 ⟨rfl, rfl⟩
    go_wp2_with fail
    go_ret
    exact ⟨rfl, rfl⟩
  | false =>
    go_enter Tryz.func27, Tryz.ntmps27
    go_wp2_with fail
    refine H1.mono ?_
    rintro e w2 ⟨rfl, rfl⟩
    go_wp2_with fail
    refine H2.mono ?_
    rintro e w2 ⟨rfl, rfl⟩
    go_wp2_with fail
    go_ret
    exact ⟨rfl, rfl⟩
end Go.Proofs.YtggifkdgkjmljaaGreatDoor
namespace Go.Proofs.YtggifkdgkjmljaaGreatDoor
open Go.RowKit Go.Shelf
theorem inW_bt {l : List UInt8} {i : Nat} (h : i < l.length) : inW l i = (letX (bt l i) || digX (bt l i)) := by
  unfold inW
  rw [kl_bt h, letX_cls (bt_lt l i), digX_cls (bt_lt l i)]
theorem inW_end {l : List UInt8} {i : Nat} (h : ¬ i < l.length) : inW l i = false := by
  unfold inW
  rw [kl0.2 h]
  rfl
set_option maxRecDepth 100000 in
theorem refRun_any (l : List UInt8) (i : Nat) (w : World) (hi : i ≤ l.length) (hs : l.length ≤ 281474976710656) (I : Int) (hI : I = (i : Int)) :
    Calls Tryz.prog 25 #[.string ⟨l.toArray⟩, .int .i64 I] w fun e w' => e = .returned (.int .i64 (wrun l i : Int)) ∧ w' = w := by
  subst hI
  go_enter Tryz.func25, Tryz.ntmps25
  go_wp2_with fail
  go_loopw [1] (fun v wr => ∃ k : Nat, k ≤ l.length ∧ v = .int .i64 k ∧ wrun l k = wrun l i ∧ wr = w) (fun v _ => l.length - (intOf v).toNat)
  case atStart => exact ⟨i, hi, rfl, rfl, rfl⟩
  case round =>
    obtain ⟨k, hk, rfl, hr, rfl⟩ := hrel
    by_cases hlt : k < l.length
    · have j0 : (0 : Int) ≤ (k : Int) := by omega
      have j1 : (k : Int) < (l.length : Int) := by omega
      obtain ⟨c, hc, hlc⟩ := byte_get l k hlt
      have hb := bt_of hlc
      have hw := inW_bt hlt
      rw [hb] at hw
      have HW := refWord_any c.toNat wr
      cases hq : (letX c.toNat || digX c.toNat) with
      | true =>
        rw [hq] at HW hw
        have HI : Hid (wrun l (k + 1) = wrun l i) := by rw [← wrun_yes hw]; exact hr
        clear hr hw hb hq
        go_wp2_with fail
        refine HW.mono ?_
        rintro e w2 ⟨rfl, rfl⟩
        go_wp2_with fail
        go_roundw
        case rel => exact ⟨k + 1, by omega, by go_num, HI.out, trivial⟩
        case measure => simp [intOf]; omega
      | false =>
        rw [hq] at HW hw
        have HI : Hid (wrun l i = k) := by rw [← hr]; exact wrun_no hw
        clear hr hw hb hq
        go_wp2_with fail
        refine HW.mono ?_
        rintro e w2 ⟨rfl, rfl⟩
        go_wp2_with fail
        go_ret
        exact ⟨by rw [HI.out]; rfl, rfl⟩
    · have j1 : ¬ (k : Int) < (l.length : Int) := by omega
      have HI : Hid (wrun l i = k) := by rw [← hr]; exact wrun_no (inW_end hlt)
      clear hr
      go_wp2_with fail
      go_ret
      exact ⟨by rw [HI.out]; rfl, rfl⟩
end Go.Proofs.YtggifkdgkjmljaaGreatDoor
namespace Go.Proofs.YtggifkdgkjmljaaGreatDoor
open Go.RowKit Go.Shelf
theorem wrun_in {l : List UInt8} : ∀ (m j : Nat), l.length - j ≤ m → ∀ k, j ≤ k → k < wrun l j → inW l k = true
  | m, j, hm, k, h1, h2 => by
    cases h : inW l j with
    | false => rw [wrun_no h] at h2; omega
    | true =>
      have hj := (inW_asc h).1
      rw [wrun_yes h] at h2
      rcases Nat.lt_or_ge j k with hk | hk
      · match m, hm with
        | 0, hm => omega
        | m + 1, hm => exact wrun_in m (j + 1) (by omega) k hk h2
      · rw [show k = j by omega]; exact h
theorem inW_46 {l : List UInt8} {k : Nat} (h : inW l k = true) : bt l k ≠ 46 := fun e => by
  have hk := (inW_asc h).1
  have h5 : kl l k = 5 := by rw [kl_bt hk, e]; rfl
  unfold inW at h
  rw [h5] at h
  cases h
theorem sub_dot {l : List UInt8} {i j : Nat} (h : ∀ k, i ≤ k → k < j → bt l k ≠ 46) : Lib.indexByte (subL l i j) 46 < 0 := by
  rw [idx_no (fun k hk e => ?_)]
  · decide
  · obtain ⟨h1, h2⟩ := sub_get e
    exact h (i + k) (by omega) h2 (by rw [bt_of h1]; rfl)
theorem sub_len {l : List UInt8} {i j : Nat} (h : j ≤ l.length) : (subL l i j).length = j - i := by
  unfold subL
  simp
  omega
/-- one name -/
theorem parts_one {l : List UInt8} {i j : Nat} (h : ∀ k, i ≤ k → k < j → bt l k ≠ 46) : parts (subL l i j) = [subL l i j] := parts_neg (sub_dot h)
theorem sub_take {l : List UInt8} {i j k : Nat} (h1 : i ≤ j) (h2 : j ≤ k) : (subL l i k).take (j - i) = subL l i j := by
  unfold subL
  rw [List.take_take, Nat.min_eq_left (by omega)]
theorem sub_drop {l : List UInt8} {i j k : Nat} (h1 : i ≤ j) (h2 : j < k) : (subL l i k).drop (j - i + 1) = subL l (j + 1) k := by
  unfold subL
  rw [List.drop_take, List.drop_drop, show i + (j - i + 1) = j + 1 by omega, show k - i - (j - i + 1) = k - (j + 1) by omega]
/-- two names -/
theorem parts_two {l : List UInt8} {i j k : Nat} (h1 : i ≤ j) (h2 : j < k) (hk : k ≤ l.length) (hd : bt l j = 46) (ha : ∀ m, i ≤ m → m < j → bt l m ≠ 46) (hb : ∀ m, j + 1 ≤ m → m < k → bt l m ≠ 46) : parts (subL l i k) = [subL l i j, subL l (j + 1) k] := by
  have hj : j < l.length := by omega
  have h46 : l[j]? = some 46 := by
    rw [List.getElem?_eq_getElem hj]
    have := bt_of (List.getElem?_eq_getElem hj)
    rw [hd] at this
    exact congrArg some (UInt8.toNat_inj.1 this.symm)
  have hi : Lib.indexByte (subL l i k) 46 = ((j - i : Nat) : Int) := by
    refine idx_eq ?_ (fun m hm e => ?_)
    · unfold subL
      rw [List.getElem?_take, if_pos (by omega), List.getElem?_drop, show i + (j - i) = j by omega]
      exact h46
    · obtain ⟨e1, e2⟩ := sub_get e
      exact ha (i + m) (by omega) (by omega) (by rw [bt_of e1]; rfl)
  rw [parts_pos hi, sub_take h1 (by omega), sub_drop h1 h2, parts_one hb]
/-- the kinds of tokens of a line -/
theorem tok_name {l : List UInt8} {i j : Nat} (hi : i < l.length) (h3 : kl l i = 3) (hj : wrun l i = j) (hd : dotA l j 3 = false) :
    i < j ∧ j ≤ l.length ∧ tokE l i = (if 24 < j - i then 36 else 0) ∧ tokJ l i = (if 24 < j - i then i else j) ∧ tokC l i = (2, j) := by
  have hw : inW l i = true := by unfold inW; rw [h3]; rfl
  have hj' : wrun l (i + 1) = j := by rw [← hj, wrun_yes hw]
  have hg := wrun_ge l _ (i + 1) (Nat.le_refl _)
  rw [hj'] at hg
  have hle := hg.2 hi
  have hC : tokC l i = (2, j) := by unfold tokC endF; rw [if_pos h3, if_pos rfl, hj', hd, if_neg (by decide)]
  have hp := parts_one (l := l) (i := i) (j := j) (fun k h1 h2 => inW_46 (wrun_in _ i (Nat.le_refl _) k h1 (by rw [hj]; exact h2)))
  have hF : faultE 2 (subL l i j) = if 24 < j - i then 36 else 0 := by
    unfold faultE
    rw [if_pos (.inl rfl), hp, List.any_cons, List.any_nil, Bool.or_false, sub_len hle]
    simp
  refine ⟨by omega, hle, ?_, ?_, hC⟩
  · unfold tokE
    rw [hC, if_neg (by omega)]
    exact hF
  · unfold tokJ
    rw [hC, if_neg (by omega), hF]
    by_cases h : 24 < j - i
    · rw [if_pos h, if_pos h, if_neg (by decide)]
    · rw [if_neg h, if_neg h, if_pos rfl]
theorem tok_port {l : List UInt8} {i j k : Nat} (hi : i < l.length) (h3 : kl l i = 3) (hj : wrun l i = j) (hd : dotA l j 3 = true) (hk : wrun l (j + 1) = k) :
    i < j ∧ j + 1 < l.length ∧ j + 1 < k ∧ k ≤ l.length ∧ tokE l i = (if 24 < j - i ∨ 24 < k - j - 1 then 36 else 0) ∧ tokJ l i = (if 24 < j - i ∨ 24 < k - j - 1 then i else k) ∧ tokC l i = (3, k) := by
  have hw : inW l i = true := by unfold inW; rw [h3]; rfl
  have hj' : wrun l (i + 1) = j := by rw [← hj, wrun_yes hw]
  have hg := wrun_ge l _ (i + 1) (Nat.le_refl _)
  rw [hj'] at hg
  have hle := hg.2 hi
  obtain ⟨d1, d2⟩ : kl l j = 5 ∧ kl l (j + 1) = 3 := by unfold dotA at hd; simpa using hd
  obtain ⟨e1, e2⟩ := kl5 d1
  have e3 : j + 1 < l.length := Classical.byContradiction (fun h => by rw [kl0.2 h] at d2; cases d2)
  have hw2 : inW l (j + 1) = true := by unfold inW; rw [d2]; rfl
  have hg2 := wrun_ge l _ (j + 1 + 1) (Nat.le_refl _)
  rw [← wrun_yes hw2, hk] at hg2
  have hle2 := hg2.2 (by omega)
  have hC : tokC l i = (3, k) := by unfold tokC endF; rw [if_pos h3, if_pos rfl, hj', hd, if_pos rfl, hk]
  have hp := parts_two (l := l) (i := i) (j := j) (k := k) (by omega) (by omega) hle2 e2 (fun m h1 h2 => inW_46 (wrun_in _ i (Nat.le_refl _) m h1 (by rw [hj]; exact h2))) (fun m h1 h2 => inW_46 (wrun_in _ (j + 1) (Nat.le_refl _) m h1 (by rw [hk]; exact h2)))
  have hF : faultE 3 (subL l i k) = if 24 < j - i ∨ 24 < k - j - 1 then 36 else 0 := by
    unfold faultE
    rw [if_pos (.inr rfl), hp, List.any_cons, List.any_cons, List.any_nil, Bool.or_false, sub_len (by omega), sub_len hle2, show k - (j + 1) = k - j - 1 by omega]
    simp
  refine ⟨by omega, e3, by omega, hle2, ?_, ?_, hC⟩
  · unfold tokE
    rw [hC, if_neg (by omega)]
    exact hF
  · unfold tokJ
    rw [hC, if_neg (by omega), hF]
    by_cases h : 24 < j - i ∨ 24 < k - j - 1
    · rw [if_pos h, if_pos h, if_neg (by decide)]
    · rw [if_neg h, if_neg h, if_pos rfl]
theorem tok_num {l : List UInt8} {i : Nat} (hi : i < l.length) (hs : l.length ≤ 16384) (h4 : kl l i = 4) :
    i < nrun l i ∧ nrun l i ≤ l.length ∧ tokC l i = (4, nrun l i) ∧ tokE l i = (if numN (subL l i (nrun l i)) = none then 31 else 0) ∧ tokJ l i = (if numN (subL l i (nrun l i)) = none then i else nrun l i) := by
  have hw : (inW l i || dotA l i 4) = true := by unfold inW; rw [h4]; rfl
  have hy := nrun_yes hw
  have hg := nrun_ge l _ (i + 1) (Nat.le_refl _)
  rw [← hy] at hg
  have hle := hg.2 hi
  have hC : tokC l i = (4, nrun l i) := by
    unfold tokC endF
    rw [if_neg (by omega), if_pos h4, if_neg (by decide), if_neg (by decide), if_pos rfl, hy]
  have hF : faultE 4 (subL l i (nrun l i)) = if numN (subL l i (nrun l i)) = none then 31 else 0 := by
    have hl := subL_len l i (nrun l i)
    unfold faultE valE
    rw [if_neg (by decide), if_pos rfl, if_neg (by omega)]
    cases numN (subL l i (nrun l i)) <;> simp
  refine ⟨by omega, hle, hC, ?_, ?_⟩
  · unfold tokE
    rw [hC, if_neg (by omega)]
    exact hF
  · unfold tokJ
    rw [hC, if_neg (by omega), hF]
    cases numN (subL l i (nrun l i)) <;> simp
/-- is it a pattern -/
def patX (t : List UInt8) : Bool := decide (2 ≤ t.length) && (decide (t.length ≤ 33) && (t.drop 1).all is01x)
theorem tok_pat {l : List UInt8} {i : Nat} (hi : i < l.length) (h6 : kl l i = 6) :
    i < wrun l (i + 1) ∧ wrun l (i + 1) ≤ l.length ∧ tokC l i = (5, wrun l (i + 1)) ∧ tokE l i = (if patX (subL l i (wrun l (i + 1))) = true then 0 else 44) ∧ tokJ l i = (if patX (subL l i (wrun l (i + 1))) = true then wrun l (i + 1) else i) := by
  have hg := wrun_ge l _ (i + 1) (Nat.le_refl _)
  have hle := hg.2 hi
  have hC : tokC l i = (5, wrun l (i + 1)) := by
    unfold tokC endF
    rw [if_neg (by omega), if_neg (by omega), if_pos h6, if_neg (by decide), if_neg (by decide), if_neg (by decide), if_pos rfl]
  have hF : faultE 5 (subL l i (wrun l (i + 1))) = if patX (subL l i (wrun l (i + 1))) = true then 0 else 44 := by
    obtain ⟨t, ht⟩ : ∃ t, subL l i (wrun l (i + 1)) = t := ⟨_, rfl⟩
    rw [ht]
    unfold faultE patX
    rw [if_neg (by decide), if_neg (by decide), if_pos rfl]
    have e0 : (t.drop 1 = []) ↔ t.length ≤ 1 := by rw [← List.length_eq_zero_iff, List.length_drop]; omega
    rw [List.length_drop]
    by_cases ha : (t.drop 1).all is01x = true
    · by_cases hb : 2 ≤ t.length ∧ t.length ≤ 33
      · rw [if_neg (fun h => by rcases h with h | h | h <;> first | (rw [e0] at h; omega) | omega | (rw [ha] at h; cases h)), if_pos (by rw [ha]; simp [hb.1, hb.2])]
      · rw [if_pos (by rw [e0]; omega), if_neg (by simp only [Bool.and_eq_true, decide_eq_true_eq]; exact fun h => hb ⟨h.1, h.2.1⟩)]
    · rw [if_pos (.inr (.inr (Bool.eq_false_iff.2 ha))), if_neg (by simp only [Bool.and_eq_true]; exact fun h => ha h.2.2)]
  refine ⟨by omega, hle, hC, ?_, ?_⟩
  · unfold tokE
    rw [hC, if_neg (by omega)]
    exact hF
  · unfold tokJ
    rw [hC, if_neg (by omega), hF]
    cases patX (subL l i (wrun l (i + 1))) <;> simp
theorem tok_quo {l : List UInt8} {i : Nat} (hi : i < l.length) (hn : ∀ j, j < l.length → kl l j ≠ 1) (h7 : kl l i = 7) :
    ((insS l (i + 1) []).2.2 ≠ 0 → tokE l i = (insS l (i + 1) []).2.2 ∧ tokJ l i = (insS l (i + 1) []).2.1) ∧
    ((insS l (i + 1) []).2.2 = 0 → 256 < (insS l (i + 1) []).1.length → tokE l i = 37 ∧ tokJ l i = i) ∧
    ((insS l (i + 1) []).2.2 = 0 → ¬ 256 < (insS l (i + 1) []).1.length → tokE l i = 0 ∧ tokJ l i = (insS l (i + 1) []).2.1 ∧ tokC l i = (6, (insS l (i + 1) []).2.1)) := by
  have hC : tokC l i = (6, quoJ l i) := by
    unfold tokC endF
    rw [if_neg (by omega), if_neg (by omega), if_neg (by omega), if_pos h7, if_neg (by decide), if_neg (by decide), if_neg (by decide), if_neg (by decide)]
  have hf : ∀ t, faultE 6 t = 0 := fun t => by
    unfold faultE
    rw [if_neg (by decide), if_neg (by decide), if_neg (by decide), if_neg (by decide)]
  have h33 : ¬ ((insS l (i + 1) []).2.2 = 33 ∧ kl l (insS l (i + 1) []).2.1 = 1) := fun ⟨h1, h2⟩ => hn _ ((insS_at l _ (i + 1) [] (Nat.le_refl _) hi).2 h1) h2
  have hq : quoE l i = if (insS l (i + 1) []).2.2 = 0 ∧ 256 < (insS l (i + 1) []).1.length then 37 else (insS l (i + 1) []).2.2 := by unfold quoE; rw [if_neg h33]
  refine ⟨fun h => ?_, fun h1 h2 => ?_, fun h1 h2 => ?_⟩
  · have hc : ¬ ((insS l (i + 1) []).2.2 = 0 ∧ 256 < (insS l (i + 1) []).1.length) := fun hh => h hh.1
    have hq1 : quoE l i = (insS l (i + 1) []).2.2 := hq.trans (if_neg hc)
    have hj1 : quoJ l i = (insS l (i + 1) []).2.1 := by unfold quoJ; exact if_neg hc
    have h7' : kl l i = 7 ∧ quoE l i ≠ 0 := ⟨h7, by rw [hq1]; exact h⟩
    exact ⟨by unfold tokE; rw [if_pos h7', hq1], by unfold tokJ; rw [if_pos h7', hj1]⟩
  · have hq1 : quoE l i = 37 := hq.trans (if_pos ⟨h1, h2⟩)
    have hj1 : quoJ l i = i := by unfold quoJ; exact if_pos ⟨h1, h2⟩
    have h7' : kl l i = 7 ∧ quoE l i ≠ 0 := ⟨h7, by rw [hq1]; decide⟩
    exact ⟨by unfold tokE; rw [if_pos h7', hq1], by unfold tokJ; rw [if_pos h7', hj1]⟩
  · have hq1 : quoE l i = 0 := (hq.trans (if_neg (fun hh => h2 hh.2))).trans h1
    have hj1 : quoJ l i = (insS l (i + 1) []).2.1 := by unfold quoJ; exact if_neg (fun hh => h2 hh.2)
    have h7' : ¬ (kl l i = 7 ∧ quoE l i ≠ 0) := fun hh => hh.2 hq1
    exact ⟨by unfold tokE; rw [if_neg h7', hC, hf], by unfold tokJ; rw [if_neg h7', hC, hf, if_pos rfl, hj1], by rw [hC, hj1]⟩
theorem find_eq (a : List UInt8) : ∀ L : List (List UInt8), L.find? (fun s => s == a) = if a ∈ L then some a else none
  | [] => rfl
  | b :: L => by
    rw [List.find?_cons, find_eq a L]
    by_cases h : b = a
    · subst h
      simp
    · have : (b == a) = false := beq_eq_false_iff_ne.2 h
      rw [this]
      simp only [List.mem_cons]
      by_cases h2 : a ∈ L
      · rw [if_pos h2, if_pos (.inr h2)]
      · rw [if_neg h2, if_neg (fun hh => hh.elim (fun e => h e.symm) h2)]
theorem find_cong {α : Type} {p q : α → Bool} : ∀ L : List α, (∀ x ∈ L, p x = q x) → L.find? p = L.find? q := findc
abbrev signs2 : List (List UInt8) := [[33, 61], [60, 61], [62, 61], [46, 46], [45, 62]]
abbrev signs1 : List (List UInt8) := [[40], [41], [33], [61], [60], [62], [38], [124], [44], [58], [47]]
theorem pre_two (x y : UInt8) (r : List UInt8) : ∀ s ∈ signs2, Lib.hasPrefix (x :: y :: r) s = (s == [x, y]) := by
  intro s hs
  have h2 : ∀ s ∈ signs2, s.length = 2 := by decide
  obtain ⟨a, b, rfl⟩ : ∃ a b, s = [a, b] := by
    have := h2 s hs
    match s, this with
    | [a, b], _ => exact ⟨a, b, rfl⟩
  unfold Lib.hasPrefix
  simp [List.isPrefixOf]
theorem pre_one (x : UInt8) (r : List UInt8) : ∀ s ∈ signs1, Lib.hasPrefix (x :: r) s = (s == [x]) := by
  intro s hs
  have h2 : ∀ s ∈ signs1, s.length = 1 := by decide
  obtain ⟨a, rfl⟩ : ∃ a, s = [a] := by
    have := h2 s hs
    match s, this with
    | [a], _ => exact ⟨a, rfl⟩
  unfold Lib.hasPrefix
  simp [List.isPrefixOf]
theorem sgn_two (x y : UInt8) (r : List UInt8) : sgn (x :: y :: r) = if [x, y] ∈ signs2 then 2 else if [x] ∈ signs1 then 1 else 0 := by
  unfold sgn
  rw [show signsL = signs2 ++ signs1 from rfl, List.find?_append, find_cong signs2 (pre_two x y r), find_cong signs1 (pre_one x (y :: r)), find_eq, find_eq]
  by_cases h : [x, y] ∈ signs2
  · rw [if_pos h, if_pos h]; rfl
  · rw [if_neg h, if_neg h]
    by_cases h1 : [x] ∈ signs1
    · rw [if_pos h1, if_pos h1]; rfl
    · rw [if_neg h1, if_neg h1]; rfl
theorem sgn_one (x : UInt8) : sgn [x] = if [x] ∈ signs1 then 1 else 0 := by
  unfold sgn
  have hn : signs2.find? (fun s => Lib.hasPrefix [x] s) = none := by
    rw [List.find?_eq_none]
    intro s hs
    have h2 : ∀ s ∈ signs2, s.length = 2 := by decide
    have := h2 s hs
    match s, this with
    | [a, b], _ => simp [Lib.hasPrefix, List.isPrefixOf]
  rw [show signsL = signs2 ++ signs1 from rfl, List.find?_append, hn, find_cong signs1 (pre_one x []), find_eq]
  by_cases h1 : [x] ∈ signs1
  · rw [if_pos h1, if_pos h1]; rfl
  · rw [if_neg h1, if_neg h1]; rfl
theorem tok_sign {l : List UInt8} {i : Nat} (h3 : kl l i ≠ 3) (h4 : kl l i ≠ 4) (h6 : kl l i ≠ 6) (h7 : kl l i ≠ 7) :
    tokC l i = (7, i + sgn (l.drop i)) ∧ tokE l i = (if sgn (l.drop i) = 0 then 30 else 0) ∧ tokJ l i = i + sgn (l.drop i) := by
  have hC : tokC l i = (7, i + sgn (l.drop i)) := by
    unfold tokC
    rw [if_neg h3, if_neg h4, if_neg h6, if_neg h7]
  have hl := (sgn_pre (l.drop i)).1
  have hF : faultE 7 (subL l i (i + sgn (l.drop i))) = if sgn (l.drop i) = 0 then 30 else 0 := by
    unfold faultE
    rw [if_neg (by decide), if_neg (by decide), if_neg (by decide), if_pos rfl]
    have e : subL l i (i + sgn (l.drop i)) = [] ↔ sgn (l.drop i) = 0 := by
      unfold subL
      rw [← List.length_eq_zero_iff, List.length_take, Nat.add_sub_cancel_left]
      omega
    by_cases h : sgn (l.drop i) = 0
    · rw [if_pos (e.2 h), if_pos h]
    · rw [if_neg (fun hh => h (e.1 hh)), if_neg h]
  refine ⟨hC, ?_, ?_⟩
  · unfold tokE
    rw [hC, if_neg (fun h => h7 h.1)]
    exact hF
  · unfold tokJ
    rw [hC, if_neg (fun h => h7 h.1), hF]
    by_cases h : sgn (l.drop i) = 0
    · rw [if_pos h, if_neg (by decide), h]; rfl
    · rw [if_neg h, if_pos rfl]
end Go.Proofs.YtggifkdgkjmljaaGreatDoor
namespace Go.Proofs.YtggifkdgkjmljaaGreatDoor
open Go.RowKit Go.Shelf
def xdgs : List UInt8 := [48, 49, 120]
theorem xdgs_has (c : UInt8) : xdgs.contains c = is01x c := by
  have h : ∀ n : Fin 256, xdgs.contains (UInt8.ofNat n.val) = is01x (UInt8.ofNat n.val) := by decide +kernel
  have := h ⟨c.toNat, c.toNat_lt⟩
  rw [UInt8.ofNat_toNat] at this
  exact this
theorem xdgs_take (k : Nat) (c d : UInt8) (h : xdgs[k]? = some d) : (xdgs.take (k + 1)).contains c = ((xdgs.take k).contains c || c == d) := by
  rw [List.take_add_one, h, List.contains_append]
  show ((xdgs.take k).contains c || [d].contains c) = _
  rw [List.contains_cons, List.contains_nil, Bool.or_false]
set_option maxRecDepth 100000 in
theorem allx_any (l : List UInt8) (w : World) (hs : l.length ≤ 281474976710656) :
    Calls Tryz.prog 41 #[.string ⟨l.toArray⟩, .string ⟨#[48, 49, 120]⟩] w fun e w' => e = .returned (.bool (l.all is01x)) ∧ Below w.heap.size w w' := by
  go_enter Tryz.func41, Tryz.ntmps41
  go_wp2
  go_loopw [5] (fun i wr => ∃ k : Nat, k ≤ l.length ∧ i = .int .i64 k ∧ (∀ j c, j < k → l[j]? = some c → is01x c = true) ∧ Below w.heap.size w wr) (fun i _ => l.length - (intOf i).toNat)
  case atStart => exact ⟨0, Nat.zero_le _, rfl, fun j c hj => by omega, Below.refl _ _⟩
  case round =>
    obtain ⟨k, hk, rfl, hn, hB⟩ := hrel
    by_cases hlt : k < l.length
    · have i1 : (k : Int) < (l.length : Int) := by omega
      obtain ⟨c, hc, hlc⟩ := byte_get l k hlt
      have HN : Hid (∀ j c, j < k → l[j]? = some c → is01x c = true) := hn
      clear hn
      rename World => wq
      go_wp2_with fail
      go_loopw [6, 7] (fun b j wr => ∃ m : Nat, m ≤ 3 ∧ j = .int .i64 m ∧ b = .bool ((xdgs.take m).contains c) ∧ Below w.heap.size w wr) (fun _ j _ => 3 - (intOf j).toNat)
      case atStart => exact ⟨0, by omega, rfl, rfl, hB⟩
      case round =>
        clear hB
        obtain ⟨m, hm, rfl, rfl, hB⟩ := hrel
        by_cases hlm : m < 3
        · have i2 : (m : Int) < 3 := by omega
          obtain ⟨d, hd0, hld⟩ := byte_get xdgs m hlm
          have hd : ∀ h', (ByteArray.mk #[48, 49, 120])[m]'h' = d := hd0
          have ht := xdgs_take m c d hld
          clear hd0
          obtain ⟨x, hx⟩ : ∃ x, (xdgs.take m).contains c = x := ⟨_, rfl⟩
          obtain ⟨y, hy⟩ : ∃ y, (xdgs.take (m + 1)).contains c = y := ⟨_, rfl⟩
          rw [hx, hy] at ht
          have HY : Hid ((xdgs.take (m + 1)).contains c = y) := hy
          rw [hx]
          clear hx hy
          by_cases hcd : c = d
          · subst hcd
            obtain rfl : y = true := by rw [ht]; simp
            clear ht
            go_wp2_with fail
            go_quiet (fail)
            go_wp2_with fail
            go_roundw
            case rel => exact ⟨m + 1, by omega, by go_num, by rw [HY.out], bel_drewN _ hB⟩
            case measure => simp [intOf]; omega
          · have hne := u8_ne hcd
            obtain rfl : y = x := by rw [ht, beq_eq_false_iff_ne.2 hcd]; simp
            clear ht
            go_wp2_with fail
            go_quiet (fail)
            go_wp2_with fail
            go_roundw
            case rel => exact ⟨m + 1, by omega, by go_num, by rw [HY.out], bel_drewN _ hB⟩
            case measure => simp [intOf]; omega
        · have i2 : ¬ (m : Int) < 3 := by omega
          obtain rfl : m = 3 := by omega
          have hx : (xdgs.take 3).contains c = is01x c := xdgs_has c
          rw [hx]
          by_cases hcd : is01x c = true
          · rw [hcd]
            have HN2 : Hid (∀ j c, j < k + 1 → l[j]? = some c → is01x c = true) := fun j e hj he => by
              rcases Nat.lt_or_ge j k with h | h
              · exact HN.out j e h he
              · obtain rfl : j = k := by omega
                rw [hlc] at he; injection he with he; rw [← he]; exact hcd
            go_wp2_with fail
            go_roundw
            case rel => exact ⟨k + 1, by omega, by go_num, HN2.out, hB⟩
            case measure => simp [intOf]; omega
          · have hr : Hid (l.all is01x = false) := by
              unfold Hid
              cases ha : l.all is01x with
              | false => rfl
              | true =>
                rw [List.all_eq_true] at ha
                exact absurd (ha c (List.mem_of_getElem? hlc)) hcd
            rw [Bool.eq_false_iff.2 hcd]
            go_wp2_with fail
            go_ret
            exact ⟨by rw [hr.out]; rfl, hB⟩
    · have i1 : ¬ (k : Int) < (l.length : Int) := by omega
      have hr : Hid (l.all is01x = true) := by
        unfold Hid
        rw [List.all_eq_true]
        intro x hx
        obtain ⟨j, hj, rfl⟩ := List.mem_iff_getElem.1 hx
        exact hn j _ (by omega) (List.getElem?_eq_getElem hj)
      clear hn
      go_wp2_with fail
      go_ret
      exact ⟨by rw [hr.out]; rfl, hB⟩
set_option maxRecDepth 100000 in
theorem refPattern_any (t : List UInt8) (w : World) (h0 : t[0]? = some 37) (hs : t.length ≤ 281474976710656) :
    Calls Tryz.prog 29 #[.string ⟨t.toArray⟩] w fun e w' => e = .returned (.bool (patX t)) ∧ Below w.heap.size w w' := by
  have hl0 : 0 < t.length := (List.getElem?_eq_some_iff.1 h0).1
  obtain ⟨c, hc, hlc⟩ := byte_get t 0 hl0
  obtain rfl : c = 37 := by rw [h0] at hlc; exact (Option.some.inj hlc).symm
  clear hlc h0
  by_cases a1 : 2 ≤ t.length
  · have i1 : (2 : Int) ≤ (t.length : Int) := by omega
    by_cases a2 : t.length ≤ 33
    · have i2 : (t.length : Int) ≤ 33 := by omega
      have i3 : (1 : Int) ≤ (t.length : Int) := by omega
      have HA := allx_any (t.drop 1) w (by simp; omega)
      obtain ⟨q, hq⟩ : ∃ q, (t.drop 1).all is01x = q := ⟨_, rfl⟩
      have hr : Hid (patX t = q) := by unfold Hid patX; rw [hq]; simp [a1, a2]
      rw [hq] at HA
      have hE : (ByteArray.mk t.toArray).extract 1 t.length = ⟨(t.drop 1).toArray⟩ := ext_drop t 1
      obtain ⟨T, hT⟩ : ∃ T, t.drop 1 = T := ⟨_, rfl⟩
      rw [hT] at HA hE
      clear hq hT
      go_enter Tryz.func29, Tryz.ntmps29
      go_wp2_with fail
      refine HA.mono ?_
      rintro e w1 ⟨rfl, hb1⟩
      go_wp2_with fail
      go_ret
      exact ⟨by rw [hr.out]; rfl, hb1⟩
    · have i2 : ¬ (t.length : Int) ≤ 33 := by omega
      have hr : Hid (patX t = false) := by unfold Hid patX; simp [a2]
      go_enter Tryz.func29, Tryz.ntmps29
      go_wp2_with fail
      go_ret
      exact ⟨by rw [hr.out]; rfl, Below.refl _ _⟩
  · have i1 : ¬ (2 : Int) ≤ (t.length : Int) := by omega
    have hr : Hid (patX t = false) := by unfold Hid patX; simp [a1]
    go_enter Tryz.func29, Tryz.ntmps29
    go_wp2_with fail
    go_ret
    exact ⟨by rw [hr.out]; rfl, Below.refl _ _⟩
abbrev signsD : Array Value := #[.string ⟨#[33, 61]⟩, .string ⟨#[60, 61]⟩, .string ⟨#[62, 61]⟩, .string ⟨#[46, 46]⟩, .string ⟨#[45, 62]⟩, .string ⟨#[40]⟩, .string ⟨#[41]⟩, .string ⟨#[33]⟩, .string ⟨#[61]⟩, .string ⟨#[60]⟩, .string ⟨#[62]⟩, .string ⟨#[38]⟩, .string ⟨#[124]⟩, .string ⟨#[44]⟩, .string ⟨#[58]⟩, .string ⟨#[47]⟩, .string ⟨#[]⟩]
/-- the document's table of the signs lies there -/
def SR (w : World) : Prop := ∃ t fr, w.heap[1]? = some (.cells signsD t fr)
theorem SR.below {w W : World} (h : SR w) (hb : Below w.heap.size w W) : SR W := by
  obtain ⟨t, fr, h⟩ := h
  exact ⟨t, fr, (hb.block _ (lt_of_get h)).trans h⟩
theorem SR.cell {w : World} (h : SR w) (j : Nat) : w.cell? ⟨1, j, none⟩ = signsD[j]? := by
  obtain ⟨t, fr, h⟩ := h
  exact cell_of_row w _ j _ _ _ h
theorem signsD_at (k : Nat) (z : List UInt8) (h : signsL[k]? = some z) : signsD[k]? = some (.string ⟨z.toArray⟩) := by
  match k, h with
  | 0, h => obtain rfl := Option.some.inj h; rfl
  | 1, h => obtain rfl := Option.some.inj h; rfl
  | 2, h => obtain rfl := Option.some.inj h; rfl
  | 3, h => obtain rfl := Option.some.inj h; rfl
  | 4, h => obtain rfl := Option.some.inj h; rfl
  | 5, h => obtain rfl := Option.some.inj h; rfl
  | 6, h => obtain rfl := Option.some.inj h; rfl
  | 7, h => obtain rfl := Option.some.inj h; rfl
  | 8, h => obtain rfl := Option.some.inj h; rfl
  | 9, h => obtain rfl := Option.some.inj h; rfl
  | 10, h => obtain rfl := Option.some.inj h; rfl
  | 11, h => obtain rfl := Option.some.inj h; rfl
  | 12, h => obtain rfl := Option.some.inj h; rfl
  | 13, h => obtain rfl := Option.some.inj h; rfl
  | 14, h => obtain rfl := Option.some.inj h; rfl
  | 15, h => obtain rfl := Option.some.inj h; rfl
  | k + 16, h => simp at h
def isSg (s : List UInt8) : Bool := decide (s ∈ signsL)
set_option maxRecDepth 100000 in
theorem refSign_any (s : List UInt8) (w : World) (hg : SR w) : Calls Tryz.prog 31 #[.string ⟨s.toArray⟩] w fun e w' => e = .returned (.bool (isSg s)) ∧ w' = w := by
  have HG : Hid (SR w) := hg
  clear hg
  go_enter Tryz.func31, Tryz.ntmps31
  go_wp2_with fail
  go_loop [3] (fun vk => ∃ k : Nat, vk = .int .i64 k ∧ k ≤ 16 ∧ Hid (∀ (j : Nat) (z : List UInt8), j < k → signsL[j]? = some z → z ≠ s)) (fun vk => 16 - (intOf vk).toNat)
  case atStart => exact ⟨0, rfl, by omega, fun j z hj => by omega⟩
  case round =>
    obtain ⟨k, rfl, hk, hno⟩ := hrel
    by_cases hk5 : k < 16
    · have hk5' : (k : Int) < 16 := by omega
      have j0 : (0 : Int) ≤ (k : Int) := by omega
      have j17 : (k : Int) < 17 := by omega
      obtain ⟨z, hz⟩ : ∃ z, signsL[k]? = some z := ⟨_, List.getElem?_eq_getElem hk5⟩
      have hcell : w.cell? ⟨1, k, none⟩ = some (.string ⟨z.toArray⟩) := (HG.out.cell k).trans (signsD_at k z hz)
      have HZ : Hid (signsL[k]? = some z) := hz
      clear hz
      by_cases hzs : z = s
      · subst hzs
        have hr : Hid (isSg z = true) := decide_eq_true (List.mem_of_getElem? HZ.out)
        go_wp2_with fail
        go_ret
        exact ⟨by rw [hr.out]; rfl, rfl⟩
      · have hne : (z == s) = false := beq_eq_false_iff_ne.2 hzs
        have HN : Hid (∀ (j : Nat) (z : List UInt8), j < k + 1 → signsL[j]? = some z → z ≠ s) := fun j y hj hy => by
          rcases Nat.lt_or_ge j k with h | h
          · exact hno.out j y h hy
          · obtain rfl : j = k := by omega
            have := HZ.out
            rw [hy] at this
            rw [Option.some.inj this]
            exact hzs
        clear hno
        go_wp2_with fail
        go_round
        case rel => exact ⟨k + 1, by go_num, by omega, HN⟩
        case measure => simp [intOf]; omega
    · have hk5' : ¬ (k : Int) < 16 := by omega
      have hr : Hid (isSg s = false) := by
        refine decide_eq_false (fun hm => ?_)
        obtain ⟨j, hj, e⟩ := List.mem_iff_getElem.1 hm
        have h16 : signsL.length = 16 := rfl
        exact hno.out j s (by omega) (by rw [List.getElem?_eq_getElem hj, e]) rfl
      go_wp2_with fail
      go_ret
      exact ⟨by rw [hr.out]; rfl, rfl⟩
end Go.Proofs.YtggifkdgkjmljaaGreatDoor

import Derived.Test.YtodhcnjkiollaaaGreatDoorZ21
import Derived.Shelf.Strings.SlTrimAscii
import Derived.Ground.NamesProg
import Derived.Test.YtodhcnjkiollaaaGreatDoorProg
import Derived.Test.YtodhcnjkiollaaaGreatDoorZ18
import Derived.Test.YtodhcnjkiollaaaGreatDoorZ14
import Derived.Lib.SlTrimSet
import Derived.RegionIn
namespace Go.Proofs.YtodhcnjkiollaaaGreatDoor
open Go.RowKit Go.Shelf
/-- a line: no byte ends it -/
def noNL (a : List UInt8) : Prop := ∀ j, j < a.length → kl a j ≠ 1
theorem cend_noNL {a : List UInt8} (hn : noNL a) : ∀ (m j : Nat), a.length - j ≤ m → j ≤ a.length → cend a j = a.length
  | m, j, hm, hj => by
    by_cases hlt : j < a.length
    · have hp := dc_pos a j
      have hl := dc_le a j hlt
      match m, hm with
      | 0, hm => omega
      | m + 1, hm =>
        rw [cend_on (hn j hlt) (fun e => kl0.1 e hlt)]
        exact cend_noNL hn m _ (by omega) hl
    · rw [cend_end (.inr (kl0.2 hlt))]
      omega
section
variable {P a S : List UInt8}
theorem cendL (hS : stopL S) (hn : noNL a) : ∀ (m j : Nat), a.length - j ≤ m → j ≤ a.length → cend (P ++ (a ++ S)) (P.length + j) = P.length + a.length
  | m, j, hm, hj => by
    by_cases hlt : j < a.length
    · have hp := dc_pos a j
      have hl := dc_le a j hlt
      have hk := klL (P := P) hS hlt
      match m, hm with
      | 0, hm => omega
      | m + 1, hm =>
        rw [cend_on (by rw [hk]; exact hn j hlt) (by rw [hk]; exact fun e => kl0.1 e hlt), dcL hS hlt, Nat.add_assoc]
        exact cendL hS hn m _ (by omega) hl
    · obtain rfl : j = a.length := by omega
      exact cend_end (klE (P := P) (a := a) hS).symm
/-- what a line's answer becomes in the text -/
def goesOn (f : Nat) (P a S : List UInt8) (line : Nat) (r : Res) : Res := if r.2.1 ≠ 0 then r else if S = [] then r else runM f (P ++ (a ++ S)) (P.length + a.length + 1) (line + 1) (P.length + a.length + 1) r.1
theorem lend_line (hS : stopL S) (h0 : RE (P ++ (a ++ S)) P.length) (f g line : Nat) (D : List Tok) (hr : RE a a.length) : lendM f (P ++ (a ++ S)) (P.length + a.length) line P.length D = goesOn f P a S line (lendM g a a.length line 0 D) := by
  have hc := ciL (P := P) hS h0 (Nat.le_refl _) hr
  have ha : lendM g a a.length line 0 D = (endT D line (ci a a.length - ci a 0 + 1), 0, 0, 0) := by
    unfold lendM
    rw [if_pos (kl0.2 (Nat.lt_irrefl _))]
  rw [ha]
  have hg : goesOn f P a S line (endT D line (ci a a.length - ci a 0 + 1), 0, 0, 0) = if S = [] then (endT D line (ci a a.length - ci a 0 + 1), 0, 0, 0) else runM f (P ++ (a ++ S)) (P.length + a.length + 1) (line + 1) (P.length + a.length + 1) (endT D line (ci a a.length - ci a 0 + 1)) := by
    unfold goesOn
    exact if_neg (fun h => h rfl)
  rw [hg]
  unfold lendM
  rw [hc]
  rcases hS with rfl | ⟨S', rfl⟩
  · have hk : kl (P ++ (a ++ [])) (P.length + a.length) = 0 := kl0.2 (by simp)
    rw [if_pos hk, if_pos rfl]
  · have hk : ¬ kl (P ++ (a ++ 10 :: S')) (P.length + a.length) = 0 := fun e => kl0.1 e (by simp)
    have hs : ¬ (10 :: S' = []) := by simp
    rw [if_neg hk, if_neg hs]
/-- a line in a text is read as it is read alone -/
theorem line_run (hS : stopL S) (h0 : RE (P ++ (a ++ S)) P.length) (hn : noNL a) : ∀ (f j line : Nat) (D : List Tok), j ≤ a.length → a.length - j < f → RE a j → ∃ f', f ≤ f' + (a.length - j) + 1 ∧ f' < f ∧ runM f (P ++ (a ++ S)) (P.length + j) line P.length D = goesOn f' P a S line (runM f a j line 0 D)
  | 0, j, line, D, hj, hf, hr => by omega
  | f + 1, j, line, D, hj, hf, hr => by
    by_cases hlt : j < a.length
    · have hk := klL (P := P) hS hlt
      have h0' : kl a j ≠ 0 := fun e => kl0.1 e hlt
      have h1 := hn j hlt
      by_cases h2 : kl a j = 2
      · obtain ⟨_, hb⟩ := kl_asc (l := a) (j := j) (by omega) (by omega)
        obtain ⟨f', e1, e2, e3⟩ := line_run hS h0 hn f (j + 1) line D hlt (by omega) (hr.asc hlt hb)
        refine ⟨f', by omega, by omega, ?_⟩
        rw [runM_blank (by rw [hk]; exact h2), runM_blank h2, Nat.add_assoc]
        exact e3
      by_cases h8 : kl a j = 8
      · obtain ⟨_, hb⟩ := kl_asc (l := a) (j := j) (by omega) (by omega)
        have hc := cend_noNL hn _ (j + 1) (Nat.le_refl _) hlt
        have hre : RE a a.length := by
          have := RE.cend _ _ (Nat.le_refl _) (hr.asc hlt hb)
          rwa [hc] at this
        refine ⟨f, by omega, by omega, ?_⟩
        rw [runM_hash (by rw [hk]; exact h8), runM_hash h8, Nat.add_assoc, cendL hS hn _ (j + 1) (Nat.le_refl _) hlt, hc]
        exact lend_line hS h0 f f line D hre
      obtain ⟨tE, tJ⟩ := tokEL (P := P) hS hlt
      have hcj := ciL (P := P) hS h0 hj hr
      by_cases he : tokE a j = 0
      · obtain ⟨a1, a2⟩ := tok_adv hlt h1 he
        obtain ⟨f', e1, e2, e3⟩ := line_run hS h0 hn f (tokJ a j) line (D ++ [((tokC a j).1, subL a j (tokC a j).2, line, ci a j - ci a 0 + 1)]) a2 (by omega) (hr.tok hlt)
        refine ⟨f', by omega, by omega, ?_⟩
        obtain ⟨c1, c2⟩ := tokC_le hlt
        rw [runM_tok (by rw [hk]; exact h2) (by rw [hk]; exact h8) (by rw [hk]; exact h1) (by rw [hk]; exact h0') (by rw [tE]; exact he), runM_tok h2 h8 h1 h0' he, tJ, tokCL hS hlt, hcj]
        simp only [subLL c1 c2]
        exact e3
      · obtain ⟨g1, g2⟩ := tok_ge hlt he
        refine ⟨f, by omega, by omega, ?_⟩
        rw [runM_err (by rw [hk]; exact h2) (by rw [hk]; exact h8) (by rw [hk]; exact h1) (by rw [hk]; exact h0') (by rw [tE]; exact he), runM_err h2 h8 h1 h0' he, tE, tJ, ciL hS h0 g2 (hr.tok hlt)]
        unfold goesOn
        rw [if_pos he]
    · obtain rfl : j = a.length := by omega
      refine ⟨f, by omega, by omega, ?_⟩
      rw [runM_end (klE (P := P) (a := a) hS).symm, runM_end (.inr (kl0.2 hlt))]
      exact lend_line hS h0 f f line D hr
end
end Go.Proofs.YtodhcnjkiollaaaGreatDoor
namespace Go.Proofs.YtodhcnjkiollaaaGreatDoor
open Go.RowKit Go.Shelf
theorem kl_one {l : List UInt8} {j : Nat} (h : kl l j = 1) : bt l j = 10 := by
  have h10 : chr l j = 10 := by
    unfold kl cls at h
    repeat' split at h
    all_goals first | assumption | omega
  exact ((chr_asc l j 10 (by decide)).1 h10).2
theorem noNL_of {a : List UInt8} (h : ∀ c ∈ a, c ≠ 10) : noNL a := fun j hj h1 => by
  have := kl_one h1
  unfold bt at this
  have e : a.getD j 0 = a[j] := by simp [List.getD, hj]
  rw [e] at this
  exact h _ (List.getElem_mem hj) (UInt8.toNat_inj.1 this)
theorem cend_ge {l : List UInt8} : ∀ (m j : Nat), l.length - j ≤ m → j ≤ cend l j
  | m, j, hm => by
    by_cases hk : kl l j = 1 ∨ kl l j = 0
    · rw [cend_end hk]; exact Nat.le_refl _
    · have h1 : kl l j ≠ 1 := fun e => hk (.inl e)
      have h0 : kl l j ≠ 0 := fun e => hk (.inr e)
      have hj : j < l.length := Classical.byContradiction (fun e => h0 (kl0.2 e))
      have hp := dc_pos l j
      match m, hm with
      | 0, hm => omega
      | m + 1, hm =>
        rw [cend_on h1 h0]
        have := cend_ge (l := l) m (j + (dc l j).2) (by omega)
        omega
/-- more fuel says the same -/
theorem runM_fuel (l : List UInt8) : ∀ (f g j line hb : Nat) (D : List Tok), l.length - j < f → l.length - j < g → runM f l j line hb D = runM g l j line hb D
  | 0, g, j, line, hb, D, hf, hg => by omega
  | f + 1, 0, j, line, hb, D, hf, hg => by omega
  | f + 1, g + 1, j, line, hb, D, hf, hg => by
    have hend : ∀ e, j ≤ e → lendM f l e line hb D = lendM g l e line hb D := fun e he => by
      unfold lendM
      by_cases h0 : kl l e = 0
      · rw [if_pos h0, if_pos h0]
      · have hlt : e < l.length := Classical.byContradiction (fun h => h0 (kl0.2 h))
        rw [if_neg h0, if_neg h0]
        exact runM_fuel l f g _ _ _ _ (by omega) (by omega)
    by_cases h10 : kl l j = 1 ∨ kl l j = 0
    · rw [runM_end h10, runM_end h10]
      exact hend j (Nat.le_refl _)
    have h1 : kl l j ≠ 1 := fun e => h10 (.inl e)
    have h0 : kl l j ≠ 0 := fun e => h10 (.inr e)
    have hj : j < l.length := Classical.byContradiction (fun e => h0 (kl0.2 e))
    by_cases h2 : kl l j = 2
    · rw [runM_blank h2, runM_blank h2]
      exact runM_fuel l f g _ _ _ _ (by omega) (by omega)
    by_cases h8 : kl l j = 8
    · rw [runM_hash h8, runM_hash h8]
      have := cend_ge (l := l) _ (j + 1) (Nat.le_refl _)
      exact hend _ (by omega)
    by_cases he : tokE l j = 0
    · obtain ⟨a1, a2⟩ := tok_adv hj h1 he
      rw [runM_tok h2 h8 h1 h0 he, runM_tok h2 h8 h1 h0 he]
      exact runM_fuel l f g _ _ _ _ (by omega) (by omega)
    · rw [runM_err h2 h8 h1 h0 he, runM_err h2 h8 h1 h0 he]
theorem RE.fwd {l : List UInt8} : ∀ (m j : Nat), l.length - j ≤ m → j ≤ l.length → RE l j → RE l l.length
  | m, j, hm, hj, h => by
    by_cases hlt : j < l.length
    · have hp := dc_pos l j
      have hl := dc_le l j hlt
      match m, hm with
      | 0, hm => omega
      | m + 1, hm => exact RE.fwd m _ (by omega) hl (h.next hlt)
    · have e : j = l.length := by omega
      rw [e] at h
      exact h
theorem RE.len (l : List UInt8) : RE l l.length := RE.fwd _ 0 (Nat.le_refl _) (Nat.zero_le _) (RE.zero l)
/-- a text from a line on -/
def textM (T : List UInt8) (line : Nat) (D : List Tok) : Res := runM (T.length + 1) T 0 line 0 D
theorem cut (T : List UInt8) : ∃ a S, T = a ++ S ∧ stopL S ∧ ∀ c ∈ a, c ≠ 10 := by
  induction T with
  | nil => exact ⟨[], [], rfl, .inl rfl, fun c h => by simp at h⟩
  | cons c T ih =>
    by_cases h : c = 10
    · exact ⟨[], c :: T, rfl, .inr ⟨T, by rw [h]⟩, fun c h => by simp at h⟩
    · obtain ⟨a, S, e, hS, ha⟩ := ih
      refine ⟨c :: a, S, by rw [e]; rfl, hS, fun d hd => ?_⟩
      rcases List.mem_cons.1 hd with e | e
      · rw [e]; exact h
      · exact ha d e
/-- a line's reachable end -/
theorem RE.nl {P a S' : List UInt8} (h0 : RE (P ++ (a ++ 10 :: S')) P.length) : RE (P ++ (a ++ 10 :: S')) (P.length + a.length + 1) := by
  obtain ⟨k0, h0⟩ := h0
  obtain ⟨k, h⟩ := RE.len a
  have hS : stopL (10 :: S') := .inr ⟨S', rfl⟩
  have h1 : RE (P ++ (a ++ 10 :: S')) (P.length + a.length) := ⟨_, atL hS h0 (Nat.le_refl _) h⟩
  refine h1.asc (by simp) ?_
  rcases btE (P := P) (a := a) hS with e | e
  · omega
  · simp at e
/-- what stands ahead of a line says nothing of it -/
theorem text_run : ∀ (m : Nat) (P T : List UInt8) (f line : Nat) (D : List Tok), T.length ≤ m → RE (P ++ T) P.length → T.length < f → runM f (P ++ T) P.length line P.length D = textM T line D
  | m, P, T, f, line, D, hm, h0, hf => by
    obtain ⟨a, S, e, hS, ha⟩ := cut T
    subst e
    have hn := noNL_of ha
    have hla : a.length ≤ (a ++ S).length := by simp
    obtain ⟨f1, e1, e2, e3⟩ := line_run (P := P) hS h0 hn f 0 line D (Nat.zero_le _) (by omega) (RE.zero a)
    obtain ⟨f2, d1, d2, d3⟩ := line_run (P := []) hS (RE.zero _) hn ((a ++ S).length + 1) 0 line D (Nat.zero_le _) (by omega) (RE.zero a)
    rw [show runM ((a ++ S).length + 1) a 0 line 0 D = runM f a 0 line 0 D from runM_fuel a _ _ _ _ _ _ (by omega) (by omega)] at d3
    have e3' : runM f (P ++ (a ++ S)) P.length line P.length D = goesOn f1 P a S line (runM f a 0 line 0 D) := e3
    have d3' : textM (a ++ S) line D = goesOn f2 [] a S line (runM f a 0 line 0 D) := d3
    rw [e3', d3']
    unfold goesOn
    by_cases hr : (runM f a 0 line 0 D).2.1 ≠ 0
    · rw [if_pos hr, if_pos hr]
    rw [if_neg hr, if_neg hr]
    rcases hS with rfl | ⟨S', rfl⟩
    · rw [if_pos rfl, if_pos rfl]
    have hs : ¬ (10 :: S' = []) := by simp
    rw [if_neg hs, if_neg hs]
    have hlen : (a ++ 10 :: S').length = a.length + S'.length + 1 := by simp; omega
    have key : ∀ (Q : List UInt8) (g : Nat), RE (Q ++ (a ++ 10 :: S')) Q.length → S'.length < g → runM g (Q ++ (a ++ 10 :: S')) (Q.length + a.length + 1) (line + 1) (Q.length + a.length + 1) (runM f a 0 line 0 D).1 = textM S' (line + 1) (runM f a 0 line 0 D).1 := fun Q g hQ hg => by
      have hq := RE.nl hQ
      have eq : Q ++ (a ++ 10 :: S') = (Q ++ (a ++ [10])) ++ S' := by simp
      have el : Q.length + a.length + 1 = (Q ++ (a ++ [10])).length := by simp; omega
      rw [eq, el] at hq ⊢
      match m, hm with
      | 0, hm => omega
      | m + 1, hm => exact text_run m _ S' g _ _ (by omega) hq hg
    rw [key P f1 h0 (by omega), key [] f2 (RE.zero _) (by omega)]
/-- a text is read line by line -/
theorem text_cons {a S' : List UInt8} (ha : ∀ c ∈ a, c ≠ 10) (line : Nat) (D : List Tok) : textM (a ++ 10 :: S') line D = if (textM a line D).2.1 ≠ 0 then textM a line D else textM S' (line + 1) (textM a line D).1 := by
  have hS : stopL (10 :: S') := .inr ⟨S', rfl⟩
  have hlen : (a ++ 10 :: S').length = a.length + S'.length + 1 := by simp; omega
  obtain ⟨f2, d1, d2, d3⟩ := line_run (P := []) hS (RE.zero _) (noNL_of ha) ((a ++ 10 :: S').length + 1) 0 line D (Nat.zero_le _) (by omega) (RE.zero a)
  rw [show runM ((a ++ 10 :: S').length + 1) a 0 line 0 D = textM a line D from runM_fuel a _ _ _ _ _ _ (by omega) (by omega)] at d3
  have d3' : textM (a ++ 10 :: S') line D = goesOn f2 [] a (10 :: S') line (textM a line D) := d3
  rw [d3']
  unfold goesOn
  by_cases hr : (textM a line D).2.1 ≠ 0
  · rw [if_pos hr, if_pos hr]
  have hs : ¬ (10 :: S' = []) := by simp
  rw [if_neg hr, if_neg hr, if_neg hs]
  have hq := RE.nl (P := []) (a := a) (S' := S') (RE.zero _)
  have eq : [] ++ (a ++ 10 :: S') = (a ++ [10]) ++ S' := by simp
  have el : ([] : List UInt8).length + a.length + 1 = (a ++ [10]).length := by simp
  rw [eq, el] at hq ⊢
  exact text_run _ _ S' f2 _ _ (Nat.le_refl _) hq (by omega)
end Go.Proofs.YtodhcnjkiollaaaGreatDoor
namespace Go.Proofs.YtodhcnjkiollaaaGreatDoor
open Go.RowKit Go.Shelf
theorem RE.at {l : List UInt8} {j : Nat} (h : RE l j) : AT l (ci l j) j := by
  obtain ⟨k, hk⟩ := h
  rw [← hk.ci]
  exact hk
theorem RE.step {l : List UInt8} {p q : Nat} (h1 : RE l p) (h2 : RE l q) (h : p < q) (hq : q ≤ l.length) : p + (dc l p).2 ≤ q ∧ ci l (p + (dc l p).2) = ci l p + 1 ∧ RE l (p + (dc l p).2) := by
  have a1 := h1.at
  have a2 := h2.at
  have a3 := a1.next (show p < l.length by omega)
  have hle := dc_le l p (by omega)
  have hlt := at_mono a1 a2 h hq
  refine ⟨Classical.byContradiction (fun hc => ?_), a3.ci.symm, ⟨_, a3⟩⟩
  have := at_mono a2 a3 (by omega) hle
  omega
theorem sub_get {l : List UInt8} {i j k : Nat} {c : UInt8} (h : (subL l i j)[k]? = some c) : l[i + k]? = some c ∧ i + k < j := by
  unfold subL at h
  rw [List.getElem?_take] at h
  split at h
  · rw [List.getElem?_drop] at h
    exact ⟨h, by omega⟩
  · cases h
theorem tok_same {l : List UInt8} {j : Nat} (he : tokE l j = 0) : tokJ l j = (tokC l j).2 := by
  by_cases h7 : kl l j = 7 ∧ quoE l j ≠ 0
  · unfold tokE at he
    rw [if_pos h7] at he
    exact absurd he h7.2
  · unfold tokE at he
    rw [if_neg h7] at he
    unfold tokJ
    rw [if_neg h7, if_pos he]
theorem cls_high (r : Int) (h2 : r ≠ -2) (h : ¬ (0 ≤ r ∧ r < 128)) : cls r = 9 := by
  unfold cls
  rw [if_neg (by omega), if_neg (by omega), if_neg (by omega), if_neg (by omega), if_neg (by omega), if_neg (by omega), if_neg (by omega), if_neg (by omega), if_neg (by omega), if_neg (by omega), if_neg (by omega)]
/-- a byte's class is its character's -/
theorem kl_bt {l : List UInt8} {i : Nat} (h : i < l.length) : kl l i = cls (bt l i : Int) := by
  unfold kl
  by_cases hb : bt l i < 128
  · rw [(chr_asc l i (bt l i) hb).2 ⟨h, rfl⟩]
  · have hn : ∀ x : Nat, x < 128 → chr l i ≠ (x : Int) := fun x hx e => hb (by rw [((chr_asc l i x hx).1 e).2]; exact hx)
    have h2 : chr l i ≠ -2 := by unfold chr; rw [if_pos h]; split <;> omega
    rw [cls_high _ h2 (fun hh => hn (chr l i).toNat (by omega) (by omega)), cls_high _ (by omega) (by omega)]
def letX (x : Nat) : Bool := decide ((65 ≤ x ∧ x ≤ 90) ∨ (97 ≤ x ∧ x ≤ 122) ∨ x = 95)
def digX (x : Nat) : Bool := decide (48 ≤ x ∧ x ≤ 57)
def blaX (x : Nat) : Bool := decide (x = 32 ∨ x = 9 ∨ x = 13)
theorem cls_tab : ∀ x : Fin 256, letX x.val = decide (cls (x.val : Int) = 3) ∧ digX x.val = decide (cls (x.val : Int) = 4) ∧ blaX x.val = decide (cls (x.val : Int) = 2) ∧ (cls (x.val : Int) = 8 → x.val = 35) := by decide +kernel
theorem letX_cls {x : Nat} (h : x < 256) : letX x = decide (cls (x : Int) = 3) := (cls_tab ⟨x, h⟩).1
theorem digX_cls {x : Nat} (h : x < 256) : digX x = decide (cls (x : Int) = 4) := (cls_tab ⟨x, h⟩).2.1
theorem blaX_cls {x : Nat} (h : x < 256) : blaX x = decide (cls (x : Int) = 2) := (cls_tab ⟨x, h⟩).2.2.1
theorem hashX_cls {x : Nat} (h : x < 256) : cls (x : Int) = 8 → x = 35 := (cls_tab ⟨x, h⟩).2.2.2
theorem blank_bt {l : List UInt8} {j : Nat} (h : kl l j = 2) : bt l j = 32 ∨ bt l j = 9 ∨ bt l j = 13 := by
  have hj := (kl_asc (l := l) (j := j) (by omega) (by omega)).1
  rw [kl_bt hj] at h
  have h2 := blaX_cls (bt_lt l j)
  rw [decide_eq_true h] at h2
  exact of_decide_eq_true h2
theorem hash_bt {l : List UInt8} {j : Nat} (h : kl l j = 8) : j < l.length ∧ bt l j = 35 := by
  have hj := (kl_asc (l := l) (j := j) (by omega) (by omega)).1
  rw [kl_bt hj] at h
  exact ⟨hj, hashX_cls (bt_lt l j) h⟩
end Go.Proofs.YtodhcnjkiollaaaGreatDoor
namespace Go.Proofs
open Go.Shelf
def Tryz.l160_ren : Go.Shelf.Ren := ⟨fun | 160 => 161 | 232 => 101 | 231 => 167 | 227 => 99 | 234 => 102 | 233 => 168 | 236 => 103 | 235 => 169 | 228 => 100 | 271 => 125 | 151 => 126 | 197 => 138 | 120 => 137 | 152 => 97 | 260 => 152 | 137 => 121 | 119 => 122 | 224 => 123 | 225 => 124 | 217 => 136 | 266 => 151 | n => n, fun | 9 => 9 | 4 => 4 | 3 => 3 | 5 => 5 | 117 => 145 | 116 => 144 | 0 => 0 | 124 => 150 | 21 => 21 | 105 => 168 | 46 => 99 | 119 => 196 | 139 => 199 | 138 => 198 | n => n, fun | 3 => 6 | 4 => 7 | n => n⟩
theorem Tryz.l160 : Go.Proofs.Lays.n160 Tryz.prog Tryz.l160_ren := {
  mixed := by kernel_rfl
  f119 := Tryz.func122.trans (congrArg some (by kernel_rfl))
  f120 := Tryz.func137.trans (congrArg some (by kernel_rfl))
  f137 := Tryz.func121.trans (congrArg some (by kernel_rfl))
  f151 := Tryz.func126.trans (congrArg some (by kernel_rfl))
  f152 := Tryz.func97.trans (congrArg some (by kernel_rfl))
  f160 := Tryz.func161.trans (congrArg some (by kernel_rfl))
  f197 := Tryz.func138.trans (congrArg some (by kernel_rfl))
  f217 := Tryz.func136.trans (congrArg some (by kernel_rfl))
  f224 := Tryz.func123.trans (congrArg some (by kernel_rfl))
  f225 := Tryz.func124.trans (congrArg some (by kernel_rfl))
  f227 := Tryz.func99.trans (congrArg some (by kernel_rfl))
  f228 := Tryz.func100.trans (congrArg some (by kernel_rfl))
  f231 := Tryz.func167.trans (congrArg some (by kernel_rfl))
  f232 := Tryz.func101.trans (congrArg some (by kernel_rfl))
  f233 := Tryz.func168.trans (congrArg some (by kernel_rfl))
  f234 := Tryz.func102.trans (congrArg some (by kernel_rfl))
  f235 := Tryz.func169.trans (congrArg some (by kernel_rfl))
  f236 := Tryz.func103.trans (congrArg some (by kernel_rfl))
  f260 := Tryz.func152.trans (congrArg some (by kernel_rfl))
  f266 := Tryz.func151.trans (congrArg some (by kernel_rfl))
  f271 := Tryz.func125.trans (congrArg some (by kernel_rfl))
  t0 := Tryz.underlying0
  a0 := Tryz.isAgg0
  z0 := Tryz.sizeOf0
  v0 := Tryz.zeroValue0
  t3 := Tryz.underlying3
  a3 := Tryz.isAgg3
  z3 := Tryz.sizeOf3
  v3 := Tryz.zeroValue3
  t4 := Tryz.underlying4
  a4 := Tryz.isAgg4
  z4 := Tryz.sizeOf4
  v4 := Tryz.zeroValue4
  t5 := Tryz.underlying5
  a5 := Tryz.isAgg5
  z5 := Tryz.sizeOf5
  v5 := Tryz.zeroValue5
  t9 := Tryz.underlying9
  a9 := Tryz.isAgg9
  z9 := Tryz.sizeOf9
  v9 := Tryz.zeroValue9
  t21 := Tryz.underlying21
  a21 := Tryz.isAgg21
  z21 := Tryz.sizeOf21
  v21 := Tryz.zeroValue21
  t46 := Tryz.underlying99
  a46 := Tryz.isAgg99
  z46 := Tryz.sizeOf99
  v46 := Tryz.zeroValue99
  t105 := Tryz.underlying168
  a105 := Tryz.isAgg168
  z105 := Tryz.sizeOf168
  v105 := Tryz.zeroValue168
  t116 := Tryz.underlying144
  a116 := Tryz.isAgg144
  z116 := Tryz.sizeOf144
  t117 := Tryz.underlying145
  a117 := Tryz.isAgg145
  z117 := Tryz.sizeOf145
  v117 := Tryz.zeroValue145
  t119 := Tryz.underlying196
  a119 := Tryz.isAgg196
  z119 := Tryz.sizeOf196
  t124 := Tryz.underlying150
  a124 := Tryz.isAgg150
  z124 := Tryz.sizeOf150
  v124 := Tryz.zeroValue150
  t138 := Tryz.underlying198
  a138 := Tryz.isAgg198
  z138 := Tryz.sizeOf198
  v138 := Tryz.zeroValue198
  t139 := Tryz.underlying199
  a139 := Tryz.isAgg199
  z139 := Tryz.sizeOf199
  v139 := Tryz.zeroValue199
  g3 := by kernel_rfl
  g4 := by kernel_rfl }
end Go.Proofs
namespace Go.Proofs.YtodhcnjkiollaaaGreatDoor
open Go.RowKit Go.Shelf
theorem res_fault (tmps : Array Value) (W : World) (b : Nat) (x : Int) {m : Nat × Nat} (hp : tmps.getD 4 undef = .pointer (some ⟨b, 0, none⟩)) (h : W.heap[b]? = some (.cells #[.int .i64 x] 28 m)) :
    (results Tryz.f157 tmps).run Tryz.prog W = .ok (.int .i64 x) W := by
  have hc : ∀ j, W.cell? ⟨b, j, none⟩ = (#[.int .i64 x] : Array Value)[j]? := by
    intro j; unfold World.cell?; rw [h]; simp
  have hp' : tmps[4]?.getD undef = .pointer (some ⟨b, 0, none⟩) := by simpa using hp
  simp [results, hp', go_sem, hc]
set_option maxRecDepth 100000 in
set_option maxHeartbeats 1000000 in
theorem fault6 (t : List UInt8) (w : World) : Calls Tryz.prog 157 #[.int .i64 6, .string ⟨t.toArray⟩] w fun e w' => e = .returned (.int .i64 0) ∧ Below w.heap.size w w' := by
  go_enter Tryz.func157, Tryz.ntmps157
  go_wp2_with fail
  exact bodyPost_ret (res_fault _ _ w.heap.size 0 rfl (alloc_get _ _)) rfl ⟨rfl, (Below.refl _ _).alloc (Nat.le_refl _) _⟩
set_option maxRecDepth 100000 in
set_option maxHeartbeats 1000000 in
theorem fault7 (t : List UInt8) (w : World) : Calls Tryz.prog 157 #[.int .i64 7, .string ⟨t.toArray⟩] w fun e w' => e = .returned (.int .i64 (if t = [] then 30 else 0 : Nat)) ∧ Below w.heap.size w w' := by
  cases t with
  | nil =>
    go_enter Tryz.func157, Tryz.ntmps157
    go_wp2_with fail
    exact bodyPost_ret (res_fault _ _ w.heap.size 30 rfl (alloc_get _ _)) rfl ⟨rfl, (Below.refl _ _).alloc (Nat.le_refl _) _⟩
  | cons c t =>
    go_enter Tryz.func157, Tryz.ntmps157
    go_wp2_with fail
    exact bodyPost_ret (res_fault _ _ w.heap.size 0 rfl (alloc_get _ _)) rfl ⟨rfl, (Below.refl _ _).alloc (Nat.le_refl _) _⟩
theorem valE_nat (t : List UInt8) : valE t = ((valE t).toNat : Int) := by
  unfold valE
  repeat' split
  all_goals rfl
set_option maxRecDepth 100000 in
set_option maxHeartbeats 1000000 in
theorem fault4 (t : List UInt8) (w : World) (ht : t.length ≤ 16384) (hv : VW w) : Calls Tryz.prog 157 #[.int .i64 4, .string ⟨t.toArray⟩] w fun e w' => e = .returned (.int .i64 ((valE t).toNat : Int)) ∧ Below w.heap.size w w' := by
  have HV := value_any t (w.alloc (.cells #[.int .i64 0] 28)) (by omega) (hv.below ((Below.refl _ _).alloc (Nat.le_refl _) _))
  rw [← valE_nat t]
  obtain ⟨x, hx⟩ : ∃ x, valV t = x := ⟨_, rfl⟩
  obtain ⟨y, hy⟩ : ∃ y, valE t = y := ⟨_, rfl⟩
  rw [hx, hy] at HV
  rw [hy]
  clear hx hy hv
  go_enter Tryz.func157, Tryz.ntmps157
  go_wp2_with fail
  refine HV.mono ?_
  rintro e w1 ⟨rfl, hb⟩
  have k0 := keepblk hb (alloc_get w (.cells #[.int .i64 0] 28))
  have c0 := cell_of k0
  have f0 := froz_of k0
  go_wp2_with fail
  refine bodyPost_ret (res_fault _ _ w.heap.size y rfl (set_one _ k0)) rfl ⟨rfl, (bel1 hb).setCell (p := ⟨w.heap.size, 0, none⟩) (Nat.le_refl _) _⟩
theorem dropW_nil {α : Type} (p : α → Bool) : ∀ l : List α, l.dropWhile p = [] ↔ ∀ x ∈ l, p x = true
  | [] => by simp
  | a :: l => by
    rw [List.dropWhile_cons]
    cases h : p a with
    | true =>
      simp only [if_true]
      rw [dropW_nil p l]
      simp [h]
    | false =>
      simp [h]
theorem trim_nil (l : List UInt8) : Lib.trimS l [48, 49, 120] = [] ↔ l.all is01x = true := by
  have hc : ∀ b : UInt8, ([48, 49, 120] : List UInt8).contains b = is01x b := fun b => by
    unfold is01x
    simp [List.contains, List.elem]
    cases b == 48 <;> cases b == 49 <;> cases b == 120 <;> rfl
  have hr : Lib.trimRightS l [48, 49, 120] = [] ↔ ∀ x ∈ l, is01x x = true := by
    unfold Lib.trimRightS
    rw [List.reverse_eq_nil_iff, dropW_nil]
    simp only [List.mem_reverse, hc]
  have hpre : ∀ x, x ∈ Lib.trimRightS l [48, 49, 120] → x ∈ l := fun x hx => by
    unfold Lib.trimRightS at hx
    rw [List.mem_reverse] at hx
    exact List.mem_reverse.1 ((List.dropWhile_sublist _).subset hx)
  rw [List.all_eq_true]
  unfold Lib.trimS Lib.trimLeftS
  rw [dropW_nil]
  simp only [hc]
  constructor
  · intro h
    refine hr.1 (Classical.byContradiction (fun hne => ?_))
    have hlast := List.getLast_mem hne
    have h1 := h _ hlast
    have h2 : is01x ((Lib.trimRightS l [48, 49, 120]).getLast hne) = false := by
      have hd : l.reverse.dropWhile (([48, 49, 120] : List UInt8).contains ·) ≠ [] := fun e => hne (by unfold Lib.trimRightS; rw [e]; rfl)
      have hh := List.head_dropWhile_not (([48, 49, 120] : List UInt8).contains ·) hd
      have he : (Lib.trimRightS l [48, 49, 120]).getLast hne = (l.reverse.dropWhile (([48, 49, 120] : List UInt8).contains ·)).head hd := by
        simp only [Lib.trimRightS, List.getLast_reverse]
      rw [he, ← hc]
      simpa using hh
    rw [h1] at h2
    cases h2
  · intro h x hx
    exact h x (hpre x hx)
theorem trim_any (r : List UInt8) (w : World) (hr : r.length ≤ 16384) : Calls Tryz.prog 161 #[.string ⟨r.toArray⟩, .string ⟨#[48, 49, 120]⟩] w fun e w' => e = .returned (.string ⟨(Lib.trimS r [48, 49, 120]).toArray⟩) ∧ Below w.heap.size w w' :=
  Any.strings_Trim_ascii Tryz.l160 (by intro w; kernel_rfl) (by kernel_rfl) ⟨r.toArray⟩ ⟨#[48, 49, 120]⟩ w (by simp [ByteArray.size]; omega) (by decide) (fun j b h => by
    have : b ∈ ([48, 49, 120] : List UInt8) := List.mem_of_getElem? h
    clear h
    revert b
    decide)
set_option maxRecDepth 100000 in
set_option maxHeartbeats 1000000 in
theorem fault5 (c : UInt8) (d : List UInt8) (w : World) (hd : d.length ≤ 16383) : Calls Tryz.prog 157 #[.int .i64 5, .string ⟨(c :: d).toArray⟩] w fun e w' => e = .returned (.int .i64 (if d = [] ∨ 32 < d.length ∨ d.all is01x = false then 44 else 0 : Nat)) ∧ Below w.heap.size w w' := by
  have hE : (ByteArray.mk (c :: d).toArray).extract 1 (d.length + 1) = ⟨d.toArray⟩ := by
    have := ext_drop (c :: d) 1
    simpa using this
  have q1 : (1 : Int) ≤ (d.length : Int) + 1 := by omega
  have q2 : (0 : Int) ≤ (d.length : Int) := by omega
  have HT : Hid (∀ W, Calls Tryz.prog 161 #[.string ⟨d.toArray⟩, .string ⟨#[48, 49, 120]⟩] W fun e w' => e = .returned (.string ⟨(Lib.trimS d [48, 49, 120]).toArray⟩) ∧ Below W.heap.size W w') := fun W => trim_any d W (by omega)
  have hn := trim_nil d
  by_cases d0 : d = []
  · have HR : Hid ((if d = [] ∨ 32 < d.length ∨ d.all is01x = false then 44 else 0 : Nat) = 44) := if_pos (.inl d0)
    rw [HR.out]
    subst d0
    clear hn
    go_enter Tryz.func157, Tryz.ntmps157
    go_wp2_with fail
    exact bodyPost_ret (res_fault _ _ w.heap.size 44 rfl (alloc_get _ _)) rfl ⟨rfl, (Below.refl _ _).alloc (Nat.le_refl _) _⟩
  · have hem : d.isEmpty = false := by cases d with
      | nil => exact absurd rfl d0
      | cons _ _ => rfl
    by_cases d32 : 32 < d.length
    · have HR : Hid ((if d = [] ∨ 32 < d.length ∨ d.all is01x = false then 44 else 0 : Nat) = 44) := if_pos (.inr (.inl d32))
      rw [HR.out]
      have i32 : (32 : Int) < (d.length : Int) := by omega
      clear hn
      go_enter Tryz.func157, Tryz.ntmps157
      go_wp2_with fail
      exact bodyPost_ret (res_fault _ _ w.heap.size 44 rfl (alloc_get _ _)) rfl ⟨rfl, (Below.refl _ _).alloc (Nat.le_refl _) _⟩
    · have i32 : ¬ (32 : Int) < (d.length : Int) := by omega
      obtain ⟨T, hT⟩ : ∃ T, Lib.trimS d [48, 49, 120] = T := ⟨_, rfl⟩
      rw [hT] at HT hn
      cases ha : d.all is01x with
      | true =>
        have HR : Hid ((if d = [] ∨ 32 < d.length ∨ true = false then 44 else 0 : Nat) = 0) := if_neg (by simp [d0]; omega)
        rw [HR.out]
        obtain rfl := hn.2 ha
        clear hn hT ha
        go_enter Tryz.func157, Tryz.ntmps157
        go_wp2_with fail
        refine (HT.out _).mono ?_
        rintro e w1 ⟨rfl, hb⟩
        have k0 := keepblk hb (alloc_get w (.cells #[.int .i64 0] 28))
        have c0 := cell_of k0
        have f0 := froz_of k0
        go_wp2_with fail
        exact bodyPost_ret (res_fault _ _ w.heap.size 0 rfl (set_one _ k0)) rfl ⟨rfl, (bel1 hb).setCell (p := ⟨w.heap.size, 0, none⟩) (Nat.le_refl _) _⟩
      | false =>
        have HR : Hid ((if d = [] ∨ 32 < d.length ∨ false = false then 44 else 0 : Nat) = 44) := if_pos (.inr (.inr rfl))
        rw [HR.out]
        have hT0 : T ≠ [] := fun e => by
          have := hn.1 e
          rw [ha] at this
          cases this
        have hTe : T.isEmpty = false := by cases T with
          | nil => exact absurd rfl hT0
          | cons _ _ => rfl
        clear hn hT ha
        go_enter Tryz.func157, Tryz.ntmps157
        go_wp2_with fail
        refine (HT.out _).mono ?_
        rintro e w1 ⟨rfl, hb⟩
        have k0 := keepblk hb (alloc_get w (.cells #[.int .i64 0] 28))
        have c0 := cell_of k0
        have f0 := froz_of k0
        go_wp2_with fail
        exact bodyPost_ret (res_fault _ _ w.heap.size 44 rfl (set_one _ k0)) rfl ⟨rfl, (bel1 hb).setCell (p := ⟨w.heap.size, 0, none⟩) (Nat.le_refl _) _⟩
end Go.Proofs.YtodhcnjkiollaaaGreatDoor
namespace Go.Proofs.YtodhcnjkiollaaaGreatDoor
open Go.RowKit Go.Shelf
/-- what stands while faultOf goes over a name's parts -/
structure FS (w : World) (S : Nat) (x : Int) (r : List UInt8) (lo : Loop) (W : World) : Prop where
  a0 : W.heap[S]? = some (.cells #[.int .i64 x] 28 (0, 0))
  a4 : W.heap[S + 1]? = some (.cells #[.string ⟨r.toArray⟩] 9 (0, 0))
  a5 : W.heap[S + 1 + 1]? = some (.cells #[.string ⟨#[46]⟩] 9 (0, 0))
  a6 : W.heap[S + 1 + 1 + 1]? = some (.cells #[.int .i64 0] 3 (0, 0))
  a7 : W.heap[S + 1 + 1 + 1 + 1]? = some (.deferred (some []))
  a8 : W.heap[S + 1 + 1 + 1 + 1 + 1]? = some (.loop lo)
  be : Below S w W
  sz : w.heap.size = S
theorem FS.loop {w W : World} {S : Nat} {x : Int} {r : List UInt8} {lo : Loop} (h : FS w S x r lo W) (lo' : Loop) : FS w S x r lo' (W.putObj (S + 1 + 1 + 1 + 1 + 1) (.loop lo')) :=
  ⟨put_other h.a0 (by omega), put_other h.a4 (by omega), put_other h.a5 (by omega), put_other h.a6 (by omega), put_other h.a7 (by omega), World.putObj_heap_same (lt_of_get h.a8), bel_grow h.be (grownBy_putObj' W _ _) (by rw [← h.sz]; exact h.sz ▸ h.be.size) (fun x e => by cases e; omega), h.sz⟩
theorem FS.set0 {w W : World} {S : Nat} {x : Int} {r : List UInt8} {lo : Loop} (h : FS w S x r lo W) (y : Int) : FS w S y r lo (W.setCell ⟨S, 0, none⟩ (.int .i64 y)) :=
  ⟨set_one _ h.a0, set_other h.a4 (by omega), set_other h.a5 (by omega), set_other h.a6 (by omega), set_other h.a7 (by omega), set_other h.a8 (by omega), h.be.setCell (p := ⟨S, 0, none⟩) (Nat.le_refl _) _, h.sz⟩
theorem FS.sets {w W : World} {S : Nat} {x : Int} {r : List UInt8} {lo : Loop} (h : FS w S x r lo W) (y : List UInt8) : FS w S x y lo (W.setCell ⟨S + 1, 0, none⟩ (.string ⟨y.toArray⟩)) :=
  ⟨set_other h.a0 (by omega), set_one _ h.a4, set_other h.a5 (by omega), set_other h.a6 (by omega), set_other h.a7 (by omega), set_other h.a8 (by omega), h.be.setCell (p := ⟨S + 1, 0, none⟩) (by show S ≤ S + 1; omega) _, h.sz⟩
theorem FS_start (w : World) (S : Nat) (l : List UInt8) (R : Loop) (hS : w.heap.size = S) : FS w S 0 l R ((((((w.alloc (.cells #[.int .i64 0] 28)).alloc (.cells #[.string ⟨l.toArray⟩] 9)).alloc (.cells #[.string ⟨#[46]⟩] 9)).alloc (.cells #[.int .i64 0] 3)).alloc (.deferred (some []))).alloc (.loop R)) := by
  subst hS
  obtain ⟨w1, e1⟩ : ∃ w1, w.alloc (.cells #[.int .i64 0] 28) = w1 := ⟨_, rfl⟩
  have z1 : w1.heap.size = w.heap.size + 1 := by rw [← e1]; simp
  obtain ⟨w2, e2⟩ : ∃ w2, w1.alloc (.cells #[.string ⟨l.toArray⟩] 9) = w2 := ⟨_, rfl⟩
  have z2 : w2.heap.size = w.heap.size + 1 + 1 := by rw [← e2]; simp [z1]
  obtain ⟨w3, e3⟩ : ∃ w3, w2.alloc (.cells #[.string ⟨#[46]⟩] 9) = w3 := ⟨_, rfl⟩
  have z3 : w3.heap.size = w.heap.size + 1 + 1 + 1 := by rw [← e3]; simp [z2]
  obtain ⟨w4, e4⟩ : ∃ w4, w3.alloc (.cells #[.int .i64 0] 3) = w4 := ⟨_, rfl⟩
  have z4 : w4.heap.size = w.heap.size + 1 + 1 + 1 + 1 := by rw [← e4]; simp [z3]
  obtain ⟨w5, e5⟩ : ∃ w5, w4.alloc (.deferred (some [])) = w5 := ⟨_, rfl⟩
  have z5 : w5.heap.size = w.heap.size + 1 + 1 + 1 + 1 + 1 := by rw [← e5]; simp [z4]
  rw [e1, e2, e3, e4, e5]
  have k1 : w1.heap[w.heap.size]? = some (.cells #[.int .i64 0] 28 (0, 0)) := by rw [← e1]; exact alloc_get _ _
  have k2 : w2.heap[w.heap.size + 1]? = some (.cells #[.string ⟨l.toArray⟩] 9 (0, 0)) := by rw [← e2, ← z1]; exact alloc_get _ _
  have k3 : w3.heap[w.heap.size + 1 + 1]? = some (.cells #[.string ⟨#[46]⟩] 9 (0, 0)) := by rw [← e3, ← z2]; exact alloc_get _ _
  have k4 : w4.heap[w.heap.size + 1 + 1 + 1]? = some (.cells #[.int .i64 0] 3 (0, 0)) := by rw [← e4, ← z3]; exact alloc_get _ _
  have k5 : w5.heap[w.heap.size + 1 + 1 + 1 + 1]? = some (.deferred (some [])) := by rw [← e5, ← z4]; exact alloc_get _ _
  have k6 : (w5.alloc (.loop R)).heap[w.heap.size + 1 + 1 + 1 + 1 + 1]? = some (.loop R) := by rw [← z5]; exact alloc_get _ _
  have t2 : ∀ b o, w1.heap[b]? = some o → w2.heap[b]? = some o := fun b o h => by rw [← e2]; exact allocblk h _
  have t3 : ∀ b o, w2.heap[b]? = some o → w3.heap[b]? = some o := fun b o h => by rw [← e3]; exact allocblk h _
  have t4 : ∀ b o, w3.heap[b]? = some o → w4.heap[b]? = some o := fun b o h => by rw [← e4]; exact allocblk h _
  have t5 : ∀ b o, w4.heap[b]? = some o → w5.heap[b]? = some o := fun b o h => by rw [← e5]; exact allocblk h _
  have t6 : ∀ b o, w5.heap[b]? = some o → (w5.alloc (.loop R)).heap[b]? = some o := fun b o h => allocblk h _
  refine ⟨t6 _ _ (t5 _ _ (t4 _ _ (t3 _ _ (t2 _ _ (k1))))), t6 _ _ (t5 _ _ (t4 _ _ (t3 _ _ (k2)))), t6 _ _ (t5 _ _ (t4 _ _ (k3))), t6 _ _ (t5 _ _ (k4)), t6 _ _ (k5), k6, ?_, rfl⟩
  have b0 : Below w.heap.size w w := Below.refl _ _
  have b1 := b0.alloc (Nat.le_refl _) (.cells #[.int .i64 0] 28); rw [e1] at b1
  have b2 := b1.alloc (by omega) (.cells #[.string ⟨l.toArray⟩] 9); rw [e2] at b2
  have b3 := b2.alloc (by omega) (.cells #[.string ⟨#[46]⟩] 9); rw [e3] at b3
  have b4 := b3.alloc (by omega) (.cells #[.int .i64 0] 3); rw [e4] at b4
  have b5 := b4.alloc (by omega) (.deferred (some [])); rw [e5] at b5
  exact b5.alloc (by omega) _
/-- a part that is too long -/
def lng (n : List UInt8) : Bool := decide (24 < n.length)
def FJ (w : World) (S : Nat) (l : List UInt8) (R : Loop) (r : List UInt8) (W : World) : Prop := FS w S 0 r R W ∧ r.length ≤ 16384 ∧ (parts r).any lng = (parts l).any lng
def FX (w : World) (S : Nat) (l : List UInt8) (W : World) : Prop := (parts l).any lng = true ∧ ∃ r lo, FS w S 36 r lo W ∧ lo.state = .done ∧ lo.pending = some .ret
def FE (w : World) (S : Nat) (l : List UInt8) (R : Loop) (W : World) : Prop := FX w S l W ∨ ((parts l).any lng = false ∧ ∃ r, FS w S 0 r R W)
theorem FS_done {w W : World} {S : Nat} (hS : w.heap.size = S) (h : Below S w W) (k : Nat) (hk : S ≤ k) : Below w.heap.size w (W.putObj k (.deferred none)) := QS_done_be hS h k hk
attribute [local go_sem] Oper.semAt_some
set_option maxRecDepth 100000 in
set_option maxHeartbeats 2000000 in
theorem fault2 (l : List UInt8) (w : World) (hs : l.length ≤ 16384) :
    Calls Tryz.prog 157 #[.int .i64 2, .string ⟨l.toArray⟩] w fun e w' => e = .returned (.int .i64 ((if (parts l).any lng = true then 36 else 0 : Nat) : Int)) ∧ Below w.heap.size w w' := by
  obtain ⟨Fr, hFr⟩ : ∃ Fr, (if (parts l).any lng = true then 36 else 0 : Nat) = Fr := ⟨_, rfl⟩
  rw [hFr]
  have HFr : Hid ((if (parts l).any lng = true then 36 else 0 : Nat) = Fr) := hFr
  clear hFr
  refine (callsIn_wide (n := 4)).1 ?_
  refine callsIn_of_wp_marks Tryz.func157 rfl trivial ?_ rfl
  simp only [Tryz.ntmps157, List.size_toArray, List.length_cons, List.length_nil, Nat.reduceAdd, Nat.reduceSub, Array.replicate_succ, Array.replicate_zero, List.push_toArray, List.append_toArray, List.nil_append, List.cons_append]
  gi_wp2_with (refine ⟨trivial, ?_⟩; gi_at_call 159; refine (callsIn_wide.2 (splitSeq_in l _)).mono ?_; rintro e w' ⟨rfl, rfl⟩)
  refine range_by rfl (by omega) (gf := 172) (lb := #[.pointer (some ⟨w.heap.size + 1 + 1, 0, none⟩), .pointer (some ⟨w.heap.size + 1, 0, none⟩), .pointer (some ⟨w.heap.size + 1 + 1 + 1, 0, none⟩)]) rfl trivial (enters_of Tryz.func172 (by kernel_rfl) rfl) ?_
  intro fn hfn
  obtain ⟨S, hS⟩ : ∃ S, w.heap.size = S := ⟨_, rfl⟩
  have Hs : Hid (w.heap.size = S) := hS
  simp only [World.size_alloc, hS]
  generalize hR : recOf fn _ _ _ _ _ = R
  have rs : R.state = .ready := by rw [← hR]; rfl
  have rp : R.pending = none := by rw [← hR]; rfl
  have rf : R.fn = fn := by rw [← hR]; rfl
  have rq : R.params = #[15] := by rw [← hR]; rfl
  have q0 := FS_start w S l R hS
  obtain ⟨W0, hW0⟩ : ∃ W0, ((((((w.alloc (.cells #[.int .i64 0] 28)).alloc (.cells #[.string ⟨l.toArray⟩] 9)).alloc (.cells #[.string ⟨#[46]⟩] 9)).alloc (.cells #[.int .i64 0] 3)).alloc (.deferred (some []))).alloc (.loop R)) = W0 := ⟨_, rfl⟩
  rw [hW0] at q0
  have HB : ∀ (p r : List UInt8) (W : World), FS w S 0 r R W → p.length ≤ 16384 → (lng p = true → (parts l).any lng = true) →
      YieldAt Fence.wide (4 - 1 - 1) Tryz.prog (S + 1 + 1 + 1 + 1 + 1) #[.string ⟨p.toArray⟩] W fun e W' => (e = .returned (.bool true) ∧ lng p = false ∧ FS w S 0 r R W') ∨ (e = .returned (.bool false) ∧ FX w S l W') := by
    intro p r W q hp hf
    have qb := q.loop { R with state := .busy }
    refine (round_by (F := Fence.wide) (m := 4 - 1 - 1) (In := fun W' => lng p = false ∧ FS w S 0 r R W') (Out := fun _ W' => FX w S l W') (by rw [rf]; exact hfn) q.a8 rs rp (by rw [rq]; rfl) ?a1 ?has ?hb).mono ?_
    case has =>
      intro K hK
      rw [congrArg Loop.assign hR.symm, rq, congrArg Loop.tmps hR.symm]
      simp only [recOf]
      gi_wp2
      exact hK
    case hb =>
      obtain ⟨V, hV⟩ : ∃ V, W.putObj (S + 1 + 1 + 1 + 1 + 1) (.loop { R with state := .busy }) = V := ⟨_, rfl⟩
      rw [hV] at qb ⊢
      rw [congrArg Loop.body hR.symm]
      simp only [recOf]
      clear hV
      cases hl : lng p with
      | true =>
        have hp24 : 24 < p.length := by unfold lng at hl; simpa using hl
        have i1 : (24 : Int) < (p.length : Int) := by omega
        have HQ : Hid ((parts l).any lng = true) := hf hl
        have c0 := cell_of qb.a0
        have f0 := froz_of qb.a0
        clear hf hl hp24
        gi_wp2
        have q3 := qb.set0 36
        exact ⟨q3.a8, HQ.out, _, _, q3.loop _, rfl, rfl⟩
      | false =>
        have hp24 : ¬ 24 < p.length := by unfold lng at hl; simpa using hl
        have i1 : ¬ (24 : Int) < (p.length : Int) := by omega
        clear hf hl hp24
        gi_wp2
        first | exact ⟨qb.a8, rfl, qb.loop R⟩ | exact ⟨qb.a8, qb.loop R⟩
    rintro e W' h
    rcases h with ⟨he, h⟩ | ⟨he, c, h⟩
    · exact .inl ⟨he, h⟩
    · exact .inr ⟨he, h⟩
  have hgo : CallsIn Fence.wide (4 - 1) Tryz.prog 172 #[.func (.yield (S + 1 + 1 + 1 + 1 + 1)) #[] #[], .pointer (some ⟨S + 1 + 1, 0, none⟩), .pointer (some ⟨S + 1, 0, none⟩), .pointer (some ⟨S + 1 + 1 + 1, 0, none⟩)] W0 fun e W' => (∃ v, e = .returned v) ∧ (FX w S l W' ∨ FE w S l R W') := by
    refine split_in (4 - 1) (by omega) (S + 1 + 1 + 1 + 1 + 1) (S + 1) (FJ w S l R) (FX w S l) (FE w S l R) ?hbox ?hY1 ?hY2 l W0 ⟨q0, hs, rfl⟩
    case hbox =>
      rintro r W ⟨q, hr, _⟩
      exact ⟨q.a4, q.a5, q.a6, hr⟩
    case hY1 =>
      rintro r W i ⟨q, hr, hf⟩ hi
      rw [parts_pos hi, List.any_cons] at hf
      refine (HB (r.take i) r W q (by simp; omega) (fun h => by rw [← hf, h]; rfl)).mono ?_
      rintro e W' (⟨he, hn, q'⟩ | ⟨he, hx⟩)
      · refine .inl ⟨he, q'.a4, q'.a5, q'.sets _, by simp; omega, ?_⟩
        rw [hn, Bool.false_or] at hf
        exact hf
      · exact .inr ⟨he, hx⟩
    case hY2 =>
      rintro r W ⟨q, hr, hf⟩ hi
      rw [parts_neg hi] at hf
      refine (HB r r W q hr (fun h => by rw [← hf]; simp [h])).mono ?_
      rintro e W' (⟨he, hn, q'⟩ | ⟨he, hx⟩)
      · exact ⟨⟨_, he⟩, .inr ⟨by rw [← hf]; simp [hn], r, q'⟩⟩
      · exact ⟨⟨_, he⟩, .inl hx⟩
  rw [hW0]
  refine hgo.mono ?_
  rintro e W ⟨hv1, hJ⟩
  refine ⟨hv1, ?_⟩
  have hJ2 : FX w S l W ∨ ((parts l).any lng = false ∧ ∃ r, FS w S 0 r R W) := by
    rcases hJ with h | h
    · exact .inl h
    · exact h
  rcases hJ2 with ⟨hq, r, lo, q, h1, h2⟩ | ⟨hq, r, q⟩
  · refine ⟨lo, q.a8, (fun e => by rw [h1] at e; cases e), .inr ⟨_, h2, ?_⟩⟩
    have q2 := q.loop { lo with state := .exhausted }
    have HQ : Hid ((parts l).any lng = true) := hq
    obtain ⟨V, hV⟩ : ∃ V, W.putObj (S + 1 + 1 + 1 + 1 + 1) (.loop { lo with state := .exhausted }) = V := ⟨_, rfl⟩
    rw [hV] at q2 ⊢
    clear hV hq
    have c0 := cell_of q2.a0
    gi_wp2
    refine ⟨by simp, .inl ⟨_, _, rfl, run_takeDeferred q2.a7, ?_⟩⟩
    refine ⟨_, res_fault _ _ S 36 rfl (put_other q2.a0 (by omega)), ?_, ?_⟩
    · rw [show Fr = 36 by rw [← HFr.out, HQ.out]; rfl]; rfl
    · have hfin := FS_done Hs.out q2.be (S + 1 + 1 + 1 + 1) (by omega)
      first
        | exact hfin
        | (rw [Hs.out] at hfin; exact hfin)
  · refine ⟨R, q.a8, (fun e => by rw [rs] at e; cases e), .inl ⟨rp, ?_⟩⟩
    have q2 := q.loop { R with state := .exhausted }
    have HQ : Hid ((parts l).any lng = false) := hq
    obtain ⟨V, hV⟩ : ∃ V, W.putObj (S + 1 + 1 + 1 + 1 + 1) (.loop { R with state := .exhausted }) = V := ⟨_, rfl⟩
    rw [hV] at q2 ⊢
    clear hV hq
    have c0 := cell_of q2.a0
    have f0 := froz_of q2.a0
    gi_wp2
    have q3 := q2.set0 0
    refine ⟨by simp, .inl ⟨_, _, rfl, run_takeDeferred q3.a7, ?_⟩⟩
    refine ⟨_, res_fault _ _ S 0 rfl (put_other q3.a0 (by omega)), ?_, ?_⟩
    · rw [show Fr = 0 by rw [← HFr.out, HQ.out]; rfl]; rfl
    · have hfin := FS_done Hs.out q3.be (S + 1 + 1 + 1 + 1) (by omega)
      first
        | exact hfin
        | (rw [Hs.out] at hfin; exact hfin)
set_option maxRecDepth 100000 in
set_option maxHeartbeats 2000000 in
theorem fault3 (l : List UInt8) (w : World) (hs : l.length ≤ 16384) :
    Calls Tryz.prog 157 #[.int .i64 3, .string ⟨l.toArray⟩] w fun e w' => e = .returned (.int .i64 ((if (parts l).any lng = true then 36 else 0 : Nat) : Int)) ∧ Below w.heap.size w w' := by
  obtain ⟨Fr, hFr⟩ : ∃ Fr, (if (parts l).any lng = true then 36 else 0 : Nat) = Fr := ⟨_, rfl⟩
  rw [hFr]
  have HFr : Hid ((if (parts l).any lng = true then 36 else 0 : Nat) = Fr) := hFr
  clear hFr
  refine (callsIn_wide (n := 4)).1 ?_
  refine callsIn_of_wp_marks Tryz.func157 rfl trivial ?_ rfl
  simp only [Tryz.ntmps157, List.size_toArray, List.length_cons, List.length_nil, Nat.reduceAdd, Nat.reduceSub, Array.replicate_succ, Array.replicate_zero, List.push_toArray, List.append_toArray, List.nil_append, List.cons_append]
  gi_wp2_with (refine ⟨trivial, ?_⟩; gi_at_call 159; refine (callsIn_wide.2 (splitSeq_in l _)).mono ?_; rintro e w' ⟨rfl, rfl⟩)
  refine range_by rfl (by omega) (gf := 172) (lb := #[.pointer (some ⟨w.heap.size + 1 + 1, 0, none⟩), .pointer (some ⟨w.heap.size + 1, 0, none⟩), .pointer (some ⟨w.heap.size + 1 + 1 + 1, 0, none⟩)]) rfl trivial (enters_of Tryz.func172 (by kernel_rfl) rfl) ?_
  intro fn hfn
  obtain ⟨S, hS⟩ : ∃ S, w.heap.size = S := ⟨_, rfl⟩
  have Hs : Hid (w.heap.size = S) := hS
  simp only [World.size_alloc, hS]
  generalize hR : recOf fn _ _ _ _ _ = R
  have rs : R.state = .ready := by rw [← hR]; rfl
  have rp : R.pending = none := by rw [← hR]; rfl
  have rf : R.fn = fn := by rw [← hR]; rfl
  have rq : R.params = #[15] := by rw [← hR]; rfl
  have q0 := FS_start w S l R hS
  obtain ⟨W0, hW0⟩ : ∃ W0, ((((((w.alloc (.cells #[.int .i64 0] 28)).alloc (.cells #[.string ⟨l.toArray⟩] 9)).alloc (.cells #[.string ⟨#[46]⟩] 9)).alloc (.cells #[.int .i64 0] 3)).alloc (.deferred (some []))).alloc (.loop R)) = W0 := ⟨_, rfl⟩
  rw [hW0] at q0
  have HB : ∀ (p r : List UInt8) (W : World), FS w S 0 r R W → p.length ≤ 16384 → (lng p = true → (parts l).any lng = true) →
      YieldAt Fence.wide (4 - 1 - 1) Tryz.prog (S + 1 + 1 + 1 + 1 + 1) #[.string ⟨p.toArray⟩] W fun e W' => (e = .returned (.bool true) ∧ lng p = false ∧ FS w S 0 r R W') ∨ (e = .returned (.bool false) ∧ FX w S l W') := by
    intro p r W q hp hf
    have qb := q.loop { R with state := .busy }
    refine (round_by (F := Fence.wide) (m := 4 - 1 - 1) (In := fun W' => lng p = false ∧ FS w S 0 r R W') (Out := fun _ W' => FX w S l W') (by rw [rf]; exact hfn) q.a8 rs rp (by rw [rq]; rfl) ?a1 ?has ?hb).mono ?_
    case has =>
      intro K hK
      rw [congrArg Loop.assign hR.symm, rq, congrArg Loop.tmps hR.symm]
      simp only [recOf]
      gi_wp2
      exact hK
    case hb =>
      obtain ⟨V, hV⟩ : ∃ V, W.putObj (S + 1 + 1 + 1 + 1 + 1) (.loop { R with state := .busy }) = V := ⟨_, rfl⟩
      rw [hV] at qb ⊢
      rw [congrArg Loop.body hR.symm]
      simp only [recOf]
      clear hV
      cases hl : lng p with
      | true =>
        have hp24 : 24 < p.length := by unfold lng at hl; simpa using hl
        have i1 : (24 : Int) < (p.length : Int) := by omega
        have HQ : Hid ((parts l).any lng = true) := hf hl
        have c0 := cell_of qb.a0
        have f0 := froz_of qb.a0
        clear hf hl hp24
        gi_wp2
        have q3 := qb.set0 36
        exact ⟨q3.a8, HQ.out, _, _, q3.loop _, rfl, rfl⟩
      | false =>
        have hp24 : ¬ 24 < p.length := by unfold lng at hl; simpa using hl
        have i1 : ¬ (24 : Int) < (p.length : Int) := by omega
        clear hf hl hp24
        gi_wp2
        first | exact ⟨qb.a8, rfl, qb.loop R⟩ | exact ⟨qb.a8, qb.loop R⟩
    rintro e W' h
    rcases h with ⟨he, h⟩ | ⟨he, c, h⟩
    · exact .inl ⟨he, h⟩
    · exact .inr ⟨he, h⟩
  have hgo : CallsIn Fence.wide (4 - 1) Tryz.prog 172 #[.func (.yield (S + 1 + 1 + 1 + 1 + 1)) #[] #[], .pointer (some ⟨S + 1 + 1, 0, none⟩), .pointer (some ⟨S + 1, 0, none⟩), .pointer (some ⟨S + 1 + 1 + 1, 0, none⟩)] W0 fun e W' => (∃ v, e = .returned v) ∧ (FX w S l W' ∨ FE w S l R W') := by
    refine split_in (4 - 1) (by omega) (S + 1 + 1 + 1 + 1 + 1) (S + 1) (FJ w S l R) (FX w S l) (FE w S l R) ?hbox ?hY1 ?hY2 l W0 ⟨q0, hs, rfl⟩
    case hbox =>
      rintro r W ⟨q, hr, _⟩
      exact ⟨q.a4, q.a5, q.a6, hr⟩
    case hY1 =>
      rintro r W i ⟨q, hr, hf⟩ hi
      rw [parts_pos hi, List.any_cons] at hf
      refine (HB (r.take i) r W q (by simp; omega) (fun h => by rw [← hf, h]; rfl)).mono ?_
      rintro e W' (⟨he, hn, q'⟩ | ⟨he, hx⟩)
      · refine .inl ⟨he, q'.a4, q'.a5, q'.sets _, by simp; omega, ?_⟩
        rw [hn, Bool.false_or] at hf
        exact hf
      · exact .inr ⟨he, hx⟩
    case hY2 =>
      rintro r W ⟨q, hr, hf⟩ hi
      rw [parts_neg hi] at hf
      refine (HB r r W q hr (fun h => by rw [← hf]; simp [h])).mono ?_
      rintro e W' (⟨he, hn, q'⟩ | ⟨he, hx⟩)
      · exact ⟨⟨_, he⟩, .inr ⟨by rw [← hf]; simp [hn], r, q'⟩⟩
      · exact ⟨⟨_, he⟩, .inl hx⟩
  rw [hW0]
  refine hgo.mono ?_
  rintro e W ⟨hv1, hJ⟩
  refine ⟨hv1, ?_⟩
  have hJ2 : FX w S l W ∨ ((parts l).any lng = false ∧ ∃ r, FS w S 0 r R W) := by
    rcases hJ with h | h
    · exact .inl h
    · exact h
  rcases hJ2 with ⟨hq, r, lo, q, h1, h2⟩ | ⟨hq, r, q⟩
  · refine ⟨lo, q.a8, (fun e => by rw [h1] at e; cases e), .inr ⟨_, h2, ?_⟩⟩
    have q2 := q.loop { lo with state := .exhausted }
    have HQ : Hid ((parts l).any lng = true) := hq
    obtain ⟨V, hV⟩ : ∃ V, W.putObj (S + 1 + 1 + 1 + 1 + 1) (.loop { lo with state := .exhausted }) = V := ⟨_, rfl⟩
    rw [hV] at q2 ⊢
    clear hV hq
    have c0 := cell_of q2.a0
    gi_wp2
    refine ⟨by simp, .inl ⟨_, _, rfl, run_takeDeferred q2.a7, ?_⟩⟩
    refine ⟨_, res_fault _ _ S 36 rfl (put_other q2.a0 (by omega)), ?_, ?_⟩
    · rw [show Fr = 36 by rw [← HFr.out, HQ.out]; rfl]; rfl
    · have hfin := FS_done Hs.out q2.be (S + 1 + 1 + 1 + 1) (by omega)
      first
        | exact hfin
        | (rw [Hs.out] at hfin; exact hfin)
  · refine ⟨R, q.a8, (fun e => by rw [rs] at e; cases e), .inl ⟨rp, ?_⟩⟩
    have q2 := q.loop { R with state := .exhausted }
    have HQ : Hid ((parts l).any lng = false) := hq
    obtain ⟨V, hV⟩ : ∃ V, W.putObj (S + 1 + 1 + 1 + 1 + 1) (.loop { R with state := .exhausted }) = V := ⟨_, rfl⟩
    rw [hV] at q2 ⊢
    clear hV hq
    have c0 := cell_of q2.a0
    have f0 := froz_of q2.a0
    gi_wp2
    have q3 := q2.set0 0
    refine ⟨by simp, .inl ⟨_, _, rfl, run_takeDeferred q3.a7, ?_⟩⟩
    refine ⟨_, res_fault _ _ S 0 rfl (put_other q3.a0 (by omega)), ?_, ?_⟩
    · rw [show Fr = 0 by rw [← HFr.out, HQ.out]; rfl]; rfl
    · have hfin := FS_done Hs.out q3.be (S + 1 + 1 + 1 + 1) (by omega)
      first
        | exact hfin
        | (rw [Hs.out] at hfin; exact hfin)
theorem FOK_of {w : World} (hv : VW w) : FOK w := fun kind t W h2 h7 h5 hl hb => by
  have hvW := hv.below hb
  have hcase : kind = 2 ∨ kind = 3 ∨ kind = 4 ∨ kind = 5 ∨ kind = 6 ∨ kind = 7 := by omega
  rcases hcase with rfl | rfl | rfl | rfl | rfl | rfl
  · exact fault2 t W hl
  · exact fault3 t W hl
  · exact fault4 t W hl hvW
  · cases t with
    | nil => exact absurd rfl (h5 rfl)
    | cons c d => exact fault5 c d W (by simp at hl; omega)
  · exact fault6 t W
  · exact fault7 t W
end Go.Proofs.YtodhcnjkiollaaaGreatDoor

import Derived.Test.YthlgjdadkmpbbaaDoorXAW
namespace Go.Proofs.YthlgjdadkmpbbaaDoor
open Go.RowKit Go.Shelf
/-- what passQuoted answers at the quote at j: the error, and the byte where the machine stands -/
def quoE (l : List UInt8) (j : Nat) : Nat :=
  if (insS l (j + 1) []).2.2 = 33 ∧ kl l (insS l (j + 1) []).2.1 = 1 then 32
  else if (insS l (j + 1) []).2.2 = 0 ∧ 256 < (insS l (j + 1) []).1.length then 37 else (insS l (j + 1) []).2.2
def quoJ (l : List UInt8) (j : Nat) : Nat := if (insS l (j + 1) []).2.2 = 0 ∧ 256 < (insS l (j + 1) []).1.length then j else (insS l (j + 1) []).2.1
theorem insS_e (l : List UInt8) : ∀ (m j : Nat) (s : List UInt8), l.length - j ≤ m → (insS l j s).2.2 < 100 := by
  intro m
  induction m with
  | zero =>
    intro j s h
    rw [insS, if_neg (by omega)]
    simp
  | succ m ih =>
    intro j s h
    rw [insS]
    by_cases h1 : j < l.length
    · rw [if_pos h1]
      repeat' split
      all_goals first
        | (simp; done)
        | (refine ih _ _ ?_; have := dc_pos l j; omega)
    · rw [if_neg h1]; simp
theorem addG (g m : Nat) : (⟨g, 0, none⟩ : Addr).add m = ⟨g, m, none⟩ := by unfold Addr.add; split <;> simp_all
set_option maxRecDepth 100000 in
set_option maxHeartbeats 1000000 in
theorem passQuoted_any {X : MX} (hC : MC X) {W : World} {now line head : Nat} {v : Value} {D : List Tok} (h : MS X W now now line head v D) {j : Nat} (hj : AT X.l now j) (hjl : j < X.l.length) (hb : bt X.l j = 34) :
    Calls Tryd.prog 23 #[.pointer (some ⟨X.b, 0, none⟩)] W fun e w' => e = .returned (.int .i64 (quoE X.l j : Int)) ∧ ∃ k, AT X.l k (quoJ X.l j) ∧ quoJ X.l j ≤ X.l.length ∧ MS X w' k now line head v D := by
  have hM : Hid (MS X W now now line head v D) := h
  have hc1 := h.c1
  have hc2 := h.c2
  have hj1 := hj.asc hjl (by omega)
  have hlen := hC.len
  have hle := hj.le
  have hlt := hj.lt
  have HP : Hid (∀ W', MS X W' now now line head v D → Calls Tryd.prog 26 #[.slice (some ⟨X.g, 0, none⟩) (chars X.l 0).length X.cap, .int .i64 ((now : Int) + 1)] W' fun e w' => pcR2 X.l (j + 1) W' e w') := fun W' h' => by
    rw [show (now : Int) + 1 = ((now + 1 : Nat) : Int) by omega]
    exact pieces_at X.l (now + 1) (j + 1) ⟨X.g, 0, none⟩ X.cap W' hlen (by omega) hj1 hC.capN (fun k c hc => by
      rw [addG, addG]
      exact ⟨(cell_of_row W' X.g _ _ _ _ h'.gk).trans (hC.gcc k c hc).1, (cell_of_row W' X.g _ _ _ _ h'.gk).trans (hC.gcc k c hc).2⟩) (hC.sh.below h'.bel)
  have HK : Hid (∀ (W' : World) (k : Nat), AT X.l k (insS X.l (j + 1) []).2.1 → MS X W' k now line head v D → Calls Tryd.prog 14 #[.pointer (some ⟨X.b, 0, none⟩)] W' fun e w' => e = .returned (.int .i64 (kl X.l (insS X.l (j + 1) []).2.1 : Int)) ∧ MS X w' k now line head v D) := fun W' k hk h' => class_any hC h' hk
  have HQE : Hid (quoE X.l j = if (insS X.l (j + 1) []).2.2 = 33 ∧ kl X.l (insS X.l (j + 1) []).2.1 = 1 then 32 else if (insS X.l (j + 1) []).2.2 = 0 ∧ 256 < (insS X.l (j + 1) []).1.length then 37 else (insS X.l (j + 1) []).2.2) := rfl
  have HQJ : Hid (quoJ X.l j = if (insS X.l (j + 1) []).2.2 = 0 ∧ 256 < (insS X.l (j + 1) []).1.length then j else (insS X.l (j + 1) []).2.1) := rfl
  have hee := insS_e X.l _ (j + 1) [] (Nat.le_refl _)
  rw [HQE.out, HQJ.out]
  have hCC : Hid (MC X) := hC
  have hJ : Hid (AT X.l now j) := hj
  unfold pcR2 at HP
  have n0 : (0 : Int) ≤ (now : Int) := by omega
  have n1 : (now : Int) ≤ 16384 := by omega
  obtain ⟨S, hS⟩ : ∃ S, (insS X.l (j + 1) []).1 = S := ⟨_, rfl⟩
  obtain ⟨A, hA⟩ : ∃ A, (insS X.l (j + 1) []).2.1 = A := ⟨_, rfl⟩
  obtain ⟨E, hE⟩ : ∃ E, (insS X.l (j + 1) []).2.2 = E := ⟨_, rfl⟩
  rw [hS, hA, hE] at HP
  rw [hA] at HK
  rw [hE] at hee
  rw [hS, hA, hE]
  obtain ⟨c, hc⟩ : ∃ c, kl X.l A = c := ⟨_, rfl⟩
  rw [hc] at HK ⊢
  have hS0 : 0 ≤ (S.length : Int) := by omega
  obtain ⟨QE, hQE⟩ : ∃ QE, (if E = 33 ∧ c = 1 then 32 else if E = 0 ∧ 256 < S.length then 37 else E) = QE := ⟨_, rfl⟩
  obtain ⟨QJ, hQJ⟩ : ∃ QJ, (if E = 0 ∧ 256 < S.length then j else A) = QJ := ⟨_, rfl⟩
  rw [hQE, hQJ]
  have HE : Hid ((if E = 33 ∧ c = 1 then 32 else if E = 0 ∧ 256 < S.length then 37 else E) = QE) := hQE
  have HJ : Hid ((if E = 0 ∧ 256 < S.length then j else A) = QJ) := hQJ
  clear h hj hC hj1 hlt HQE HQJ hS hA hE hc hQE hQJ
  go_enter Tryd.func23, Tryd.ntmps23
  go_wp2_with fail
  have hw1 := wrapN now (by omega)
  go_region_held_law (fun W' => W'.cell? ⟨X.b, 1, none⟩ = some (.slice (some ⟨X.g, 0, none⟩) (chars X.l 0).length X.cap) ∧ W'.cell? ⟨X.b, 2, none⟩ = some (.int .i64 (now : Int))) (first | exact ⟨hc1, hc2⟩ | exact ⟨m1.c1, m1.c2⟩) ((go_at_call 26; refine (HP.out _ (MS.drew hM.out)).mono ?_; rintro e w1 ⟨vq, kq, rfl, hk, hAl, hoq, hbq⟩; have m1 := (MS.drew hM.out).below hbq))
  all_goals
    clear hw1 hc1 hc2
    obtain ⟨ad2, c2, rfl⟩ := shapeP hoq
    have m2 := m1.setNow hCC.out kq (z := (kq : Int)) rfl
    have d2 := m1.c2
    have d3 := m1.c3
    have z2 := m1.fz 2
    have HAT : Hid (AT X.l kq A) := hk
    clear hk hoq hbq HP
    by_cases e33 : E = 33
    · subst e33
      have hCl := HK.out _ kq HAT.out m2
      have hj' : A = QJ := by rw [← HJ.out]; simp
      subst hj'
      by_cases c1 : c = 1
      · subst c1
        have he' : 32 = QE := by rw [← HE.out]; simp
        subst he'
        go_wp2_with fail
        refine hCl.mono ?_
        rintro e w3 ⟨rfl, m3⟩
        go_wp2_with fail
        go_ret
        exact ⟨rfl, kq, HAT.out, hAl, m3⟩
      · have he' : 33 = QE := by rw [← HE.out]; simp [c1]
        subst he'
        have e1 : ((c : Int) == 1) = false := by rw [beq_eq_false_iff_ne]; omega
        go_wp2_with fail
        refine hCl.mono ?_
        rintro e w3 ⟨rfl, m3⟩
        go_wp2_with fail
        go_ret
        exact ⟨rfl, kq, HAT.out, hAl, m3⟩
    · have e3 : ((E : Int) == 33) = false := by rw [beq_eq_false_iff_ne]; omega
      by_cases e00 : E = 0
      · subst e00
        by_cases h256 : 256 < S.length
        · have he' : 37 = QE := by rw [← HE.out]; simp [h256]
          have hj' : j = QJ := by rw [← HJ.out]; simp [h256]
          subst he' hj'
          have i1 : (256 : Int) < (S.length : Int) := by omega
          have d3' := m2.c3
          have d2' := m2.c2
          have z2' := m2.fz 2
          go_wp2_with fail
          go_ret
          exact ⟨rfl, now, hJ.out, Nat.le_of_lt hjl, m2.setNow hCC.out now rfl⟩
        · have he' : 0 = QE := by rw [← HE.out]; simp [h256]
          have hj' : A = QJ := by rw [← HJ.out]; simp [h256]
          subst he' hj'
          have i1 : ¬ (256 : Int) < (S.length : Int) := by omega
          go_wp2_with fail
          go_ret
          first | exact ⟨rfl, kq, HAT.out, hAl, m2⟩ | exact ⟨rfl, kq, HAT.out, m2⟩
      · have he' : E = QE := by rw [← HE.out]; simp [e33, e00]
        have hj' : A = QJ := by rw [← HJ.out]; simp [e00]
        subst he' hj'
        have e0 : ((E : Int) == 0) = false := by rw [beq_eq_false_iff_ne]; omega
        go_wp2_with fail
        go_ret
        first | exact ⟨rfl, kq, HAT.out, hAl, m2⟩ | exact ⟨rfl, kq, HAT.out, m2⟩
end Go.Proofs.YthlgjdadkmpbbaaDoor
namespace Go.Proofs.YthlgjdadkmpbbaaDoor
open Go.RowKit Go.Shelf
theorem kl_asc {l : List UInt8} {j : Nat} (h0 : kl l j ≠ 0) (h9 : kl l j ≠ 9) : j < l.length ∧ bt l j < 128 := by
  have h : 0 ≤ chr l j ∧ chr l j < 128 := by
    have hr := chr_range l j
    unfold kl cls at h0 h9
    repeat' split at h0
    all_goals first | omega | (simp_all; done) | (simp_all; omega)
  obtain ⟨x, hx⟩ : ∃ x : Nat, chr l j = (x : Int) := ⟨(chr l j).toNat, by omega⟩
  have := (chr_asc l j x (by omega)).1 hx
  omega
theorem inW_asc {l : List UInt8} {j : Nat} (h : inW l j = true) : j < l.length ∧ bt l j < 128 := by
  have : kl l j = 3 ∨ kl l j = 4 := by unfold inW at h; simpa using h
  exact kl_asc (by omega) (by omega)
theorem dotA_asc {l : List UInt8} {j c : Nat} (h : dotA l j c = true) : j < l.length ∧ bt l j < 128 := by
  have : kl l j = 5 ∧ kl l (j + 1) = c := by unfold dotA at h; simpa using h
  exact kl_asc (by omega) (by omega)
/-- the end of a run of letters and digits -/
def wrun (l : List UInt8) (j : Nat) : Nat := if h : inW l j = true then wrun l (j + 1) else j
termination_by l.length - j
decreasing_by
  have := (inW_asc h).1
  omega
theorem wrun_yes {l : List UInt8} {j : Nat} (h : inW l j = true) : wrun l j = wrun l (j + 1) := by rw [wrun, dif_pos h]
theorem wrun_no {l : List UInt8} {j : Nat} (h : inW l j = false) : wrun l j = j := by rw [wrun, dif_neg (by simp [h])]
/-- the end of what may be a number -/
def nrun (l : List UInt8) (j : Nat) : Nat := if h : (inW l j || dotA l j 4) = true then nrun l (j + 1) else j
termination_by l.length - j
decreasing_by
  have : j < l.length := by
    rcases Bool.or_eq_true_iff.1 h with h | h
    · exact (inW_asc h).1
    · exact (dotA_asc h).1
  omega
theorem nrun_yes {l : List UInt8} {j : Nat} (h : (inW l j || dotA l j 4) = true) : nrun l j = nrun l (j + 1) := by rw [nrun, dif_pos h]
theorem nrun_no {l : List UInt8} {j : Nat} (h : (inW l j || dotA l j 4) = false) : nrun l j = j := by rw [nrun, dif_neg (by simp [h])]
/-- from a label on: the token's kind and end -/
def endF (lab : Nat) (l : List UInt8) (j : Nat) : Nat × Nat :=
  if lab = 0 then (if dotA l (wrun l (j + 1)) 3 = true then (3, wrun l (wrun l (j + 1) + 1)) else (2, wrun l (j + 1)))
  else if lab = 4 then (3, wrun l (j + 1)) else if lab = 1 then (4, nrun l (j + 1)) else if lab = 2 then (5, wrun l (j + 1)) else (6, quoJ l j)
/-- a token's kind and end -/
def tokC (l : List UInt8) (j : Nat) : Nat × Nat :=
  if kl l j = 3 then endF 0 l j else if kl l j = 4 then endF 1 l j else if kl l j = 6 then endF 2 l j else if kl l j = 7 then endF 3 l j else (7, j + sgn (l.drop j))
def tokE (l : List UInt8) (j : Nat) : Nat := if kl l j = 7 ∧ quoE l j ≠ 0 then quoE l j else faultE (tokC l j).1 (subL l j (tokC l j).2)
def tokJ (l : List UInt8) (j : Nat) : Nat := if kl l j = 7 ∧ quoE l j ≠ 0 then quoJ l j else if faultE (tokC l j).1 (subL l j (tokC l j).2) = 0 then (tokC l j).2 else j
/-- what method token leaves -/
def tokR (X : MX) (now line head j : Nat) (D : List Tok) (e : Ending) (w' : World) : Prop :=
  e = .returned (.int .i64 (tokE X.l j : Int)) ∧ ∃ now' v', AT X.l now' (tokJ X.l j) ∧ MS X w' now' now line head v' (if tokE X.l j = 0 then D ++ [((tokC X.l j).1, subL X.l j (tokC X.l j).2, line, now - head + 1)] else D)
theorem sgn_pre (r : List UInt8) : sgn r ≤ r.length ∧ (∀ k, k < sgn r → ∃ c, r[k]? = some c ∧ c.toNat < 128) := by
  unfold sgn
  cases hf : signsL.find? (fun s => Lib.hasPrefix r s) with
  | none => simp
  | some z =>
    have hz := List.find?_some hf
    have hm := List.mem_of_find?_eq_some hf
    unfold Lib.hasPrefix at hz
    rw [List.isPrefixOf_iff_prefix] at hz
    obtain ⟨t, ht⟩ := hz
    have hall : ∀ s ∈ signsL, ∀ c ∈ s, c.toNat < 128 := by decide
    simp only [Option.map_some, Option.getD_some]
    refine ⟨by rw [← ht]; simp, fun k hk => ?_⟩
    refine ⟨z[k], by rw [← ht, List.getElem?_append_left hk, List.getElem?_eq_getElem hk], hall z hm _ (List.getElem_mem hk)⟩
theorem at_run {l : List UInt8} : ∀ (n now j : Nat), AT l now j → (∀ k, k < n → j + k < l.length ∧ bt l (j + k) < 128) → AT l (now + n) (j + n)
  | 0, _, _, h, _ => h
  | n + 1, now, j, h, hk => by
    have h1 := h.asc (hk 0 (by omega)).1 (hk 0 (by omega)).2
    have := at_run n (now + 1) (j + 1) h1 (fun k hk' => by
      have := hk (k + 1) (by omega)
      rw [show j + 1 + k = j + (k + 1) by omega]
      exact this)
    rw [show now + (n + 1) = now + 1 + n by omega, show j + (n + 1) = j + 1 + n by omega]
    exact this
theorem at_sgn {l : List UInt8} {now j : Nat} (h : AT l now j) (hj : j ≤ l.length) : AT l (now + sgn (l.drop j)) (j + sgn (l.drop j)) ∧ j + sgn (l.drop j) ≤ l.length := by
  obtain ⟨h1, h2⟩ := sgn_pre (l.drop j)
  rw [List.length_drop] at h1
  refine ⟨at_run _ _ _ h (fun k hk => ?_), by omega⟩
  obtain ⟨c, hc, hlt⟩ := h2 k hk
  rw [List.getElem?_drop] at hc
  exact ⟨by omega, by rw [bt_of hc]; exact hlt⟩
/-- how many characters lie ahead of the machine -/
def mNow (X : MX) (W : World) : Nat := (chars X.l 0).length - (intOf ((W.cell? ⟨X.b, 2, none⟩).getD undef)).toNat
theorem mNow_of {X : MX} {W : World} {now fst line head : Nat} {v : Value} {D : List Tok} (h : MS X W now fst line head v D) : mNow X W = (chars X.l 0).length - now := by
  unfold mNow
  rw [h.c2]
  simp [intOf]
end Go.Proofs.YthlgjdadkmpbbaaDoor

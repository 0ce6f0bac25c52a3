import Derived.Test.YtodhcnjkiollaaaGreatDoorZ11
import Derived.Test.YtodhcnjkiollaaaGreatDoorZ33
import Derived.Test.YtodhcnjkiollaaaGreatDoorZ22
namespace Go.Proofs.YtodhcnjkiollaaaGreatDoor
open Go.RowKit Go.Shelf
theorem own_le {w : World} {B e sz n : Nat} {v : Value} {xs : List Value} (h : w.ownsRow B e sz v n xs) : n ≤ maxLen := by
  rcases h.2 with hh | ⟨g, c, cur, h1, h2, h3, h4, h5, _⟩
  · rw [hh.2]; exact Nat.zero_le _
  · exact Nat.le_trans h4 h5
theorem own_at {w : World} {B e sz n c : Nat} {o : Option Addr} {xs : List Value} (h : w.ownsRow B e sz (.slice o n c) n xs) (hn : 0 < n) : ∃ g, o = some ⟨g, 0, none⟩ := by
  obtain ⟨g, cap, e⟩ := own_form h hn
  cases e
  exact ⟨g, rfl⟩
end Go.Proofs.YtodhcnjkiollaaaGreatDoor
namespace Go.Proofs.YtodhcnjkiollaaaGreatDoor
open Go.RowKit Go.Shelf
/-- a field -/
abbrev IFld := List UInt8 × Int
def fcel (f : IFld) : List Value := [.string ⟨f.1.toArray⟩, .int .i64 f.2]
def fagg (f : IFld) : Value := .agg (fcel f).toArray
/-- a row of fields lies there, now and later -/
def IRF (w : World) (o : Option Addr) (L : List IFld) : Prop := ∀ W : World, Below w.heap.size w W → ∀ (k : Nat) (f : IFld), L[k]? = some f → ∃ g o0, o = some ⟨g, o0, none⟩ ∧ W.cell? ⟨g, o0 + k * 2, none⟩ = some (.string ⟨f.1.toArray⟩) ∧ W.cell? ⟨g, o0 + k * 2 + 1, none⟩ = some (.int .i64 f.2)
theorem IRF.later {w w' : World} {o : Option Addr} {L : List IFld} (h : IRF w o L) (hb : Below w.heap.size w w') : IRF w' o L := fun W hW => h W (bel0 hb hW)
theorem IRF.take {w : World} {o : Option Addr} {L : List IFld} (h : IRF w o L) (n : Nat) : IRF w o (L.take n) := fun W hW k f hf => by
  rw [List.getElem?_take] at hf
  split at hf
  · exact h W hW k f hf
  · cases hf
/-- is it a name -/
def nameB (x : List UInt8) : Bool := decide (0 < x.length) && (decide (x.length ≤ 24) && (letX (bt x 0) && x.all (fun c => letX c.toNat || digX c.toNat)))
theorem inW_bt {x : List UInt8} {j : Nat} (hj : j < x.length) : inW x j = (letX (bt x j) || digX (bt x j)) := by
  unfold inW
  rw [kl_bt hj, letX_cls (bt_lt x j), digX_cls (bt_lt x j)]
theorem wrun_all {x : List UInt8} : ∀ (m j : Nat), x.length - j ≤ m → j ≤ x.length → (∀ k, j ≤ k → k < x.length → inW x k = true) → wrun x j = x.length
  | m, j, hm, hj, h => by
    rcases Nat.lt_or_ge j x.length with hlt | hge
    · match m, hm with
      | 0, hm => omega
      | m + 1, hm =>
        rw [wrun_yes (h j (Nat.le_refl _) hlt)]
        exact wrun_all m (j + 1) (by omega) hlt (fun k h1 h2 => h k (by omega) h2)
    · have : inW x j = false := by
        unfold inW
        rw [kl0.2 (by omega)]
        rfl
      rw [wrun_no this]
      omega
theorem name_good {x : List UInt8} (h : nameB x = true) : goodT 2 x := by
  unfold nameB at h
  simp only [Bool.and_eq_true, decide_eq_true_eq] at h
  obtain ⟨h0, h24, hl, ha⟩ := h
  have hw : ∀ k, 0 ≤ k → k < x.length → inW x k = true := fun k _ hk => by
    rw [inW_bt hk]
    have := List.all_eq_true.1 ha x[k] (List.getElem_mem hk)
    rw [bt_of (List.getElem?_eq_getElem hk)]
    exact this
  have h3 : kl x 0 = 3 := by
    rw [letX_cls (bt_lt x 0), decide_eq_true_eq] at hl
    rw [kl_bt h0]
    exact hl
  have hr := wrun_all _ 0 (Nat.le_refl _) (Nat.zero_le _) hw
  have hd : dotA x x.length 3 = false := by
    unfold dotA
    rw [kl0.2 (show ¬ x.length + 1 < x.length by omega)]
    simp
  obtain ⟨b1, b2, b3, b4, b5⟩ := tok_name h0 h3 hr hd
  exact ⟨h0, by omega, by omega, by omega, b5, by rw [b3, if_neg (by omega)]⟩
theorem good_name {x : List UInt8} (h : goodT 2 x) : nameB x = true := by
  obtain ⟨h0, h1, h2, h8, hC, hE⟩ := h
  have h3 : kl x 0 = 3 := Classical.byContradiction (fun h3 => by
    unfold tokC endF at hC
    rw [if_neg h3] at hC
    by_cases h4 : kl x 0 = 4
    · rw [if_pos h4, if_neg (by decide), if_neg (by decide), if_pos rfl] at hC
      simp at hC
    · rw [if_neg h4] at hC
      by_cases h6 : kl x 0 = 6
      · rw [if_pos h6, if_neg (by decide), if_neg (by decide), if_neg (by decide), if_pos rfl] at hC
        simp at hC
      · rw [if_neg h6] at hC
        by_cases h7 : kl x 0 = 7
        · rw [if_pos h7, if_neg (by decide), if_neg (by decide), if_neg (by decide), if_neg (by decide)] at hC
          simp at hC
        · rw [if_neg h7] at hC
          simp at hC)
  cases hd : dotA x (wrun x 0) 3 with
  | true =>
    have := (tok_port h0 h3 rfl hd rfl).2.2.2.2.2.2
    rw [hC] at this
    simp at this
  | false =>
    obtain ⟨b1, b2, b3, b4, b5⟩ := tok_name h0 h3 rfl hd
    rw [hC] at b5
    have e := (Prod.mk.inj b5).2
    have h24 : ¬ 24 < wrun x 0 - 0 := fun hh => by rw [hE, if_pos hh] at b3; cases b3
    have hl : letX (bt x 0) = true := by
      rw [letX_cls (bt_lt x 0), decide_eq_true_eq, ← kl_bt h0]
      exact h3
    have ha : x.all (fun c => letX c.toNat || digX c.toNat) = true := by
      rw [List.all_eq_true]
      intro c hc
      obtain ⟨k, hk, rfl⟩ := List.getElem_of_mem hc
      have := wrun_in (l := x) _ 0 (Nat.le_refl _) k (Nat.zero_le _) (by omega)
      rw [inW_bt hk, bt_of (List.getElem?_eq_getElem hk)] at this
      exact this
    unfold nameB
    rw [hl, ha, decide_eq_true h0, decide_eq_true (by omega)]
    rfl
/-- the first token is a name, wholly that text -/
def headN (D : List Tok) (x : List UInt8) : Bool := match D with
  | [] => false
  | t :: _ => t.1 == 2 && t.2.1 == x
theorem head_name (x : List UInt8) : headN (scanM x).1 x = nameB x := by
  rw [Bool.eq_iff_iff]
  constructor
  · intro h
    by_cases hl : x.length ≤ 16384
    · cases hD : (scanM x).1 with
      | nil => rw [hD] at h; cases h
      | cons a D =>
        rw [hD] at h
        unfold headN at h
        rw [Bool.and_eq_true, beq_iff_eq, beq_iff_eq] at h
        have he : (scanM x).2.1 = 0 := Classical.byContradiction (fun hne => by
          have h0 : (scanM x).1 = [] := by
            have := (run_done x (x.length + 1) 0 1 0 [] (by omega)).2
            unfold scanM at hne ⊢
            rw [if_neg (by omega)] at hne ⊢
            exact this hne
          rw [h0] at hD
          cases hD)
        obtain ⟨Ls, g1, g2, g3⟩ := scan_ls x hl he
        rw [hD] at g1
        have g4 : flat Ls = (a.1, a.2.1) :: kt D := g1.symm
        cases Ls with
        | nil => cases g4
        | cons ln Ls =>
          obtain ⟨hne, hgl⟩ := g2 ln (by simp)
          cases ln with
          | nil => exact absurd rfl hne
          | cons u ln =>
            have e1 : u = (a.1, a.2.1) := List.head_eq_of_cons_eq g4
            have hg := hgl u (by simp)
            rw [e1, h.1, h.2] at hg
            exact good_name hg
    · have e : scanM x = ([], 2, 0, 0) := by unfold scanM; rw [if_pos (by omega)]
      rw [e] at h
      cases h
  · intro h
    have hg := name_good h
    have h24 : x.length ≤ 24 := by
      unfold nameB at h
      simp only [Bool.and_eq_true, decide_eq_true_eq] at h
      exact h.2.1
    obtain ⟨c, hc⟩ := scan_one hg (by omega)
    rw [hc]
    simp [headN]
/-- may a field have this name -/
def nmB (x : List UInt8) : Bool := nameB x && (!(x == [97, 110, 121]) && !(x == [110, 111, 110, 101]))
set_option maxRecDepth 100000 in
set_option maxHeartbeats 2000000 in
theorem isName_any (x : List UInt8) (w : World) (hl : x.length ≤ 281474976710656) (hv1 : SH w) (hv4 : SG w) (hv5 : VW w) : Calls Tryz.prog 57 #[.string ⟨x.toArray⟩] w fun e w' => e = .returned (.bool (nmB x)) ∧ Below w.heap.size w w' := by
  have H1 := scan_any x w hl hv1 hv4 (FOK_of hv5)
  unfold scR at H1
  have hr0 : nmB x = (headN (scanM x).1 x && (!(x == [97, 110, 121]) && !(x == [110, 111, 110, 101]))) := by unfold nmB; rw [head_name]
  obtain ⟨r, hr⟩ : ∃ r, scanM x = r := ⟨_, rfl⟩
  rw [hr] at H1 hr0
  obtain ⟨D, e0, ln, cl⟩ := r
  simp only at H1 hr0
  obtain ⟨q, hq⟩ : ∃ q, nmB x = q := ⟨_, rfl⟩
  rw [hq] at hr0 ⊢
  clear hr hq hv1 hv4 hv5
  go_enter Tryz.func57, Tryz.ntmps57
  go_wp2_with fail
  refine H1.mono ?_
  rintro e W1 ⟨v1, rfl, hown, hb1⟩
  clear H1
  cases D with
  | nil =>
    obtain rfl : q = false := hr0
    obtain ⟨p, c, rfl⟩ := shapeP hown
    clear hown
    go_wp2_with fail
    go_ret
    exact ⟨rfl, hb1⟩
  | cons t0 D =>
    obtain ⟨g, cp, rfl⟩ := own_form hown (by simp)
    obtain ⟨p0, p1, -, -⟩ := tok_cell hown (k := 0) (t := t0) rfl
    simp only [Nat.zero_mul, Nat.zero_add] at p0 p1
    clear hown
    obtain ⟨k0, x0, l0, c0⟩ := t0
    simp only at p0 p1
    have i1 : (0 : Int) < ((((k0, x0, l0, c0) :: D).length : Nat) : Int) := by simp only [List.length_cons]; omega
    have i2 : (0 : Int) < (D.length : Int) + 1 := by omega
    by_cases ek : k0 = 2
    · have y1 : ((k0 : Int) == 2) = true := beq_iff_eq.2 (by omega)
      by_cases ex : x0 = x
      · have hq2 : q = (!(x == [97, 110, 121]) && !(x == [110, 111, 110, 101])) := by
          rw [hr0]
          unfold headN
          simp [ek, ex]
        subst ex ek
        have y2 : (x0 == x0) = true := beq_self_eq_true x0
        by_cases ea : x0 = [97, 110, 121]
        · have z1 : (x0 == [97, 110, 121]) = true := beq_iff_eq.2 ea
          have z2 : (x0 != [97, 110, 121]) = false := by rw [bne, z1]; rfl
          obtain rfl : q = false := by rw [hq2, z1]; rfl
          clear hr0 hq2 ea
          go_wp2_with fail
          go_ret
          exact ⟨rfl, hb1⟩
        · have z1 : (x0 == [97, 110, 121]) = false := beq_eq_false_iff_ne.2 ea
          have z2 : (x0 != [97, 110, 121]) = true := by rw [bne, z1]; rfl
          by_cases en : x0 = [110, 111, 110, 101]
          · have z3 : (x0 == [110, 111, 110, 101]) = true := beq_iff_eq.2 en
            have z4 : (x0 != [110, 111, 110, 101]) = false := by rw [bne, z3]; rfl
            obtain rfl : q = false := by rw [hq2, z1, z3]; rfl
            clear hr0 hq2 ea en
            go_wp2_with fail
            go_ret
            exact ⟨rfl, hb1⟩
          · have z3 : (x0 == [110, 111, 110, 101]) = false := beq_eq_false_iff_ne.2 en
            have z4 : (x0 != [110, 111, 110, 101]) = true := by rw [bne, z3]; rfl
            obtain rfl : q = true := by rw [hq2, z1, z3]; rfl
            clear hr0 hq2 ea en
            go_wp2_with fail
            go_ret
            exact ⟨rfl, hb1⟩
      · have y2 : (x0 == x) = false := beq_eq_false_iff_ne.2 ex
        obtain rfl : q = false := by
          rw [hr0]
          unfold headN
          simp [ex]
        subst ek
        clear hr0
        go_wp2_with fail
        go_ret
        exact ⟨rfl, hb1⟩
    · have y1 : ((k0 : Int) == 2) = false := beq_eq_false_iff_ne.2 (by omega)
      obtain rfl : q = false := by
        rw [hr0]
        unfold headN
        simp [ek]
      clear hr0
      go_wp2_with fail
      go_ret
      exact ⟨rfl, hb1⟩
end Go.Proofs.YtodhcnjkiollaaaGreatDoor
namespace Go.Proofs.YtodhcnjkiollaaaGreatDoor
open Go.RowKit Go.Shelf
/-- has it a right number of bits -/
def sizB (f : IFld) : Bool := decide (1 ≤ f.2) && decide (f.2 ≤ 32)
set_option maxRecDepth 100000 in
theorem isSized_any (f : IFld) (w : World) : Calls Tryz.prog 56 #[fagg f] w fun e w' => e = .returned (.bool (sizB f)) ∧ Below w.heap.size w w' := by
  obtain ⟨x, b⟩ := f
  show Calls Tryz.prog 56 #[.agg #[.string ⟨x.toArray⟩, .int .i64 b]] w _
  by_cases h1 : 1 ≤ b
  · by_cases h2 : b ≤ 32
    · have hr : Hid (sizB (x, b) = true) := by unfold Hid sizB; simp [h1, h2]
      go_enter Tryz.func56, Tryz.ntmps56
      go_wp2_with fail
      go_ret
      exact ⟨by rw [hr.out]; rfl, (Below.refl _ _).alloc (Nat.le_refl _) _⟩
    · have hr : Hid (sizB (x, b) = false) := by unfold Hid sizB; simp [h2]
      go_enter Tryz.func56, Tryz.ntmps56
      go_wp2_with fail
      go_ret
      exact ⟨by rw [hr.out]; rfl, (Below.refl _ _).alloc (Nat.le_refl _) _⟩
  · have hr : Hid (sizB (x, b) = false) := by unfold Hid sizB; simp [h1]
    go_enter Tryz.func56, Tryz.ntmps56
    go_wp2_with fail
    go_ret
    exact ⟨by rw [hr.out]; rfl, (Below.refl _ _).alloc (Nat.le_refl _) _⟩
/-- the first field of a name, counted from a number on -/
def idxG : Nat → List IFld → List UInt8 → Int
  | _, [], _ => -1
  | k, f :: r, x => if f.1 = x then (k : Int) else idxG (k + 1) r x
def idxF (L : List IFld) (x : List UInt8) : Int := idxG 0 L x
theorem idxG_step {L : List IFld} {k : Nat} {f : IFld} (hf : L[k]? = some f) (x : List UInt8) : idxG k (L.drop k) x = if f.1 = x then (k : Int) else idxG (k + 1) (L.drop (k + 1)) x := by
  obtain ⟨hk, e⟩ := List.getElem?_eq_some_iff.1 hf
  rw [List.drop_eq_getElem_cons hk, e]
  rfl
theorem idxG_ge : ∀ (L : List IFld) (k : Nat) (x : List UInt8), idxG k L x = -1 ∨ ∃ j f, idxG k L x = ((k + j : Nat) : Int) ∧ L[j]? = some f ∧ f.1 = x
  | [], k, x => .inl rfl
  | f :: r, k, x => by
    rw [idxG]
    by_cases h : f.1 = x
    · rw [if_pos h]
      exact .inr ⟨0, f, rfl, rfl, h⟩
    · rw [if_neg h]
      rcases idxG_ge r (k + 1) x with e | ⟨j, g, e, h1, h2⟩
      · exact .inl e
      · exact .inr ⟨j + 1, g, by rw [e]; omega, h1, h2⟩
theorem idxG_none : ∀ (L : List IFld) (k : Nat) (x : List UInt8), (∀ f ∈ L, f.1 ≠ x) → idxG k L x = -1
  | [], k, x, _ => rfl
  | f :: r, k, x, h => by
    rw [idxG, if_neg (h f (by simp))]
    exact idxG_none r (k + 1) x (fun g hg => h g (by simp [hg]))
/-- a field has the name -/
theorem idxF_ge {L : List IFld} {x : List UInt8} : 0 ≤ idxF L x ↔ ∃ f ∈ L, f.1 = x := by
  constructor
  · intro h
    rcases idxG_ge L 0 x with e | ⟨j, f, e, h1, h2⟩
    · unfold idxF at h
      rw [e] at h
      omega
    · exact ⟨f, List.mem_of_getElem? h1, h2⟩
  · rintro ⟨f, hf, hx⟩
    rcases idxG_ge L 0 x with e | ⟨j, g, e, h1, h2⟩
    · exfalso
      obtain ⟨i, hi⟩ := List.getElem?_of_mem hf
      clear hf
      have : ∀ (L : List IFld) (k i : Nat), L[i]? = some f → idxG k L x ≠ -1 := by
        intro L
        induction L with
        | nil => intro k i hi; simp at hi
        | cons g r ih =>
          intro k i hi
          rw [idxG]
          by_cases hg : g.1 = x
          · rw [if_pos hg]; omega
          · rw [if_neg hg]
            cases i with
            | zero =>
              simp at hi
              rw [hi] at hg
              exact absurd hx hg
            | succ i => exact ih (k + 1) i (by simpa using hi)
      exact this L 0 i hi e
    · unfold idxF
      rw [e]
      omega
set_option maxRecDepth 100000 in
theorem find1_any (f : IFld) (x : List UInt8) (b : Nat) (w : World) (hb : w.heap[b]? = some (.cells #[.string ⟨x.toArray⟩] 9)) : Calls Tryz.prog 62 #[fagg f, .pointer (some ⟨b, 0, none⟩)] w fun e w' => e = .returned (.bool (f.1 == x)) ∧ Below w.heap.size w w' := by
  obtain ⟨y, n⟩ := f
  show Calls Tryz.prog 62 #[.agg #[.string ⟨y.toArray⟩, .int .i64 n], .pointer (some ⟨b, 0, none⟩)] w _
  have c0 : (w.alloc (Obj.cells #[.string ⟨y.toArray⟩, .int .i64 n] 27)).cell? ⟨b, 0, none⟩ = some (.string ⟨x.toArray⟩) := cell_of_row _ _ 0 _ _ _ (allocblk hb _)
  have n0 : (w.alloc (Obj.cells #[.string ⟨y.toArray⟩, .int .i64 n] 27)).cell? ⟨w.heap.size, 0, none⟩ = some (.string ⟨y.toArray⟩) := cell_of_row _ _ 0 _ _ _ (alloc_get _ _)
  obtain ⟨V, hV⟩ : ∃ V : World, w.alloc (Obj.cells #[.string ⟨y.toArray⟩, .int .i64 n] 27) = V := ⟨_, rfl⟩
  have vB : Below w.heap.size w V := by rw [← hV]; exact (Below.refl _ _).alloc (Nat.le_refl _) _
  rw [hV] at c0 n0
  clear hb
  go_enter Tryz.func62, Tryz.ntmps62
  go_wp2_with fail
  go_ret
  exact ⟨rfl, vB⟩
set_option maxRecDepth 100000 in
set_option maxHeartbeats 2000000 in
theorem idxf_any (L : List IFld) (o : Option Addr) (c : Nat) (x : List UInt8) (b : Nat) (w : World) (hL : L.length ≤ 281474976710656) (hr : IRF w o L) (hb : w.heap[b]? = some (.cells #[.string ⟨x.toArray⟩] 9)) :
    Calls Tryz.prog 61 #[.slice o L.length c, .func (.func 62) #[] #[.pointer (some ⟨b, 0, none⟩)]] w fun e w' => e = .returned (.int .i64 (idxF L x)) ∧ Below w.heap.size w w' := by
  have HR : Hid (IRF w o L) := hr
  have HB : Hid (w.heap[b]? = some (.cells #[.string ⟨x.toArray⟩] 9)) := hb
  obtain ⟨q, hq⟩ : ∃ q, idxF L x = q := ⟨_, rfl⟩
  rw [hq]
  have HQ : Hid (idxG 0 (L.drop 0) x = q) := hq
  clear hr hb hq
  go_enter Tryz.func61, Tryz.ntmps61
  go_wp2_with fail
  go_loopw [8] (fun vk wr => ∃ k : Nat, vk = .int .i64 k ∧ k ≤ L.length ∧ Hid (idxG k (L.drop k) x = q) ∧ Below w.heap.size w wr) (fun vk _ => L.length - (intOf vk).toNat)
  case atStart => exact ⟨0, rfl, Nat.zero_le _, HQ, Below.refl _ _⟩
  case round =>
    clear HQ
    obtain ⟨k, rfl, hk, hidx, hB⟩ := hrel
    by_cases hlt : k < L.length
    · have j1 : (k : Int) < (L.length : Int) := by omega
      have j0 : (0 : Int) ≤ (k : Int) := by omega
      obtain ⟨f, hf⟩ : ∃ f, L[k]? = some f := ⟨_, List.getElem?_eq_getElem hlt⟩
      obtain ⟨g, o0, rfl, p0, p1⟩ := HR.out wr hB k f hf
      have hx2 := hidx.out
      rw [idxG_step hf] at hx2
      have H1 : Calls Tryz.prog 62 #[fagg f, .pointer (some ⟨b, 0, none⟩)] wr fun e w' => e = .returned (.bool (f.1 == x)) ∧ Below wr.heap.size wr w' := find1_any f x b wr (keepblk hB HB.out)
      obtain ⟨y, n⟩ := f
      simp only at p0 p1 hx2 H1
      clear hf hidx
      by_cases hy : y = x
      · rw [if_pos hy] at hx2
        rw [beq_iff_eq.2 hy] at H1
        have HX2 : Hid ((k : Int) = q) := hx2
        clear hx2 hy
        go_wp2_with fail
        refine H1.mono ?_
        rintro e W1 ⟨rfl, hb1⟩
        go_wp2_with fail
        go_ret
        exact ⟨by rw [← HX2.out]; rfl, bel0 hB hb1⟩
      · rw [if_neg hy] at hx2
        rw [beq_eq_false_iff_ne.2 hy] at H1
        have HX : Hid (idxG (k + 1) (L.drop (k + 1)) x = q) := hx2
        clear hx2
        go_wp2_with fail
        refine H1.mono ?_
        rintro e W1 ⟨rfl, hb1⟩
        go_wp2_with fail
        go_roundw
        case rel => exact ⟨k + 1, by go_num, by omega, HX, bel0 hB hb1⟩
        case measure => simp [intOf]; omega
    · have j1 : ¬ (k : Int) < (L.length : Int) := by omega
      have HX2 : Hid (-1 = q) := by
        unfold Hid
        rw [← hidx.out, List.drop_eq_nil_of_le (by omega)]
        rfl
      clear hidx
      go_wp2_with fail
      go_ret
      exact ⟨by rw [← HX2.out]; rfl, hB⟩
set_option maxRecDepth 100000 in
theorem find_any (L : List IFld) (o : Option Addr) (c : Nat) (x : List UInt8) (w : World) (hL : L.length ≤ 281474976710656) (hr : IRF w o L) :
    Calls Tryz.prog 35 #[.slice o L.length c, .string ⟨x.toArray⟩] w fun e w' => e = .returned (.int .i64 (idxF L x)) ∧ Below w.heap.size w w' := by
  have vB : Below w.heap.size w (w.alloc (Obj.cells #[.string ⟨x.toArray⟩] 9)) := (Below.refl _ _).alloc (Nat.le_refl _) _
  have H1 := idxf_any L o c x w.heap.size (w.alloc (Obj.cells #[.string ⟨x.toArray⟩] 9)) hL (hr.later vB) (alloc_get _ _)
  clear hr
  go_enter Tryz.func35, Tryz.ntmps35
  go_wp2_with fail
  refine H1.mono ?_
  rintro e W1 ⟨rfl, hb1⟩
  go_wp2_with fail
  go_ret
  exact ⟨rfl, bel0 vB hb1⟩
/-- how many places the fields have -/
def sumB : List IFld → Int
  | [] => 0
  | f :: r => f.2 + sumB r
theorem sumB_app (a b : List IFld) : sumB (a ++ b) = sumB a + sumB b := by
  induction a with
  | nil => simp [sumB]
  | cons f a ih => rw [List.cons_append, sumB, sumB, ih]; omega
theorem sumB_take {L : List IFld} {k : Nat} {f : IFld} (h : L[k]? = some f) : sumB (L.take (k + 1)) = sumB (L.take k) + f.2 := by
  rw [List.take_add_one, h, sumB_app]
  simp [sumB]
theorem sumB_bound : ∀ L : List IFld, (∀ f ∈ L, 0 ≤ f.2 ∧ f.2 ≤ 32) → 0 ≤ sumB L ∧ sumB L ≤ 32 * (L.length : Int)
  | [], _ => ⟨Int.le_refl _, by simp [sumB]⟩
  | f :: r, h => by
    have h1 := h f (by simp)
    have h2 := sumB_bound r (fun g hg => h g (by simp [hg]))
    rw [sumB, List.length_cons]
    omega
set_option maxRecDepth 100000 in
set_option maxHeartbeats 2000000 in
theorem widthOf_any (L : List IFld) (o : Option Addr) (c : Nat) (w : World) (hL : L.length ≤ 4096) (hf : ∀ f ∈ L, 0 ≤ f.2 ∧ f.2 ≤ 32) (hr : IRF w o L) :
    Calls Tryz.prog 31 #[.slice o L.length c] w fun e w' => e = .returned (.int .i64 (sumB L)) ∧ Below w.heap.size w w' := by
  have HR : Hid (IRF w o L) := hr
  have HF : Hid (∀ f ∈ L, 0 ≤ f.2 ∧ f.2 ≤ 32) := hf
  clear hr hf
  go_enter Tryz.func31, Tryz.ntmps31
  go_wp2_with fail
  go_loopw [3, 8] (fun vs vk wr => ∃ k : Nat, vk = .int .i64 k ∧ k ≤ L.length ∧ vs = .int .i64 (sumB (L.take k)) ∧ Below w.heap.size w wr) (fun _ vk _ => L.length - (intOf vk).toNat)
  case atStart => exact ⟨0, rfl, Nat.zero_le _, rfl, Below.refl _ _⟩
  case round =>
    obtain ⟨k, rfl, hk, rfl, hB⟩ := hrel
    by_cases hlt : k < L.length
    · have j1 : (k : Int) < (L.length : Int) := by omega
      have j0 : (0 : Int) ≤ (k : Int) := by omega
      obtain ⟨f, hf⟩ : ∃ f, L[k]? = some f := ⟨_, List.getElem?_eq_getElem hlt⟩
      obtain ⟨g, o0, rfl, p0, p1⟩ := HR.out wr hB k f hf
      have hs := sumB_take hf
      have hbd := sumB_bound (L.take k) (fun g hg => HF.out g (List.mem_of_mem_take hg))
      have hfb := HF.out f (List.mem_of_getElem? hf)
      have hlen : (L.take k).length = k := by rw [List.length_take]; omega
      rw [hlen] at hbd
      obtain ⟨y, n⟩ := f
      simp only at p0 p1 hs hfb
      obtain ⟨s, hs0⟩ : ∃ s, sumB (L.take k) = s := ⟨_, rfl⟩
      rw [hs0] at hs hbd
      have HS : Hid (sumB (L.take (k + 1)) = s + n) := hs
      rw [hs0]
      clear hf hs hlen hs0
      have e1 : IntKind.i64.wrap (s + n) = s + n := by rw [IntKind.wrap_i64]; omega
      have hBs := hB.size
      go_wp2_with fail
      go_roundw
      case rel => exact ⟨k + 1, by go_num, by omega, by rw [HS.out], hB.alloc hBs _⟩
      case measure => simp [intOf]; omega
    · have j1 : ¬ (k : Int) < (L.length : Int) := by omega
      rw [List.take_of_length_le (by omega)]
      go_wp2_with fail
      go_ret
      exact ⟨rfl, hB⟩
end Go.Proofs.YtodhcnjkiollaaaGreatDoor
namespace Go.Proofs.YtodhcnjkiollaaaGreatDoor
open Go.RowKit Go.Shelf
/-- does a field offend, behind those ahead of it -/
def badF (seen : List IFld) (f : IFld) : Bool := !sizB f || (!nmB f.1 || (decide (0 ≤ idxF seen f.1) || decide (256 < sumB (seen ++ [f]))))
def chkL : List IFld → List IFld → Int × Int
  | _, [] => (0, 0)
  | seen, f :: r => if badF seen f = true then (40, (seen.length : Int)) else chkL (seen ++ [f]) r
/-- what Check answers -/
def chkM (L : List IFld) : Int × Int := if 12 < L.length then (2, 0) else if L.length = 0 then (40, 0) else chkL [] L
theorem chkL_step {L : List IFld} {k : Nat} {f : IFld} (hf : L[k]? = some f) : chkL (L.take k) (L.drop k) = if badF (L.take k) f = true then (40, (k : Int)) else chkL (L.take (k + 1)) (L.drop (k + 1)) := by
  obtain ⟨hk, e⟩ := List.getElem?_eq_some_iff.1 hf
  have hl : (L.take k).length = k := by rw [List.length_take]; omega
  rw [List.drop_eq_getElem_cons hk, e, chkL, hl, List.take_add_one, hf]
  rfl
theorem take_snoc {L : List IFld} {k : Nat} {f : IFld} (hf : L[k]? = some f) : L.take k ++ [f] = L.take (k + 1) := by
  rw [List.take_add_one, hf]
  rfl
theorem results_ck (tmps : Array Value) (W : World) (a b : Value) (h : tmps.getD 2 undef = a ∧ tmps.getD 3 undef = b) : (results Tryz.f25 tmps).run Tryz.prog W = .ok (.tuple #[a, b]) W := by
  obtain ⟨h1, h2⟩ := h
  have h1' : tmps[2]?.getD undef = a := by simpa using h1
  have h2' : tmps[3]?.getD undef = b := by simpa using h2
  simp [results, h1', h2', go_sem]
set_option maxRecDepth 100000 in
set_option maxHeartbeats 8000000 in
theorem check_any (L : List IFld) (o : Option Addr) (c : Nat) (w : World) (hL : L.length ≤ 281474976710656) (hc : L.length ≤ c) (hx : ∀ f ∈ L, f.1.length ≤ 281474976710656) (hr : IRF w o L) (hv1 : SH w) (hv4 : SG w) (hv5 : VW w) :
    Calls Tryz.prog 25 #[.slice o L.length c] w fun e w' => e = .returned (.tuple #[.int .i64 (chkM L).1, .int .i64 (chkM L).2]) ∧ Below w.heap.size w w' := by
  by_cases hbig : 12 < L.length
  · have i1 : (12 : Int) < (L.length : Int) := by omega
    have hres : Hid (chkM L = (2, 0)) := by unfold Hid chkM; rw [if_pos hbig]
    clear hx hr hv1 hv4 hv5
    go_enter Tryz.func25, Tryz.ntmps25
    go_wp2_with fail
    refine bodyPost_ret (results_ck _ _ _ _ ⟨rfl, rfl⟩) rfl ?_
    exact ⟨by rw [hres.out]; rfl, Below.refl _ _⟩
  have i1 : ¬ (12 : Int) < (L.length : Int) := by omega
  by_cases hz : L.length = 0
  · have i2 : (L.length : Int) = 0 := by omega
    have hres : Hid (chkM L = (40, 0)) := by unfold Hid chkM; rw [if_neg hbig, if_pos hz]
    clear hx hr hv1 hv4 hv5 hbig
    go_enter Tryz.func25, Tryz.ntmps25
    go_wp2_with fail
    refine bodyPost_ret (results_ck _ _ _ _ ⟨rfl, rfl⟩) rfl ?_
    exact ⟨by rw [hres.out]; rfl, Below.refl _ _⟩
  have i2 : ((L.length : Int) == 0) = false := beq_eq_false_iff_ne.2 (by omega)
  obtain ⟨q, hq⟩ : ∃ q, chkL [] L = q := ⟨_, rfl⟩
  have HQM : Hid (chkM L = q) := by unfold Hid chkM; rw [if_neg hbig, if_neg hz, hq]
  have HQ : Hid (chkL (L.take 0) (L.drop 0) = q) := hq
  have HR : Hid (IRF w o L) := hr
  have HX : Hid (∀ f ∈ L, f.1.length ≤ 281474976710656) := hx
  have HV : Hid (SH w ∧ SG w ∧ VW w) := ⟨hv1, hv4, hv5⟩
  clear hx hr hv1 hv4 hv5 hq
  go_enter Tryz.func25, Tryz.ntmps25
  go_wp2_with fail
  go_loopw [14] (fun vk wr => ∃ k : Nat, vk = .int .i64 k ∧ k ≤ L.length ∧ Hid (chkL (L.take k) (L.drop k) = q) ∧ Hid (∀ f ∈ L.take k, 0 ≤ f.2 ∧ f.2 ≤ 32) ∧ Below w.heap.size w wr) (fun vk _ => L.length - (intOf vk).toNat)
  case atStart => exact ⟨0, rfl, Nat.zero_le _, HQ, fun f hf => by simp at hf, Below.refl _ _⟩
  case round =>
    clear HQ
    obtain ⟨k, rfl, hk, hrun, hbits, hB⟩ := hrel
    by_cases hlt : k < L.length
    · have j1 : (k : Int) < (L.length : Int) := by omega
      have j0 : (0 : Int) ≤ (k : Int) := by omega
      have j2 : (k : Int) ≤ (c : Int) := by omega
      have j3 : (k : Int) + 1 ≤ (c : Int) := by omega
      have j4 : (0 : Int) ≤ (k : Int) + 1 := by omega
      have HWK : Hid (IntKind.i64.wrap ((k : Int) + 1) = (k : Int) + 1) := by unfold Hid; rw [IntKind.wrap_i64]; omega
      obtain ⟨f, hf⟩ : ∃ f, L[k]? = some f := ⟨_, List.getElem?_eq_getElem hlt⟩
      obtain ⟨g, o0, rfl, p0, p1⟩ := HR.out wr hB k f hf
      have hstep := hrun.out
      rw [chkL_step hf] at hstep
      have hxl := HX.out f (List.mem_of_getElem? hf)
      have hsn := take_snoc hf
      have htl : (L.take k).length = k := by rw [List.length_take]; omega
      have htl1 : (L.take (k + 1)).length = k + 1 := by rw [List.length_take]; omega
      obtain ⟨O, hO⟩ : ∃ O : Obj, Obj.cells #[.string ⟨f.1.toArray⟩, .int .i64 f.2] 27 = O := ⟨_, rfl⟩
      have hBs := hB.size
      have hB2 : Below w.heap.size w (wr.alloc O) := hB.alloc hBs O
      have hbx : (wr.alloc O).heap[wr.heap.size]? = some (.cells #[.string ⟨f.1.toArray⟩, .int .i64 f.2] 27) := by rw [hO]; exact alloc_get _ _
      have XT : Hid (∀ W : World, Below (wr.alloc O).heap.size (wr.alloc O) W → W.cell? ⟨wr.heap.size, 0, none⟩ = some (.string ⟨f.1.toArray⟩) ∧ W.cell? ⟨wr.heap.size, 1, none⟩ = some (.int .i64 f.2)) := fun W hW => by
        have hk := keepblk hW hbx
        exact ⟨cell_of_row W _ 0 _ _ _ hk, cell_of_row W _ 1 _ _ _ hk⟩
      have HS : Hid (∀ W : World, Calls Tryz.prog 56 #[fagg f] W fun e w' => e = .returned (.bool (sizB f)) ∧ Below W.heap.size W w') := fun W => isSized_any f W
      have HN : Hid (∀ W : World, Below w.heap.size w W → Calls Tryz.prog 57 #[.string ⟨f.1.toArray⟩] W fun e w' => e = .returned (.bool (nmB f.1)) ∧ Below W.heap.size W w') := fun W hW => isName_any f.1 W hxl (HV.out.1.below hW) (HV.out.2.1.below hW) (HV.out.2.2.below hW)
      have HI : Hid (∀ W : World, Below w.heap.size w W → Calls Tryz.prog 35 #[.slice (some ⟨g, o0, none⟩) k c, .string ⟨f.1.toArray⟩] W fun e w' => e = .returned (.int .i64 (idxF (L.take k) f.1)) ∧ Below W.heap.size W w') := fun W hW => by
        have := find_any (L.take k) (some ⟨g, o0, none⟩) c f.1 W (by omega) ((HR.out.take k).later hW)
        rw [htl] at this
        exact this
      have HW : Hid ((∀ f ∈ L.take (k + 1), 0 ≤ f.2 ∧ f.2 ≤ 32) → ∀ W : World, Below w.heap.size w W → Calls Tryz.prog 31 #[.slice (some ⟨g, o0, none⟩) (k + 1) c] W fun e w' => e = .returned (.int .i64 (sumB (L.take (k + 1)))) ∧ Below W.heap.size W w') := fun hb W hW => by
        have := widthOf_any (L.take (k + 1)) (some ⟨g, o0, none⟩) c W (by omega) hb ((HR.out.take (k + 1)).later hW)
        rw [htl1] at this
        exact this
      have HB1 : Hid (1 ≤ f.2 → f.2 ≤ 32 → ∀ f ∈ L.take (k + 1), 0 ≤ f.2 ∧ f.2 ≤ 32) := fun h1 h2 f' hf' => by
        rw [← hsn] at hf'
        rcases List.mem_append.1 hf' with h | h
        · exact hbits.out f' h
        · rw [List.mem_singleton.1 h]
          omega
      have hbad : badF (L.take k) f = (!sizB f || (!nmB f.1 || (decide (0 ≤ idxF (L.take k) f.1) || decide (256 < sumB (L.take (k + 1)))))) := by unfold badF; rw [hsn]
      have hsz : sizB f = true → 1 ≤ f.2 ∧ f.2 ≤ 32 := fun h => by unfold sizB at h; simpa using h
      obtain ⟨x, b⟩ := f
      simp only at p0 p1 XT HN HI HB1 hsz hbad hO
      have HS2 : Hid (∀ W : World, Calls Tryz.prog 56 #[.agg #[.string ⟨x.toArray⟩, .int .i64 b]] W fun e w' => e = .returned (.bool (sizB (x, b))) ∧ Below W.heap.size W w') := HS.out
      clear HS hrun hf hsn htl htl1 hbits hxl
      obtain ⟨nb, hnb⟩ : ∃ n, nmB x = n := ⟨_, rfl⟩
      obtain ⟨ix, hix⟩ : ∃ n, idxF (L.take k) x = n := ⟨_, rfl⟩
      obtain ⟨sw, hsw⟩ : ∃ n, sumB (L.take (k + 1)) = n := ⟨_, rfl⟩
      obtain ⟨sb, hsb⟩ : ∃ n, sizB (x, b) = n := ⟨_, rfl⟩
      rw [hnb, hix, hsw, hsb] at hbad
      rw [hsb] at hsz
      simp only [hsb] at HS2
      simp only [hnb] at HN
      simp only [hix] at HI
      simp only [hsw] at HW
      clear hnb hix hsw hsb
      cases sb with
      | false =>
        have hbd : badF (L.take k) (x, b) = true := by rw [hbad]; simp
        rw [hbd, if_pos rfl] at hstep
        have HRES : Hid (q = (40, (k : Int))) := hstep.symm
        clear hstep hbad hbd
        go_wp2_with fail
        try rw [hO]
        refine quiet_lit3 (C := fun W => Below (wr.alloc O).heap.size (wr.alloc O) W) (by kernel_rfl) (by kernel_rfl) (show Below _ _ _ from (Below.refl _ _).drew) ?_
        go_big_quiet_want
        refine ⟨.agg #[.string ⟨x.toArray⟩, .int .i64 b], fun W hW => ?_, ?_⟩
        · obtain ⟨z0, z1⟩ := XT.out W hW
          go_simp
        go_big_quiet_on
        simp only [Act.put, List.setIfInBounds_toArray, List.set_cons_zero, List.set_cons_succ]
        go_big_quiet_want
        refine ⟨.bool false, fun W hW => ?_, ?_⟩
        · go_simp
          refine (HS2.out W).mono ?_
          rintro e w7 ⟨rfl, hb⟩
          exact ⟨rfl, by have := bel0 hW hb; simpa using this⟩
        go_big_quiet_on
        simp only [Act.put, List.setIfInBounds_toArray, List.set_cons_zero, List.set_cons_succ]
        go_big_quiet_want
        refine ⟨.bool true, fun W hW => ?_, ?_⟩
        · go_simp
        go_big_quiet_on
        simp only [Act.put, List.setIfInBounds_toArray, List.set_cons_zero, List.set_cons_succ]
        go_big_quiet_want
        go_big_quiet_op
        go_big_quiet_on
        go_big_quiet_skip
        go_big_quiet_skip
        go_big_quiet_skip
        go_big_quiet_skip
        go_big_quiet_want
        refine ⟨.bool true, fun W hW => ?_, ?_⟩
        · go_simp
        go_big_quiet_on
        simp only [Act.put, List.setIfInBounds_toArray, List.set_cons_zero, List.set_cons_succ]
        go_big_quiet_want
        go_big_quiet_op
        go_big_quiet_on
        go_big_quiet_skip
        go_big_quiet_skip
        go_big_quiet_skip
        go_big_quiet_skip
        go_big_quiet_skip
        go_big_quiet_skip
        go_big_quiet_skip
        go_big_quiet_want
        refine ⟨.bool true, fun W hW => ?_, ?_⟩
        · go_simp
        go_big_quiet_on
        simp only [Act.put, List.setIfInBounds_toArray, List.set_cons_zero, List.set_cons_succ]
        go_big_quiet_want
        go_big_quiet_op
        go_big_quiet_on
        go_big_quiet_skip
        go_big_quiet_skip
        go_big_quiet_skip
        go_big_quiet_skip
        go_big_quiet_skip
        go_big_quiet_skip
        go_big_quiet_want
        refine ⟨.bool true, fun W hW => ?_, ?_⟩
        · go_simp
        go_big_quiet_on
        simp only [Act.put, List.setIfInBounds_toArray, List.set_cons_zero, List.set_cons_succ]
        refine wpQuiet_nil ?_
        intro W hW
        go_wp2_with fail
        refine bodyPost_ret (results_ck _ _ _ _ ⟨rfl, rfl⟩) rfl ?_
        exact ⟨by rw [HQM.out, HRES.out]; rfl, bel0 hB2 hW⟩
      | true =>
        obtain ⟨hb1, hb2⟩ := hsz rfl
        cases nb with
        | false =>
          have hbd : badF (L.take k) (x, b) = true := by rw [hbad]; simp
          rw [hbd, if_pos rfl] at hstep
          have HRES : Hid (q = (40, (k : Int))) := hstep.symm
          clear hstep hbad hbd
          go_wp2_with fail
          try rw [hO]
          refine quiet_lit3 (C := fun W => Below (wr.alloc O).heap.size (wr.alloc O) W) (by kernel_rfl) (by kernel_rfl) (show Below _ _ _ from (Below.refl _ _).drew) ?_
          go_big_quiet_want
          refine ⟨.agg #[.string ⟨x.toArray⟩, .int .i64 b], fun W hW => ?_, ?_⟩
          · obtain ⟨z0, z1⟩ := XT.out W hW
            go_simp
          go_big_quiet_on
          simp only [Act.put, List.setIfInBounds_toArray, List.set_cons_zero, List.set_cons_succ]
          go_big_quiet_want
          refine ⟨.bool true, fun W hW => ?_, ?_⟩
          · go_simp
            refine (HS2.out W).mono ?_
            rintro e w7 ⟨rfl, hb⟩
            exact ⟨rfl, by have := bel0 hW hb; simpa using this⟩
          go_big_quiet_on
          simp only [Act.put, List.setIfInBounds_toArray, List.set_cons_zero, List.set_cons_succ]
          go_big_quiet_want
          refine ⟨.bool false, fun W hW => ?_, ?_⟩
          · go_simp
          go_big_quiet_on
          simp only [Act.put, List.setIfInBounds_toArray, List.set_cons_zero, List.set_cons_succ]
          go_big_quiet_want
          go_big_quiet_op
          go_big_quiet_on
          go_big_quiet_want
          refine ⟨.pointer (some ⟨wr.heap.size, 0, none⟩), fun W hW => ?_, ?_⟩
          · go_simp
          go_big_quiet_on
          simp only [Act.put, List.setIfInBounds_toArray, List.set_cons_zero, List.set_cons_succ]
          go_big_quiet_want
          refine ⟨.string ⟨x.toArray⟩, fun W hW => ?_, ?_⟩
          · obtain ⟨z0, z1⟩ := XT.out W hW
            go_simp
          go_big_quiet_on
          simp only [Act.put, List.setIfInBounds_toArray, List.set_cons_zero, List.set_cons_succ]
          go_big_quiet_want
          refine ⟨.bool false, fun W hW => ?_, ?_⟩
          · go_simp
            refine (HN.out W (bel0 hB2 hW)).mono ?_
            rintro e w7 ⟨rfl, hb⟩
            exact ⟨rfl, by have := bel0 hW hb; simpa using this⟩
          go_big_quiet_on
          simp only [Act.put, List.setIfInBounds_toArray, List.set_cons_zero, List.set_cons_succ]
          go_big_quiet_want
          refine ⟨.bool true, fun W hW => ?_, ?_⟩
          · go_simp
          go_big_quiet_on
          simp only [Act.put, List.setIfInBounds_toArray, List.set_cons_zero, List.set_cons_succ]
          go_big_quiet_want
          refine ⟨.bool true, fun W hW => ?_, ?_⟩
          · go_simp
          go_big_quiet_on
          simp only [Act.put, List.setIfInBounds_toArray, List.set_cons_zero, List.set_cons_succ]
          go_big_quiet_want
          go_big_quiet_op
          go_big_quiet_on
          go_big_quiet_skip
          go_big_quiet_skip
          go_big_quiet_skip
          go_big_quiet_skip
          go_big_quiet_skip
          go_big_quiet_skip
          go_big_quiet_skip
          go_big_quiet_want
          refine ⟨.bool true, fun W hW => ?_, ?_⟩
          · go_simp
          go_big_quiet_on
          simp only [Act.put, List.setIfInBounds_toArray, List.set_cons_zero, List.set_cons_succ]
          go_big_quiet_want
          go_big_quiet_op
          go_big_quiet_on
          go_big_quiet_skip
          go_big_quiet_skip
          go_big_quiet_skip
          go_big_quiet_skip
          go_big_quiet_skip
          go_big_quiet_skip
          go_big_quiet_want
          refine ⟨.bool true, fun W hW => ?_, ?_⟩
          · go_simp
          go_big_quiet_on
          simp only [Act.put, List.setIfInBounds_toArray, List.set_cons_zero, List.set_cons_succ]
          refine wpQuiet_nil ?_
          intro W hW
          go_wp2_with fail
          refine bodyPost_ret (results_ck _ _ _ _ ⟨rfl, rfl⟩) rfl ?_
          exact ⟨by rw [HQM.out, HRES.out]; rfl, bel0 hB2 hW⟩
        | true =>
          by_cases hi : 0 ≤ ix
          · have hbd : badF (L.take k) (x, b) = true := by rw [hbad]; simp [hi]
            rw [hbd, if_pos rfl] at hstep
            have HRES : Hid (q = (40, (k : Int))) := hstep.symm
            clear hstep hbad hbd
            go_wp2_with fail
            try rw [hO]
            refine quiet_lit3 (C := fun W => Below (wr.alloc O).heap.size (wr.alloc O) W) (by kernel_rfl) (by kernel_rfl) (show Below _ _ _ from (Below.refl _ _).drew) ?_
            go_big_quiet_want
            refine ⟨.agg #[.string ⟨x.toArray⟩, .int .i64 b], fun W hW => ?_, ?_⟩
            · obtain ⟨z0, z1⟩ := XT.out W hW
              go_simp
            go_big_quiet_on
            simp only [Act.put, List.setIfInBounds_toArray, List.set_cons_zero, List.set_cons_succ]
            go_big_quiet_want
            refine ⟨.bool true, fun W hW => ?_, ?_⟩
            · go_simp
              refine (HS2.out W).mono ?_
              rintro e w7 ⟨rfl, hb⟩
              exact ⟨rfl, by have := bel0 hW hb; simpa using this⟩
            go_big_quiet_on
            simp only [Act.put, List.setIfInBounds_toArray, List.set_cons_zero, List.set_cons_succ]
            go_big_quiet_want
            refine ⟨.bool false, fun W hW => ?_, ?_⟩
            · go_simp
            go_big_quiet_on
            simp only [Act.put, List.setIfInBounds_toArray, List.set_cons_zero, List.set_cons_succ]
            go_big_quiet_want
            go_big_quiet_op
            go_big_quiet_on
            go_big_quiet_want
            refine ⟨.pointer (some ⟨wr.heap.size, 0, none⟩), fun W hW => ?_, ?_⟩
            · go_simp
            go_big_quiet_on
            simp only [Act.put, List.setIfInBounds_toArray, List.set_cons_zero, List.set_cons_succ]
            go_big_quiet_want
            refine ⟨.string ⟨x.toArray⟩, fun W hW => ?_, ?_⟩
            · obtain ⟨z0, z1⟩ := XT.out W hW
              go_simp
            go_big_quiet_on
            simp only [Act.put, List.setIfInBounds_toArray, List.set_cons_zero, List.set_cons_succ]
            go_big_quiet_want
            refine ⟨.bool true, fun W hW => ?_, ?_⟩
            · go_simp
              refine (HN.out W (bel0 hB2 hW)).mono ?_
              rintro e w7 ⟨rfl, hb⟩
              exact ⟨rfl, by have := bel0 hW hb; simpa using this⟩
            go_big_quiet_on
            simp only [Act.put, List.setIfInBounds_toArray, List.set_cons_zero, List.set_cons_succ]
            go_big_quiet_want
            refine ⟨.bool false, fun W hW => ?_, ?_⟩
            · go_simp
            go_big_quiet_on
            simp only [Act.put, List.setIfInBounds_toArray, List.set_cons_zero, List.set_cons_succ]
            go_big_quiet_want
            refine ⟨.bool false, fun W hW => ?_, ?_⟩
            · go_simp
            go_big_quiet_on
            simp only [Act.put, List.setIfInBounds_toArray, List.set_cons_zero, List.set_cons_succ]
            go_big_quiet_want
            go_big_quiet_op
            go_big_quiet_on
            go_big_quiet_want
            go_big_quiet_op
            go_big_quiet_on
            go_big_quiet_want
            go_big_quiet_op
            go_big_quiet_on
            go_big_quiet_want
            refine ⟨.slice (some ⟨g, o0, none⟩) k c, fun W hW => ?_, ?_⟩
            · go_simp
            go_big_quiet_on
            simp only [Act.put, List.setIfInBounds_toArray, List.set_cons_zero, List.set_cons_succ]
            go_big_quiet_want
            refine ⟨.pointer (some ⟨wr.heap.size, 0, none⟩), fun W hW => ?_, ?_⟩
            · go_simp
            go_big_quiet_on
            simp only [Act.put, List.setIfInBounds_toArray, List.set_cons_zero, List.set_cons_succ]
            go_big_quiet_want
            refine ⟨.string ⟨x.toArray⟩, fun W hW => ?_, ?_⟩
            · obtain ⟨z0, z1⟩ := XT.out W hW
              go_simp
            go_big_quiet_on
            simp only [Act.put, List.setIfInBounds_toArray, List.set_cons_zero, List.set_cons_succ]
            go_big_quiet_want
            refine ⟨.int .i64 ix, fun W hW => ?_, ?_⟩
            · go_simp
              refine (HI.out W (bel0 hB2 hW)).mono ?_
              rintro e w7 ⟨rfl, hb⟩
              exact ⟨rfl, by have := bel0 hW hb; simpa using this⟩
            go_big_quiet_on
            simp only [Act.put, List.setIfInBounds_toArray, List.set_cons_zero, List.set_cons_succ]
            go_big_quiet_want
            refine ⟨.bool true, fun W hW => ?_, ?_⟩
            · go_simp
            go_big_quiet_on
            simp only [Act.put, List.setIfInBounds_toArray, List.set_cons_zero, List.set_cons_succ]
            go_big_quiet_want
            refine ⟨.bool true, fun W hW => ?_, ?_⟩
            · go_simp
            go_big_quiet_on
            simp only [Act.put, List.setIfInBounds_toArray, List.set_cons_zero, List.set_cons_succ]
            go_big_quiet_want
            go_big_quiet_op
            go_big_quiet_on
            go_big_quiet_skip
            go_big_quiet_skip
            go_big_quiet_skip
            go_big_quiet_skip
            go_big_quiet_skip
            go_big_quiet_skip
            go_big_quiet_want
            refine ⟨.bool true, fun W hW => ?_, ?_⟩
            · go_simp
            go_big_quiet_on
            simp only [Act.put, List.setIfInBounds_toArray, List.set_cons_zero, List.set_cons_succ]
            refine wpQuiet_nil ?_
            intro W hW
            go_wp2_with fail
            refine bodyPost_ret (results_ck _ _ _ _ ⟨rfl, rfl⟩) rfl ?_
            exact ⟨by rw [HQM.out, HRES.out]; rfl, bel0 hB2 hW⟩
          have HB3 : Hid (∀ f ∈ L.take (k + 1), 0 ≤ f.2 ∧ f.2 ≤ 32) := HB1.out hb1 hb2
          have HW2 : Hid (∀ W : World, Below w.heap.size w W → Calls Tryz.prog 31 #[.slice (some ⟨g, o0, none⟩) (k + 1) c] W fun e w' => e = .returned (.int .i64 sw) ∧ Below W.heap.size W w') := HW.out HB3.out
          by_cases hs : 256 < sw
          · have hbd : badF (L.take k) (x, b) = true := by rw [hbad]; simp [hs]
            rw [hbd, if_pos rfl] at hstep
            have HRES : Hid (q = (40, (k : Int))) := hstep.symm
            clear hstep hbad hbd
            go_wp2_with fail
            try rw [hO]
            refine quiet_lit3 (C := fun W => Below (wr.alloc O).heap.size (wr.alloc O) W) (by kernel_rfl) (by kernel_rfl) (show Below _ _ _ from (Below.refl _ _).drew) ?_
            go_big_quiet_want
            refine ⟨.agg #[.string ⟨x.toArray⟩, .int .i64 b], fun W hW => ?_, ?_⟩
            · obtain ⟨z0, z1⟩ := XT.out W hW
              go_simp
            go_big_quiet_on
            simp only [Act.put, List.setIfInBounds_toArray, List.set_cons_zero, List.set_cons_succ]
            go_big_quiet_want
            refine ⟨.bool true, fun W hW => ?_, ?_⟩
            · go_simp
              refine (HS2.out W).mono ?_
              rintro e w7 ⟨rfl, hb⟩
              exact ⟨rfl, by have := bel0 hW hb; simpa using this⟩
            go_big_quiet_on
            simp only [Act.put, List.setIfInBounds_toArray, List.set_cons_zero, List.set_cons_succ]
            go_big_quiet_want
            refine ⟨.bool false, fun W hW => ?_, ?_⟩
            · go_simp
            go_big_quiet_on
            simp only [Act.put, List.setIfInBounds_toArray, List.set_cons_zero, List.set_cons_succ]
            go_big_quiet_want
            go_big_quiet_op
            go_big_quiet_on
            go_big_quiet_want
            refine ⟨.pointer (some ⟨wr.heap.size, 0, none⟩), fun W hW => ?_, ?_⟩
            · go_simp
            go_big_quiet_on
            simp only [Act.put, List.setIfInBounds_toArray, List.set_cons_zero, List.set_cons_succ]
            go_big_quiet_want
            refine ⟨.string ⟨x.toArray⟩, fun W hW => ?_, ?_⟩
            · obtain ⟨z0, z1⟩ := XT.out W hW
              go_simp
            go_big_quiet_on
            simp only [Act.put, List.setIfInBounds_toArray, List.set_cons_zero, List.set_cons_succ]
            go_big_quiet_want
            refine ⟨.bool true, fun W hW => ?_, ?_⟩
            · go_simp
              refine (HN.out W (bel0 hB2 hW)).mono ?_
              rintro e w7 ⟨rfl, hb⟩
              exact ⟨rfl, by have := bel0 hW hb; simpa using this⟩
            go_big_quiet_on
            simp only [Act.put, List.setIfInBounds_toArray, List.set_cons_zero, List.set_cons_succ]
            go_big_quiet_want
            refine ⟨.bool false, fun W hW => ?_, ?_⟩
            · go_simp
            go_big_quiet_on
            simp only [Act.put, List.setIfInBounds_toArray, List.set_cons_zero, List.set_cons_succ]
            go_big_quiet_want
            refine ⟨.bool false, fun W hW => ?_, ?_⟩
            · go_simp
            go_big_quiet_on
            simp only [Act.put, List.setIfInBounds_toArray, List.set_cons_zero, List.set_cons_succ]
            go_big_quiet_want
            go_big_quiet_op
            go_big_quiet_on
            go_big_quiet_want
            go_big_quiet_op
            go_big_quiet_on
            go_big_quiet_want
            go_big_quiet_op
            go_big_quiet_on
            go_big_quiet_want
            refine ⟨.slice (some ⟨g, o0, none⟩) k c, fun W hW => ?_, ?_⟩
            · go_simp
            go_big_quiet_on
            simp only [Act.put, List.setIfInBounds_toArray, List.set_cons_zero, List.set_cons_succ]
            go_big_quiet_want
            refine ⟨.pointer (some ⟨wr.heap.size, 0, none⟩), fun W hW => ?_, ?_⟩
            · go_simp
            go_big_quiet_on
            simp only [Act.put, List.setIfInBounds_toArray, List.set_cons_zero, List.set_cons_succ]
            go_big_quiet_want
            refine ⟨.string ⟨x.toArray⟩, fun W hW => ?_, ?_⟩
            · obtain ⟨z0, z1⟩ := XT.out W hW
              go_simp
            go_big_quiet_on
            simp only [Act.put, List.setIfInBounds_toArray, List.set_cons_zero, List.set_cons_succ]
            go_big_quiet_want
            refine ⟨.int .i64 ix, fun W hW => ?_, ?_⟩
            · go_simp
              refine (HI.out W (bel0 hB2 hW)).mono ?_
              rintro e w7 ⟨rfl, hb⟩
              exact ⟨rfl, by have := bel0 hW hb; simpa using this⟩
            go_big_quiet_on
            simp only [Act.put, List.setIfInBounds_toArray, List.set_cons_zero, List.set_cons_succ]
            go_big_quiet_want
            refine ⟨.bool false, fun W hW => ?_, ?_⟩
            · go_simp
            go_big_quiet_on
            simp only [Act.put, List.setIfInBounds_toArray, List.set_cons_zero, List.set_cons_succ]
            go_big_quiet_want
            refine ⟨.bool false, fun W hW => ?_, ?_⟩
            · go_simp
            go_big_quiet_on
            simp only [Act.put, List.setIfInBounds_toArray, List.set_cons_zero, List.set_cons_succ]
            go_big_quiet_want
            go_big_quiet_op
            go_big_quiet_on
            go_big_quiet_want
            go_big_quiet_op
            go_big_quiet_on
            go_big_quiet_want
            go_big_quiet_op
            go_big_quiet_on
            go_big_quiet_want
            refine ⟨.int .i64 ((k : Int) + 1), fun W hW => ?_, ?_⟩
            · go_simp
              exact HWK.out
            go_big_quiet_on
            simp only [Act.put, List.setIfInBounds_toArray, List.set_cons_zero, List.set_cons_succ]
            go_big_quiet_want
            refine ⟨.slice (some ⟨g, o0, none⟩) (k + 1) c, fun W hW => ?_, ?_⟩
            · go_simp
            go_big_quiet_on
            simp only [Act.put, List.setIfInBounds_toArray, List.set_cons_zero, List.set_cons_succ]
            go_big_quiet_want
            refine ⟨.int .i64 sw, fun W hW => ?_, ?_⟩
            · go_simp
              refine (HW2.out W (bel0 hB2 hW)).mono ?_
              rintro e w7 ⟨rfl, hb⟩
              exact ⟨rfl, by have := bel0 hW hb; simpa using this⟩
            go_big_quiet_on
            simp only [Act.put, List.setIfInBounds_toArray, List.set_cons_zero, List.set_cons_succ]
            go_big_quiet_want
            refine ⟨.bool true, fun W hW => ?_, ?_⟩
            · go_simp
            go_big_quiet_on
            simp only [Act.put, List.setIfInBounds_toArray, List.set_cons_zero, List.set_cons_succ]
            go_big_quiet_want
            refine ⟨.bool true, fun W hW => ?_, ?_⟩
            · go_simp
            go_big_quiet_on
            simp only [Act.put, List.setIfInBounds_toArray, List.set_cons_zero, List.set_cons_succ]
            refine wpQuiet_nil ?_
            intro W hW
            go_wp2_with fail
            refine bodyPost_ret (results_ck _ _ _ _ ⟨rfl, rfl⟩) rfl ?_
            exact ⟨by rw [HQM.out, HRES.out]; rfl, bel0 hB2 hW⟩
          have hbd : badF (L.take k) (x, b) = false := by rw [hbad]; simp [hi, hs]
          rw [hbd, if_neg (by decide)] at hstep
          have HST : Hid (chkL (L.take (k + 1)) (L.drop (k + 1)) = q) := hstep
          clear hstep hbad hbd
          go_wp2_with fail
          try rw [hO]
          refine quiet_lit3 (C := fun W => Below (wr.alloc O).heap.size (wr.alloc O) W) (by kernel_rfl) (by kernel_rfl) (show Below _ _ _ from (Below.refl _ _).drew) ?_
          go_big_quiet_want
          refine ⟨.agg #[.string ⟨x.toArray⟩, .int .i64 b], fun W hW => ?_, ?_⟩
          · obtain ⟨z0, z1⟩ := XT.out W hW
            go_simp
          go_big_quiet_on
          simp only [Act.put, List.setIfInBounds_toArray, List.set_cons_zero, List.set_cons_succ]
          go_big_quiet_want
          refine ⟨.bool true, fun W hW => ?_, ?_⟩
          · go_simp
            refine (HS2.out W).mono ?_
            rintro e w7 ⟨rfl, hb⟩
            exact ⟨rfl, by have := bel0 hW hb; simpa using this⟩
          go_big_quiet_on
          simp only [Act.put, List.setIfInBounds_toArray, List.set_cons_zero, List.set_cons_succ]
          go_big_quiet_want
          refine ⟨.bool false, fun W hW => ?_, ?_⟩
          · go_simp
          go_big_quiet_on
          simp only [Act.put, List.setIfInBounds_toArray, List.set_cons_zero, List.set_cons_succ]
          go_big_quiet_want
          go_big_quiet_op
          go_big_quiet_on
          go_big_quiet_want
          refine ⟨.pointer (some ⟨wr.heap.size, 0, none⟩), fun W hW => ?_, ?_⟩
          · go_simp
          go_big_quiet_on
          simp only [Act.put, List.setIfInBounds_toArray, List.set_cons_zero, List.set_cons_succ]
          go_big_quiet_want
          refine ⟨.string ⟨x.toArray⟩, fun W hW => ?_, ?_⟩
          · obtain ⟨z0, z1⟩ := XT.out W hW
            go_simp
          go_big_quiet_on
          simp only [Act.put, List.setIfInBounds_toArray, List.set_cons_zero, List.set_cons_succ]
          go_big_quiet_want
          refine ⟨.bool true, fun W hW => ?_, ?_⟩
          · go_simp
            refine (HN.out W (bel0 hB2 hW)).mono ?_
            rintro e w7 ⟨rfl, hb⟩
            exact ⟨rfl, by have := bel0 hW hb; simpa using this⟩
          go_big_quiet_on
          simp only [Act.put, List.setIfInBounds_toArray, List.set_cons_zero, List.set_cons_succ]
          go_big_quiet_want
          refine ⟨.bool false, fun W hW => ?_, ?_⟩
          · go_simp
          go_big_quiet_on
          simp only [Act.put, List.setIfInBounds_toArray, List.set_cons_zero, List.set_cons_succ]
          go_big_quiet_want
          refine ⟨.bool false, fun W hW => ?_, ?_⟩
          · go_simp
          go_big_quiet_on
          simp only [Act.put, List.setIfInBounds_toArray, List.set_cons_zero, List.set_cons_succ]
          go_big_quiet_want
          go_big_quiet_op
          go_big_quiet_on
          go_big_quiet_want
          go_big_quiet_op
          go_big_quiet_on
          go_big_quiet_want
          go_big_quiet_op
          go_big_quiet_on
          go_big_quiet_want
          refine ⟨.slice (some ⟨g, o0, none⟩) k c, fun W hW => ?_, ?_⟩
          · go_simp
          go_big_quiet_on
          simp only [Act.put, List.setIfInBounds_toArray, List.set_cons_zero, List.set_cons_succ]
          go_big_quiet_want
          refine ⟨.pointer (some ⟨wr.heap.size, 0, none⟩), fun W hW => ?_, ?_⟩
          · go_simp
          go_big_quiet_on
          simp only [Act.put, List.setIfInBounds_toArray, List.set_cons_zero, List.set_cons_succ]
          go_big_quiet_want
          refine ⟨.string ⟨x.toArray⟩, fun W hW => ?_, ?_⟩
          · obtain ⟨z0, z1⟩ := XT.out W hW
            go_simp
          go_big_quiet_on
          simp only [Act.put, List.setIfInBounds_toArray, List.set_cons_zero, List.set_cons_succ]
          go_big_quiet_want
          refine ⟨.int .i64 ix, fun W hW => ?_, ?_⟩
          · go_simp
            refine (HI.out W (bel0 hB2 hW)).mono ?_
            rintro e w7 ⟨rfl, hb⟩
            exact ⟨rfl, by have := bel0 hW hb; simpa using this⟩
          go_big_quiet_on
          simp only [Act.put, List.setIfInBounds_toArray, List.set_cons_zero, List.set_cons_succ]
          go_big_quiet_want
          refine ⟨.bool false, fun W hW => ?_, ?_⟩
          · go_simp
          go_big_quiet_on
          simp only [Act.put, List.setIfInBounds_toArray, List.set_cons_zero, List.set_cons_succ]
          go_big_quiet_want
          refine ⟨.bool false, fun W hW => ?_, ?_⟩
          · go_simp
          go_big_quiet_on
          simp only [Act.put, List.setIfInBounds_toArray, List.set_cons_zero, List.set_cons_succ]
          go_big_quiet_want
          go_big_quiet_op
          go_big_quiet_on
          go_big_quiet_want
          go_big_quiet_op
          go_big_quiet_on
          go_big_quiet_want
          go_big_quiet_op
          go_big_quiet_on
          go_big_quiet_want
          refine ⟨.int .i64 ((k : Int) + 1), fun W hW => ?_, ?_⟩
          · go_simp
            exact HWK.out
          go_big_quiet_on
          simp only [Act.put, List.setIfInBounds_toArray, List.set_cons_zero, List.set_cons_succ]
          go_big_quiet_want
          refine ⟨.slice (some ⟨g, o0, none⟩) (k + 1) c, fun W hW => ?_, ?_⟩
          · go_simp
          go_big_quiet_on
          simp only [Act.put, List.setIfInBounds_toArray, List.set_cons_zero, List.set_cons_succ]
          go_big_quiet_want
          refine ⟨.int .i64 sw, fun W hW => ?_, ?_⟩
          · go_simp
            refine (HW2.out W (bel0 hB2 hW)).mono ?_
            rintro e w7 ⟨rfl, hb⟩
            exact ⟨rfl, by have := bel0 hW hb; simpa using this⟩
          go_big_quiet_on
          simp only [Act.put, List.setIfInBounds_toArray, List.set_cons_zero, List.set_cons_succ]
          go_big_quiet_want
          refine ⟨.bool false, fun W hW => ?_, ?_⟩
          · go_simp
          go_big_quiet_on
          simp only [Act.put, List.setIfInBounds_toArray, List.set_cons_zero, List.set_cons_succ]
          go_big_quiet_want
          refine ⟨.bool false, fun W hW => ?_, ?_⟩
          · go_simp
          go_big_quiet_on
          simp only [Act.put, List.setIfInBounds_toArray, List.set_cons_zero, List.set_cons_succ]
          refine wpQuiet_nil ?_
          intro W hW
          go_wp2_with fail
          go_roundw
          case rel => exact ⟨k + 1, by go_num, by omega, HST, HB3, bel0 hB2 hW⟩
          case measure => simp [intOf]; omega
    · have j1 : ¬ (k : Int) < (L.length : Int) := by omega
      have HRES : Hid (q = (0, 0)) := by
        unfold Hid
        rw [← hrun.out, List.drop_eq_nil_of_le (by omega)]
        rfl
      clear hrun hbits
      go_wp2_with fail
      refine bodyPost_ret (results_ck _ _ _ _ ⟨rfl, rfl⟩) rfl ?_
      exact ⟨by rw [HQM.out, HRES.out]; rfl, hB⟩
end Go.Proofs.YtodhcnjkiollaaaGreatDoor
namespace Go.Proofs.YtodhcnjkiollaaaGreatDoor
open Go.RowKit Go.Shelf
theorem nameB_bad {x : List UInt8} {j : Nat} (hj : j < x.length) (h : letX (bt x j) = false ∧ (digX (bt x j) = false ∨ j = 0)) : nameB x = false := by
  cases hb : nameB x with
  | false => rfl
  | true =>
    unfold nameB at hb
    simp only [Bool.and_eq_true, decide_eq_true_eq] at hb
    obtain ⟨h0, h24, hl, ha⟩ := hb
    have := List.all_eq_true.1 ha x[j] (List.getElem_mem hj)
    rw [← bt_of (List.getElem?_eq_getElem hj), h.1, Bool.false_or] at this
    rcases h.2 with e | e
    · rw [e] at this; cases this
    · subst e
      rw [h.1] at hl
      cases hl
theorem nameB_ok {x : List UInt8} (h0 : 0 < x.length) (h24 : x.length ≤ 24) (h : ∀ j, j < x.length → ¬ (letX (bt x j) = false ∧ (digX (bt x j) = false ∨ j = 0))) : nameB x = true := by
  unfold nameB
  have hl : letX (bt x 0) = true := by
    cases hh : letX (bt x 0) with
    | true => rfl
    | false => exact absurd ⟨hh, .inr rfl⟩ (h 0 h0)
  have ha : x.all (fun c => letX c.toNat || digX c.toNat) = true := by
    rw [List.all_eq_true]
    intro c hc
    obtain ⟨k, hk, rfl⟩ := List.getElem_of_mem hc
    have := h k hk
    rw [bt_of (List.getElem?_eq_getElem hk)] at this
    cases h1 : letX x[k].toNat with
    | true => rfl
    | false =>
      cases h2 : digX x[k].toNat with
      | true => rfl
      | false => exact absurd ⟨h1, .inl h2⟩ this
  rw [hl, ha, decide_eq_true h0, decide_eq_true h24]
  rfl
set_option maxRecDepth 100000 in
set_option maxHeartbeats 4000000 in
theorem refName_any (x : List UInt8) (w : World) (hx : x.length ≤ 281474976710656) : Calls Tryz.prog 65 #[.string ⟨x.toArray⟩] w fun e w' => e = .returned (.bool (nameB x)) ∧ w' = w := by
  by_cases h0 : x = []
  · have hr : Hid (nameB x = false) := by unfold Hid nameB; simp [h0]
    have y1 : (x == []) = true := beq_iff_eq.2 h0
    subst h0
    go_enter Tryz.func65, Tryz.ntmps65
    go_wp2_with fail
    go_ret
    exact ⟨by rw [hr.out]; rfl, rfl⟩
  have y1 : (x == []) = false := beq_eq_false_iff_ne.2 h0
  have h0' : 0 < x.length := List.length_pos_iff.2 h0
  by_cases h24 : 24 < x.length
  · have hr : Hid (nameB x = false) := by
      unfold Hid nameB
      rw [decide_eq_false (show ¬ x.length ≤ 24 by omega)]
      simp
    have i1 : (24 : Int) < (x.length : Int) := by omega
    go_enter Tryz.func65, Tryz.ntmps65
    go_wp2_with fail
    go_ret
    exact ⟨by rw [hr.out]; rfl, rfl⟩
  have i1 : ¬ (24 : Int) < (x.length : Int) := by omega
  obtain ⟨q, hq⟩ : ∃ q, nameB x = q := ⟨_, rfl⟩
  have HBAD : Hid (∀ j, j < x.length → letX (bt x j) = false ∧ (digX (bt x j) = false ∨ j = 0) → q = false) := fun j hj h => by rw [← hq]; exact nameB_bad hj h
  have HOK : Hid ((∀ j, j < x.length → ¬ (letX (bt x j) = false ∧ (digX (bt x j) = false ∨ j = 0))) → q = true) := fun h => by rw [← hq]; exact nameB_ok h0' (by omega) h
  rw [hq]
  clear hq
  go_enter Tryz.func65, Tryz.ntmps65
  go_wp2_with fail
  go_loopw [3] (fun vj wr => ∃ j : Nat, vj = .int .i64 j ∧ j ≤ x.length ∧ Hid (∀ i, i < j → ¬ (letX (bt x i) = false ∧ (digX (bt x i) = false ∨ i = 0))) ∧ wr = w) (fun vj _ => x.length - (intOf vj).toNat)
  case atStart => exact ⟨0, rfl, Nat.zero_le _, fun i hi => by omega, rfl⟩
  case round =>
    obtain ⟨j, rfl, hj, hno, rfl⟩ := hrel
    by_cases hlt : j < x.length
    · have j0 : (0 : Int) ≤ (j : Int) := by omega
      have j1 : (j : Int) < (x.length : Int) := by omega
      obtain ⟨d, hd, hld⟩ := byte_get x j hlt
      have hbt := bt_of hld
      have hd256 := d.toNat_lt
      have HNX : Hid (¬ (letX (bt x j) = false ∧ (digX (bt x j) = false ∨ j = 0)) → ∀ i, i < j + 1 → ¬ (letX (bt x i) = false ∧ (digX (bt x i) = false ∨ i = 0))) := fun h i hi => by
        rcases Nat.lt_or_ge i j with h1 | h1
        · exact hno.out i h1
        · obtain rfl : i = j := by omega
          exact h
      have HBJ : Hid (letX (bt x j) = false ∧ (digX (bt x j) = false ∨ j = 0) → q = false) := HBAD.out j hlt
      rw [hbt] at HNX HBJ
      clear hld hno hbt
      rcases (show d.toNat ≤ 47 ∨ (48 ≤ d.toNat ∧ d.toNat ≤ 57) ∨ (58 ≤ d.toNat ∧ d.toNat ≤ 64) ∨ (65 ≤ d.toNat ∧ d.toNat ≤ 90) ∨ (91 ≤ d.toNat ∧ d.toNat ≤ 94) ∨ d.toNat = 95 ∨ d.toNat = 96 ∨ (97 ≤ d.toNat ∧ d.toNat ≤ 122) ∨ 123 ≤ d.toNat by omega) with hr | hr | hr | hr | hr | hr | hr | hr | hr
      · have a97 : ¬ (97 : Int) ≤ (d.toNat : Int) := by omega
        have a122 : (d.toNat : Int) ≤ 122 := by omega
        have a65 : ¬ (65 : Int) ≤ (d.toNat : Int) := by omega
        have a90 : (d.toNat : Int) ≤ 90 := by omega
        have a48 : ¬ (48 : Int) ≤ (d.toNat : Int) := by omega
        have a57 : (d.toNat : Int) ≤ 57 := by omega
        have a95 : ((d.toNat : Int) == 95) = false := beq_eq_false_iff_ne.2 (by omega)
        have hl : letX d.toNat = false := by unfold letX; simp; omega
        have hdg : digX d.toNat = false := by unfold digX; simp; omega
        obtain rfl : q = false := HBJ.out ⟨hl, .inl hdg⟩
        clear hl hdg
        clear HNX HBJ
        go_wp2_with fail
        go_ret
        exact ⟨rfl, rfl⟩
      · have a97 : ¬ (97 : Int) ≤ (d.toNat : Int) := by omega
        have a122 : (d.toNat : Int) ≤ 122 := by omega
        have a65 : ¬ (65 : Int) ≤ (d.toNat : Int) := by omega
        have a90 : (d.toNat : Int) ≤ 90 := by omega
        have a48 : (48 : Int) ≤ (d.toNat : Int) := by omega
        have a57 : (d.toNat : Int) ≤ 57 := by omega
        have a95 : ((d.toNat : Int) == 95) = false := beq_eq_false_iff_ne.2 (by omega)
        have hl : letX d.toNat = false := by unfold letX; simp; omega
        have hdg : digX d.toNat = true := by unfold digX; simp; omega
        by_cases hz : j = 0
        · have z0 : ((j : Int) == 0) = true := beq_iff_eq.2 (by omega)
          obtain rfl : q = false := HBJ.out ⟨hl, .inr hz⟩
          clear hl hdg hz
          clear HNX HBJ
          go_wp2_with fail
          go_ret
          exact ⟨rfl, rfl⟩
        · have z0 : ((j : Int) == 0) = false := beq_eq_false_iff_ne.2 (by omega)
          have HN2 : Hid (∀ i, i < j + 1 → ¬ (letX (bt x i) = false ∧ (digX (bt x i) = false ∨ i = 0))) := HNX.out (fun h => by
            rw [hdg] at h
            rcases h.2 with e | e
            · cases e
            · exact hz e)
          clear hl hdg hz
          clear HBJ HNX
          go_wp2_with fail
          go_roundw
          case rel => exact ⟨j + 1, by go_num, by omega, HN2, by first | rfl | trivial⟩
          case measure => simp [intOf]; omega
      · have a97 : ¬ (97 : Int) ≤ (d.toNat : Int) := by omega
        have a122 : (d.toNat : Int) ≤ 122 := by omega
        have a65 : ¬ (65 : Int) ≤ (d.toNat : Int) := by omega
        have a90 : (d.toNat : Int) ≤ 90 := by omega
        have a48 : (48 : Int) ≤ (d.toNat : Int) := by omega
        have a57 : ¬ (d.toNat : Int) ≤ 57 := by omega
        have a95 : ((d.toNat : Int) == 95) = false := beq_eq_false_iff_ne.2 (by omega)
        have hl : letX d.toNat = false := by unfold letX; simp; omega
        have hdg : digX d.toNat = false := by unfold digX; simp; omega
        obtain rfl : q = false := HBJ.out ⟨hl, .inl hdg⟩
        clear hl hdg
        clear HNX HBJ
        go_wp2_with fail
        go_ret
        exact ⟨rfl, rfl⟩
      · have a97 : ¬ (97 : Int) ≤ (d.toNat : Int) := by omega
        have a122 : (d.toNat : Int) ≤ 122 := by omega
        have a65 : (65 : Int) ≤ (d.toNat : Int) := by omega
        have a90 : (d.toNat : Int) ≤ 90 := by omega
        have a48 : (48 : Int) ≤ (d.toNat : Int) := by omega
        have a57 : ¬ (d.toNat : Int) ≤ 57 := by omega
        have a95 : ((d.toNat : Int) == 95) = false := beq_eq_false_iff_ne.2 (by omega)
        have hl : letX d.toNat = true := by unfold letX; simp; omega
        have hdg : digX d.toNat = false := by unfold digX; simp; omega
        have HN2 : Hid (∀ i, i < j + 1 → ¬ (letX (bt x i) = false ∧ (digX (bt x i) = false ∨ i = 0))) := HNX.out (fun h => by rw [hl] at h; cases h.1)
        clear hl hdg
        clear HBJ HNX
        go_wp2_with fail
        go_roundw
        case rel => exact ⟨j + 1, by go_num, by omega, HN2, by first | rfl | trivial⟩
        case measure => simp [intOf]; omega
      · have a97 : ¬ (97 : Int) ≤ (d.toNat : Int) := by omega
        have a122 : (d.toNat : Int) ≤ 122 := by omega
        have a65 : (65 : Int) ≤ (d.toNat : Int) := by omega
        have a90 : ¬ (d.toNat : Int) ≤ 90 := by omega
        have a48 : (48 : Int) ≤ (d.toNat : Int) := by omega
        have a57 : ¬ (d.toNat : Int) ≤ 57 := by omega
        have a95 : ((d.toNat : Int) == 95) = false := beq_eq_false_iff_ne.2 (by omega)
        have hl : letX d.toNat = false := by unfold letX; simp; omega
        have hdg : digX d.toNat = false := by unfold digX; simp; omega
        obtain rfl : q = false := HBJ.out ⟨hl, .inl hdg⟩
        clear hl hdg
        clear HNX HBJ
        go_wp2_with fail
        go_ret
        exact ⟨rfl, rfl⟩
      · have a97 : ¬ (97 : Int) ≤ (d.toNat : Int) := by omega
        have a122 : (d.toNat : Int) ≤ 122 := by omega
        have a65 : (65 : Int) ≤ (d.toNat : Int) := by omega
        have a90 : ¬ (d.toNat : Int) ≤ 90 := by omega
        have a48 : (48 : Int) ≤ (d.toNat : Int) := by omega
        have a57 : ¬ (d.toNat : Int) ≤ 57 := by omega
        have a95 : ((d.toNat : Int) == 95) = true := beq_iff_eq.2 (by omega)
        have hl : letX d.toNat = true := by unfold letX; simp; omega
        have hdg : digX d.toNat = false := by unfold digX; simp; omega
        have HN2 : Hid (∀ i, i < j + 1 → ¬ (letX (bt x i) = false ∧ (digX (bt x i) = false ∨ i = 0))) := HNX.out (fun h => by rw [hl] at h; cases h.1)
        clear hl hdg
        clear HBJ HNX
        go_wp2_with fail
        go_roundw
        case rel => exact ⟨j + 1, by go_num, by omega, HN2, by first | rfl | trivial⟩
        case measure => simp [intOf]; omega
      · have a97 : ¬ (97 : Int) ≤ (d.toNat : Int) := by omega
        have a122 : (d.toNat : Int) ≤ 122 := by omega
        have a65 : (65 : Int) ≤ (d.toNat : Int) := by omega
        have a90 : ¬ (d.toNat : Int) ≤ 90 := by omega
        have a48 : (48 : Int) ≤ (d.toNat : Int) := by omega
        have a57 : ¬ (d.toNat : Int) ≤ 57 := by omega
        have a95 : ((d.toNat : Int) == 95) = false := beq_eq_false_iff_ne.2 (by omega)
        have hl : letX d.toNat = false := by unfold letX; simp; omega
        have hdg : digX d.toNat = false := by unfold digX; simp; omega
        obtain rfl : q = false := HBJ.out ⟨hl, .inl hdg⟩
        clear hl hdg
        clear HNX HBJ
        go_wp2_with fail
        go_ret
        exact ⟨rfl, rfl⟩
      · have a97 : (97 : Int) ≤ (d.toNat : Int) := by omega
        have a122 : (d.toNat : Int) ≤ 122 := by omega
        have a65 : (65 : Int) ≤ (d.toNat : Int) := by omega
        have a90 : ¬ (d.toNat : Int) ≤ 90 := by omega
        have a48 : (48 : Int) ≤ (d.toNat : Int) := by omega
        have a57 : ¬ (d.toNat : Int) ≤ 57 := by omega
        have a95 : ((d.toNat : Int) == 95) = false := beq_eq_false_iff_ne.2 (by omega)
        have hl : letX d.toNat = true := by unfold letX; simp; omega
        have hdg : digX d.toNat = false := by unfold digX; simp; omega
        have HN2 : Hid (∀ i, i < j + 1 → ¬ (letX (bt x i) = false ∧ (digX (bt x i) = false ∨ i = 0))) := HNX.out (fun h => by rw [hl] at h; cases h.1)
        clear hl hdg
        clear HBJ HNX
        go_wp2_with fail
        go_roundw
        case rel => exact ⟨j + 1, by go_num, by omega, HN2, by first | rfl | trivial⟩
        case measure => simp [intOf]; omega
      · have a97 : (97 : Int) ≤ (d.toNat : Int) := by omega
        have a122 : ¬ (d.toNat : Int) ≤ 122 := by omega
        have a65 : (65 : Int) ≤ (d.toNat : Int) := by omega
        have a90 : ¬ (d.toNat : Int) ≤ 90 := by omega
        have a48 : (48 : Int) ≤ (d.toNat : Int) := by omega
        have a57 : ¬ (d.toNat : Int) ≤ 57 := by omega
        have a95 : ((d.toNat : Int) == 95) = false := beq_eq_false_iff_ne.2 (by omega)
        have hl : letX d.toNat = false := by unfold letX; simp; omega
        have hdg : digX d.toNat = false := by unfold digX; simp; omega
        obtain rfl : q = false := HBJ.out ⟨hl, .inl hdg⟩
        clear hl hdg
        clear HNX HBJ
        go_wp2_with fail
        go_ret
        exact ⟨rfl, rfl⟩
    · have j1 : ¬ (j : Int) < (x.length : Int) := by omega
      obtain rfl : j = x.length := by omega
      obtain rfl : q = true := HOK.out hno.out
      go_wp2_with fail
      go_ret
      exact ⟨rfl, rfl⟩
end Go.Proofs.YtodhcnjkiollaaaGreatDoor
namespace Go.Proofs.YtodhcnjkiollaaaGreatDoor
open Go.RowKit Go.Shelf
theorem results_rc (tmps : Array Value) (W : World) (a b : Value) (h : tmps.getD 2 undef = a ∧ tmps.getD 3 undef = b) : (results Tryz.f37 tmps).run Tryz.prog W = .ok (.tuple #[a, b]) W := by
  obtain ⟨h1, h2⟩ := h
  have h1' : tmps[2]?.getD undef = a := by simpa using h1
  have h2' : tmps[3]?.getD undef = b := by simpa using h2
  simp [results, h1', h2', go_sem]
set_option maxRecDepth 100000 in
set_option maxHeartbeats 8000000 in
theorem refCheck_any (L : List IFld) (o : Option Addr) (c : Nat) (w : World) (hL : L.length ≤ 281474976710656) (hx : ∀ f ∈ L, f.1.length ≤ 281474976710656) (hr : IRF w o L) :
    Calls Tryz.prog 37 #[.slice o L.length c] w fun e w' => e = .returned (.tuple #[.int .i64 (chkM L).1, .int .i64 (chkM L).2]) ∧ Below w.heap.size w w' := by
  by_cases hbig : 12 < L.length
  · have i1 : (12 : Int) < (L.length : Int) := by omega
    have hres : Hid (chkM L = (2, 0)) := by unfold Hid chkM; rw [if_pos hbig]
    clear hx hr
    go_enter Tryz.func37, Tryz.ntmps37
    go_wp2_with fail
    refine bodyPost_ret (results_rc _ _ _ _ ⟨rfl, rfl⟩) rfl ?_
    exact ⟨by rw [hres.out]; rfl, Below.refl _ _⟩
  have i1 : ¬ (12 : Int) < (L.length : Int) := by omega
  by_cases hz : L.length = 0
  · have i2 : (L.length : Int) = 0 := by omega
    have hres : Hid (chkM L = (40, 0)) := by unfold Hid chkM; rw [if_neg hbig, if_pos hz]
    clear hx hr hbig
    go_enter Tryz.func37, Tryz.ntmps37
    go_wp2_with fail
    refine bodyPost_ret (results_rc _ _ _ _ ⟨rfl, rfl⟩) rfl ?_
    exact ⟨by rw [hres.out]; rfl, Below.refl _ _⟩
  have i2 : ((L.length : Int) == 0) = false := beq_eq_false_iff_ne.2 (by omega)
  obtain ⟨q, hq⟩ : ∃ q, chkL [] L = q := ⟨_, rfl⟩
  have HQM : Hid (chkM L = q) := by unfold Hid chkM; rw [if_neg hbig, if_neg hz, hq]
  have HQ : Hid (chkL (L.take 0) (L.drop 0) = q) := hq
  have HR : Hid (IRF w o L) := hr
  have HX : Hid (∀ f ∈ L, f.1.length ≤ 281474976710656) := hx
  clear hx hr hq
  go_enter Tryz.func37, Tryz.ntmps37
  go_wp2_with fail
  go_loopw [4, 5] (fun vs vk wr => ∃ (k : Nat) (s : Int), vk = .int .i64 k ∧ k ≤ L.length ∧ vs = .int .i64 s ∧ Hid (sumB (L.take k) = s) ∧ 0 ≤ s ∧ s ≤ 256 ∧ Hid (chkL (L.take k) (L.drop k) = q) ∧ Below w.heap.size w wr) (fun _ vk _ => L.length - (intOf vk).toNat)
  case atStart => exact ⟨0, 0, rfl, Nat.zero_le _, rfl, rfl, by omega, by omega, HQ, Below.refl _ _⟩
  case round =>
    clear HQ
    obtain ⟨k, s, rfl, hk, rfl, hsum, hs0, hs1, hrun, hB⟩ := hrel
    by_cases hlt : k < L.length
    · have j1 : (k : Int) < (L.length : Int) := by omega
      have j0 : (0 : Int) ≤ (k : Int) := by omega
      obtain ⟨f, hf⟩ : ∃ f, L[k]? = some f := ⟨_, List.getElem?_eq_getElem hlt⟩
      obtain ⟨g, o0, rfl, p0, p1⟩ := HR.out wr hB k f hf
      have hstep := hrun.out
      rw [chkL_step hf] at hstep
      have hxl := HX.out f (List.mem_of_getElem? hf)
      have hsn := take_snoc hf
      have hst := sumB_take hf
      rw [hsum.out] at hst
      have hBs := hB.size
      have hB2 : Below w.heap.size w (wr.alloc (Obj.cells #[.string ⟨f.1.toArray⟩, .int .i64 f.2] 27)) := hB.alloc hBs _
      have hbx : (wr.alloc (Obj.cells #[.string ⟨f.1.toArray⟩, .int .i64 f.2] 27)).heap[wr.heap.size]? = some (.cells #[.string ⟨f.1.toArray⟩, .int .i64 f.2] 27) := alloc_get _ _
      have hbad : badF (L.take k) f = (!sizB f || (!nmB f.1 || (decide (0 ≤ idxF (L.take k) f.1) || decide (256 < s + f.2)))) := by unfold badF; rw [hsn, hst]
      have HIX : Hid (0 ≤ idxF (L.take k) f.1 ↔ ∃ i h, i < k ∧ L[i]? = some h ∧ h.1 = f.1) := by
        unfold Hid
        rw [idxF_ge]
        constructor
        · rintro ⟨h, hm, he⟩
          obtain ⟨i, hi⟩ := List.getElem?_of_mem hm
          rw [List.getElem?_take] at hi
          split at hi
          · rename_i hik; exact ⟨i, h, hik, hi, he⟩
          · cases hi
        · rintro ⟨i, h, hik, hi, he⟩
          refine ⟨h, List.mem_of_getElem? (i := i) ?_, he⟩
          rw [List.getElem?_take, if_pos hik]
          exact hi
      obtain ⟨x, b⟩ := f
      simp only at p0 p1 HIX hbad hB2 hbx hst hxl
      have HN : ∀ W : World, Calls Tryz.prog 65 #[.string ⟨x.toArray⟩] W fun e w' => e = .returned (.bool (nameB x)) ∧ w' = W := fun W => refName_any x W hxl
      have HST : Hid (sumB (L.take (k + 1)) = s + b) := hst
      clear hrun hf hsn hxl hsum hst
      obtain ⟨V, hV⟩ : ∃ V, wr.alloc (Obj.cells #[.string ⟨x.toArray⟩, .int .i64 b] 27) = V := ⟨_, rfl⟩
      obtain ⟨S0, hS0⟩ : ∃ S, wr.heap.size = S := ⟨_, rfl⟩
      rw [hV] at hB2 hbx
      rw [hS0] at hbx
      have n0 : V.cell? ⟨S0, 0, none⟩ = some (.string ⟨x.toArray⟩) := cell_of_row _ _ 0 _ _ _ hbx
      have n1 : V.cell? ⟨S0, 1, none⟩ = some (.int .i64 b) := cell_of_row _ _ 1 _ _ _ hbx
      have HBX : Hid (V.heap[S0]? = some (.cells #[.string ⟨x.toArray⟩, .int .i64 b] 27)) := hbx
      have HFAIL : Hid (badF (L.take k) (x, b) = true → q = (40, (k : Int))) := fun h => by rw [h, if_pos rfl] at hstep; exact hstep.symm
      have HGO : Hid (badF (L.take k) (x, b) = false → chkL (L.take (k + 1)) (L.drop (k + 1)) = q) := fun h => by rw [h, if_neg (by decide)] at hstep; exact hstep
      have HBD : Hid (badF (L.take k) (x, b) = (!sizB (x, b) || (!nmB x || (decide (0 ≤ idxF (L.take k) x) || decide (256 < s + b))))) := hbad
      clear hbx hstep hbad
      cases hnm : nameB x with
      | false =>
        rw [hnm] at HN
        have HRES : Hid (q = (40, (k : Int))) := HFAIL.out (by rw [HBD.out]; simp [nmB, hnm])
        clear HFAIL HGO HBD HIX
        go_wp2_with fail
        refine (HN _).mono ?_
        rintro e W1 ⟨rfl, rfl⟩
        go_wp2_with fail
        refine bodyPost_ret (results_rc _ _ _ _ ⟨rfl, rfl⟩) rfl ?_
        exact ⟨by rw [HQM.out, HRES.out]; rfl, hB2⟩
      | true =>
        rw [hnm] at HN
        by_cases ea : x = [97, 110, 121]
        · have z1 : (x == [97, 110, 121]) = true := beq_iff_eq.2 ea
          have HRES : Hid (q = (40, (k : Int))) := HFAIL.out (by rw [HBD.out]; simp [nmB, ea])
          clear ea
          clear HFAIL HGO HBD HIX
          go_wp2_with fail
          refine (HN _).mono ?_
          rintro e W1 ⟨rfl, rfl⟩
          go_wp2_with fail
          refine bodyPost_ret (results_rc _ _ _ _ ⟨rfl, rfl⟩) rfl ?_
          exact ⟨by rw [HQM.out, HRES.out]; rfl, hB2⟩
        have z1 : (x == [97, 110, 121]) = false := beq_eq_false_iff_ne.2 ea
        by_cases en : x = [110, 111, 110, 101]
        · have z3 : (x == [110, 111, 110, 101]) = true := beq_iff_eq.2 en
          have HRES : Hid (q = (40, (k : Int))) := HFAIL.out (by rw [HBD.out]; simp [nmB, en])
          clear en
          clear HFAIL HGO HBD HIX
          go_wp2_with fail
          refine (HN _).mono ?_
          rintro e W1 ⟨rfl, rfl⟩
          go_wp2_with fail
          refine bodyPost_ret (results_rc _ _ _ _ ⟨rfl, rfl⟩) rfl ?_
          exact ⟨by rw [HQM.out, HRES.out]; rfl, hB2⟩
        have z3 : (x == [110, 111, 110, 101]) = false := beq_eq_false_iff_ne.2 en
        by_cases h1 : b < 1
        · have hns : ¬ 1 ≤ b := by omega
          have HRES : Hid (q = (40, (k : Int))) := HFAIL.out (by rw [HBD.out]; simp [sizB, hns])
          clear HFAIL HGO HBD HIX
          go_wp2_with fail
          refine (HN _).mono ?_
          rintro e W1 ⟨rfl, rfl⟩
          go_wp2_with fail
          refine bodyPost_ret (results_rc _ _ _ _ ⟨rfl, rfl⟩) rfl ?_
          exact ⟨by rw [HQM.out, HRES.out]; rfl, hB2⟩
        by_cases h2 : 32 < b
        · have hns : ¬ b ≤ 32 := by omega
          have HRES : Hid (q = (40, (k : Int))) := HFAIL.out (by rw [HBD.out]; simp [sizB, hns])
          clear HFAIL HGO HBD HIX
          go_wp2_with fail
          refine (HN _).mono ?_
          rintro e W1 ⟨rfl, rfl⟩
          go_wp2_with fail
          refine bodyPost_ret (results_rc _ _ _ _ ⟨rfl, rfl⟩) rfl ?_
          exact ⟨by rw [HQM.out, HRES.out]; rfl, hB2⟩
        have HB5 : Hid (badF (L.take k) (x, b) = (decide (0 ≤ idxF (L.take k) x) || decide (256 < s + b))) := by
          unfold Hid
          rw [HBD.out]
          have s1 : sizB (x, b) = true := by unfold sizB; simp; omega
          have s2 : nmB x = true := by unfold nmB; rw [hnm, z1, z3]; rfl
          rw [s1, s2]
          rfl
        clear HBD ea en
        go_wp2_with fail
        refine (HN _).mono ?_
        rintro e W1 ⟨rfl, rfl⟩
        go_wp2_with fail
        go_loopw [8] (fun vj wi => ∃ j : Nat, vj = .int .i64 j ∧ j ≤ k ∧ Hid (∀ i h, i < j → L[i]? = some h → h.1 ≠ x) ∧ Below W1.heap.size W1 wi) (fun vj _ => k - (intOf vj).toNat)
        case atStart => exact ⟨0, rfl, Nat.zero_le _, fun i h hi => by omega, Below.refl _ _⟩
        case round =>
          obtain ⟨j, rfl, hj, hno, hBi⟩ := hrel
          have hBw := bel0 hB2 hBi
          by_cases hjk : j < k
          · have q1 : (j : Int) < (k : Int) := by omega
            have q0 : (0 : Int) ≤ (j : Int) := by omega
            have q2 : (j : Int) < (L.length : Int) := by omega
            obtain ⟨h, hh⟩ : ∃ h, L[j]? = some h := ⟨_, List.getElem?_eq_getElem (by omega)⟩
            have XH : Hid (∀ W : World, Below W1.heap.size W1 W → W.cell? ⟨g, o0 + j * 2, none⟩ = some (.string ⟨h.1.toArray⟩)) := fun W hW => by
              obtain ⟨g2, q2, e1, e2, -⟩ := HR.out W (bel0 hB2 hW) j h hh
              injection e1 with e1
              injection e1 with e1 e3
              subst e1 e3
              exact e2
            have XX : Hid (∀ W : World, Below W1.heap.size W1 W → W.cell? ⟨S0, 0, none⟩ = some (.string ⟨x.toArray⟩)) := fun W hW => cell_of_row _ _ 0 _ _ _ (keepblk hW HBX.out)
            have HEQ : Hid (h.1 = x → q = (40, (k : Int))) := fun e => HFAIL.out (by rw [HB5.out, decide_eq_true (HIX.out.2 ⟨j, h, hjk, hh, e⟩)]; rfl)
            have HNX : Hid (h.1 ≠ x → ∀ i h, i < j + 1 → L[i]? = some h → h.1 ≠ x) := fun hne i h' hi hh' => by
              rcases Nat.lt_or_ge i j with h1 | h1
              · exact hno.out i h' h1 hh'
              · obtain rfl : i = j := by omega
                rw [hh] at hh'
                rw [← Option.some.inj hh']
                exact hne
            obtain ⟨y, bb⟩ := h
            simp only at XH HEQ HNX
            clear hh hno
            obtain ⟨e0, he0⟩ : ∃ e, (y == x) = e := ⟨_, rfl⟩
            go_wp2_with fail
            refine quiet_lit3 (C := fun W => Below W1.heap.size W1 W) (by kernel_rfl) (by kernel_rfl) (show Below _ _ _ from hBi.drew) ?_
            go_big_quiet_want
            go_big_quiet_op
            go_big_quiet_on
            go_big_quiet_want
            go_big_quiet_op
            go_big_quiet_on
            go_big_quiet_want
            refine ⟨.pointer (some ⟨g, o0 + j * 2, none⟩), fun W hW => ?_, ?_⟩
            · go_simp
            go_big_quiet_on
            simp only [Act.put, List.setIfInBounds_toArray, List.set_cons_zero, List.set_cons_succ]
            go_big_quiet_want
            refine ⟨.pointer (some ⟨g, o0 + j * 2, none⟩), fun W hW => ?_, ?_⟩
            · go_simp
            go_big_quiet_on
            simp only [Act.put, List.setIfInBounds_toArray, List.set_cons_zero, List.set_cons_succ]
            go_big_quiet_want
            refine ⟨.string ⟨y.toArray⟩, fun W hW => ?_, ?_⟩
            · have z0 := XH.out W hW
              go_simp
            go_big_quiet_on
            simp only [Act.put, List.setIfInBounds_toArray, List.set_cons_zero, List.set_cons_succ]
            go_big_quiet_want
            refine ⟨.pointer (some ⟨S0, 0, none⟩), fun W hW => ?_, ?_⟩
            · go_simp
            go_big_quiet_on
            simp only [Act.put, List.setIfInBounds_toArray, List.set_cons_zero, List.set_cons_succ]
            go_big_quiet_want
            refine ⟨.string ⟨x.toArray⟩, fun W hW => ?_, ?_⟩
            · have z0 := XX.out W hW
              go_simp
            go_big_quiet_on
            simp only [Act.put, List.setIfInBounds_toArray, List.set_cons_zero, List.set_cons_succ]
            go_big_quiet_want
            refine ⟨.bool e0, fun W hW => ?_, ?_⟩
            · go_simp
            go_big_quiet_on
            simp only [Act.put, List.setIfInBounds_toArray, List.set_cons_zero, List.set_cons_succ]
            refine wpQuiet_nil ?_
            intro W hW
            have hBW := bel0 hB2 hW
            cases e0 with
            | true =>
              have HRES : Hid (q = (40, (k : Int))) := HEQ.out (beq_iff_eq.1 he0)
              clear HEQ HNX he0
              go_wp2_with fail
              refine bodyPost_ret (results_rc _ _ _ _ ⟨rfl, rfl⟩) rfl ?_
              exact ⟨by rw [HQM.out, HRES.out]; rfl, hBW⟩
            | false =>
              have HN2 : Hid (∀ i h, i < j + 1 → L[i]? = some h → h.1 ≠ x) := HNX.out (beq_eq_false_iff_ne.1 he0)
              clear HEQ HNX he0
              go_wp2_with fail
              go_roundw
              case rel => exact ⟨j + 1, by go_num, by omega, HN2, hW⟩
              case measure => simp [intOf]; omega
          · have q1 : ¬ (j : Int) < (k : Int) := by omega
            obtain rfl : j = k := by omega
            have hix : decide (0 ≤ idxF (L.take j) x) = false := by
              rw [decide_eq_false_iff_not, HIX.out]
              rintro ⟨i, h, hi, hh, he⟩
              exact hno.out i h hi hh he
            have c1 : wr.cell? ⟨S0, 1, none⟩ = some (.int .i64 b) := cell_of_row _ _ 1 _ _ _ (keepblk hBi HBX.out)
            have hBw2 := bel0 hB2 hBi
            have e1 : IntKind.i64.wrap (s + b) = s + b := by rw [IntKind.wrap_i64]; omega
            by_cases h256 : 256 < s + b
            · have HRES : Hid (q = (40, (j : Int))) := HFAIL.out (by rw [HB5.out, hix, decide_eq_true h256]; rfl)
              clear hix hno HB5
              go_wp2_with fail
              refine bodyPost_ret (results_rc _ _ _ _ ⟨rfl, rfl⟩) rfl ?_
              exact ⟨by rw [HQM.out, HRES.out]; rfl, hBw2⟩
            · have HG2 : Hid (chkL (L.take (j + 1)) (L.drop (j + 1)) = q) := HGO.out (by rw [HB5.out, hix, decide_eq_false h256]; rfl)
              clear hix hno HB5
              go_wp2_with fail
              go_roundw
              case rel => exact ⟨j + 1, s + b, by go_num, by omega, rfl, HST, by omega, by omega, HG2, hBw2⟩
              case measure => simp [intOf]; omega
    · have j1 : ¬ (k : Int) < (L.length : Int) := by omega
      have HRES : Hid (q = (0, 0)) := by
        unfold Hid
        rw [← hrun.out, List.drop_eq_nil_of_le (by omega)]
        rfl
      clear hrun
      go_wp2_with fail
      refine bodyPost_ret (results_rc _ _ _ _ ⟨rfl, rfl⟩) rfl ?_
      exact ⟨by rw [HQM.out, HRES.out]; rfl, hB⟩
end Go.Proofs.YtodhcnjkiollaaaGreatDoor

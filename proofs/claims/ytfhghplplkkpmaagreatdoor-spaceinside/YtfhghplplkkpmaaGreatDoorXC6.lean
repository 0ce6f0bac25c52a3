import Derived.Test.YtfhghplplkkpmaaGreatDoorXC2
import Derived.Test.YtfhghplplkkpmaaGreatDoorXBC
import Derived.Test.YtfhghplplkkpmaaGreatDoorXAV
import Derived.Test.YtfhghplplkkpmaaGreatDoorXAA
import Derived.Test.YtfhghplplkkpmaaGreatDoorXBI
import Derived.Test.YtfhghplplkkpmaaGreatDoorXBH
import Derived.Test.YtfhghplplkkpmaaGreatDoorXAT
namespace Go.Proofs.YtfhghplplkkpmaaGreatDoor
open Go.RowKit Go.Shelf
/-- place k of a text of digits lies in the cube's -/
def okX (t h : List UInt8) (k : Nat) : Bool := match t[k]?, h[k]? with | some x, some d => x == 120 || x == d | _, _ => true
def hoB (t h : List UInt8) : Bool := allTo (okX t h) t.length
theorem dig_tri {b : UInt8} (h : digB b = true) : b = 48 ∨ b = 49 := by simpa [digB] using h
theorem dig_at {h : List UInt8} (hh : h.all digB = true) (k : Nat) (hk : k < h.length) : h[k] = 48 ∨ h[k] = 49 := by
  rw [List.all_eq_true] at hh
  exact dig_tri (hh _ (List.getElem_mem hk))
theorem has_ho (t h : List UInt8) (hn : t ≠ []) (hl : t.length = h.length) (hh : h.all digB = true) : hasB t h = hoB t h := by
  have e : (!t.isEmpty && (t.length == h.length)) = true := by
    cases t with
    | nil => exact absurd rfl hn
    | cons x l => simp; simpa using hl
  unfold hasB hoB
  rw [e, Bool.true_and]
  apply allTo_congr
  intro k hk
  have hkh : k < h.length := by omega
  simp only [okH, okX, List.getElem?_eq_getElem hk, List.getElem?_eq_getElem hkh]
  rcases dig_at hh k hkh with e | e <;> rw [e] <;> simp
/-- h has d's digits at the open places below p -/
def eqTo (a b h : List UInt8) (p : Nat) : Bool := allTo (fun k => !qual a b k || (b[k]? == h[k]?)) p
theorem oth_eq {d x : UInt8} (hd : d = 48 ∨ d = 49) (hx : x = 48 ∨ x = 49) : (oth d == x) = !(d == x) := by
  rcases hd with rfl | rfl <;> rcases hx with rfl | rfl <;> decide
theorem pc_get (a b : List UInt8) (hl : a.length = b.length) (p : Nat) (h : qual a b p = true) (k : Nat) (hk : k < a.length) :
    (pcT a b p)[k]? = some (if k = p then oth (b[k]'(by omega)) else if k < p then (if a[k] == 120 then b[k]'(by omega) else a[k]) else a[k]) := by
  have hp := qual_lt a b hl p h
  unfold pcT
  by_cases e : k = p
  · subst e
    rw [List.getElem?_set_self (by rw [rs_len a b hl]; exact hk)]
    have : b.getD k 0 = b[k]'(by omega) := by simp [List.getD, List.getElem?_eq_getElem (show k < b.length by omega)]
    rw [this]; simp
  · rw [List.getElem?_set_ne (by omega), rs_get a b hl p k hk]
    simp [e]
theorem pc_len (a b : List UInt8) (hl : a.length = b.length) (p : Nat) : (pcT a b p).length = a.length := by unfold pcT; simp; exact rs_len a b hl p
theorem piece_has (a b h : List UInt8) (hn : a ≠ []) (hl : a.length = b.length) (hl2 : a.length = h.length) (gb : good b = true) (hd : h.all digB = true) (p : Nat) (hq : qual a b p = true) :
    hasB (pcT a b p) h = (hoB a h && (eqTo a b h p && !(b[p]? == h[p]?))) := by
  have hp := qual_lt a b hl p hq
  have hpl := pc_len a b hl p
  have hne : pcT a b p ≠ [] := by
    intro e; rw [e] at hpl; exact hn (List.eq_nil_of_length_eq_zero hpl.symm)
  rw [has_ho _ _ hne (by omega) hd]
  unfold hoB eqTo
  rw [hpl, Bool.eq_iff_iff, Bool.and_eq_true, Bool.and_eq_true, allTo_iff, allTo_iff, allTo_iff]
  have ka : ∀ k, k < a.length → (okX (pcT a b p) h k = true ↔ (okX a h k = true ∧ (k < p → (!qual a b k || (b[k]? == h[k]?)) = true) ∧ (k = p → (!(b[k]? == h[k]?)) = true))) := by
    intro k hk
    have kb : k < b.length := by omega
    have kh : k < h.length := by omega
    have dk := dig_at hd k kh
    have tb := good_tri gb k kb
    simp only [okX, pc_get a b hl p hq k hk, qual_bytes a b hl k hk, List.getElem?_eq_getElem hk, List.getElem?_eq_getElem kb, List.getElem?_eq_getElem kh]
    by_cases e : k = p
    · subst e
      have h1 := qual_bytes a b hl k hk
      rw [hq] at h1
      simp at h1
      have tb2 : b[k] = 48 ∨ b[k] = 49 := by
        rcases tri_of b k kb tb with h | h | h
        · exact .inl h
        · exact .inr h
        · exact absurd h h1.1
      have ho := oth_eq tb2 dk
      have ho120 : (oth b[k] == 120) = false := by rcases tb2 with h | h <;> rw [h] <;> decide
      rw [if_pos rfl, ho, ho120, h1.2]
      simp
    · rw [if_neg e]
      by_cases h2 : k < p
      · rw [if_pos h2]
        have e1 : ¬ (k = p) := e
        generalize a[k] = x at *
        generalize b[k] = y at *
        generalize h[k] = z at *
        have z120 : ¬ (120 : UInt8) = z := by rcases dk with h | h <;> rw [h] <;> decide
        by_cases ex : x = 120
        · subst ex
          by_cases ey : y = 120
          · subst ey; simp [e1]
          · simp [e1, ey, h2]
        · simp [ex, e1, h2]
      · rw [if_neg h2]
        simp [e, h2]
  constructor
  · intro hh
    refine ⟨fun k hk => ((ka k hk).1 (hh k hk)).1, fun k hk => ((ka k (by omega)).1 (hh k (by omega))).2.1 hk, ((ka p hp).1 (hh p hp)).2.2 rfl⟩
  · rintro ⟨h1, h2, h3⟩ k hk
    exact (ka k hk).2 ⟨h1 k hk, fun hkp => h2 k hkp, fun e => by rw [e]; exact h3⟩
/-- how many cubes of a list have the header -/
def cnt (h : List UInt8) (l : List (List UInt8)) : Nat := l.countP (fun t => hasB t h)
theorem cnt_pcs (a b h : List UInt8) (hn : a ≠ []) (hl : a.length = b.length) (hl2 : a.length = h.length) (gb : good b = true) (hd : h.all digB = true) (p : Nat) :
    cnt h (pcs a b p) = if (hoB a h && !eqTo a b h p) = true then 1 else 0 := by
  induction p with
  | zero => simp [cnt, pcs, eqTo, allTo]
  | succ p ih =>
    have he : eqTo a b h (p + 1) = (eqTo a b h p && (!qual a b p || (b[p]? == h[p]?))) := rfl
    cases hq : qual a b p
    · have hs : ∀ k, p ≤ k → k < p + 1 → qual a b k = false := by
        intro k h1 h2
        have e : k = p := by omega
        subst e
        exact hq
      have : pcs a b (p + 1) = pcs a b p := pcs_skip a b p (p + 1) (by omega) hs
      rw [this, ih, he, hq]
      simp
    · rw [pcs_succ a b p hq]
      unfold cnt at ih ⊢
      rw [List.countP_append, ih, he, hq]
      simp only [List.countP_cons, List.countP_nil, piece_has a b h hn hl hl2 gb hd p hq]
      cases hoB a h <;> cases eqTo a b h p <;> cases (b[p]? == h[p]?) <;> rfl
theorem ho_agree (a b h : List UInt8) (hl : a.length = b.length) (hl2 : a.length = h.length) (ga : good a = true) (gb : good b = true) (hag : agB a b = true) (ho : hoB a h = true) : hoB b h = eqTo a b h a.length := by
  unfold hoB eqTo
  rw [← hl]
  apply allTo_congr
  intro k hk
  have kb : k < b.length := by omega
  have kh : k < h.length := by omega
  unfold hoB at ho
  rw [allTo_iff] at ho
  have h1 := ho k hk
  have hc := agB_cfl hag k
  rw [cfl_bytes a b k hk kb (good_tri ga k hk) (good_tri gb k kb)] at hc
  simp only [okX, qual_bytes a b hl k hk, List.getElem?_eq_getElem hk, List.getElem?_eq_getElem kb, List.getElem?_eq_getElem kh] at h1 ⊢
  generalize a[k] = x at *
  generalize b[k] = y at *
  generalize h[k] = z at *
  by_cases ex : x = 120
  · subst ex
    by_cases ey : y = 120 <;> simp [ey]
  · have ex' : (x == 120) = false := by simpa using ex
    rw [ex'] at h1 hc
    simp at h1 hc
    subst h1
    by_cases ey : y = 120
    · simp [ey]
    · have := hc ey
      subst this
      simp
theorem ho_clash (a b h : List UInt8) (hl : a.length = b.length) (hl2 : a.length = h.length) (ga : good a = true) (gb : good b = true) (hf : fitB a b = true) (hag : agB a b = false) (ho : hoB a h = true) : hoB b h = false := by
  cases hb : hoB b h
  · rfl
  · exfalso
    have : agB a b = true := by
      apply agB_all a b hf
      intro k hk
      have kb : k < b.length := by omega
      have kh : k < h.length := by omega
      unfold hoB at ho hb
      rw [allTo_iff] at ho hb
      have h1 := ho k hk
      have h2 := hb k kb
      rw [cfl_bytes a b k hk kb (good_tri ga k hk) (good_tri gb k kb)]
      simp only [okX, List.getElem?_eq_getElem hk, List.getElem?_eq_getElem kb, List.getElem?_eq_getElem kh] at h1 h2
      generalize a[k] = x at *
      generalize b[k] = y at *
      generalize h[k] = z at *
      simp at h1 h2
      rcases h1 with rfl | rfl
      · simp
      · rcases h2 with rfl | rfl <;> simp
    rw [hag] at this
    cases this
/-- P1.7 by the headers -/
theorem parts_cnt (a b h : List UInt8) (hn : a ≠ []) (hl : a.length = b.length) (hl2 : a.length = h.length) (ga : good a = true) (gb : good b = true) (hd : h.all digB = true) (hf : fitB a b = true) :
    cnt h (splT a b) = if (hoB a h && !hoB b h) = true then 1 else 0 := by
  unfold splT
  cases hag : agB a b
  · simp only [Bool.false_eq_true, if_false]
    unfold cnt
    rw [List.countP_cons, List.countP_nil, has_ho a h hn hl2 hd]
    cases ho : hoB a h
    · rfl
    · rw [ho_clash a b h hl hl2 ga gb hf hag ho]; rfl
  · rw [if_pos rfl, cnt_pcs a b h hn hl hl2 gb hd]
    cases ho : hoB a h
    · rfl
    · rw [ho_agree a b h hl hl2 ga gb hag ho]
theorem wiB_get {a b : List UInt8} (h : wiB a b = true) (k : Nat) (k1 : k < a.length) (k2 : k < b.length) : b[k] = 120 ∨ a[k] = b[k] := by
  unfold wiB at h
  rw [Bool.and_eq_true, allTo_iff] at h
  have h1 := h.2 k k1
  rw [List.getElem?_eq_getElem k1, List.getElem?_eq_getElem k2] at h1
  simpa using h1
theorem wiB_fit {a b : List UInt8} (h : wiB a b = true) : fitB a b = true := by
  unfold wiB at h
  exact (Bool.and_eq_true_iff.1 h).1
/-- a header is in a piece iff it is in the cube and not in what is taken away -/
theorem spl_wi {a b h : List UInt8} (hn : a ≠ []) (hl : a.length = b.length) (hl2 : a.length = h.length) (ga : good a = true) (gb : good b = true) (hd : h.all digB = true) : (∃ x ∈ splT a b, wiB h x = true) ↔ wiB h a = true ∧ ¬ wiB h b = true := by
  have hb : b ≠ [] := fun e => by
    rw [e] at hl
    exact hn (List.eq_nil_of_length_eq_zero hl)
  have h1 := parts_cnt a b h hn hl hl2 ga gb hd (fit_mk hl hn)
  rw [← has_ho a h hn hl2 hd, ← has_ho b h hb (by omega) hd, has_dig hd, has_dig hd] at h1
  have h2 : (∃ x ∈ splT a b, wiB h x = true) ↔ 0 < cnt h (splT a b) := by
    unfold cnt
    rw [List.countP_pos_iff]
    constructor
    · rintro ⟨x, hx, e⟩
      exact ⟨x, hx, by rw [has_dig hd]; exact e⟩
    · rintro ⟨x, hx, e⟩
      exact ⟨x, hx, by rw [has_dig hd] at e; exact e⟩
  rw [h2, h1]
  cases wiB h a <;> cases wiB h b <;> simp
theorem exS_wi {n : Nat} {l : List (List UInt8)} {d h : List UInt8} (hn : 1 ≤ n) (hh : h.length = n) (hd : h.all digB = true) (gl : gdW n l) (gd : good d = true) (hdl : d.length = n) : (∃ x ∈ exS splT l d, wiB h x = true) ↔ (∃ c ∈ l, wiB h c = true) ∧ ¬ wiB h d = true := by
  have hs : ∀ c ∈ l, ((∃ x ∈ splT c d, wiB h x = true) ↔ wiB h c = true ∧ ¬ wiB h d = true) := fun c hc => by
    have h1 := gl c hc
    exact spl_wi (fun e => by rw [e] at h1; have := h1.2; simp at this; omega) (by omega) (by omega) h1.1 gd hd
  unfold exS
  constructor
  · rintro ⟨x, hx, e⟩
    obtain ⟨c, hc, hx⟩ := List.mem_flatMap.1 hx
    obtain ⟨h1, h2⟩ := (hs c hc).1 ⟨x, hx, e⟩
    exact ⟨⟨c, hc, h1⟩, h2⟩
  · rintro ⟨⟨c, hc, h1⟩, h2⟩
    obtain ⟨x, hx, e⟩ := (hs c hc).2 ⟨h1, h2⟩
    exact ⟨x, List.mem_flatMap.2 ⟨c, hc, hx⟩, e⟩
theorem exT_wi {n : Nat} {h : List UInt8} (hn : 1 ≤ n) (hh : h.length = n) (hd : h.all digB = true) : ∀ (L l : List (List UInt8)), gdW n l → gdW n L → ((∃ x ∈ exT splT l L, wiB h x = true) ↔ (∃ c ∈ l, wiB h c = true) ∧ ∀ m ∈ L, ¬ wiB h m = true)
  | [], l, _, _ => by
    show (∃ x ∈ l, wiB h x = true) ↔ _
    exact ⟨fun e => ⟨e, fun m hm => by cases hm⟩, fun e => e.1⟩
  | d :: r, l, gl, gL => by
    show (∃ x ∈ exT splT (exS splT l d) r, wiB h x = true) ↔ _
    have g1 := gL d List.mem_cons_self
    rw [exT_wi hn hh hd r (exS splT l d) (gdW_exS gl g1.1 g1.2) (fun x hx => gL x (List.mem_cons_of_mem _ hx)), exS_wi hn hh hd gl g1.1 g1.2]
    constructor
    · rintro ⟨⟨h1, h2⟩, h3⟩
      refine ⟨h1, fun m hm => ?_⟩
      rcases List.mem_cons.1 hm with rfl | hm
      · exact h2
      · exact h3 m hm
    · rintro ⟨h1, h2⟩
      exact ⟨⟨h1, h2 d List.mem_cons_self⟩, fun m hm => h2 m (List.mem_cons_of_mem _ hm)⟩
theorem exE_wi {n lim : Nat} {h : List UInt8} (hn : 1 ≤ n) (hh : h.length = n) (hd : h.all digB = true) : ∀ (Ts : List (List UInt8 × List (List UInt8))) (out R : List (List UInt8)), gdS Ts → (∀ t ∈ Ts, t.1.length = n) → exE splT lim out Ts = some R → ((∃ x ∈ R, wiB h x = true) ↔ (∃ x ∈ out, wiB h x = true) ∨ Dn h Ts = true)
  | [], out, R, _, _, e => by
    injection e with e
    subst e
    simp [Dn]
  | t :: r, out, R, gt, hw, e => by
    unfold exE at e
    split at e
    · obtain ⟨t1, t3⟩ := gt t List.mem_cons_self
      have hw1 := hw t List.mem_cons_self
      rw [hw1] at t3
      rw [exE_wi hn hh hd r _ R (fun x hx => gt x (List.mem_cons_of_mem _ hx)) (fun x hx => hw x (List.mem_cons_of_mem _ hx)) e]
      have h1 := exT_wi hn hh hd t.2 [t.1] (fun y hy => by rw [List.mem_singleton] at hy; subst hy; exact ⟨t1, hw1⟩) t3
      have h2 : Dn h (t :: r) = (tdB t.1 t.2 h || Dn h r) := rfl
      rw [h2, Bool.or_eq_true, td_iff]
      constructor
      · rintro (⟨x, hx, e⟩ | e)
        · rcases List.mem_append.1 hx with hx | hx
          · exact .inl ⟨x, hx, e⟩
          · obtain ⟨⟨c, hc, e1⟩, e2⟩ := h1.1 ⟨x, hx, e⟩
            obtain rfl := List.mem_singleton.1 hc
            exact .inr (.inl ⟨e1, e2⟩)
        · exact .inr (.inr e)
      · rintro (⟨x, hx, e⟩ | e | e)
        · exact .inl ⟨x, List.mem_append_left _ hx, e⟩
        · obtain ⟨x, hx, e3⟩ := h1.2 ⟨⟨t.1, List.mem_singleton.2 rfl, e.1⟩, e.2⟩
          exact .inl ⟨x, List.mem_append_right _ hx, e3⟩
        · exact .inr e
    · cases e
/-- the plain cubes have just the headers of the space -/
theorem xpL_wi {n : Nat} {b lim : Int} {h : List UInt8} {Ts : List (List UInt8 × List (List UInt8))} (hn : 1 ≤ n) (hh : h.length = n) (hd : h.all digB = true) (g : gdS Ts) (hw : ∀ t ∈ Ts, t.1.length = n) (h0 : xpE b lim Ts = 0) : (∃ x ∈ xpL b lim Ts, wiB h x = true) ↔ Dn h Ts = true := by
  unfold xpE at h0
  split at h0
  · cases h0
  · rename_i hb
    split at h0
    · cases h0
    · rename_i hl
      unfold xpL
      rw [if_neg hb, if_neg hl]
      cases hx : exE splT lim.toNat [] Ts with
      | none =>
        rw [if_pos hx] at h0
        cases h0
      | some R =>
        show (∃ x ∈ R, wiB h x = true) ↔ _
        rw [exE_wi hn hh hd Ts [] R g hw hx]
        simp
theorem not_less : ∀ (a b : List UInt8), (∀ k (k1 : k < a.length) (k2 : k < b.length), b[k] ≤ a[k]) → a.length = b.length → Op.bytesLess a b = false
  | [], [], _, _ => rfl
  | [], _ :: _, _, e => by simp at e
  | _ :: _, [], _, _ => rfl
  | x :: a, y :: b, h, e => by
    have h0 : y ≤ x := h 0 (by simp) (by simp)
    have h1 := not_less a b (fun k k1 k2 => h (k + 1) (by simp; omega) (by simp; omega)) (by simpa using e)
    show (decide (x < y) || (x == y && Op.bytesLess a b)) = false
    rw [h1, decide_eq_false (UInt8.not_lt.2 h0)]
    simp
theorem leB_not {x y : List UInt8} (h : leB x y = true) : Op.bytesLess y x = false := by
  rw [bl_cmp]
  unfold leB at h
  rw [decide_eq_true_eq] at h
  rw [decide_eq_false_iff_not]
  rcases cmpB_three x y with ⟨h1, h2⟩ | ⟨h1, h2⟩ | ⟨h1, h2⟩ <;> omega
theorem ls_le {c h : List UInt8} (hd : h.all digB = true) (hw : wiB h c = true) : leB (lsT c) h = true := by
  refine leB_of_not ?_
  rw [Bool.not_eq_true]
  have hl := fitB_len (wiB_fit hw)
  refine not_less _ _ (fun k k1 k2 => ?_) (by rw [lsT_len]; exact hl)
  rw [lsT_len] at k2
  have h1 := wiB_get hw k k1 k2
  have h2 := dig_at hd k k1
  have e : (lsT c)[k]'(by rw [lsT_len]; exact k2) = if c[k] = 120 then 48 else c[k] := by simp [lsT]
  rw [e]
  split
  · rcases h2 with h2 | h2 <;> rw [h2] <;> decide
  · rename_i hx
    rw [h1.resolve_left hx]
    exact UInt8.le_refl _
theorem ls_wi {c : List UInt8} (hn : c ≠ []) : wiB (lsT c) c = true := by
  refine wi_mk (fit_mk (lsT_len c) (lsT_ne hn)) (fun k k1 k2 => ?_)
  have e : (lsT c)[k] = if c[k] = 120 then 48 else c[k] := by simp [lsT]
  rw [e]
  split
  · exact .inl (by assumption)
  · exact .inr rfl
theorem ls_dig {c : List UInt8} (gc : good c = true) : (lsT c).all digB = true := by
  rw [List.all_eq_true]
  intro x hx
  obtain ⟨k, hk, rfl⟩ := List.getElem_of_mem hx
  rw [lsT_len] at hk
  have e : (lsT c)[k]'(by rw [lsT_len]; exact hk) = if c[k] = 120 then 48 else c[k] := by simp [lsT]
  rw [e]
  rcases tri_of c k hk (good_tri gc k hk) with h | h | h <;> rw [h] <;> decide
/-- the least header of cubes is one cube's, and no cube's lies below it -/
theorem mnL_min : ∀ (l : List (List UInt8)) (a : List UInt8), (∀ x ∈ l, x ≠ []) → (a = [] → l ≠ []) → ((l.foldl (fun a x => mnS a (lsT x)) a = a ∧ a ≠ []) ∨ ∃ c ∈ l, l.foldl (fun a x => mnS a (lsT x)) a = lsT c) ∧ (a ≠ [] → leB (l.foldl (fun a x => mnS a (lsT x)) a) a = true) ∧ ∀ c ∈ l, leB (l.foldl (fun a x => mnS a (lsT x)) a) (lsT c) = true
  | [], a, _, h => ⟨.inl ⟨rfl, fun e => h e rfl⟩, (fun _ => leB_of_not (by rw [Bool.not_eq_true]; exact not_less a a (fun _ _ _ => UInt8.le_refl _) rfl)), (fun c hc => by cases hc)⟩
  | y :: r, a, hl, _ => by
    have hy := hl y List.mem_cons_self
    have hne : mnS a (lsT y) ≠ [] := mnS_ne (lsT_ne hy)
    obtain ⟨h1, h2, h3⟩ := mnL_min r (mnS a (lsT y)) (fun x hx => hl x (List.mem_cons_of_mem _ hx)) (fun e => absurd e hne)
    have h4 := h2 hne
    have hm : (a = [] ∧ mnS a (lsT y) = lsT y) ∨ (a ≠ [] ∧ ((mnS a (lsT y) = lsT y ∧ leB (lsT y) a = true) ∨ (mnS a (lsT y) = a ∧ leB a (lsT y) = true))) := by
      unfold mnS ltS
      by_cases ha : a = []
      · exact .inl ⟨ha, by rw [if_pos ha]⟩
      · rw [if_neg ha]
        refine .inr ⟨ha, ?_⟩
        by_cases hb : Op.bytesLess (lsT y) a = true
        · rw [if_pos hb]
          exact .inl ⟨rfl, leB_of_less hb⟩
        · rw [if_neg hb]
          exact .inr ⟨rfl, leB_of_not hb⟩
    have hle : leB (mnS a (lsT y)) (lsT y) = true := by
      have hr : leB (lsT y) (lsT y) = true := leB_of_not (by rw [Bool.not_eq_true]; exact not_less _ _ (fun _ _ _ => UInt8.le_refl _) rfl)
      rcases hm with ⟨-, e⟩ | ⟨-, ⟨e, -⟩ | ⟨e, e2⟩⟩
      · rw [e]; exact hr
      · rw [e]; exact hr
      · rw [e]; exact e2
    show ((r.foldl (fun a x => mnS a (lsT x)) (mnS a (lsT y)) = a ∧ a ≠ []) ∨ ∃ c ∈ y :: r, r.foldl (fun a x => mnS a (lsT x)) (mnS a (lsT y)) = lsT c) ∧ (a ≠ [] → leB (r.foldl (fun a x => mnS a (lsT x)) (mnS a (lsT y))) a = true) ∧ ∀ c ∈ y :: r, leB (r.foldl (fun a x => mnS a (lsT x)) (mnS a (lsT y))) (lsT c) = true
    refine ⟨?_, fun ha => ?_, fun c hc => ?_⟩
    · rcases h1 with ⟨e, -⟩ | ⟨c, hc, e⟩
      · rcases hm with ⟨-, e1⟩ | ⟨ha, ⟨e1, -⟩ | ⟨e1, -⟩⟩
        · exact .inr ⟨y, List.mem_cons_self, e.trans e1⟩
        · exact .inr ⟨y, List.mem_cons_self, e.trans e1⟩
        · exact .inl ⟨e.trans e1, ha⟩
      · exact .inr ⟨c, List.mem_cons_of_mem _ hc, e⟩
    · rcases hm with ⟨e, -⟩ | ⟨-, ⟨e1, e2⟩ | ⟨e1, -⟩⟩
      · exact absurd e ha
      · rw [e1] at h4 ⊢
        exact leB_trans _ _ _ h4 e2
      · rw [e1] at h4 ⊢
        exact h4
    · rcases List.mem_cons.1 hc with rfl | hc
      · exact leB_trans _ _ _ h4 hle
      · exact h3 c hc
/-- P2.10, P2.11 -/
theorem spread_least {n : Nat} {b lim : Int} {Ts : List (List UInt8 × List (List UInt8))} (hn : 1 ≤ n) (g : gdS Ts) (hw : ∀ t ∈ Ts, t.1.length = n) (h0 : xpE b lim Ts = 0) (hg : ∀ x ∈ xpL b lim Ts, good x = true ∧ x ≠ [] ∧ x.length = n) :
    (xpL b lim Ts ≠ [] → Dn (mnL (xpL b lim Ts)) Ts = true ∧ (mnL (xpL b lim Ts)).length = n) ∧ ∀ (h : List UInt8), h.length = n → h.all digB = true → (∃ x ∈ xpL b lim Ts, wiB h x = true) → Op.bytesLess h (mnL (xpL b lim Ts)) = false := by
  constructor
  · intro hne
    obtain ⟨h1, -⟩ := mnL_min (xpL b lim Ts) [] (fun x hx => (hg x hx).2.1) (fun _ => hne)
    rcases h1 with ⟨-, e⟩ | ⟨c, hc, e⟩
    · exact absurd rfl e
    · have e2 : mnL (xpL b lim Ts) = lsT c := e
      obtain ⟨g1, g2, g3⟩ := hg c hc
      rw [e2, lsT_len]
      exact ⟨(xpL_wi hn (by rw [lsT_len]; exact g3) (ls_dig g1) g hw h0).1 ⟨c, hc, ls_wi g2⟩, g3⟩
  · rintro h - hd ⟨x, hx, e⟩
    obtain ⟨-, -, h3⟩ := mnL_min (xpL b lim Ts) [] (fun x hx => (hg x hx).2.1) (fun _ e2 => by rw [e2] at hx; cases hx)
    exact leB_not (leB_trans _ _ _ (h3 x hx) (ls_le hd e))
end Go.Proofs.YtfhghplplkkpmaaGreatDoor
namespace Go.Proofs.YtfhghplplkkpmaaGreatDoor
open Go.RowKit Go.Shelf
theorem stl_sub {X : List (List UInt8 × List (List UInt8))} {t : List UInt8 × List (List UInt8)} (h : t ∈ stl X) : ∃ u ∈ X, t.1 = u.1 := by
  obtain ⟨u, hu, he⟩ := List.mem_filterMap.1 h
  cases hs : setO u.1 u.2 with
  | none => rw [hs] at he; cases he
  | some R =>
    rw [hs] at he
    obtain rfl := Option.some.inj he
    exact ⟨u, hu, rfl⟩
theorem form_sub {X : List (List UInt8 × List (List UInt8))} {t : List UInt8 × List (List UInt8)} (h : t ∈ ordT (topC (stl X))) : ∃ u ∈ X, t.1 = u.1 := by
  obtain ⟨y, hy, rfl⟩ := (sof_mD _ t).1 h
  have h2 : y ∈ stl X := topC_sub hy
  obtain ⟨u, hu, e⟩ := stl_sub h2
  exact ⟨u, hu, e⟩
theorem tk_wide {n : Nat} {X : List (List UInt8 × List (List UInt8))} {c : List UInt8} {L : List (List UInt8)} (gX : gdC X) (gL : ∀ m ∈ L, good m = true) (hX : ∀ x ∈ X, x.1.length = n) : ∀ t ∈ tkT X c L, t.1.length = n := fun t ht => by
  unfold tkT at ht
  split at ht
  · obtain ⟨u, hu, e⟩ := form_sub ht
    rw [e]
    unfold wtN at hu
    obtain ⟨x, hx, hu⟩ := List.mem_flatMap.1 hu
    rcases List.mem_cons.1 hu with rfl | hu
    · exact hX x hx
    · obtain ⟨m, hm, he⟩ := List.mem_filterMap.1 hu
      split at he
      · rename_i hq
        obtain rfl := Option.some.inj he
        exact (fitB_len (wi_pos (mt_first (gX x hx).1 (gL m hm) hq)).1).trans (hX x hx)
      · cases he
  · cases ht
theorem tkA_wide {n : Nat} : ∀ (C A R : List (List UInt8 × List (List UInt8))), gdC A → gdC C → (∀ x ∈ A, x.1.length = n) → tkA A C = some R → ∀ t ∈ R, t.1.length = n
  | [], A, R, _, _, hA, e => by
    obtain rfl : A = R := Option.some.inj e
    exact hA
  | u :: r, A, R, gA, gC, hA, e => by
    unfold tkA at e
    split at e
    · have hu := gC u List.mem_cons_self
      exact tkA_wide r _ R (tk_ok (c := u.1) (L := u.2) gA hu.1 hu.2).1 (fun t ht => gC t (List.mem_cons_of_mem _ ht)) (tk_wide gA hu.2 hA) e
    · cases e
theorem exE_okI {lim : Nat} : ∀ (Ts : List (List UInt8 × List (List UInt8))) (out R : List (List UInt8)), gdS Ts → (∀ x ∈ out, good x = true) → out.length ≤ lim → exE splT lim out Ts = some R → (∀ x ∈ R, good x = true) ∧ R.length ≤ lim
  | [], out, R, _, g, h, e => by
    injection e with e
    subst e
    exact ⟨g, h⟩
  | t :: r, out, R, gt, g, h, e => by
    unfold exE at e
    split at e
    · rename_i ho
      obtain ⟨t1, t3⟩ := gt t List.mem_cons_self
      refine exE_okI r _ R (fun x hx => gt x (List.mem_cons_of_mem _ hx)) (fun x hx => ?_) ?_ e
      · rcases List.mem_append.1 hx with hx | hx
        · exact g x hx
        · exact (gdW_exT t.2 [t.1] (fun y hy => by rw [List.mem_singleton] at hy; subst hy; exact ⟨t1, rfl⟩) t3 x hx).1
      · rw [List.length_append]
        exact exO_len splT ho
    · cases e
theorem xpL_okI {b lim : Int} {Ts : List (List UInt8 × List (List UInt8))} (h : gdS Ts) : (∀ x ∈ xpL b lim Ts, good x = true) ∧ (xpL b lim Ts).length ≤ 2048 := by
  unfold xpL
  split
  · exact ⟨(fun x hx => by cases hx), Nat.zero_le _⟩
  · split
    · exact ⟨(fun x hx => by cases hx), Nat.zero_le _⟩
    · rename_i h2
      cases hx : exE splT lim.toNat [] Ts with
      | none => exact ⟨(fun x hx => by cases hx), Nat.zero_le _⟩
      | some R =>
        obtain ⟨h3, h4⟩ := exE_okI Ts [] R h (fun x hx => by cases hx) (Nat.zero_le _) hx
        exact ⟨h3, by show R.length ≤ 2048; omega⟩
/-- what Expand's list has of a space of one width -/
theorem exE_wideI {nb lim : Nat} : ∀ (Ts : List (List UInt8 × List (List UInt8))) (out R : List (List UInt8)), gdS Ts → (∀ t ∈ Ts, t.1.length = nb) → (∀ x ∈ out, x.length = nb) → exE splT lim out Ts = some R → ∀ x ∈ R, x.length = nb
  | [], out, R, _, _, g, e => by
    injection e with e
    subst e
    exact g
  | t :: r, out, R, gt, hw, g, e => by
    unfold exE at e
    split at e
    · obtain ⟨t1, t3⟩ := gt t List.mem_cons_self
      refine exE_wideI r _ R (fun x hx => gt x (List.mem_cons_of_mem _ hx)) (fun x hx => hw x (List.mem_cons_of_mem _ hx)) (fun x hx => ?_) e
      rcases List.mem_append.1 hx with hx | hx
      · exact g x hx
      · exact ((gdW_exT t.2 [t.1] (fun y hy => by rw [List.mem_singleton] at hy; subst hy; exact ⟨t1, rfl⟩) t3 x hx).2).trans (hw t List.mem_cons_self)
    · cases e
theorem xpL_wideI {nb : Nat} {b lim : Int} {Ts : List (List UInt8 × List (List UInt8))} (h : gdS Ts) (hw : ∀ t ∈ Ts, t.1.length = nb) : ∀ x ∈ xpL b lim Ts, x.length = nb := by
  unfold xpL
  split
  · exact fun x hx => by cases hx
  · split
    · exact fun x hx => by cases hx
    · cases hx : exE splT lim.toNat [] Ts with
      | none => exact fun x hx => by cases hx
      | some R => exact exE_wideI Ts [] R h hw (fun x hx => by cases hx) hx
theorem xpE_two {b lim : Int} (hb : ¬ b = 0) (hl : ¬ (lim < 0 ∨ 2048 < lim)) (Ts : List (List UInt8 × List (List UInt8))) : xpE b lim Ts = 0 ∨ xpE b lim Ts = 3 := by
  unfold xpE
  rw [if_neg hb, if_neg hl]
  split
  · exact .inr rfl
  · exact .inl rfl
/-- what Within says of spaces of one width -/
theorem wn_ok {n : Nat} {b lim : Int} {A C : List (List UInt8 × List (List UInt8))} (hbn : b = (n : Int)) (hn : 1 ≤ n) (hlim : ¬ (lim < 0 ∨ 2048 < lim)) (hA : FA A) (gC : gdC C) (wA : ∀ x ∈ A, x.1.length = n) :
    (wnE b b lim A C = 0 ∨ wnE b b lim A C = 3) ∧ (¬ wnE b b lim A C = 0 → wnB b b lim A C = false) ∧ (wnE b b lim A C = 0 → (wnB b b lim A C = true ↔ ∀ h, h.length = n → h.all digB = true → Dn h A = true → Dn h C = true)) := by
  have hb0 : ¬ b = 0 := by omega
  have hf : ¬ (!(b == 0) && (b == b)) = false := by
    have : (b == 0) = false := by rw [beq_eq_false_iff_ne]; exact hb0
    rw [this]
    simp
  have gA := FA_gdC hA
  unfold wnE wnB
  rw [if_neg hf, if_neg hlim, if_neg hf, if_neg hlim]
  cases ht : tkA A C with
  | none =>
    have e1 : mzE b b A C = 3 := by unfold mzE; rw [if_neg hf, ht]; rfl
    rw [e1]
    exact ⟨.inr rfl, (fun _ => rfl), (fun h => by cases h)⟩
  | some R =>
    have e1 : mzE b b A C = 0 := by unfold mzE; rw [if_neg hf, ht]; rfl
    have e2 : mzB b b A C = b := by unfold mzB; rw [if_pos e1]
    have e3 : mzT b b A C = R := by unfold mzT; rw [if_pos e1, ht]; rfl
    rw [e1, e2, e3]
    simp only [if_true]
    have gR : gdS R := gdS_ft (tkA_ft C A R gA gC (fun t ht => (hA t ht).1) ht)
    have wR := tkA_wide C A R gA gC wA ht
    have hD := fun h => Dn_tk h C A R gA gC (fun x hx => (hA x hx).2) ht
    refine ⟨xpE_two hb0 hlim R, fun h => ?_, fun h0 => ?_⟩
    · have : (xpE b lim R == 0) = false := by rw [beq_eq_false_iff_ne]; exact h
      rw [this]
      rfl
    · rw [h0]
      have hx := fun h (h1 : h.length = n) h2 => xpL_wi (h := h) hn h1 h2 gR wR h0
      have hw := xpL_wideI (b := b) (lim := lim) gR wR
      constructor
      · intro h h1 h2 h3 h4
        have hL : xpL b lim R = [] := by
          simp at h
          exact h
        have h5 := hx h1 h2 h3
        rw [hL, hD] at h5
        cases hc : Dn h1 C with
        | true => rfl
        | false =>
          rw [h4, hc] at h5
          obtain ⟨x, hx, -⟩ := h5.2 rfl
          cases hx
      · intro hin
        cases hL : xpL b lim R with
        | nil => rfl
        | cons x l =>
          have hm : x ∈ xpL b lim R := by rw [hL]; exact List.mem_cons_self
          have hg := (xpL_okI gR).1 x hm
          have hlx := hw x hm
          have hxn : x ≠ [] := fun e => by rw [e] at hlx; simp at hlx; omega
          have h5 := (hx (lsT x) (by rw [lsT_len]; exact hlx) (ls_dig hg)).1 ⟨x, hm, ls_wi hxn⟩
          rw [hD, Bool.and_eq_true] at h5
          have h6 := hin (lsT x) (by rw [lsT_len]; exact hlx) (ls_dig hg) h5.1
          rw [h6] at h5
          exact absurd h5.2 (by simp)
/-- all headers of a width -/
def allX (n : Nat) : List UInt8 := List.replicate n 120
theorem wi_allX {n : Nat} {c : List UInt8} (hl : c.length = n) (hn : 1 ≤ n) : wiB c (allX n) = true := by
  refine wi_mk (fit_mk (by simp [allX, hl]) (fun e => by rw [e] at hl; simp at hl; omega)) (fun k k1 k2 => .inl ?_)
  simp [allX]
theorem good_allX {n : Nat} (h : n ≤ 256) : good (allX n) = true := by
  simp only [good, allX, Bool.and_eq_true, decide_eq_true_eq, List.all_eq_true, List.length_replicate]
  refine ⟨by omega, fun y hy => ?_⟩
  rw [List.eq_of_mem_replicate hy]
  decide
theorem set_all {n : Nat} {c : List UInt8} {L : List (List UInt8)} (gc : good c = true) (hl : c.length = n) (hn : 1 ≤ n) : setO c (L ++ [allX n]) = none := by
  have hc : c ≠ [] := fun e => by rw [e] at hl; simp at hl; omega
  have g2 : good (allX n) = true := good_allX (by have := good_len gc; omega)
  obtain ⟨h1, h2⟩ := wi_glb g2 gc (wi_allX hl hn) (wi_rf hc)
  have h3 := wi_anti2 h2 (mt_second g2 gc h1)
  unfold setO
  rw [if_pos]
  refine List.any_eq_true.2 ⟨c, ?_, by simp⟩
  exact List.mem_filterMap.2 ⟨allX n, by simp, by rw [if_pos h1, ← h3]⟩
/-- every space is within all headers -/
theorem wn_all {n : Nat} {b : Int} {A : List (List UInt8 × List (List UInt8))} (hbn : b = (n : Int)) (hn : 1 ≤ n) (hA : FA A) (wA : ∀ x ∈ A, x.1.length = n) (sA : szC A ≤ 128) : wnE b b 0 A [(allX n, [])] = 0 ∧ wnB b b 0 A [(allX n, [])] = true := by
  have hb0 : ¬ b = 0 := by omega
  have hf : ¬ (!(b == 0) && (b == b)) = false := by
    have : (b == 0) = false := by rw [beq_eq_false_iff_ne]; exact hb0
    rw [this]
    simp
  have hw : stl (wtN A (allX n) []) = [] := by
    refine List.filterMap_eq_nil_iff.2 (fun t ht => ?_)
    unfold wtN at ht
    obtain ⟨x, hx, ht⟩ := List.mem_flatMap.1 ht
    rcases List.mem_cons.1 ht with rfl | ht
    · show (setO x.1 (x.2 ++ [allX n])).map _ = none
      rw [set_all (hA x hx).1.gc (wA x hx) hn]
      rfl
    · cases ht
  have h0 : ordT ([] : List (List UInt8 × List (List UInt8))) = [] := (ordT_perm []).eq_nil
  have hk : tkE A (allX n) [] = 0 := by
    unfold tkE
    have := szC_len A
    rw [hw, if_neg (by simp; omega)]
    rfl
  have ht : tkA A [(allX n, [])] = some [] := by
    unfold tkA tkT
    rw [if_pos hk, if_pos hk, hw]
    show tkA (ordT []) [] = some []
    rw [h0]
    rfl
  have e1 : mzE b b A [(allX n, [])] = 0 := by unfold mzE; rw [if_neg hf, ht]; rfl
  have e2 : mzB b b A [(allX n, [])] = b := by unfold mzB; rw [if_pos e1]
  have e3 : mzT b b A [(allX n, [])] = [] := by unfold mzT; rw [if_pos e1, ht]; rfl
  have e4 : xpE b 0 [] = 0 := by unfold xpE; rw [if_neg hb0]; rfl
  have e5 : xpL b 0 [] = [] := by unfold xpL; rw [if_neg hb0]; rfl
  unfold wnE wnB
  rw [if_neg hf, if_neg hf, e1, e2, e3, e4, e5]
  exact ⟨rfl, rfl⟩
/-- what both have in common -/
theorem mn_ok {n : Nat} {b : Int} {A C : List (List UInt8 × List (List UInt8))} (hbn : b = (n : Int)) (hn : 1 ≤ n) (hA : FA A) (hC : FA C) (wA : ∀ x ∈ A, x.1.length = n) :
    (mnE b b A C = 0 ∨ mnE b b A C = 3) ∧ (mnE b b A C = 0 → mnB b b A C = b ∧ FO (mnT b b A C) ∧ szC (mnT b b A C) ≤ 128 ∧ (∀ t ∈ mnT b b A C, t.1.length = n) ∧ ∀ h, Dn h (mnT b b A C) = (Dn h A && Dn h C)) := by
  have hf : ¬ (!(b == 0) && (b == b)) = false := by
    have : (b == 0) = false := by rw [beq_eq_false_iff_ne]; omega
    rw [this]
    simp
  have gA := FA_gdC hA
  have gC := FA_gdC hC
  refine ⟨?_, fun e => ?_⟩
  · unfold mnE
    rw [if_neg hf]
    split
    · exact .inr rfl
    · split
      · exact .inl rfl
      · exact .inr rfl
  · have eT : mnT b b A C = mnF A C := by unfold mnT; rw [if_pos e]; rfl
    have h2 : szC (topC (stl (cmN A C))) ≤ 128 := by
      unfold mnE at e
      rw [if_neg hf] at e
      split at e
      · cases e
      · split at e
        · assumption
        · cases e
    rw [eT]
    refine ⟨by unfold mnB; rw [if_pos e], mnF_fo hA hC, by unfold mnF; rw [szC_ord]; exact h2, fun t ht => ?_, fun h => ?_⟩
    · unfold mnF at ht
      obtain ⟨u, hu, e2⟩ := form_sub ht
      rw [e2]
      unfold cmN at hu
      obtain ⟨a, ha, hu⟩ := List.mem_flatMap.1 hu
      obtain ⟨c, hc, he⟩ := List.mem_filterMap.1 hu
      split at he
      · rename_i hq
        obtain rfl := Option.some.inj he
        exact (fitB_len (wi_pos (mt_first (gA a ha).1 (gC c hc).1 hq)).1).trans (wA a ha)
      · cases he
    · unfold mnF
      rw [Dn_form (gdC_cm gA gC) cm_ne, Dn_cm gA gC]
end Go.Proofs.YtfhghplplkkpmaaGreatDoor

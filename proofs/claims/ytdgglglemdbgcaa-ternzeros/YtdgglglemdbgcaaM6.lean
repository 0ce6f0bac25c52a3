import Derived.Test.YtdgglglemdbgcaaM4
import Derived.Test.YtdgglglemdbgcaaW16
namespace Go.Proofs.Ytdgglglemdbgcaa

/-- h has d's digits at the open places below p -/
def eqTo (a b h : List UInt8) (p : Nat) : Bool := allTo (fun k => !qual a b k || (b[k]? == h[k]?)) p

theorem oth_eq {d x : UInt8} (hd : d = 48 ∨ d = 49) (hx : x = 48 ∨ x = 49) : (oth d == x) = !(d == x) := by
  rcases hd with rfl | rfl <;> rcases hx with rfl | rfl <;> decide

theorem pc_get (a b : List UInt8) (hl : a.length = b.length) (p : Nat) (h : qual a b p = true) (k : Nat) (hk : k < a.length) :
    (pcT a b p)[k]? = some (if k = p then oth (b[k]'(by omega)) else if k < p then (if a[k] == 120 then b[k]'(by omega) else a[k]) else a[k]) := by
  have hp := qual_lt a b hl p h
  unfold pcT
  by_cases e : k = p
  · subst e
    rw [List.getElem?_set_self (by rw [rs_len a b hl]; exact hk)]
    have : b.getD k 0 = b[k]'(by omega) := by simp [List.getD, List.getElem?_eq_getElem (show k < b.length by omega)]
    rw [this]; simp
  · rw [List.getElem?_set_ne (by omega), rs_get a b hl p k hk]
    simp [e]
theorem pc_len (a b : List UInt8) (hl : a.length = b.length) (p : Nat) : (pcT a b p).length = a.length := by unfold pcT; simp; exact rs_len a b hl p

theorem piece_has (a b h : List UInt8) (hn : a ≠ []) (hl : a.length = b.length) (hl2 : a.length = h.length) (gb : good b = true) (hd : h.all dig = true) (p : Nat) (hq : qual a b p = true) :
    hasB (pcT a b p) h = (hoB a h && (eqTo a b h p && !(b[p]? == h[p]?))) := by
  have hp := qual_lt a b hl p hq
  have hpl := pc_len a b hl p
  have hne : pcT a b p ≠ [] := by
    intro e; rw [e] at hpl; exact hn (List.eq_nil_of_length_eq_zero hpl.symm)
  rw [has_ho _ _ hne (by omega) hd]
  unfold hoB eqTo
  rw [hpl, Bool.eq_iff_iff, Bool.and_eq_true, Bool.and_eq_true, allTo_iff, allTo_iff, allTo_iff]
  have ka : ∀ k, k < a.length → (okX (pcT a b p) h k = true ↔ (okX a h k = true ∧ (k < p → (!qual a b k || (b[k]? == h[k]?)) = true) ∧ (k = p → (!(b[k]? == h[k]?)) = true))) := by
    intro k hk
    have kb : k < b.length := by omega
    have kh : k < h.length := by omega
    have dk := dig_at hd k kh
    have tb := good_tri gb k kb
    simp only [okX, pc_get a b hl p hq k hk, qual_bytes a b hl k hk, List.getElem?_eq_getElem hk, List.getElem?_eq_getElem kb, List.getElem?_eq_getElem kh]
    by_cases e : k = p
    · subst e
      have h1 := qual_bytes a b hl k hk
      rw [hq] at h1
      simp at h1
      have tb2 : b[k] = 48 ∨ b[k] = 49 := by
        rcases tri_of b k kb tb with h | h | h
        · exact .inl h
        · exact .inr h
        · exact absurd h h1.1
      have ho := oth_eq tb2 dk
      have ho120 : (oth b[k] == 120) = false := by rcases tb2 with h | h <;> rw [h] <;> decide
      rw [if_pos rfl, ho, ho120, h1.2]
      simp
    · rw [if_neg e]
      by_cases h2 : k < p
      · rw [if_pos h2]
        have e1 : ¬ (k = p) := e
        generalize a[k] = x at *
        generalize b[k] = y at *
        generalize h[k] = z at *
        have z120 : ¬ (120 : UInt8) = z := by rcases dk with h | h <;> rw [h] <;> decide
        by_cases ex : x = 120
        · subst ex
          by_cases ey : y = 120
          · subst ey; simp [e1]
          · simp [e1, ey, h2]
        · simp [ex, e1, h2]
      · rw [if_neg h2]
        simp [e, h2]
  constructor
  · intro hh
    refine ⟨fun k hk => ((ka k hk).1 (hh k hk)).1, fun k hk => ((ka k (by omega)).1 (hh k (by omega))).2.1 hk, ((ka p hp).1 (hh p hp)).2.2 rfl⟩
  · rintro ⟨h1, h2, h3⟩ k hk
    exact (ka k hk).2 ⟨h1 k hk, fun hkp => h2 k hkp, fun e => by rw [e]; exact h3⟩

/-- how many cubes of a list have the header -/
def cnt (h : List UInt8) (l : List (List UInt8)) : Nat := l.countP (fun t => hasB t h)

theorem cnt_pcs (a b h : List UInt8) (hn : a ≠ []) (hl : a.length = b.length) (hl2 : a.length = h.length) (gb : good b = true) (hd : h.all dig = true) (p : Nat) :
    cnt h (pcs a b p) = if (hoB a h && !eqTo a b h p) = true then 1 else 0 := by
  induction p with
  | zero => simp [cnt, pcs, eqTo, allTo]
  | succ p ih =>
    have he : eqTo a b h (p + 1) = (eqTo a b h p && (!qual a b p || (b[p]? == h[p]?))) := rfl
    cases hq : qual a b p
    · have hs : ∀ k, p ≤ k → k < p + 1 → qual a b k = false := by
        intro k h1 h2
        have e : k = p := by omega
        subst e
        exact hq
      have : pcs a b (p + 1) = pcs a b p := pcs_skip a b p (p + 1) (by omega) hs
      rw [this, ih, he, hq]
      simp
    · rw [pcs_succ a b p hq]
      unfold cnt at ih ⊢
      rw [List.countP_append, ih, he, hq]
      simp only [List.countP_cons, List.countP_nil, piece_has a b h hn hl hl2 gb hd p hq]
      cases hoB a h <;> cases eqTo a b h p <;> cases (b[p]? == h[p]?) <;> rfl

theorem ho_agree (a b h : List UInt8) (hl : a.length = b.length) (hl2 : a.length = h.length) (ga : good a = true) (gb : good b = true) (hag : agB a b = true) (ho : hoB a h = true) : hoB b h = eqTo a b h a.length := by
  unfold hoB eqTo
  rw [← hl]
  apply allTo_congr
  intro k hk
  have kb : k < b.length := by omega
  have kh : k < h.length := by omega
  unfold hoB at ho
  rw [allTo_iff] at ho
  have h1 := ho k hk
  have hc := agB_cfl hag k
  rw [cfl_bytes a b k hk kb (good_tri ga k hk) (good_tri gb k kb)] at hc
  simp only [okX, qual_bytes a b hl k hk, List.getElem?_eq_getElem hk, List.getElem?_eq_getElem kb, List.getElem?_eq_getElem kh] at h1 ⊢
  generalize a[k] = x at *
  generalize b[k] = y at *
  generalize h[k] = z at *
  by_cases ex : x = 120
  · subst ex
    by_cases ey : y = 120 <;> simp [ey]
  · have ex' : (x == 120) = false := by simpa using ex
    rw [ex'] at h1 hc
    simp at h1 hc
    subst h1
    by_cases ey : y = 120
    · simp [ey]
    · have := hc ey
      subst this
      simp

theorem ho_clash (a b h : List UInt8) (hl : a.length = b.length) (hl2 : a.length = h.length) (ga : good a = true) (gb : good b = true) (hf : fitB a b = true) (hag : agB a b = false) (ho : hoB a h = true) : hoB b h = false := by
  cases hb : hoB b h
  · rfl
  · exfalso
    have : agB a b = true := by
      apply agB_all a b hf
      intro k hk
      have kb : k < b.length := by omega
      have kh : k < h.length := by omega
      unfold hoB at ho hb
      rw [allTo_iff] at ho hb
      have h1 := ho k hk
      have h2 := hb k kb
      rw [cfl_bytes a b k hk kb (good_tri ga k hk) (good_tri gb k kb)]
      simp only [okX, List.getElem?_eq_getElem hk, List.getElem?_eq_getElem kb, List.getElem?_eq_getElem kh] at h1 h2
      generalize a[k] = x at *
      generalize b[k] = y at *
      generalize h[k] = z at *
      simp at h1 h2
      rcases h1 with rfl | rfl
      · simp
      · rcases h2 with rfl | rfl <;> simp
    rw [hag] at this
    cases this

/-- P1.7 by the headers -/
theorem parts_cnt (a b h : List UInt8) (hn : a ≠ []) (hl : a.length = b.length) (hl2 : a.length = h.length) (ga : good a = true) (gb : good b = true) (hd : h.all dig = true) (hf : fitB a b = true) :
    cnt h (splT a b) = if (hoB a h && !hoB b h) = true then 1 else 0 := by
  unfold splT
  cases hag : agB a b
  · simp only [Bool.false_eq_true, if_false]
    unfold cnt
    rw [List.countP_cons, List.countP_nil, has_ho a h hn hl2 hd]
    cases ho : hoB a h
    · rfl
    · rw [ho_clash a b h hl hl2 ga gb hf hag ho]; rfl
  · rw [if_pos rfl, cnt_pcs a b h hn hl hl2 gb hd]
    cases ho : hoB a h
    · rfl
    · rw [ho_agree a b h hl hl2 ga gb hag ho]
end Go.Proofs.Ytdgglglemdbgcaa

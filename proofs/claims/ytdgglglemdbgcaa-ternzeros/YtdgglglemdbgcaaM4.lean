import Derived.Test.YtdgglglemdbgcaaW14
import Derived.Test.YtdgglglemdbgcaaM3
namespace Go.Proofs.Ytdgglglemdbgcaa

def dig (b : UInt8) : Bool := b == 48 || b == 49
/-- place k of a text of digits lies in the cube's -/
def okX (t h : List UInt8) (k : Nat) : Bool := match t[k]?, h[k]? with | some x, some d => x == 120 || x == d | _, _ => true
def hoB (t h : List UInt8) : Bool := allTo (okX t h) t.length

theorem dig_tri {b : UInt8} (h : dig b = true) : b = 48 ∨ b = 49 := by simpa [dig] using h
theorem dig_at {h : List UInt8} (hh : h.all dig = true) (k : Nat) (hk : k < h.length) : h[k] = 48 ∨ h[k] = 49 := by
  rw [List.all_eq_true] at hh
  exact dig_tri (hh _ (List.getElem_mem hk))

theorem has_ho (t h : List UInt8) (hn : t ≠ []) (hl : t.length = h.length) (hh : h.all dig = true) : hasB t h = hoB t h := by
  have e : (!t.isEmpty && (t.length == h.length)) = true := by
    cases t with
    | nil => exact absurd rfl hn
    | cons x l => simp; simpa using hl
  unfold hasB hoB
  rw [e, Bool.true_and]
  apply allTo_congr
  intro k hk
  have hkh : k < h.length := by omega
  simp only [okH, okX, List.getElem?_eq_getElem hk, List.getElem?_eq_getElem hkh]
  rcases dig_at hh k hkh with e | e <;> rw [e] <;> simp

theorem wr_len (h r : List UInt8) (hl : h.length = r.length) : (wrT h r).length = h.length := zip_len _ h r hl
theorem wr_get (h r : List UInt8) (hl : h.length = r.length) (k : Nat) (hk : k < h.length) : (wrT h r)[k]? = some (if r[k]'(by omega) == 120 then h[k] else r[k]'(by omega)) := zip_get _ h r hl k hk
theorem bf_get (h r : List UInt8) (hl : h.length = r.length) (k : Nat) (hk : k < h.length) : (bfT h r)[k]? = some (if r[k]'(by omega) == 120 then h[k] else 120) := zip_get _ h r hl k hk

theorem wr_dig (h r : List UInt8) (hl : h.length = r.length) (hh : h.all dig = true) (gr : good r = true) : (wrT h r).all dig = true := by
  rw [List.all_eq_true]
  intro x hx
  obtain ⟨k, hk, rfl⟩ := List.getElem_of_mem hx
  have hk1 : k < h.length := by simpa [wrT, hl] using hk
  have hk2 : k < r.length := by omega
  have hg := wr_get h r hl k hk1
  rw [List.getElem?_eq_getElem hk] at hg
  rw [Option.some.inj hg]
  have tr := good_tri gr k hk2
  rcases dig_at hh k hk1 with e | e <;> rw [e] <;> generalize r[k] = y at * <;> simp [tri] at tr <;> rcases tr with (rfl | rfl) | rfl <;> decide

/-- P1.9 by the headers -/
theorem im1 (t r h : List UInt8) (hn : t ≠ []) (hl : t.length = r.length) (hl2 : t.length = h.length) (gt : good t = true) (gr : good r = true) (hh : h.all dig = true) :
    (agB t r && hasB (beT t r) h) = hoB t (wrT h r) := by
  have hlr : h.length = r.length := by omega
  cases hag : agB t r
  · rw [Bool.false_and]
    have hf : fitB t r = true := by
      cases t with
      | nil => exact absurd rfl hn
      | cons x l => simp [fitB]; simpa using hl
    have hc : ∃ k, k < t.length ∧ cfl t r k = true := by
      by_cases hex : ∃ k, k < t.length ∧ cfl t r k = true
      · exact hex
      · exfalso
        have := agB_all t r hf (fun k hk => by
          cases e : cfl t r k
          · rfl
          · exact absurd ⟨k, hk, e⟩ hex)
        rw [hag] at this
        cases this
    obtain ⟨k, hk, hc⟩ := hc
    have kr : k < r.length := by omega
    have kh : k < h.length := by omega
    symm
    unfold hoB
    apply allTo_false k hk
    rw [cfl_bytes t r k hk kr (good_tri gt k hk) (good_tri gr k kr)] at hc
    simp only [okX, wr_get h r hlr k kh, List.getElem?_eq_getElem hk]
    generalize t[k] = x at *
    generalize r[k] = y at *
    simp at hc
    simp [hc]
  · rw [Bool.true_and]
    have hb : beT t r = bfT t r := by unfold beT; rw [if_pos hag]
    have hbl : (bfT t r).length = t.length := zip_len _ t r hl
    have hbn : bfT t r ≠ [] := by
      intro e
      rw [e] at hbl
      exact hn (List.eq_nil_of_length_eq_zero hbl.symm)
    rw [hb, has_ho _ _ hbn (by omega) hh]
    unfold hoB
    rw [hbl]
    apply allTo_congr
    intro k hk
    have kr : k < r.length := by omega
    have kh : k < h.length := by omega
    have hc := agB_cfl hag k
    rw [cfl_bytes t r k hk kr (good_tri gt k hk) (good_tri gr k kr)] at hc
    simp only [okX, bf_get t r hl k hk, wr_get h r hlr k kh, List.getElem?_eq_getElem hk, List.getElem?_eq_getElem kh]
    have dk := dig_at hh k kh
    generalize t[k] = x at *
    generalize r[k] = y at *
    generalize h[k] = d at *
    by_cases e : y = 120
    · subst e; simp
    · have e' : (y == 120) = false := by simpa using e
      rw [e'] at hc ⊢
      simp at hc ⊢
      by_cases e2 : x = 120
      · exact .inl e2
      · exact .inr (hc e2)

/-- P1.8 by the headers: what a header of the cube is written to is in Write -/
theorem im2 (t r h : List UInt8) (hn : t ≠ []) (hl : t.length = r.length) (hl2 : t.length = h.length) (gr : good r = true) (hh : h.all dig = true) (ho : hoB t h = true) :
    hasB (wrT t r) (wrT h r) = true := by
  have hlr : h.length = r.length := by omega
  have hwl : (wrT t r).length = t.length := wr_len t r hl
  have hwn : wrT t r ≠ [] := by
    intro e
    rw [e] at hwl
    exact hn (List.eq_nil_of_length_eq_zero hwl.symm)
  rw [has_ho _ _ hwn (by rw [hwl, wr_len h r hlr]; omega) (wr_dig h r hlr hh gr)]
  unfold hoB at ho ⊢
  rw [hwl, allTo_iff]
  rw [allTo_iff] at ho
  intro k hk
  have kr : k < r.length := by omega
  have kh : k < h.length := by omega
  have := ho k hk
  simp only [okX, wr_get t r hl k hk, wr_get h r hlr k kh, List.getElem?_eq_getElem hk, List.getElem?_eq_getElem kh] at this ⊢
  generalize t[k] = x at *
  generalize r[k] = y at *
  generalize h[k] = d at *
  by_cases e : y = 120 <;> simp [e] <;> simpa using this

/-- and a header that is in Write is what the nearest header of the cube is written to -/
theorem im3 (t r h : List UInt8) (hn : t ≠ []) (hl : t.length = r.length) (hl2 : t.length = h.length) (hh : h.all dig = true) :
    hasB (wrT t r) h = (wrT (meetT t h) r == h) := by
  have hwl : (wrT t r).length = t.length := wr_len t r hl
  have hwn : wrT t r ≠ [] := by
    intro e
    rw [e] at hwl
    exact hn (List.eq_nil_of_length_eq_zero hwl.symm)
  have hml := meetT_len t h hl2
  have hmr : (meetT t h).length = r.length := by omega
  have hwm : (wrT (meetT t h) r).length = t.length := by rw [wr_len _ _ hmr, hml]
  rw [has_ho _ _ hwn (by omega) hh]
  unfold hoB
  rw [hwl, Bool.eq_iff_iff, allTo_iff, beq_iff_eq]
  have key : ∀ k, k < t.length → (okX (wrT t r) h k = true ↔ (wrT (meetT t h) r)[k]? = h[k]?) := by
    intro k hk
    have kr : k < r.length := by omega
    have kh : k < h.length := by omega
    have km : k < (meetT t h).length := by omega
    have hm := meetT_get t h hl2 k hk
    rw [List.getElem?_eq_getElem km] at hm
    have hm' : (meetT t h)[k] = if t[k] == 120 then h[k] else t[k] := by simpa using hm
    simp only [okX, wr_get t r hl k hk, wr_get _ r hmr k km, hm', List.getElem?_eq_getElem kh]
    have dk := dig_at hh k kh
    have d120 : ¬ (120 : UInt8) = h[k] := by rcases dk with e | e <;> rw [e] <;> decide
    generalize t[k] = x at *
    generalize r[k] = y at *
    generalize h[k] = d at *
    by_cases e : y = 120
    · subst e
      by_cases e2 : x = 120 <;> simp [e2]
    · by_cases e2 : x = 120 <;> simp [e]
  constructor
  · intro h1
    apply List.ext_getElem?
    intro k
    by_cases hk : k < t.length
    · exact (key k hk).1 (h1 k hk)
    · rw [List.getElem?_eq_none (by omega), List.getElem?_eq_none (by omega)]
  · intro h1 k hk
    rw [(key k hk), h1]
end Go.Proofs.Ytdgglglemdbgcaa

import Derived.Test.YtekjbpemaohipaaGreatDoorXAC
import Derived.Test.YtekjbpemaohipaaGreatDoorXBF
import Derived.Test.YtekjbpemaohipaaGreatDoorXAD
import Derived.Test.YtekjbpemaohipaaGreatDoorXAZ
import Derived.Test.YtekjbpemaohipaaGreatDoorXBA
import Derived.Test.YtekjbpemaohipaaGreatDoorXAE
import Derived.Test.YtekjbpemaohipaaGreatDoorXAY
import Derived.Test.YtekjbpemaohipaaGreatDoorXAX
namespace Go.Proofs.YtekjbpemaohipaaGreatDoor
/-- the least header of a cube -/
def lsT (c : List UInt8) : List UInt8 := c.map (fun x => if x = 120 then 48 else x)
theorem lsT_len (c : List UInt8) : (lsT c).length = c.length := by simp [lsT]
def ltS (a b : List UInt8) : Bool := Op.bytesLess a b
def mnS (a x : List UInt8) : List UInt8 := if a = [] then x else if ltS x a = true then x else a
/-- the least header of cubes; none: the empty text -/
def mnL (l : List (List UInt8)) : List UInt8 := l.foldl (fun a x => mnS a (lsT x)) []
theorem mnL_snoc (l : List (List UInt8)) (x : List UInt8) : mnL (l ++ [x]) = mnS (mnL l) (lsT x) := by
  unfold mnL
  rw [List.foldl_append]
  rfl
theorem mnS_ne {a x : List UInt8} (hx : x ≠ []) : mnS a x ≠ [] := by
  unfold mnS
  split
  · exact hx
  · split
    · exact hx
    · assumption
theorem lsT_ne {x : List UInt8} (h : x ≠ []) : lsT x ≠ [] := fun e => h (List.eq_nil_of_length_eq_zero (by rw [← lsT_len, e]; rfl))
theorem mnL_one (x : List UInt8) : mnL [x] = lsT x := by
  unfold mnL mnS
  simp
theorem mnL_take {l : List (List UInt8)} {i : Nat} {x : List UInt8} (h : l[i]? = some x) : mnL (l.take (i + 1)) = mnS (mnL (l.take i)) (lsT x) := by
  rw [List.take_add_one, h]
  exact mnL_snoc _ _
theorem mnL_ne : ∀ (l : List (List UInt8)), (∀ x ∈ l, x ≠ []) → l ≠ [] → mnL l ≠ [] := fun l hl hn => by
  obtain ⟨l', x, rfl⟩ : ∃ l' x, l = l' ++ [x] := ⟨l.dropLast, l.getLast hn, (List.dropLast_concat_getLast hn).symm⟩
  rw [mnL_snoc]
  exact mnS_ne (lsT_ne (hl x (by simp)))
theorem wr_zero (n : Nat) (c : List UInt8) (h : c.length = n) : wrT (List.replicate n 48) c = lsT c := by
  subst h
  apply List.ext_getElem?
  intro i
  unfold wrT lsT
  rw [List.getElem?_zipWith, List.getElem?_map]
  by_cases hi : i < c.length
  · rw [List.getElem?_eq_getElem (by simpa using hi), List.getElem?_eq_getElem hi]
    simp
  · rw [List.getElem?_eq_none (by simpa using hi), List.getElem?_eq_none (by omega)]
    rfl
theorem good_zero (n : Nat) (h2 : n ≤ 256) : good (List.replicate n 48) = true := by
  simp only [good, Bool.and_eq_true, decide_eq_true_eq, List.all_eq_true, List.length_replicate]
  refine ⟨by omega, fun y hy => ?_⟩
  rw [List.eq_of_mem_replicate hy]
  decide
end Go.Proofs.YtekjbpemaohipaaGreatDoor
namespace Go.Proofs.YtekjbpemaohipaaGreatDoor
open Go.RowKit Go.Shelf
/-- place k of a text of digits lies in the cube's -/
def okX (t h : List UInt8) (k : Nat) : Bool := match t[k]?, h[k]? with | some x, some d => x == 120 || x == d | _, _ => true
def hoB (t h : List UInt8) : Bool := allTo (okX t h) t.length
theorem dig_tri {b : UInt8} (h : digB b = true) : b = 48 ∨ b = 49 := by simpa [digB] using h
theorem dig_at {h : List UInt8} (hh : h.all digB = true) (k : Nat) (hk : k < h.length) : h[k] = 48 ∨ h[k] = 49 := by
  rw [List.all_eq_true] at hh
  exact dig_tri (hh _ (List.getElem_mem hk))
theorem has_ho (t h : List UInt8) (hn : t ≠ []) (hl : t.length = h.length) (hh : h.all digB = true) : hasB t h = hoB t h := by
  have e : (!t.isEmpty && (t.length == h.length)) = true := by
    cases t with
    | nil => exact absurd rfl hn
    | cons x l => simp; simpa using hl
  unfold hasB hoB
  rw [e, Bool.true_and]
  apply allTo_congr
  intro k hk
  have hkh : k < h.length := by omega
  simp only [okH, okX, List.getElem?_eq_getElem hk, List.getElem?_eq_getElem hkh]
  rcases dig_at hh k hkh with e | e <;> rw [e] <;> simp
/-- h has d's digits at the open places below p -/
def eqTo (a b h : List UInt8) (p : Nat) : Bool := allTo (fun k => !qual a b k || (b[k]? == h[k]?)) p
theorem oth_eq {d x : UInt8} (hd : d = 48 ∨ d = 49) (hx : x = 48 ∨ x = 49) : (oth d == x) = !(d == x) := by
  rcases hd with rfl | rfl <;> rcases hx with rfl | rfl <;> decide
theorem pc_get (a b : List UInt8) (hl : a.length = b.length) (p : Nat) (h : qual a b p = true) (k : Nat) (hk : k < a.length) :
    (pcT a b p)[k]? = some (if k = p then oth (b[k]'(by omega)) else if k < p then (if a[k] == 120 then b[k]'(by omega) else a[k]) else a[k]) := by
  have hp := qual_lt a b hl p h
  unfold pcT
  by_cases e : k = p
  · subst e
    rw [List.getElem?_set_self (by rw [rs_len a b hl]; exact hk)]
    have : b.getD k 0 = b[k]'(by omega) := by simp [List.getD, List.getElem?_eq_getElem (show k < b.length by omega)]
    rw [this]; simp
  · rw [List.getElem?_set_ne (by omega), rs_get a b hl p k hk]
    simp [e]
theorem pc_len (a b : List UInt8) (hl : a.length = b.length) (p : Nat) : (pcT a b p).length = a.length := by unfold pcT; simp; exact rs_len a b hl p
theorem piece_has (a b h : List UInt8) (hn : a ≠ []) (hl : a.length = b.length) (hl2 : a.length = h.length) (gb : good b = true) (hd : h.all digB = true) (p : Nat) (hq : qual a b p = true) :
    hasB (pcT a b p) h = (hoB a h && (eqTo a b h p && !(b[p]? == h[p]?))) := by
  have hp := qual_lt a b hl p hq
  have hpl := pc_len a b hl p
  have hne : pcT a b p ≠ [] := by
    intro e; rw [e] at hpl; exact hn (List.eq_nil_of_length_eq_zero hpl.symm)
  rw [has_ho _ _ hne (by omega) hd]
  unfold hoB eqTo
  rw [hpl, Bool.eq_iff_iff, Bool.and_eq_true, Bool.and_eq_true, allTo_iff, allTo_iff, allTo_iff]
  have ka : ∀ k, k < a.length → (okX (pcT a b p) h k = true ↔ (okX a h k = true ∧ (k < p → (!qual a b k || (b[k]? == h[k]?)) = true) ∧ (k = p → (!(b[k]? == h[k]?)) = true))) := by
    intro k hk
    have kb : k < b.length := by omega
    have kh : k < h.length := by omega
    have dk := dig_at hd k kh
    have tb := good_tri gb k kb
    simp only [okX, pc_get a b hl p hq k hk, qual_bytes a b hl k hk, List.getElem?_eq_getElem hk, List.getElem?_eq_getElem kb, List.getElem?_eq_getElem kh]
    by_cases e : k = p
    · subst e
      have h1 := qual_bytes a b hl k hk
      rw [hq] at h1
      simp at h1
      have tb2 : b[k] = 48 ∨ b[k] = 49 := by
        rcases tri_of b k kb tb with h | h | h
        · exact .inl h
        · exact .inr h
        · exact absurd h h1.1
      have ho := oth_eq tb2 dk
      have ho120 : (oth b[k] == 120) = false := by rcases tb2 with h | h <;> rw [h] <;> decide
      rw [if_pos rfl, ho, ho120, h1.2]
      simp
    · rw [if_neg e]
      by_cases h2 : k < p
      · rw [if_pos h2]
        have e1 : ¬ (k = p) := e
        generalize a[k] = x at *
        generalize b[k] = y at *
        generalize h[k] = z at *
        have z120 : ¬ (120 : UInt8) = z := by rcases dk with h | h <;> rw [h] <;> decide
        by_cases ex : x = 120
        · subst ex
          by_cases ey : y = 120
          · subst ey; simp [e1]
          · simp [e1, ey, h2]
        · simp [ex, e1, h2]
      · rw [if_neg h2]
        simp [e, h2]
  constructor
  · intro hh
    refine ⟨fun k hk => ((ka k hk).1 (hh k hk)).1, fun k hk => ((ka k (by omega)).1 (hh k (by omega))).2.1 hk, ((ka p hp).1 (hh p hp)).2.2 rfl⟩
  · rintro ⟨h1, h2, h3⟩ k hk
    exact (ka k hk).2 ⟨h1 k hk, fun hkp => h2 k hkp, fun e => by rw [e]; exact h3⟩
/-- how many cubes of a list have the header -/
def cnt (h : List UInt8) (l : List (List UInt8)) : Nat := l.countP (fun t => hasB t h)
theorem cnt_pcs (a b h : List UInt8) (hn : a ≠ []) (hl : a.length = b.length) (hl2 : a.length = h.length) (gb : good b = true) (hd : h.all digB = true) (p : Nat) :
    cnt h (pcs a b p) = if (hoB a h && !eqTo a b h p) = true then 1 else 0 := by
  induction p with
  | zero => simp [cnt, pcs, eqTo, allTo]
  | succ p ih =>
    have he : eqTo a b h (p + 1) = (eqTo a b h p && (!qual a b p || (b[p]? == h[p]?))) := rfl
    cases hq : qual a b p
    · have hs : ∀ k, p ≤ k → k < p + 1 → qual a b k = false := by
        intro k h1 h2
        have e : k = p := by omega
        subst e
        exact hq
      have : pcs a b (p + 1) = pcs a b p := pcs_skip a b p (p + 1) (by omega) hs
      rw [this, ih, he, hq]
      simp
    · rw [pcs_succ a b p hq]
      unfold cnt at ih ⊢
      rw [List.countP_append, ih, he, hq]
      simp only [List.countP_cons, List.countP_nil, piece_has a b h hn hl hl2 gb hd p hq]
      cases hoB a h <;> cases eqTo a b h p <;> cases (b[p]? == h[p]?) <;> rfl
theorem ho_agree (a b h : List UInt8) (hl : a.length = b.length) (hl2 : a.length = h.length) (ga : good a = true) (gb : good b = true) (hag : agB a b = true) (ho : hoB a h = true) : hoB b h = eqTo a b h a.length := by
  unfold hoB eqTo
  rw [← hl]
  apply allTo_congr
  intro k hk
  have kb : k < b.length := by omega
  have kh : k < h.length := by omega
  unfold hoB at ho
  rw [allTo_iff] at ho
  have h1 := ho k hk
  have hc := agB_cfl hag k
  rw [cfl_bytes a b k hk kb (good_tri ga k hk) (good_tri gb k kb)] at hc
  simp only [okX, qual_bytes a b hl k hk, List.getElem?_eq_getElem hk, List.getElem?_eq_getElem kb, List.getElem?_eq_getElem kh] at h1 ⊢
  generalize a[k] = x at *
  generalize b[k] = y at *
  generalize h[k] = z at *
  by_cases ex : x = 120
  · subst ex
    by_cases ey : y = 120 <;> simp [ey]
  · have ex' : (x == 120) = false := by simpa using ex
    rw [ex'] at h1 hc
    simp at h1 hc
    subst h1
    by_cases ey : y = 120
    · simp [ey]
    · have := hc ey
      subst this
      simp
theorem ho_clash (a b h : List UInt8) (hl : a.length = b.length) (hl2 : a.length = h.length) (ga : good a = true) (gb : good b = true) (hf : fitB a b = true) (hag : agB a b = false) (ho : hoB a h = true) : hoB b h = false := by
  cases hb : hoB b h
  · rfl
  · exfalso
    have : agB a b = true := by
      apply agB_all a b hf
      intro k hk
      have kb : k < b.length := by omega
      have kh : k < h.length := by omega
      unfold hoB at ho hb
      rw [allTo_iff] at ho hb
      have h1 := ho k hk
      have h2 := hb k kb
      rw [cfl_bytes a b k hk kb (good_tri ga k hk) (good_tri gb k kb)]
      simp only [okX, List.getElem?_eq_getElem hk, List.getElem?_eq_getElem kb, List.getElem?_eq_getElem kh] at h1 h2
      generalize a[k] = x at *
      generalize b[k] = y at *
      generalize h[k] = z at *
      simp at h1 h2
      rcases h1 with rfl | rfl
      · simp
      · rcases h2 with rfl | rfl <;> simp
    rw [hag] at this
    cases this
/-- P1.7 by the headers -/
theorem parts_cnt (a b h : List UInt8) (hn : a ≠ []) (hl : a.length = b.length) (hl2 : a.length = h.length) (ga : good a = true) (gb : good b = true) (hd : h.all digB = true) (hf : fitB a b = true) :
    cnt h (splT a b) = if (hoB a h && !hoB b h) = true then 1 else 0 := by
  unfold splT
  cases hag : agB a b
  · simp only [Bool.false_eq_true, if_false]
    unfold cnt
    rw [List.countP_cons, List.countP_nil, has_ho a h hn hl2 hd]
    cases ho : hoB a h
    · rfl
    · rw [ho_clash a b h hl hl2 ga gb hf hag ho]; rfl
  · rw [if_pos rfl, cnt_pcs a b h hn hl hl2 gb hd]
    cases ho : hoB a h
    · rfl
    · rw [ho_agree a b h hl hl2 ga gb hag ho]
theorem wiB_get {a b : List UInt8} (h : wiB a b = true) (k : Nat) (k1 : k < a.length) (k2 : k < b.length) : b[k] = 120 ∨ a[k] = b[k] := by
  unfold wiB at h
  rw [Bool.and_eq_true, allTo_iff] at h
  have h1 := h.2 k k1
  rw [List.getElem?_eq_getElem k1, List.getElem?_eq_getElem k2] at h1
  simpa using h1
theorem wiB_fit {a b : List UInt8} (h : wiB a b = true) : fitB a b = true := by
  unfold wiB at h
  exact (Bool.and_eq_true_iff.1 h).1
/-- a header is in a piece iff it is in the cube and not in what is taken away -/
theorem spl_wi {a b h : List UInt8} (hn : a ≠ []) (hl : a.length = b.length) (hl2 : a.length = h.length) (ga : good a = true) (gb : good b = true) (hd : h.all digB = true) : (∃ x ∈ splT a b, wiB h x = true) ↔ wiB h a = true ∧ ¬ wiB h b = true := by
  have hb : b ≠ [] := fun e => by
    rw [e] at hl
    exact hn (List.eq_nil_of_length_eq_zero hl)
  have h1 := parts_cnt a b h hn hl hl2 ga gb hd (fit_mk hl hn)
  rw [← has_ho a h hn hl2 hd, ← has_ho b h hb (by omega) hd, has_dig hd, has_dig hd] at h1
  have h2 : (∃ x ∈ splT a b, wiB h x = true) ↔ 0 < cnt h (splT a b) := by
    unfold cnt
    rw [List.countP_pos_iff]
    constructor
    · rintro ⟨x, hx, e⟩
      exact ⟨x, hx, by rw [has_dig hd]; exact e⟩
    · rintro ⟨x, hx, e⟩
      exact ⟨x, hx, by rw [has_dig hd] at e; exact e⟩
  rw [h2, h1]
  cases wiB h a <;> cases wiB h b <;> simp
theorem exS_wi {n : Nat} {l : List (List UInt8)} {d h : List UInt8} (hn : 1 ≤ n) (hh : h.length = n) (hd : h.all digB = true) (gl : gdW n l) (gd : good d = true) (hdl : d.length = n) : (∃ x ∈ exS splT l d, wiB h x = true) ↔ (∃ c ∈ l, wiB h c = true) ∧ ¬ wiB h d = true := by
  have hs : ∀ c ∈ l, ((∃ x ∈ splT c d, wiB h x = true) ↔ wiB h c = true ∧ ¬ wiB h d = true) := fun c hc => by
    have h1 := gl c hc
    exact spl_wi (fun e => by rw [e] at h1; have := h1.2; simp at this; omega) (by omega) (by omega) h1.1 gd hd
  unfold exS
  constructor
  · rintro ⟨x, hx, e⟩
    obtain ⟨c, hc, hx⟩ := List.mem_flatMap.1 hx
    obtain ⟨h1, h2⟩ := (hs c hc).1 ⟨x, hx, e⟩
    exact ⟨⟨c, hc, h1⟩, h2⟩
  · rintro ⟨⟨c, hc, h1⟩, h2⟩
    obtain ⟨x, hx, e⟩ := (hs c hc).2 ⟨h1, h2⟩
    exact ⟨x, List.mem_flatMap.2 ⟨c, hc, hx⟩, e⟩
theorem exT_wi {n : Nat} {h : List UInt8} (hn : 1 ≤ n) (hh : h.length = n) (hd : h.all digB = true) : ∀ (L l : List (List UInt8)), gdW n l → gdW n L → ((∃ x ∈ exT splT l L, wiB h x = true) ↔ (∃ c ∈ l, wiB h c = true) ∧ ∀ m ∈ L, ¬ wiB h m = true)
  | [], l, _, _ => by
    show (∃ x ∈ l, wiB h x = true) ↔ _
    exact ⟨fun e => ⟨e, fun m hm => by cases hm⟩, fun e => e.1⟩
  | d :: r, l, gl, gL => by
    show (∃ x ∈ exT splT (exS splT l d) r, wiB h x = true) ↔ _
    have g1 := gL d List.mem_cons_self
    rw [exT_wi hn hh hd r (exS splT l d) (gdW_exS gl g1.1 g1.2) (fun x hx => gL x (List.mem_cons_of_mem _ hx)), exS_wi hn hh hd gl g1.1 g1.2]
    constructor
    · rintro ⟨⟨h1, h2⟩, h3⟩
      refine ⟨h1, fun m hm => ?_⟩
      rcases List.mem_cons.1 hm with rfl | hm
      · exact h2
      · exact h3 m hm
    · rintro ⟨h1, h2⟩
      exact ⟨⟨h1, h2 d List.mem_cons_self⟩, fun m hm => h2 m (List.mem_cons_of_mem _ hm)⟩
theorem exE_wi {n lim : Nat} {h : List UInt8} (hn : 1 ≤ n) (hh : h.length = n) (hd : h.all digB = true) : ∀ (Ts : List (List UInt8 × List (List UInt8))) (out R : List (List UInt8)), gdS Ts → (∀ t ∈ Ts, t.1.length = n) → exE splT lim out Ts = some R → ((∃ x ∈ R, wiB h x = true) ↔ (∃ x ∈ out, wiB h x = true) ∨ Dn h Ts = true)
  | [], out, R, _, _, e => by
    injection e with e
    subst e
    simp [Dn]
  | t :: r, out, R, gt, hw, e => by
    unfold exE at e
    split at e
    · obtain ⟨t1, t3⟩ := gt t List.mem_cons_self
      have hw1 := hw t List.mem_cons_self
      rw [hw1] at t3
      rw [exE_wi hn hh hd r _ R (fun x hx => gt x (List.mem_cons_of_mem _ hx)) (fun x hx => hw x (List.mem_cons_of_mem _ hx)) e]
      have h1 := exT_wi hn hh hd t.2 [t.1] (fun y hy => by rw [List.mem_singleton] at hy; subst hy; exact ⟨t1, hw1⟩) t3
      have h2 : Dn h (t :: r) = (tdB t.1 t.2 h || Dn h r) := rfl
      rw [h2, Bool.or_eq_true, td_iff]
      constructor
      · rintro (⟨x, hx, e⟩ | e)
        · rcases List.mem_append.1 hx with hx | hx
          · exact .inl ⟨x, hx, e⟩
          · obtain ⟨⟨c, hc, e1⟩, e2⟩ := h1.1 ⟨x, hx, e⟩
            obtain rfl := List.mem_singleton.1 hc
            exact .inr (.inl ⟨e1, e2⟩)
        · exact .inr (.inr e)
      · rintro (⟨x, hx, e⟩ | e | e)
        · exact .inl ⟨x, List.mem_append_left _ hx, e⟩
        · obtain ⟨x, hx, e3⟩ := h1.2 ⟨⟨t.1, List.mem_singleton.2 rfl, e.1⟩, e.2⟩
          exact .inl ⟨x, List.mem_append_right _ hx, e3⟩
        · exact .inr e
    · cases e
/-- the plain cubes have just the headers of the space -/
theorem xpL_wi {n : Nat} {b lim : Int} {h : List UInt8} {Ts : List (List UInt8 × List (List UInt8))} (hn : 1 ≤ n) (hh : h.length = n) (hd : h.all digB = true) (g : gdS Ts) (hw : ∀ t ∈ Ts, t.1.length = n) (h0 : xpE b lim Ts = 0) : (∃ x ∈ xpL b lim Ts, wiB h x = true) ↔ Dn h Ts = true := by
  unfold xpE at h0
  split at h0
  · cases h0
  · rename_i hb
    split at h0
    · cases h0
    · rename_i hl
      unfold xpL
      rw [if_neg hb, if_neg hl]
      cases hx : exE splT lim.toNat [] Ts with
      | none =>
        rw [if_pos hx] at h0
        cases h0
      | some R =>
        show (∃ x ∈ R, wiB h x = true) ↔ _
        rw [exE_wi hn hh hd Ts [] R g hw hx]
        simp
theorem not_less : ∀ (a b : List UInt8), (∀ k (k1 : k < a.length) (k2 : k < b.length), b[k] ≤ a[k]) → a.length = b.length → Op.bytesLess a b = false
  | [], [], _, _ => rfl
  | [], _ :: _, _, e => by simp at e
  | _ :: _, [], _, _ => rfl
  | x :: a, y :: b, h, e => by
    have h0 : y ≤ x := h 0 (by simp) (by simp)
    have h1 := not_less a b (fun k k1 k2 => h (k + 1) (by simp; omega) (by simp; omega)) (by simpa using e)
    show (decide (x < y) || (x == y && Op.bytesLess a b)) = false
    rw [h1, decide_eq_false (UInt8.not_lt.2 h0)]
    simp
theorem leB_not {x y : List UInt8} (h : leB x y = true) : Op.bytesLess y x = false := by
  rw [bl_cmp]
  unfold leB at h
  rw [decide_eq_true_eq] at h
  rw [decide_eq_false_iff_not]
  rcases cmpB_three x y with ⟨h1, h2⟩ | ⟨h1, h2⟩ | ⟨h1, h2⟩ <;> omega
theorem ls_le {c h : List UInt8} (hd : h.all digB = true) (hw : wiB h c = true) : leB (lsT c) h = true := by
  refine leB_of_not ?_
  rw [Bool.not_eq_true]
  have hl := fitB_len (wiB_fit hw)
  refine not_less _ _ (fun k k1 k2 => ?_) (by rw [lsT_len]; exact hl)
  rw [lsT_len] at k2
  have h1 := wiB_get hw k k1 k2
  have h2 := dig_at hd k k1
  have e : (lsT c)[k]'(by rw [lsT_len]; exact k2) = if c[k] = 120 then 48 else c[k] := by simp [lsT]
  rw [e]
  split
  · rcases h2 with h2 | h2 <;> rw [h2] <;> decide
  · rename_i hx
    rw [h1.resolve_left hx]
    exact UInt8.le_refl _
theorem ls_wi {c : List UInt8} (hn : c ≠ []) : wiB (lsT c) c = true := by
  refine wi_mk (fit_mk (lsT_len c) (lsT_ne hn)) (fun k k1 k2 => ?_)
  have e : (lsT c)[k] = if c[k] = 120 then 48 else c[k] := by simp [lsT]
  rw [e]
  split
  · exact .inl (by assumption)
  · exact .inr rfl
theorem ls_dig {c : List UInt8} (gc : good c = true) : (lsT c).all digB = true := by
  rw [List.all_eq_true]
  intro x hx
  obtain ⟨k, hk, rfl⟩ := List.getElem_of_mem hx
  rw [lsT_len] at hk
  have e : (lsT c)[k]'(by rw [lsT_len]; exact hk) = if c[k] = 120 then 48 else c[k] := by simp [lsT]
  rw [e]
  rcases tri_of c k hk (good_tri gc k hk) with h | h | h <;> rw [h] <;> decide
/-- the least header of cubes is one cube's, and no cube's lies below it -/
theorem mnL_min : ∀ (l : List (List UInt8)) (a : List UInt8), (∀ x ∈ l, x ≠ []) → (a = [] → l ≠ []) → ((l.foldl (fun a x => mnS a (lsT x)) a = a ∧ a ≠ []) ∨ ∃ c ∈ l, l.foldl (fun a x => mnS a (lsT x)) a = lsT c) ∧ (a ≠ [] → leB (l.foldl (fun a x => mnS a (lsT x)) a) a = true) ∧ ∀ c ∈ l, leB (l.foldl (fun a x => mnS a (lsT x)) a) (lsT c) = true
  | [], a, _, h => ⟨.inl ⟨rfl, fun e => h e rfl⟩, (fun _ => leB_of_not (by rw [Bool.not_eq_true]; exact not_less a a (fun _ _ _ => UInt8.le_refl _) rfl)), (fun c hc => by cases hc)⟩
  | y :: r, a, hl, _ => by
    have hy := hl y List.mem_cons_self
    have hne : mnS a (lsT y) ≠ [] := mnS_ne (lsT_ne hy)
    obtain ⟨h1, h2, h3⟩ := mnL_min r (mnS a (lsT y)) (fun x hx => hl x (List.mem_cons_of_mem _ hx)) (fun e => absurd e hne)
    have h4 := h2 hne
    have hm : (a = [] ∧ mnS a (lsT y) = lsT y) ∨ (a ≠ [] ∧ ((mnS a (lsT y) = lsT y ∧ leB (lsT y) a = true) ∨ (mnS a (lsT y) = a ∧ leB a (lsT y) = true))) := by
      unfold mnS ltS
      by_cases ha : a = []
      · exact .inl ⟨ha, by rw [if_pos ha]⟩
      · rw [if_neg ha]
        refine .inr ⟨ha, ?_⟩
        by_cases hb : Op.bytesLess (lsT y) a = true
        · rw [if_pos hb]
          exact .inl ⟨rfl, leB_of_less hb⟩
        · rw [if_neg hb]
          exact .inr ⟨rfl, leB_of_not hb⟩
    have hle : leB (mnS a (lsT y)) (lsT y) = true := by
      have hr : leB (lsT y) (lsT y) = true := leB_of_not (by rw [Bool.not_eq_true]; exact not_less _ _ (fun _ _ _ => UInt8.le_refl _) rfl)
      rcases hm with ⟨-, e⟩ | ⟨-, ⟨e, -⟩ | ⟨e, e2⟩⟩
      · rw [e]; exact hr
      · rw [e]; exact hr
      · rw [e]; exact e2
    show ((r.foldl (fun a x => mnS a (lsT x)) (mnS a (lsT y)) = a ∧ a ≠ []) ∨ ∃ c ∈ y :: r, r.foldl (fun a x => mnS a (lsT x)) (mnS a (lsT y)) = lsT c) ∧ (a ≠ [] → leB (r.foldl (fun a x => mnS a (lsT x)) (mnS a (lsT y))) a = true) ∧ ∀ c ∈ y :: r, leB (r.foldl (fun a x => mnS a (lsT x)) (mnS a (lsT y))) (lsT c) = true
    refine ⟨?_, fun ha => ?_, fun c hc => ?_⟩
    · rcases h1 with ⟨e, -⟩ | ⟨c, hc, e⟩
      · rcases hm with ⟨-, e1⟩ | ⟨ha, ⟨e1, -⟩ | ⟨e1, -⟩⟩
        · exact .inr ⟨y, List.mem_cons_self, e.trans e1⟩
        · exact .inr ⟨y, List.mem_cons_self, e.trans e1⟩
        · exact .inl ⟨e.trans e1, ha⟩
      · exact .inr ⟨c, List.mem_cons_of_mem _ hc, e⟩
    · rcases hm with ⟨e, -⟩ | ⟨-, ⟨e1, e2⟩ | ⟨e1, -⟩⟩
      · exact absurd e ha
      · rw [e1] at h4 ⊢
        exact leB_trans _ _ _ h4 e2
      · rw [e1] at h4 ⊢
        exact h4
    · rcases List.mem_cons.1 hc with rfl | hc
      · exact leB_trans _ _ _ h4 hle
      · exact h3 c hc
/-- P2.10, P2.11 -/
theorem spread_least {n : Nat} {b lim : Int} {Ts : List (List UInt8 × List (List UInt8))} (hn : 1 ≤ n) (g : gdS Ts) (hw : ∀ t ∈ Ts, t.1.length = n) (h0 : xpE b lim Ts = 0) (hg : ∀ x ∈ xpL b lim Ts, good x = true ∧ x ≠ [] ∧ x.length = n) :
    (xpL b lim Ts ≠ [] → Dn (mnL (xpL b lim Ts)) Ts = true ∧ (mnL (xpL b lim Ts)).length = n) ∧ ∀ (h : List UInt8), h.length = n → h.all digB = true → (∃ x ∈ xpL b lim Ts, wiB h x = true) → Op.bytesLess h (mnL (xpL b lim Ts)) = false := by
  constructor
  · intro hne
    obtain ⟨h1, -⟩ := mnL_min (xpL b lim Ts) [] (fun x hx => (hg x hx).2.1) (fun _ => hne)
    rcases h1 with ⟨-, e⟩ | ⟨c, hc, e⟩
    · exact absurd rfl e
    · have e2 : mnL (xpL b lim Ts) = lsT c := e
      obtain ⟨g1, g2, g3⟩ := hg c hc
      rw [e2, lsT_len]
      exact ⟨(xpL_wi hn (by rw [lsT_len]; exact g3) (ls_dig g1) g hw h0).1 ⟨c, hc, ls_wi g2⟩, g3⟩
  · rintro h - hd ⟨x, hx, e⟩
    obtain ⟨-, -, h3⟩ := mnL_min (xpL b lim Ts) [] (fun x hx => (hg x hx).2.1) (fun _ e2 => by rw [e2] at hx; cases hx)
    exact leB_not (leB_trans _ _ _ (h3 x hx) (ls_le hd e))
end Go.Proofs.YtekjbpemaohipaaGreatDoor

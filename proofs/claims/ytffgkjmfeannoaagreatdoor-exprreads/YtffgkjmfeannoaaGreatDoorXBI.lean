import Derived.Test.YtffgkjmfeannoaaGreatDoorXBH
namespace Go.Proofs.YtffgkjmfeannoaaGreatDoor.Ex
open Go.RowKit
def clS (x : List UInt8) : Tk :=
  if x = [33] then .bang else if x = [40] then .opn else if x = [41] then .cls else if x = [38] then .amp else if x = [124] then .bar else if x = [47] then .slash else if x = [46, 46] then .span
  else if x = [61] then .op 1 else if x = [33, 61] then .op 2 else if x = [60] then .op 3 else if x = [60, 61] then .op 4 else if x = [62] then .op 5 else if x = [62, 61] then .op 6 else .oth
def cl (nB : List UInt8 → Bool) (nV : List UInt8 → Option Int) (pB : List UInt8 → Bool) (t : XTok) : Tk :=
  if t.1 = 7 then clS t.2.1
  else if t.1 = 2 then (if nB t.2.1 then (if t.2.1 = [97, 110, 121] then .any else if t.2.1 = [110, 111, 110, 101] then .non else .nm t.2.1) else .oth)
  else if t.1 = 4 then (match nV t.2.1 with | some v => .num v | none => .oth)
  else if t.1 = 5 then (if pB t.2.1 then .pat (t.2.1.drop 1) else .oth)
  else .oth
variable {nB : List UInt8 → Bool} {nV : List UInt8 → Option Int} {pB : List UInt8 → Bool}
theorem tk_cl (L : List XTok) (i : Nat) : tk (L.map (cl nB nV pB)) i = cl nB nV pB (tokAt L i) := by
  unfold tk tokAt
  rw [List.getD_eq_getElem?_getD, List.getD_eq_getElem?_getD, List.getElem?_map]
  cases L[i]? with
  | none => simp [cl, tok0]
  | some t => rfl
theorem cl_not7 {t : XTok} (h : t.1 ≠ 7) {u : Tk} (hu : cl nB nV pB t = u) : (∀ o, u ≠ .op o) ∧ u ≠ .bang ∧ u ≠ .opn ∧ u ≠ .cls ∧ u ≠ .amp ∧ u ≠ .bar ∧ u ≠ .slash ∧ u ≠ .span := by
  subst hu
  unfold cl
  rw [if_neg h]
  refine ⟨fun o => ?_, ?_, ?_, ?_, ?_, ?_, ?_, ?_⟩ <;> (intro hh; split at hh <;> (try split at hh) <;> (try split at hh) <;> (try split at hh) <;> (try split at hh) <;> cases hh)
theorem clS_bang {x : List UInt8} (hh : clS x = .bang) : x = [33] := by
  unfold clS at hh
  by_cases e : x = [33]
  · exact e
  rw [if_neg e] at hh; clear e
  by_cases e : x = [40]
  · rw [if_pos e] at hh; cases hh
  rw [if_neg e] at hh; clear e
  by_cases e : x = [41]
  · rw [if_pos e] at hh; cases hh
  rw [if_neg e] at hh; clear e
  by_cases e : x = [38]
  · rw [if_pos e] at hh; cases hh
  rw [if_neg e] at hh; clear e
  by_cases e : x = [124]
  · rw [if_pos e] at hh; cases hh
  rw [if_neg e] at hh; clear e
  by_cases e : x = [47]
  · rw [if_pos e] at hh; cases hh
  rw [if_neg e] at hh; clear e
  by_cases e : x = [46, 46]
  · rw [if_pos e] at hh; cases hh
  rw [if_neg e] at hh; clear e
  by_cases e : x = [61]
  · rw [if_pos e] at hh; cases hh
  rw [if_neg e] at hh; clear e
  by_cases e : x = [33, 61]
  · rw [if_pos e] at hh; cases hh
  rw [if_neg e] at hh; clear e
  by_cases e : x = [60]
  · rw [if_pos e] at hh; cases hh
  rw [if_neg e] at hh; clear e
  by_cases e : x = [60, 61]
  · rw [if_pos e] at hh; cases hh
  rw [if_neg e] at hh; clear e
  by_cases e : x = [62]
  · rw [if_pos e] at hh; cases hh
  rw [if_neg e] at hh; clear e
  by_cases e : x = [62, 61]
  · rw [if_pos e] at hh; cases hh
  rw [if_neg e] at hh; clear e
  cases hh
theorem is_bang (t : XTok) : isS t [33] = true ↔ cl nB nV pB t = .bang := by
  by_cases h : t.1 = 7
  · unfold isS cl
    rw [if_pos h]
    constructor
    · intro hh
      have : t.2.1 = [33] := by simpa [h] using hh
      rw [this]
      rfl
    · intro hh
      simp [h, clS_bang hh]
  · constructor
    · intro hh
      unfold isS at hh
      simp [h] at hh
    · intro hh
      have hn := cl_not7 h hh
      simp at hn
theorem clS_opn {x : List UInt8} (hh : clS x = .opn) : x = [40] := by
  unfold clS at hh
  by_cases e : x = [33]
  · rw [if_pos e] at hh; cases hh
  rw [if_neg e] at hh; clear e
  by_cases e : x = [40]
  · exact e
  rw [if_neg e] at hh; clear e
  by_cases e : x = [41]
  · rw [if_pos e] at hh; cases hh
  rw [if_neg e] at hh; clear e
  by_cases e : x = [38]
  · rw [if_pos e] at hh; cases hh
  rw [if_neg e] at hh; clear e
  by_cases e : x = [124]
  · rw [if_pos e] at hh; cases hh
  rw [if_neg e] at hh; clear e
  by_cases e : x = [47]
  · rw [if_pos e] at hh; cases hh
  rw [if_neg e] at hh; clear e
  by_cases e : x = [46, 46]
  · rw [if_pos e] at hh; cases hh
  rw [if_neg e] at hh; clear e
  by_cases e : x = [61]
  · rw [if_pos e] at hh; cases hh
  rw [if_neg e] at hh; clear e
  by_cases e : x = [33, 61]
  · rw [if_pos e] at hh; cases hh
  rw [if_neg e] at hh; clear e
  by_cases e : x = [60]
  · rw [if_pos e] at hh; cases hh
  rw [if_neg e] at hh; clear e
  by_cases e : x = [60, 61]
  · rw [if_pos e] at hh; cases hh
  rw [if_neg e] at hh; clear e
  by_cases e : x = [62]
  · rw [if_pos e] at hh; cases hh
  rw [if_neg e] at hh; clear e
  by_cases e : x = [62, 61]
  · rw [if_pos e] at hh; cases hh
  rw [if_neg e] at hh; clear e
  cases hh
theorem is_opn (t : XTok) : isS t [40] = true ↔ cl nB nV pB t = .opn := by
  by_cases h : t.1 = 7
  · unfold isS cl
    rw [if_pos h]
    constructor
    · intro hh
      have : t.2.1 = [40] := by simpa [h] using hh
      rw [this]
      rfl
    · intro hh
      simp [h, clS_opn hh]
  · constructor
    · intro hh
      unfold isS at hh
      simp [h] at hh
    · intro hh
      have hn := cl_not7 h hh
      simp at hn
theorem clS_cls {x : List UInt8} (hh : clS x = .cls) : x = [41] := by
  unfold clS at hh
  by_cases e : x = [33]
  · rw [if_pos e] at hh; cases hh
  rw [if_neg e] at hh; clear e
  by_cases e : x = [40]
  · rw [if_pos e] at hh; cases hh
  rw [if_neg e] at hh; clear e
  by_cases e : x = [41]
  · exact e
  rw [if_neg e] at hh; clear e
  by_cases e : x = [38]
  · rw [if_pos e] at hh; cases hh
  rw [if_neg e] at hh; clear e
  by_cases e : x = [124]
  · rw [if_pos e] at hh; cases hh
  rw [if_neg e] at hh; clear e
  by_cases e : x = [47]
  · rw [if_pos e] at hh; cases hh
  rw [if_neg e] at hh; clear e
  by_cases e : x = [46, 46]
  · rw [if_pos e] at hh; cases hh
  rw [if_neg e] at hh; clear e
  by_cases e : x = [61]
  · rw [if_pos e] at hh; cases hh
  rw [if_neg e] at hh; clear e
  by_cases e : x = [33, 61]
  · rw [if_pos e] at hh; cases hh
  rw [if_neg e] at hh; clear e
  by_cases e : x = [60]
  · rw [if_pos e] at hh; cases hh
  rw [if_neg e] at hh; clear e
  by_cases e : x = [60, 61]
  · rw [if_pos e] at hh; cases hh
  rw [if_neg e] at hh; clear e
  by_cases e : x = [62]
  · rw [if_pos e] at hh; cases hh
  rw [if_neg e] at hh; clear e
  by_cases e : x = [62, 61]
  · rw [if_pos e] at hh; cases hh
  rw [if_neg e] at hh; clear e
  cases hh
theorem is_cls (t : XTok) : isS t [41] = true ↔ cl nB nV pB t = .cls := by
  by_cases h : t.1 = 7
  · unfold isS cl
    rw [if_pos h]
    constructor
    · intro hh
      have : t.2.1 = [41] := by simpa [h] using hh
      rw [this]
      rfl
    · intro hh
      simp [h, clS_cls hh]
  · constructor
    · intro hh
      unfold isS at hh
      simp [h] at hh
    · intro hh
      have hn := cl_not7 h hh
      simp at hn
theorem clS_amp {x : List UInt8} (hh : clS x = .amp) : x = [38] := by
  unfold clS at hh
  by_cases e : x = [33]
  · rw [if_pos e] at hh; cases hh
  rw [if_neg e] at hh; clear e
  by_cases e : x = [40]
  · rw [if_pos e] at hh; cases hh
  rw [if_neg e] at hh; clear e
  by_cases e : x = [41]
  · rw [if_pos e] at hh; cases hh
  rw [if_neg e] at hh; clear e
  by_cases e : x = [38]
  · exact e
  rw [if_neg e] at hh; clear e
  by_cases e : x = [124]
  · rw [if_pos e] at hh; cases hh
  rw [if_neg e] at hh; clear e
  by_cases e : x = [47]
  · rw [if_pos e] at hh; cases hh
  rw [if_neg e] at hh; clear e
  by_cases e : x = [46, 46]
  · rw [if_pos e] at hh; cases hh
  rw [if_neg e] at hh; clear e
  by_cases e : x = [61]
  · rw [if_pos e] at hh; cases hh
  rw [if_neg e] at hh; clear e
  by_cases e : x = [33, 61]
  · rw [if_pos e] at hh; cases hh
  rw [if_neg e] at hh; clear e
  by_cases e : x = [60]
  · rw [if_pos e] at hh; cases hh
  rw [if_neg e] at hh; clear e
  by_cases e : x = [60, 61]
  · rw [if_pos e] at hh; cases hh
  rw [if_neg e] at hh; clear e
  by_cases e : x = [62]
  · rw [if_pos e] at hh; cases hh
  rw [if_neg e] at hh; clear e
  by_cases e : x = [62, 61]
  · rw [if_pos e] at hh; cases hh
  rw [if_neg e] at hh; clear e
  cases hh
theorem is_amp (t : XTok) : isS t [38] = true ↔ cl nB nV pB t = .amp := by
  by_cases h : t.1 = 7
  · unfold isS cl
    rw [if_pos h]
    constructor
    · intro hh
      have : t.2.1 = [38] := by simpa [h] using hh
      rw [this]
      rfl
    · intro hh
      simp [h, clS_amp hh]
  · constructor
    · intro hh
      unfold isS at hh
      simp [h] at hh
    · intro hh
      have hn := cl_not7 h hh
      simp at hn
theorem clS_bar {x : List UInt8} (hh : clS x = .bar) : x = [124] := by
  unfold clS at hh
  by_cases e : x = [33]
  · rw [if_pos e] at hh; cases hh
  rw [if_neg e] at hh; clear e
  by_cases e : x = [40]
  · rw [if_pos e] at hh; cases hh
  rw [if_neg e] at hh; clear e
  by_cases e : x = [41]
  · rw [if_pos e] at hh; cases hh
  rw [if_neg e] at hh; clear e
  by_cases e : x = [38]
  · rw [if_pos e] at hh; cases hh
  rw [if_neg e] at hh; clear e
  by_cases e : x = [124]
  · exact e
  rw [if_neg e] at hh; clear e
  by_cases e : x = [47]
  · rw [if_pos e] at hh; cases hh
  rw [if_neg e] at hh; clear e
  by_cases e : x = [46, 46]
  · rw [if_pos e] at hh; cases hh
  rw [if_neg e] at hh; clear e
  by_cases e : x = [61]
  · rw [if_pos e] at hh; cases hh
  rw [if_neg e] at hh; clear e
  by_cases e : x = [33, 61]
  · rw [if_pos e] at hh; cases hh
  rw [if_neg e] at hh; clear e
  by_cases e : x = [60]
  · rw [if_pos e] at hh; cases hh
  rw [if_neg e] at hh; clear e
  by_cases e : x = [60, 61]
  · rw [if_pos e] at hh; cases hh
  rw [if_neg e] at hh; clear e
  by_cases e : x = [62]
  · rw [if_pos e] at hh; cases hh
  rw [if_neg e] at hh; clear e
  by_cases e : x = [62, 61]
  · rw [if_pos e] at hh; cases hh
  rw [if_neg e] at hh; clear e
  cases hh
theorem is_bar (t : XTok) : isS t [124] = true ↔ cl nB nV pB t = .bar := by
  by_cases h : t.1 = 7
  · unfold isS cl
    rw [if_pos h]
    constructor
    · intro hh
      have : t.2.1 = [124] := by simpa [h] using hh
      rw [this]
      rfl
    · intro hh
      simp [h, clS_bar hh]
  · constructor
    · intro hh
      unfold isS at hh
      simp [h] at hh
    · intro hh
      have hn := cl_not7 h hh
      simp at hn
theorem clS_slash {x : List UInt8} (hh : clS x = .slash) : x = [47] := by
  unfold clS at hh
  by_cases e : x = [33]
  · rw [if_pos e] at hh; cases hh
  rw [if_neg e] at hh; clear e
  by_cases e : x = [40]
  · rw [if_pos e] at hh; cases hh
  rw [if_neg e] at hh; clear e
  by_cases e : x = [41]
  · rw [if_pos e] at hh; cases hh
  rw [if_neg e] at hh; clear e
  by_cases e : x = [38]
  · rw [if_pos e] at hh; cases hh
  rw [if_neg e] at hh; clear e
  by_cases e : x = [124]
  · rw [if_pos e] at hh; cases hh
  rw [if_neg e] at hh; clear e
  by_cases e : x = [47]
  · exact e
  rw [if_neg e] at hh; clear e
  by_cases e : x = [46, 46]
  · rw [if_pos e] at hh; cases hh
  rw [if_neg e] at hh; clear e
  by_cases e : x = [61]
  · rw [if_pos e] at hh; cases hh
  rw [if_neg e] at hh; clear e
  by_cases e : x = [33, 61]
  · rw [if_pos e] at hh; cases hh
  rw [if_neg e] at hh; clear e
  by_cases e : x = [60]
  · rw [if_pos e] at hh; cases hh
  rw [if_neg e] at hh; clear e
  by_cases e : x = [60, 61]
  · rw [if_pos e] at hh; cases hh
  rw [if_neg e] at hh; clear e
  by_cases e : x = [62]
  · rw [if_pos e] at hh; cases hh
  rw [if_neg e] at hh; clear e
  by_cases e : x = [62, 61]
  · rw [if_pos e] at hh; cases hh
  rw [if_neg e] at hh; clear e
  cases hh
theorem is_slash (t : XTok) : isS t [47] = true ↔ cl nB nV pB t = .slash := by
  by_cases h : t.1 = 7
  · unfold isS cl
    rw [if_pos h]
    constructor
    · intro hh
      have : t.2.1 = [47] := by simpa [h] using hh
      rw [this]
      rfl
    · intro hh
      simp [h, clS_slash hh]
  · constructor
    · intro hh
      unfold isS at hh
      simp [h] at hh
    · intro hh
      have hn := cl_not7 h hh
      simp at hn
theorem clS_span {x : List UInt8} (hh : clS x = .span) : x = [46, 46] := by
  unfold clS at hh
  by_cases e : x = [33]
  · rw [if_pos e] at hh; cases hh
  rw [if_neg e] at hh; clear e
  by_cases e : x = [40]
  · rw [if_pos e] at hh; cases hh
  rw [if_neg e] at hh; clear e
  by_cases e : x = [41]
  · rw [if_pos e] at hh; cases hh
  rw [if_neg e] at hh; clear e
  by_cases e : x = [38]
  · rw [if_pos e] at hh; cases hh
  rw [if_neg e] at hh; clear e
  by_cases e : x = [124]
  · rw [if_pos e] at hh; cases hh
  rw [if_neg e] at hh; clear e
  by_cases e : x = [47]
  · rw [if_pos e] at hh; cases hh
  rw [if_neg e] at hh; clear e
  by_cases e : x = [46, 46]
  · exact e
  rw [if_neg e] at hh; clear e
  by_cases e : x = [61]
  · rw [if_pos e] at hh; cases hh
  rw [if_neg e] at hh; clear e
  by_cases e : x = [33, 61]
  · rw [if_pos e] at hh; cases hh
  rw [if_neg e] at hh; clear e
  by_cases e : x = [60]
  · rw [if_pos e] at hh; cases hh
  rw [if_neg e] at hh; clear e
  by_cases e : x = [60, 61]
  · rw [if_pos e] at hh; cases hh
  rw [if_neg e] at hh; clear e
  by_cases e : x = [62]
  · rw [if_pos e] at hh; cases hh
  rw [if_neg e] at hh; clear e
  by_cases e : x = [62, 61]
  · rw [if_pos e] at hh; cases hh
  rw [if_neg e] at hh; clear e
  cases hh
theorem is_span (t : XTok) : isS t [46, 46] = true ↔ cl nB nV pB t = .span := by
  by_cases h : t.1 = 7
  · unfold isS cl
    rw [if_pos h]
    constructor
    · intro hh
      have : t.2.1 = [46, 46] := by simpa [h] using hh
      rw [this]
      rfl
    · intro hh
      simp [h, clS_span hh]
  · constructor
    · intro hh
      unfold isS at hh
      simp [h] at hh
    · intro hh
      have hn := cl_not7 h hh
      simp at hn
variable {w0 W X : World} {b : Nat} {pt : Option Addr} {ct : Nat} {L : List XTok} {i o m : Nat} {out : List Nd}
def nowW (b : Nat) (W : World) : Nat := match W.cell? ⟨b, 1, none⟩ with
  | some (.int _ z) => z.toNat
  | _ => 0
theorem ST.now (h : ST w0 b pt ct L W i o m out) : nowW b W = i := by
  unfold nowW
  rw [h.cells.2.1]
  simp
def HPk (w0 : World) (b : Nat) (pt : Option Addr) (ct : Nat) (L : List XTok) (LT : List Tk) (o c pf k : Nat) : Prop :=
  ∀ (W : World) (i m : Nat) (out : List Nd) (r : PR), ST w0 b pt ct L W i o m out → out.length ≤ m ∧ m ≤ 64 → pX LT k c o i m out = some r → Calls Tryz.prog pf #[.pointer (some ⟨b, 0, none⟩)] W (RT w0 b pt ct L o r)
theorem hideL {p : Prop} (h : p) : Hid p := h
set_option maxRecDepth 100000 in
set_option maxHeartbeats 8000000 in
theorem joined_C (n : Nat) (hX : XR w0 pt L) (hb : w0.heap.size ≤ b) (hlen : L.length ≤ 100000) (HP : ∀ k, k ≤ n → HPk w0 b pt ct L (L.map (cl nB nV pB)) o 2 19 k)
    {r : PR} (h : ST w0 b pt ct L W i o m out) (hok : out.length ≤ m ∧ m ≤ 64) (hp : pX (L.map (cl nB nV pB)) (n + 1) 0 o i m out = some r) :
    Calls Tryz.prog 18 #[.pointer (some ⟨b, 0, none⟩), .string ⟨#[124]⟩, .int .i64 6, .func (.func 19) #[.pointer (some ⟨b, 0, none⟩)] #[]] W (RT w0 b pt ct L o r) := by
  obtain ⟨LT, hLT⟩ : ∃ LT, L.map (cl nB nV pB) = LT := ⟨_, rfl⟩
  have HTK : Hid (∀ i, (isS (tokAt L i) [124] = true ↔ tk LT i = .bar) ∧ LT.length = L.length) := fun i => ⟨by rw [← hLT, tk_cl]; exact is_bar _, by rw [← hLT, List.length_map]⟩
  rw [hLT] at HP hp
  have HPH : Hid (∀ k, k ≤ n → HPk w0 b pt ct L LT o 2 19 k) := HP
  have HX : Hid (XR w0 pt L ∧ w0.heap.size ≤ b ∧ L.length ≤ 100000) := ⟨hX, hb, hlen⟩
  clear HP hX hb hlen hLT
  rw [pX] at hp
  cases hq : pX LT n 2 o i m out with
  | none => rw [hq] at hp; cases hp
  | some rc =>
    rw [hq] at hp
    have HP1 := HPH.out n (Nat.le_refl _) W i m out rc h hok hq
    have HST : Hid (∀ q, rc = .ok q → pX LT n 1 o q.1 q.2.1 q.2.2 = some r ∧ q.2.2.length ≤ q.2.1 ∧ q.2.1 ≤ 64) := fun q e => by
      subst e
      obtain ⟨i1, m1, o1⟩ := q
      have hl := pX_len LT n 2 _ _ _ _ _ _ _ hq
      simp only
      exact ⟨hp, by omega, hl.2.1 hok.2⟩
    have HER : Hid (∀ p, rc = .error p → r = .error p) := fun p e => by
      subst e
      exact (Option.some.inj hp).symm
    clear hp hq h hok
    go_enter Tryz.func18, Tryz.ntmps18
    go_wp2_with fail
    refine HP1.mono ?_
    intro e W1 he
    have HS1 : Hid (∃ ve, e = .returned ve ∧ ((ve = .int .i64 0 ∧ ∃ k i m out, k ≤ n ∧ ST w0 b pt ct L W1 i o m out ∧ (out.length ≤ m ∧ m ≤ 64) ∧ pX LT k 1 o i m out = some r) ∨ (∃ p : Nat × Nat, ve = .int .i64 (p.1 : Int) ∧ p.1 ≠ 0 ∧ r = .error p ∧ ∃ m' out', ST w0 b pt ct L W1 p.2 o m' out'))) := by
      cases rc with
      | error p => exact ⟨_, he.1, .inr ⟨p, rfl, he.2.1, HER.out p rfl, he.2.2⟩⟩
      | ok q =>
        obtain ⟨a1, a2, a3⟩ := HST.out q rfl
        exact ⟨_, he.1, .inl ⟨rfl, n, q.1, q.2.1, q.2.2, Nat.le_refl _, he.2, ⟨a2, a3⟩, a1⟩⟩
    obtain ⟨ve, rfl, hs1⟩ := HS1.out
    have HS2 : Hid ((ve = .int .i64 0 ∧ ∃ k i m out, k ≤ n ∧ ST w0 b pt ct L W1 i o m out ∧ (out.length ≤ m ∧ m ≤ 64) ∧ pX LT k 1 o i m out = some r) ∨ (∃ p : Nat × Nat, ve = .int .i64 (p.1 : Int) ∧ p.1 ≠ 0 ∧ r = .error p ∧ ∃ m' out', ST w0 b pt ct L W1 p.2 o m' out')) := hs1
    have hve : ∃ z : Int, ve = .int .i64 z := by
      rcases hs1 with ⟨rfl, _⟩ | ⟨p, rfl, _⟩
      · exact ⟨_, rfl⟩
      · exact ⟨_, rfl⟩
    obtain ⟨z, rfl⟩ := hve
    clear HP1 he HS1 hs1 HST HER
    go_wp2_with fail
    go_loopw [9] (fun ve wr => ∃ z : Int, ve = .int .i64 z ∧ Hid ((Value.int .i64 z = .int .i64 0 ∧ ∃ k i m out, k ≤ n ∧ ST w0 b pt ct L wr i o m out ∧ (out.length ≤ m ∧ m ≤ 64) ∧ pX LT k 1 o i m out = some r) ∨ (∃ p : Nat × Nat, Value.int .i64 z = .int .i64 (p.1 : Int) ∧ p.1 ≠ 0 ∧ r = .error p ∧ ∃ m' out', ST w0 b pt ct L wr p.2 o m' out'))) (fun ve wr => if intOf ve = 0 then L.length + 1 - nowW b wr else 0)
    case atStart => exact ⟨z, rfl, HS2⟩
    case round =>
      clear HS2
      obtain ⟨z, rfl, HQ⟩ := hrel
      rcases HQ.out with ⟨hz, k, i, m, out, hk, hst, hok, hp⟩ | ⟨p, hz, hp0, hr, hst⟩
      · injection hz with _ hz
        subst hz
        have HA := isAt_any [124] HX.out.1 HX.out.2.2 hst
        cases k with
        | zero => rw [pX] at hp; cases hp
        | succ k =>
          rw [pX] at hp
          by_cases hbar : isS (tokAt L i) [124] = true
          · have htk := (HTK.out i).1.1 hbar
            rw [htk] at hp
            simp only at hp
            have hil : i < L.length := by
              have := tk_in htk (by intro h; cases h)
              rw [(HTK.out i).2] at this
              exact this
            rw [hbar] at HA
            obtain ⟨rb, hrb, hfin⟩ : ∃ rb : PR, (m ≠ 64 → pX LT k 2 o (i + 1) (m + 1) out = some rb) ∧ ((∃ p, mkR 6 i m rb = .error p ∧ r = .error p) ∨ (∃ q, rb = .ok q ∧ m ≠ 64 ∧ pX LT k 1 o q.1 q.2.1 (q.2.2 ++ [nd 6]) = some r)) := by
              by_cases h64 : m = 64
              · rw [if_pos h64] at hp
                exact ⟨.error (51, i), fun h => absurd h64 h, .inl ⟨(51, i), by unfold mkR; rw [if_pos h64], (Option.some.inj hp).symm⟩⟩
              · rw [if_neg h64] at hp
                cases hq : pX LT k 2 o (i + 1) (m + 1) out with
                | none => rw [hq] at hp; cases hp
                | some rb =>
                  rw [hq] at hp
                  refine ⟨rb, fun _ => rfl, ?_⟩
                  cases rb with
                  | error p => exact .inl ⟨p, by unfold mkR; rw [if_neg h64], (Option.some.inj hp).symm⟩
                  | ok q => exact .inr ⟨q, rfl, h64, hp⟩
            have hrl : ∀ q, m ≠ 64 → rb = .ok q → q.2.2.length + (m + 1) = out.length + q.2.1 ∧ q.2.1 ≤ 64 ∧ i < q.1 := fun q h64 e => by
              have h1 := hrb h64
              rw [e] at h1
              obtain ⟨i1, m1, o1⟩ := q
              have h2 := pX_len LT k 2 _ _ _ _ _ _ _ h1
              have h3 := (pX_prog LT k 2 _ _ _ _ _ _ _ h1).1
              simp only
              exact ⟨h2.1, h2.2.1 (by omega), by omega⟩
            have HM : Hid (∀ W', ST w0 b pt ct L W' i o m out → Calls Tryz.prog 36 #[.pointer (some ⟨b, 0, none⟩), .int .i64 6, .func (.func 19) #[.pointer (some ⟨b, 0, none⟩)] #[]] W' (RT w0 b pt ct L o (mkR 6 i m rb))) := fun W' hW' => making_C 6 (if m = 64 then .error (51, i) else rb) hW' HX.out.2.1 hil HX.out.2.2 hok (fun h64 W'' hW'' => by rw [if_neg h64]; exact HPH.out k (by omega) W'' (i + 1) (m + 1) out rb hW'' ⟨by omega, by omega⟩ (hrb h64)) (fun q hq => by
              by_cases h64 : m = 64
              · rw [if_pos h64] at hq; cases hq
              · rw [if_neg h64] at hq; exact ⟨(hrl q h64 hq).1, (hrl q h64 hq).2.1⟩) |> fun hh => by
                have e9 : mkR 6 i m (if m = 64 then .error (51, i) else rb) = mkR 6 i m rb := by
                  by_cases h64 : m = 64
                  · unfold mkR; rw [if_pos h64, if_pos h64]
                  · rw [if_neg h64]
                rw [e9] at hh
                exact hh
            have HNX : Hid (∀ e W', RT w0 b pt ct L o (mkR 6 i m rb) e W' → ∃ z : Int, e = .returned (.int .i64 z) ∧ ((Value.int .i64 z = .int .i64 0 ∧ ∃ k i m out, k ≤ n ∧ ST w0 b pt ct L W' i o m out ∧ (out.length ≤ m ∧ m ≤ 64) ∧ pX LT k 1 o i m out = some r) ∨ (∃ p : Nat × Nat, Value.int .i64 z = .int .i64 (p.1 : Int) ∧ p.1 ≠ 0 ∧ r = .error p ∧ ∃ m' out', ST w0 b pt ct L W' p.2 o m' out')) ∧ (if z = 0 then L.length + 1 - nowW b W' else 0) < L.length + 1 - i) := fun e W' he => by
              rcases hfin with ⟨p, e1, e2⟩ | ⟨q, e1, h64, e2⟩
              · rw [e1] at he
                refine ⟨_, he.1, .inr ⟨p, rfl, he.2.1, e2, he.2.2⟩, ?_⟩
                rw [if_neg (by have := he.2.1; omega)]
                omega
              · have e3 : mkR 6 i m rb = .ok (q.1, q.2.1, q.2.2 ++ [nd 6]) := by unfold mkR; rw [if_neg h64, e1]
                rw [e3] at he
                obtain ⟨a1, a2, a3⟩ := hrl q h64 e1
                have hst2 : ST w0 b pt ct L W' q.1 o q.2.1 (q.2.2 ++ [nd 6]) := he.2
                refine ⟨0, he.1, .inl ⟨rfl, k, q.1, q.2.1, q.2.2 ++ [nd 6], by omega, hst2, ⟨by rw [List.length_append, List.length_singleton]; omega, a2⟩, e2⟩, ?_⟩
                rw [if_pos rfl, hst2.now]
                have := hst2.2.2
                omega
            have HI : Hid (nowW b wr = i ∧ ST w0 b pt ct L wr i o m out) := ⟨hst.now, hst⟩
            clear hst hok hp hbar htk hil hrb hfin hrl HQ
            go_wp2_with fail
            refine HA.mono ?_
            rintro e W2 ⟨rfl, b2⟩
            have HM2 := HM.out W2 (HI.out.2.below b2)
            clear HA b2
            go_wp2_with fail
            refine HM2.mono ?_
            intro e W3 he
            obtain ⟨z3, rfl, h3, h4⟩ := HNX.out e W3 he
            have H3 := hideL h3
            have H4 : Hid ((if z3 = 0 then L.length + 1 - nowW b W3 else 0) < L.length + 1 - i) := h4
            clear he h3 h4 HM2 HNX HM
            go_wp2_with fail
            exact ⟨⟨z3, rfl, H3⟩, by have h5 := H4.out; have h6 := HI.out.1; show (if (z3 : Int) = 0 then L.length + 1 - nowW b W3 else 0) < (if (0 : Int) = 0 then L.length + 1 - nowW b wr else 0); rw [if_pos (rfl : (0 : Int) = 0), h6]; exact h5⟩
          · have hbar2 : isS (tokAt L i) [124] = false := by simpa using hbar
            have htk : tk LT i ≠ .bar := fun h => hbar ((HTK.out i).1.2 h)
            have hr : r = .ok (i, m, out) := by
              split at hp
              · rename_i h9; exact absurd h9 htk
              · exact (Option.some.inj hp).symm
            subst hr
            rw [hbar2] at HA
            have HI : Hid (ST w0 b pt ct L wr i o m out) := hst
            clear hst hok hp hbar hbar2 htk HQ
            go_wp2_with fail
            refine HA.mono ?_
            rintro e W2 ⟨rfl, b2⟩
            have HF : Hid (ST w0 b pt ct L W2 i o m out) := HI.out.below b2
            clear HA b2 HI
            go_wp2_with fail
            go_ret
            exact ⟨rfl, HF.out⟩
      · injection hz with _ hz
        subst hz
        obtain ⟨pn, pp⟩ := p
        have y1 : ((pn : Int) == 0) = false := beq_eq_false_iff_ne.2 (by simp only at hp0; omega)
        have HF : Hid (r = .error (pn, pp) ∧ pn ≠ 0 ∧ ∃ m' out', ST w0 b pt ct L wr pp o m' out') := ⟨hr, hp0, hst⟩
        clear hr hst HQ hp0
        go_wp2_with fail
        go_ret
        rw [HF.out.1]
        exact ⟨rfl, HF.out.2.1, HF.out.2.2⟩
set_option maxRecDepth 100000 in
set_option maxHeartbeats 8000000 in
theorem joined_F (n : Nat) (hX : XR w0 pt L) (hb : w0.heap.size ≤ b) (hlen : L.length ≤ 100000) (HP : ∀ k, k ≤ n → HPk w0 b pt ct L (L.map (cl nB nV pB)) o 4 37 k)
    {r : PR} (h : ST w0 b pt ct L W i o m out) (hok : out.length ≤ m ∧ m ≤ 64) (hp : pX (L.map (cl nB nV pB)) (n + 1) 2 o i m out = some r) :
    Calls Tryz.prog 18 #[.pointer (some ⟨b, 0, none⟩), .string ⟨#[38]⟩, .int .i64 5, .func (.func 37) #[.pointer (some ⟨b, 0, none⟩)] #[]] W (RT w0 b pt ct L o r) := by
  obtain ⟨LT, hLT⟩ : ∃ LT, L.map (cl nB nV pB) = LT := ⟨_, rfl⟩
  have HTK : Hid (∀ i, (isS (tokAt L i) [38] = true ↔ tk LT i = .amp) ∧ LT.length = L.length) := fun i => ⟨by rw [← hLT, tk_cl]; exact is_amp _, by rw [← hLT, List.length_map]⟩
  rw [hLT] at HP hp
  have HPH : Hid (∀ k, k ≤ n → HPk w0 b pt ct L LT o 4 37 k) := HP
  have HX : Hid (XR w0 pt L ∧ w0.heap.size ≤ b ∧ L.length ≤ 100000) := ⟨hX, hb, hlen⟩
  clear HP hX hb hlen hLT
  rw [pX] at hp
  cases hq : pX LT n 4 o i m out with
  | none => rw [hq] at hp; cases hp
  | some rc =>
    rw [hq] at hp
    have HP1 := HPH.out n (Nat.le_refl _) W i m out rc h hok hq
    have HST : Hid (∀ q, rc = .ok q → pX LT n 3 o q.1 q.2.1 q.2.2 = some r ∧ q.2.2.length ≤ q.2.1 ∧ q.2.1 ≤ 64) := fun q e => by
      subst e
      obtain ⟨i1, m1, o1⟩ := q
      have hl := pX_len LT n 4 _ _ _ _ _ _ _ hq
      simp only
      exact ⟨hp, by omega, hl.2.1 hok.2⟩
    have HER : Hid (∀ p, rc = .error p → r = .error p) := fun p e => by
      subst e
      exact (Option.some.inj hp).symm
    clear hp hq h hok
    go_enter Tryz.func18, Tryz.ntmps18
    go_wp2_with fail
    refine HP1.mono ?_
    intro e W1 he
    have HS1 : Hid (∃ ve, e = .returned ve ∧ ((ve = .int .i64 0 ∧ ∃ k i m out, k ≤ n ∧ ST w0 b pt ct L W1 i o m out ∧ (out.length ≤ m ∧ m ≤ 64) ∧ pX LT k 3 o i m out = some r) ∨ (∃ p : Nat × Nat, ve = .int .i64 (p.1 : Int) ∧ p.1 ≠ 0 ∧ r = .error p ∧ ∃ m' out', ST w0 b pt ct L W1 p.2 o m' out'))) := by
      cases rc with
      | error p => exact ⟨_, he.1, .inr ⟨p, rfl, he.2.1, HER.out p rfl, he.2.2⟩⟩
      | ok q =>
        obtain ⟨a1, a2, a3⟩ := HST.out q rfl
        exact ⟨_, he.1, .inl ⟨rfl, n, q.1, q.2.1, q.2.2, Nat.le_refl _, he.2, ⟨a2, a3⟩, a1⟩⟩
    obtain ⟨ve, rfl, hs1⟩ := HS1.out
    have HS2 : Hid ((ve = .int .i64 0 ∧ ∃ k i m out, k ≤ n ∧ ST w0 b pt ct L W1 i o m out ∧ (out.length ≤ m ∧ m ≤ 64) ∧ pX LT k 3 o i m out = some r) ∨ (∃ p : Nat × Nat, ve = .int .i64 (p.1 : Int) ∧ p.1 ≠ 0 ∧ r = .error p ∧ ∃ m' out', ST w0 b pt ct L W1 p.2 o m' out')) := hs1
    have hve : ∃ z : Int, ve = .int .i64 z := by
      rcases hs1 with ⟨rfl, _⟩ | ⟨p, rfl, _⟩
      · exact ⟨_, rfl⟩
      · exact ⟨_, rfl⟩
    obtain ⟨z, rfl⟩ := hve
    clear HP1 he HS1 hs1 HST HER
    go_wp2_with fail
    go_loopw [9] (fun ve wr => ∃ z : Int, ve = .int .i64 z ∧ Hid ((Value.int .i64 z = .int .i64 0 ∧ ∃ k i m out, k ≤ n ∧ ST w0 b pt ct L wr i o m out ∧ (out.length ≤ m ∧ m ≤ 64) ∧ pX LT k 3 o i m out = some r) ∨ (∃ p : Nat × Nat, Value.int .i64 z = .int .i64 (p.1 : Int) ∧ p.1 ≠ 0 ∧ r = .error p ∧ ∃ m' out', ST w0 b pt ct L wr p.2 o m' out'))) (fun ve wr => if intOf ve = 0 then L.length + 1 - nowW b wr else 0)
    case atStart => exact ⟨z, rfl, HS2⟩
    case round =>
      clear HS2
      obtain ⟨z, rfl, HQ⟩ := hrel
      rcases HQ.out with ⟨hz, k, i, m, out, hk, hst, hok, hp⟩ | ⟨p, hz, hp0, hr, hst⟩
      · injection hz with _ hz
        subst hz
        have HA := isAt_any [38] HX.out.1 HX.out.2.2 hst
        cases k with
        | zero => rw [pX] at hp; cases hp
        | succ k =>
          rw [pX] at hp
          by_cases hbar : isS (tokAt L i) [38] = true
          · have htk := (HTK.out i).1.1 hbar
            rw [htk] at hp
            simp only at hp
            have hil : i < L.length := by
              have := tk_in htk (by intro h; cases h)
              rw [(HTK.out i).2] at this
              exact this
            rw [hbar] at HA
            obtain ⟨rb, hrb, hfin⟩ : ∃ rb : PR, (m ≠ 64 → pX LT k 4 o (i + 1) (m + 1) out = some rb) ∧ ((∃ p, mkR 5 i m rb = .error p ∧ r = .error p) ∨ (∃ q, rb = .ok q ∧ m ≠ 64 ∧ pX LT k 3 o q.1 q.2.1 (q.2.2 ++ [nd 5]) = some r)) := by
              by_cases h64 : m = 64
              · rw [if_pos h64] at hp
                exact ⟨.error (51, i), fun h => absurd h64 h, .inl ⟨(51, i), by unfold mkR; rw [if_pos h64], (Option.some.inj hp).symm⟩⟩
              · rw [if_neg h64] at hp
                cases hq : pX LT k 4 o (i + 1) (m + 1) out with
                | none => rw [hq] at hp; cases hp
                | some rb =>
                  rw [hq] at hp
                  refine ⟨rb, fun _ => rfl, ?_⟩
                  cases rb with
                  | error p => exact .inl ⟨p, by unfold mkR; rw [if_neg h64], (Option.some.inj hp).symm⟩
                  | ok q => exact .inr ⟨q, rfl, h64, hp⟩
            have hrl : ∀ q, m ≠ 64 → rb = .ok q → q.2.2.length + (m + 1) = out.length + q.2.1 ∧ q.2.1 ≤ 64 ∧ i < q.1 := fun q h64 e => by
              have h1 := hrb h64
              rw [e] at h1
              obtain ⟨i1, m1, o1⟩ := q
              have h2 := pX_len LT k 4 _ _ _ _ _ _ _ h1
              have h3 := (pX_prog LT k 4 _ _ _ _ _ _ _ h1).1
              simp only
              exact ⟨h2.1, h2.2.1 (by omega), by omega⟩
            have HM : Hid (∀ W', ST w0 b pt ct L W' i o m out → Calls Tryz.prog 36 #[.pointer (some ⟨b, 0, none⟩), .int .i64 5, .func (.func 37) #[.pointer (some ⟨b, 0, none⟩)] #[]] W' (RT w0 b pt ct L o (mkR 5 i m rb))) := fun W' hW' => making_F 5 (if m = 64 then .error (51, i) else rb) hW' HX.out.2.1 hil HX.out.2.2 hok (fun h64 W'' hW'' => by rw [if_neg h64]; exact HPH.out k (by omega) W'' (i + 1) (m + 1) out rb hW'' ⟨by omega, by omega⟩ (hrb h64)) (fun q hq => by
              by_cases h64 : m = 64
              · rw [if_pos h64] at hq; cases hq
              · rw [if_neg h64] at hq; exact ⟨(hrl q h64 hq).1, (hrl q h64 hq).2.1⟩) |> fun hh => by
                have e9 : mkR 5 i m (if m = 64 then .error (51, i) else rb) = mkR 5 i m rb := by
                  by_cases h64 : m = 64
                  · unfold mkR; rw [if_pos h64, if_pos h64]
                  · rw [if_neg h64]
                rw [e9] at hh
                exact hh
            have HNX : Hid (∀ e W', RT w0 b pt ct L o (mkR 5 i m rb) e W' → ∃ z : Int, e = .returned (.int .i64 z) ∧ ((Value.int .i64 z = .int .i64 0 ∧ ∃ k i m out, k ≤ n ∧ ST w0 b pt ct L W' i o m out ∧ (out.length ≤ m ∧ m ≤ 64) ∧ pX LT k 3 o i m out = some r) ∨ (∃ p : Nat × Nat, Value.int .i64 z = .int .i64 (p.1 : Int) ∧ p.1 ≠ 0 ∧ r = .error p ∧ ∃ m' out', ST w0 b pt ct L W' p.2 o m' out')) ∧ (if z = 0 then L.length + 1 - nowW b W' else 0) < L.length + 1 - i) := fun e W' he => by
              rcases hfin with ⟨p, e1, e2⟩ | ⟨q, e1, h64, e2⟩
              · rw [e1] at he
                refine ⟨_, he.1, .inr ⟨p, rfl, he.2.1, e2, he.2.2⟩, ?_⟩
                rw [if_neg (by have := he.2.1; omega)]
                omega
              · have e3 : mkR 5 i m rb = .ok (q.1, q.2.1, q.2.2 ++ [nd 5]) := by unfold mkR; rw [if_neg h64, e1]
                rw [e3] at he
                obtain ⟨a1, a2, a3⟩ := hrl q h64 e1
                have hst2 : ST w0 b pt ct L W' q.1 o q.2.1 (q.2.2 ++ [nd 5]) := he.2
                refine ⟨0, he.1, .inl ⟨rfl, k, q.1, q.2.1, q.2.2 ++ [nd 5], by omega, hst2, ⟨by rw [List.length_append, List.length_singleton]; omega, a2⟩, e2⟩, ?_⟩
                rw [if_pos rfl, hst2.now]
                have := hst2.2.2
                omega
            have HI : Hid (nowW b wr = i ∧ ST w0 b pt ct L wr i o m out) := ⟨hst.now, hst⟩
            clear hst hok hp hbar htk hil hrb hfin hrl HQ
            go_wp2_with fail
            refine HA.mono ?_
            rintro e W2 ⟨rfl, b2⟩
            have HM2 := HM.out W2 (HI.out.2.below b2)
            clear HA b2
            go_wp2_with fail
            refine HM2.mono ?_
            intro e W3 he
            obtain ⟨z3, rfl, h3, h4⟩ := HNX.out e W3 he
            have H3 := hideL h3
            have H4 : Hid ((if z3 = 0 then L.length + 1 - nowW b W3 else 0) < L.length + 1 - i) := h4
            clear he h3 h4 HM2 HNX HM
            go_wp2_with fail
            exact ⟨⟨z3, rfl, H3⟩, by have h5 := H4.out; have h6 := HI.out.1; show (if (z3 : Int) = 0 then L.length + 1 - nowW b W3 else 0) < (if (0 : Int) = 0 then L.length + 1 - nowW b wr else 0); rw [if_pos (rfl : (0 : Int) = 0), h6]; exact h5⟩
          · have hbar2 : isS (tokAt L i) [38] = false := by simpa using hbar
            have htk : tk LT i ≠ .amp := fun h => hbar ((HTK.out i).1.2 h)
            have hr : r = .ok (i, m, out) := by
              split at hp
              · rename_i h9; exact absurd h9 htk
              · exact (Option.some.inj hp).symm
            subst hr
            rw [hbar2] at HA
            have HI : Hid (ST w0 b pt ct L wr i o m out) := hst
            clear hst hok hp hbar hbar2 htk HQ
            go_wp2_with fail
            refine HA.mono ?_
            rintro e W2 ⟨rfl, b2⟩
            have HF : Hid (ST w0 b pt ct L W2 i o m out) := HI.out.below b2
            clear HA b2 HI
            go_wp2_with fail
            go_ret
            exact ⟨rfl, HF.out⟩
      · injection hz with _ hz
        subst hz
        obtain ⟨pn, pp⟩ := p
        have y1 : ((pn : Int) == 0) = false := beq_eq_false_iff_ne.2 (by simp only at hp0; omega)
        have HF : Hid (r = .error (pn, pp) ∧ pn ≠ 0 ∧ ∃ m' out', ST w0 b pt ct L wr pp o m' out') := ⟨hr, hp0, hst⟩
        clear hr hst HQ hp0
        go_wp2_with fail
        go_ret
        rw [HF.out.1]
        exact ⟨rfl, HF.out.2.1, HF.out.2.2⟩
end Go.Proofs.YtffgkjmfeannoaaGreatDoor.Ex

import Derived.RowKit
import Derived.Test.YtecgjlpmmailjaaGreatDoorXAD
import Derived.Test.YtecgjlpmmailjaaGreatDoorXAC
import Derived.Deep.RegionHeld3
namespace Go.Proofs.YtecgjlpmmailjaaGreatDoor
section
variable {α : Type} (sp : α → α → List α)
/-- one list further: each of l without d -/
def exS (l : List α) (d : α) : List α := l.flatMap (fun c => sp c d)
/-- what is left of all of l, without the one behind the other -/
def exT (l : List α) : List α → List α
  | [] => l
  | d :: r => exT (exS sp l d) r
/-- how many there are where j are still to be taken away -/
def lvl (l : List α) : List α → Nat → Nat
  | [], j => if j = 0 then l.length else 0
  | d :: r, j => if j = r.length + 1 then l.length else lvl (exS sp l d) r j
/-- no list on the way is longer than lim, together with n -/
def exO (n lim : Nat) (l : List α) : List α → Bool
  | [] => decide (n + l.length ≤ lim)
  | d :: r => decide (n + l.length ≤ lim) && exO n lim (exS sp l d) r
/-- terms, one behind the other; none: some list was too long -/
def exE (lim : Nat) : List α → List (α × List α) → Option (List α)
  | out, [] => some out
  | out, t :: r => if exO sp out.length lim [t.1] t.2 = true then exE lim (out ++ exT sp [t.1] t.2) r else none
theorem exS_app (l m : List α) (d : α) : exS sp (l ++ m) d = exS sp l d ++ exS sp m d := List.flatMap_append
theorem exS_one (c d : α) : exS sp [c] d = sp c d := by simp [exS]
theorem exS_nil (d : α) : exS sp [] d = [] := rfl
theorem exT_app : ∀ (L l m : List α), exT sp (l ++ m) L = exT sp l L ++ exT sp m L
  | [], _, _ => rfl
  | d :: r, l, m => by
    show exT sp (exS sp (l ++ m) d) r = _
    rw [exS_app, exT_app r]
    rfl
theorem exT_nil : ∀ (L : List α), exT sp [] L = []
  | [] => rfl
  | _ :: r => exT_nil r
theorem lvl_app : ∀ (L l m : List α) (j : Nat), lvl sp (l ++ m) L j = lvl sp l L j + lvl sp m L j
  | [], l, m, j => by
    unfold lvl
    split
    · simp
    · rfl
  | d :: r, l, m, j => by
    unfold lvl
    split
    · simp
    · rw [exS_app, lvl_app r]
theorem lvl_nil : ∀ (L : List α) (j : Nat), lvl sp [] L j = 0
  | [], j => by
    unfold lvl
    split <;> rfl
  | d :: r, j => by
    unfold lvl
    split
    · rfl
    · exact lvl_nil r j
theorem lvl_top (l : List α) : ∀ L : List α, lvl sp l L L.length = l.length
  | [] => by simp [lvl]
  | d :: r => by simp [lvl]
theorem lvl_over : ∀ (L l : List α) (j : Nat), L.length < j → lvl sp l L j = 0
  | [], l, j, h => by
    have : ¬ j = 0 := by simp at h; omega
    simp [lvl, this]
  | d :: r, l, j, h => by
    have h1 : ¬ j = r.length + 1 := by simp at h; omega
    simp only [lvl, if_neg h1]
    exact lvl_over r _ j (by simp at h; omega)
theorem lvl_zero : ∀ (L l : List α), lvl sp l L 0 = (exT sp l L).length
  | [], l => by simp [lvl, exT]
  | d :: r, l => by
    have h1 : ¬ (0 = r.length + 1) := by omega
    simp only [lvl, if_neg h1, exT]
    exact lvl_zero r _
theorem lvl_take (L P : List α) (i j : Nat) : lvl sp (P.take i) L j ≤ lvl sp P L j := by
  have h := lvl_app sp L (P.take i) (P.drop i) j
  rw [List.take_append_drop] at h
  omega
theorem lvl_succ {L P : List α} {i : Nat} {p : α} (h : P[i]? = some p) (j : Nat) : lvl sp (P.take (i + 1)) L j = lvl sp (P.take i) L j + lvl sp [p] L j := by
  rw [List.take_add_one, h, lvl_app]
  rfl
theorem exT_succ {L P : List α} {i : Nat} {p : α} (h : P[i]? = some p) : exT sp (P.take (i + 1)) L = exT sp (P.take i) L ++ exT sp [p] L := by
  rw [List.take_add_one, h, exT_app]
  rfl
theorem lvl_cons (c d : α) (r : List α) (j : Nat) : lvl sp [c] (d :: r) j = if j = r.length + 1 then 1 else lvl sp (sp c d) r j := by
  show (if j = r.length + 1 then [c].length else lvl sp (exS sp [c] d) r j) = _
  rw [exS_one]
  rfl
theorem exT_cons (c d : α) (r : List α) : exT sp [c] (d :: r) = exT sp (sp c d) r := by
  show exT sp (exS sp [c] d) r = _
  rw [exS_one]
/-- the counts that a way down from l adds stay within the room -/
def dok (room : Int) (M : Nat → Nat) (l L : List α) : Prop := ∀ j, j ≤ L.length → ((M j + lvl sp l L j : Nat) : Int) ≤ room
theorem exO_iff (n lim : Nat) : ∀ (L l : List α), exO sp n lim l L = true ↔ ∀ j, j ≤ L.length → n + lvl sp l L j ≤ lim
  | [], l => by
    unfold exO
    rw [decide_eq_true_iff]
    constructor
    · intro h j hj
      have : j = 0 := by simpa using hj
      subst this
      simpa [lvl] using h
    · intro h
      have := h 0 (Nat.le_refl _)
      simpa [lvl] using this
  | d :: r, l => by
    unfold exO
    rw [Bool.and_eq_true, decide_eq_true_iff, exO_iff n lim r]
    constructor
    · rintro ⟨h1, h2⟩ j hj
      unfold lvl
      split
      · exact h1
      · rename_i hne
        exact h2 j (by simp at hj; omega)
    · intro h
      refine ⟨?_, fun j hj => ?_⟩
      · have := h (r.length + 1) (by simp)
        simpa [lvl] using this
      · have h3 := h j (by simp; omega)
        unfold lvl at h3
        rw [if_neg (by omega)] at h3
        exact h3
theorem dok_exO {n lim : Nat} (l L : List α) : dok sp ((lim : Int) - (n : Int)) (fun _ => 0) l L ↔ exO sp n lim l L = true := by
  rw [exO_iff]
  unfold dok
  constructor
  · intro h j hj
    have h1 : ((0 + lvl sp l L j : Nat) : Int) ≤ (lim : Int) - (n : Int) := h j hj
    omega
  · intro h j hj
    have h1 := h j hj
    show ((0 + lvl sp l L j : Nat) : Int) ≤ (lim : Int) - (n : Int)
    omega
theorem exO_len {n lim : Nat} {l L : List α} (h : exO sp n lim l L = true) : n + (exT sp l L).length ≤ lim := by
  have := (exO_iff sp n lim L l).1 h 0 (Nat.zero_le _)
  rw [lvl_zero] at this
  exact this
/-- the first count on the way down -/
theorem dok_first {room : Int} {M : Nat → Nat} {c : α} {L : List α} (h : dok sp room M [c] L) : ((M L.length + 1 : Nat) : Int) ≤ room := by
  have := h L.length (Nat.le_refl _)
  rw [lvl_top] at this
  exact this
/-- the way down from c, by the pieces -/
theorem dok_down {room : Int} {M : Nat → Nat} {c d : α} {r : List α} : dok sp room M [c] (d :: r) ↔ ((M (r.length + 1) + 1 : Nat) : Int) ≤ room ∧ dok sp room M (sp c d) r := by
  unfold dok
  constructor
  · intro h
    refine ⟨?_, fun j hj => ?_⟩
    · have := h (r.length + 1) (by simp)
      rw [lvl_cons, if_pos rfl] at this
      exact this
    · have := h j (by simp; omega)
      rw [lvl_cons, if_neg (by omega)] at this
      exact this
  · rintro ⟨h1, h2⟩ j hj
    rw [lvl_cons]
    split
    · rename_i e
      rw [e]
      exact h1
    · exact h2 j (by simp at hj; omega)
theorem dok_piece {room : Int} {M : Nat → Nat} {P r : List α} {i : Nat} {p : α} (hp : P[i]? = some p) (h : dok sp room M P r) : dok sp room (fun j => M j + lvl sp (P.take i) r j) [p] r := fun j hj => by
  have h1 := h j hj
  have h2 := lvl_take sp r P (i + 1) j
  rw [lvl_succ sp hp] at h2
  show ((M j + lvl sp (P.take i) r j + lvl sp [p] r j : Nat) : Int) ≤ room
  omega
theorem dok_all {room : Int} {M : Nat → Nat} {P r : List α} (hr : ∀ j, j ≤ r.length → (M j : Int) ≤ room) (h : ∀ i p, P[i]? = some p → dok sp room (fun j => M j + lvl sp (P.take i) r j) [p] r) : dok sp room M P r := fun j hj => by
  cases hP : P.length with
  | zero =>
    rw [List.eq_nil_of_length_eq_zero hP, lvl_nil]
    exact hr j hj
  | succ m =>
    have hm : m < P.length := by omega
    have h1 := h m P[m] (List.getElem?_eq_getElem hm) j hj
    have h2 := lvl_succ sp (L := r) (List.getElem?_eq_getElem hm) j
    have e : P.take (m + 1) = P := List.take_of_length_le (by omega)
    rw [e] at h2
    rw [h2]
    have h1' : ((M j + lvl sp (P.take m) r j + lvl sp [P[m]] r j : Nat) : Int) ≤ room := h1
    omega
/-- the counts behind i pieces -/
def cntD (M : Nat → Nat) (k : Nat) (j : Nat) : Nat := if j = k then M j + 1 else M j
end
end Go.Proofs.YtecgjlpmmailjaaGreatDoor
namespace Go.Proofs.YtecgjlpmmailjaaGreatDoor
open Go.RowKit
theorem split_any (a b : List UInt8) (L : List (List UInt8)) (w : World) (ha : good a = true) (gb : good b = true) (hL : splT a b = L) :
    Calls Tryz.prog 52 #[cubeV a, cubeV b] w fun e w' => ∃ v, e = .returned v ∧ w'.ownsRow w.heap.size 58 9 v L.length (cels L) ∧ Below w.heap.size w w' := by
  subst hL
  unfold splT
  cases h : agB a b
  · exact split_no a b w ha h
  · exact split_try a b w ha gb h
theorem good_set (t : List UInt8) (p : Nat) (x : UInt8) (ht : good t = true) (hx : tri x = true) : good (t.set p x) = true := by
  simp only [good, Bool.and_eq_true, decide_eq_true_eq, List.all_eq_true, List.length_set] at ht ⊢
  refine ⟨ht.1, fun y hy => ?_⟩
  rcases List.mem_or_eq_of_mem_set hy with h | rfl
  · exact ht.2 y h
  · exact hx

theorem good_pcs (a b : List UInt8) (hl : a.length = b.length) (ga : good a = true) (gb : good b = true) (p : Nat) : ∀ x ∈ pcs a b p, good x = true := by
  induction p with
  | zero => intro x hx; simp [pcs] at hx
  | succ p ih =>
    cases hq : qual a b p
    · have hs : ∀ k, p ≤ k → k < p + 1 → qual a b k = false := by
        intro k h1 h2
        have e : k = p := by omega
        subst e
        exact hq
      rw [pcs_skip a b p (p + 1) (by omega) hs]
      exact ih
    · rw [pcs_succ a b p hq]
      intro x hx
      rcases List.mem_append.1 hx with h | h
      · exact ih x h
      · rw [List.mem_singleton] at h
        subst h
        exact good_set _ _ _ (rs_good a b hl ga gb p) (by unfold oth; split <;> decide)

theorem good_spl (a b : List UInt8) (hl : a.length = b.length) (ga : good a = true) (gb : good b = true) : ∀ x ∈ splT a b, good x = true := by
  unfold splT
  split
  · exact good_pcs a b hl ga gb _
  · intro x hx
    rw [List.mem_singleton] at hx
    subst hx
    exact ga

theorem spl_len (a b : List UInt8) (ha : a.length ≤ 256) : (splT a b).length ≤ 256 := by
  unfold splT
  split
  · have := pcs_len a b a.length; omega
  · simp
theorem pcs_wide (a b : List UInt8) (hl : a.length = b.length) (p : Nat) : ∀ x ∈ pcs a b p, x.length = a.length := by
  induction p with
  | zero => intro x hx; simp [pcs] at hx
  | succ p ih =>
    cases hq : qual a b p
    · have hs : ∀ k, p ≤ k → k < p + 1 → qual a b k = false := by
        intro k h1 h2
        have e : k = p := by omega
        subst e
        exact hq
      rw [pcs_skip a b p (p + 1) (by omega) hs]
      exact ih
    · rw [pcs_succ a b p hq]
      intro x hx
      rcases List.mem_append.1 hx with h | h
      · exact ih x h
      · rw [List.mem_singleton] at h
        subst h
        unfold pcT
        rw [List.length_set, rs_len a b hl]
theorem spl_wide (a b : List UInt8) (hl : a.length = b.length) : ∀ x ∈ splT a b, x.length = a.length := by
  unfold splT
  split
  · exact pcs_wide a b hl _
  · intro x hx
    rw [List.mem_singleton] at hx
    subst hx
    rfl
/-- good cubes of one width -/
def gdW (n : Nat) (l : List (List UInt8)) : Prop := ∀ x ∈ l, good x = true ∧ x.length = n
theorem gdW_exS {n : Nat} {l : List (List UInt8)} {d : List UInt8} (h : gdW n l) (hd : good d = true) (hn : d.length = n) : gdW n (exS splT l d) := fun x hx => by
  unfold exS at hx
  obtain ⟨c, hc, hx⟩ := List.mem_flatMap.1 hx
  obtain ⟨h1, h2⟩ := h c hc
  exact ⟨good_spl c d (by omega) h1 hd x hx, (spl_wide c d (by omega) x hx).trans h2⟩
theorem gdW_exT {n : Nat} : ∀ (L l : List (List UInt8)), gdW n l → gdW n L → gdW n (exT splT l L)
  | [], _, h, _ => h
  | d :: r, _, h, hL => gdW_exT r _ (gdW_exS h (hL d List.mem_cons_self).1 (hL d List.mem_cons_self).2) (fun x hx => hL x (List.mem_cons_of_mem _ hx))
end Go.Proofs.YtecgjlpmmailjaaGreatDoor
namespace Go.Proofs.YtecgjlpmmailjaaGreatDoor

/-- the least cube that holds both -/
def huT (a b : List UInt8) : List UInt8 := List.zipWith (fun x y => if x == y then x else 120) a b

theorem huT_len (a b : List UInt8) (h : a.length = b.length) : (huT a b).length = a.length := by simp [huT]; omega
theorem huT_get (a b : List UInt8) (h : a.length = b.length) (k : Nat) (hk : k < a.length) : (huT a b)[k]? = some (if a[k] == b[k]'(by omega) then a[k] else 120) := by
  simp [huT, List.getElem?_zipWith, List.getElem?_eq_getElem hk, List.getElem?_eq_getElem (show k < b.length by omega)]
theorem good_huT (a b : List UInt8) (ha : good a = true) (hb : good b = true) : good (huT a b) = true :=
  good_zip _ a b ha hb (fun x y hx _ => by
    show tri (if (x == y) = true then x else 120) = true
    split
    · exact hx
    · decide)

theorem fx_hu (a b : List UInt8) (h : a.length = b.length) (ga : good a = true) (gb : good b = true) (k : Nat) : fx (huT a b) k = (fx a k && (fx b k && !(on a k ^^ on b k))) := by
  by_cases hk : k < a.length
  · have hb : k < b.length := by omega
    have ta := good_tri ga k hk
    have tb := good_tri gb k hb
    simp only [fx, on, huT_get a b h k hk, List.getElem?_eq_getElem hk, List.getElem?_eq_getElem hb]
    generalize a[k] = x at *
    generalize b[k] = y at *
    simp only [tri, Bool.or_eq_true, beq_iff_eq] at ta tb
    rcases ta with (rfl | rfl) | rfl <;> rcases tb with (rfl | rfl) | rfl <;> decide
  · simp only [fx, on]
    rw [List.getElem?_eq_none (by rw [huT_len a b h]; omega), List.getElem?_eq_none (show a.length ≤ k by omega), List.getElem?_eq_none (show b.length ≤ k by omega)]; rfl

theorem on_hu (a b : List UInt8) (h : a.length = b.length) (k : Nat) : on (huT a b) k = (on a k && fx (huT a b) k) := by
  by_cases hk : k < a.length
  · simp only [fx, on, huT_get a b h k hk, List.getElem?_eq_getElem hk]
    generalize a[k] = x
    generalize b[k]'(by omega) = y
    by_cases e : x = y
    · subst e
      by_cases e2 : x = 49 <;> simp [e2]
    · simp [e]
  · simp only [fx, on]
    rw [List.getElem?_eq_none (by rw [huT_len a b h]; omega), List.getElem?_eq_none (show a.length ≤ k by omega)]; rfl

theorem FW_hu (a b : List UInt8) (h : a.length = b.length) (ga : good a = true) (gb : good b = true) (w : Nat) :
    bits .and .u64 (FW a w : Int) (bits .andNot .u64 (FW b w : Int) (bits .xor .u64 (OW a w : Int) (OW b w : Int))) = (FW (huT a b) w : Nat) := by
  have hx : OW a w ^^^ OW b w < 18446744073709551616 := xor_lt (OW_lt _ _) (OW_lt _ _)
  rw [u64_xor_nat _ _ (OW_lt _ _) (OW_lt _ _), u64_andNot_nat _ _ (FW_lt _ _) hx, u64_and_nat _ _ (FW_lt _ _) (and_lt _ (FW_lt _ _))]
  congr 1
  apply Nat.eq_of_testBit_eq
  intro i
  rw [Nat.testBit_and, andnot_bit _ _ hx, Nat.testBit_xor, FW_bit, FW_bit, OW_bit, OW_bit, FW_bit, fx_hu a b h ga gb]
  by_cases hi : i < 64 <;> simp [hi]
theorem OW_hu (a b : List UInt8) (h : a.length = b.length) (w : Nat) : bits .and .u64 (OW a w : Int) (FW (huT a b) w : Int) = (OW (huT a b) w : Nat) := by
  rw [u64_and_nat _ _ (OW_lt _ _) (FW_lt _ _)]
  congr 1
  apply Nat.eq_of_testBit_eq
  intro i
  rw [Nat.testBit_and, OW_bit, FW_bit, OW_bit, on_hu a b h]
  by_cases hi : i < 64 <;> simp [hi]
end Go.Proofs.YtecgjlpmmailjaaGreatDoor
namespace Go.Proofs.YtecgjlpmmailjaaGreatDoor
open Go.RowKit

/-- the cells of a cube -/
def ce9 (t : List UInt8) : List Value := [.int .i64 (t.length : Int), .int .u64 (FW t 0 : Int), .int .u64 (FW t 1 : Int), .int .u64 (FW t 2 : Int), .int .u64 (FW t 3 : Int), .int .u64 (OW t 0 : Int), .int .u64 (OW t 1 : Int), .int .u64 (OW t 2 : Int), .int .u64 (OW t 3 : Int)]
/-- the cells of a list of cubes -/
def ces (l : List (List UInt8)) : List Value := l.flatMap ce9
theorem ces_snoc (l : List (List UInt8)) (t : List UInt8) : ces (l ++ [t]) = ces l ++ ce9 t := by simp [ces]
theorem ces_get (L : List (List UInt8)) (k m : Nat) (hm : m < 9) : (ces L)[k * 9 + m]? = (L[k]?).bind (fun t => (ce9 t)[m]?) := by
  induction L generalizing k with
  | nil => simp [ces]
  | cons t l ih =>
    have hc : ces (t :: l) = ce9 t ++ ces l := rfl
    have hl : (ce9 t).length = 9 := rfl
    rw [hc]
    cases k with
    | zero =>
      rw [List.getElem?_append_left (by rw [hl]; omega)]
      simp
    | succ k =>
      rw [List.getElem?_append_right (by rw [hl]; omega), hl, show (k + 1) * 9 + m - 9 = k * 9 + m by omega, ih]
      simp
theorem ce_at {W : World} {B g cap k : Nat} {L : List (List UInt8)} {P : List UInt8} (hown : W.ownsRow B 58 9 (.slice (some ⟨g, 0, none⟩) L.length cap) L.length (ces L)) (hk : k < L.length) (hP : L[k] = P) :
    W.cell? ⟨g, k * 9, none⟩ = some (.int .i64 (P.length : Int)) ∧ W.cell? ⟨g, k * 9 + 1, none⟩ = some (.int .u64 (FW P 0 : Int)) ∧ W.cell? ⟨g, k * 9 + 2, none⟩ = some (.int .u64 (FW P 1 : Int)) ∧ W.cell? ⟨g, k * 9 + 3, none⟩ = some (.int .u64 (FW P 2 : Int)) ∧ W.cell? ⟨g, k * 9 + 4, none⟩ = some (.int .u64 (FW P 3 : Int)) ∧ W.cell? ⟨g, k * 9 + 5, none⟩ = some (.int .u64 (OW P 0 : Int)) ∧ W.cell? ⟨g, k * 9 + 6, none⟩ = some (.int .u64 (OW P 1 : Int)) ∧ W.cell? ⟨g, k * 9 + 7, none⟩ = some (.int .u64 (OW P 2 : Int)) ∧ W.cell? ⟨g, k * 9 + 8, none⟩ = some (.int .u64 (OW P 3 : Int)) := by
  have cc : ∀ m, m < 9 → W.cell? ⟨g, k * 9 + m, none⟩ = (ce9 P)[m]? := by
    intro m hm
    rw [hown.cellAt (k * 9 + m) (by omega), ces_get L k m hm, List.getElem?_eq_getElem hk, ← hP]
    rfl
  exact ⟨cc 0 (by omega), cc 1 (by omega), cc 2 (by omega), cc 3 (by omega), cc 4 (by omega), cc 5 (by omega), cc 6 (by omega), cc 7 (by omega), cc 8 (by omega)⟩

theorem lt_of_get3 {W : World} {b : Nat} {o : Obj} (h : W.heap[b]? = some o) : b < W.heap.size := (Array.getElem?_eq_some_iff.1 h).1
theorem keepblk3 {W w' : World} {b : Nat} {o : Obj} (hb : Below W.heap.size W w') (h : W.heap[b]? = some o) : w'.heap[b]? = some o := (hb.block b (lt_of_get3 h)).trans h
theorem allocblk3 {W : World} {b : Nat} {o : Obj} (h : W.heap[b]? = some o) (O : Obj) : (W.alloc O).heap[b]? = some o := (Below.heap_alloc _ _ _ (lt_of_get3 h)).trans h

/-- the hull, one cube behind the other; none: one does not fit -/
def hulA : List UInt8 → List (List UInt8) → Option (List UInt8)
  | h, [] => some h
  | h, d :: l => if fitB h d = true then hulA (huT h d) l else none
theorem hulA_app (f : List UInt8) (l m : List (List UInt8)) : hulA f (l ++ m) = (hulA f l).bind (fun h => hulA h m) := by
  induction l generalizing f with
  | nil => rfl
  | cons d l ih =>
    show (if fitB f d = true then hulA (huT f d) (l ++ m) else none) = ((if fitB f d = true then hulA (huT f d) l else none)).bind _
    split
    · exact ih _
    · rfl
theorem hulA_step (f : List UInt8) (L : List (List UInt8)) (k : Nat) (hk : k < L.length) (H : List UInt8) (h : hulA f (L.take k) = some H) (hf : fitB H L[k] = true) : hulA f (L.take (k + 1)) = some (huT H L[k]) := by
  rw [List.take_add_one, hulA_app, h, List.getElem?_eq_getElem hk]
  show (if fitB H L[k] = true then some (huT H L[k]) else none) = _
  rw [if_pos hf]
theorem hulA_stop (f : List UInt8) (L : List (List UInt8)) (k : Nat) (hk : k < L.length) (H : List UInt8) (h : hulA f (L.take k) = some H) (hf : fitB H L[k] = false) : hulA f L = none := by
  have e : L = L.take k ++ (L[k] :: L.drop (k + 1)) := by rw [List.getElem_cons_drop, List.take_append_drop]
  have : hulA f (L.take k ++ (L[k] :: L.drop (k + 1))) = none := by
    rw [hulA_app, h]
    show (if fitB H L[k] = true then hulA (huT H L[k]) _ else none) = none
    rw [hf]; rfl
  rw [← e] at this
  exact this
/-- what Hull answers -/
def hulV (o : Option (List UInt8)) : Value := match o with
  | some h => .tuple #[cubeV h, .int .i64 0]
  | none => .tuple #[cubeV [], .int .i64 11]

end Go.Proofs.YtecgjlpmmailjaaGreatDoor
namespace Go.Proofs.YtecgjlpmmailjaaGreatDoor
open Go.RowKit

theorem alloc_get1 (w : World) (o1 o2 : Obj) : ((w.alloc o1).alloc o2).heap[w.heap.size + 1]? = some o2 := by
  have := alloc_get (w.alloc o1) o2
  simpa using this

/-- what Hull answers -/
def hulF (F : List UInt8) (L : List (List UInt8)) : Option (List UInt8) := if F = [] then none else hulA F L

end Go.Proofs.YtecgjlpmmailjaaGreatDoor
namespace Go.Proofs.YtecgjlpmmailjaaGreatDoor
open Go.RowKit
/-- a cube's nine cells lie at a place -/
def CB (W : World) (g o : Nat) (t : List UInt8) : Prop := W.cell? ⟨g, o, none⟩ = some (.int .i64 (t.length : Int)) ∧ W.cell? ⟨g, o + 1, none⟩ = some (.int .u64 (FW t 0 : Int)) ∧ W.cell? ⟨g, o + 2, none⟩ = some (.int .u64 (FW t 1 : Int)) ∧ W.cell? ⟨g, o + 3, none⟩ = some (.int .u64 (FW t 2 : Int)) ∧ W.cell? ⟨g, o + 4, none⟩ = some (.int .u64 (FW t 3 : Int)) ∧ W.cell? ⟨g, o + 5, none⟩ = some (.int .u64 (OW t 0 : Int)) ∧ W.cell? ⟨g, o + 6, none⟩ = some (.int .u64 (OW t 1 : Int)) ∧ W.cell? ⟨g, o + 7, none⟩ = some (.int .u64 (OW t 2 : Int)) ∧ W.cell? ⟨g, o + 8, none⟩ = some (.int .u64 (OW t 3 : Int))
theorem CB.below {W X : World} {g o : Nat} {t : List UInt8} (h : CB W g o t) (hb : Below W.heap.size W X) : CB X g o t := by
  have hk : ∀ {p : Addr} {v : Value}, W.cell? p = some v → X.cell? p = some v := fun h => (hb.cell (World.block_lt_of_cell? W _ h)).trans h
  obtain ⟨a0, a1, a2, a3, a4, a5, a6, a7, a8⟩ := h
  exact ⟨hk a0, hk a1, hk a2, hk a3, hk a4, hk a5, hk a6, hk a7, hk a8⟩
theorem CB_of {W : World} {b : Nat} {t : List UInt8} (h : W.heap[b]? = some (.cells #[.int .i64 (t.length : Int), .int .u64 (FW t 0 : Int), .int .u64 (FW t 1 : Int), .int .u64 (FW t 2 : Int), .int .u64 (FW t 3 : Int), .int .u64 (OW t 0 : Int), .int .u64 (OW t 1 : Int), .int .u64 (OW t 2 : Int), .int .u64 (OW t 3 : Int)] 58 (0, 0))) : CB W b 0 t := by
  obtain ⟨c, -⟩ := cells_block h
  exact ⟨c 0, c 1, c 2, c 3, c 4, c 5, c 6, c 7, c 8⟩
/-- a row of cubes lies there, now and as long as what lay is not written -/
def IRC (w : World) (p : Option Addr) (L : List (List UInt8)) : Prop := ∀ W : World, Below w.heap.size w W → ∀ k t, L[k]? = some t → ∃ g o0, p = some ⟨g, o0, none⟩ ∧ CB W g (o0 + k * 9) t
theorem IRC.later {w W : World} {p : Option Addr} {L : List (List UInt8)} (h : IRC w p L) (hb : Below w.heap.size w W) : IRC W p L := fun X hX k t ht => h X (bel0 hb hX) k t ht
theorem IRC_own {W : World} {B n c : Nat} {p : Option Addr} {L : List (List UInt8)} (h : W.ownsRow B 58 9 (.slice p n c) n (ces L)) (hn : L.length = n) : IRC W p L := fun X hX k t ht => by
  obtain ⟨hk, he⟩ := List.getElem?_eq_some_iff.1 ht
  subst hn
  rcases h.2 with ⟨e, h0⟩ | ⟨g, cap, cur, e, _⟩
  · omega
  · injection e with e1 _ _
    subst e1
    refine ⟨g, 0, rfl, ?_⟩
    rw [Nat.zero_add]
    exact CB.below (ce_at h hk he) hX
/-- the first place, from k on, at which p holds -/
def ixP (p : List UInt8 → Bool) (k : Nat) : List (List UInt8) → Int
  | [] => -1
  | t :: r => if p t = true then (k : Int) else ixP p (k + 1) r
theorem ixP_step {p : List UInt8 → Bool} {L : List (List UInt8)} {k : Nat} {t : List UInt8} (h : L[k]? = some t) : ixP p k (L.drop k) = if p t = true then (k : Int) else ixP p (k + 1) (L.drop (k + 1)) := by
  obtain ⟨hk, he⟩ := List.getElem?_eq_some_iff.1 h
  rw [List.drop_eq_getElem_cons hk, he]
  rfl
theorem ixP_any (p : List UInt8 → Bool) : ∀ (L : List (List UInt8)) (k : Nat), decide ((0 : Int) ≤ ixP p k L) = L.any p
  | [], k => by simp [ixP]
  | t :: r, k => by
    unfold ixP
    cases h : p t with
    | true => simp [h]
    | false => rw [if_neg (by simp), ixP_any p r (k + 1)]; simp [h]
/-- where p holds first -/
theorem ixP_at (p : List UInt8 → Bool) : ∀ (L : List (List UInt8)) (k : Nat), (ixP p k L = -1 ∧ ∀ t ∈ L, p t = false) ∨ ∃ A t R, L = A ++ t :: R ∧ (∀ x ∈ A, p x = false) ∧ p t = true ∧ ixP p k L = ((k + A.length : Nat) : Int)
  | [], k => .inl ⟨rfl, fun t h => by cases h⟩
  | t :: r, k => by
    unfold ixP
    cases h : p t with
    | true => exact .inr ⟨[], t, r, rfl, fun x hx => (by cases hx), h, by simp⟩
    | false =>
      rw [if_neg (by simp)]
      rcases ixP_at p r (k + 1) with ⟨e, ha⟩ | ⟨A, u, R, e1, e2, e3, e4⟩
      · refine .inl ⟨e, fun x hx => ?_⟩
        rcases List.mem_cons.1 hx with rfl | hx
        · exact h
        · exact ha x hx
      · refine .inr ⟨t :: A, u, R, by rw [e1]; rfl, fun x hx => ?_, e3, by rw [e4, List.length_cons]; congr 1; omega⟩
        rcases List.mem_cons.1 hx with rfl | hx
        · exact h
        · exact e2 x hx
/-- greatest's closures: within(x, y), within(y, x) -/
def WQ (W : World) (bw bx : Nat) (x : List UInt8) : Prop := W.heap[bw]? = some (.cells #[.func (.func 43) #[] #[]] 96 (0, 0)) ∧ W.heap[bx]? = some (.cells #[.int .i64 (x.length : Int), .int .u64 (FW x 0 : Int), .int .u64 (FW x 1 : Int), .int .u64 (FW x 2 : Int), .int .u64 (FW x 3 : Int), .int .u64 (OW x 0 : Int), .int .u64 (OW x 1 : Int), .int .u64 (OW x 2 : Int), .int .u64 (OW x 3 : Int)] 58 (0, 0))
theorem WQ.below {W X : World} {bw bx : Nat} {x : List UInt8} (h : WQ W bw bx x) (hb : Below W.heap.size W X) : WQ X bw bx x := ⟨keepblk3 hb h.1, keepblk3 hb h.2⟩
set_option maxRecDepth 100000 in
set_option maxHeartbeats 1000000 in
theorem great1_any (x y : List UInt8) (bw bx : Nat) (w : World) (gx : good x = true) (gy : good y = true) (h : WQ w bw bx x) : Calls Tryz.prog 61 #[cubeV y, .pointer (some ⟨bw, 0, none⟩), .pointer (some ⟨bx, 0, none⟩)] w fun e w' => e = .returned (.bool (wiB x y)) ∧ Below w.heap.size w w' := by
  obtain ⟨hw, hx⟩ := h
  have w0 : (w.alloc (Obj.cells #[.int .i64 (y.length : Int), .int .u64 (FW y 0 : Int), .int .u64 (FW y 1 : Int), .int .u64 (FW y 2 : Int), .int .u64 (FW y 3 : Int), .int .u64 (OW y 0 : Int), .int .u64 (OW y 1 : Int), .int .u64 (OW y 2 : Int), .int .u64 (OW y 3 : Int)] 58)).cell? ⟨bw, 0, none⟩ = some (.func (.func 43) #[] #[]) := (cells_block (allocblk3 hw _)).1 0
  have x0 : CB (w.alloc (Obj.cells #[.int .i64 (y.length : Int), .int .u64 (FW y 0 : Int), .int .u64 (FW y 1 : Int), .int .u64 (FW y 2 : Int), .int .u64 (FW y 3 : Int), .int .u64 (OW y 0 : Int), .int .u64 (OW y 1 : Int), .int .u64 (OW y 2 : Int), .int .u64 (OW y 3 : Int)] 58)) bx 0 x := CB_of (allocblk3 hx _)
  have y0 : CB (w.alloc (Obj.cells #[.int .i64 (y.length : Int), .int .u64 (FW y 0 : Int), .int .u64 (FW y 1 : Int), .int .u64 (FW y 2 : Int), .int .u64 (FW y 3 : Int), .int .u64 (OW y 0 : Int), .int .u64 (OW y 1 : Int), .int .u64 (OW y 2 : Int), .int .u64 (OW y 3 : Int)] 58)) w.heap.size 0 y := CB_of (alloc_get _ _)
  obtain ⟨V, hV⟩ : ∃ V : World, w.alloc (Obj.cells #[.int .i64 (y.length : Int), .int .u64 (FW y 0 : Int), .int .u64 (FW y 1 : Int), .int .u64 (FW y 2 : Int), .int .u64 (FW y 3 : Int), .int .u64 (OW y 0 : Int), .int .u64 (OW y 1 : Int), .int .u64 (OW y 2 : Int), .int .u64 (OW y 3 : Int)] 58) = V := ⟨_, rfl⟩
  have vB : Below w.heap.size w V := by rw [← hV]; exact belA (Below.refl _ _) _
  rw [hV] at w0 x0 y0
  obtain ⟨a0, a1, a2, a3, a4, a5, a6, a7, a8⟩ := x0
  obtain ⟨d0, d1, d2, d3, d4, d5, d6, d7, d8⟩ := y0
  clear hw hx
  unfold cubeV cv
  go_enter Tryz.func61, Tryz.ntmps61
  go_wp2_with fail
  refine (within_any x y _ gx gy).mono ?_
  rintro e W1 ⟨rfl, hb1⟩
  go_wp2_with fail
  go_ret
  exact ⟨rfl, bel0 vB hb1⟩
set_option maxRecDepth 100000 in
set_option maxHeartbeats 1000000 in
theorem great2_any (x y : List UInt8) (bw bx : Nat) (w : World) (gx : good x = true) (gy : good y = true) (h : WQ w bw bx x) : Calls Tryz.prog 63 #[cubeV y, .pointer (some ⟨bw, 0, none⟩), .pointer (some ⟨bx, 0, none⟩)] w fun e w' => e = .returned (.bool (wiB y x)) ∧ Below w.heap.size w w' := by
  obtain ⟨hw, hx⟩ := h
  have w0 : (w.alloc (Obj.cells #[.int .i64 (y.length : Int), .int .u64 (FW y 0 : Int), .int .u64 (FW y 1 : Int), .int .u64 (FW y 2 : Int), .int .u64 (FW y 3 : Int), .int .u64 (OW y 0 : Int), .int .u64 (OW y 1 : Int), .int .u64 (OW y 2 : Int), .int .u64 (OW y 3 : Int)] 58)).cell? ⟨bw, 0, none⟩ = some (.func (.func 43) #[] #[]) := (cells_block (allocblk3 hw _)).1 0
  have x0 : CB (w.alloc (Obj.cells #[.int .i64 (y.length : Int), .int .u64 (FW y 0 : Int), .int .u64 (FW y 1 : Int), .int .u64 (FW y 2 : Int), .int .u64 (FW y 3 : Int), .int .u64 (OW y 0 : Int), .int .u64 (OW y 1 : Int), .int .u64 (OW y 2 : Int), .int .u64 (OW y 3 : Int)] 58)) bx 0 x := CB_of (allocblk3 hx _)
  have y0 : CB (w.alloc (Obj.cells #[.int .i64 (y.length : Int), .int .u64 (FW y 0 : Int), .int .u64 (FW y 1 : Int), .int .u64 (FW y 2 : Int), .int .u64 (FW y 3 : Int), .int .u64 (OW y 0 : Int), .int .u64 (OW y 1 : Int), .int .u64 (OW y 2 : Int), .int .u64 (OW y 3 : Int)] 58)) w.heap.size 0 y := CB_of (alloc_get _ _)
  obtain ⟨V, hV⟩ : ∃ V : World, w.alloc (Obj.cells #[.int .i64 (y.length : Int), .int .u64 (FW y 0 : Int), .int .u64 (FW y 1 : Int), .int .u64 (FW y 2 : Int), .int .u64 (FW y 3 : Int), .int .u64 (OW y 0 : Int), .int .u64 (OW y 1 : Int), .int .u64 (OW y 2 : Int), .int .u64 (OW y 3 : Int)] 58) = V := ⟨_, rfl⟩
  have vB : Below w.heap.size w V := by rw [← hV]; exact belA (Below.refl _ _) _
  rw [hV] at w0 x0 y0
  obtain ⟨a0, a1, a2, a3, a4, a5, a6, a7, a8⟩ := x0
  obtain ⟨d0, d1, d2, d3, d4, d5, d6, d7, d8⟩ := y0
  clear hw hx
  unfold cubeV cv
  go_enter Tryz.func63, Tryz.ntmps63
  go_wp2_with fail
  refine (within_any y x _ gy gx).mono ?_
  rintro e W1 ⟨rfl, hb1⟩
  go_wp2_with fail
  go_ret
  exact ⟨rfl, bel0 vB hb1⟩
set_option maxRecDepth 100000 in
set_option maxHeartbeats 2000000 in
theorem idxc1_any (L : List (List UInt8)) (n : Nat) (o : Option Addr) (c : Nat) (b1 b2 : Nat) (p : List UInt8 → Bool) (w : World) (hn : L.length = n) (hL : n ≤ 281474976710656) (hr : IRC w o L) (hp : ∀ W, Below w.heap.size w W → ∀ t ∈ L, Calls Tryz.prog 61 #[cubeV t, .pointer (some ⟨b1, 0, none⟩), .pointer (some ⟨b2, 0, none⟩)] W fun e w' => e = .returned (.bool (p t)) ∧ Below W.heap.size W w') :
    Calls Tryz.prog 76 #[.slice o n c, .func (.func 61) #[] #[.pointer (some ⟨b1, 0, none⟩), .pointer (some ⟨b2, 0, none⟩)]] w fun e w' => e = .returned (.int .i64 (ixP p 0 L)) ∧ Below w.heap.size w w' := by
  have HR : Hid (IRC w o L) := hr
  have HPP : Hid (∀ W, Below w.heap.size w W → ∀ t ∈ L, Calls Tryz.prog 61 #[cubeV t, .pointer (some ⟨b1, 0, none⟩), .pointer (some ⟨b2, 0, none⟩)] W fun e w' => e = .returned (.bool (p t)) ∧ Below W.heap.size W w') := hp
  have HN : Hid (L.length = n) := hn
  obtain ⟨q, hq⟩ : ∃ q, ixP p 0 L = q := ⟨_, rfl⟩
  rw [hq]
  have HQ : Hid (ixP p 0 (L.drop 0) = q) := hq
  clear hr hp hq hn
  go_enter Tryz.func76, Tryz.ntmps76
  go_wp2_with fail
  go_loopw [8] (fun vk wr => ∃ k : Nat, vk = .int .i64 k ∧ k ≤ n ∧ Hid (ixP p k (L.drop k) = q) ∧ Below w.heap.size w wr) (fun vk _ => n - (intOf vk).toNat)
  case atStart => exact ⟨0, rfl, Nat.zero_le _, HQ, Below.refl _ _⟩
  case round =>
    clear HQ
    obtain ⟨k, rfl, hk, hidx, hB⟩ := hrel
    by_cases hlt : k < n
    · have j1 : (k : Int) < (n : Int) := by omega
      have j0 : (0 : Int) ≤ (k : Int) := by omega
      obtain ⟨t, ht⟩ : ∃ t, L[k]? = some t := ⟨_, List.getElem?_eq_getElem (by rw [HN.out]; exact hlt)⟩
      obtain ⟨g, o0, rfl, p0, p1, p2, p3, p4, p5, p6, p7, p8⟩ := HR.out wr hB k t ht
      have hx2 := hidx.out
      rw [ixP_step ht] at hx2
      have H1 := HPP.out wr hB t (List.mem_of_getElem? ht)
      have HH : Hid (Calls Tryz.prog 61 #[cubeV t, .pointer (some ⟨b1, 0, none⟩), .pointer (some ⟨b2, 0, none⟩)] wr fun e w' => e = .returned (.bool (p t)) ∧ Below wr.heap.size wr w') := H1
      clear ht hidx H1
      cases hy : p t with
      | true =>
        rw [hy, if_pos rfl] at hx2
        have HX2 : Hid ((k : Int) = q) := hx2
        have HY : Hid (p t = true) := hy
        clear hx2 hy
        go_wp2_with fail
        refine HH.out.mono ?_
        rintro e W1 ⟨rfl, hb1⟩
        rw [HY.out]
        go_wp2_with fail
        go_ret
        exact ⟨by rw [← HX2.out]; rfl, bel0 hB hb1⟩
      | false =>
        rw [hy, if_neg (by simp)] at hx2
        have HX : Hid (ixP p (k + 1) (L.drop (k + 1)) = q) := hx2
        have HY : Hid (p t = false) := hy
        clear hx2 hy
        go_wp2_with fail
        refine HH.out.mono ?_
        rintro e W1 ⟨rfl, hb1⟩
        rw [HY.out]
        go_wp2_with fail
        go_roundw
        case rel => exact ⟨k + 1, by go_num, by omega, HX, bel0 hB hb1⟩
        case measure => simp [intOf]; omega
    · have j1 : ¬ (k : Int) < (n : Int) := by omega
      have HX2 : Hid (-1 = q) := by
        unfold Hid
        rw [← hidx.out, List.drop_eq_nil_of_le (by rw [HN.out]; omega)]
        rfl
      clear hidx
      go_wp2_with fail
      go_ret
      exact ⟨by rw [← HX2.out]; rfl, hB⟩
set_option maxRecDepth 100000 in
set_option maxHeartbeats 2000000 in
theorem idxc2_any (L : List (List UInt8)) (n : Nat) (o : Option Addr) (c : Nat) (b1 b2 : Nat) (p : List UInt8 → Bool) (w : World) (hn : L.length = n) (hL : n ≤ 281474976710656) (hr : IRC w o L) (hp : ∀ W, Below w.heap.size w W → ∀ t ∈ L, Calls Tryz.prog 63 #[cubeV t, .pointer (some ⟨b1, 0, none⟩), .pointer (some ⟨b2, 0, none⟩)] W fun e w' => e = .returned (.bool (p t)) ∧ Below W.heap.size W w') :
    Calls Tryz.prog 76 #[.slice o n c, .func (.func 63) #[] #[.pointer (some ⟨b1, 0, none⟩), .pointer (some ⟨b2, 0, none⟩)]] w fun e w' => e = .returned (.int .i64 (ixP p 0 L)) ∧ Below w.heap.size w w' := by
  have HR : Hid (IRC w o L) := hr
  have HPP : Hid (∀ W, Below w.heap.size w W → ∀ t ∈ L, Calls Tryz.prog 63 #[cubeV t, .pointer (some ⟨b1, 0, none⟩), .pointer (some ⟨b2, 0, none⟩)] W fun e w' => e = .returned (.bool (p t)) ∧ Below W.heap.size W w') := hp
  have HN : Hid (L.length = n) := hn
  obtain ⟨q, hq⟩ : ∃ q, ixP p 0 L = q := ⟨_, rfl⟩
  rw [hq]
  have HQ : Hid (ixP p 0 (L.drop 0) = q) := hq
  clear hr hp hq hn
  go_enter Tryz.func76, Tryz.ntmps76
  go_wp2_with fail
  go_loopw [8] (fun vk wr => ∃ k : Nat, vk = .int .i64 k ∧ k ≤ n ∧ Hid (ixP p k (L.drop k) = q) ∧ Below w.heap.size w wr) (fun vk _ => n - (intOf vk).toNat)
  case atStart => exact ⟨0, rfl, Nat.zero_le _, HQ, Below.refl _ _⟩
  case round =>
    clear HQ
    obtain ⟨k, rfl, hk, hidx, hB⟩ := hrel
    by_cases hlt : k < n
    · have j1 : (k : Int) < (n : Int) := by omega
      have j0 : (0 : Int) ≤ (k : Int) := by omega
      obtain ⟨t, ht⟩ : ∃ t, L[k]? = some t := ⟨_, List.getElem?_eq_getElem (by rw [HN.out]; exact hlt)⟩
      obtain ⟨g, o0, rfl, p0, p1, p2, p3, p4, p5, p6, p7, p8⟩ := HR.out wr hB k t ht
      have hx2 := hidx.out
      rw [ixP_step ht] at hx2
      have H1 := HPP.out wr hB t (List.mem_of_getElem? ht)
      have HH : Hid (Calls Tryz.prog 63 #[cubeV t, .pointer (some ⟨b1, 0, none⟩), .pointer (some ⟨b2, 0, none⟩)] wr fun e w' => e = .returned (.bool (p t)) ∧ Below wr.heap.size wr w') := H1
      clear ht hidx H1
      cases hy : p t with
      | true =>
        rw [hy, if_pos rfl] at hx2
        have HX2 : Hid ((k : Int) = q) := hx2
        have HY : Hid (p t = true) := hy
        clear hx2 hy
        go_wp2_with fail
        refine HH.out.mono ?_
        rintro e W1 ⟨rfl, hb1⟩
        rw [HY.out]
        go_wp2_with fail
        go_ret
        exact ⟨by rw [← HX2.out]; rfl, bel0 hB hb1⟩
      | false =>
        rw [hy, if_neg (by simp)] at hx2
        have HX : Hid (ixP p (k + 1) (L.drop (k + 1)) = q) := hx2
        have HY : Hid (p t = false) := hy
        clear hx2 hy
        go_wp2_with fail
        refine HH.out.mono ?_
        rintro e W1 ⟨rfl, hb1⟩
        rw [HY.out]
        go_wp2_with fail
        go_roundw
        case rel => exact ⟨k + 1, by go_num, by omega, HX, bel0 hB hb1⟩
        case measure => simp [intOf]; omega
    · have j1 : ¬ (k : Int) < (n : Int) := by omega
      have HX2 : Hid (-1 = q) := by
        unfold Hid
        rw [← hidx.out, List.drop_eq_nil_of_le (by rw [HN.out]; omega)]
        rfl
      clear hidx
      go_wp2_with fail
      go_ret
      exact ⟨by rw [← HX2.out]; rfl, hB⟩
set_option maxRecDepth 100000 in
set_option maxHeartbeats 1000000 in
theorem contc_any (L : List (List UInt8)) (n : Nat) (o : Option Addr) (c : Nat) (b1 b2 : Nat) (p : List UInt8 → Bool) (w : World) (hn : L.length = n) (hL : n ≤ 281474976710656) (hr : IRC w o L) (hp : ∀ W, Below w.heap.size w W → ∀ t ∈ L, Calls Tryz.prog 61 #[cubeV t, .pointer (some ⟨b1, 0, none⟩), .pointer (some ⟨b2, 0, none⟩)] W fun e w' => e = .returned (.bool (p t)) ∧ Below W.heap.size W w') :
    Calls Tryz.prog 60 #[.slice o n c, .func (.func 61) #[] #[.pointer (some ⟨b1, 0, none⟩), .pointer (some ⟨b2, 0, none⟩)]] w fun e w' => e = .returned (.bool (L.any p)) ∧ Below w.heap.size w w' := by
  have H1 := idxc1_any L n o c b1 b2 p w hn hL hr hp
  obtain ⟨b, hb⟩ : ∃ b, L.any p = b := ⟨_, rfl⟩
  obtain ⟨i, hi⟩ : ∃ i, ixP p 0 L = i := ⟨_, rfl⟩
  have HD : Hid (decide ((0 : Int) ≤ i) = b) := by
    unfold Hid
    rw [← hb, ← hi, ixP_any]
  rw [hi] at H1
  rw [hb]
  clear hr hp hb hi hn
  go_enter Tryz.func60, Tryz.ntmps60
  go_wp2_with fail
  refine H1.mono ?_
  rintro e W1 ⟨rfl, hb1⟩
  go_wp2_with fail
  go_ret
  exact ⟨by rw [← HD.out]; rfl, hb1⟩
end Go.Proofs.YtecgjlpmmailjaaGreatDoor

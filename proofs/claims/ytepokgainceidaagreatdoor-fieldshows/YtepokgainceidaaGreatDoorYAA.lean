import Derived.Lib.TrimByte
import Derived.Lib.Join
import Derived.Lib.IndexAny
import Derived.Test.YtepokgainceidaaGreatDoorRows
import Derived.WalkKit
import Derived.WalkSpells
import Derived.WalkLawsBesides
import Derived.Deep.QuietTactic
import Derived.BigQuiet
import Derived.Test.YtepokgainceidaaGreatDoorChecked
import Derived.Below
import Derived.OwnWalk
import Derived.Lib.TrailingZeros
import Derived.Lib.BitFns
import Derived.Lib.IndexLaws
import Derived.Deep.DeepCutAuto
import Derived.Deep.RegionWith
import Derived.Laws.ShiftsVar
import Derived.Laws.ShiftsVarLaws
import Derived.Laws.BitsAllLaws
namespace Go.Proofs.YtepokgainceidaaGreatDoor
def cntS : List UInt8 → Nat → Bool → Nat → Nat × Bool
  | [], n, f, _ => (n, f)
  | c :: r, n, f, i => if c = 120 then cntS r n f (i + 1) else cntS r (n + 1) (f && decide (n + 1 = i + 1)) (i + 1)
theorem cnt_step {s : List UInt8} {k : Nat} {c : UInt8} (h : s[k]? = some c) (n : Nat) (f : Bool) : cntS (s.drop k) n f k = if c = 120 then cntS (s.drop (k + 1)) n f (k + 1) else cntS (s.drop (k + 1)) (n + 1) (f && decide (n + 1 = k + 1)) (k + 1) := by
  obtain ⟨hk, e⟩ := List.getElem?_eq_some_iff.1 h
  rw [List.drop_eq_getElem_cons hk, e, cntS]
theorem cnt_num : ∀ (r : List UInt8) (n : Nat) (f : Bool) (i : Nat), (cntS r n f i).1 = n + r.countP (fun c => c != 120)
  | [], n, f, i => rfl
  | c :: r, n, f, i => by
    rw [cntS]
    by_cases h : c = 120
    · rw [if_pos h, cnt_num r, List.countP_cons, h]
      rfl
    · rw [if_neg h, cnt_num r, List.countP_cons, if_pos (by simpa using h)]
      omega
theorem cnt_false : ∀ (r : List UInt8) (n i : Nat), (cntS r n false i).2 = false
  | [], n, i => rfl
  | c :: r, n, i => by
    rw [cntS]
    split
    · exact cnt_false r _ _
    · exact cnt_false r _ _
theorem cnt_lt : ∀ (r : List UInt8) (n : Nat) (f : Bool) (i : Nat), n < i → (∃ c ∈ r, c ≠ 120) → (cntS r n f i).2 = false
  | [], n, f, i, _, h => by obtain ⟨c, h, _⟩ := h; simp at h
  | c :: r, n, f, i, hn, h => by
    rw [cntS]
    by_cases e : c = 120
    · rw [if_pos e]
      refine cnt_lt r n f (i + 1) (by omega) ?_
      obtain ⟨d, h1, h2⟩ := h
      rcases List.mem_cons.1 h1 with rfl | h1
      · exact absurd e h2
      · exact ⟨d, h1, h2⟩
    · rw [if_neg e, decide_eq_false (by omega), Bool.and_false]
      exact cnt_false r _ _
theorem cnt_mem : ∀ (r : List UInt8) (n : Nat) (f : Bool) (i : Nat) (c : UInt8), n ≤ i → 120 ∈ r → c ≠ 120 → (cntS (r ++ [c]) n f i).2 = false
  | [], n, f, i, c, _, h, _ => by simp at h
  | d :: r, n, f, i, c, hn, h, hc => by
    rw [List.cons_append, cntS]
    by_cases e : d = 120
    · rw [if_pos e]
      exact cnt_lt _ n f (i + 1) (by omega) ⟨c, by simp, hc⟩
    · rw [if_neg e]
      refine cnt_mem r (n + 1) _ (i + 1) c (by omega) ?_ hc
      rcases List.mem_cons.1 h with h | h
      · exact absurd h.symm e
      · exact h
theorem cnt_all : ∀ (r : List UInt8) (n : Nat), (∀ c ∈ r, c ≠ 120) → cntS r n true n = (n + r.length, true)
  | [], n, _ => rfl
  | c :: r, n, h => by
    rw [cntS, if_neg (h c (by simp)), decide_eq_true rfl, Bool.and_true, cnt_all r (n + 1) (fun d hd => h d (by simp [hd])), List.length_cons]
    congr 1
    omega
theorem cnt_xs : ∀ (r : List UInt8) (m n : Nat) (f : Bool) (i : Nat), cntS (r ++ List.replicate m 120) n f i = cntS r n f i
  | [], 0, n, f, i => rfl
  | [], m + 1, n, f, i => by
    rw [List.nil_append, List.replicate_succ]
    show (if (120 : UInt8) = 120 then cntS (List.replicate m 120) n f (i + 1) else _) = _
    rw [if_pos rfl]
    exact cnt_xs [] m n f (i + 1)
  | c :: r, m, n, f, i => by
    rw [List.cons_append, cntS, cntS]
    split
    · exact cnt_xs r m _ _ _
    · exact cnt_xs r m _ _ _
theorem drop_rep : ∀ l : List UInt8, ∃ m, l = List.replicate m 120 ++ l.dropWhile (· == 120)
  | [] => ⟨0, rfl⟩
  | c :: l => by
    by_cases e : c = 120
    · obtain ⟨m, h⟩ := drop_rep l
      refine ⟨m + 1, ?_⟩
      rw [List.dropWhile_cons, if_pos (by simpa using e), List.replicate_succ, List.cons_append, ← h, e]
    · refine ⟨0, ?_⟩
      rw [List.dropWhile_cons, if_neg (by simpa using e)]
      rfl
theorem drop_head : ∀ (l : List UInt8) (c : UInt8) (r : List UInt8), l.dropWhile (· == 120) = c :: r → c ≠ 120
  | [], c, r, h => by simp at h
  | d :: l, c, r, h => by
    rw [List.dropWhile_cons] at h
    split at h
    · exact drop_head l c r h
    · rename_i e
      injection h with h1 _
      subst h1
      simpa using e
theorem trim_rep (D : List UInt8) : ∃ m, D = Lib.trimRightB D 120 ++ List.replicate m 120 := by
  obtain ⟨m, h⟩ := drop_rep D.reverse
  refine ⟨m, ?_⟩
  unfold Lib.trimRightB
  have := congrArg List.reverse h
  rw [List.reverse_reverse, List.reverse_append, List.reverse_replicate] at this
  exact this
theorem trim_last (D : List UInt8) : Lib.trimRightB D 120 = [] ∨ ∃ r c, Lib.trimRightB D 120 = r ++ [c] ∧ c ≠ 120 := by
  unfold Lib.trimRightB
  cases h : D.reverse.dropWhile (· == 120) with
  | nil => exact .inl rfl
  | cons c r => exact .inr ⟨r.reverse, c, by simp, drop_head _ _ _ h⟩
theorem cnt_trim (D : List UInt8) : (120 ∈ Lib.trimRightB D 120 → (cntS D 0 true 0).1 < D.length ∧ (cntS D 0 true 0).2 = false) ∧ (120 ∉ Lib.trimRightB D 120 → cntS D 0 true 0 = ((Lib.trimRightB D 120).length, true)) := by
  obtain ⟨m, hm⟩ := trim_rep D
  have hl := trim_last D
  obtain ⟨A, hA⟩ : ∃ A, Lib.trimRightB D 120 = A := ⟨_, rfl⟩
  rw [hA] at hm hl ⊢
  have e := cnt_xs A m 0 true 0
  rw [← hm] at e
  constructor
  · intro h
    rcases hl with rfl | ⟨r, c, rfl, hc⟩
    · simp at h
    · have hr : 120 ∈ r := by
        rcases List.mem_append.1 h with h | h
        · exact h
        · exact absurd (List.mem_singleton.1 h).symm hc
      refine ⟨?_, by rw [e]; exact cnt_mem r 0 true 0 c (Nat.le_refl _) hr hc⟩
      rw [cnt_num, Nat.zero_add]
      have h1 := List.countP_le_length (p := fun c : UInt8 => c != 120) (l := D)
      rcases Nat.lt_or_ge (D.countP fun c => c != 120) D.length with h2 | h2
      · exact h2
      · have := (List.countP_eq_length (p := fun c : UInt8 => c != 120) (l := D)).1 (by omega) 120 (by rw [hm]; simp [hr])
        simp at this
  · intro h
    rw [e, cnt_all A 0 (fun c hc e => h (e ▸ hc)), Nat.zero_add]
theorem cnt_le (D : List UInt8) : (cntS D 0 true 0).1 ≤ D.length := by
  rw [cnt_num, Nat.zero_add]
  exact List.countP_le_length
theorem cnt_zero {D : List UInt8} (h : D.all (fun c => c == 48 || c == 49 || c == 120) = true) : (cntS D 0 true 0).1 = 0 ↔ D.any (fun c => c == 48 || c == 49) = false := by
  rw [cnt_num, Nat.zero_add, List.countP_eq_zero, List.any_eq_false]
  refine ⟨fun h1 c hc => ?_, fun h1 c hc => ?_⟩
  · have := h1 c hc
    simp only [bne_iff_ne, ne_eq, Decidable.not_not] at this
    rw [this]
    decide
  · have h2 := h1 c hc
    have h3 := List.all_eq_true.1 h c hc
    simp only [Bool.or_eq_true, beq_iff_eq, not_or] at h2 h3
    simp only [bne_iff_ne, ne_eq, Decidable.not_not]
    rcases h3 with h3 | h3
    · exact absurd h3 (by simpa using h2)
    · exact h3
theorem any_has : ∀ D : List UInt8, Lib.containsAny D [48, 49] = D.any (fun c => c == 48 || c == 49)
  | [] => rfl
  | c :: D => by
    have ih := any_has D
    have hge := Lib.indexAny_ge [48, 49] D
    unfold Lib.containsAny at ih ⊢
    rw [Lib.indexAny, List.any_cons, ← ih]
    have hc : ([48, 49] : List UInt8).contains c = (c == 48 || c == 49) := by
      show (c == 48 || (c == 49 || false)) = _
      rw [Bool.or_false]
    rw [hc]
    cases h : (c == 48 || c == 49) with
    | true => rfl
    | false =>
      simp only [Bool.false_eq_true, if_false, Bool.false_or]
      by_cases e : Lib.indexAny D [48, 49] = -1
      · rw [e]
        rfl
      · rw [if_neg (by simpa using e)]
        congr 1
        simp only [eq_iff_iff]
        omega
theorem join_snoc : ∀ (T : List (List UInt8)) (x sep : List UInt8), T ≠ [] → Lib.join (T ++ [x]) sep = Lib.join T sep ++ sep ++ x
  | [], x, sep, h => absurd rfl h
  | y :: T, x, sep, _ => by
    rw [List.cons_append, Lib.join_cons, Lib.join_cons, Lib.joinTail, List.map_append, List.flatten_append, ← Lib.joinTail]
    simp [List.append_assoc]
theorem join_ne {T : List (List UInt8)} {sep : List UInt8} (h : T ≠ []) (hx : ∀ x ∈ T, x ≠ []) : Lib.join T sep ≠ [] := by
  cases T with
  | nil => exact absurd rfl h
  | cons y T =>
    rw [Lib.join_cons]
    intro e
    exact hx y (by simp) (List.append_eq_nil_iff.1 e).1
theorem join_le {T : List (List UInt8)} {sep : List UInt8} {B : Nat} (hs : sep.length ≤ B) (h : ∀ x ∈ T, x.length ≤ B) : (Lib.join T sep).length ≤ T.length * (2 * B) := by
  cases T with
  | nil => simp [Lib.join_nil]
  | cons y T =>
    rw [Lib.join_cons, List.length_append, Lib.joinTail_length]
    have h1 := h y (by simp)
    have h2 : Lib.lens T ≤ T.length * B := by
      have hT : ∀ x ∈ T, x.length ≤ B := fun x hx => h x (by simp [hx])
      clear h h1
      induction T with
      | nil => simp [Lib.lens]
      | cons z T ih =>
        have := ih (fun x hx => hT x (by simp [hx]))
        have h3 := hT z (by simp)
        simp only [Lib.lens, List.map_cons, List.sum_cons, List.length_cons] at this ⊢
        rw [Nat.succ_mul]
        omega
    have h3 : sep.length * T.length ≤ T.length * B := by rw [Nat.mul_comm]; exact Nat.mul_le_mul_left _ hs
    rw [List.length_cons, Nat.succ_mul, show T.length * (2 * B) = T.length * B + T.length * B by rw [← Nat.mul_add]; congr 1; omega]
    omega
end Go.Proofs.YtepokgainceidaaGreatDoor
namespace Go.Proofs.YtepokgainceidaaGreatDoor
open Go.RowKit

def cv (n a b c d e f g h : Int) : Value := .agg #[.int .i64 n, .int .u64 a, .int .u64 b, .int .u64 c, .int .u64 d, .int .u64 e, .int .u64 f, .int .u64 g, .int .u64 h]

theorem bcell {W w1 : World} (hb : Below W.heap.size W w1) : (∀ b o, b < W.heap.size → w1.cell? ⟨b, o, none⟩ = W.cell? ⟨b, o, none⟩) ∧ (∀ b o, b < W.heap.size → w1.frozen? ⟨b, o, none⟩ = W.frozen? ⟨b, o, none⟩) :=
  ⟨fun b o h => hb.cell (p := ⟨b, o, none⟩) h, fun b o h => hb.frozen (p := ⟨b, o, none⟩) h⟩

theorem below_drewN (B n : Nat) (w : World) : Below B w (w.drewN n) := by
  induction n with
  | zero => exact Below.refl _ _
  | succ n ih => exact ⟨ih.os, ih.tape, ih.output, ih.size, ih.block⟩

set_option maxHeartbeats 400000 in
theorem all_yes (n : Int) (w : World) (h1 : 1 ≤ n) (h2 : n ≤ 256) :
    Calls Tryz.prog 97 #[.int .i64 n] w fun e w' => e = .returned (cv n 0 0 0 0 0 0 0 0) ∧ Below w.heap.size w w' := by
  go_enter Tryz.func97, Tryz.ntmps97
  go_wp2
  exact bodyPost_ret (v := cv n 0 0 0 0 0 0 0 0) (by simp [results, Tryz.results97, go_sem, cv]) rfl ⟨rfl, (Below.refl _ _).alloc (Nat.le_refl _) _⟩

set_option maxHeartbeats 400000 in
theorem all_no (n : Int) (w : World) (h : n < 1 ∨ 256 < n) :
    Calls Tryz.prog 97 #[.int .i64 n] w fun e w' => e = .returned (cv 0 0 0 0 0 0 0 0 0) ∧ Below w.heap.size w w' := by
  rcases h with h | h
  · go_enter Tryz.func97, Tryz.ntmps97
    go_wp2
    exact bodyPost_ret (v := cv 0 0 0 0 0 0 0 0 0) (by simp [results, Tryz.results97, go_sem, cv]) rfl ⟨rfl, (Below.refl _ _).alloc (Nat.le_refl _) _⟩
  · have h' : ¬ n < 1 := by omega
    go_enter Tryz.func97, Tryz.ntmps97
    go_wp2
    exact bodyPost_ret (v := cv 0 0 0 0 0 0 0 0 0) (by simp [results, Tryz.results97, go_sem, cv]) rfl ⟨rfl, (Below.refl _ _).alloc (Nat.le_refl _) _⟩

theorem wrap_pow (r : Nat) (h : r < 64) : IntKind.u64.wrap ((2 : Int) ^ r) = ((2 ^ r : Nat) : Int) := by
  rw [IntKind.wrap_u64]
  have h1 : 2 ^ r < 2 ^ 64 := Nat.pow_lt_pow_right (by omega) h
  have h2 : ((2 : Int) ^ r) = ((2 ^ r : Nat) : Int) := by simp
  rw [h2]; generalize 2 ^ r = x at h1 ⊢; omega

set_option maxHeartbeats 400000 in
theorem spot_raw (p : Int) (w : World) (h1 : 0 ≤ p) (h2 : p < 256) :
    Calls Tryz.prog 108 #[.int .i64 p] w fun e w' => e = .returned (.tuple #[.int .i64 (p / 64), .int .u64 ((2 ^ (p % 64).toNat : Nat) : Int)]) ∧ ∃ n, w' = w.drewN n := by
  have hm : 0 ≤ p % 64 ∧ p % 64 < 64 := by omega
  go_enter Tryz.func108, Tryz.ntmps108
  go_wp2
  go_quiet (fail)
  go_wp2
  go_ret2
  exact ⟨by rw [wrap_pow _ (by omega)]; rfl, _, rfl⟩

theorem spot_at (p : Int) (k r : Nat) (w : World) (hk : k < 4) (hr : r < 64) (hp : p = ((64 * k + r : Nat) : Int)) :
    Calls Tryz.prog 108 #[.int .i64 p] w fun e w' => e = .returned (.tuple #[.int .i64 k, .int .u64 ((2 ^ r : Nat) : Int)]) ∧ ∃ n, w' = w.drewN n := by
  refine (spot_raw p w (by omega) (by omega)).mono ?_
  rintro e w' ⟨rfl, h⟩
  have e1 : p / 64 = (k : Int) := by omega
  have e2 : (p % 64).toNat = r := by omega
  rw [e1, e2]
  exact ⟨rfl, h⟩

set_option maxHeartbeats 400000 in
theorem fix_0 (n a b c d e f g h bit ds : Int) (w : World) :
    Calls Tryz.prog 133 #[cv n a b c d e f g h, .int .i64 0, .int .u64 bit, .int .u64 ds] w fun e' w' => e' = .returned (cv n (bits .or .u64 a bit) b c d (bits .or .u64 e (bits .and .u64 bit ds)) f g h) ∧ Below w.heap.size w w' := by
  unfold cv
  go_enter Tryz.func133, Tryz.ntmps133
  go_wp2
  exact bodyPost_ret (v := cv n (bits .or .u64 a bit) b c d (bits .or .u64 e (bits .and .u64 bit ds)) f g h) (by simp [results, Tryz.results133, go_sem, cv]) rfl ⟨rfl, ((Below.refl _ _).alloc (Nat.le_refl _) _).alloc (by simp) _⟩

set_option maxHeartbeats 400000 in
theorem at_0 (n a b c d e f g h p : Int) (r : Nat) (w : World) (hr : r < 64) (hp : p = ((64 * 0 + r : Nat) : Int)) :
    Calls Tryz.prog 123 #[cv n a b c d e f g h, .int .i64 p] w fun e' w' => e' = .returned (.int .u8 (if (bits .and .u64 a ((2 ^ r : Nat) : Int) == 0) = true then 120 else if (bits .and .u64 e ((2 ^ r : Nat) : Int) == 0) = true then 48 else 49)) ∧ Below w.heap.size w w' := by
  have HP : Hid (p = ((64 * 0 + r : Nat) : Int)) := hp
  clear hp
  unfold cv
  generalize hX : (2 ^ r : Nat) = X
  have HX : Hid ((2 ^ r : Nat) = X) := hX
  clear hX
  go_enter Tryz.func123, Tryz.ntmps123
  go_wp2_with (go_at_call 108; refine (spot_at p 0 r _ (by decide) hr HP.out).mono ?_; rintro e w' ⟨rfl, nq, rfl⟩; rw [HX.out])
  all_goals go_ret
  all_goals exact ⟨by simp_all, ((Below.refl _ _).alloc (Nat.le_refl _) _).trans (below_drewN _ _ _)⟩

set_option maxHeartbeats 400000 in
theorem fix_1 (n a b c d e f g h bit ds : Int) (w : World) :
    Calls Tryz.prog 133 #[cv n a b c d e f g h, .int .i64 1, .int .u64 bit, .int .u64 ds] w fun e' w' => e' = .returned (cv n a (bits .or .u64 b bit) c d e (bits .or .u64 f (bits .and .u64 bit ds)) g h) ∧ Below w.heap.size w w' := by
  unfold cv
  go_enter Tryz.func133, Tryz.ntmps133
  go_wp2
  exact bodyPost_ret (v := cv n a (bits .or .u64 b bit) c d e (bits .or .u64 f (bits .and .u64 bit ds)) g h) (by simp [results, Tryz.results133, go_sem, cv]) rfl ⟨rfl, ((Below.refl _ _).alloc (Nat.le_refl _) _).alloc (by simp) _⟩

set_option maxHeartbeats 400000 in
theorem at_1 (n a b c d e f g h p : Int) (r : Nat) (w : World) (hr : r < 64) (hp : p = ((64 * 1 + r : Nat) : Int)) :
    Calls Tryz.prog 123 #[cv n a b c d e f g h, .int .i64 p] w fun e' w' => e' = .returned (.int .u8 (if (bits .and .u64 b ((2 ^ r : Nat) : Int) == 0) = true then 120 else if (bits .and .u64 f ((2 ^ r : Nat) : Int) == 0) = true then 48 else 49)) ∧ Below w.heap.size w w' := by
  have HP : Hid (p = ((64 * 1 + r : Nat) : Int)) := hp
  clear hp
  unfold cv
  generalize hX : (2 ^ r : Nat) = X
  have HX : Hid ((2 ^ r : Nat) = X) := hX
  clear hX
  go_enter Tryz.func123, Tryz.ntmps123
  go_wp2_with (go_at_call 108; refine (spot_at p 1 r _ (by decide) hr HP.out).mono ?_; rintro e w' ⟨rfl, nq, rfl⟩; rw [HX.out])
  all_goals go_ret
  all_goals exact ⟨by simp_all, ((Below.refl _ _).alloc (Nat.le_refl _) _).trans (below_drewN _ _ _)⟩

set_option maxHeartbeats 400000 in
theorem fix_2 (n a b c d e f g h bit ds : Int) (w : World) :
    Calls Tryz.prog 133 #[cv n a b c d e f g h, .int .i64 2, .int .u64 bit, .int .u64 ds] w fun e' w' => e' = .returned (cv n a b (bits .or .u64 c bit) d e f (bits .or .u64 g (bits .and .u64 bit ds)) h) ∧ Below w.heap.size w w' := by
  unfold cv
  go_enter Tryz.func133, Tryz.ntmps133
  go_wp2
  exact bodyPost_ret (v := cv n a b (bits .or .u64 c bit) d e f (bits .or .u64 g (bits .and .u64 bit ds)) h) (by simp [results, Tryz.results133, go_sem, cv]) rfl ⟨rfl, ((Below.refl _ _).alloc (Nat.le_refl _) _).alloc (by simp) _⟩

set_option maxHeartbeats 400000 in
theorem at_2 (n a b c d e f g h p : Int) (r : Nat) (w : World) (hr : r < 64) (hp : p = ((64 * 2 + r : Nat) : Int)) :
    Calls Tryz.prog 123 #[cv n a b c d e f g h, .int .i64 p] w fun e' w' => e' = .returned (.int .u8 (if (bits .and .u64 c ((2 ^ r : Nat) : Int) == 0) = true then 120 else if (bits .and .u64 g ((2 ^ r : Nat) : Int) == 0) = true then 48 else 49)) ∧ Below w.heap.size w w' := by
  have HP : Hid (p = ((64 * 2 + r : Nat) : Int)) := hp
  clear hp
  unfold cv
  generalize hX : (2 ^ r : Nat) = X
  have HX : Hid ((2 ^ r : Nat) = X) := hX
  clear hX
  go_enter Tryz.func123, Tryz.ntmps123
  go_wp2_with (go_at_call 108; refine (spot_at p 2 r _ (by decide) hr HP.out).mono ?_; rintro e w' ⟨rfl, nq, rfl⟩; rw [HX.out])
  all_goals go_ret
  all_goals exact ⟨by simp_all, ((Below.refl _ _).alloc (Nat.le_refl _) _).trans (below_drewN _ _ _)⟩

set_option maxHeartbeats 400000 in
theorem fix_3 (n a b c d e f g h bit ds : Int) (w : World) :
    Calls Tryz.prog 133 #[cv n a b c d e f g h, .int .i64 3, .int .u64 bit, .int .u64 ds] w fun e' w' => e' = .returned (cv n a b c (bits .or .u64 d bit) e f g (bits .or .u64 h (bits .and .u64 bit ds))) ∧ Below w.heap.size w w' := by
  unfold cv
  go_enter Tryz.func133, Tryz.ntmps133
  go_wp2
  exact bodyPost_ret (v := cv n a b c (bits .or .u64 d bit) e f g (bits .or .u64 h (bits .and .u64 bit ds))) (by simp [results, Tryz.results133, go_sem, cv]) rfl ⟨rfl, ((Below.refl _ _).alloc (Nat.le_refl _) _).alloc (by simp) _⟩

set_option maxHeartbeats 400000 in
theorem at_3 (n a b c d e f g h p : Int) (r : Nat) (w : World) (hr : r < 64) (hp : p = ((64 * 3 + r : Nat) : Int)) :
    Calls Tryz.prog 123 #[cv n a b c d e f g h, .int .i64 p] w fun e' w' => e' = .returned (.int .u8 (if (bits .and .u64 d ((2 ^ r : Nat) : Int) == 0) = true then 120 else if (bits .and .u64 h ((2 ^ r : Nat) : Int) == 0) = true then 48 else 49)) ∧ Below w.heap.size w w' := by
  have HP : Hid (p = ((64 * 3 + r : Nat) : Int)) := hp
  clear hp
  unfold cv
  generalize hX : (2 ^ r : Nat) = X
  have HX : Hid ((2 ^ r : Nat) = X) := hX
  clear hX
  go_enter Tryz.func123, Tryz.ntmps123
  go_wp2_with (go_at_call 108; refine (spot_at p 3 r _ (by decide) hr HP.out).mono ?_; rintro e w' ⟨rfl, nq, rfl⟩; rw [HX.out])
  all_goals go_ret
  all_goals exact ⟨by simp_all, ((Below.refl _ _).alloc (Nat.le_refl _) _).trans (below_drewN _ _ _)⟩
/-! The fewest prefixes of a range: the greedy list is that of the halves. -/
theorem bitLen_spec (n : Nat) : 0 < n → n < 2 ^ 64 → 2 ^ Lib.bitLen n ≤ 2 * n ∧ n < 2 ^ Lib.bitLen n := by
  induction n using Nat.strongRecOn with
  | ind n ih =>
  intro h0 h
  rw [Lib.bitLen_half n (by omega) h]
  by_cases h1 : n = 1
  · subst h1
    decide
  · obtain ⟨a, b⟩ := ih (n / 2) (by omega) (by omega) (by omega)
    rw [Nat.add_comm 1, Nat.pow_succ]
    omega
abbrev cz (a : Nat) : Nat := Lib.ctz 64 a
abbrev lg (n : Nat) : Nat := Lib.bitLen n - 1
theorem lg_le {n k : Nat} (h0 : 0 < n) (h : n < 2 ^ 64) (hk : 2 ^ k ≤ n) : k ≤ lg n := by
  obtain ⟨_, b⟩ := bitLen_spec n h0 h
  have : k < Lib.bitLen n := (Nat.pow_lt_pow_iff_right (by decide)).1 (Nat.lt_of_le_of_lt hk b)
  show k ≤ Lib.bitLen n - 1
  omega
theorem lg_pow {n : Nat} (h0 : 0 < n) (h : n < 2 ^ 64) : 2 ^ lg n ≤ n := by
  obtain ⟨a, b⟩ := bitLen_spec n h0 h
  have h1 : Lib.bitLen n ≠ 0 := fun e => by rw [e] at b; simp at b; omega
  obtain ⟨m, hm⟩ : ∃ m, Lib.bitLen n = m + 1 := ⟨Lib.bitLen n - 1, by omega⟩
  show 2 ^ (Lib.bitLen n - 1) ≤ n
  rw [hm, Nat.pow_succ] at a
  rw [hm]
  simp only [Nat.add_sub_cancel]
  omega
theorem cz_dvd {a : Nat} (h0 : a ≠ 0) (h : a < 2 ^ 64) : 2 ^ cz a ∣ a := by
  obtain ⟨m, hm, _⟩ := Lib.ctzFrom_spec 64 a (by omega) h
  have e : cz a = Lib.ctzFrom 64 a := if_neg h0
  rw [e]
  exact ⟨_, hm⟩
theorem cz_lt {a k : Nat} (h0 : a ≠ 0) (h : a < 2 ^ 64) (hk : ¬ 2 ^ k ∣ a) : cz a < k := by
  refine Classical.byContradiction (fun hn => hk ?_)
  exact Nat.dvd_trans (Nat.pow_dvd_pow 2 (by omega)) (cz_dvd h0 h)
theorem cz_ge {a k : Nat} (h : a < 2 ^ 64) (hk : 2 ^ k ∣ a) (hk6 : k ≤ 64) : k ≤ cz a := by
  by_cases h0 : a = 0
  · subst h0
    exact hk6
  · obtain ⟨m, hm, _⟩ := Lib.ctzFrom_spec 64 a (by omega) h
    have e : cz a = Lib.ctzFrom 64 a := if_neg h0
    rw [e]
    refine Classical.byContradiction (fun hn => ?_)
    obtain ⟨d, hd⟩ : ∃ d, k = Lib.ctzFrom 64 a + (d + 1) := ⟨k - Lib.ctzFrom 64 a - 1, by omega⟩
    obtain ⟨q, hq⟩ := hk
    rw [hd, Nat.pow_add, Nat.mul_assoc] at hq
    have hp : 0 < 2 ^ Lib.ctzFrom 64 a := Nat.pow_pos (by decide)
    have h1 : 2 * m + 1 = 2 ^ (d + 1) * q := Nat.eq_of_mul_eq_mul_left hp (hm.symm.trans hq)
    rw [Nat.pow_succ, Nat.mul_assoc] at h1
    have h2 : 2 ^ d * (2 * q) = 2 * (2 ^ d * q) := Nat.mul_left_comm _ _ _
    omega
def fre (a e : Nat) : Nat := min (cz a) (lg (e - a + 1))
theorem fre_le {a e : Nat} (h : a ≤ e) (he : e < 2 ^ 63) : 2 ^ fre a e ≤ e - a + 1 :=
  Nat.le_trans (Nat.pow_le_pow_right (by decide) (Nat.min_le_right _ _)) (lg_pow (by omega) (by omega))
def gr (a e : Nat) : List (Nat × Nat) := if a ≤ e then (a, fre a e) :: gr (a + 2 ^ fre a e) e else []
termination_by e + 1 - a
decreasing_by
  have : 0 < 2 ^ fre a e := Nat.pow_pos (by decide)
  omega
theorem gr_le {a e : Nat} (h : a ≤ e) : gr a e = (a, fre a e) :: gr (a + 2 ^ fre a e) e := by rw [gr, if_pos h]
theorem gr_end {a e : Nat} (h : ¬ a ≤ e) : gr a e = [] := by rw [gr, if_neg h]
theorem next_le {a b f : Nat} (ha : 2 ^ f ∣ a) (hb : 2 ^ f ∣ b) (h : a < b) : a + 2 ^ f ≤ b := by
  obtain ⟨x, rfl⟩ := ha
  obtain ⟨y, rfl⟩ := hb
  have hxy : x < y := Nat.lt_of_mul_lt_mul_left h
  have := Nat.mul_le_mul_left (2 ^ f) (show x + 1 ≤ y from hxy)
  rw [Nat.mul_add, Nat.mul_one] at this
  exact this
theorem not_dvd {b a w : Nat} (hb : 2 ^ w ∣ b) (h1 : b < a) (h2 : a < b + 2 ^ w) : ¬ 2 ^ w ∣ a := fun h => by
  have := next_le hb h h1
  omega
theorem fre_in {b a w m e : Nat} (hb : 2 ^ w ∣ b) (h1 : b < a) (h2 : a < m) (hm : m = b + 2 ^ w) (hme : m ≤ e + 1) (he : e < 2 ^ 63) : fre a e = cz a := by
  have hlt := cz_lt (a := a) (k := w) (by omega) (by omega) (not_dvd hb h1 (by omega))
  have hd := cz_dvd (a := a) (by omega) (by omega)
  have hdm : 2 ^ cz a ∣ m := by
    rw [hm]
    exact Nat.dvd_add (Nat.dvd_trans (Nat.pow_dvd_pow 2 (by omega)) hb) (Nat.pow_dvd_pow 2 (by omega))
  have hn := next_le hd hdm h2
  have hl := lg_le (n := e - a + 1) (k := cz a) (by omega) (by omega) (by omega)
  unfold fre
  omega
theorem gr_split_in {b w m e : Nat} (hb : 2 ^ w ∣ b) (hm : m = b + 2 ^ w) (hme : m ≤ e + 1) (he : e < 2 ^ 63) : ∀ (n a : Nat), m - a ≤ n → b < a → a ≤ m → gr a e = gr a (m - 1) ++ gr m e := by
  intro n
  induction n with
  | zero =>
    intro a hn h1 h2
    obtain rfl : a = m := by omega
    rw [gr_end (a := a) (e := a - 1) (by omega)]
    rfl
  | succ n ih =>
    intro a hn h1 h2
    by_cases ham : a = m
    · subst ham
      rw [gr_end (a := a) (e := a - 1) (by omega)]
      rfl
    · have f1 := fre_in hb h1 (by omega) hm hme he
      have f2 := fre_in (e := m - 1) hb h1 (by omega) hm (by omega) (by omega)
      have hp : 0 < 2 ^ cz a := Nat.pow_pos (by decide)
      have hle := fre_le (a := a) (e := m - 1) (by omega) (by omega)
      rw [f2] at hle
      rw [gr_le (a := a) (e := e) (by omega), gr_le (a := a) (e := m - 1) (by omega), f1, f2, ih (a + 2 ^ cz a) (by omega) (by omega) (by omega)]
      rfl
theorem fre_full {b w : Nat} (hb : 2 ^ w ∣ b) (hw : w ≤ 32) (h : b < 2 ^ 62) : fre b (b + 2 ^ w - 1) = w := by
  have hp : 0 < 2 ^ w := Nat.pow_pos (by decide)
  have hp2 : 2 ^ w ≤ 2 ^ 32 := Nat.pow_le_pow_right (by decide) hw
  have e : b + 2 ^ w - 1 - b + 1 = 2 ^ w := by omega
  have h1 := cz_ge (a := b) (k := w) (by omega) hb (by omega)
  have h2 := lg_le (n := 2 ^ w) (k := w) hp (by omega) (Nat.le_refl _)
  have h3 := lg_pow (n := 2 ^ w) hp (by omega)
  have h4 : lg (2 ^ w) ≤ w := (Nat.pow_le_pow_iff_right (by decide)).1 h3
  unfold fre
  rw [e]
  omega
theorem gr_full {b w : Nat} (hb : 2 ^ w ∣ b) (hw : w ≤ 32) (h : b < 2 ^ 62) : gr b (b + 2 ^ w - 1) = [(b, w)] := by
  have hp : 0 < 2 ^ w := Nat.pow_pos (by decide)
  rw [gr_le (by omega), fre_full hb hw h, gr_end (by omega)]
theorem gr_split {b w a e : Nat} (hb : 2 ^ (w + 1) ∣ b) (hw : w < 32) (hb2 : b < 2 ^ 62) (h1 : b ≤ a) (h2 : a < b + 2 ^ w) (h3 : b + 2 ^ w ≤ e) (h4 : e < b + 2 ^ (w + 1)) (hn : ¬ (a = b ∧ e = b + 2 ^ (w + 1) - 1)) : gr a e = gr a (b + 2 ^ w - 1) ++ gr (b + 2 ^ w) e := by
  have hbw : 2 ^ w ∣ b := Nat.dvd_trans (Nat.pow_dvd_pow 2 (by omega)) hb
  have hp : 0 < 2 ^ w := Nat.pow_pos (by decide)
  have hp2 : 2 ^ w ≤ 2 ^ 32 := Nat.pow_le_pow_right (by decide) (by omega)
  rw [Nat.pow_succ] at h4 hn
  by_cases hab : a = b
  · subst hab
    have h5 : e - a + 1 < 2 ^ (w + 1) := by rw [Nat.pow_succ]; omega
    have f1 : fre a e = w := by
      have c1 := cz_ge (a := a) (k := w) (by omega) hbw (by omega)
      have c2 := lg_le (n := e - a + 1) (k := w) (by omega) (by omega) (by omega)
      have c3 := lg_pow (n := e - a + 1) (by omega) (by omega)
      have c4 : lg (e - a + 1) < w + 1 := (Nat.pow_lt_pow_iff_right (a := 2) (by decide)).1 (by omega)
      unfold fre
      omega
    rw [gr_full hbw (by omega) hb2, gr_le (a := a) (e := e) (by omega), f1]
    rfl
  · exact gr_split_in hbw rfl (by omega) (by omega) _ a (Nat.le_refl _) (by omega) (by omega)
def hv : Nat → Nat → Nat → Nat → List (Nat × Nat)
  | 0, b, lo, hi => if lo ≤ b ∧ b + 2 ^ 0 - 1 ≤ hi then [(b, 0)] else []
  | w + 1, b, lo, hi => if lo ≤ b ∧ b + 2 ^ (w + 1) - 1 ≤ hi then [(b, w + 1)] else if hi < b ∨ b + 2 ^ (w + 1) - 1 < lo then [] else hv w b lo hi ++ hv w (b + 2 ^ w) lo hi
theorem hv_gr (lo hi : Nat) (hl : lo ≤ hi) : ∀ (w b : Nat), w ≤ 32 → 2 ^ w ∣ b → b + 2 ^ w ≤ 2 ^ 33 → hv w b lo hi = if max lo b ≤ min hi (b + 2 ^ w - 1) then gr (max lo b) (min hi (b + 2 ^ w - 1)) else [] := by
  intro w
  induction w with
  | zero =>
    intro b hw hd hb
    rw [hv]
    by_cases h : lo ≤ b ∧ b + 2 ^ 0 - 1 ≤ hi
    · rw [if_pos h, if_pos (by omega), Nat.max_eq_right h.1, Nat.min_eq_right h.2, gr_full hd hw (by omega)]
    · rw [if_neg h, if_neg (by omega)]
  | succ w ih =>
    intro b hw hd hb
    have hp : 0 < 2 ^ w := Nat.pow_pos (by decide)
    have hps : 2 ^ (w + 1) = 2 ^ w * 2 := Nat.pow_succ 2 w
    have hdw : 2 ^ w ∣ b := Nat.dvd_trans (Nat.pow_dvd_pow 2 (by omega)) hd
    rw [hv]
    by_cases h : lo ≤ b ∧ b + 2 ^ (w + 1) - 1 ≤ hi
    · rw [if_pos h, if_pos (by omega), Nat.max_eq_right h.1, Nat.min_eq_right h.2, gr_full hd hw (by omega)]
    · rw [if_neg h]
      by_cases h2 : hi < b ∨ b + 2 ^ (w + 1) - 1 < lo
      · rw [if_pos h2, if_neg (by omega)]
      · rw [if_neg h2, ih b (by omega) hdw (by omega), ih (b + 2 ^ w) (by omega) (Nat.dvd_add hdw (Nat.dvd_refl _)) (by omega), if_pos (show max lo b ≤ min hi (b + 2 ^ (w + 1) - 1) by omega)]
        have e1 : b + 2 ^ w + 2 ^ w - 1 = b + 2 ^ (w + 1) - 1 := by omega
        rw [e1]
        by_cases g1 : hi < b + 2 ^ w
        · rw [if_pos (by omega), if_neg (by omega), List.append_nil, Nat.min_eq_left (show hi ≤ b + 2 ^ w - 1 by omega), Nat.min_eq_left (show hi ≤ b + 2 ^ (w + 1) - 1 by omega)]
        · by_cases g2 : b + 2 ^ w ≤ lo
          · rw [if_neg (by omega), if_pos (by omega), List.nil_append, Nat.max_eq_left g2, Nat.max_eq_left (show b ≤ lo by omega)]
          · rw [if_pos (by omega), if_pos (by omega), Nat.min_eq_right (show b + 2 ^ w - 1 ≤ hi by omega), Nat.max_eq_right (show lo ≤ b + 2 ^ w by omega)]
            exact (gr_split hd (by omega) (by omega) (by omega) (by omega) (by omega) (by omega) (by omega)).symm
theorem hv_all (w lo hi : Nat) (hw : w ≤ 32) (hl : lo ≤ hi) (hh : hi < 2 ^ w) : hv w 0 lo hi = gr lo hi := by
  have hp : 2 ^ w ≤ 2 ^ 32 := Nat.pow_le_pow_right (by decide) hw
  rw [hv_gr lo hi hl w 0 hw (Nat.dvd_zero _) (by omega), if_pos (by omega), Nat.max_eq_left (by omega), Nat.min_eq_left (by omega)]
theorem quiet_lit3 {P : Program} {id : Nat} {Q : Exit → Act → World → Prop} {a : Act} {w : World} {l : List Oper} {C : World → Prop} (hm : P.follows .mixedOrders = true) (hB : Region.lexB .any l.toArray = true) (hC : C w.drew)
    (h : wpQuiet P l.toArray C (fun a' => ∀ w', C w' → Q .normal a' w') l a) : (Code.region id l.toArray true).wp P Q a w :=
  wp_region_quiet (C := C) hm hB hC (by simpa using h)

theorem alloc_get (w : World) (o : Obj) : (w.alloc o).heap[w.heap.size]? = some o := by
  show (w.heap.push o)[w.heap.size]? = _
  simp

theorem lt_of_get {w : World} {b : Nat} {o : Obj} (h : w.heap[b]? = some o) : b < w.heap.size := by
  rcases Nat.lt_or_ge b w.heap.size with h1 | h1
  · exact h1
  · rw [Array.getElem?_eq_none h1] at h; cases h

theorem grown_of_below {w w' : World} (h : Below w.heap.size w w') (row : Option Nat) : w.grownBy w' row :=
  ⟨h.os, h.tape, h.output, h.size, fun k hk _ => h.block k hk⟩

theorem owns_below {w w' : World} {base : Nat} {e : TypeId} {size : Nat} {v : Value} {n : Nat} {xs : List Value} (h : w.ownsRow base e size v n xs) (hb : Below w.heap.size w w') : w'.ownsRow base e size v n xs := by
  refine h.kept (grown_of_below hb none) ?_
  cases v.ownBlock <;> simp

theorem bel1 {w w1 : World} {o : Obj} (h : Below (w.alloc o).heap.size (w.alloc o) w1) : Below w.heap.size w w1 :=
  ((Below.refl _ _).alloc (Nat.le_refl _) _).trans (h.mono (by simp))
theorem bel0 {w w1 w2 : World} (h : Below w.heap.size w w1) (h2 : Below w1.heap.size w1 w2) : Below w.heap.size w w2 := h.trans (h2.mono h.size)
theorem keepblk {W w' : World} {b : Nat} {o : Obj} (hb : Below W.heap.size W w') (h : W.heap[b]? = some o) : w'.heap[b]? = some o := (hb.block b (lt_of_get h)).trans h
theorem allocblk {W : World} {b : Nat} {o : Obj} (h : W.heap[b]? = some o) (O : Obj) : (W.alloc O).heap[b]? = some o := (Below.heap_alloc _ _ _ (lt_of_get h)).trans h

theorem shapeP {W : World} {B n : Nat} {e : TypeId} {v : Value} {xs : List Value} {sz : Nat} (h : W.ownsRow B e sz v n xs) : ∃ p c, v = .slice p n c := by
  rcases h.2 with ⟨rfl, rfl⟩ | ⟨g, c, _, rfl, _⟩
  · exact ⟨_, _, rfl⟩
  · exact ⟨_, _, rfl⟩
theorem bel_drewN {B : Nat} {w W : World} (n : Nat) (h : Below B w W) : Below B w (W.drewN n) := h.trans ⟨rfl, rfl, rfl, Nat.le_refl _, fun _ _ => rfl⟩
theorem cat_bytes (a b : List UInt8) : (ByteArray.mk a.toArray) ++ (ByteArray.mk b.toArray) = ⟨(a ++ b).toArray⟩ := ByteArray.ext (by simp)
theorem byte_get (l : List UInt8) (k : Nat) (h : k < l.length) : ∃ c, (∀ h', (ByteArray.mk l.toArray)[k]'h' = c) ∧ l[k]? = some c := ⟨l[k], fun _ => rfl, List.getElem?_eq_getElem h⟩
theorem u8_ne {c d : UInt8} (h : c ≠ d) : ((c.toNat : Int) == (d.toNat : Int)) = false := by
  rw [beq_eq_false_iff_ne]
  intro e
  exact h (UInt8.toNat_inj.1 (by omega))
theorem ext_drop (l : List UInt8) (i : Nat) : (ByteArray.mk l.toArray).extract i l.length = ⟨(l.drop i).toArray⟩ := ByteArray.ext (by simp; exact List.take_of_length_le (by simp))
theorem pow_cast (b : Nat) : (2 : Int) ^ b = ((2 ^ b : Nat) : Int) := by simp
theorem w64 {x : Int} (h0 : -9223372036854775808 ≤ x) (h1 : x ≤ 9223372036854775807) : wrap64 x = x := by unfold wrap64; omega
set_option maxRecDepth 100000 in
theorem greatest_any (b : Nat) (hb : b ≤ 32) (w : World) :
    Calls Tryz.prog 79 #[.int .i64 (b : Int)] w fun e w' => e = .returned (.int .i64 ((2 ^ b - 1 : Nat) : Int)) ∧ w' = w := by
  have hp : 2 ^ b ≤ 2 ^ 32 := Nat.pow_le_pow_right (by decide) hb
  have hp0 : 0 < 2 ^ b := Nat.pow_pos (by decide)
  go_enter Tryz.func79, Tryz.ntmps79
  go_wp2_with fail
  go_ret
  refine ⟨?_, rfl⟩
  have e1 : wrap64 (2 ^ b) = ((2 ^ b : Nat) : Int) := by rw [pow_cast]; exact w64 (by omega) (by omega)
  have e2 : wrap64 (wrap64 (2 ^ b) - 1) = ((2 ^ b - 1 : Nat) : Int) := by rw [e1, w64 (by omega) (by omega)]; omega
  exact congrArg (fun z => Ending.returned (Value.int .i64 z)) e2
set_option maxRecDepth 100000 in
theorem fits_any (v : Int) (b : Nat) (hb : b ≤ 32) (w : World) :
    Calls Tryz.prog 78 #[.int .i64 v, .int .i64 (b : Int)] w fun e w' => e = .returned (.bool (decide (0 ≤ v ∧ v ≤ ((2 ^ b - 1 : Nat) : Int)))) ∧ w' = w := by
  have HG := fun W => greatest_any b hb W
  obtain ⟨g, hg⟩ : ∃ g : Nat, 2 ^ b - 1 = g := ⟨_, rfl⟩
  rw [hg] at HG ⊢
  clear hg
  by_cases h0 : 0 ≤ v
  · by_cases h1 : v ≤ (g : Int)
    · rw [decide_eq_true ⟨h0, h1⟩]
      go_enter Tryz.func78, Tryz.ntmps78
      go_wp2_with fail
      refine (HG _).mono ?_
      rintro e w1 ⟨rfl, rfl⟩
      go_wp2_with fail
      go_ret
      exact ⟨rfl, rfl⟩
    · rw [decide_eq_false (fun h => h1 h.2)]
      go_enter Tryz.func78, Tryz.ntmps78
      go_wp2_with fail
      refine (HG _).mono ?_
      rintro e w1 ⟨rfl, rfl⟩
      have hd : Hid (decide (v ≤ (g : Int)) = false) := decide_eq_false (by omega)
      go_wp2_with fail
      go_ret
      exact ⟨by first | rfl | (rw [hd.out]; rfl), rfl⟩
  · rw [decide_eq_false (fun h => h0 h.1)]
    go_enter Tryz.func78, Tryz.ntmps78
    go_wp2_with fail
    go_ret
    exact ⟨rfl, rfl⟩
end Go.Proofs.YtepokgainceidaaGreatDoor

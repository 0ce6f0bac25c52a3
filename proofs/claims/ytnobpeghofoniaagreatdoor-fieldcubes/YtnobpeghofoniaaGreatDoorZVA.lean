import Derived.Lib.TrimByte
import Derived.Lib.Join
import Derived.Lib.IndexAny
import Derived.Shelf.Strings.Trim
import Derived.Shelf.Strings.IndexAnyAll
import Derived.Shelf.Strings.OnBuilder
import Derived.Ground.NamesProg
import Derived.Test.YtnobpeghofoniaaGreatDoorProg
import Derived.Test.YtnobpeghofoniaaGreatDoorZ40
import Derived.Test.YtnobpeghofoniaaGreatDoorZ13
import Derived.Test.YtnobpeghofoniaaGreatDoorZTA
import Derived.Test.YtnobpeghofoniaaGreatDoorZ2
import Derived.Lib.IndexLaws
namespace Go.Proofs.YtnobpeghofoniaaGreatDoor
/-- how many bytes are no x, and whether they stand ahead of all x, as the document counts them -/
def cntS : List UInt8 → Nat → Bool → Nat → Nat × Bool
  | [], n, f, _ => (n, f)
  | c :: r, n, f, i => if c = 120 then cntS r n f (i + 1) else cntS r (n + 1) (f && decide (n + 1 = i + 1)) (i + 1)
theorem cnt_step {s : List UInt8} {k : Nat} {c : UInt8} (h : s[k]? = some c) (n : Nat) (f : Bool) : cntS (s.drop k) n f k = if c = 120 then cntS (s.drop (k + 1)) n f (k + 1) else cntS (s.drop (k + 1)) (n + 1) (f && decide (n + 1 = k + 1)) (k + 1) := by
  obtain ⟨hk, e⟩ := List.getElem?_eq_some_iff.1 h
  rw [List.drop_eq_getElem_cons hk, e, cntS]
theorem cnt_num : ∀ (r : List UInt8) (n : Nat) (f : Bool) (i : Nat), (cntS r n f i).1 = n + r.countP (fun c => c != 120)
  | [], n, f, i => rfl
  | c :: r, n, f, i => by
    rw [cntS]
    by_cases h : c = 120
    · rw [if_pos h, cnt_num r, List.countP_cons, h]
      rfl
    · rw [if_neg h, cnt_num r, List.countP_cons, if_pos (by simpa using h)]
      omega
theorem cnt_false : ∀ (r : List UInt8) (n i : Nat), (cntS r n false i).2 = false
  | [], n, i => rfl
  | c :: r, n, i => by
    rw [cntS]
    split
    · exact cnt_false r _ _
    · exact cnt_false r _ _
theorem cnt_lt : ∀ (r : List UInt8) (n : Nat) (f : Bool) (i : Nat), n < i → (∃ c ∈ r, c ≠ 120) → (cntS r n f i).2 = false
  | [], n, f, i, _, h => by obtain ⟨c, h, _⟩ := h; simp at h
  | c :: r, n, f, i, hn, h => by
    rw [cntS]
    by_cases e : c = 120
    · rw [if_pos e]
      refine cnt_lt r n f (i + 1) (by omega) ?_
      obtain ⟨d, h1, h2⟩ := h
      rcases List.mem_cons.1 h1 with rfl | h1
      · exact absurd e h2
      · exact ⟨d, h1, h2⟩
    · rw [if_neg e, decide_eq_false (by omega), Bool.and_false]
      exact cnt_false r _ _
theorem cnt_mem : ∀ (r : List UInt8) (n : Nat) (f : Bool) (i : Nat) (c : UInt8), n ≤ i → 120 ∈ r → c ≠ 120 → (cntS (r ++ [c]) n f i).2 = false
  | [], n, f, i, c, _, h, _ => by simp at h
  | d :: r, n, f, i, c, hn, h, hc => by
    rw [List.cons_append, cntS]
    by_cases e : d = 120
    · rw [if_pos e]
      exact cnt_lt _ n f (i + 1) (by omega) ⟨c, by simp, hc⟩
    · rw [if_neg e]
      refine cnt_mem r (n + 1) _ (i + 1) c (by omega) ?_ hc
      rcases List.mem_cons.1 h with h | h
      · exact absurd h.symm e
      · exact h
theorem cnt_all : ∀ (r : List UInt8) (n : Nat), (∀ c ∈ r, c ≠ 120) → cntS r n true n = (n + r.length, true)
  | [], n, _ => rfl
  | c :: r, n, h => by
    rw [cntS, if_neg (h c (by simp)), decide_eq_true rfl, Bool.and_true, cnt_all r (n + 1) (fun d hd => h d (by simp [hd])), List.length_cons]
    congr 1
    omega
theorem cnt_xs : ∀ (r : List UInt8) (m n : Nat) (f : Bool) (i : Nat), cntS (r ++ List.replicate m 120) n f i = cntS r n f i
  | [], 0, n, f, i => rfl
  | [], m + 1, n, f, i => by
    rw [List.nil_append, List.replicate_succ]
    show (if (120 : UInt8) = 120 then cntS (List.replicate m 120) n f (i + 1) else _) = _
    rw [if_pos rfl]
    exact cnt_xs [] m n f (i + 1)
  | c :: r, m, n, f, i => by
    rw [List.cons_append, cntS, cntS]
    split
    · exact cnt_xs r m _ _ _
    · exact cnt_xs r m _ _ _
theorem drop_rep : ∀ l : List UInt8, ∃ m, l = List.replicate m 120 ++ l.dropWhile (· == 120)
  | [] => ⟨0, rfl⟩
  | c :: l => by
    by_cases e : c = 120
    · obtain ⟨m, h⟩ := drop_rep l
      refine ⟨m + 1, ?_⟩
      rw [List.dropWhile_cons, if_pos (by simpa using e), List.replicate_succ, List.cons_append, ← h, e]
    · refine ⟨0, ?_⟩
      rw [List.dropWhile_cons, if_neg (by simpa using e)]
      rfl
theorem drop_head : ∀ (l : List UInt8) (c : UInt8) (r : List UInt8), l.dropWhile (· == 120) = c :: r → c ≠ 120
  | [], c, r, h => by simp at h
  | d :: l, c, r, h => by
    rw [List.dropWhile_cons] at h
    split at h
    · exact drop_head l c r h
    · rename_i e
      injection h with h1 _
      subst h1
      simpa using e
/-- a text is what is ahead of its last x, and these -/
theorem trim_rep (D : List UInt8) : ∃ m, D = Lib.trimRightB D 120 ++ List.replicate m 120 := by
  obtain ⟨m, h⟩ := drop_rep D.reverse
  refine ⟨m, ?_⟩
  unfold Lib.trimRightB
  have := congrArg List.reverse h
  rw [List.reverse_reverse, List.reverse_append, List.reverse_replicate] at this
  exact this
theorem trim_last (D : List UInt8) : Lib.trimRightB D 120 = [] ∨ ∃ r c, Lib.trimRightB D 120 = r ++ [c] ∧ c ≠ 120 := by
  unfold Lib.trimRightB
  cases h : D.reverse.dropWhile (· == 120) with
  | nil => exact .inl rfl
  | cons c r => exact .inr ⟨r.reverse, c, by simp, drop_head _ _ _ h⟩
theorem cnt_trim (D : List UInt8) : (120 ∈ Lib.trimRightB D 120 → (cntS D 0 true 0).1 < D.length ∧ (cntS D 0 true 0).2 = false) ∧ (120 ∉ Lib.trimRightB D 120 → cntS D 0 true 0 = ((Lib.trimRightB D 120).length, true)) := by
  obtain ⟨m, hm⟩ := trim_rep D
  have hl := trim_last D
  obtain ⟨A, hA⟩ : ∃ A, Lib.trimRightB D 120 = A := ⟨_, rfl⟩
  rw [hA] at hm hl ⊢
  have e := cnt_xs A m 0 true 0
  rw [← hm] at e
  constructor
  · intro h
    rcases hl with rfl | ⟨r, c, rfl, hc⟩
    · simp at h
    · have hr : 120 ∈ r := by
        rcases List.mem_append.1 h with h | h
        · exact h
        · exact absurd (List.mem_singleton.1 h).symm hc
      refine ⟨?_, by rw [e]; exact cnt_mem r 0 true 0 c (Nat.le_refl _) hr hc⟩
      rw [cnt_num, Nat.zero_add]
      have h1 := List.countP_le_length (p := fun c : UInt8 => c != 120) (l := D)
      rcases Nat.lt_or_ge (D.countP fun c => c != 120) D.length with h2 | h2
      · exact h2
      · have := (List.countP_eq_length (p := fun c : UInt8 => c != 120) (l := D)).1 (by omega) 120 (by rw [hm]; simp [hr])
        simp at this
  · intro h
    rw [e, cnt_all A 0 (fun c hc e => h (e ▸ hc)), Nat.zero_add]
theorem cnt_le (D : List UInt8) : (cntS D 0 true 0).1 ≤ D.length := by
  rw [cnt_num, Nat.zero_add]
  exact List.countP_le_length
theorem cnt_zero {D : List UInt8} (h : D.all (fun c => c == 48 || c == 49 || c == 120) = true) : (cntS D 0 true 0).1 = 0 ↔ D.any (fun c => c == 48 || c == 49) = false := by
  rw [cnt_num, Nat.zero_add, List.countP_eq_zero, List.any_eq_false]
  refine ⟨fun h1 c hc => ?_, fun h1 c hc => ?_⟩
  · have := h1 c hc
    simp only [bne_iff_ne, ne_eq, Decidable.not_not] at this
    rw [this]
    decide
  · have h2 := h1 c hc
    have h3 := List.all_eq_true.1 h c hc
    simp only [Bool.or_eq_true, beq_iff_eq, not_or] at h2 h3
    simp only [bne_iff_ne, ne_eq, Decidable.not_not]
    rcases h3 with h3 | h3
    · exact absurd h3 (by simpa using h2)
    · exact h3
theorem any_has : ∀ D : List UInt8, Lib.containsAny D [48, 49] = D.any (fun c => c == 48 || c == 49)
  | [] => rfl
  | c :: D => by
    have ih := any_has D
    have hge := Lib.indexAny_ge [48, 49] D
    unfold Lib.containsAny at ih ⊢
    rw [Lib.indexAny, List.any_cons, ← ih]
    have hc : ([48, 49] : List UInt8).contains c = (c == 48 || c == 49) := by
      show (c == 48 || (c == 49 || false)) = _
      rw [Bool.or_false]
    rw [hc]
    cases h : (c == 48 || c == 49) with
    | true => rfl
    | false =>
      simp only [Bool.false_eq_true, if_false, Bool.false_or]
      by_cases e : Lib.indexAny D [48, 49] = -1
      · rw [e]
        rfl
      · rw [if_neg (by simpa using e)]
        congr 1
        simp only [eq_iff_iff]
        omega
theorem join_snoc : ∀ (T : List (List UInt8)) (x sep : List UInt8), T ≠ [] → Lib.join (T ++ [x]) sep = Lib.join T sep ++ sep ++ x
  | [], x, sep, h => absurd rfl h
  | y :: T, x, sep, _ => by
    rw [List.cons_append, Lib.join_cons, Lib.join_cons, Lib.joinTail, List.map_append, List.flatten_append, ← Lib.joinTail]
    simp [List.append_assoc]
theorem join_ne {T : List (List UInt8)} {sep : List UInt8} (h : T ≠ []) (hx : ∀ x ∈ T, x ≠ []) : Lib.join T sep ≠ [] := by
  cases T with
  | nil => exact absurd rfl h
  | cons y T =>
    rw [Lib.join_cons]
    intro e
    exact hx y (by simp) (List.append_eq_nil_iff.1 e).1
theorem join_le {T : List (List UInt8)} {sep : List UInt8} {B : Nat} (hs : sep.length ≤ B) (h : ∀ x ∈ T, x.length ≤ B) : (Lib.join T sep).length ≤ T.length * (2 * B) := by
  cases T with
  | nil => simp [Lib.join_nil]
  | cons y T =>
    rw [Lib.join_cons, List.length_append, Lib.joinTail_length]
    have h1 := h y (by simp)
    have h2 : Lib.lens T ≤ T.length * B := by
      have hT : ∀ x ∈ T, x.length ≤ B := fun x hx => h x (by simp [hx])
      clear h h1
      induction T with
      | nil => simp [Lib.lens]
      | cons z T ih =>
        have := ih (fun x hx => hT x (by simp [hx]))
        have h3 := hT z (by simp)
        simp only [Lib.lens, List.map_cons, List.sum_cons, List.length_cons] at this ⊢
        rw [Nat.succ_mul]
        omega
    have h3 : sep.length * T.length ≤ T.length * B := by rw [Nat.mul_comm]; exact Nat.mul_le_mul_left _ hs
    rw [List.length_cons, Nat.succ_mul, show T.length * (2 * B) = T.length * B + T.length * B by rw [← Nat.mul_add]; congr 1; omega]
    omega
end Go.Proofs.YtnobpeghofoniaaGreatDoor
namespace Go.Proofs
open Go.Shelf
def Tryz.l162_ren : Go.Shelf.Ren := ⟨fun | 162 => 80 | 232 => 104 | 227 => 102 | 234 => 105 | 236 => 106 | 228 => 103 | 271 => 128 | 151 => 129 | 120 => 140 | 197 => 141 | 152 => 100 | 260 => 155 | 137 => 124 | 119 => 125 | 224 => 126 | 225 => 127 | 217 => 139 | 266 => 154 | n => n, fun | 9 => 9 | 4 => 4 | 3 => 3 | 5 => 5 | 117 => 146 | 116 => 145 | 0 => 0 | 124 => 151 | 21 => 21 | 105 => 169 | 46 => 103 | 119 => 197 | 139 => 200 | 138 => 199 | n => n, fun | 3 => 6 | 4 => 7 | n => n⟩
theorem Tryz.l162 : Go.Proofs.Lays.n162 Tryz.prog Tryz.l162_ren := {
  mixed := by kernel_rfl
  f119 := Tryz.func125.trans (congrArg some (by kernel_rfl))
  f120 := Tryz.func140.trans (congrArg some (by kernel_rfl))
  f137 := Tryz.func124.trans (congrArg some (by kernel_rfl))
  f151 := Tryz.func129.trans (congrArg some (by kernel_rfl))
  f152 := Tryz.func100.trans (congrArg some (by kernel_rfl))
  f162 := Tryz.func80.trans (congrArg some (by kernel_rfl))
  f197 := Tryz.func141.trans (congrArg some (by kernel_rfl))
  f217 := Tryz.func139.trans (congrArg some (by kernel_rfl))
  f224 := Tryz.func126.trans (congrArg some (by kernel_rfl))
  f225 := Tryz.func127.trans (congrArg some (by kernel_rfl))
  f227 := Tryz.func102.trans (congrArg some (by kernel_rfl))
  f228 := Tryz.func103.trans (congrArg some (by kernel_rfl))
  f232 := Tryz.func104.trans (congrArg some (by kernel_rfl))
  f234 := Tryz.func105.trans (congrArg some (by kernel_rfl))
  f236 := Tryz.func106.trans (congrArg some (by kernel_rfl))
  f260 := Tryz.func155.trans (congrArg some (by kernel_rfl))
  f266 := Tryz.func154.trans (congrArg some (by kernel_rfl))
  f271 := Tryz.func128.trans (congrArg some (by kernel_rfl))
  t0 := Tryz.underlying0
  a0 := Tryz.isAgg0
  z0 := Tryz.sizeOf0
  v0 := Tryz.zeroValue0
  t3 := Tryz.underlying3
  a3 := Tryz.isAgg3
  z3 := Tryz.sizeOf3
  v3 := Tryz.zeroValue3
  t4 := Tryz.underlying4
  a4 := Tryz.isAgg4
  z4 := Tryz.sizeOf4
  v4 := Tryz.zeroValue4
  t5 := Tryz.underlying5
  a5 := Tryz.isAgg5
  z5 := Tryz.sizeOf5
  v5 := Tryz.zeroValue5
  t9 := Tryz.underlying9
  a9 := Tryz.isAgg9
  z9 := Tryz.sizeOf9
  v9 := Tryz.zeroValue9
  t21 := Tryz.underlying21
  a21 := Tryz.isAgg21
  z21 := Tryz.sizeOf21
  v21 := Tryz.zeroValue21
  t46 := Tryz.underlying103
  a46 := Tryz.isAgg103
  z46 := Tryz.sizeOf103
  v46 := Tryz.zeroValue103
  t105 := Tryz.underlying169
  a105 := Tryz.isAgg169
  z105 := Tryz.sizeOf169
  v105 := Tryz.zeroValue169
  t116 := Tryz.underlying145
  a116 := Tryz.isAgg145
  z116 := Tryz.sizeOf145
  t117 := Tryz.underlying146
  a117 := Tryz.isAgg146
  z117 := Tryz.sizeOf146
  v117 := Tryz.zeroValue146
  t119 := Tryz.underlying197
  a119 := Tryz.isAgg197
  z119 := Tryz.sizeOf197
  t124 := Tryz.underlying151
  a124 := Tryz.isAgg151
  z124 := Tryz.sizeOf151
  v124 := Tryz.zeroValue151
  t138 := Tryz.underlying199
  a138 := Tryz.isAgg199
  z138 := Tryz.sizeOf199
  v138 := Tryz.zeroValue199
  t139 := Tryz.underlying200
  a139 := Tryz.isAgg200
  z139 := Tryz.sizeOf200
  v139 := Tryz.zeroValue200
  g3 := by kernel_rfl
  g4 := by kernel_rfl }
def Tryz.l150_ren : Go.Shelf.Ren := ⟨fun | 150 => 56 | 153 => 79 | 152 => 100 | 226 => 101 | 227 => 102 | 228 => 103 | 137 => 124 | 119 => 125 | 224 => 126 | 225 => 127 | 217 => 139 | 266 => 154 | n => n, fun | 9 => 9 | 4 => 4 | 3 => 3 | 5 => 5 | 21 => 21 | 117 => 146 | 116 => 145 | 0 => 0 | 46 => 103 | 124 => 151 | n => n, fun | n => n⟩
theorem Tryz.l150 : Go.Proofs.Lays.n150 Tryz.prog Tryz.l150_ren := {
  mixed := by kernel_rfl
  f119 := Tryz.func125.trans (congrArg some (by kernel_rfl))
  f137 := Tryz.func124.trans (congrArg some (by kernel_rfl))
  f150 := Tryz.func56.trans (congrArg some (by kernel_rfl))
  f152 := Tryz.func100.trans (congrArg some (by kernel_rfl))
  f153 := Tryz.func79.trans (congrArg some (by kernel_rfl))
  f217 := Tryz.func139.trans (congrArg some (by kernel_rfl))
  f224 := Tryz.func126.trans (congrArg some (by kernel_rfl))
  f225 := Tryz.func127.trans (congrArg some (by kernel_rfl))
  f226 := Tryz.func101.trans (congrArg some (by kernel_rfl))
  f227 := Tryz.func102.trans (congrArg some (by kernel_rfl))
  f228 := Tryz.func103.trans (congrArg some (by kernel_rfl))
  f266 := Tryz.func154.trans (congrArg some (by kernel_rfl))
  t0 := Tryz.underlying0
  a0 := Tryz.isAgg0
  z0 := Tryz.sizeOf0
  v0 := Tryz.zeroValue0
  t3 := Tryz.underlying3
  a3 := Tryz.isAgg3
  z3 := Tryz.sizeOf3
  v3 := Tryz.zeroValue3
  t4 := Tryz.underlying4
  a4 := Tryz.isAgg4
  z4 := Tryz.sizeOf4
  v4 := Tryz.zeroValue4
  t5 := Tryz.underlying5
  a5 := Tryz.isAgg5
  z5 := Tryz.sizeOf5
  v5 := Tryz.zeroValue5
  t9 := Tryz.underlying9
  a9 := Tryz.isAgg9
  z9 := Tryz.sizeOf9
  v9 := Tryz.zeroValue9
  t21 := Tryz.underlying21
  a21 := Tryz.isAgg21
  z21 := Tryz.sizeOf21
  v21 := Tryz.zeroValue21
  t46 := Tryz.underlying103
  a46 := Tryz.isAgg103
  z46 := Tryz.sizeOf103
  v46 := Tryz.zeroValue103
  t116 := Tryz.underlying145
  a116 := Tryz.isAgg145
  z116 := Tryz.sizeOf145
  t117 := Tryz.underlying146
  a117 := Tryz.isAgg146
  z117 := Tryz.sizeOf146
  v117 := Tryz.zeroValue146
  t124 := Tryz.underlying151
  a124 := Tryz.isAgg151
  z124 := Tryz.sizeOf151
  v124 := Tryz.zeroValue151 }
def Tryz.l156_ren : Go.Shelf.Ren := ⟨fun | 156 => 58 | 165 => 84 | 166 => 85 | 169 => 86 | 240 => 110 | 241 => 111 | 276 => 132 | 277 => 133 | n => n, fun | 31 => 45 | 9 => 9 | 3 => 3 | 4 => 4 | 0 => 0 | 20 => 20 | 72 => 116 | 76 => 120 | 70 => 114 | 37 => 32 | 75 => 119 | 127 => 153 | 164 => 174 | 5 => 5 | 80 => 122 | n => n, fun | n => n⟩
theorem Tryz.l156 : Go.Proofs.Lays.n156 Tryz.prog Tryz.l156_ren := {
  mixed := by kernel_rfl
  f156 := Tryz.func58.trans (congrArg some (by kernel_rfl))
  f165 := Tryz.func84.trans (congrArg some (by kernel_rfl))
  f166 := Tryz.func85.trans (congrArg some (by kernel_rfl))
  f169 := Tryz.func86.trans (congrArg some (by kernel_rfl))
  f240 := Tryz.func110.trans (congrArg some (by kernel_rfl))
  f241 := Tryz.func111.trans (congrArg some (by kernel_rfl))
  f276 := Tryz.func132.trans (congrArg some (by kernel_rfl))
  f277 := Tryz.func133.trans (congrArg some (by kernel_rfl))
  t0 := Tryz.underlying0
  a0 := Tryz.isAgg0
  z0 := Tryz.sizeOf0
  v0 := Tryz.zeroValue0
  t3 := Tryz.underlying3
  a3 := Tryz.isAgg3
  z3 := Tryz.sizeOf3
  v3 := Tryz.zeroValue3
  t4 := Tryz.underlying4
  a4 := Tryz.isAgg4
  z4 := Tryz.sizeOf4
  v4 := Tryz.zeroValue4
  t9 := Tryz.underlying9
  a9 := Tryz.isAgg9
  z9 := Tryz.sizeOf9
  v9 := Tryz.zeroValue9
  t20 := Tryz.underlying20
  a20 := Tryz.isAgg20
  z20 := Tryz.sizeOf20
  v20 := Tryz.zeroValue20
  t31 := Tryz.underlying45
  a31 := Tryz.isAgg45
  z31 := Tryz.sizeOf45
  v31 := Tryz.zeroValue45
  t37 := Tryz.underlying32
  a37 := Tryz.isAgg32
  z37 := Tryz.sizeOf32
  v37 := Tryz.zeroValue32
  t70 := Tryz.underlying114
  a70 := Tryz.isAgg114
  z70 := Tryz.sizeOf114
  v70 := Tryz.zeroValue114
  t72 := Tryz.underlying116
  a72 := Tryz.isAgg116
  z72 := Tryz.sizeOf116
  v72 := Tryz.zeroValue116
  t75 := Tryz.underlying119
  a75 := Tryz.isAgg119
  z75 := Tryz.sizeOf119
  v75 := Tryz.zeroValue119
  t76 := Tryz.underlying120
  a76 := Tryz.isAgg120
  z76 := Tryz.sizeOf120
  v76 := Tryz.zeroValue120
  t127 := Tryz.underlying153
  a127 := Tryz.isAgg153
  z127 := Tryz.sizeOf153
  v127 := Tryz.zeroValue153
  t164 := Tryz.underlying174
  a164 := Tryz.isAgg174
  z164 := Tryz.sizeOf174
  v164 := Tryz.zeroValue174 }
end Go.Proofs
namespace Go.Proofs.YtnobpeghofoniaaGreatDoor
open Go.RowKit Go.Shelf
/-- a cube's text of n places -/
def cuB (n : Nat) (s : List UInt8) : Bool := decide (s.length = n) && s.all Tn.tri
theorem cuB_no {n : Nat} {s : List UInt8} {k : Nat} {c : UInt8} (h : s[k]? = some c) (hc : Tn.tri c = false) : cuB n s = false := by
  unfold cuB
  rw [Bool.and_eq_false_iff]
  refine .inr ?_
  rw [List.all_eq_false]
  exact ⟨c, List.mem_of_getElem? h, by rw [hc]; decide⟩
theorem cuB_yes {n : Nat} {s : List UInt8} (hl : s.length = n) (h : ∀ (k : Nat) (c : UInt8), s[k]? = some c → Tn.tri c = true) : cuB n s = true := by
  unfold cuB
  rw [decide_eq_true hl, Bool.true_and, List.all_eq_true]
  intro c hc
  obtain ⟨k, hk⟩ := List.getElem?_of_mem hc
  exact h k c hk
theorem cuB_P {n : Nat} {s : List UInt8} (h1 : 1 ≤ n) (h2 : n ≤ 256) : cuB n s = (decide (Tn.refP s = 0) && decide (s.length = n)) := by
  unfold cuB
  by_cases hl : s.length = n
  · rw [decide_eq_true hl, Bool.true_and, Bool.and_true, Bool.eq_iff_iff, decide_eq_true_eq, Tn.refP_zero]
    unfold Tn.good
    rw [Bool.and_eq_true, decide_eq_true_eq]
    exact ⟨fun h => ⟨fun e => by rw [e] at hl; simp at hl; omega, by omega, h⟩, fun h => h.2.2⟩
  · rw [decide_eq_false hl, Bool.false_and, Bool.and_false]
set_option maxRecDepth 100000 in
set_option maxHeartbeats 4000000 in
theorem isCube_any (n : Nat) (s : List UInt8) (w : World) (h1 : 1 ≤ n) (h2 : n ≤ 256) (hs : s.length ≤ 281474976710656) : Calls Tryz.prog 55 #[.string ⟨s.toArray⟩, .int .i64 (n : Int)] w fun e w' => e = .returned (.bool (cuB n s)) ∧ Below w.heap.size w w' := by
  rw [cuB_P h1 h2]
  have HP := Tn.parse_any ⟨s.toArray⟩ w (by unfold maxLen; simp [ByteArray.size]; omega)
  have HP2 : Calls Tryz.prog 78 #[.string ⟨s.toArray⟩] w fun e w' => e = .returned (.tuple #[Tn.cubeV (Tn.cubeT s), .int .i64 (Tn.refP s)]) ∧ Below w.heap.size w w' := HP
  clear HP
  have HP := HP2
  obtain ⟨c0, c1, c2, c3, c4, c5, c6, c7, c8, hcu⟩ : ∃ c0 c1 c2 c3 c4 c5 c6 c7 c8 : Int, Tn.cubeV (Tn.cubeT s) = .agg #[.int .i64 c0, .int .u64 c1, .int .u64 c2, .int .u64 c3, .int .u64 c4, .int .u64 c5, .int .u64 c6, .int .u64 c7, .int .u64 c8] := ⟨_, _, _, _, _, _, _, _, _, rfl⟩
  clear HP2
  obtain ⟨er, her⟩ : ∃ er, Tn.refP s = er := ⟨_, rfl⟩
  rw [hcu, her] at HP
  rw [her]
  have HH : Hid (Calls Tryz.prog 78 #[.string ⟨s.toArray⟩] w fun e w' => e = .returned (.tuple #[.agg #[.int .i64 c0, .int .u64 c1, .int .u64 c2, .int .u64 c3, .int .u64 c4, .int .u64 c5, .int .u64 c6, .int .u64 c7, .int .u64 c8], .int .i64 er]) ∧ Below w.heap.size w w') := HP
  clear HP hcu her
  go_enter Tryz.func55, Tryz.ntmps55
  by_cases e0 : er = 0
  · by_cases el : s.length = n
    · have a1 : (er == 0) = true := by rw [e0]; rfl
      have a2 : ((s.length : Int) == (n : Int)) = true := by rw [el]; simp
      rw [decide_eq_true e0, decide_eq_true el]
      clear e0 el
      go_wp2_with fail
      refine HH.out.mono ?_
      rintro e W1 ⟨rfl, hb⟩
      go_wp2_with fail
      go_ret
      exact ⟨rfl, by first | exact hb | exact hb.alloc hb.size _ | exact Tn.put9_below _ _ _ _ _ _ _ _ _ (hb.alloc hb.size _) hb.size⟩
    · have a1 : (er == 0) = true := by rw [e0]; rfl
      have a2 : ((s.length : Int) == (n : Int)) = false := by rw [beq_eq_false_iff_ne]; omega
      rw [decide_eq_true e0, decide_eq_false el]
      clear e0 el
      go_wp2_with fail
      refine HH.out.mono ?_
      rintro e W1 ⟨rfl, hb⟩
      go_wp2_with fail
      go_ret
      exact ⟨rfl, by first | exact hb | exact hb.alloc hb.size _ | exact Tn.put9_below _ _ _ _ _ _ _ _ _ (hb.alloc hb.size _) hb.size⟩
  · have a1 : (er == 0) = false := by rw [beq_eq_false_iff_ne]; exact e0
    rw [decide_eq_false e0]
    clear e0
    go_wp2_with fail
    refine HH.out.mono ?_
    rintro e W1 ⟨rfl, hb⟩
    go_wp2_with fail
    go_ret
    exact ⟨rfl, by first | exact hb | exact hb.alloc hb.size _ | exact Tn.put9_below _ _ _ _ _ _ _ _ _ (hb.alloc hb.size _) hb.size⟩
set_option maxRecDepth 100000 in
theorem fnumber_any (v : Nat) (d : Bool) (w : World) (htab : Lib.TabIs Tryz.prog w "internal/strconv.uint64pow10" .u64 Lib.pow10Tab) : Calls Tryz.prog 82 #[.int .i64 (v : Int), .bool d] w fun e w' => e = .returned (.string ⟨(numL v d).toArray⟩) ∧ Below w.heap.size w w' := by
  have HN : Hid (Calls Tryz.prog 108 #[.int .i64 (v : Int), .bool d] w fun e w' => e = .returned (.tuple #[.string ⟨(numL v d).toArray⟩, .int .i64 (numE v)]) ∧ Below w.heap.size w w') := number_any v d w htab
  clear htab
  go_enter Tryz.func82, Tryz.ntmps82
  go_wp2_with fail
  refine HN.out.mono ?_
  rintro e W1 ⟨rfl, hb⟩
  go_wp2_with fail
  go_ret
  exact ⟨rfl, hb⟩
set_option maxRecDepth 100000 in
set_option maxHeartbeats 4000000 in
theorem fvalue3_any (s : List UInt8) (w : World) (hs : s.length ≤ 32) (hd : s.all Tn.tri = true) : Calls Tryz.prog 36 #[.string ⟨s.toArray⟩] w fun e w' => e = .returned (.int .i64 (valF 0 s : Int)) ∧ Below w.heap.size w w' := by
  obtain ⟨q, hq⟩ : ∃ q, valF 0 s = q := ⟨_, rfl⟩
  have HQ : Hid (valF 0 (s.drop 0) = q) := hq
  have HD : Hid (s.all Tn.tri = true) := hd
  rw [hq]
  clear hq hd
  obtain ⟨KB, hKB⟩ : ∃ KB, w.heap.size = KB := ⟨_, rfl⟩
  have Hk0 : (w.iter ⟨s.toArray⟩ 0).heap[KB]? = some (.stringIter ⟨s.toArray⟩ 0) := by rw [← hKB]; exact World.iter_heap _ _ _
  have Hb0 : Below w.heap.size w (w.iter ⟨s.toArray⟩ 0) := (Below.refl _ _).alloc (Nat.le_refl _) _
  have hKw : w.heap.size ≤ KB := Nat.le_of_eq hKB
  go_enter Tryz.func36, Tryz.ntmps36
  go_wp2_with fail
  try simp only [hKB]
  go_loopw [3] (fun vs wr => ∃ (k v : Nat), k ≤ s.length ∧ vs = .int .i64 v ∧ v < 2 ^ k ∧ Hid (valF v (s.drop k) = q) ∧ wr.heap[KB]? = some (.stringIter ⟨s.toArray⟩ k) ∧ Below w.heap.size w wr) (fun _ wr => s.length - wr.iterPos KB)
  case atStart => exact ⟨0, 0, Nat.zero_le _, rfl, by decide, HQ, Hk0, Hb0⟩
  case round =>
    clear HQ Hk0 Hb0
    obtain ⟨k, v, hk, rfl, hv, hrun, hkb, hB⟩ := hrel
    have hp : 2 ^ k ≤ 2 ^ 32 := Nat.pow_le_pow_right (by decide) (by omega)
    have hp1 : 2 ^ (k + 1) = 2 * 2 ^ k := by rw [Nat.pow_succ, Nat.mul_comm]
    by_cases hlt : k < s.length
    · obtain ⟨c, hc, hlc⟩ := byte_get s k hlt
      have hc01 := List.all_eq_true.1 HD.out c (List.mem_of_getElem? hlc)
      have hsz : k < (⟨s.toArray⟩ : ByteArray).size := by simpa [ByteArray.size] using hlt
      have hcl : c.toNat < 128 := by
        unfold Tn.tri at hc01
        rw [Bool.or_eq_true, Bool.or_eq_true, beq_iff_eq, beq_iff_eq, beq_iff_eq] at hc01
        rcases hc01 with (e | e) | e <;> rw [e] <;> decide
      have hnx0 := fun ty => Lib.run_next_ascii_at (P := Tryz.prog) wr KB ⟨s.toArray⟩ k ty hkb hsz (by rw [hc hsz]; exact hcl)
      simp only [hc hsz] at hnx0
      have hk2 := Lib.iterAt_heap wr KB ⟨s.toArray⟩ k (k + 1) hkb
      have hb2 := Lib.below_iterAt hB hKw ⟨s.toArray⟩ (k + 1)
      obtain ⟨W2, hW2⟩ : ∃ W2, wr.iterAt KB ⟨s.toArray⟩ (k + 1) = W2 := ⟨_, rfl⟩
      rw [hW2] at hk2 hb2
      have hnx : ∀ ty, (Instr.next (.pointer (some ⟨KB, 0, none⟩)) true ty).run Tryz.prog wr = .ok (.tuple #[.bool true, .int .i64 (k : Int), .int .i32 (c.toNat : Int)]) W2 := fun ty => by rw [← hW2]; exact hnx0 ty
      have hst := hrun.out
      rw [valF_step hlc] at hst
      have hm5 : W2.iterPos KB = k + 1 := iterPos_of hk2
      have hm0 : wr.iterPos KB = k := iterPos_of hkb
      have HM : Hid (s.length - W2.iterPos KB < s.length - wr.iterPos KB) := by unfold Hid; rw [hm5, hm0]; omega
      clear hnx0 hW2 hm5 hm0 hrun hlc hkb hB
      have e1 : wrap64 ((v : Int) * 2) = 2 * (v : Int) := by rw [w64 (by omega) (by omega)]; omega
      have e2 : IntKind.i64.wrap (2 * (v : Int) + 1) = 2 * (v : Int) + 1 := by rw [IntKind.wrap_i64]; omega
      by_cases c49 : c = 49
      · rw [if_pos c49] at hst
        have HST : Hid (valF (2 * v + 1) (s.drop (k + 1)) = q) := hst
        subst c49
        clear hst
        go_wp2_with fail
        go_roundw
        case rel => exact ⟨k + 1, 2 * v + 1, by omega, by go_num, by omega, HST, hk2, hb2⟩
        case measure => exact HM.out
      · rw [if_neg c49] at hst
        have HST : Hid (valF (2 * v + 0) (s.drop (k + 1)) = q) := hst
        have d49 : ((c.toNat : Int) == 49) = false := u8_ne (d := 49) c49
        clear hst
        go_wp2_with fail
        go_roundw
        case rel => exact ⟨k + 1, 2 * v + 0, by omega, by go_num, by omega, HST, hk2, hb2⟩
        case measure => exact HM.out
    · obtain rfl : v = q := by rw [← hrun.out, List.drop_eq_nil_of_le (by omega)]; rfl
      have hnx := fun ty => Lib.run_next_end_at (P := Tryz.prog) wr KB ⟨s.toArray⟩ k ty hkb (by simpa [ByteArray.size] using hlt)
      clear hrun hkb
      go_wp2_with fail
      go_ret
      exact ⟨rfl, by first | exact hB | (rw [← hKB]; exact hB)⟩
theorem trimx_any (D : List UInt8) (w : World) (hl : D.length ≤ 256) : Calls Tryz.prog 80 #[.string ⟨D.toArray⟩, .string ⟨#[120]⟩] w fun e w' => e = .returned (.string ⟨(Lib.trimRightB D 120).toArray⟩) ∧ w' = w :=
  Any.strings_TrimRight_one Tryz.l162 ⟨D.toArray⟩ 120 (by decide) w (by simp [ByteArray.size]; omega)
theorem hasx_any (D : List UInt8) (w : World) : Calls Tryz.prog 81 #[.string ⟨D.toArray⟩, .string ⟨#[120]⟩] w fun e w' => e = .returned (.bool (decide (120 ∈ D))) ∧ w' = w := by
  have h := Any.strings_Contains_one Tryz.l144 ⟨D.toArray⟩ 120 w
  have e : (0 ≤ Lib.indexByte D 120) ↔ 120 ∈ D := by
    constructor
    · intro h
      obtain ⟨o, ho⟩ : ∃ o : Nat, Lib.indexByte D 120 = o := ⟨(Lib.indexByte D 120).toNat, by omega⟩
      exact List.mem_of_getElem? (Lib.indexByte_some ho).1
    · intro h
      have hge := Lib.indexByte_ge D 120
      by_cases hn : Lib.indexByte D 120 = -1
      · obtain ⟨k, hk⟩ := List.getElem?_of_mem h
        exact absurd hk (Lib.indexByte_none hn k)
      · omega
  simp only [decide_eq_decide.2 e] at h
  exact h
theorem any01_any (D : List UInt8) (w : World) (hl : D.length ≤ 256) (hd : D.all Tn.tri = true) : Calls Tryz.prog 56 #[.string ⟨D.toArray⟩, .string ⟨#[48, 49]⟩] w fun e w' => e = .returned (.bool (D.any dg01)) ∧ Below w.heap.size w w' := by
  have h := Any.strings_ContainsAny_laid Tryz.l150 (by kernel_rfl) ⟨D.toArray⟩ ⟨#[48, 49]⟩ w (by simp [ByteArray.size]; omega) (by decide) (fun j b hb => by
    have h1 := List.all_eq_true.1 hd b (List.mem_of_getElem? (by simpa using hb))
    unfold Tn.tri at h1
    rw [Bool.or_eq_true, Bool.or_eq_true, beq_iff_eq, beq_iff_eq, beq_iff_eq] at h1
    rcases h1 with (e | e) | e <;> rw [e] <;> decide) (fun j b hb => by
    rcases j with _ | _ | j
    · simp at hb; rw [← hb]; decide
    · simp at hb; rw [← hb]; decide
    · simp at hb)
  have e := any_has D
  simp only [e] at h
  exact h
/-- the text of a number -/
def numW (v : Nat) : List UInt8 := if v < 65536 then Lib.decDigits v else quadL v
/-- what a field's bytes are told as -/
def tellM (D : List UInt8) : List UInt8 := if (cntS D 0 true 0).1 = D.length then numW (valF 0 D) else if (cntS D 0 true 0).2 = true then quadL (valF 0 D) ++ [47] ++ Lib.decDigits (cntS D 0 true 0).1 else [37] ++ D
theorem valF_ub : ∀ (s : List UInt8) (v : Nat), valF v s < (v + 1) * 2 ^ s.length
  | [], v => by rw [valF]; simp
  | c :: s, v => by
    rw [valF]
    have h := valF_ub s (2 * v + (if c = 49 then 1 else 0))
    rw [List.length_cons, Nat.pow_succ]
    refine Nat.lt_of_lt_of_le h ?_
    rw [Nat.mul_comm (2 ^ s.length) 2, ← Nat.mul_assoc]
    refine Nat.mul_le_mul_right _ ?_
    split <;> omega
theorem valF_4g {D : List UInt8} (h : D.length ≤ 32) : valF 0 D < 4294967296 := by
  have h1 := valF_ub D 0
  have h2 : 2 ^ D.length ≤ 2 ^ 32 := Nat.pow_le_pow_right (by decide) h
  omega
theorem dec_10 (n : Nat) (h : n < 4294967296) : (Lib.decDigits n).length ≤ 10 := by
  have e : ∀ (k n : Nat), n < 10 ^ (k + 1) → (Lib.decDigits n).length ≤ k + 1 := by
    intro k
    induction k with
    | zero =>
      intro n hn
      rw [Lib.decDigits, dif_pos (by omega)]
      simp
    | succ k ih =>
      intro n hn
      rw [Lib.decDigits]
      split
      · simp
      · have := ih (n / 10) (by rw [Nat.pow_succ] at hn; omega)
        rw [List.length_append, List.length_singleton]
        omega
  have := e 9 n (by omega)
  omega
theorem quad_47 (n : Nat) (h : n < 4294967296) : (quadL n).length ≤ 47 := by
  unfold quadL
  have h1 := dec_10 (n / 16777216) (by omega)
  have h2 := dec_10 (n / 65536 % 256) (by omega)
  have h3 := dec_10 (n / 256 % 256) (by omega)
  have h4 := dec_10 (n % 256) (by omega)
  simp only [List.length_append, List.length_singleton]
  omega
set_option maxRecDepth 100000 in
set_option maxHeartbeats 600000 in
theorem tell_any (D : List UInt8) (w : World) (hl : D.length ≤ 32) (hd : D.all Tn.tri = true) (htab : Lib.TabIs Tryz.prog w "internal/strconv.uint64pow10" .u64 Lib.pow10Tab) : Calls Tryz.prog 57 #[.string ⟨D.toArray⟩] w fun e w' => e = .returned (.string ⟨(tellM D).toArray⟩) ∧ Below w.heap.size w w' := by
  obtain ⟨v, hv⟩ : ∃ v, valF 0 D = v := ⟨_, rfl⟩
  have hv4 := valF_4g hl
  have HV := fvalue3_any D w hl hd
  rw [hv] at HV hv4
  obtain ⟨c1, c2⟩ := cnt_trim D
  obtain ⟨m, hm⟩ := trim_rep D
  have HT : Hid (∀ W, Calls Tryz.prog 80 #[.string ⟨D.toArray⟩, .string ⟨#[120]⟩] W fun e w' => e = .returned (.string ⟨(Lib.trimRightB D 120).toArray⟩) ∧ w' = W) := fun W => trimx_any D W (by omega)
  obtain ⟨A, hA⟩ : ∃ A, Lib.trimRightB D 120 = A := ⟨_, rfl⟩
  rw [hA] at c1 c2 hm HT
  have hAl : A.length ≤ D.length := by rw [hm, List.length_append]; omega
  have HF : Hid (∀ (d : Bool) (W : World), Below w.heap.size w W → Calls Tryz.prog 82 #[.int .i64 (v : Int), .bool d] W fun e w' => e = .returned (.string ⟨(numL v d).toArray⟩) ∧ Below W.heap.size W w') := fun d W hW => fnumber_any v d W (tab_below htab hW)
  have HI : Hid (∀ (W : World), Below w.heap.size w W → Calls Tryz.prog 83 #[.int .i64 (A.length : Int)] W fun e w' => e = .returned (.string ⟨(Lib.decDigits A.length).toArray⟩) ∧ Below W.heap.size W w') := fun W hW => itoa_any A.length (by omega) W (tab_below htab hW)
  have n1 : numL v true = quadL v := by unfold numL; rw [if_neg (by omega), if_pos rfl]; rfl
  have n2 : numL v (decide (65536 ≤ v)) = numW v := by
    unfold numL numW
    rw [if_neg (by omega)]
    by_cases h : v < 65536
    · rw [if_pos h, decide_eq_false (by omega)]; rfl
    · rw [if_neg h, decide_eq_true (by omega)]; rfl
  have hM : tellM D = if 120 ∈ A then [37] ++ D else if A.length < D.length then quadL v ++ [47] ++ Lib.decDigits A.length else numW v := by
    unfold tellM
    rw [hv]
    by_cases h : 120 ∈ A
    · obtain ⟨g1, g2⟩ := c1 h
      rw [if_pos h, if_neg (by omega), g2, if_neg (by decide)]
    · rw [if_neg h, c2 h]
      by_cases h3 : A.length < D.length
      · rw [if_pos h3, if_neg (by simp only; omega), if_pos rfl]
      · rw [if_neg h3, if_pos (by simp only; omega)]
  have HVh : Hid (Calls Tryz.prog 36 #[.string ⟨D.toArray⟩] w fun e w' => e = .returned (.int .i64 (v : Int)) ∧ Below w.heap.size w w') := HV
  have HM : Hid (tellM D = if 120 ∈ A then [37] ++ D else if A.length < D.length then quadL v ++ [47] ++ Lib.decDigits A.length else numW v) := hM
  obtain ⟨R, hR⟩ : ∃ R, tellM D = R := ⟨_, rfl⟩
  rw [hR] at HM
  rw [hR]
  have HX : Hid (∀ W, Calls Tryz.prog 81 #[.string ⟨A.toArray⟩, .string ⟨#[120]⟩] W fun e w' => e = .returned (.bool (decide (120 ∈ A))) ∧ w' = W) := fun W => hasx_any A W
  have N1 : Hid (numL v true = quadL v) := n1
  have N2 : Hid (numL v (decide (65536 ≤ v)) = numW v) := n2
  have hq := quad_47 v hv4
  have hdl := dec_10 A.length (by omega)
  obtain ⟨E, hE⟩ : ∃ E, Lib.decDigits A.length = E := ⟨_, rfl⟩
  obtain ⟨Qd, hQd⟩ : ∃ Q, quadL v = Q := ⟨_, rfl⟩
  rw [hE] at HI hdl
  rw [hE, hQd] at HM
  rw [hQd] at hq
  have HQ1 : Hid (∀ (W : World), Below w.heap.size w W → Calls Tryz.prog 82 #[.int .i64 (v : Int), .bool true] W fun e w' => e = .returned (.string ⟨Qd.toArray⟩) ∧ Below W.heap.size W w') := fun W hW => by
    have := HF.out true W hW
    rw [n1, hQd] at this
    exact this
  have HQ2 : Hid (∀ (d : Bool), decide (65536 ≤ v) = d → R = numW v → ∀ (W : World), Below w.heap.size w W → Calls Tryz.prog 82 #[.int .i64 (v : Int), .bool d] W fun e w' => e = .returned (.string ⟨R.toArray⟩) ∧ Below W.heap.size W w') := fun d hd hRR W hW => by
    have := HF.out d W hW
    rw [← hd, n2, ← hRR] at this
    rw [← hd]
    exact this
  clear HV hM hR hv c1 c2 hm hA htab n1 n2 hd N1 N2 HF hE hQd
  go_enter Tryz.func57, Tryz.ntmps57
  go_wp2_with fail
  refine HVh.out.mono ?_
  rintro e W1 ⟨rfl, hb1⟩
  go_wp2_with fail
  refine (HT.out _).mono ?_
  rintro e W2 ⟨rfl, rfl⟩
  clear HVh HT
  by_cases hx : 120 ∈ A
  · have hR := HM.out
    rw [if_pos hx] at hR
    have HR : Hid (ByteArray.mk #[37] ++ ByteArray.mk D.toArray = ⟨R.toArray⟩) := by unfold Hid; rw [hR]; exact ByteArray.ext (by simp)
    have HX2 : Hid (∀ W, Calls Tryz.prog 81 #[.string ⟨A.toArray⟩, .string ⟨#[120]⟩] W fun e w' => e = .returned (.bool true) ∧ w' = W) := by have := HX.out; rw [decide_eq_true hx] at this; exact this
    clear HX hR HM HQ1 HQ2 HI hx
    go_wp2_with fail
    refine (HX2.out _).mono ?_
    rintro e W3 ⟨rfl, rfl⟩
    go_wp2_with fail
    go_ret
    exact ⟨congrArg (fun z => Ending.returned (.string z)) HR.out, hb1⟩
  · have HX2 : Hid (∀ W, Calls Tryz.prog 81 #[.string ⟨A.toArray⟩, .string ⟨#[120]⟩] W fun e w' => e = .returned (.bool false) ∧ w' = W) := by have := HX.out; rw [decide_eq_false hx] at this; exact this
    have hR := HM.out
    rw [if_neg hx] at hR
    clear HX HM hx
    by_cases hlt : A.length < D.length
    · rw [if_pos hlt] at hR
      have j1 : (A.length : Int) < (D.length : Int) := by omega
      have HR : Hid (ByteArray.mk Qd.toArray ++ ByteArray.mk #[47] ++ ByteArray.mk E.toArray = ⟨R.toArray⟩) := by unfold Hid; rw [hR]; exact ByteArray.ext (by simp)
      clear hR HQ2
      go_wp2_with fail
      refine (HX2.out _).mono ?_
      rintro e W3 ⟨rfl, rfl⟩
      go_wp2_with fail
      refine (HQ1.out _ hb1).mono ?_
      rintro e W4 ⟨rfl, hb4⟩
      have hb4' := bel0 hb1 hb4
      go_wp2_with fail
      refine (HI.out _ hb4').mono ?_
      rintro e W5 ⟨rfl, hb5⟩
      go_wp2_with fail
      go_ret
      exact ⟨congrArg (fun z => Ending.returned (.string z)) HR.out, bel0 hb4' hb5⟩
    · rw [if_neg hlt] at hR
      have j1 : ¬ (A.length : Int) < (D.length : Int) := by omega
      by_cases h6 : 65536 ≤ v
      · have j2 : (65536 : Int) ≤ (v : Int) := by omega
        have HN : Hid (∀ (W : World), Below w.heap.size w W → Calls Tryz.prog 82 #[.int .i64 (v : Int), .bool true] W fun e w' => e = .returned (.string ⟨R.toArray⟩) ∧ Below W.heap.size W w') := HQ2.out true (decide_eq_true h6) hR
        clear hR h6 HQ1 HQ2 HI
        go_wp2_with fail
        refine (HX2.out _).mono ?_
        rintro e W3 ⟨rfl, rfl⟩
        go_wp2_with fail
        refine (HN.out _ hb1).mono ?_
        rintro e W4 ⟨rfl, hb4⟩
        go_wp2_with fail
        go_ret
        exact ⟨rfl, bel0 hb1 hb4⟩
      · have j2 : (v : Int) < 65536 := by omega
        have j3 : decide ((65536 : Int) ≤ (v : Int)) = false := decide_eq_false (by omega)
        have HN : Hid (∀ (W : World), Below w.heap.size w W → Calls Tryz.prog 82 #[.int .i64 (v : Int), .bool false] W fun e w' => e = .returned (.string ⟨R.toArray⟩) ∧ Below W.heap.size W w') := HQ2.out false (decide_eq_false h6) hR
        clear hR h6 HQ1 HQ2 HI
        go_wp2_with fail
        refine (HX2.out _).mono ?_
        rintro e W3 ⟨rfl, rfl⟩
        go_wp2_with fail
        try simp only [j3]
        refine (HN.out _ hb1).mono ?_
        rintro e W4 ⟨rfl, hb4⟩
        go_wp2_with fail
        go_ret
        exact ⟨rfl, bel0 hb1 hb4⟩
end Go.Proofs.YtnobpeghofoniaaGreatDoor

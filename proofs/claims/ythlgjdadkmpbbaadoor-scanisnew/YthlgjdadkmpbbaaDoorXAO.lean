import Derived.Lib.ItoaNum
import Derived.Lib.AtoiTie
import Derived.Test.YthlgjdadkmpbbaaDoorXAA
import Derived.Lib.IndexLaws
import Derived.Deep.QuietTactic
import Derived.Test.YthlgjdadkmpbbaaDoorXAN
import Derived.Test.YthlgjdadkmpbbaaDoorXAC
import Derived.Laws.Strings3
namespace Go.Proofs.YthlgjdadkmpbbaaDoor

theorem head_app {α : Type} {l : List α} (m : List α) (h : l ≠ []) : (l ++ m).head? = l.head? := by
  cases l with
  | nil => exact absurd rfl h
  | cons a l => rfl
def isDig (c : UInt8) : Bool := 48 ≤ c.toNat && c.toNat ≤ 57
def decV (l : List UInt8) : Nat := l.foldl (fun n c => 10 * n + (c.toNat - 48)) 0
/-- a decimal numeral in its one form -/
def decP (l : List UInt8) : Prop := l ≠ [] ∧ l.all isDig = true ∧ (1 < l.length → l.head? ≠ some 48)
theorem decV_snoc (l : List UInt8) (c : UInt8) : decV (l ++ [c]) = 10 * decV l + (c.toNat - 48) := by simp [decV]
theorem decV_pos (l : List UInt8) (h : l.all isDig = true) (hn : l ≠ []) (hh : l.head? ≠ some 48) : 0 < decV l := by
  suffices ∀ m : Nat, ∀ l : List UInt8, l.length = m → l.all isDig = true → l ≠ [] → l.head? ≠ some 48 → 0 < decV l from this _ l rfl h hn hh
  intro m
  induction m with
  | zero => intro l hl _ hn _; exact absurd (List.length_eq_zero_iff.1 hl) hn
  | succ m ih =>
    intro l hl ha hn hh
    obtain ⟨l', c, rfl⟩ : ∃ l' c, l = l' ++ [c] := ⟨l.dropLast, l.getLast hn, (List.dropLast_concat_getLast hn).symm⟩
    rw [decV_snoc]
    by_cases h0 : l' = []
    · subst h0
      simp only [List.nil_append, List.head?_cons, ne_eq, Option.some.injEq] at hh
      simp only [List.nil_append, List.all_cons, List.all_nil, Bool.and_true, isDig, Bool.and_eq_true, decide_eq_true_eq] at ha
      have : c.toNat ≠ 48 := fun e => hh (UInt8.toNat_inj.1 (by simpa using e))
      omega
    · have hl' : l'.length = m := by simpa using hl
      rw [List.all_append, Bool.and_eq_true] at ha
      have := ih l' hl' ha.1 h0 (by rw [head_app _ h0] at hh; exact hh)
      omega
theorem dig_of {c : UInt8} (h : isDig c = true) : UInt8.ofNat (48 + (c.toNat - 48)) = c := by
  simp only [isDig, Bool.and_eq_true, decide_eq_true_eq] at h
  rw [show 48 + (c.toNat - 48) = c.toNat by omega]
  exact UInt8.ofNat_toNat
theorem dec_of (l : List UInt8) (h : decP l) : Lib.decDigits (decV l) = l := by
  suffices ∀ m : Nat, ∀ l : List UInt8, l.length = m → decP l → Lib.decDigits (decV l) = l from this _ l rfl h
  intro m
  induction m with
  | zero => intro l hl h; exact absurd (List.length_eq_zero_iff.1 hl) h.1
  | succ m ih =>
    intro l hl ⟨hn, ha, hh⟩
    obtain ⟨l', c, rfl⟩ : ∃ l' c, l = l' ++ [c] := ⟨l.dropLast, l.getLast hn, (List.dropLast_concat_getLast hn).symm⟩
    rw [List.all_append, Bool.and_eq_true] at ha
    have hc : isDig c = true := by simpa using ha.2
    have hc' := hc
    simp only [isDig, Bool.and_eq_true, decide_eq_true_eq] at hc'
    rw [decV_snoc]
    by_cases h0 : l' = []
    · subst h0
      show Lib.decDigits (10 * 0 + (c.toNat - 48)) = [c]
      rw [Lib.decDigits_one (by omega)]
      simp only [Nat.mul_zero, Nat.zero_add]
      rw [dig_of hc]
    · have hl' : l'.length = m := by simpa using hl
      have hl2 : 0 < l'.length := List.length_pos_iff.2 h0
      have hh' : l'.head? ≠ some 48 := by
        have := hh (by simp; omega)
        rw [head_app _ h0] at this; exact this
      have hp := decV_pos l' ha.1 h0 hh'
      rw [Lib.decDigits, dif_neg (by omega), show (10 * decV l' + (c.toNat - 48)) / 10 = decV l' by omega, show (10 * decV l' + (c.toNat - 48)) % 10 = c.toNat - 48 by omega, ih l' hl' ⟨h0, ha.1, fun _ => hh'⟩, dig_of hc]
theorem ofNat_dig (d : Nat) (h : d < 10) : isDig (UInt8.ofNat (48 + d)) = true ∧ (UInt8.ofNat (48 + d)).toNat = 48 + d := by
  have : (UInt8.ofNat (48 + d)).toNat = 48 + d := by rw [UInt8.toNat_ofNat']; omega
  refine ⟨?_, this⟩
  simp only [isDig, this, Bool.and_eq_true, decide_eq_true_eq]
  omega
theorem of_dec (n : Nat) : decP (Lib.decDigits n) ∧ decV (Lib.decDigits n) = n ∧ (0 < n → (Lib.decDigits n).head? ≠ some 48) := by
  induction n using Nat.strongRecOn with
  | ind n ih =>
  rw [Lib.decDigits]
  split
  · rename_i h
    obtain ⟨h1, h2⟩ := ofNat_dig n h
    refine ⟨⟨by simp, by rw [List.all_cons, h1]; rfl, by simp⟩, by simp only [decV, List.foldl_cons, List.foldl_nil, h2]; omega, fun hn e => ?_⟩
    simp only [List.head?_cons, Option.some.injEq] at e
    have := congrArg UInt8.toNat e
    rw [h2] at this
    simp at this
    omega
  · rename_i h
    obtain ⟨⟨a1, a2, a3⟩, b, c⟩ := ih (n / 10) (by omega)
    obtain ⟨h1, h2⟩ := ofNat_dig (n % 10) (by omega)
    have hc := c (by omega)
    have hd : (Lib.decDigits (n / 10) ++ [UInt8.ofNat (48 + n % 10)]).head? ≠ some 48 := by rw [head_app _ a1]; exact hc
    refine ⟨⟨by simp, by rw [List.all_append, a2, List.all_cons, h1]; rfl, fun _ => hd⟩, by rw [decV_snoc, b, h2]; omega, fun _ => hd⟩
theorem dec_short (k n : Nat) (h : n < 10 ^ (k + 1)) : (Lib.decDigits n).length ≤ k + 1 := by
  induction k generalizing n with
  | zero => rw [Lib.decDigits_one (by simpa using h)]; simp
  | succ k ih =>
    rw [Lib.decDigits]
    split
    · simp
    · have := ih (n / 10) (by rw [Nat.pow_succ] at h; omega)
      rw [List.length_append, List.length_singleton]; omega
theorem digitVal_of {c : UInt8} (h : isDig c = true) : Lib.digitVal c = some (c.toNat - 48) := by
  simp only [isDig, Bool.and_eq_true, decide_eq_true_eq] at h
  simp [Lib.digitVal, h]
theorem decFrom_of (l : List UInt8) (h : l.all isDig = true) (a : Nat) : Lib.decFrom a l = some (l.foldl (fun n c => 10 * n + (c.toNat - 48)) a) := by
  induction l generalizing a with
  | nil => rfl
  | cons c l ih =>
    rw [List.all_cons, Bool.and_eq_true] at h
    simp only [Lib.decFrom, digitVal_of h.1, List.foldl_cons]
    rw [show a * 10 + (c.toNat - 48) = 10 * a + (c.toNat - 48) by omega]
    exact ih h.2 _
theorem atoi_dec (n : Nat) (hn : n < 10 ^ 10) : Lib.atoiAll (Lib.decDigits n) = .ok (n : Int) := by
  obtain ⟨⟨a1, a2, a3⟩, b, _⟩ := of_dec n
  rw [Lib.atoiAll_short _ (Nat.le_trans (dec_short 9 n hn) (by omega))]
  cases hd : Lib.decDigits n with
  | nil => exact absurd hd a1
  | cons c r =>
    rw [hd] at a2 b
    have hc : isDig c = true := by rw [List.all_cons, Bool.and_eq_true] at a2; exact a2.1
    simp only [isDig, Bool.and_eq_true, decide_eq_true_eq] at hc
    have c1 : (c == 45) = false := by cases h : c == 45 with | false => rfl | true => have := eq_of_beq h; subst this; simp at hc
    have c2 : (c == 43) = false := by cases h : c == 43 with | false => rfl | true => have := eq_of_beq h; subst this; simp at hc
    have e : Lib.decNat (c :: r) = some n := by
      unfold Lib.decNat
      rw [decFrom_of _ a2]
      show some (decV (c :: r)) = some n
      rw [b]
    simp only [Lib.atoi, c1, c2, e]
    rfl
/-- the number that a text is as a decimal one, up to top -/
def decN (l : List UInt8) (top : Nat) : Option Nat := if l ≠ [] ∧ l.all isDig = true ∧ ¬ (1 < l.length ∧ l.head? = some 48) ∧ l.length ≤ 10 ∧ decV l ≤ top then some (decV l) else none
theorem decN_iff (l : List UInt8) (top v : Nat) (ht : top < 10 ^ 10) : decN l top = some v ↔ l = Lib.decDigits v ∧ v ≤ top := by
  unfold decN
  constructor
  · intro h
    split at h
    · rename_i hc
      obtain ⟨h1, h2, h3, h4, h5⟩ := hc
      obtain rfl := Option.some.inj h
      exact ⟨(dec_of l ⟨h1, h2, fun hl e => h3 ⟨hl, e⟩⟩).symm, h5⟩
    · cases h
  · rintro ⟨rfl, hv⟩
    obtain ⟨⟨a1, a2, a3⟩, b, _⟩ := of_dec v
    rw [if_pos ⟨a1, a2, fun h => a3 h.1 h.2, dec_short 9 v (by omega), by rw [b]; exact hv⟩, b]
end Go.Proofs.YthlgjdadkmpbbaaDoor
namespace Go.Proofs.YthlgjdadkmpbbaaDoor
open Go.RowKit
end Go.Proofs.YthlgjdadkmpbbaaDoor
namespace Go.Proofs.YthlgjdadkmpbbaaDoor
open Go.RowKit
end Go.Proofs.YthlgjdadkmpbbaaDoor
namespace Go.Proofs.YthlgjdadkmpbbaaDoor
open Go.RowKit
end Go.Proofs.YthlgjdadkmpbbaaDoor
namespace Go.Proofs.YthlgjdadkmpbbaaDoor
open Go.RowKit
def quadK : Nat → Nat → List UInt8 → Option Nat
  | 0, n, l => match decN l 255 with
    | some v => some (256 * n + v)
    | none => none
  | k + 1, n, l => if Lib.indexByte l 46 < 0 then none else match decN (l.take (Lib.indexByte l 46).toNat) 255 with
    | some v => quadK k (256 * n + v) (l.drop ((Lib.indexByte l 46).toNat + 1))
    | none => none
theorem decN_le {l : List UInt8} {t v : Nat} (h : decN l t = some v) : v ≤ t := by
  unfold decN at h
  split at h
  · rename_i hc; obtain rfl := Option.some.inj h; exact hc.2.2.2.2
  · cases h
theorem idx_lt (l : List UInt8) (c : UInt8) : Lib.indexByte l c < l.length := by
  rcases Int.lt_or_le (Lib.indexByte l c) 0 with hi | hi
  · omega
  · obtain ⟨o, ho⟩ : ∃ o : Nat, Lib.indexByte l c = o := ⟨(Lib.indexByte l c).toNat, by omega⟩
    have := (List.getElem?_eq_some_iff.1 (Lib.indexByte_some ho).1).1
    omega
theorem ext_take (l : List UInt8) (i : Nat) : (ByteArray.mk l.toArray).extract 0 i = ⟨(l.take i).toArray⟩ := ByteArray.ext (by simp)
end Go.Proofs.YthlgjdadkmpbbaaDoor
namespace Go.Proofs.YthlgjdadkmpbbaaDoor
open Go.RowKit Go.Shelf

attribute [local go_sem] Oper.semAt_some

theorem index_dot (r : List UInt8) (w : World) : Calls Tryd.prog 47 #[.string ⟨r.toArray⟩, .string ⟨#[46]⟩] w fun e w' => e = .returned (.int .i64 (Lib.indexByte r 46)) ∧ w' = w := Any.strings_Index_one Tryd.l143 ⟨r.toArray⟩ 46 w
theorem cell_of {W : World} {b : Nat} {v : Value} {t : TypeId} {m : Nat × Nat} (h : W.heap[b]? = some (.cells #[v] t m)) : W.cell? ⟨b, 0, none⟩ = some v := by
  unfold World.cell?; rw [h]; simp
theorem froz_of {W : World} {b : Nat} {v : Value} {t : TypeId} (h : W.heap[b]? = some (.cells #[v] t (0, 0))) : W.frozen? ⟨b, 0, none⟩ = false := by
  simp [World.frozen?, h]
def sLen (b : Nat) (W : World) : Nat := match W.cell? ⟨b, 0, none⟩ with
  | some (.string s) => s.size
  | _ => 0
theorem sLen_of {W : World} {b : Nat} {r : List UInt8} (h : W.cell? ⟨b, 0, none⟩ = some (.string ⟨r.toArray⟩)) : sLen b W = r.length := by
  unfold sLen; rw [h]; simp [ByteArray.size]
theorem splitSeq_in (r : List UInt8) (w : World) : Calls Tryd.prog 27 #[.string ⟨r.toArray⟩, .string ⟨#[46]⟩] w fun e w' => e = .returned (.func (.func 45) #[] #[.pointer (some ⟨w.heap.size + 1, 0, none⟩), .pointer (some ⟨w.heap.size, 0, none⟩), .pointer (some ⟨w.heap.size + 1 + 1, 0, none⟩)]) ∧ w' = ((w.alloc (.cells #[.string ⟨r.toArray⟩] 9)).alloc (.cells #[.string ⟨#[46]⟩] 9)).alloc (.cells #[.int .i64 0] 3) := by
  go_enter Tryd.func27, Tryd.ntmps27
  go_wp2
  go_ret
  exact ⟨rfl, rfl⟩

set_option maxRecDepth 100000 in
set_option maxHeartbeats 1000000 in
/-- strings.splitSeq's closure at a dot: the pieces, one behind the other -/
theorem split_in (n : Nat) (hn : 1 ≤ n) (l b : Nat) (J : List UInt8 → World → Prop) (Jx Je : World → Prop)
    (hbox : ∀ r W, J r W → W.heap[b]? = some (.cells #[.string ⟨r.toArray⟩] 9 (0, 0)) ∧ W.heap[b + 1]? = some (.cells #[.string ⟨#[46]⟩] 9 (0, 0)) ∧ W.heap[b + 1 + 1]? = some (.cells #[.int .i64 0] 3 (0, 0)) ∧ r.length ≤ 16384)
    (hY1 : ∀ r W (i : Nat), J r W → Lib.indexByte r 46 = i → YieldAt Fence.wide (n - 1) Tryd.prog l #[.string ⟨(r.take i).toArray⟩] W fun e W' =>
      (e = .returned (.bool true) ∧ W'.heap[b]? = some (.cells #[.string ⟨r.toArray⟩] 9 (0, 0)) ∧ W'.heap[b + 1]? = some (.cells #[.string ⟨#[46]⟩] 9 (0, 0)) ∧ J (r.drop (i + 1)) (W'.setCell ⟨b, 0, none⟩ (.string ⟨(r.drop (i + 1)).toArray⟩))) ∨ (e = .returned (.bool false) ∧ Jx W'))
    (hY2 : ∀ r W, J r W → Lib.indexByte r 46 < 0 → YieldAt Fence.wide (n - 1) Tryd.prog l #[.string ⟨r.toArray⟩] W fun e W' => (∃ x, e = .returned (.bool x)) ∧ Je W')
    (r0 : List UInt8) (W0 : World) (h0 : J r0 W0) :
    CallsIn Fence.wide n Tryd.prog 45 #[.func (.yield l) #[] #[], .pointer (some ⟨b + 1, 0, none⟩), .pointer (some ⟨b, 0, none⟩), .pointer (some ⟨b + 1 + 1, 0, none⟩)] W0 fun e W' => (∃ v, e = .returned v) ∧ (Jx W' ∨ Je W') := by
  obtain ⟨z1, z2, z3, z4⟩ := hbox _ _ h0
  have c2 := cell_of z2
  refine callsIn_of_wp Tryd.func45 rfl trivial ?_ rfl
  simp only [Tryd.ntmps45, List.size_toArray, List.length_cons, List.length_nil, Nat.reduceAdd, Nat.reduceSub, Array.replicate_succ, Array.replicate_zero, List.push_toArray, List.append_toArray, List.nil_append, List.cons_append]
  gi_wp2
  gi_loopw [7] (fun _ wr => ∃ r, J r wr) (fun _ wr => sLen b wr)
  case atStart => exact ⟨r0, h0⟩
  case round =>
    clear z1 z2 z3 z4 c2
    obtain ⟨r, hJ⟩ := hrel
    obtain ⟨z1, z2, z3, z4⟩ := hbox _ _ hJ
    have c1 := cell_of z1
    have c2 := cell_of z2
    have c3 := cell_of z3
    have hI := index_dot r wr
    obtain ⟨di, hdi⟩ : ∃ di, Lib.indexByte r 46 = di := ⟨_, rfl⟩
    have hd1 : -1 ≤ di := by rw [← hdi]; exact Lib.indexByte_ge _ _
    have hd2 : di < r.length := by rw [← hdi]; exact idx_lt _ _
    rw [hdi] at hI
    by_cases hneg : di < 0
    · obtain ⟨fn, tmps, assign, body, hy, hR⟩ := hY2 r wr hJ (by rw [hdi]; exact hneg)
      gi_wp2_with (refine ⟨trivial, ?_⟩; gi_at_call 47; refine (callsIn_wide.2 hI).mono ?_; rintro e w' ⟨rfl, rfl⟩)
      refine hR.mono ?_
      rintro e W3 ⟨⟨x, rfl⟩, hJe⟩
      gi_wp2
      go_end0
      exact ⟨⟨_, rfl⟩, .inr hJe⟩
    · obtain ⟨i, rfl⟩ : ∃ i : Nat, di = i := ⟨di.toNat, by omega⟩
      have hnn : ¬ (i : Int) < 0 := by omega
      obtain ⟨fn, tmps, assign, body, hy, hR⟩ := hY1 r wr i hJ hdi
      have hE1 := ext_take r i
      have hE2 := ext_drop r (i + 1)
      gi_wp2_with (refine ⟨trivial, ?_⟩; gi_at_call 47; refine (callsIn_wide.2 hI).mono ?_; rintro e w' ⟨rfl, rfl⟩)
      refine hR.mono ?_
      rintro e W3 (⟨rfl, y1, y2, hJ3⟩ | ⟨rfl, hJx3⟩)
      · have d1 := cell_of y1
        have d2 := cell_of y2
        have f1 := froz_of y1
        have hm : sLen b (W3.setCell ⟨b, 0, none⟩ (.string ⟨(r.drop (i + 1)).toArray⟩)) < sLen b w' := by
          rw [sLen_of c1, sLen_of (cell_of (hbox _ _ hJ3).1)]
          simp; omega
        have HM : Hid (sLen b (W3.setCell ⟨b, 0, none⟩ (.string ⟨(r.drop (i + 1)).toArray⟩)) < sLen b w') := hm
        clear hm
        gi_wp2
        go_roundw
        case rel => exact ⟨_, hJ3⟩
        case measure => exact HM.out
      · gi_wp2
        refine bodyPost_ret (results_none rfl _ _ _) rfl ?_
        exact ⟨⟨_, rfl⟩, .inl hJx3⟩
end Go.Proofs.YthlgjdadkmpbbaaDoor

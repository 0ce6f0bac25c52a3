import Derived.Test.YtnboehlbcjfndaaGreatDoorYAH
import Derived.Test.YtnboehlbcjfndaaGreatDoorYAG
import Derived.Test.YtnboehlbcjfndaaGreatDoorYAF
namespace Go.Proofs.YtnboehlbcjfndaaGreatDoor
open Go.RowKit Go.Shelf
def digN (b : Nat) (D : UInt8 → Option Nat) (M : Nat) (l : List UInt8) : Option Nat := if l = [] ∨ M < l.length then none else foldN b D l 0
theorem foldN_lt {b : Nat} {D : UInt8 → Option Nat} (hD : ∀ c d, D c = some d → d < b) (l : List UInt8) (m v : Nat) (h : foldN b D l m = some v) : v < (m + 1) * b ^ l.length := by
  induction l generalizing m with
  | nil => obtain rfl := Option.some.inj h; simp
  | cons c l ih =>
    unfold foldN at h
    cases hd : D c with
    | none => rw [hd] at h; cases h
    | some d =>
      rw [hd] at h
      have h1 := ih _ h
      have h2 := hD c d hd
      have h3 : b * m + d + 1 ≤ (m + 1) * b := by rw [Nat.add_mul, Nat.mul_comm m b]; omega
      calc v < (b * m + d + 1) * b ^ l.length := h1
        _ ≤ ((m + 1) * b) * b ^ l.length := Nat.mul_le_mul_right _ h3
        _ = (m + 1) * b ^ (l.length + 1) := by rw [Nat.pow_succ, Nat.mul_assoc, Nat.mul_comm b]
theorem foldN_lt' {b M : Nat} {D : UInt8 → Option Nat} (hb : 0 < b) (hD : ∀ c d, D c = some d → d < b) {l : List UInt8} {v : Nat} (h : foldN b D l 0 = some v) (hl : l.length ≤ M) : v < b ^ M := by
  have := foldN_lt hD l 0 v h
  rw [Nat.zero_add, Nat.one_mul] at this
  exact Nat.lt_of_lt_of_le this (Nat.pow_le_pow_right hb hl)
theorem toError_any (l : List UInt8) (base : Int) (r : Value) (w : World) (hs : l.length ≤ 16384) (hv : VW w) (hr : r = .iface 237 (.int .i64 2) ∨ r = .iface 237 (.int .i64 1)) :
    Calls Tryz.prog 195 #[.string ⟨#[80, 97, 114, 115, 101, 85, 105, 110, 116]⟩, .string ⟨l.toArray⟩, .int .i64 base, .int .i64 64, r] w fun e w' => (∃ t p, e = .returned (.iface t p)) ∧ Below w.heap.size w w' := by
  have hz : (ByteArray.mk l.toArray).size = l.length := by simp [ByteArray.size]
  rcases hr with rfl | rfl
  · obtain ⟨tp, p, hp⟩ := hv.syn
    exact (Any.strconv_toError_syntax Tryz.l245 _ ⟨l.toArray⟩ base 64 (.iface tp p) w (by rw [hz]; omega) (by have h0 := World.var?_cell Tryz.l245.m15 hp 0; simpa using h0) (Or.inr ⟨tp, p, rfl⟩)).mono fun e w' ⟨N, he, _, _, hb⟩ => ⟨⟨_, _, he⟩, hb⟩
  · obtain ⟨tp, p, hp⟩ := hv.rng
    exact (Any.strconv_toError_range Tryz.l245 _ ⟨l.toArray⟩ base 64 (.iface tp p) w (by rw [hz]; omega) (by have h0 := World.var?_cell Tryz.l245.m16 hp 0; simpa using h0) (Or.inr ⟨tp, p, rfl⟩)).mono fun e w' ⟨N, he, _, _, hb⟩ => ⟨⟨_, _, he⟩, hb⟩

set_option maxRecDepth 100000 in
theorem pu16_empty (w : World) : Calls Tryz.prog 194 #[.string ⟨#[]⟩, .int .i64 16, .int .i64 64] w fun e w' => e = .returned (.tuple #[.int .u64 0, .iface 237 (.int .i64 2)]) ∧ w' = w := by
  go_enter Tryz.func194, Tryz.ntmps194
  go_wp2_with fail
  go_ret2
  exact ⟨rfl, rfl⟩
theorem pu16_any (l : List UInt8) (w : World) (hs : l.length ≤ 16384) :
    Calls Tryz.prog 194 #[.string ⟨l.toArray⟩, .int .i64 16, .int .i64 64] w fun e w' => (∃ (n : Int) (r : Value), e = .returned (.tuple #[.int .u64 n, r]) ∧ ((r = .nilIface ∧ (l.length ≤ 8 → ∃ v : Nat, n = v ∧ digN 16 hexD 8 l = some v)) ∨ ((r = .iface 237 (.int .i64 2) ∨ r = .iface 237 (.int .i64 1)) ∧ digN 16 hexD 8 l = none))) ∧ Below w.heap.size w w' := by
  by_cases h0 : l = []
  · subst h0
    exact (pu16_empty w).mono fun e w' ⟨he, hw⟩ => ⟨⟨_, _, he, .inr ⟨.inl rfl, if_pos (.inl rfl)⟩⟩, by rw [hw]; exact Below.refl _ _⟩
  · refine (pu16 l w hs h0).mono fun e w' ⟨⟨n, r, he, h⟩, hb⟩ => ⟨⟨n, r, he, ?_⟩, hb⟩
    rcases h with ⟨h1, h2⟩ | ⟨h1, h2⟩
    · refine .inl ⟨h1, fun hl => ?_⟩
      obtain ⟨v, hv, hf⟩ := h2 hl
      refine ⟨v, hv, ?_⟩
      unfold digN
      rw [if_neg (fun h => h.elim h0 (by omega))]
      exact hf
    · refine .inr ⟨h1, ?_⟩
      unfold digN
      split
      · rfl
      · rename_i hc
        exact h2 (by omega)
set_option maxRecDepth 100000 in
theorem parse16_any (l : List UInt8) (w : World) (hs : l.length ≤ 16384) (hv : VW w) :
    Calls Tryz.prog 192 #[.string ⟨l.toArray⟩, .int .i64 16, .int .i64 64] w fun e w' => (∃ (n : Int) (r : Value), e = .returned (.tuple #[.int .u64 n, r]) ∧ ((r = .nilIface ∧ (l.length ≤ 8 → ∃ v : Nat, n = v ∧ digN 16 hexD 8 l = some v)) ∨ ((∃ t p, r = .iface t p) ∧ digN 16 hexD 8 l = none))) ∧ Below w.heap.size w w' := by
  have HV : Hid (VW w) := hv
  have HP := pu16_any l w hs
  clear hv
  go_enter Tryz.func192, Tryz.ntmps192
  go_wp2_with fail
  refine HP.mono ?_
  rintro e w1 ⟨⟨n, r, rfl, hr⟩, hb1⟩
  rcases hr with ⟨rfl, hr⟩ | ⟨hr, hn⟩
  · have HR : Hid (l.length ≤ 8 → ∃ v : Nat, n = v ∧ digN 16 hexD 8 l = some v) := hr
    clear hr
    go_wp2_with fail
    go_ret2
    exact ⟨⟨_, _, rfl, .inl ⟨rfl, HR.out⟩⟩, hb1⟩
  · have HN : Hid (digN 16 hexD 8 l = none) := hn
    have HT := toError_any l 16 r w1 hs (HV.out.below hb1) hr
    clear hn
    rcases hr with rfl | rfl
    · go_wp2_with fail
      refine HT.mono ?_
      rintro e w2 ⟨⟨t, p, rfl⟩, hb2⟩
      go_wp2_with fail
      go_ret2
      exact ⟨⟨_, _, rfl, .inr ⟨⟨_, _, rfl⟩, HN.out⟩⟩, bel0 hb1 hb2⟩
    · go_wp2_with fail
      refine HT.mono ?_
      rintro e w2 ⟨⟨t, p, rfl⟩, hb2⟩
      go_wp2_with fail
      go_ret2
      exact ⟨⟨_, _, rfl, .inr ⟨⟨_, _, rfl⟩, HN.out⟩⟩, bel0 hb1 hb2⟩
set_option maxRecDepth 100000 in
theorem digitsOf16_any (l : List UInt8) (w : World) (hs : l.length ≤ 16384) (hv : VW w) :
    Calls Tryz.prog 187 #[.string ⟨l.toArray⟩, .int .i64 16, .int .i64 8] w fun e w' => (∃ v : Int, e = .returned (.tuple #[.int .i64 v, .bool (digN 16 hexD 8 l).isSome]) ∧ ∀ n, digN 16 hexD 8 l = some n → v = n) ∧ Below w.heap.size w w' := by
  have HP := parse16_any l w hs hv
  clear hv
  go_enter Tryz.func187, Tryz.ntmps187
  go_wp2_with fail
  refine HP.mono ?_
  rintro e w1 ⟨⟨n, r, rfl, hr⟩, hb1⟩
  rcases hr with ⟨rfl, hr⟩ | ⟨⟨t, p, rfl⟩, hn⟩
  · by_cases hl : l.length ≤ 8
    · obtain ⟨v, rfl, hd⟩ := hr hl
      have hlt : v < 16 ^ 8 := by
        unfold digN at hd
        split at hd
        · cases hd
        · exact foldN_lt' (by decide) (fun c d h => hexD_lt h) hd hl
      have hlt2 : v < 4294967296 := hlt
      have HD : Hid (digN 16 hexD 8 l = some v) := hd
      have hw : IntKind.i64.wrap (v : Int) = (v : Int) := by rw [IntKind.wrap_i64]; omega
      have i1 : (l.length : Int) ≤ 8 := by omega
      clear hd hr hlt
      go_wp2_with fail
      go_ret2
      rw [HD.out]
      exact ⟨⟨_, rfl, fun n hn => by injection hn with hn; rw [hn]⟩, hb1⟩
    · have i1 : ¬ (l.length : Int) ≤ 8 := by omega
      have hi1 : Hid (decide ((l.length : Int) ≤ 8) = false) := decide_eq_false i1
      have HD : Hid (digN 16 hexD 8 l = none) := if_pos (.inr (by omega))
      clear hr
      go_wp2_with fail
      go_ret2
      rw [HD.out, hi1.out]
      exact ⟨⟨_, rfl, fun n hn => by cases hn⟩, hb1⟩
  · have HD : Hid (digN 16 hexD 8 l = none) := hn
    clear hn
    go_wp2_with fail
    go_ret2
    rw [HD.out]
    exact ⟨⟨_, rfl, fun n hn => by cases hn⟩, hb1⟩


set_option maxRecDepth 100000 in
theorem pu2_empty (w : World) : Calls Tryz.prog 194 #[.string ⟨#[]⟩, .int .i64 2, .int .i64 64] w fun e w' => e = .returned (.tuple #[.int .u64 0, .iface 237 (.int .i64 2)]) ∧ w' = w := by
  go_enter Tryz.func194, Tryz.ntmps194
  go_wp2_with fail
  go_ret2
  exact ⟨rfl, rfl⟩
theorem pu2_any (l : List UInt8) (w : World) (hs : l.length ≤ 16384) :
    Calls Tryz.prog 194 #[.string ⟨l.toArray⟩, .int .i64 2, .int .i64 64] w fun e w' => (∃ (n : Int) (r : Value), e = .returned (.tuple #[.int .u64 n, r]) ∧ ((r = .nilIface ∧ (l.length ≤ 32 → ∃ v : Nat, n = v ∧ digN 2 binD 32 l = some v)) ∨ ((r = .iface 237 (.int .i64 2) ∨ r = .iface 237 (.int .i64 1)) ∧ digN 2 binD 32 l = none))) ∧ Below w.heap.size w w' := by
  by_cases h0 : l = []
  · subst h0
    exact (pu2_empty w).mono fun e w' ⟨he, hw⟩ => ⟨⟨_, _, he, .inr ⟨.inl rfl, if_pos (.inl rfl)⟩⟩, by rw [hw]; exact Below.refl _ _⟩
  · refine (pu2 l w hs h0).mono fun e w' ⟨⟨n, r, he, h⟩, hb⟩ => ⟨⟨n, r, he, ?_⟩, hb⟩
    rcases h with ⟨h1, h2⟩ | ⟨h1, h2⟩
    · refine .inl ⟨h1, fun hl => ?_⟩
      obtain ⟨v, hv, hf⟩ := h2 hl
      refine ⟨v, hv, ?_⟩
      unfold digN
      rw [if_neg (fun h => h.elim h0 (by omega))]
      exact hf
    · refine .inr ⟨h1, ?_⟩
      unfold digN
      split
      · rfl
      · rename_i hc
        exact h2 (by omega)
set_option maxRecDepth 100000 in
theorem parse2_any (l : List UInt8) (w : World) (hs : l.length ≤ 16384) (hv : VW w) :
    Calls Tryz.prog 192 #[.string ⟨l.toArray⟩, .int .i64 2, .int .i64 64] w fun e w' => (∃ (n : Int) (r : Value), e = .returned (.tuple #[.int .u64 n, r]) ∧ ((r = .nilIface ∧ (l.length ≤ 32 → ∃ v : Nat, n = v ∧ digN 2 binD 32 l = some v)) ∨ ((∃ t p, r = .iface t p) ∧ digN 2 binD 32 l = none))) ∧ Below w.heap.size w w' := by
  have HV : Hid (VW w) := hv
  have HP := pu2_any l w hs
  clear hv
  go_enter Tryz.func192, Tryz.ntmps192
  go_wp2_with fail
  refine HP.mono ?_
  rintro e w1 ⟨⟨n, r, rfl, hr⟩, hb1⟩
  rcases hr with ⟨rfl, hr⟩ | ⟨hr, hn⟩
  · have HR : Hid (l.length ≤ 32 → ∃ v : Nat, n = v ∧ digN 2 binD 32 l = some v) := hr
    clear hr
    go_wp2_with fail
    go_ret2
    exact ⟨⟨_, _, rfl, .inl ⟨rfl, HR.out⟩⟩, hb1⟩
  · have HN : Hid (digN 2 binD 32 l = none) := hn
    have HT := toError_any l 2 r w1 hs (HV.out.below hb1) hr
    clear hn
    rcases hr with rfl | rfl
    · go_wp2_with fail
      refine HT.mono ?_
      rintro e w2 ⟨⟨t, p, rfl⟩, hb2⟩
      go_wp2_with fail
      go_ret2
      exact ⟨⟨_, _, rfl, .inr ⟨⟨_, _, rfl⟩, HN.out⟩⟩, bel0 hb1 hb2⟩
    · go_wp2_with fail
      refine HT.mono ?_
      rintro e w2 ⟨⟨t, p, rfl⟩, hb2⟩
      go_wp2_with fail
      go_ret2
      exact ⟨⟨_, _, rfl, .inr ⟨⟨_, _, rfl⟩, HN.out⟩⟩, bel0 hb1 hb2⟩
set_option maxRecDepth 100000 in
theorem digitsOf2_any (l : List UInt8) (w : World) (hs : l.length ≤ 16384) (hv : VW w) :
    Calls Tryz.prog 187 #[.string ⟨l.toArray⟩, .int .i64 2, .int .i64 32] w fun e w' => (∃ v : Int, e = .returned (.tuple #[.int .i64 v, .bool (digN 2 binD 32 l).isSome]) ∧ ∀ n, digN 2 binD 32 l = some n → v = n) ∧ Below w.heap.size w w' := by
  have HP := parse2_any l w hs hv
  clear hv
  go_enter Tryz.func187, Tryz.ntmps187
  go_wp2_with fail
  refine HP.mono ?_
  rintro e w1 ⟨⟨n, r, rfl, hr⟩, hb1⟩
  rcases hr with ⟨rfl, hr⟩ | ⟨⟨t, p, rfl⟩, hn⟩
  · by_cases hl : l.length ≤ 32
    · obtain ⟨v, rfl, hd⟩ := hr hl
      have hlt : v < 2 ^ 32 := by
        unfold digN at hd
        split at hd
        · cases hd
        · exact foldN_lt' (by decide) (fun c d h => by rcases binD_or h with ⟨_, rfl⟩ | ⟨_, rfl⟩ <;> omega) hd hl
      have hlt2 : v < 4294967296 := hlt
      have HD : Hid (digN 2 binD 32 l = some v) := hd
      have hw : IntKind.i64.wrap (v : Int) = (v : Int) := by rw [IntKind.wrap_i64]; omega
      have i1 : (l.length : Int) ≤ 32 := by omega
      clear hd hr hlt
      go_wp2_with fail
      go_ret2
      rw [HD.out]
      exact ⟨⟨_, rfl, fun n hn => by injection hn with hn; rw [hn]⟩, hb1⟩
    · have i1 : ¬ (l.length : Int) ≤ 32 := by omega
      have hi1 : Hid (decide ((l.length : Int) ≤ 32) = false) := decide_eq_false i1
      have HD : Hid (digN 2 binD 32 l = none) := if_pos (.inr (by omega))
      clear hr
      go_wp2_with fail
      go_ret2
      rw [HD.out, hi1.out]
      exact ⟨⟨_, rfl, fun n hn => by cases hn⟩, hb1⟩
  · have HD : Hid (digN 2 binD 32 l = none) := hn
    clear hn
    go_wp2_with fail
    go_ret2
    rw [HD.out]
    exact ⟨⟨_, rfl, fun n hn => by cases hn⟩, hb1⟩

theorem foldN_mem {b : Nat} {D : UInt8 → Option Nat} {c : UInt8} (hc : D c = none) (l : List UInt8) (h : c ∈ l) (m : Nat) : foldN b D l m = none := by
  induction l generalizing m with
  | nil => cases h
  | cons a l ih =>
    unfold foldN
    cases hd : D a with
    | none => rfl
    | some d =>
      rcases List.mem_cons.1 h with e | e
      · subst e; rw [hc] at hd; cases hd
      · exact ih e _
theorem decN_mem {l : List UInt8} {c : UInt8} (hc : isDig c = false) (h : c ∈ l) (t : Nat) : decN l t = none := by
  unfold decN
  rw [if_neg]
  rintro ⟨_, ha, _⟩
  rw [List.all_eq_true] at ha
  rw [ha c h] at hc
  cases hc
theorem num_pre {b : Nat} {D : UInt8 → Option Nat} {M : Nat} {l : List UInt8} {x : UInt8} (hx : isDig x = false) (hx2 : x ≠ 46) (hD : D 46 = none) (ht : l.take 2 = [48, x])
    (hn : ¬ 0 ≤ Lib.indexByte l 46 → numN l = if 3 ≤ l.length ∧ l.length ≤ M + 2 then foldN b D (l.drop 2) 0 else decN l 4294967295) : numN l = digN b D M (l.drop 2) := by
  obtain ⟨r, rfl⟩ : ∃ r, l = 48 :: x :: r := by
    match l, ht with
    | [], h => simp at h
    | [_], h => simp at h
    | a :: c :: r, h =>
      simp at h
      exact ⟨r, by rw [h.1, h.2]⟩
  have hd : (48 :: x :: r).drop 2 = r := rfl
  rw [hd] at hn ⊢
  have hxm : x ∈ (48 :: x :: r) := by simp
  by_cases hdot : 0 ≤ Lib.indexByte (48 :: x :: r) 46
  · obtain ⟨i, hi⟩ : ∃ i : Nat, Lib.indexByte (48 :: x :: r) 46 = i := ⟨_, (Int.toNat_of_nonneg hdot).symm⟩
    obtain ⟨h1, h2⟩ := Lib.indexByte_some hi
    have hi2 : 2 ≤ i := by
      match i, h1 with
      | 0, h => simp at h
      | 1, h => simp at h; exact absurd h hx2
      | i + 2, _ => omega
    have hmem : (46 : UInt8) ∈ r := by
      obtain ⟨j, rfl⟩ : ∃ j, i = j + 2 := ⟨i - 2, by omega⟩
      simp only [List.getElem?_cons_succ] at h1
      exact List.mem_of_getElem? h1
    have hL : numN (48 :: x :: r) = none := by
      unfold numN
      rw [if_pos hdot, quadK, hi, if_neg (by omega), show ((i : Int)).toNat = i from Int.toNat_natCast i, decN_mem hx]
      obtain ⟨j, rfl⟩ : ∃ j, i = j + 2 := ⟨i - 2, by omega⟩
      simp
    rw [hL]
    unfold digN
    split
    · rfl
    · exact (foldN_mem hD r hmem 0).symm
  · rw [hn hdot]
    unfold digN
    by_cases hr : r = []
    · rw [if_neg (show ¬ (3 ≤ (48 :: x :: r).length ∧ (48 :: x :: r).length ≤ M + 2) by subst hr; simp), if_pos (.inl hr), decN_mem hx hxm]
    · have hl : 0 < r.length := List.length_pos_iff.2 hr
      by_cases hm : M < r.length
      · rw [if_neg (show ¬ (3 ≤ (48 :: x :: r).length ∧ (48 :: x :: r).length ≤ M + 2) by simp; omega), if_pos (.inr hm), decN_mem hx hxm]
      · rw [if_pos (show 3 ≤ (48 :: x :: r).length ∧ (48 :: x :: r).length ≤ M + 2 by simp; omega), if_neg (fun h => h.elim hr hm)]
theorem num_hex {l : List UInt8} (ht : l.take 2 = [48, 120]) : numN l = digN 16 hexD 8 (l.drop 2) := by
  refine num_pre (by decide) (by decide) (by decide) ht (fun hd => ?_)
  unfold numN
  rw [if_neg hd]
  by_cases h : 3 ≤ l.length ∧ l.length ≤ 8 + 2
  · rw [if_pos h, if_pos ⟨h, ht⟩]
  · rw [if_neg h, if_neg (fun e => h e.1), if_neg (fun e => by rw [ht] at e; exact absurd e.2 (by decide))]
theorem num_bin {l : List UInt8} (ht : l.take 2 = [48, 98]) : numN l = digN 2 binD 32 (l.drop 2) := by
  refine num_pre (by decide) (by decide) (by decide) ht (fun hd => ?_)
  unfold numN
  rw [if_neg hd, if_neg (fun e => by rw [ht] at e; exact absurd e.2 (by decide))]
  by_cases h : 3 ≤ l.length ∧ l.length ≤ 32 + 2
  · rw [if_pos h, if_pos ⟨h, ht⟩]
  · rw [if_neg h, if_neg (fun e => h e.1)]
theorem num_dec {l : List UInt8} (hd : ¬ 0 ≤ Lib.indexByte l 46) (h1 : l.take 2 ≠ [48, 120]) (h2 : l.take 2 ≠ [48, 98]) : numN l = decN l 4294967295 := by
  unfold numN
  rw [if_neg hd, if_neg (fun e => h1 e.2), if_neg (fun e => h2 e.2)]
theorem pre2 (a b : UInt8) (l : List UInt8) : Lib.hasPrefix l [a, b] = decide (l.take 2 = [a, b]) := by
  unfold Lib.hasPrefix
  match l with
  | [] => simp
  | [c] => simp [List.isPrefixOf]
  | c :: d :: r =>
    simp only [List.isPrefixOf, List.take_succ_cons, List.take_zero, Bool.and_true]
    by_cases h1 : a = c
    · by_cases h2 : b = d
      · subst h1 h2; simp
      · simp [h1, h2, Ne.symm h2]
    · simp [h1, Ne.symm h1]
theorem cut_any (a b : UInt8) (l : List UInt8) (w : World) : Calls Tryz.prog 186 #[.string ⟨l.toArray⟩, .string ⟨#[a, b]⟩] w fun e w' => e = .returned (.tuple #[.string ⟨(if l.take 2 = [a, b] then l.drop 2 else l).toArray⟩, .bool (decide (l.take 2 = [a, b]))]) ∧ w' = w := by
  have h := Any.strings_CutPrefix Tryz.l103 ⟨l.toArray⟩ ⟨#[a, b]⟩ w
  refine h.mono fun e w' ⟨he, hw⟩ => ⟨?_, hw⟩
  rw [he]
  show Ending.returned (.tuple #[.string ⟨(Lib.trimPrefix l [a, b]).toArray⟩, .bool (Lib.hasPrefix l [a, b])]) = _
  unfold Lib.trimPrefix
  rw [pre2]
  by_cases ht : l.take 2 = [a, b]
  · rw [if_pos (decide_eq_true ht), if_pos ht]; rfl
  · rw [if_neg (by simpa using ht), if_neg ht]
theorem contains_dot (l : List UInt8) (w : World) : Calls Tryz.prog 103 #[.string ⟨l.toArray⟩, .string ⟨#[46]⟩] w fun e w' => e = .returned (.bool (decide (0 ≤ Lib.indexByte l 46))) ∧ w' = w := Any.strings_Contains_one Tryz.l144 ⟨l.toArray⟩ 46 w
set_option maxRecDepth 100000 in
theorem valueOf_any (l : List UInt8) (w : World) (hs : l.length ≤ 16384) (hv0 : VW w) :
    Calls Tryz.prog 179 #[.string ⟨l.toArray⟩] w fun e w' => (∃ v : Int, e = .returned (.tuple #[.int .i64 v, .bool (numN l).isSome]) ∧ ∀ n, numN l = some n → v = n) ∧ Below w.heap.size w w' := by
  have hv : Hid (VW w) := hv0
  clear hv0
  have HC1 := cut_any 48 120 l w
  have HC2 := cut_any 48 98 l w
  by_cases h1 : l.take 2 = [48, 120]
  · rw [if_pos h1, decide_eq_true h1] at HC1
    have HD := digitsOf16_any (l.drop 2) w (by simp; omega) hv.out
    rw [← num_hex h1] at HD
    clear HC2 h1
    obtain ⟨N, hN⟩ : ∃ N, numN l = N := ⟨_, rfl⟩
    rw [hN] at HD ⊢
    go_enter Tryz.func179, Tryz.ntmps179
    go_wp2_with fail
    refine HC1.mono ?_
    rintro e w1 ⟨rfl, rfl⟩
    go_wp2_with fail
    refine HD.mono ?_
    rintro e w2 ⟨⟨v, rfl, hvn⟩, hb⟩
    have HVN : Hid (∀ n, N = some n → v = n) := hvn
    clear hvn
    go_wp2_with fail
    go_ret2
    exact ⟨⟨v, rfl, HVN.out⟩, hb⟩
  · rw [if_neg h1, decide_eq_false h1] at HC1
    by_cases h2 : l.take 2 = [48, 98]
    · rw [if_pos h2, decide_eq_true h2] at HC2
      have HD := digitsOf2_any (l.drop 2) w (by simp; omega) hv.out
      rw [← num_bin h2] at HD
      clear h1 h2
      obtain ⟨N, hN⟩ : ∃ N, numN l = N := ⟨_, rfl⟩
      rw [hN] at HD ⊢
      go_enter Tryz.func179, Tryz.ntmps179
      go_wp2_with fail
      refine HC1.mono ?_
      rintro e w1 ⟨rfl, rfl⟩
      go_wp2_with fail
      refine HC2.mono ?_
      rintro e w1 ⟨rfl, rfl⟩
      go_wp2_with fail
      refine HD.mono ?_
      rintro e w2 ⟨⟨v, rfl, hvn⟩, hb⟩
      have HVN : Hid (∀ n, N = some n → v = n) := hvn
      clear hvn
      go_wp2_with fail
      go_ret2
      exact ⟨⟨v, rfl, HVN.out⟩, hb⟩
    · rw [if_neg h2, decide_eq_false h2] at HC2
      have HK := contains_dot l w
      by_cases h3 : 0 ≤ Lib.indexByte l 46
      · rw [decide_eq_true h3] at HK
        have HD := quadOf_any l w hs hv.out
        have e0 : numN l = quadK 3 0 l := if_pos h3
        rw [← e0] at HD
        clear h1 h2 h3 e0
        obtain ⟨N, hN⟩ : ∃ N, numN l = N := ⟨_, rfl⟩
        rw [hN] at HD ⊢
        go_enter Tryz.func179, Tryz.ntmps179
        go_wp2_with fail
        refine HC1.mono ?_
        rintro e w1 ⟨rfl, rfl⟩
        go_wp2_with fail
        refine HC2.mono ?_
        rintro e w1 ⟨rfl, rfl⟩
        go_wp2_with fail
        refine HK.mono ?_
        rintro e w1 ⟨rfl, rfl⟩
        go_wp2_with fail
        refine HD.mono ?_
        rintro e w2 ⟨⟨v, rfl, hvn⟩, hb⟩
        have HVN : Hid (∀ n, N = some n → v = n) := hvn
        clear hvn
        go_wp2_with fail
        go_ret2
        exact ⟨⟨v, rfl, HVN.out⟩, hb⟩
      · rw [decide_eq_false h3] at HK
        have HD := decimalOf_any l 4294967295 w hs (by omega) hv.out
        rw [← num_dec h3 h1 h2] at HD
        clear h1 h2 h3
        obtain ⟨N, hN⟩ : ∃ N, numN l = N := ⟨_, rfl⟩
        rw [hN] at HD ⊢
        go_enter Tryz.func179, Tryz.ntmps179
        go_wp2_with fail
        refine HC1.mono ?_
        rintro e w1 ⟨rfl, rfl⟩
        go_wp2_with fail
        refine HC2.mono ?_
        rintro e w1 ⟨rfl, rfl⟩
        go_wp2_with fail
        refine HK.mono ?_
        rintro e w1 ⟨rfl, rfl⟩
        go_wp2_with fail
        refine HD.mono ?_
        rintro e w2 ⟨⟨v, rfl, hvn⟩, hb⟩
        have HVN : Hid (∀ n, N = some n → v = n) := hvn
        clear hvn
        go_wp2_with fail
        go_ret2
        exact ⟨⟨v, rfl, HVN.out⟩, hb⟩
set_option maxRecDepth 100000 in
theorem value_any (l : List UInt8) (w : World) (hm : l.length ≤ 281474976710656) (hv0 : VW w) :
    Calls Tryz.prog 173 #[.string ⟨l.toArray⟩] w fun e w' => e = .returned (.tuple #[.int .i64 (valV l), .int .i64 (valE l)]) ∧ Below w.heap.size w w' := by
  have hv : Hid (VW w) := hv0
  clear hv0
  by_cases hs : 16384 < l.length
  · have e1 : Hid (valV l = 0) := if_pos hs
    have e2 : Hid (valE l = 2) := if_pos hs
    have i1 : (16384 : Int) < (l.length : Int) := by omega
    go_enter Tryz.func173, Tryz.ntmps173
    go_wp2_with fail
    go_ret2
    exact ⟨by rw [e1.out, e2.out]; rfl, Below.refl _ _⟩
  · have i1 : ¬ (16384 : Int) < (l.length : Int) := by omega
    have HN := valueOf_any l w (by omega) hv.out
    cases hn : numN l with
    | none =>
      have e1 : Hid (valV l = 0) := by unfold Hid valV; rw [if_neg hs, hn]
      have e2 : Hid (valE l = 31) := by unfold Hid valE; rw [if_neg hs, hn]
      rw [hn] at HN
      simp only [Option.isSome_none] at HN
      clear hn
      go_enter Tryz.func173, Tryz.ntmps173
      go_wp2_with fail
      refine HN.mono ?_
      rintro e w1 ⟨⟨v, rfl, _⟩, hb1⟩
      go_wp2_with fail
      go_ret2
      exact ⟨by rw [e1.out, e2.out]; rfl, hb1⟩
    | some n =>
      have e1 : Hid (valV l = n) := by unfold Hid valV; rw [if_neg hs, hn]
      have e2 : Hid (valE l = 0) := by unfold Hid valE; rw [if_neg hs, hn]
      rw [hn] at HN
      simp only [Option.isSome_some] at HN
      clear hn
      go_enter Tryz.func173, Tryz.ntmps173
      go_wp2_with fail
      refine HN.mono ?_
      rintro e w1 ⟨⟨v, rfl, hvn⟩, hb1⟩
      obtain rfl := hvn n rfl
      clear hvn
      go_wp2_with fail
      go_ret2
      exact ⟨by rw [e1.out, e2.out]; rfl, hb1⟩
def subL (l : List UInt8) (a b : Nat) : List UInt8 := (l.drop a).take (b - a)
theorem ext_sub (l : List UInt8) (a b : Nat) : (ByteArray.mk l.toArray).extract a b = ⟨(subL l a b).toArray⟩ := ByteArray.ext (by simp [subL, List.take_drop])
theorem subL_len (l : List UInt8) (a b : Nat) : (subL l a b).length ≤ l.length := by unfold subL; simp; omega
def is01x (c : UInt8) : Bool := c == 48 || c == 49 || c == 120
def faultE (kind : Nat) (t : List UInt8) : Nat :=
  if kind = 2 ∨ kind = 3 then (if (parts t).any (fun n => decide (24 < n.length)) then 36 else 0)
  else if kind = 4 then (valE t).toNat
  else if kind = 5 then (if t.drop 1 = [] ∨ 32 < (t.drop 1).length ∨ (t.drop 1).all is01x = false then 44 else 0)
  else if kind = 7 then (if t = [] then 30 else 0) else 0
def FOK (w0 : World) : Prop := ∀ (kind : Nat) (t : List UInt8) (W : World), 2 ≤ kind → kind ≤ 7 → (kind = 5 → t ≠ []) → t.length ≤ 16384 → Below w0.heap.size w0 W →
  Calls Tryz.prog 164 #[.int .i64 (kind : Int), .string ⟨t.toArray⟩] W fun e w' => e = .returned (.int .i64 (faultE kind t : Int)) ∧ Below W.heap.size W w'
theorem faultE_lt (kind : Nat) (t : List UInt8) : faultE kind t < 1000 := by
  unfold faultE valE
  repeat' split
  all_goals omega
def wholeR (X : MX) (now fst line head : Nat) (D : List Tok) (kind : Nat) (t : List UInt8) (e : Ending) (w' : World) : Prop :=
  e = .returned (.int .i64 (faultE kind t : Int)) ∧ ∃ v', MS X w' (if faultE kind t = 0 then now else fst) fst line head v' (if faultE kind t = 0 then D ++ [(kind, t, line, fst - head + 1)] else D)
set_option maxRecDepth 100000 in
set_option maxHeartbeats 2000000 in
theorem whole_any {X : MX} (hC : MC X) (hF : FOK X.w0) {W : World} {now fst line head : Nat} {v : Value} {D : List Tok} (h : MS X W now fst line head v D) {i j : Nat} (hi : AT X.l fst i) (hj : AT X.l now j) (hij : i ≤ j) (hjl : j ≤ X.l.length) (hh : head ≤ fst) (hD : D.length ≤ 65536) (kind : Nat) (k2 : 2 ≤ kind) (k7 : kind ≤ 7) (k5 : kind = 5 → i < j) :
    Calls Tryz.prog 151 #[.pointer (some ⟨X.b, 0, none⟩), .int .i64 (kind : Int)] W fun e w' => wholeR X now fst line head D kind (subL X.l i j) e w' := by
  have hM : Hid (MS X W now fst line head v D) := h
  have hc0 := h.c0
  have hc1 := h.c1
  have hc2 := h.c2
  have hc3 := h.c3
  have hxi := h.ca hC hi (by omega)
  have hxj := h.ca hC hj hjl
  have hli := hi.lt
  have hlj := hj.lt
  have hlen := hC.len
  have hle := hi.le
  have n0 : (0 : Int) ≤ (now : Int) := by omega
  have n1 : (now : Int) < ((chars X.l 0).length : Int) := by omega
  have n2 : (0 : Int) ≤ (fst : Int) := by omega
  have n3 : (fst : Int) < ((chars X.l 0).length : Int) := by omega
  have p0 : (0 : Int) ≤ (i : Int) := by omega
  have p1 : (i : Int) ≤ (j : Int) := by omega
  have p2 : (j : Int) ≤ (X.l.length : Int) := by omega
  have hT := ext_sub X.l i j
  obtain ⟨T, hTT⟩ : ∃ T, subL X.l i j = T := ⟨_, rfl⟩
  have hTl : T.length ≤ 16384 := by rw [← hTT]; have := subL_len X.l i j; omega
  have hT5 : kind = 5 → T ≠ [] := fun hk e => by
    have := k5 hk
    have h1 := congrArg List.length (hTT.trans e)
    unfold subL at h1
    simp at h1
    omega
  rw [hTT] at hT ⊢
  have HF : Hid (∀ W', Below X.w0.heap.size X.w0 W' → Calls Tryz.prog 164 #[.int .i64 (kind : Int), .string ⟨T.toArray⟩] W' fun e w' => e = .returned (.int .i64 (faultE kind T : Int)) ∧ Below W'.heap.size W' w') := fun W' hW => hF kind T W' k2 k7 hT5 hTl hW
  have HH : Hid (∀ W', MS X W' now fst line head v D → Calls Tryz.prog 155 #[.pointer (some ⟨X.b, 0, none⟩), .int .i64 (kind : Int), .string ⟨T.toArray⟩, .int .i64 (fst : Int)] W' fun e w' => e = .returned (.tuple #[]) ∧ ∃ v', MS X w' now fst line head v' (D ++ [(kind, T, line, fst - head + 1)])) := fun W' h' => hand_any hC h' kind T fst hh (by omega) hD
  have hfl := faultE_lt kind T
  obtain ⟨f, hf⟩ : ∃ f, faultE kind T = f := ⟨_, rfl⟩
  unfold wholeR
  rw [hf] at HF hfl ⊢
  have hCC : Hid (MC X) := hC
  clear h hi hj hF hTT hC hf hT5 k5
  by_cases f0 : f = 0
  · subst f0
    rw [if_pos rfl, if_pos rfl]
    go_enter Tryz.func151, Tryz.ntmps151
    go_wp2_with fail
    go_quiet (fail)
    go_wp2_with fail
    refine (HF.out _ (by exact (hM.out.drewN _).bel)).mono ?_
    rintro e w1 ⟨rfl, hb1⟩
    have m1 := (hM.out.drewN _).below hb1
    have m3 := m1.c3
    go_wp2_with fail
    refine (HH.out _ m1).mono ?_
    rintro e w2 ⟨rfl, v2, m2⟩
    go_wp2_with fail
    go_ret
    exact ⟨rfl, v2, m2⟩
  · have e0 : ((f : Int) == 0) = false := by rw [beq_eq_false_iff_ne]; omega
    have e1 : ((f : Int) != 0) = true := by rw [bne, e0]; rfl
    rw [if_neg f0, if_neg f0]
    go_enter Tryz.func151, Tryz.ntmps151
    go_wp2_with fail
    go_quiet (fail)
    go_wp2_with fail
    refine (HF.out _ (by exact (hM.out.drewN _).bel)).mono ?_
    rintro e w1 ⟨rfl, hb1⟩
    have m1 := (hM.out.drewN _).below hb1
    have m3 := m1.c3
    have m2 := m1.c2
    have f2 := m1.fz 2
    go_wp2_with fail
    go_ret
    exact ⟨rfl, v, m1.setNow hCC.out fst rfl⟩
def quoE (l : List UInt8) (j : Nat) : Nat :=
  if (insS l (j + 1) []).2.2 = 33 ∧ kl l (insS l (j + 1) []).2.1 = 1 then 32
  else if (insS l (j + 1) []).2.2 = 0 ∧ 256 < (insS l (j + 1) []).1.length then 37 else (insS l (j + 1) []).2.2
def quoJ (l : List UInt8) (j : Nat) : Nat := if (insS l (j + 1) []).2.2 = 0 ∧ 256 < (insS l (j + 1) []).1.length then j else (insS l (j + 1) []).2.1
theorem insS_e (l : List UInt8) : ∀ (m j : Nat) (s : List UInt8), l.length - j ≤ m → (insS l j s).2.2 < 100 := by
  intro m
  induction m with
  | zero =>
    intro j s h
    rw [insS, if_neg (by omega)]
    simp
  | succ m ih =>
    intro j s h
    rw [insS]
    by_cases h1 : j < l.length
    · rw [if_pos h1]
      repeat' split
      all_goals first
        | (simp; done)
        | (refine ih _ _ ?_; have := dc_pos l j; omega)
    · rw [if_neg h1]; simp
theorem addG (g m : Nat) : (⟨g, 0, none⟩ : Addr).add m = ⟨g, m, none⟩ := by unfold Addr.add; split <;> simp_all
set_option maxRecDepth 100000 in
set_option maxHeartbeats 1000000 in
theorem passQuoted_any {X : MX} (hC : MC X) {W : World} {now line head : Nat} {v : Value} {D : List Tok} (h : MS X W now now line head v D) {j : Nat} (hj : AT X.l now j) (hjl : j < X.l.length) (hb : bt X.l j = 34) :
    Calls Tryz.prog 154 #[.pointer (some ⟨X.b, 0, none⟩)] W fun e w' => e = .returned (.int .i64 (quoE X.l j : Int)) ∧ ∃ k, AT X.l k (quoJ X.l j) ∧ quoJ X.l j ≤ X.l.length ∧ MS X w' k now line head v D := by
  have hM : Hid (MS X W now now line head v D) := h
  have hc1 := h.c1
  have hc2 := h.c2
  have hj1 := hj.asc hjl (by omega)
  have hlen := hC.len
  have hle := hj.le
  have hlt := hj.lt
  have HP : Hid (∀ W', MS X W' now now line head v D → Calls Tryz.prog 165 #[.slice (some ⟨X.g, 0, none⟩) (chars X.l 0).length X.cap, .int .i64 ((now : Int) + 1)] W' fun e w' => pcR2 X.l (j + 1) W' e w') := fun W' h' => by
    rw [show (now : Int) + 1 = ((now + 1 : Nat) : Int) by omega]
    exact pieces_at X.l (now + 1) (j + 1) ⟨X.g, 0, none⟩ X.cap W' hlen (by omega) hj1 hC.capN (fun k c hc => by
      rw [addG, addG]
      exact ⟨(cell_of_row W' X.g _ _ _ _ h'.gk).trans (hC.gcc k c hc).1, (cell_of_row W' X.g _ _ _ _ h'.gk).trans (hC.gcc k c hc).2⟩) (hC.sh.below h'.bel)
  have HK : Hid (∀ (W' : World) (k : Nat), AT X.l k (insS X.l (j + 1) []).2.1 → MS X W' k now line head v D → Calls Tryz.prog 135 #[.pointer (some ⟨X.b, 0, none⟩)] W' fun e w' => e = .returned (.int .i64 (kl X.l (insS X.l (j + 1) []).2.1 : Int)) ∧ MS X w' k now line head v D) := fun W' k hk h' => class_any hC h' hk
  have HQE : Hid (quoE X.l j = if (insS X.l (j + 1) []).2.2 = 33 ∧ kl X.l (insS X.l (j + 1) []).2.1 = 1 then 32 else if (insS X.l (j + 1) []).2.2 = 0 ∧ 256 < (insS X.l (j + 1) []).1.length then 37 else (insS X.l (j + 1) []).2.2) := rfl
  have HQJ : Hid (quoJ X.l j = if (insS X.l (j + 1) []).2.2 = 0 ∧ 256 < (insS X.l (j + 1) []).1.length then j else (insS X.l (j + 1) []).2.1) := rfl
  have hee := insS_e X.l _ (j + 1) [] (Nat.le_refl _)
  rw [HQE.out, HQJ.out]
  have hCC : Hid (MC X) := hC
  have hJ : Hid (AT X.l now j) := hj
  unfold pcR2 at HP
  have n0 : (0 : Int) ≤ (now : Int) := by omega
  have n1 : (now : Int) ≤ 16384 := by omega
  obtain ⟨S, hS⟩ : ∃ S, (insS X.l (j + 1) []).1 = S := ⟨_, rfl⟩
  obtain ⟨A, hA⟩ : ∃ A, (insS X.l (j + 1) []).2.1 = A := ⟨_, rfl⟩
  obtain ⟨E, hE⟩ : ∃ E, (insS X.l (j + 1) []).2.2 = E := ⟨_, rfl⟩
  rw [hS, hA, hE] at HP
  rw [hA] at HK
  rw [hE] at hee
  rw [hS, hA, hE]
  obtain ⟨c, hc⟩ : ∃ c, kl X.l A = c := ⟨_, rfl⟩
  rw [hc] at HK ⊢
  have hS0 : 0 ≤ (S.length : Int) := by omega
  obtain ⟨QE, hQE⟩ : ∃ QE, (if E = 33 ∧ c = 1 then 32 else if E = 0 ∧ 256 < S.length then 37 else E) = QE := ⟨_, rfl⟩
  obtain ⟨QJ, hQJ⟩ : ∃ QJ, (if E = 0 ∧ 256 < S.length then j else A) = QJ := ⟨_, rfl⟩
  rw [hQE, hQJ]
  have HE : Hid ((if E = 33 ∧ c = 1 then 32 else if E = 0 ∧ 256 < S.length then 37 else E) = QE) := hQE
  have HJ : Hid ((if E = 0 ∧ 256 < S.length then j else A) = QJ) := hQJ
  clear h hj hC hj1 hlt HQE HQJ hS hA hE hc hQE hQJ
  go_enter Tryz.func154, Tryz.ntmps154
  go_wp2_with fail
  have hw1 := wrapN now (by omega)
  go_region_held_law (fun W' => W'.cell? ⟨X.b, 1, none⟩ = some (.slice (some ⟨X.g, 0, none⟩) (chars X.l 0).length X.cap) ∧ W'.cell? ⟨X.b, 2, none⟩ = some (.int .i64 (now : Int))) (first | exact ⟨hc1, hc2⟩ | exact ⟨m1.c1, m1.c2⟩) ((go_at_call 165; refine (HP.out _ (MS.drew hM.out)).mono ?_; rintro e w1 ⟨vq, kq, rfl, hk, hAl, hoq, hbq⟩; have m1 := (MS.drew hM.out).below hbq))
  all_goals
    clear hw1 hc1 hc2
    obtain ⟨ad2, c2, rfl⟩ := shapeP hoq
    have m2 := m1.setNow hCC.out kq (z := (kq : Int)) rfl
    have d2 := m1.c2
    have d3 := m1.c3
    have z2 := m1.fz 2
    have HAT : Hid (AT X.l kq A) := hk
    clear hk hoq hbq HP
    by_cases e33 : E = 33
    · subst e33
      have hCl := HK.out _ kq HAT.out m2
      have hj' : A = QJ := by rw [← HJ.out]; simp
      subst hj'
      by_cases c1 : c = 1
      · subst c1
        have he' : 32 = QE := by rw [← HE.out]; simp
        subst he'
        go_wp2_with fail
        refine hCl.mono ?_
        rintro e w3 ⟨rfl, m3⟩
        go_wp2_with fail
        go_ret
        exact ⟨rfl, kq, HAT.out, hAl, m3⟩
      · have he' : 33 = QE := by rw [← HE.out]; simp [c1]
        subst he'
        have e1 : ((c : Int) == 1) = false := by rw [beq_eq_false_iff_ne]; omega
        go_wp2_with fail
        refine hCl.mono ?_
        rintro e w3 ⟨rfl, m3⟩
        go_wp2_with fail
        go_ret
        exact ⟨rfl, kq, HAT.out, hAl, m3⟩
    · have e3 : ((E : Int) == 33) = false := by rw [beq_eq_false_iff_ne]; omega
      by_cases e00 : E = 0
      · subst e00
        by_cases h256 : 256 < S.length
        · have he' : 37 = QE := by rw [← HE.out]; simp [h256]
          have hj' : j = QJ := by rw [← HJ.out]; simp [h256]
          subst he' hj'
          have i1 : (256 : Int) < (S.length : Int) := by omega
          have d3' := m2.c3
          have d2' := m2.c2
          have z2' := m2.fz 2
          go_wp2_with fail
          go_ret
          exact ⟨rfl, now, hJ.out, Nat.le_of_lt hjl, m2.setNow hCC.out now rfl⟩
        · have he' : 0 = QE := by rw [← HE.out]; simp [h256]
          have hj' : A = QJ := by rw [← HJ.out]; simp [h256]
          subst he' hj'
          have i1 : ¬ (256 : Int) < (S.length : Int) := by omega
          go_wp2_with fail
          go_ret
          first | exact ⟨rfl, kq, HAT.out, hAl, m2⟩ | exact ⟨rfl, kq, HAT.out, m2⟩
      · have he' : E = QE := by rw [← HE.out]; simp [e33, e00]
        have hj' : A = QJ := by rw [← HJ.out]; simp [e00]
        subst he' hj'
        have e0 : ((E : Int) == 0) = false := by rw [beq_eq_false_iff_ne]; omega
        go_wp2_with fail
        go_ret
        first | exact ⟨rfl, kq, HAT.out, hAl, m2⟩ | exact ⟨rfl, kq, HAT.out, m2⟩
theorem kl_asc {l : List UInt8} {j : Nat} (h0 : kl l j ≠ 0) (h9 : kl l j ≠ 9) : j < l.length ∧ bt l j < 128 := by
  have h : 0 ≤ chr l j ∧ chr l j < 128 := by
    have hr := chr_range l j
    unfold kl cls at h0 h9
    repeat' split at h0
    all_goals first | omega | (simp_all; done) | (simp_all; omega)
  obtain ⟨x, hx⟩ : ∃ x : Nat, chr l j = (x : Int) := ⟨(chr l j).toNat, by omega⟩
  have := (chr_asc l j x (by omega)).1 hx
  omega
theorem inW_asc {l : List UInt8} {j : Nat} (h : inW l j = true) : j < l.length ∧ bt l j < 128 := by
  have : kl l j = 3 ∨ kl l j = 4 := by unfold inW at h; simpa using h
  exact kl_asc (by omega) (by omega)
theorem dotA_asc {l : List UInt8} {j c : Nat} (h : dotA l j c = true) : j < l.length ∧ bt l j < 128 := by
  have : kl l j = 5 ∧ kl l (j + 1) = c := by unfold dotA at h; simpa using h
  exact kl_asc (by omega) (by omega)
def wrun (l : List UInt8) (j : Nat) : Nat := if h : inW l j = true then wrun l (j + 1) else j
termination_by l.length - j
decreasing_by
  have := (inW_asc h).1
  omega
theorem wrun_yes {l : List UInt8} {j : Nat} (h : inW l j = true) : wrun l j = wrun l (j + 1) := by rw [wrun, dif_pos h]
theorem wrun_no {l : List UInt8} {j : Nat} (h : inW l j = false) : wrun l j = j := by rw [wrun, dif_neg (by simp [h])]
def nrun (l : List UInt8) (j : Nat) : Nat := if h : (inW l j || dotA l j 4) = true then nrun l (j + 1) else j
termination_by l.length - j
decreasing_by
  have : j < l.length := by
    rcases Bool.or_eq_true_iff.1 h with h | h
    · exact (inW_asc h).1
    · exact (dotA_asc h).1
  omega
theorem nrun_yes {l : List UInt8} {j : Nat} (h : (inW l j || dotA l j 4) = true) : nrun l j = nrun l (j + 1) := by rw [nrun, dif_pos h]
theorem nrun_no {l : List UInt8} {j : Nat} (h : (inW l j || dotA l j 4) = false) : nrun l j = j := by rw [nrun, dif_neg (by simp [h])]
def endF (lab : Nat) (l : List UInt8) (j : Nat) : Nat × Nat :=
  if lab = 0 then (if dotA l (wrun l (j + 1)) 3 = true then (3, wrun l (wrun l (j + 1) + 1)) else (2, wrun l (j + 1)))
  else if lab = 4 then (3, wrun l (j + 1)) else if lab = 1 then (4, nrun l (j + 1)) else if lab = 2 then (5, wrun l (j + 1)) else (6, quoJ l j)
def tokC (l : List UInt8) (j : Nat) : Nat × Nat :=
  if kl l j = 3 then endF 0 l j else if kl l j = 4 then endF 1 l j else if kl l j = 6 then endF 2 l j else if kl l j = 7 then endF 3 l j else (7, j + sgn (l.drop j))
def tokE (l : List UInt8) (j : Nat) : Nat := if kl l j = 7 ∧ quoE l j ≠ 0 then quoE l j else faultE (tokC l j).1 (subL l j (tokC l j).2)
def tokJ (l : List UInt8) (j : Nat) : Nat := if kl l j = 7 ∧ quoE l j ≠ 0 then quoJ l j else if faultE (tokC l j).1 (subL l j (tokC l j).2) = 0 then (tokC l j).2 else j
def tokR (X : MX) (now line head j : Nat) (D : List Tok) (e : Ending) (w' : World) : Prop :=
  e = .returned (.int .i64 (tokE X.l j : Int)) ∧ ∃ now' v', AT X.l now' (tokJ X.l j) ∧ MS X w' now' now line head v' (if tokE X.l j = 0 then D ++ [((tokC X.l j).1, subL X.l j (tokC X.l j).2, line, now - head + 1)] else D)
theorem sgn_pre (r : List UInt8) : sgn r ≤ r.length ∧ (∀ k, k < sgn r → ∃ c, r[k]? = some c ∧ c.toNat < 128) := by
  unfold sgn
  cases hf : signsL.find? (fun s => Lib.hasPrefix r s) with
  | none => simp
  | some z =>
    have hz := List.find?_some hf
    have hm := List.mem_of_find?_eq_some hf
    unfold Lib.hasPrefix at hz
    rw [List.isPrefixOf_iff_prefix] at hz
    obtain ⟨t, ht⟩ := hz
    have hall : ∀ s ∈ signsL, ∀ c ∈ s, c.toNat < 128 := by decide
    simp only [Option.map_some, Option.getD_some]
    refine ⟨by rw [← ht]; simp, fun k hk => ?_⟩
    refine ⟨z[k], by rw [← ht, List.getElem?_append_left hk, List.getElem?_eq_getElem hk], hall z hm _ (List.getElem_mem hk)⟩
theorem at_run {l : List UInt8} : ∀ (n now j : Nat), AT l now j → (∀ k, k < n → j + k < l.length ∧ bt l (j + k) < 128) → AT l (now + n) (j + n)
  | 0, _, _, h, _ => h
  | n + 1, now, j, h, hk => by
    have h1 := h.asc (hk 0 (by omega)).1 (hk 0 (by omega)).2
    have := at_run n (now + 1) (j + 1) h1 (fun k hk' => by
      have := hk (k + 1) (by omega)
      rw [show j + 1 + k = j + (k + 1) by omega]
      exact this)
    rw [show now + (n + 1) = now + 1 + n by omega, show j + (n + 1) = j + 1 + n by omega]
    exact this
theorem at_sgn {l : List UInt8} {now j : Nat} (h : AT l now j) (hj : j ≤ l.length) : AT l (now + sgn (l.drop j)) (j + sgn (l.drop j)) ∧ j + sgn (l.drop j) ≤ l.length := by
  obtain ⟨h1, h2⟩ := sgn_pre (l.drop j)
  rw [List.length_drop] at h1
  refine ⟨at_run _ _ _ h (fun k hk => ?_), by omega⟩
  obtain ⟨c, hc, hlt⟩ := h2 k hk
  rw [List.getElem?_drop] at hc
  exact ⟨by omega, by rw [bt_of hc]; exact hlt⟩
def mNow (X : MX) (W : World) : Nat := (chars X.l 0).length - (intOf ((W.cell? ⟨X.b, 2, none⟩).getD undef)).toNat
theorem mNow_of {X : MX} {W : World} {now fst line head : Nat} {v : Value} {D : List Tok} (h : MS X W now fst line head v D) : mNow X W = (chars X.l 0).length - now := by
  unfold mNow
  rw [h.c2]
  simp [intOf]
end Go.Proofs.YtnboehlbcjfndaaGreatDoor

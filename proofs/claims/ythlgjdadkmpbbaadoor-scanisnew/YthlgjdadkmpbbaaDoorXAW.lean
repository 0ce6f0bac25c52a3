import Derived.Test.YthlgjdadkmpbbaaDoorXAQ
import Derived.Test.YthlgjdadkmpbbaaDoorXAV
import Derived.Test.YthlgjdadkmpbbaaDoorXAN
namespace Go.Proofs.YthlgjdadkmpbbaaDoor
open Go.RowKit Go.Shelf
theorem foldN_mem {b : Nat} {D : UInt8 → Option Nat} {c : UInt8} (hc : D c = none) (l : List UInt8) (h : c ∈ l) (m : Nat) : foldN b D l m = none := by
  induction l generalizing m with
  | nil => cases h
  | cons a l ih =>
    unfold foldN
    cases hd : D a with
    | none => rfl
    | some d =>
      rcases List.mem_cons.1 h with e | e
      · subst e; rw [hc] at hd; cases hd
      · exact ih e _
theorem decN_mem {l : List UInt8} {c : UInt8} (hc : isDig c = false) (h : c ∈ l) (t : Nat) : decN l t = none := by
  unfold decN
  rw [if_neg]
  rintro ⟨_, ha, _⟩
  rw [List.all_eq_true] at ha
  rw [ha c h] at hc
  cases hc
/-- a text behind a prefix of two bytes, of which the second is no digit -/
theorem num_pre {b : Nat} {D : UInt8 → Option Nat} {M : Nat} {l : List UInt8} {x : UInt8} (hx : isDig x = false) (hx2 : x ≠ 46) (hD : D 46 = none) (ht : l.take 2 = [48, x])
    (hn : ¬ 0 ≤ Lib.indexByte l 46 → numN l = if 3 ≤ l.length ∧ l.length ≤ M + 2 then foldN b D (l.drop 2) 0 else decN l 4294967295) : numN l = digN b D M (l.drop 2) := by
  obtain ⟨r, rfl⟩ : ∃ r, l = 48 :: x :: r := by
    match l, ht with
    | [], h => simp at h
    | [_], h => simp at h
    | a :: c :: r, h =>
      simp at h
      exact ⟨r, by rw [h.1, h.2]⟩
  have hd : (48 :: x :: r).drop 2 = r := rfl
  rw [hd] at hn ⊢
  have hxm : x ∈ (48 :: x :: r) := by simp
  by_cases hdot : 0 ≤ Lib.indexByte (48 :: x :: r) 46
  · obtain ⟨i, hi⟩ : ∃ i : Nat, Lib.indexByte (48 :: x :: r) 46 = i := ⟨_, (Int.toNat_of_nonneg hdot).symm⟩
    obtain ⟨h1, h2⟩ := Lib.indexByte_some hi
    have hi2 : 2 ≤ i := by
      match i, h1 with
      | 0, h => simp at h
      | 1, h => simp at h; exact absurd h hx2
      | i + 2, _ => omega
    have hmem : (46 : UInt8) ∈ r := by
      obtain ⟨j, rfl⟩ : ∃ j, i = j + 2 := ⟨i - 2, by omega⟩
      simp only [List.getElem?_cons_succ] at h1
      exact List.mem_of_getElem? h1
    have hL : numN (48 :: x :: r) = none := by
      unfold numN
      rw [if_pos hdot, quadK, hi, if_neg (by omega), show ((i : Int)).toNat = i from Int.toNat_natCast i, decN_mem hx]
      obtain ⟨j, rfl⟩ : ∃ j, i = j + 2 := ⟨i - 2, by omega⟩
      simp
    rw [hL]
    unfold digN
    split
    · rfl
    · exact (foldN_mem hD r hmem 0).symm
  · rw [hn hdot]
    unfold digN
    by_cases hr : r = []
    · rw [if_neg (show ¬ (3 ≤ (48 :: x :: r).length ∧ (48 :: x :: r).length ≤ M + 2) by subst hr; simp), if_pos (.inl hr), decN_mem hx hxm]
    · have hl : 0 < r.length := List.length_pos_iff.2 hr
      by_cases hm : M < r.length
      · rw [if_neg (show ¬ (3 ≤ (48 :: x :: r).length ∧ (48 :: x :: r).length ≤ M + 2) by simp; omega), if_pos (.inr hm), decN_mem hx hxm]
      · rw [if_pos (show 3 ≤ (48 :: x :: r).length ∧ (48 :: x :: r).length ≤ M + 2 by simp; omega), if_neg (fun h => h.elim hr hm)]
theorem num_hex {l : List UInt8} (ht : l.take 2 = [48, 120]) : numN l = digN 16 hexD 8 (l.drop 2) := by
  refine num_pre (by decide) (by decide) (by decide) ht (fun hd => ?_)
  unfold numN
  rw [if_neg hd]
  by_cases h : 3 ≤ l.length ∧ l.length ≤ 8 + 2
  · rw [if_pos h, if_pos ⟨h, ht⟩]
  · rw [if_neg h, if_neg (fun e => h e.1), if_neg (fun e => by rw [ht] at e; exact absurd e.2 (by decide))]
theorem num_bin {l : List UInt8} (ht : l.take 2 = [48, 98]) : numN l = digN 2 binD 32 (l.drop 2) := by
  refine num_pre (by decide) (by decide) (by decide) ht (fun hd => ?_)
  unfold numN
  rw [if_neg hd, if_neg (fun e => by rw [ht] at e; exact absurd e.2 (by decide))]
  by_cases h : 3 ≤ l.length ∧ l.length ≤ 32 + 2
  · rw [if_pos h, if_pos ⟨h, ht⟩]
  · rw [if_neg h, if_neg (fun e => h e.1)]
theorem num_dec {l : List UInt8} (hd : ¬ 0 ≤ Lib.indexByte l 46) (h1 : l.take 2 ≠ [48, 120]) (h2 : l.take 2 ≠ [48, 98]) : numN l = decN l 4294967295 := by
  unfold numN
  rw [if_neg hd, if_neg (fun e => h1 e.2), if_neg (fun e => h2 e.2)]
theorem pre2 (a b : UInt8) (l : List UInt8) : Lib.hasPrefix l [a, b] = decide (l.take 2 = [a, b]) := by
  unfold Lib.hasPrefix
  match l with
  | [] => simp
  | [c] => simp [List.isPrefixOf]
  | c :: d :: r =>
    simp only [List.isPrefixOf, List.take_succ_cons, List.take_zero, Bool.and_true]
    by_cases h1 : a = c
    · by_cases h2 : b = d
      · subst h1 h2; simp
      · simp [h1, h2, Ne.symm h2]
    · simp [h1, Ne.symm h1]
theorem cut_any (a b : UInt8) (l : List UInt8) (w : World) : Calls Tryd.prog 48 #[.string ⟨l.toArray⟩, .string ⟨#[a, b]⟩] w fun e w' => e = .returned (.tuple #[.string ⟨(if l.take 2 = [a, b] then l.drop 2 else l).toArray⟩, .bool (decide (l.take 2 = [a, b]))]) ∧ w' = w := by
  have h := Any.strings_CutPrefix Tryd.l103 ⟨l.toArray⟩ ⟨#[a, b]⟩ w
  refine h.mono fun e w' ⟨he, hw⟩ => ⟨?_, hw⟩
  rw [he]
  show Ending.returned (.tuple #[.string ⟨(Lib.trimPrefix l [a, b]).toArray⟩, .bool (Lib.hasPrefix l [a, b])]) = _
  unfold Lib.trimPrefix
  rw [pre2]
  by_cases ht : l.take 2 = [a, b]
  · rw [if_pos (decide_eq_true ht), if_pos ht]; rfl
  · rw [if_neg (by simpa using ht), if_neg ht]
end Go.Proofs.YthlgjdadkmpbbaaDoor
namespace Go.Proofs.YthlgjdadkmpbbaaDoor
open Go.RowKit Go.Shelf
theorem contains_dot (l : List UInt8) (w : World) : Calls Tryd.prog 50 #[.string ⟨l.toArray⟩, .string ⟨#[46]⟩] w fun e w' => e = .returned (.bool (decide (0 ≤ Lib.indexByte l 46))) ∧ w' = w := Any.strings_Contains_one Tryd.l144 ⟨l.toArray⟩ 46 w
set_option maxRecDepth 100000 in
theorem valueOf_any (l : List UInt8) (w : World) (hs : l.length ≤ 16384) (hv0 : VW w) :
    Calls Tryd.prog 34 #[.string ⟨l.toArray⟩] w fun e w' => (∃ v : Int, e = .returned (.tuple #[.int .i64 v, .bool (numN l).isSome]) ∧ ∀ n, numN l = some n → v = n) ∧ Below w.heap.size w w' := by
  have hv : Hid (VW w) := hv0
  clear hv0
  have HC1 := cut_any 48 120 l w
  have HC2 := cut_any 48 98 l w
  by_cases h1 : l.take 2 = [48, 120]
  · rw [if_pos h1, decide_eq_true h1] at HC1
    have HD := digitsOf16_any (l.drop 2) w (by simp; omega) hv.out
    rw [← num_hex h1] at HD
    clear HC2 h1
    obtain ⟨N, hN⟩ : ∃ N, numN l = N := ⟨_, rfl⟩
    rw [hN] at HD ⊢
    go_enter Tryd.func34, Tryd.ntmps34
    go_wp2_with fail
    refine HC1.mono ?_
    rintro e w1 ⟨rfl, rfl⟩
    go_wp2_with fail
    refine HD.mono ?_
    rintro e w2 ⟨⟨v, rfl, hvn⟩, hb⟩
    have HVN : Hid (∀ n, N = some n → v = n) := hvn
    clear hvn
    go_wp2_with fail
    go_ret2
    exact ⟨⟨v, rfl, HVN.out⟩, hb⟩
  · rw [if_neg h1, decide_eq_false h1] at HC1
    by_cases h2 : l.take 2 = [48, 98]
    · rw [if_pos h2, decide_eq_true h2] at HC2
      have HD := digitsOf2_any (l.drop 2) w (by simp; omega) hv.out
      rw [← num_bin h2] at HD
      clear h1 h2
      obtain ⟨N, hN⟩ : ∃ N, numN l = N := ⟨_, rfl⟩
      rw [hN] at HD ⊢
      go_enter Tryd.func34, Tryd.ntmps34
      go_wp2_with fail
      refine HC1.mono ?_
      rintro e w1 ⟨rfl, rfl⟩
      go_wp2_with fail
      refine HC2.mono ?_
      rintro e w1 ⟨rfl, rfl⟩
      go_wp2_with fail
      refine HD.mono ?_
      rintro e w2 ⟨⟨v, rfl, hvn⟩, hb⟩
      have HVN : Hid (∀ n, N = some n → v = n) := hvn
      clear hvn
      go_wp2_with fail
      go_ret2
      exact ⟨⟨v, rfl, HVN.out⟩, hb⟩
    · rw [if_neg h2, decide_eq_false h2] at HC2
      have HK := contains_dot l w
      by_cases h3 : 0 ≤ Lib.indexByte l 46
      · rw [decide_eq_true h3] at HK
        have HD := quadOf_any l w hs hv.out
        have e0 : numN l = quadK 3 0 l := if_pos h3
        rw [← e0] at HD
        clear h1 h2 h3 e0
        obtain ⟨N, hN⟩ : ∃ N, numN l = N := ⟨_, rfl⟩
        rw [hN] at HD ⊢
        go_enter Tryd.func34, Tryd.ntmps34
        go_wp2_with fail
        refine HC1.mono ?_
        rintro e w1 ⟨rfl, rfl⟩
        go_wp2_with fail
        refine HC2.mono ?_
        rintro e w1 ⟨rfl, rfl⟩
        go_wp2_with fail
        refine HK.mono ?_
        rintro e w1 ⟨rfl, rfl⟩
        go_wp2_with fail
        refine HD.mono ?_
        rintro e w2 ⟨⟨v, rfl, hvn⟩, hb⟩
        have HVN : Hid (∀ n, N = some n → v = n) := hvn
        clear hvn
        go_wp2_with fail
        go_ret2
        exact ⟨⟨v, rfl, HVN.out⟩, hb⟩
      · rw [decide_eq_false h3] at HK
        have HD := decimalOf_any l 4294967295 w hs (by omega) hv.out
        rw [← num_dec h3 h1 h2] at HD
        clear h1 h2 h3
        obtain ⟨N, hN⟩ : ∃ N, numN l = N := ⟨_, rfl⟩
        rw [hN] at HD ⊢
        go_enter Tryd.func34, Tryd.ntmps34
        go_wp2_with fail
        refine HC1.mono ?_
        rintro e w1 ⟨rfl, rfl⟩
        go_wp2_with fail
        refine HC2.mono ?_
        rintro e w1 ⟨rfl, rfl⟩
        go_wp2_with fail
        refine HK.mono ?_
        rintro e w1 ⟨rfl, rfl⟩
        go_wp2_with fail
        refine HD.mono ?_
        rintro e w2 ⟨⟨v, rfl, hvn⟩, hb⟩
        have HVN : Hid (∀ n, N = some n → v = n) := hvn
        clear hvn
        go_wp2_with fail
        go_ret2
        exact ⟨⟨v, rfl, HVN.out⟩, hb⟩
set_option maxRecDepth 100000 in
theorem value_any (l : List UInt8) (w : World) (hm : l.length ≤ 281474976710656) (hv0 : VW w) :
    Calls Tryd.prog 28 #[.string ⟨l.toArray⟩] w fun e w' => e = .returned (.tuple #[.int .i64 (valV l), .int .i64 (valE l)]) ∧ Below w.heap.size w w' := by
  have hv : Hid (VW w) := hv0
  clear hv0
  by_cases hs : 16384 < l.length
  · have e1 : Hid (valV l = 0) := if_pos hs
    have e2 : Hid (valE l = 2) := if_pos hs
    have i1 : (16384 : Int) < (l.length : Int) := by omega
    go_enter Tryd.func28, Tryd.ntmps28
    go_wp2_with fail
    go_ret2
    exact ⟨by rw [e1.out, e2.out]; rfl, Below.refl _ _⟩
  · have i1 : ¬ (16384 : Int) < (l.length : Int) := by omega
    have HN := valueOf_any l w (by omega) hv.out
    cases hn : numN l with
    | none =>
      have e1 : Hid (valV l = 0) := by unfold Hid valV; rw [if_neg hs, hn]
      have e2 : Hid (valE l = 31) := by unfold Hid valE; rw [if_neg hs, hn]
      rw [hn] at HN
      simp only [Option.isSome_none] at HN
      clear hn
      go_enter Tryd.func28, Tryd.ntmps28
      go_wp2_with fail
      refine HN.mono ?_
      rintro e w1 ⟨⟨v, rfl, _⟩, hb1⟩
      go_wp2_with fail
      go_ret2
      exact ⟨by rw [e1.out, e2.out]; rfl, hb1⟩
    | some n =>
      have e1 : Hid (valV l = n) := by unfold Hid valV; rw [if_neg hs, hn]
      have e2 : Hid (valE l = 0) := by unfold Hid valE; rw [if_neg hs, hn]
      rw [hn] at HN
      simp only [Option.isSome_some] at HN
      clear hn
      go_enter Tryd.func28, Tryd.ntmps28
      go_wp2_with fail
      refine HN.mono ?_
      rintro e w1 ⟨⟨v, rfl, hvn⟩, hb1⟩
      obtain rfl := hvn n rfl
      clear hvn
      go_wp2_with fail
      go_ret2
      exact ⟨by rw [e1.out, e2.out]; rfl, hb1⟩
end Go.Proofs.YthlgjdadkmpbbaaDoor
namespace Go.Proofs.YthlgjdadkmpbbaaDoor
open Go.RowKit Go.Shelf
/-- the bytes from a up to b -/
def subL (l : List UInt8) (a b : Nat) : List UInt8 := (l.drop a).take (b - a)
theorem ext_sub (l : List UInt8) (a b : Nat) : (ByteArray.mk l.toArray).extract a b = ⟨(subL l a b).toArray⟩ := ByteArray.ext (by simp [subL, List.take_drop])
theorem subL_len (l : List UInt8) (a b : Nat) : (subL l a b).length ≤ l.length := by unfold subL; simp; omega
/-- a pattern's digit -/
def is01x (c : UInt8) : Bool := c == 48 || c == 49 || c == 120
/-- why what was cut out as a token of that kind is none -/
def faultE (kind : Nat) (t : List UInt8) : Nat :=
  if kind = 2 ∨ kind = 3 then (if (parts t).any (fun n => decide (24 < n.length)) then 36 else 0)
  else if kind = 4 then (valE t).toNat
  else if kind = 5 then (if t.drop 1 = [] ∨ 32 < (t.drop 1).length ∨ (t.drop 1).all is01x = false then 44 else 0)
  else if kind = 7 then (if t = [] then 30 else 0) else 0
/-- the contract of faultOf, in all later worlds -/
def FOK (w0 : World) : Prop := ∀ (kind : Nat) (t : List UInt8) (W : World), 2 ≤ kind → kind ≤ 7 → (kind = 5 → t ≠ []) → t.length ≤ 16384 → Below w0.heap.size w0 W →
  Calls Tryd.prog 25 #[.int .i64 (kind : Int), .string ⟨t.toArray⟩] W fun e w' => e = .returned (.int .i64 (faultE kind t : Int)) ∧ Below W.heap.size W w'
theorem faultE_lt (kind : Nat) (t : List UInt8) : faultE kind t < 1000 := by
  unfold faultE valE
  repeat' split
  all_goals omega
/-- the state behind a token that was cut out whole -/
def wholeR (X : MX) (now fst line head : Nat) (D : List Tok) (kind : Nat) (t : List UInt8) (e : Ending) (w' : World) : Prop :=
  e = .returned (.int .i64 (faultE kind t : Int)) ∧ ∃ v', MS X w' (if faultE kind t = 0 then now else fst) fst line head v' (if faultE kind t = 0 then D ++ [(kind, t, line, fst - head + 1)] else D)
set_option maxRecDepth 100000 in
set_option maxHeartbeats 2000000 in
theorem whole_any {X : MX} (hC : MC X) (hF : FOK X.w0) {W : World} {now fst line head : Nat} {v : Value} {D : List Tok} (h : MS X W now fst line head v D) {i j : Nat} (hi : AT X.l fst i) (hj : AT X.l now j) (hij : i ≤ j) (hjl : j ≤ X.l.length) (hh : head ≤ fst) (hD : D.length ≤ 65536) (kind : Nat) (k2 : 2 ≤ kind) (k7 : kind ≤ 7) (k5 : kind = 5 → i < j) :
    Calls Tryd.prog 20 #[.pointer (some ⟨X.b, 0, none⟩), .int .i64 (kind : Int)] W fun e w' => wholeR X now fst line head D kind (subL X.l i j) e w' := by
  have hM : Hid (MS X W now fst line head v D) := h
  have hc0 := h.c0
  have hc1 := h.c1
  have hc2 := h.c2
  have hc3 := h.c3
  have hxi := h.ca hC hi (by omega)
  have hxj := h.ca hC hj hjl
  have hli := hi.lt
  have hlj := hj.lt
  have hlen := hC.len
  have hle := hi.le
  have n0 : (0 : Int) ≤ (now : Int) := by omega
  have n1 : (now : Int) < ((chars X.l 0).length : Int) := by omega
  have n2 : (0 : Int) ≤ (fst : Int) := by omega
  have n3 : (fst : Int) < ((chars X.l 0).length : Int) := by omega
  have p0 : (0 : Int) ≤ (i : Int) := by omega
  have p1 : (i : Int) ≤ (j : Int) := by omega
  have p2 : (j : Int) ≤ (X.l.length : Int) := by omega
  have hT := ext_sub X.l i j
  obtain ⟨T, hTT⟩ : ∃ T, subL X.l i j = T := ⟨_, rfl⟩
  have hTl : T.length ≤ 16384 := by rw [← hTT]; have := subL_len X.l i j; omega
  have hT5 : kind = 5 → T ≠ [] := fun hk e => by
    have := k5 hk
    have h1 := congrArg List.length (hTT.trans e)
    unfold subL at h1
    simp at h1
    omega
  rw [hTT] at hT ⊢
  have HF : Hid (∀ W', Below X.w0.heap.size X.w0 W' → Calls Tryd.prog 25 #[.int .i64 (kind : Int), .string ⟨T.toArray⟩] W' fun e w' => e = .returned (.int .i64 (faultE kind T : Int)) ∧ Below W'.heap.size W' w') := fun W' hW => hF kind T W' k2 k7 hT5 hTl hW
  have HH : Hid (∀ W', MS X W' now fst line head v D → Calls Tryd.prog 24 #[.pointer (some ⟨X.b, 0, none⟩), .int .i64 (kind : Int), .string ⟨T.toArray⟩, .int .i64 (fst : Int)] W' fun e w' => e = .returned (.tuple #[]) ∧ ∃ v', MS X w' now fst line head v' (D ++ [(kind, T, line, fst - head + 1)])) := fun W' h' => hand_any hC h' kind T fst hh (by omega) hD
  have hfl := faultE_lt kind T
  obtain ⟨f, hf⟩ : ∃ f, faultE kind T = f := ⟨_, rfl⟩
  unfold wholeR
  rw [hf] at HF hfl ⊢
  have hCC : Hid (MC X) := hC
  clear h hi hj hF hTT hC hf hT5 k5
  by_cases f0 : f = 0
  · subst f0
    rw [if_pos rfl, if_pos rfl]
    go_enter Tryd.func20, Tryd.ntmps20
    go_wp2_with fail
    go_quiet (fail)
    go_wp2_with fail
    refine (HF.out _ (by exact (hM.out.drewN _).bel)).mono ?_
    rintro e w1 ⟨rfl, hb1⟩
    have m1 := (hM.out.drewN _).below hb1
    have m3 := m1.c3
    go_wp2_with fail
    refine (HH.out _ m1).mono ?_
    rintro e w2 ⟨rfl, v2, m2⟩
    go_wp2_with fail
    go_ret
    exact ⟨rfl, v2, m2⟩
  · have e0 : ((f : Int) == 0) = false := by rw [beq_eq_false_iff_ne]; omega
    have e1 : ((f : Int) != 0) = true := by rw [bne, e0]; rfl
    rw [if_neg f0, if_neg f0]
    go_enter Tryd.func20, Tryd.ntmps20
    go_wp2_with fail
    go_quiet (fail)
    go_wp2_with fail
    refine (HF.out _ (by exact (hM.out.drewN _).bel)).mono ?_
    rintro e w1 ⟨rfl, hb1⟩
    have m1 := (hM.out.drewN _).below hb1
    have m3 := m1.c3
    have m2 := m1.c2
    have f2 := m1.fz 2
    go_wp2_with fail
    go_ret
    exact ⟨rfl, v, m1.setNow hCC.out fst rfl⟩
end Go.Proofs.YthlgjdadkmpbbaaDoor

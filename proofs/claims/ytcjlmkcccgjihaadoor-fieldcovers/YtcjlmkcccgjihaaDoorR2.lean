import Derived.Test.YtcjlmkcccgjihaaDoorR1
import Derived.Deep.AppendLies
namespace Go.Proofs.YtcjlmkcccgjihaaDoor
open Go.RowKit Go.Shelf
theorem bit_split (b w base p : Nat) (hp : p < b - w) : bitB (b - w) (base / 2 ^ w) p = bitB b base p := by
  unfold bitB
  rw [Nat.div_div_eq_div_mul, ← Nat.pow_add, show w + (b - w - 1 - p) = b - 1 - p by omega]
theorem dig_split (b w base : Nat) : (List.range (b - w)).map (bitB (b - w) (base / 2 ^ w)) ++ List.replicate w 120 = digL b base w := by
  unfold digL
  refine congrArg (· ++ List.replicate w 120) ?_
  apply List.map_congr_left
  intro p hp
  exact bit_split b w base p (by simpa using hp)
/-- the texts by halves -/
def hvT (b w base lo hi : Nat) : List (List UInt8) := (hv w base lo hi).map fun p => digL b p.1 p.2
theorem stx_len (L : List (List UInt8)) : (stx L).length = L.length := by simp [stx]
theorem own_form {w : World} {B e sz n : Nat} {v : Value} {xs : List Value} (h : w.ownsRow B e sz v n xs) (hn : 0 < n) : ∃ g cap, v = .slice (some ⟨g, 0, none⟩) n cap := by
  rcases h.2 with hh | ⟨g, c, cur, h1, h2, h3, h4⟩
  · omega
  · exact ⟨g, c, h1⟩
theorem hv_len (lo hi : Nat) : ∀ w b, (hv w b lo hi).length ≤ 2 ^ w := by
  intro w
  induction w with
  | zero => intro b; rw [hv]; split <;> simp
  | succ w ih =>
    intro b
    have hp : 0 < 2 ^ w := Nat.pow_pos (by decide)
    rw [hv, Nat.pow_succ]
    split
    · simp; omega
    · split
      · simp
      · have h1 := ih b
        have h2 := ih (b + 2 ^ w)
        rw [List.length_append]
        omega
def hvR (w : World) (L : List (List UInt8)) (e : Ending) (w' : World) : Prop := ∃ v, e = .returned v ∧ w'.ownsRow w.heap.size 9 1 v L.length (stx L) ∧ Below w.heap.size w w'
set_option maxRecDepth 100000 in
set_option maxHeartbeats 1000000 in
theorem half_in (b lo hi k base P : Nat) (w : World) (hb : b ≤ 32) (hk : k ≤ b) (hP : 2 ^ k - 1 = P) (hbs : base + P < 4294967296) (h1 : lo ≤ base) (h2 : base + P ≤ hi) (hhi : hi < 4294967296) :
    Calls Tryd.prog 19 #[.int .i64 (b : Int), .int .i64 (base : Int), .int .i64 ((b - k : Nat) : Int), .int .i64 (lo : Int), .int .i64 (hi : Int)] w fun e w' => hvR w [digL b base k] e w' := by
  have HT := fun W => top_any k (by omega) W
  simp only [hP] at HT
  have hdiv := div_cast base k
  have hQ : base / 2 ^ k ≤ base := Nat.div_le_self _ _
  have HD := fun W => rdigits_any (base / 2 ^ k) (b - k) (by omega) (by omega) W
  have HX := fun W => xs_any k (by omega) W
  have hcat := cat_bytes ((List.range (b - k)).map (bitB (b - k) (base / 2 ^ k))) (List.replicate k 120)
  rw [dig_split] at hcat
  have hl1 : ((List.range (b - k)).map (bitB (b - k) (base / 2 ^ k))).length = b - k := by simp
  have hl2 : (List.replicate k (120 : UInt8)).length = k := by simp
  obtain ⟨Q, hQ2⟩ : ∃ Q, base / 2 ^ k = Q := ⟨_, rfl⟩
  rw [hQ2] at hdiv hcat hl1
  simp only [hQ2] at HD
  obtain ⟨X, hX⟩ : ∃ X : List UInt8, (List.range (b - k)).map (bitB (b - k) Q) = X := ⟨_, rfl⟩
  obtain ⟨Y, hY⟩ : ∃ Y : List UInt8, List.replicate k 120 = Y := ⟨_, rfl⟩
  rw [hX] at hcat hl1
  rw [hY] at hcat hl2
  simp only [hX] at HD
  simp only [hY] at HX
  obtain ⟨S, hS⟩ : ∃ S, digL b base k = S := ⟨_, rfl⟩
  rw [hS] at hcat ⊢
  obtain ⟨n, hn⟩ : ∃ n, b - k = n := ⟨_, rfl⟩
  simp only [hn] at HD hl1 ⊢
  have e1 : IntKind.i64.wrap ((b : Int) - (n : Int)) = (k : Int) := by rw [IntKind.wrap_i64]; omega
  have i1 : (lo : Int) ≤ (base : Int) := by omega
  have e2 : IntKind.i64.wrap ((base : Int) + (P : Int)) = (base : Int) + (P : Int) := by rw [IntKind.wrap_i64]; omega
  have i2 : (base : Int) + (P : Int) ≤ (hi : Int) := by omega
  have hCat : Hid ((ByteArray.mk X.toArray) ++ (ByteArray.mk Y.toArray) = ⟨S.toArray⟩) := hcat
  have k32 : k ≤ 32 := by omega
  clear hP hQ hQ2 hX hY hS hcat
  go_enter Tryd.func19, Tryd.ntmps19
  go_wp2_with fail
  refine (HT _).mono ?_
  rintro e w1 ⟨rfl, rfl⟩
  go_wp2_with fail
  refine (HD _).mono ?_
  rintro e w2 ⟨rfl, hb2⟩
  go_wp2_with fail
  refine (HX _).mono ?_
  rintro e w3 ⟨rfl, hb3⟩
  go_wp2_with fail
  go_ret
  have hB := bel0 hb2 hb3
  refine ⟨.slice (some ⟨w3.heap.size, 0, none⟩) 1 1, rfl, ?_, hB.alloc hB.size _⟩
  have := World.ownsRow_lit (base := w1.heap.size) (e := 9) (size := 1) w3 #[.string ⟨S.toArray⟩] 1 hB.size (by unfold maxLen; omega) rfl
  rw [hCat.out]
  exact this
set_option maxRecDepth 100000 in
set_option maxHeartbeats 1000000 in
theorem half_out (b lo hi k base P : Nat) (w : World) (hb : b ≤ 32) (hk : k ≤ b) (hP : 2 ^ k - 1 = P) (hbs : base + P < 4294967296) (h2 : hi < base ∨ base + P < lo) :
    Calls Tryd.prog 19 #[.int .i64 (b : Int), .int .i64 (base : Int), .int .i64 ((b - k : Nat) : Int), .int .i64 (lo : Int), .int .i64 (hi : Int)] w fun e w' => hvR w [] e w' := by
  have HT := fun W => top_any k (by omega) W
  simp only [hP] at HT
  obtain ⟨n, hn⟩ : ∃ n, b - k = n := ⟨_, rfl⟩
  simp only [hn]
  have e1 : IntKind.i64.wrap ((b : Int) - (n : Int)) = (k : Int) := by rw [IntKind.wrap_i64]; omega
  have e2 : IntKind.i64.wrap ((base : Int) + (P : Int)) = (base : Int) + (P : Int) := by rw [IntKind.wrap_i64]; omega
  clear hP
  by_cases i1 : lo ≤ base
  · have j1 : (lo : Int) ≤ (base : Int) := by omega
    have j3 : (hi : Int) < (base : Int) := by omega
    have j2 : ¬ (base : Int) + (P : Int) ≤ (hi : Int) := by omega
    go_enter Tryd.func19, Tryd.ntmps19
    go_wp2_with fail
    refine (HT _).mono ?_
    rintro e w1 ⟨rfl, rfl⟩
    go_wp2_with fail
    go_ret
    exact ⟨_, rfl, World.ownsRow_nil _ _ _ _, Below.refl _ _⟩
  · have j1 : ¬ (lo : Int) ≤ (base : Int) := by omega
    by_cases i3 : hi < base
    · have j3 : (hi : Int) < (base : Int) := by omega
      go_enter Tryd.func19, Tryd.ntmps19
      go_wp2_with fail
      refine (HT _).mono ?_
      rintro e w1 ⟨rfl, rfl⟩
      go_wp2_with fail
      go_ret
      exact ⟨_, rfl, World.ownsRow_nil _ _ _ _, Below.refl _ _⟩
    · have j3 : ¬ (hi : Int) < (base : Int) := by omega
      have j4 : (base : Int) + (P : Int) < (lo : Int) := by omega
      go_enter Tryd.func19, Tryd.ntmps19
      go_wp2_with fail
      refine (HT _).mono ?_
      rintro e w1 ⟨rfl, rfl⟩
      go_wp2_with fail
      go_ret
      exact ⟨_, rfl, World.ownsRow_nil _ _ _ _, Below.refl _ _⟩
theorem hvT_leaf {b w base lo hi : Nat} (h : lo ≤ base ∧ base + 2 ^ w - 1 ≤ hi) : hvT b w base lo hi = [digL b base w] := by
  unfold hvT
  cases w with
  | zero => rw [hv, if_pos h]; rfl
  | succ w => rw [hv, if_pos h]; rfl
theorem hvT_out {b w base lo hi : Nat} (h1 : ¬ (lo ≤ base ∧ base + 2 ^ w - 1 ≤ hi)) (h : hi < base ∨ base + 2 ^ w - 1 < lo) : hvT b w base lo hi = [] := by
  unfold hvT
  cases w with
  | zero => rw [hv, if_neg h1]; rfl
  | succ w => rw [hv, if_neg h1, if_pos h]; rfl
theorem hvT_two {b w base lo hi : Nat} (h1 : ¬ (lo ≤ base ∧ base + 2 ^ (w + 1) - 1 ≤ hi)) (h : ¬ (hi < base ∨ base + 2 ^ (w + 1) - 1 < lo)) : hvT b (w + 1) base lo hi = hvT b w base lo hi ++ hvT b w (base + 2 ^ w) lo hi := by
  unfold hvT
  rw [hv, if_neg h1, if_neg h, List.map_append]
theorem hvT_len (b w base lo hi : Nat) : (hvT b w base lo hi).length ≤ 2 ^ w := by unfold hvT; rw [List.length_map]; exact hv_len lo hi w base
theorem stx_get (L : List (List UInt8)) (i : Nat) (h : i < L.length) : (stx L)[i]? = some (Value.string ⟨(L[i]).toArray⟩) := by simp [stx, List.getElem?_eq_getElem h]
theorem add0 (g m : Nat) : (⟨g, 0, none⟩ : Addr).add m = ⟨g, m, none⟩ := by unfold Addr.add; split <;> simp_all
set_option maxRecDepth 100000 in
set_option maxHeartbeats 1000000 in
/-- two halves: the second's texts are appended to the first's -/
theorem half_two (b lo hi k base n P G : Nat) (w : World) (L R : List (List UInt8)) (hb : b ≤ 32) (hk : b - n = k + 1) (hnb : n < b) (hP : 2 ^ (k + 1) - 1 = P) (hG : 2 ^ k = G) (hbs : base + P < 4294967296) (hGP : G ≤ P) (h1 : ¬ (lo ≤ base ∧ base + P ≤ hi)) (h2 : ¬ (hi < base ∨ base + P < lo)) (hLl : L.length ≤ 4294967296) (hRl : R.length ≤ 4294967296)
    (IH1 : ∀ W, Calls Tryd.prog 19 #[.int .i64 (b : Int), .int .i64 (base : Int), .int .i64 ((n + 1 : Nat) : Int), .int .i64 (lo : Int), .int .i64 (hi : Int)] W fun e w' => hvR W L e w')
    (IH2 : ∀ W, Calls Tryd.prog 19 #[.int .i64 (b : Int), .int .i64 ((base + G : Nat) : Int), .int .i64 ((n + 1 : Nat) : Int), .int .i64 (lo : Int), .int .i64 (hi : Int)] W fun e w' => hvR W R e w') :
    Calls Tryd.prog 19 #[.int .i64 (b : Int), .int .i64 (base : Int), .int .i64 (n : Int), .int .i64 (lo : Int), .int .i64 (hi : Int)] w fun e w' => hvR w (L ++ R) e w' := by
  obtain ⟨i0, hi0, hz0, hz1, hz2⟩ := info_parts info_str
  have HT := fun W => top_any (k + 1) (by omega) W
  simp only [hP] at HT
  have e1 : IntKind.i64.wrap ((b : Int) - (n : Int)) = ((k + 1 : Nat) : Int) := by rw [IntKind.wrap_i64]; omega
  have e2 : IntKind.i64.wrap ((base : Int) + (P : Int)) = (base : Int) + (P : Int) := by rw [IntKind.wrap_i64]; omega
  have e3 : IntKind.i64.wrap ((n : Int) + 1) = ((n + 1 : Nat) : Int) := by rw [IntKind.wrap_i64]; omega
  have e4 : IntKind.i64.wrap (((k + 1 : Nat) : Int) - 1) = (k : Int) := by rw [IntKind.wrap_i64]; omega
  have k32 : k ≤ 32 := by omega
  have e8 : wrap64 ((base : Int) + wrap64 (2 ^ k)) = ((base + G : Nat) : Int) := add_pow base k G hG (by omega)
  have j1 : (lo : Int) ≤ (base : Int) → ¬ (base : Int) + (P : Int) ≤ (hi : Int) := by omega
  have j3 : ¬ (hi : Int) < (base : Int) := by omega
  have j4 : ¬ (base : Int) + (P : Int) < (lo : Int) := by omega
  have I1 : Hid (∀ W, Calls Tryd.prog 19 #[.int .i64 (b : Int), .int .i64 (base : Int), .int .i64 ((n + 1 : Nat) : Int), .int .i64 (lo : Int), .int .i64 (hi : Int)] W fun e w' => hvR W L e w') := IH1
  have I2 : Hid (∀ W, Calls Tryd.prog 19 #[.int .i64 (b : Int), .int .i64 ((base + G : Nat) : Int), .int .i64 ((n + 1 : Nat) : Int), .int .i64 (lo : Int), .int .i64 (hi : Int)] W fun e w' => hvR W R e w') := IH2
  have E8 : Hid (wrap64 ((base : Int) + wrap64 (2 ^ k)) = ((base + G : Nat) : Int)) := e8
  clear hP hG IH1 IH2 e8 h1 h2
  go_enter Tryd.func19, Tryd.ntmps19
  go_wp2_with fail
  refine (HT _).mono ?_
  rintro e w1 ⟨rfl, rfl⟩
  by_cases i1 : (lo : Int) ≤ (base : Int)
  · have j2 := j1 i1
    go_wp2_with fail
    refine (I1.out _).mono ?_
    rintro e w2 ⟨vl, rfl, hol, hb2⟩
    obtain ⟨ql, cl, rfl⟩ := shapeP hol
    go_wp2_with fail
    rw [E8.out]
    refine (I2.out _).mono ?_
    rintro e w3 ⟨vr, rfl, hor, hb3⟩
    obtain ⟨qr, cr, rfl⟩ := shapeP hor
    have hol3 := owns_below hol hb3
    have hB3 := bel0 hb2 hb3
    have hne0 : ∀ kk, (Value.slice qr R.length cr).ownBlock = some kk → (Value.slice ql L.length cl).ownBlock ≠ some kk := fun kk x1 x2 => by
      have y1 := (hor.lt kk x1).1
      have y2 := (hol.lt kk x2).2
      omega
    have hst : w3.ownsRow w1.heap.size 9 1 (.slice ql L.length cl) (L.length + 0) (stx (L ++ R.take 0)) := by
      rw [List.take_zero, List.append_nil]
      exact hol3
    clear hol hol3 hb2 hb3 I1 I2 HT E8
    go_wp2_with fail
    go_loopw [12, 14] (fun vl vi wr => ∃ i : Nat, vi = .int .i64 i ∧ i ≤ R.length ∧ wr.ownsRow w1.heap.size 9 1 vl (L.length + i) (stx (L ++ R.take i)) ∧ (∀ kk, (Value.slice qr R.length cr).ownBlock = some kk → vl.ownBlock ≠ some kk) ∧ wr.ownsRow w2.heap.size 9 1 (.slice qr R.length cr) R.length (stx R) ∧ Below w1.heap.size w1 wr) (fun _ vi _ => R.length - (intOf vi).toNat)
    case atStart => exact ⟨0, rfl, Nat.zero_le _, hst, hne0, hor, hB3⟩
    case round =>
      clear hst hne0 hor hB3
      obtain ⟨i, rfl, hi, hol, hne, hor, hB⟩ := hrel
      have hsz := hB.size
      by_cases hlt : i < R.length
      · have q1 : (i : Int) < (R.length : Int) := by omega
        have q0 : (0 : Int) ≤ (i : Int) := by omega
        obtain ⟨gr, cr2, hrf⟩ := own_form hor (by omega)
        injection hrf with x1 x2 x3
        subst x1 x3
        have hx := hor.cells rfl i _ (stx_get R i hlt)
        rw [add0] at hx
        have hgr := (hor.lt gr rfl).2
        have hng := hne gr rfl
        have htk : stx (L ++ R.take (i + 1)) = stx (L ++ R.take i) ++ [Value.string ⟨(R[i]).toArray⟩] := by
          rw [List.take_add_one, List.getElem?_eq_getElem hlt, ← List.append_assoc]
          exact stx_snoc _ _
        obtain ⟨t, ht⟩ : ∃ t, R[i] = t := ⟨_, rfl⟩
        rw [ht] at hx htk
        have HTK : Hid (stx (L ++ R.take (i + 1)) = stx (L ++ R.take i) ++ [Value.string ⟨t.toArray⟩]) := htk
        obtain ⟨qv, cv, rfl⟩ := shapeP hol
        clear hne ht htk
        go_wp2_with (at_builtin; refine wpList_append_lies _ rfl _ _ 23 rfl w1.heap.size 9 i0 _ 1 16 Tryd.underlying23 hi0 hz0 hz1 hz2 rfl (by decide) _ _ _ rfl (hol.alloc _) ⟨wr.heap.size, 0, none⟩ 1 1 [Value.string ⟨t.toArray⟩] rfl rfl (World.news_of_block (cs := #[.string ⟨t.toArray⟩]) (t := 9) (fr := (0, 0)) (alloc_get _ _)) (by simp [Value.oneCell']) (by decide) (by unfold maxLen; omega) (by omega) (by simp; omega) _ rfl ?_; intro g5 c5 w5 oB hg5 hat _)
        have b5 : Below w1.heap.size w1 w5 := (hB.alloc hsz _).grown hg5 (by simp; omega) (fun k e => (hol.lt k e).1)
        have o5 : w5.ownsRow w1.heap.size 9 1 (.slice (some ⟨g5, 0, none⟩) (L.length + i + 1) c5) (L.length + (i + 1)) (stx (L ++ R.take (i + 1))) := by rw [HTK.out]; exact oB
        have r5 := (hor.alloc (Obj.cells #[Value.string ⟨t.toArray⟩] 9)).kept hg5 (.inr (fun e => hng e.symm))
        have n5 : ∀ kk, (Value.slice (some ⟨gr, 0, none⟩) R.length cr).ownBlock = some kk → (Value.slice (some ⟨g5, 0, none⟩) (L.length + i + 1) c5).ownBlock ≠ some kk := fun kk z1 z2 => by
          have z3 : gr = kk := Option.some.inj z1
          have z4 : g5 = kk := Option.some.inj z2
          subst z3
          subst z4
          rcases hat with z | z
          · exact hng z
          · simp at z; omega
        clear oB hg5 hol hB hor hat
        go_roundw
        case rel => exact ⟨i + 1, by go_num, by omega, o5, n5, r5, b5⟩
        case measure => simp [intOf]; omega
      · have q1 : ¬ (i : Int) < (R.length : Int) := by omega
        obtain rfl : i = R.length := by omega
        rw [List.take_of_length_le (Nat.le_refl _)] at hol
        go_wp2_with fail
        go_ret
        refine ⟨_, rfl, ?_, hB⟩
        rw [List.length_append]
        exact hol
  · clear j1
    go_wp2_with fail
    refine (I1.out _).mono ?_
    rintro e w2 ⟨vl, rfl, hol, hb2⟩
    obtain ⟨ql, cl, rfl⟩ := shapeP hol
    go_wp2_with fail
    rw [E8.out]
    refine (I2.out _).mono ?_
    rintro e w3 ⟨vr, rfl, hor, hb3⟩
    obtain ⟨qr, cr, rfl⟩ := shapeP hor
    have hol3 := owns_below hol hb3
    have hB3 := bel0 hb2 hb3
    have hne0 : ∀ kk, (Value.slice qr R.length cr).ownBlock = some kk → (Value.slice ql L.length cl).ownBlock ≠ some kk := fun kk x1 x2 => by
      have y1 := (hor.lt kk x1).1
      have y2 := (hol.lt kk x2).2
      omega
    have hst : w3.ownsRow w1.heap.size 9 1 (.slice ql L.length cl) (L.length + 0) (stx (L ++ R.take 0)) := by
      rw [List.take_zero, List.append_nil]
      exact hol3
    clear hol hol3 hb2 hb3 I1 I2 HT E8
    go_wp2_with fail
    go_loopw [12, 14] (fun vl vi wr => ∃ i : Nat, vi = .int .i64 i ∧ i ≤ R.length ∧ wr.ownsRow w1.heap.size 9 1 vl (L.length + i) (stx (L ++ R.take i)) ∧ (∀ kk, (Value.slice qr R.length cr).ownBlock = some kk → vl.ownBlock ≠ some kk) ∧ wr.ownsRow w2.heap.size 9 1 (.slice qr R.length cr) R.length (stx R) ∧ Below w1.heap.size w1 wr) (fun _ vi _ => R.length - (intOf vi).toNat)
    case atStart => exact ⟨0, rfl, Nat.zero_le _, hst, hne0, hor, hB3⟩
    case round =>
      clear hst hne0 hor hB3
      obtain ⟨i, rfl, hi, hol, hne, hor, hB⟩ := hrel
      have hsz := hB.size
      by_cases hlt : i < R.length
      · have q1 : (i : Int) < (R.length : Int) := by omega
        have q0 : (0 : Int) ≤ (i : Int) := by omega
        obtain ⟨gr, cr2, hrf⟩ := own_form hor (by omega)
        injection hrf with x1 x2 x3
        subst x1 x3
        have hx := hor.cells rfl i _ (stx_get R i hlt)
        rw [add0] at hx
        have hgr := (hor.lt gr rfl).2
        have hng := hne gr rfl
        have htk : stx (L ++ R.take (i + 1)) = stx (L ++ R.take i) ++ [Value.string ⟨(R[i]).toArray⟩] := by
          rw [List.take_add_one, List.getElem?_eq_getElem hlt, ← List.append_assoc]
          exact stx_snoc _ _
        obtain ⟨t, ht⟩ : ∃ t, R[i] = t := ⟨_, rfl⟩
        rw [ht] at hx htk
        have HTK : Hid (stx (L ++ R.take (i + 1)) = stx (L ++ R.take i) ++ [Value.string ⟨t.toArray⟩]) := htk
        obtain ⟨qv, cv, rfl⟩ := shapeP hol
        clear hne ht htk
        go_wp2_with (at_builtin; refine wpList_append_lies _ rfl _ _ 23 rfl w1.heap.size 9 i0 _ 1 16 Tryd.underlying23 hi0 hz0 hz1 hz2 rfl (by decide) _ _ _ rfl (hol.alloc _) ⟨wr.heap.size, 0, none⟩ 1 1 [Value.string ⟨t.toArray⟩] rfl rfl (World.news_of_block (cs := #[.string ⟨t.toArray⟩]) (t := 9) (fr := (0, 0)) (alloc_get _ _)) (by simp [Value.oneCell']) (by decide) (by unfold maxLen; omega) (by omega) (by simp; omega) _ rfl ?_; intro g5 c5 w5 oB hg5 hat _)
        have b5 : Below w1.heap.size w1 w5 := (hB.alloc hsz _).grown hg5 (by simp; omega) (fun k e => (hol.lt k e).1)
        have o5 : w5.ownsRow w1.heap.size 9 1 (.slice (some ⟨g5, 0, none⟩) (L.length + i + 1) c5) (L.length + (i + 1)) (stx (L ++ R.take (i + 1))) := by rw [HTK.out]; exact oB
        have r5 := (hor.alloc (Obj.cells #[Value.string ⟨t.toArray⟩] 9)).kept hg5 (.inr (fun e => hng e.symm))
        have n5 : ∀ kk, (Value.slice (some ⟨gr, 0, none⟩) R.length cr).ownBlock = some kk → (Value.slice (some ⟨g5, 0, none⟩) (L.length + i + 1) c5).ownBlock ≠ some kk := fun kk z1 z2 => by
          have z3 : gr = kk := Option.some.inj z1
          have z4 : g5 = kk := Option.some.inj z2
          subst z3
          subst z4
          rcases hat with z | z
          · exact hng z
          · simp at z; omega
        clear oB hg5 hol hB hor hat
        go_roundw
        case rel => exact ⟨i + 1, by go_num, by omega, o5, n5, r5, b5⟩
        case measure => simp [intOf]; omega
      · have q1 : ¬ (i : Int) < (R.length : Int) := by omega
        obtain rfl : i = R.length := by omega
        rw [List.take_of_length_le (Nat.le_refl _)] at hol
        go_wp2_with fail
        go_ret
        refine ⟨_, rfl, ?_, hB⟩
        rw [List.length_append]
        exact hol
end Go.Proofs.YtcjlmkcccgjihaaDoor

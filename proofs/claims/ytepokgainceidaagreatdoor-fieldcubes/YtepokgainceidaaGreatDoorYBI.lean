import Derived.Test.YtepokgainceidaaGreatDoorYAF
import Derived.Deep.AppendLies
import Derived.Test.YtepokgainceidaaGreatDoorYBF
namespace Go.Proofs.YtepokgainceidaaGreatDoor
open Go.RowKit Go.Shelf
theorem bit_split (b w base p : Nat) (hp : p < b - w) : bitB (b - w) (base / 2 ^ w) p = bitB b base p := by
  unfold bitB
  rw [Nat.div_div_eq_div_mul, ← Nat.pow_add, show w + (b - w - 1 - p) = b - 1 - p by omega]
theorem dig_split (b w base : Nat) : (List.range (b - w)).map (bitB (b - w) (base / 2 ^ w)) ++ List.replicate w 120 = digL b base w := by
  unfold digL
  refine congrArg (· ++ List.replicate w 120) ?_
  apply List.map_congr_left
  intro p hp
  exact bit_split b w base p (by simpa using hp)
def hvT (b w base lo hi : Nat) : List (List UInt8) := (hv w base lo hi).map fun p => digL b p.1 p.2
theorem hv_len (lo hi : Nat) : ∀ w b, (hv w b lo hi).length ≤ 2 ^ w := by
  intro w
  induction w with
  | zero => intro b; rw [hv]; split <;> simp
  | succ w ih =>
    intro b
    have hp : 0 < 2 ^ w := Nat.pow_pos (by decide)
    rw [hv, Nat.pow_succ]
    split
    · simp; omega
    · split
      · simp
      · have h1 := ih b
        have h2 := ih (b + 2 ^ w)
        rw [List.length_append]
        omega
def hvR (w : World) (L : List (List UInt8)) (e : Ending) (w' : World) : Prop := ∃ v, e = .returned v ∧ w'.ownsRow w.heap.size 9 1 v L.length (stx L) ∧ Below w.heap.size w w'
set_option maxRecDepth 100000 in
set_option maxHeartbeats 1000000 in
theorem half_in (b lo hi k base P : Nat) (w : World) (hb : b ≤ 32) (hk : k ≤ b) (hP : 2 ^ k - 1 = P) (hbs : base + P < 4294967296) (h1 : lo ≤ base) (h2 : base + P ≤ hi) (hhi : hi < 4294967296) :
    Calls Tryz.prog 99 #[.int .i64 (b : Int), .int .i64 (base : Int), .int .i64 ((b - k : Nat) : Int), .int .i64 (lo : Int), .int .i64 (hi : Int)] w fun e w' => hvR w [digL b base k] e w' := by
  have HT := fun W => top_any k (by omega) W
  simp only [hP] at HT
  have hdiv := div_cast base k
  have hQ : base / 2 ^ k ≤ base := Nat.div_le_self _ _
  have HD := fun W => rdigits_any (base / 2 ^ k) (b - k) (by omega) (by omega) W
  have HX := fun W => xs_any k (by omega) W
  have hcat := cat_bytes ((List.range (b - k)).map (bitB (b - k) (base / 2 ^ k))) (List.replicate k 120)
  rw [dig_split] at hcat
  have hl1 : ((List.range (b - k)).map (bitB (b - k) (base / 2 ^ k))).length = b - k := by simp
  have hl2 : (List.replicate k (120 : UInt8)).length = k := by simp
  obtain ⟨Q, hQ2⟩ : ∃ Q, base / 2 ^ k = Q := ⟨_, rfl⟩
  rw [hQ2] at hdiv hcat hl1
  simp only [hQ2] at HD
  obtain ⟨X, hX⟩ : ∃ X : List UInt8, (List.range (b - k)).map (bitB (b - k) Q) = X := ⟨_, rfl⟩
  obtain ⟨Y, hY⟩ : ∃ Y : List UInt8, List.replicate k 120 = Y := ⟨_, rfl⟩
  rw [hX] at hcat hl1
  rw [hY] at hcat hl2
  simp only [hX] at HD
  simp only [hY] at HX
  obtain ⟨S, hS⟩ : ∃ S, digL b base k = S := ⟨_, rfl⟩
  rw [hS] at hcat ⊢
  obtain ⟨n, hn⟩ : ∃ n, b - k = n := ⟨_, rfl⟩
  simp only [hn] at HD hl1 ⊢
  have e1 : IntKind.i64.wrap ((b : Int) - (n : Int)) = (k : Int) := by rw [IntKind.wrap_i64]; omega
  have i1 : (lo : Int) ≤ (base : Int) := by omega
  have e2 : IntKind.i64.wrap ((base : Int) + (P : Int)) = (base : Int) + (P : Int) := by rw [IntKind.wrap_i64]; omega
  have i2 : (base : Int) + (P : Int) ≤ (hi : Int) := by omega
  have hCat : Hid ((ByteArray.mk X.toArray) ++ (ByteArray.mk Y.toArray) = ⟨S.toArray⟩) := hcat
  have k32 : k ≤ 32 := by omega
  clear hP hQ hQ2 hX hY hS hcat
  go_enter Tryz.func99, Tryz.ntmps99
  go_wp2_with fail
  refine (HT _).mono ?_
  rintro e w1 ⟨rfl, rfl⟩
  go_wp2_with fail
  refine (HD _).mono ?_
  rintro e w2 ⟨rfl, hb2⟩
  go_wp2_with fail
  refine (HX _).mono ?_
  rintro e w3 ⟨rfl, hb3⟩
  go_wp2_with fail
  go_ret
  have hB := bel0 hb2 hb3
  refine ⟨.slice (some ⟨w3.heap.size, 0, none⟩) 1 1, rfl, ?_, hB.alloc hB.size _⟩
  have := World.ownsRow_lit (base := w1.heap.size) (e := 9) (size := 1) w3 #[.string ⟨S.toArray⟩] 1 hB.size (by unfold maxLen; omega) rfl
  rw [hCat.out]
  exact this
set_option maxRecDepth 100000 in
set_option maxHeartbeats 1000000 in
theorem half_out (b lo hi k base P : Nat) (w : World) (hb : b ≤ 32) (hk : k ≤ b) (hP : 2 ^ k - 1 = P) (hbs : base + P < 4294967296) (h2 : hi < base ∨ base + P < lo) :
    Calls Tryz.prog 99 #[.int .i64 (b : Int), .int .i64 (base : Int), .int .i64 ((b - k : Nat) : Int), .int .i64 (lo : Int), .int .i64 (hi : Int)] w fun e w' => hvR w [] e w' := by
  have HT := fun W => top_any k (by omega) W
  simp only [hP] at HT
  obtain ⟨n, hn⟩ : ∃ n, b - k = n := ⟨_, rfl⟩
  simp only [hn]
  have e1 : IntKind.i64.wrap ((b : Int) - (n : Int)) = (k : Int) := by rw [IntKind.wrap_i64]; omega
  have e2 : IntKind.i64.wrap ((base : Int) + (P : Int)) = (base : Int) + (P : Int) := by rw [IntKind.wrap_i64]; omega
  clear hP
  by_cases i1 : lo ≤ base
  · have j1 : (lo : Int) ≤ (base : Int) := by omega
    have j3 : (hi : Int) < (base : Int) := by omega
    have j2 : ¬ (base : Int) + (P : Int) ≤ (hi : Int) := by omega
    go_enter Tryz.func99, Tryz.ntmps99
    go_wp2_with fail
    refine (HT _).mono ?_
    rintro e w1 ⟨rfl, rfl⟩
    go_wp2_with fail
    go_ret
    exact ⟨_, rfl, World.ownsRow_nil _ _ _ _, Below.refl _ _⟩
  · have j1 : ¬ (lo : Int) ≤ (base : Int) := by omega
    by_cases i3 : hi < base
    · have j3 : (hi : Int) < (base : Int) := by omega
      go_enter Tryz.func99, Tryz.ntmps99
      go_wp2_with fail
      refine (HT _).mono ?_
      rintro e w1 ⟨rfl, rfl⟩
      go_wp2_with fail
      go_ret
      exact ⟨_, rfl, World.ownsRow_nil _ _ _ _, Below.refl _ _⟩
    · have j3 : ¬ (hi : Int) < (base : Int) := by omega
      have j4 : (base : Int) + (P : Int) < (lo : Int) := by omega
      go_enter Tryz.func99, Tryz.ntmps99
      go_wp2_with fail
      refine (HT _).mono ?_
      rintro e w1 ⟨rfl, rfl⟩
      go_wp2_with fail
      go_ret
      exact ⟨_, rfl, World.ownsRow_nil _ _ _ _, Below.refl _ _⟩
theorem hvT_leaf {b w base lo hi : Nat} (h : lo ≤ base ∧ base + 2 ^ w - 1 ≤ hi) : hvT b w base lo hi = [digL b base w] := by
  unfold hvT
  cases w with
  | zero => rw [hv, if_pos h]; rfl
  | succ w => rw [hv, if_pos h]; rfl
theorem hvT_out {b w base lo hi : Nat} (h1 : ¬ (lo ≤ base ∧ base + 2 ^ w - 1 ≤ hi)) (h : hi < base ∨ base + 2 ^ w - 1 < lo) : hvT b w base lo hi = [] := by
  unfold hvT
  cases w with
  | zero => rw [hv, if_neg h1]; rfl
  | succ w => rw [hv, if_neg h1, if_pos h]; rfl
theorem hvT_two {b w base lo hi : Nat} (h1 : ¬ (lo ≤ base ∧ base + 2 ^ (w + 1) - 1 ≤ hi)) (h : ¬ (hi < base ∨ base + 2 ^ (w + 1) - 1 < lo)) : hvT b (w + 1) base lo hi = hvT b w base lo hi ++ hvT b w (base + 2 ^ w) lo hi := by
  unfold hvT
  rw [hv, if_neg h1, if_neg h, List.map_append]
theorem hvT_len (b w base lo hi : Nat) : (hvT b w base lo hi).length ≤ 2 ^ w := by unfold hvT; rw [List.length_map]; exact hv_len lo hi w base
set_option maxRecDepth 100000 in
set_option maxHeartbeats 1000000 in
theorem half_two (b lo hi k base n P G : Nat) (w : World) (L R : List (List UInt8)) (hb : b ≤ 32) (hk : b - n = k + 1) (hnb : n < b) (hP : 2 ^ (k + 1) - 1 = P) (hG : 2 ^ k = G) (hbs : base + P < 4294967296) (hGP : G ≤ P) (h1 : ¬ (lo ≤ base ∧ base + P ≤ hi)) (h2 : ¬ (hi < base ∨ base + P < lo)) (hLl : L.length ≤ 4294967296) (hRl : R.length ≤ 4294967296)
    (IH1 : ∀ W, Calls Tryz.prog 99 #[.int .i64 (b : Int), .int .i64 (base : Int), .int .i64 ((n + 1 : Nat) : Int), .int .i64 (lo : Int), .int .i64 (hi : Int)] W fun e w' => hvR W L e w')
    (IH2 : ∀ W, Calls Tryz.prog 99 #[.int .i64 (b : Int), .int .i64 ((base + G : Nat) : Int), .int .i64 ((n + 1 : Nat) : Int), .int .i64 (lo : Int), .int .i64 (hi : Int)] W fun e w' => hvR W R e w') :
    Calls Tryz.prog 99 #[.int .i64 (b : Int), .int .i64 (base : Int), .int .i64 (n : Int), .int .i64 (lo : Int), .int .i64 (hi : Int)] w fun e w' => hvR w (L ++ R) e w' := by
  obtain ⟨i0, hi0, hz0, hz1, hz2⟩ := info_parts info_str
  have HT := fun W => top_any (k + 1) (by omega) W
  simp only [hP] at HT
  have e1 : IntKind.i64.wrap ((b : Int) - (n : Int)) = ((k + 1 : Nat) : Int) := by rw [IntKind.wrap_i64]; omega
  have e2 : IntKind.i64.wrap ((base : Int) + (P : Int)) = (base : Int) + (P : Int) := by rw [IntKind.wrap_i64]; omega
  have e3 : IntKind.i64.wrap ((n : Int) + 1) = ((n + 1 : Nat) : Int) := by rw [IntKind.wrap_i64]; omega
  have e4 : IntKind.i64.wrap (((k + 1 : Nat) : Int) - 1) = (k : Int) := by rw [IntKind.wrap_i64]; omega
  have k32 : k ≤ 32 := by omega
  have e8 : wrap64 ((base : Int) + wrap64 (2 ^ k)) = ((base + G : Nat) : Int) := add_pow base k G hG (by omega)
  have j1 : (lo : Int) ≤ (base : Int) → ¬ (base : Int) + (P : Int) ≤ (hi : Int) := by omega
  have j3 : ¬ (hi : Int) < (base : Int) := by omega
  have j4 : ¬ (base : Int) + (P : Int) < (lo : Int) := by omega
  have I1 : Hid (∀ W, Calls Tryz.prog 99 #[.int .i64 (b : Int), .int .i64 (base : Int), .int .i64 ((n + 1 : Nat) : Int), .int .i64 (lo : Int), .int .i64 (hi : Int)] W fun e w' => hvR W L e w') := IH1
  have I2 : Hid (∀ W, Calls Tryz.prog 99 #[.int .i64 (b : Int), .int .i64 ((base + G : Nat) : Int), .int .i64 ((n + 1 : Nat) : Int), .int .i64 (lo : Int), .int .i64 (hi : Int)] W fun e w' => hvR W R e w') := IH2
  have E8 : Hid (wrap64 ((base : Int) + wrap64 (2 ^ k)) = ((base + G : Nat) : Int)) := e8
  clear hP hG IH1 IH2 e8 h1 h2
  go_enter Tryz.func99, Tryz.ntmps99
  go_wp2_with fail
  refine (HT _).mono ?_
  rintro e w1 ⟨rfl, rfl⟩
  by_cases i1 : (lo : Int) ≤ (base : Int)
  · have j2 := j1 i1
    go_wp2_with fail
    refine (I1.out _).mono ?_
    rintro e w2 ⟨vl, rfl, hol, hb2⟩
    obtain ⟨ql, cl, rfl⟩ := shapeP hol
    go_wp2_with fail
    rw [E8.out]
    refine (I2.out _).mono ?_
    rintro e w3 ⟨vr, rfl, hor, hb3⟩
    obtain ⟨qr, cr, rfl⟩ := shapeP hor
    have hol3 := owns_below hol hb3
    have hB3 := bel0 hb2 hb3
    have hne0 : ∀ kk, (Value.slice qr R.length cr).ownBlock = some kk → (Value.slice ql L.length cl).ownBlock ≠ some kk := fun kk x1 x2 => by
      have y1 := (hor.lt kk x1).1
      have y2 := (hol.lt kk x2).2
      omega
    have hst : w3.ownsRow w1.heap.size 9 1 (.slice ql L.length cl) (L.length + 0) (stx (L ++ R.take 0)) := by
      rw [List.take_zero, List.append_nil]
      exact hol3
    clear hol hol3 hb2 hb3 I1 I2 HT E8
    go_wp2_with fail
    go_loopw [12, 14] (fun vl vi wr => ∃ i : Nat, vi = .int .i64 i ∧ i ≤ R.length ∧ wr.ownsRow w1.heap.size 9 1 vl (L.length + i) (stx (L ++ R.take i)) ∧ (∀ kk, (Value.slice qr R.length cr).ownBlock = some kk → vl.ownBlock ≠ some kk) ∧ wr.ownsRow w2.heap.size 9 1 (.slice qr R.length cr) R.length (stx R) ∧ Below w1.heap.size w1 wr) (fun _ vi _ => R.length - (intOf vi).toNat)
    case atStart => exact ⟨0, rfl, Nat.zero_le _, hst, hne0, hor, hB3⟩
    case round =>
      clear hst hne0 hor hB3
      obtain ⟨i, rfl, hi, hol, hne, hor, hB⟩ := hrel
      have hsz := hB.size
      by_cases hlt : i < R.length
      · have q1 : (i : Int) < (R.length : Int) := by omega
        have q0 : (0 : Int) ≤ (i : Int) := by omega
        obtain ⟨gr, cr2, hrf⟩ := own_form hor (by omega)
        injection hrf with x1 x2 x3
        subst x1 x3
        have hx := hor.cells rfl i _ (stx_get R i hlt)
        rw [add0] at hx
        have hgr := (hor.lt gr rfl).2
        have hng := hne gr rfl
        have htk : stx (L ++ R.take (i + 1)) = stx (L ++ R.take i) ++ [Value.string ⟨(R[i]).toArray⟩] := by
          rw [List.take_add_one, List.getElem?_eq_getElem hlt, ← List.append_assoc]
          exact stx_snoc _ _
        obtain ⟨t, ht⟩ : ∃ t, R[i] = t := ⟨_, rfl⟩
        rw [ht] at hx htk
        have HTK : Hid (stx (L ++ R.take (i + 1)) = stx (L ++ R.take i) ++ [Value.string ⟨t.toArray⟩]) := htk
        obtain ⟨qv, cv, rfl⟩ := shapeP hol
        clear hne ht htk
        go_wp2_with (at_builtin; refine wpList_append_lies _ rfl _ _ 25 rfl w1.heap.size 9 i0 _ 1 16 Tryz.underlying25 hi0 hz0 hz1 hz2 rfl (by decide) _ _ _ rfl (hol.alloc _) ⟨wr.heap.size, 0, none⟩ 1 1 [Value.string ⟨t.toArray⟩] rfl rfl (World.news_of_block (cs := #[.string ⟨t.toArray⟩]) (t := 9) (fr := (0, 0)) (alloc_get _ _)) (by simp [Value.oneCell']) (by decide) (by unfold maxLen; omega) (by omega) (by simp; omega) _ rfl ?_; intro g5 c5 w5 oB hg5 hat _)
        have b5 : Below w1.heap.size w1 w5 := (hB.alloc hsz _).grown hg5 (by simp; omega) (fun k e => (hol.lt k e).1)
        have o5 : w5.ownsRow w1.heap.size 9 1 (.slice (some ⟨g5, 0, none⟩) (L.length + i + 1) c5) (L.length + (i + 1)) (stx (L ++ R.take (i + 1))) := by rw [HTK.out]; exact oB
        have r5 := (hor.alloc (Obj.cells #[Value.string ⟨t.toArray⟩] 9)).kept hg5 (.inr (fun e => hng e.symm))
        have n5 : ∀ kk, (Value.slice (some ⟨gr, 0, none⟩) R.length cr).ownBlock = some kk → (Value.slice (some ⟨g5, 0, none⟩) (L.length + i + 1) c5).ownBlock ≠ some kk := fun kk z1 z2 => by
          have z3 : gr = kk := Option.some.inj z1
          have z4 : g5 = kk := Option.some.inj z2
          subst z3
          subst z4
          rcases hat with z | z
          · exact hng z
          · simp at z; omega
        clear oB hg5 hol hB hor hat
        go_roundw
        case rel => exact ⟨i + 1, by go_num, by omega, o5, n5, r5, b5⟩
        case measure => simp [intOf]; omega
      · have q1 : ¬ (i : Int) < (R.length : Int) := by omega
        obtain rfl : i = R.length := by omega
        rw [List.take_of_length_le (Nat.le_refl _)] at hol
        go_wp2_with fail
        go_ret
        refine ⟨_, rfl, ?_, hB⟩
        rw [List.length_append]
        exact hol
  · clear j1
    go_wp2_with fail
    refine (I1.out _).mono ?_
    rintro e w2 ⟨vl, rfl, hol, hb2⟩
    obtain ⟨ql, cl, rfl⟩ := shapeP hol
    go_wp2_with fail
    rw [E8.out]
    refine (I2.out _).mono ?_
    rintro e w3 ⟨vr, rfl, hor, hb3⟩
    obtain ⟨qr, cr, rfl⟩ := shapeP hor
    have hol3 := owns_below hol hb3
    have hB3 := bel0 hb2 hb3
    have hne0 : ∀ kk, (Value.slice qr R.length cr).ownBlock = some kk → (Value.slice ql L.length cl).ownBlock ≠ some kk := fun kk x1 x2 => by
      have y1 := (hor.lt kk x1).1
      have y2 := (hol.lt kk x2).2
      omega
    have hst : w3.ownsRow w1.heap.size 9 1 (.slice ql L.length cl) (L.length + 0) (stx (L ++ R.take 0)) := by
      rw [List.take_zero, List.append_nil]
      exact hol3
    clear hol hol3 hb2 hb3 I1 I2 HT E8
    go_wp2_with fail
    go_loopw [12, 14] (fun vl vi wr => ∃ i : Nat, vi = .int .i64 i ∧ i ≤ R.length ∧ wr.ownsRow w1.heap.size 9 1 vl (L.length + i) (stx (L ++ R.take i)) ∧ (∀ kk, (Value.slice qr R.length cr).ownBlock = some kk → vl.ownBlock ≠ some kk) ∧ wr.ownsRow w2.heap.size 9 1 (.slice qr R.length cr) R.length (stx R) ∧ Below w1.heap.size w1 wr) (fun _ vi _ => R.length - (intOf vi).toNat)
    case atStart => exact ⟨0, rfl, Nat.zero_le _, hst, hne0, hor, hB3⟩
    case round =>
      clear hst hne0 hor hB3
      obtain ⟨i, rfl, hi, hol, hne, hor, hB⟩ := hrel
      have hsz := hB.size
      by_cases hlt : i < R.length
      · have q1 : (i : Int) < (R.length : Int) := by omega
        have q0 : (0 : Int) ≤ (i : Int) := by omega
        obtain ⟨gr, cr2, hrf⟩ := own_form hor (by omega)
        injection hrf with x1 x2 x3
        subst x1 x3
        have hx := hor.cells rfl i _ (stx_get R i hlt)
        rw [add0] at hx
        have hgr := (hor.lt gr rfl).2
        have hng := hne gr rfl
        have htk : stx (L ++ R.take (i + 1)) = stx (L ++ R.take i) ++ [Value.string ⟨(R[i]).toArray⟩] := by
          rw [List.take_add_one, List.getElem?_eq_getElem hlt, ← List.append_assoc]
          exact stx_snoc _ _
        obtain ⟨t, ht⟩ : ∃ t, R[i] = t := ⟨_, rfl⟩
        rw [ht] at hx htk
        have HTK : Hid (stx (L ++ R.take (i + 1)) = stx (L ++ R.take i) ++ [Value.string ⟨t.toArray⟩]) := htk
        obtain ⟨qv, cv, rfl⟩ := shapeP hol
        clear hne ht htk
        go_wp2_with (at_builtin; refine wpList_append_lies _ rfl _ _ 25 rfl w1.heap.size 9 i0 _ 1 16 Tryz.underlying25 hi0 hz0 hz1 hz2 rfl (by decide) _ _ _ rfl (hol.alloc _) ⟨wr.heap.size, 0, none⟩ 1 1 [Value.string ⟨t.toArray⟩] rfl rfl (World.news_of_block (cs := #[.string ⟨t.toArray⟩]) (t := 9) (fr := (0, 0)) (alloc_get _ _)) (by simp [Value.oneCell']) (by decide) (by unfold maxLen; omega) (by omega) (by simp; omega) _ rfl ?_; intro g5 c5 w5 oB hg5 hat _)
        have b5 : Below w1.heap.size w1 w5 := (hB.alloc hsz _).grown hg5 (by simp; omega) (fun k e => (hol.lt k e).1)
        have o5 : w5.ownsRow w1.heap.size 9 1 (.slice (some ⟨g5, 0, none⟩) (L.length + i + 1) c5) (L.length + (i + 1)) (stx (L ++ R.take (i + 1))) := by rw [HTK.out]; exact oB
        have r5 := (hor.alloc (Obj.cells #[Value.string ⟨t.toArray⟩] 9)).kept hg5 (.inr (fun e => hng e.symm))
        have n5 : ∀ kk, (Value.slice (some ⟨gr, 0, none⟩) R.length cr).ownBlock = some kk → (Value.slice (some ⟨g5, 0, none⟩) (L.length + i + 1) c5).ownBlock ≠ some kk := fun kk z1 z2 => by
          have z3 : gr = kk := Option.some.inj z1
          have z4 : g5 = kk := Option.some.inj z2
          subst z3
          subst z4
          rcases hat with z | z
          · exact hng z
          · simp at z; omega
        clear oB hg5 hol hB hor hat
        go_roundw
        case rel => exact ⟨i + 1, by go_num, by omega, o5, n5, r5, b5⟩
        case measure => simp [intOf]; omega
      · have q1 : ¬ (i : Int) < (R.length : Int) := by omega
        obtain rfl : i = R.length := by omega
        rw [List.take_of_length_le (Nat.le_refl _)] at hol
        go_wp2_with fail
        go_ret
        refine ⟨_, rfl, ?_, hB⟩
        rw [List.length_append]
        exact hol
theorem halves_any (b lo hi : Nat) (hb : b ≤ 32) (hhi : hi < 4294967296) (k : Nat) : ∀ (base : Nat) (w : World), k ≤ b → base + (2 ^ k - 1) < 4294967296 →
    Calls Tryz.prog 99 #[.int .i64 (b : Int), .int .i64 (base : Int), .int .i64 ((b - k : Nat) : Int), .int .i64 (lo : Int), .int .i64 (hi : Int)] w fun e w' => hvR w (hvT b k base lo hi) e w' := by
  induction k with
  | zero =>
    intro base w hk hbs
    by_cases h1 : lo ≤ base ∧ base + 2 ^ 0 - 1 ≤ hi
    · rw [hvT_leaf h1]
      exact half_in b lo hi 0 base 0 w hb hk rfl (by omega) h1.1 (by have := h1.2; simp at this; omega) hhi
    · have h2 : hi < base ∨ base + 2 ^ 0 - 1 < lo := by simp at h1 ⊢; omega
      rw [hvT_out h1 h2]
      exact half_out b lo hi 0 base 0 w hb hk rfl (by omega) (by simp at h2; omega)
  | succ k ih =>
    intro base w hk hbs
    have hp0 : 0 < 2 ^ k := Nat.pow_pos (by decide)
    have hps : 2 ^ (k + 1) = 2 ^ k * 2 := Nat.pow_succ 2 k
    have hG4 := Nat.pow_le_pow_right (n := 2) (by decide) (show k ≤ 32 by omega)
    obtain ⟨G, hG⟩ : ∃ G, 2 ^ k = G := ⟨_, rfl⟩
    obtain ⟨P, hP⟩ : ∃ P, 2 ^ (k + 1) - 1 = P := ⟨_, rfl⟩
    have hPG : P = G + G - 1 := by omega
    by_cases h1 : lo ≤ base ∧ base + 2 ^ (k + 1) - 1 ≤ hi
    · rw [hvT_leaf h1]
      exact half_in b lo hi (k + 1) base P w hb hk hP (by omega) h1.1 (by omega) hhi
    · by_cases h2 : hi < base ∨ base + 2 ^ (k + 1) - 1 < lo
      · rw [hvT_out h1 h2]
        exact half_out b lo hi (k + 1) base P w hb hk hP (by omega) (by omega)
      · rw [hvT_two h1 h2]
        have l1 := hvT_len b k base lo hi
        have l2 := hvT_len b k (base + 2 ^ k) lo hi
        have I1 := fun W => ih base W (by omega) (by omega)
        have I2 := fun W => ih (base + 2 ^ k) W (by omega) (by omega)
        have hn1 : b - k = b - (k + 1) + 1 := by omega
        simp only [hn1] at I1 I2
        simp only [hG] at I2
        rw [hG] at l1 l2 ⊢
        exact half_two b lo hi k base (b - (k + 1)) P G w _ _ hb (by omega) (by omega) hP hG (by omega) (by omega) (by omega) (by omega) (by omega) (by omega) I1 I2
theorem hvT_cov (n l h : Nat) (hn : n ≤ 32) (hlh : l ≤ h) (hh : h < 2 ^ n) : hvT n n 0 l h = cov n l h := by
  unfold hvT cov
  rw [hv_all n l h hn hlh hh]
set_option maxRecDepth 100000 in
set_option maxHeartbeats 600000 in
theorem refFrom_any (b : Nat) (lo hi : Int) (w : World) (hb : b ≤ 32) (h0 : 0 ≤ lo) (hh : hi < ((2 ^ b : Nat) : Int)) : Calls Tryz.prog 70 #[.int .i64 (b : Int), .int .i64 lo, .int .i64 hi] w fun e w' => slR w (covI b lo hi) e w' := by
  have hp : 2 ^ b ≤ 2 ^ 32 := Nat.pow_le_pow_right (by decide) hb
  have hp0 : 0 < 2 ^ b := Nat.pow_pos (by decide)
  by_cases h : hi < lo
  · have e : covI b lo hi = [] := if_pos h
    rw [e]
    have i1 : lo > hi := h
    go_enter Tryz.func70, Tryz.ntmps70
    go_wp2_with fail
    go_ret
    exact ⟨_, rfl, World.ownsRow_nil _ _ _ _, Below.refl _ _⟩
  · have e : covI b lo hi = cov b lo.toNat hi.toNat := if_neg h
    rw [e]
    obtain ⟨l, rfl⟩ : ∃ z : Nat, lo = z := ⟨lo.toNat, by omega⟩
    obtain ⟨k, rfl⟩ : ∃ z : Nat, hi = z := ⟨hi.toNat, by omega⟩
    rw [Int.toNat_natCast, Int.toNat_natCast]
    have HV := fun W => halves_any b l k hb (by omega) b 0 W (Nat.le_refl _) (by omega)
    have hc := hvT_cov b l k hb (by omega) (Int.ofNat_lt.1 hh)
    rw [Nat.sub_self] at HV
    simp only [hc] at HV
    have HH : Hid (∀ W : World, Calls Tryz.prog 99 #[.int .i64 (b : Int), .int .i64 0, .int .i64 0, .int .i64 (l : Int), .int .i64 (k : Int)] W fun e w' => hvR W (cov b l k) e w') := HV
    have HT0 := fun W => top_any b hb W
    obtain ⟨G, hG⟩ : ∃ G : Nat, 2 ^ b - 1 = G := ⟨_, rfl⟩
    simp only [hG] at HT0
    have HT : Hid (∀ W : World, Calls Tryz.prog 69 #[.int .i64 (b : Int)] W fun e w' => e = .returned (.int .i64 (G : Int)) ∧ w' = W) := HT0
    have i1 : ¬ (k : Int) < (l : Int) := h
    have i2 : ¬ (l : Int) < 0 := by omega
    have i3 : ¬ (G : Int) < (k : Int) := by omega
    clear HT0 HV hc hG hp hp0 hh h
    go_enter Tryz.func70, Tryz.ntmps70
    go_wp2_with fail
    refine (HT.out _).mono ?_
    rintro e W1 ⟨rfl, rfl⟩
    go_wp2_with fail
    refine (HH.out _).mono ?_
    rintro e W2 ⟨v2, rfl, ho2, hb2⟩
    go_wp2_with fail
    go_ret
    exact ⟨_, rfl, ho2, hb2⟩
theorem dig_take (b v len : Nat) (h : len ≤ b) : ((List.range b).map (bitB b v)).take len ++ List.replicate (b - len) 120 = digL b v (b - len) := by
  unfold digL
  rw [← List.map_take, List.take_range, show min len b = b - (b - len) by omega]
theorem dig_zero (b v : Nat) : (List.range b).map (bitB b v) = digL b v 0 := by
  unfold digL
  rw [Nat.sub_zero, List.replicate_zero, List.append_nil]
set_option maxRecDepth 100000 in
set_option maxHeartbeats 1000000 in
theorem refOne_any (b : Nat) (t : TS) (w : World) (hb : b ≤ 32) (h : TOK b t) : Calls Tryz.prog 71 #[t.v, .int .i64 (b : Int)] w fun e w' => e = .returned (.string ⟨(oneM b t).toArray⟩) ∧ Below w.heap.size w w' := by
  have hp : 2 ^ b ≤ 2 ^ 32 := Nat.pow_le_pow_right (by decide) hb
  obtain ⟨k1, k2, k3, k4, k5, k6, k7, -, -, -⟩ := h
  obtain ⟨f, op, form, lo, hi, len, pat⟩ := t
  simp only at k2 k3 k4 k5 k6 k7
  obtain ⟨lo, rfl⟩ : ∃ z : Nat, lo = z := ⟨lo.toNat, by omega⟩
  obtain ⟨len, rfl⟩ : ∃ z : Nat, len = z := ⟨len.toNat, by omega⟩
  have hlb : len ≤ b := by omega
  have hd0 := fun W => rdigits_any lo b hb (by omega) W
  have hx0 := fun W => xs_any (b - len) (by omega) W
  have e6 : IntKind.i64.wrap ((b : Int) - (len : Int)) = ((b - len : Nat) : Int) := by rw [IntKind.wrap_i64]; omega
  have hM : oneM b ⟨f, op, form, lo, hi, len, pat⟩ = if form = 4 then pat else if form = 2 then digL b lo (b - len) else digL b lo 0 := by
    unfold oneM
    simp only [Int.toNat_natCast]
  rw [hM, ← dig_zero b lo, ← dig_take b lo len hlb]
  have hDl : ((List.range b).map (bitB b lo)).length = b := by simp
  obtain ⟨DG, hDG⟩ : ∃ D, (List.range b).map (bitB b lo) = D := ⟨_, rfl⟩
  rw [hDG] at hDl ⊢
  simp only [hDG] at hd0
  have hTl : (DG.take len).length = len := by rw [List.length_take]; omega
  have hXl : (List.replicate (b - len) (120 : UInt8)).length = b - len := List.length_replicate
  have hE : (ByteArray.mk DG.toArray).extract 0 len = ⟨(DG.take len).toArray⟩ := by have := ext_sub DG 0 len; rw [this]; rfl
  obtain ⟨T1, hT1⟩ : ∃ D, DG.take len = D := ⟨_, rfl⟩
  obtain ⟨X1, hX1⟩ : ∃ D, List.replicate (b - len) (120 : UInt8) = D := ⟨_, rfl⟩
  rw [hT1] at hTl hE
  rw [hX1] at hXl
  simp only [hX1] at hx0
  rw [hT1, hX1]
  obtain ⟨D1, hD1⟩ : ∃ D, T1 ++ X1 = D := ⟨_, rfl⟩
  rw [hD1]
  have HCT : Hid (ByteArray.mk T1.toArray ++ ByteArray.mk X1.toArray = ⟨D1.toArray⟩) := by unfold Hid; rw [← hD1]; exact ByteArray.ext (by simp)
  have m1 : (0 : Int) ≤ (len : Int) := by omega
  have m2 : (len : Int) ≤ (DG.length : Int) := by omega
  have hq1 : ¬ 9223372036854775807 < T1.length + X1.length := by omega
  have HDG : Hid (∀ W : World, Calls Tryz.prog 96 #[.int .i64 (lo : Int), .int .i64 (b : Int)] W fun e w' => e = .returned (.string ⟨DG.toArray⟩) ∧ Below W.heap.size W w') := hd0
  have HXS : Hid (∀ W : World, Calls Tryz.prog 37 #[.int .i64 ((b - len : Nat) : Int)] W fun e w' => e = .returned (.string ⟨X1.toArray⟩) ∧ Below W.heap.size W w') := hx0
  show Calls Tryz.prog 71 #[.agg #[.string ⟨f.toArray⟩, .int .i64 op, .int .i64 form, .int .i64 lo, .int .i64 hi, .int .i64 len, .string ⟨pat.toArray⟩], .int .i64 (b : Int)] w _
  obtain ⟨O, hO⟩ : ∃ O : Obj, Obj.cells #[.string ⟨f.toArray⟩, .int .i64 op, .int .i64 form, .int .i64 lo, .int .i64 hi, .int .i64 len, .string ⟨pat.toArray⟩] 24 = O := ⟨_, rfl⟩
  have hB1 : Below w.heap.size w (w.alloc O) := (Below.refl _ _).alloc (Nat.le_refl _) _
  have hbx : (w.alloc O).heap[w.heap.size]? = some (.cells #[.string ⟨f.toArray⟩, .int .i64 op, .int .i64 form, .int .i64 lo, .int .i64 hi, .int .i64 len, .string ⟨pat.toArray⟩] 24) := by rw [hO]; exact alloc_get _ _
  have HX : Hid (∀ W : World, Below (w.alloc O).heap.size (w.alloc O) W → W.cell? ⟨w.heap.size, 0, none⟩ = some (.string ⟨f.toArray⟩) ∧ W.cell? ⟨w.heap.size, 1, none⟩ = some (.int .i64 op) ∧ W.cell? ⟨w.heap.size, 2, none⟩ = some (.int .i64 form) ∧ W.cell? ⟨w.heap.size, 3, none⟩ = some (.int .i64 lo) ∧ W.cell? ⟨w.heap.size, 4, none⟩ = some (.int .i64 hi) ∧ W.cell? ⟨w.heap.size, 5, none⟩ = some (.int .i64 len) ∧ W.cell? ⟨w.heap.size, 6, none⟩ = some (.string ⟨pat.toArray⟩)) := fun W hW => ⟨cell_of_row _ _ 0 _ _ _ (keepblk hW hbx), cell_of_row _ _ 1 _ _ _ (keepblk hW hbx), cell_of_row _ _ 2 _ _ _ (keepblk hW hbx), cell_of_row _ _ 3 _ _ _ (keepblk hW hbx), cell_of_row _ _ 4 _ _ _ (keepblk hW hbx), cell_of_row _ _ 5 _ _ _ (keepblk hW hbx), cell_of_row _ _ 6 _ _ _ (keepblk hW hbx)⟩
  obtain ⟨t0, t1, t2, t3, t4, t5, t6⟩ := HX.out _ (Below.refl _ _)
  clear hbx hp k1 k2 k3 k4 k5 k6 k7 hd0 hx0 hDG hM hD1 hT1 hX1 hTl hXl
  by_cases f4 : form = 4
  · rw [if_pos f4]
    subst f4
    go_enter Tryz.func71, Tryz.ntmps71
    go_wp2_with fail
    go_ret
    exact ⟨rfl, by first | exact hB1 | exact (Below.refl _ _).alloc (Nat.le_refl _) _⟩
  · rw [if_neg f4]
    have g4 : (form == 4) = false := by rw [beq_eq_false_iff_ne]; exact f4
    by_cases f2 : form = 2
    · rw [if_pos f2]
      subst f2
      go_enter Tryz.func71, Tryz.ntmps71
      go_wp2_with fail
      try simp only [hO]
      refine quiet_lit3 (C := fun W => Below (w.alloc O).heap.size (w.alloc O) W) (by kernel_rfl) (by kernel_rfl) (show Below _ _ _ from (Below.refl _ _).drew) ?_
      go_big_quiet_want
      refine ⟨.pointer (some ⟨w.heap.size, 3, none⟩), fun W hW => ?_, ?_⟩
      · go_simp
      go_big_quiet_on
      simp only [Act.put, List.setIfInBounds_toArray, List.set_cons_zero, List.set_cons_succ]
      go_big_quiet_want
      refine ⟨.int .i64 (lo : Int), fun W hW => ?_, ?_⟩
      · obtain ⟨x0, x1, x2, x3, x4, x5, x6⟩ := HX.out W hW
        go_simp
      go_big_quiet_on
      simp only [Act.put, List.setIfInBounds_toArray, List.set_cons_zero, List.set_cons_succ]
      go_big_quiet_want
      go_big_quiet_op
      go_big_quiet_on
      go_big_quiet_want
      refine ⟨.string ⟨DG.toArray⟩, fun W hW => ?_, ?_⟩
      · go_simp
        refine (HDG.out W).mono ?_
        rintro e w7 ⟨rfl, hb7⟩
        exact ⟨rfl, by simpa using bel0 (show Below (w.alloc O).heap.size (w.alloc O) W from hW) hb7⟩
      go_big_quiet_on
      simp only [Act.put, List.setIfInBounds_toArray, List.set_cons_zero, List.set_cons_succ]
      go_big_quiet_want
      refine ⟨.pointer (some ⟨w.heap.size, 5, none⟩), fun W hW => ?_, ?_⟩
      · go_simp
      go_big_quiet_on
      simp only [Act.put, List.setIfInBounds_toArray, List.set_cons_zero, List.set_cons_succ]
      go_big_quiet_want
      refine ⟨.int .i64 (len : Int), fun W hW => ?_, ?_⟩
      · obtain ⟨x0, x1, x2, x3, x4, x5, x6⟩ := HX.out W hW
        go_simp
      go_big_quiet_on
      simp only [Act.put, List.setIfInBounds_toArray, List.set_cons_zero, List.set_cons_succ]
      go_big_quiet_want
      refine ⟨.string ⟨T1.toArray⟩, fun W hW => ?_, ?_⟩
      · go_simp
      go_big_quiet_on
      simp only [Act.put, List.setIfInBounds_toArray, List.set_cons_zero, List.set_cons_succ]
      go_big_quiet_want
      go_big_quiet_op
      go_big_quiet_on
      go_big_quiet_want
      refine ⟨.pointer (some ⟨w.heap.size, 5, none⟩), fun W hW => ?_, ?_⟩
      · go_simp
      go_big_quiet_on
      simp only [Act.put, List.setIfInBounds_toArray, List.set_cons_zero, List.set_cons_succ]
      go_big_quiet_want
      refine ⟨.int .i64 (len : Int), fun W hW => ?_, ?_⟩
      · obtain ⟨x0, x1, x2, x3, x4, x5, x6⟩ := HX.out W hW
        go_simp
      go_big_quiet_on
      simp only [Act.put, List.setIfInBounds_toArray, List.set_cons_zero, List.set_cons_succ]
      go_big_quiet_want
      refine ⟨.int .i64 ((b - len : Nat) : Int), fun W hW => ?_, ?_⟩
      · go_simp
      go_big_quiet_on
      simp only [Act.put, List.setIfInBounds_toArray, List.set_cons_zero, List.set_cons_succ]
      go_big_quiet_want
      refine ⟨.string ⟨X1.toArray⟩, fun W hW => ?_, ?_⟩
      · go_simp
        refine (HXS.out W).mono ?_
        rintro e w7 ⟨rfl, hb7⟩
        exact ⟨rfl, by simpa using bel0 (show Below (w.alloc O).heap.size (w.alloc O) W from hW) hb7⟩
      go_big_quiet_on
      simp only [Act.put, List.setIfInBounds_toArray, List.set_cons_zero, List.set_cons_succ]
      go_big_quiet_want
      refine ⟨.string ⟨D1.toArray⟩, fun W hW => ?_, ?_⟩
      · have hc9 := HCT.out
        go_simp
      go_big_quiet_on
      simp only [Act.put, List.setIfInBounds_toArray, List.set_cons_zero, List.set_cons_succ]
      go_big_quiet_want
      go_big_quiet_op
      go_big_quiet_on
      refine wpQuiet_nil ?_
      intro W hW
      go_wp2_with fail
      go_ret
      exact ⟨rfl, bel0 hB1 hW⟩
    · rw [if_neg f2]
      have g2 : (form == 2) = false := by rw [beq_eq_false_iff_ne]; exact f2
      go_enter Tryz.func71, Tryz.ntmps71
      go_wp2_with fail
      try simp only [hO]
      refine (HDG.out _).mono ?_
      rintro e W1 ⟨rfl, hb1⟩
      go_wp2_with fail
      go_ret
      exact ⟨rfl, bel0 hB1 hb1⟩
end Go.Proofs.YtepokgainceidaaGreatDoor

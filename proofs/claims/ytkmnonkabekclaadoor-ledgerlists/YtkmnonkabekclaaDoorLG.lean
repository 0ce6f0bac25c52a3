import Derived.Test.YtkmnonkabekclaaDoorLF
namespace Go.Proofs.YtkmnonkabekclaaDoor
open Go.RowKit
/-- what Kind and Seq may be, of any numbers -/
def mB (s k : Int) : Bool := decide (1 ≤ k ∧ k ≤ 4 ∧ 1 ≤ s ∧ s ≤ 2147483647)
def recV (s k : Int) (t : List UInt8) : Value := .agg #[.int .i64 s, .int .i64 k, .string ⟨t.toArray⟩]
theorem mB_nat (s k : Nat) : mB (s : Int) (k : Int) = decide (may s k) := by
  unfold mB may
  rw [decide_eq_decide]
  omega
theorem mB_ok {s k : Int} (h : mB s k = true) : ∃ s' k' : Nat, s = s' ∧ k = k' ∧ may s' k' := by
  have := of_decide_eq_true h
  exact ⟨s.toNat, k.toNat, by omega, by omega, by unfold may; omega⟩
set_option maxRecDepth 100000 in
set_option maxHeartbeats 1000000 in
theorem mayBe_any (s k : Int) (t : List UInt8) (w : World) :
    Calls Tryd.prog 38 #[.agg #[.int .i64 s, .int .i64 k, .string ⟨t.toArray⟩]] w fun e w' => e = .returned (.bool (mB s k)) ∧ Below w.heap.size w w' := by
  have hbA : ∀ o : Obj, Below w.heap.size w (w.alloc o) := fun o => (Below.refl _ _).alloc (Nat.le_refl _) o
  by_cases h1 : 1 ≤ k
  · by_cases h2 : k ≤ 4
    · by_cases h3 : 1 ≤ s
      · by_cases h4 : s ≤ 2147483647
        · have e : mB s k = true := decide_eq_true ⟨h1, h2, h3, h4⟩
          rw [e]
          go_enter Tryd.func38, Tryd.ntmps38
          go_wp2_with fail
          go_ret
          exact ⟨rfl, hbA _⟩
        · have e : mB s k = false := decide_eq_false (fun h => h4 h.2.2.2)
          rw [e]
          go_enter Tryd.func38, Tryd.ntmps38
          go_wp2_with fail
          go_ret
          exact ⟨rfl, hbA _⟩
      · have e : mB s k = false := decide_eq_false (fun h => h3 h.2.2.1)
        rw [e]
        go_enter Tryd.func38, Tryd.ntmps38
        go_wp2_with fail
        go_ret
        exact ⟨rfl, hbA _⟩
    · have e : mB s k = false := decide_eq_false (fun h => h2 h.2.1)
      rw [e]
      go_enter Tryd.func38, Tryd.ntmps38
      go_wp2_with fail
      go_ret
      exact ⟨rfl, hbA _⟩
  · have e : mB s k = false := decide_eq_false (fun h => h1 h.1)
    rw [e]
    go_enter Tryd.func38, Tryd.ntmps38
    go_wp2_with fail
    go_ret
    exact ⟨rfl, hbA _⟩
theorem res_enc (tmps : Array Value) (W : World) (x y : Value) (h : tmps[2]?.getD undef = x ∧ tmps[3]?.getD undef = y) : (results Tryd.f28 tmps).run Tryd.prog W = .ok (.tuple #[x, y]) W := by
  simp [results, h.1, h.2, go_sem]
/-- Encode's error -/
def enE (s k : Int) (t : List UInt8) : Nat := if 16384 < t.length then 2 else if mB s k = true then 0 else 190
/-- Encode's bytes -/
def enB (s k : Int) (t : List UInt8) : List UInt8 := if enE s k t = 0 then encL s.toNat k.toNat t else []
theorem enB_len (s k : Int) (t : List UInt8) : (enB s k t).length ≤ 16404 := by
  unfold enB
  split
  · rename_i h
    rw [encL_len]
    unfold enE at h
    split at h
    · cases h
    · omega
  · exact Nat.zero_le _
def hd8 (s k : Nat) : List UInt8 := [82, 76, UInt8.ofNat k, 0] ++ four s
theorem OB.base {W : World} {A B : Nat} {v : Value} {l : List UInt8} (h : OB W B v l) (hA : A ≤ B) : OB W A v l := own_baseZ h hA
/-- bytes of one's own that grow -/
def ES (W1 W : World) (v : Value) (l : List UInt8) : Prop := OB W W1.heap.size v l ∧ Below W1.heap.size W1 W
theorem ES.later {W1 W X : World} {v : Value} {l : List UInt8} (h : ES W1 W v l) (hb : Below W.heap.size W X) : ES W1 X v l := ⟨h.1.below hb, bel0Z h.2 hb⟩
theorem ES.grown {W1 W X : World} {v v' : Value} {l l' : List UInt8} (h : ES W1 W v l) (h1 : OB X W1.heap.size v' l') (hg : W.grownBy X v.ownBlock) : ES W1 X v' l' := ⟨h1, bel_grZ h.2 hg (fun k e => (World.ownsRow.lt h.1 k e).1)⟩
theorem ES.num {W1 W : World} {v : Value} {l : List UInt8} {n : Nat} (h : ES W1 W v l) (hl : l.length ≤ 100000000) (hn : n < 4294967296) :
    Calls Tryd.prog 39 #[v, .int .i64 n] W fun e w' => ∃ v', e = .returned v' ∧ ES W1 w' v' (l ++ four n) :=
  (withNum_any l v W1.heap.size n W hl hn h.2.size h.1).mono fun _ _ ⟨v', e, h1, h2⟩ => ⟨v', e, h.grown h1 h2⟩
theorem ES.sum {W1 W : World} {v : Value} {l : List UInt8} (h : ES W1 W v l) (hl : l.length ≤ 281474976710656) :
    Calls Tryd.prog 18 #[v] W fun e w' => e = .returned (.int .i64 (sumN l)) ∧ ES W1 w' v l := by
  obtain ⟨p, c, rfl, -⟩ := h.1.shape
  exact (sum_any l p c W hl h.1.br).mono fun _ _ ⟨e, hb⟩ => ⟨e, h.later hb⟩
theorem ES.slice {W1 W : World} {v : Value} {l : List UInt8} (h : ES W1 W v l) : ∃ p c, v = .slice p l.length c := by
  obtain ⟨p, c, e, -⟩ := h.1.shape
  exact ⟨p, c, e⟩
/-- a record in a box -/
def RBX (W : World) (b : Nat) (s k : Int) (t : List UInt8) : Prop := W.cell? ⟨b, 0, none⟩ = some (.int .i64 s) ∧ W.cell? ⟨b, 1, none⟩ = some (.int .i64 k) ∧ W.cell? ⟨b, 2, none⟩ = some (.string ⟨t.toArray⟩)
theorem RBX.later {B : Nat} {W X : World} {b : Nat} {s k : Int} {t : List UInt8} (h : RBX W b s k t) (hb : Below B W X) (hB : b < B) : RBX X b s k t :=
  ⟨(hb.cell hB).trans h.1, (hb.cell hB).trans h.2.1, (hb.cell hB).trans h.2.2⟩
theorem RBX_new {W : World} {b T : Nat} {s k : Int} {t : List UInt8} (h : W.heap[b]? = some (.cells #[.int .i64 s, .int .i64 k, .string ⟨t.toArray⟩] T (0, 0))) : RBX W b s k t := by
  have := (cellsZ h).1
  exact ⟨this 0, this 1, this 2⟩
theorem cells_head {k : Int} (h1 : 1 ≤ k) (h2 : k ≤ 4) : [.int .u8 82, .int .u8 76, .int .u8 k, .int .u8 0] = Lib.byteCells [82, 76, UInt8.ofNat k.toNat, 0] := by
  obtain ⟨n, rfl⟩ : ∃ n : Nat, k = n := ⟨k.toNat, by omega⟩
  have h : ((UInt8.ofNat n).toNat : Int) = (n : Int) := by rw [UInt8.toNat_ofNat']; omega
  simp only [Lib.byteCells, List.map_cons, List.map_nil, Int.toNat_natCast, h]
  rfl
set_option maxRecDepth 100000 in
set_option maxHeartbeats 2000000 in
theorem encode_any (s k : Int) (t : List UInt8) (w : World) :
    Calls Tryd.prog 28 #[.agg #[.int .i64 s, .int .i64 k, .string ⟨t.toArray⟩]] w fun e w' => ∃ v, e = .returned (.tuple #[v, .int .i64 (enE s k t)]) ∧ OB w' w.heap.size v (enB s k t) ∧ Below w.heap.size w w' := by
  obtain ⟨W1, hW1⟩ : ∃ W1, w.alloc (.cells #[.int .i64 s, .int .i64 k, .string ⟨t.toArray⟩] 35 (0, 0)) = W1 := ⟨_, rfl⟩
  have b1 : Below w.heap.size w W1 := by rw [← hW1]; exact (Below.refl _ _).alloc (Nat.le_refl _) _
  have HX : Hid (RBX W1 w.heap.size s k t) := by rw [← hW1]; exact RBX_new (alloc_getZ _ _)
  have hs1 : w.heap.size < W1.heap.size := by rw [← hW1]; simp
  have HC : Hid (∀ X, Below W1.heap.size W1 X → RBX X w.heap.size s k t) := fun X hX => HX.out.later hX hs1
  obtain ⟨c0, c1, c2⟩ := HX.out
  clear HX
  by_cases h1 : 16384 < t.length
  · have e : enE s k t = 2 := if_pos h1
    have eb : enB s k t = [] := by unfold enB; rw [e]; rfl
    rw [e, eb]
    have h1' : (16384 : Int) < (t.length : Int) := by omega
    go_enter Tryd.func28, Tryd.ntmps28
    go_wp2_with fail
    refine bodyPost_ret (res_enc _ _ _ _ ⟨rfl, rfl⟩) rfl ?_
    exact ⟨_, rfl, World.ownsRow_nil _ _ _ _, b1⟩
  · have h1' : ¬ (16384 : Int) < (t.length : Int) := by omega
    cases hm : mB s k with
    | false =>
      have e : enE s k t = 190 := by unfold enE; rw [if_neg h1, hm]; rfl
      have eb : enB s k t = [] := by unfold enB; rw [e]; rfl
      rw [e, eb]
      have HM := mayBe_any s k t W1
      rw [hm] at HM
      have HM2 : Hid (Calls Tryd.prog 38 #[.agg #[.int .i64 s, .int .i64 k, .string ⟨t.toArray⟩]] W1 fun e w' => e = .returned (.bool false) ∧ Below W1.heap.size W1 w') := HM
      clear HM
      go_enter Tryd.func28, Tryd.ntmps28
      go_wp2_with fail
      refine HM2.out.mono ?_
      rintro e W2 ⟨rfl, b2⟩
      go_wp2_with fail
      refine bodyPost_ret (res_enc _ _ _ _ ⟨rfl, rfl⟩) rfl ?_
      exact ⟨_, rfl, World.ownsRow_nil _ _ _ _, bel0Z b1 b2⟩
    | true =>
      have e : enE s k t = 0 := by unfold enE; rw [if_neg h1, hm]; rfl
      have eb : enB s k t = encL s.toNat k.toNat t := by unfold enB; rw [e]; rfl
      rw [e, eb]
      obtain ⟨S, K, rfl, rfl, hmay⟩ := mB_ok hm
      have k1 : (1 : Int) ≤ (K : Int) := by unfold may at hmay; omega
      have k4 : (K : Int) ≤ 4 := by unfold may at hmay; omega
      have s32 : S < 4294967296 := by unfold may at hmay; omega
      have kw : (K : Int) % 256 = K := by omega
      rw [Int.toNat_natCast, Int.toNat_natCast]
      have HM := mayBe_any S K t W1
      rw [hm] at HM
      have HM2 : Hid (Calls Tryd.prog 38 #[.agg #[.int .i64 S, .int .i64 K, .string ⟨t.toArray⟩]] W1 fun e w' => e = .returned (.bool true) ∧ Below W1.heap.size W1 w') := HM
      have HT : Hid (t.length ≤ 16384) := Nat.le_of_not_lt h1
      clear HM hm hmay eb e h1
      obtain ⟨i0, hi, hz0, hz1, hz2⟩ := info_parts info_u8
      go_enter Tryd.func28, Tryd.ntmps28
      go_wp2_with fail
      refine HM2.out.mono ?_
      rintro e W2 ⟨rfl, b2⟩
      obtain ⟨d0, d1, d2⟩ := HC.out W2 b2
      go_wp2_with (at_make; refine wpList_make_own _ rfl _ _ 31 rfl W1.heap.size 5 i0 (.int .u8 0) 1 Tryd.underlying31 hi hz0 hz1 .i64 .i64 _ (20 + t.length) rfl rfl (by have := HT.out; omega) (by rw [hz2]; have := HT.out; omega) (by unfold maxLen; have := HT.out; omega) b2.size ?_)
      intro W3 hown hgrow
      have E3 : Hid (ES W1 W3 (.slice (some ⟨W2.heap.size, 0, none⟩) 0 (20 + t.length)) []) := ⟨hown, bel_grZ b2 hgrow (fun k e => by cases e)⟩
      clear hown hgrow
      obtain ⟨f0, f1, f2⟩ := HC.out W3 E3.out.2
      have hA : ∀ o : Obj, Below W3.heap.size W3 (W3.alloc o) := fun o => (Below.refl _ _).alloc (Nat.le_refl _) o
      go_wp2_with (at_builtin; refine app_bytes rfl _ _ rfl W1.heap.size _ [] rfl (E3.out.later (hA _)).1 _ _ _ [82, 76, UInt8.ofNat K, 0] rfl rfl (BR_new (alloc_getZ _ _) (cells_head k1 k4)) (by decide) (E3.out.later (hA _)).2.size ?_)
      intro v4 W4 o4 g4_ _
      have E4 : Hid (ES W1 W4 v4 ([] ++ [82, 76, UInt8.ofNat K, 0])) := (E3.out.later (hA _)).grown o4 g4_
      rw [List.nil_append] at E4
      clear o4 g4_ E3 f0 f1 f2 d0 d1 d2 hA
      obtain ⟨f0, f1, f2⟩ := HC.out W4 E4.out.2
      obtain ⟨p4, q4, rfl⟩ := E4.out.slice
      go_wp2_with fail
      refine (ES.num E4.out (Nat.le_of_ble_eq_true rfl) s32).mono ?_
      rintro e W5 ⟨v5, rfl, E5⟩
      clear f0 f1 f2
      obtain ⟨f0, f1, f2⟩ := HC.out W5 E5.2
      obtain ⟨p5, q5, rfl⟩ := E5.slice
      have E5H : Hid (ES W1 W5 (.slice p5 (hd8 S K).length q5) (hd8 S K)) := E5
      clear E5 E4
      have t32 : t.length < 4294967296 := by have := HT.out; omega
      go_wp2_with fail
      refine (ES.num E5H.out (Nat.le_of_ble_eq_true rfl) t32).mono ?_
      rintro e W6 ⟨v6, rfl, E6⟩
      clear f0 f1 f2
      obtain ⟨f0, f1, f2⟩ := HC.out W6 E6.2
      obtain ⟨p6, q6, rfl⟩ := E6.slice
      have E6H : Hid (ES W1 W6 (.slice p6 (hd S K t.length).length q6) (hd S K t.length)) := E6
      clear E6 E5H
      go_wp2_with fail
      refine (ES.sum E6H.out (Nat.le_of_ble_eq_true rfl)).mono ?_
      rintro e W7 ⟨rfl, E7⟩
      clear f0 f1 f2 E6H
      have E7H : Hid (ES W1 W7 (.slice p6 (hd S K t.length).length q6) (hd S K t.length)) := E7
      clear E7
      have u32 := sumN_lt (hd S K t.length)
      go_wp2_with fail
      refine (ES.num E7H.out (Nat.le_of_ble_eq_true rfl) u32).mono ?_
      rintro e W8 ⟨v8, rfl, E8⟩
      obtain ⟨f0, f1, f2⟩ := HC.out W8 E8.2
      obtain ⟨p8, q8, rfl⟩ := E8.slice
      have E8H : Hid (ES W1 W8 (.slice p8 (hd16 S K t.length).length q8) (hd16 S K t.length)) := E8
      clear E8 E7H u32
      go_wp2_with (at_builtin; refine app_text rfl _ _ rfl W1.heap.size _ (hd16 S K t.length) rfl E8H.out.1 t rfl (by have := HT.out; rw [hd16_len]; omega) E8H.out.2.size ?_)
      intro v9 W9 o9 g9
      have E9 : ES W1 W9 v9 (bod S K t) := E8H.out.grown o9 g9
      obtain ⟨p9, q9, rfl⟩ := E9.slice
      have E9H : Hid (ES W1 W9 (.slice p9 (bod S K t).length q9) (bod S K t)) := E9
      clear E9 o9 g9 E8H f0 f1 f2
      have lb : (bod S K t).length ≤ 100000000 := by rw [bod_len]; have := HT.out; omega
      have HLB : Hid ((bod S K t).length ≤ 100000000) := lb
      clear lb
      go_wp2_with fail
      refine (ES.sum E9H.out (by have := HLB.out; omega)).mono ?_
      rintro e WA ⟨rfl, EA⟩
      have EAH : Hid (ES W1 WA (.slice p9 (bod S K t).length q9) (bod S K t)) := EA
      clear EA E9H
      have u32 := sumN_lt (bod S K t)
      go_wp2_with fail
      refine (ES.num EAH.out HLB.out u32).mono ?_
      rintro e WB ⟨vB, rfl, EB⟩
      obtain ⟨pB_, qB, rfl⟩ := EB.slice
      have EBH : Hid (ES W1 WB (.slice pB_ (encL S K t).length qB) (encL S K t)) := EB
      clear EB
      go_wp2_with fail
      refine bodyPost_ret (res_enc _ _ _ _ ⟨rfl, rfl⟩) rfl ?_
      refine ⟨_, rfl, ?_, bel0Z b1 EBH.out.2⟩
      show OB WB w.heap.size (.slice pB_ ((bod S K t).length + (four (sumN (bod S K t))).length) qB) _
      rw [← List.length_append]
      exact EBH.out.1.base b1.size
end Go.Proofs.YtkmnonkabekclaaDoor

import Derived.Test.YtffgkjmfeannoaaGreatDoorXBP
import Derived.Test.YtffgkjmfeannoaaGreatDoorXAK
namespace Go.Proofs.YtffgkjmfeannoaaGreatDoor.Ex
open Go.RowKit
variable {w0 W X : World} {b : Nat} {pt : Option Addr} {ct : Nat} {L : List XTok} {i m e : Nat} {Q : List Nat} {out : List Nd}
theorem deep_rev (Q : List Nat) : deep Q.reverse = deep Q := by unfold deep; rw [List.filter_reverse, List.length_reverse]
theorem deep_len (Q : List Nat) : deep Q ≤ Q.length := by unfold deep; exact List.length_filter_le _ _
theorem deep_take {l : List Nat} {k x : Nat} (h : l[k]? = some x) : deep (l.take (k + 1)) = deep (l.take k) + (if x = 40 ∨ x = 33 then 1 else 0) := by
  unfold deep
  rw [List.take_add_one, h, List.filter_append, List.length_append]
  congr 1
  by_cases h1 : x = 40
  · subst h1; rfl
  · by_cases h2 : x = 33
    · subst h2; rfl
    · rw [if_neg (by omega)]
      simp [h1, h2]
set_option maxRecDepth 100000 in
set_option maxHeartbeats 4000000 in
theorem deep_any (hb : w0.heap.size ≤ b) (hq : Q.length ≤ 90000) (h : DS w0 b pt ct L W i Q out m e) :
    Calls Tryz.prog 22 #[.pointer (some ⟨b, 0, none⟩)] W fun en W' => en = .returned (.tuple #[]) ∧ DS w0 b pt ct L W' i Q out m (if 32 ≤ deep Q then flE e 53 else e) := by
  obtain ⟨p, c, c2, hp⟩ := h.pile
  have c1 := h.cells.2.1
  have HF := fail_any 53 i hb h
  have HFI : Hid (flI e i i = i) := by show flI e i i = i; unfold flI; split <;> rfl
  rw [HFI.out] at HF
  have HS := hideL h
  obtain ⟨R, hR⟩ : ∃ R, Q.reverse = R := ⟨_, rfl⟩
  have HD : Hid (deep Q = deep R) := by show deep Q = deep R; rw [← hR, deep_rev]
  have hRl : Q.length = R.length := by rw [← hR, List.length_reverse]
  rw [HD.out]
  obtain ⟨E, hE⟩ : ∃ E, E = (if 32 ≤ deep R then flE e 53 else e) := ⟨_, rfl⟩
  rw [← hE]
  have HE := hideL hE
  rw [hR] at hp
  have HP := hideL hp
  rw [hRl] at c2 hq
  clear h hp hR hb hRl HD hE
  go_enter Tryz.func22, Tryz.ntmps22
  go_wp2_with fail
  go_loopw [2, 3] (fun vn vi wr => ∃ k n : Nat, vi = .int .i64 (k : Int) ∧ vn = .int .i64 (n : Int) ∧ k ≤ R.length ∧ Hid (n = deep (R.take k)) ∧ wr = W) (fun _ vi _ => R.length - (intOf vi).toNat)
  case atStart => exact ⟨0, 0, rfl, rfl, Nat.zero_le _, by show (0 : Nat) = _; simp [deep], rfl⟩
  case round =>
    obtain ⟨k, n, rfl, rfl, hk, HN, rfl⟩ := hrel
    by_cases hlt : k < R.length
    · have j0 : (0 : Int) ≤ (k : Int) := by omega
      have j1 : (k : Int) < (R.length : Int) := by omega
      obtain ⟨x, hx⟩ : ∃ x, R[k]? = some x := ⟨_, List.getElem?_eq_getElem hlt⟩
      obtain ⟨g, rfl, hc⟩ := HP.out k x hx
      have hT := deep_take hx
      have hn : n ≤ 90000 := by
        have := deep_len (R.take k)
        rw [← HN.out, List.length_take] at this
        omega
      have y5 : IntKind.i64.wrap ((n : Int) + 1) = (n : Int) + 1 := by rw [IntKind.wrap_i64]; omega
      rw [← HN.out] at hT
      by_cases h1 : x = 40
      · subst h1
        have HN2 : Hid (n + 1 = deep (R.take (k + 1))) := hT.symm
        clear hT hx HN
        go_wp2_with fail
        go_roundw
        case rel => exact ⟨k + 1, n + 1, by go_num, by go_num, by omega, HN2, by first | rfl | trivial⟩
        case measure => simp [intOf]; omega
      · have y1 : ((x : Int) == 40) = false := beq_eq_false_iff_ne.2 (by omega)
        by_cases h2 : x = 33
        · subst h2
          have HN2 : Hid (n + 1 = deep (R.take (k + 1))) := hT.symm
          clear hT hx HN h1
          go_wp2_with fail
          go_roundw
          case rel => exact ⟨k + 1, n + 1, by go_num, by go_num, by omega, HN2, by first | rfl | trivial⟩
          case measure => simp [intOf]; omega
        · have y2 : ((x : Int) == 33) = false := beq_eq_false_iff_ne.2 (by omega)
          have HN2 : Hid (n = deep (R.take (k + 1))) := by
            show n = _
            rw [hT, if_neg (by omega), Nat.add_zero]
          clear hT hx HN h1 h2
          go_wp2_with fail
          go_roundw
          case rel => exact ⟨k + 1, n, by go_num, by go_num, by omega, HN2, by first | rfl | trivial⟩
          case measure => simp [intOf]; omega
    · obtain rfl : k = R.length := by omega
      have j1 : ¬ (R.length : Int) < (R.length : Int) := by omega
      rw [List.take_length] at HN
      by_cases h32 : 32 ≤ n
      · have y1 : (32 : Int) ≤ (n : Int) := by omega
        obtain rfl : E = flE e 53 := by rw [HE.out, ← HN.out, if_pos h32]
        clear HN h32 hlt HE
        go_wp2_with fail
        refine HF.mono ?_
        rintro en W1 ⟨rfl, s1⟩
        have HD1 := hideL s1
        clear HF s1
        go_wp2_with fail
        go_end0
        exact ⟨rfl, HD1.out⟩
      · have y1 : ¬ (32 : Int) ≤ (n : Int) := by omega
        obtain rfl : E = e := by rw [HE.out, ← HN.out, if_neg h32]
        clear HN h32 hlt HE
        go_wp2_with fail
        go_end0
        exact ⟨rfl, HS.out⟩
set_option maxRecDepth 100000 in
set_option maxHeartbeats 4000000 in
theorem fail0_any (en k : Nat) (hb : w0.heap.size ≤ b) (h : DS w0 b pt ct L W i Q out m 0) :
    Calls Tryz.prog 26 #[.pointer (some ⟨b, 0, none⟩), .int .i64 (en : Int), .int .i64 (k : Int)] W fun en' W' => en' = .returned (.tuple #[]) ∧ DS w0 b pt ct L W' k Q out m en ∧ ∀ (bt : Nat) (cs : Array Value), bt ≠ b → BT W bt cs → BT W' bt cs := by
  obtain ⟨c0, c1, c4, c5, cf⟩ := h.cells
  have h1 := h.set hb (i' := i) (m' := m) (e' := en) 5 (.int .i64 (en : Int)) (fun vo vn => by simp)
  have h2 := h1.set hb (i' := k) (m' := m) (e' := en) 1 (.int .i64 (k : Int)) (fun vo vn => by simp)
  obtain ⟨d0, d1, d4, d5, df⟩ := h1.cells
  have f5 := cf 5
  have f1 := df 1
  have HS := hideL h2
  clear h h1 h2 c0 c1 c4 cf d0 d4 d5 df
  go_enter Tryz.func26, Tryz.ntmps26
  go_wp2_with fail
  go_end0
  exact ⟨rfl, HS.out, fun bt cs hne hB => (hB.other hne _).other hne _⟩
def RVQ (w0 : World) (b : Nat) (pt : Option Addr) (ct : Nat) (L : List XTok) (Q : List Nat) (out : List Nd) (m i : Nat) (W : World) (r : Option Int) (en : Ending) (W' : World) : Prop :=
  (match r with
    | none => en = .returned (.int .i64 0) ∧ DS w0 b pt ct L W' i Q out m 50
    | some v => en = .returned (.int .i64 v) ∧ DS w0 b pt ct L W' (i + 1) Q out m 0) ∧ ∀ (bt : Nat) (cs : Array Value), bt ≠ b → BT W bt cs → BT W' bt cs
set_option maxRecDepth 100000 in
set_option maxHeartbeats 4000000 in
theorem rvalue_any (hX : XR w0 pt L) (hb : w0.heap.size ≤ b) (hlen : L.length ≤ 100000) (hS : shT L) (h : DS w0 b pt ct L W i Q out m 0) :
    Calls Tryz.prog 41 #[.pointer (some ⟨b, 0, none⟩)] W (RVQ w0 b pt ct L Q out m i W (nvX (tokAt L i))) := by
  obtain ⟨c0, c1, c4, c5, cf⟩ := h.cells
  have HF : Hid (∀ U, DS w0 b pt ct L U i Q out m 0 → Calls Tryz.prog 26 #[.pointer (some ⟨b, 0, none⟩), .int .i64 50, .int .i64 (i : Int)] U fun en' W' => en' = .returned (.tuple #[]) ∧ DS w0 b pt ct L W' i Q out m 50 ∧ ∀ (bt : Nat) (cs : Array Value), bt ≠ b → BT U bt cs → BT W' bt cs) := fun U hU => fail0_any 50 i hb hU
  have hsz := hS.at i
  obtain ⟨n, hn⟩ : ∃ n, L.length = n := ⟨_, rfl⟩
  have hx := hX.below h.2
  have HS : Hid (DS w0 b pt ct L W i Q out m 0 ∧ w0.heap.size ≤ b) := ⟨h, hb⟩
  have HN : Hid (L.length = n) := hn
  rw [hn] at c0 hlen
  by_cases hk : i < n
  · have ht : L[i]? = some (tokAt L i) := by unfold tokAt; rw [List.getD_eq_getElem?_getD, List.getElem?_eq_getElem (by omega)]; rfl
    obtain ⟨g, o, rfl, g0, g1, g2, g3⟩ := hx i _ ht
    obtain ⟨⟨tk, tx, tl, tc⟩, htk⟩ : ∃ t, tokAt L i = t := ⟨_, rfl⟩
    rw [htk] at g0 g1 hsz ⊢
    simp only at g0 g1 hsz
    have j0 : (i : Int) < (n : Int) := by omega
    have j2 : ¬ (n : Int) ≤ (i : Int) := by omega
    have y5 : IntKind.i64.wrap ((i : Int) + 1) = (i : Int) + 1 := by rw [IntKind.wrap_i64]; omega
    have HCC : Hid (∀ U, Below W.heap.size W U → U.cell? ⟨b, 0, none⟩ = some (.slice (some ⟨g, o, none⟩) n ct) ∧ U.cell? ⟨b, 1, none⟩ = some (.int .i64 (i : Int)) ∧ U.cell? ⟨g, o + i * 4 + 1, none⟩ = some (.string ⟨tx.toArray⟩)) := fun U hU => ⟨(hU.cell (World.block_lt_of_cell? W _ c0)).trans c0, (hU.cell (World.block_lt_of_cell? W _ c1)).trans c1, (hU.cell (World.block_lt_of_cell? W _ g1)).trans g1⟩
    clear hx ht htk g2 g3 hn cf c4 h hX hb hS
    by_cases h4 : tk = 4
    · subst h4
      have HV : Hid (∀ U, Calls Tryz.prog 58 #[.string ⟨tx.toArray⟩] U fun e w' => e = .returned (.tuple #[.int .i64 (valV tx), .int .i64 (valE tx)]) ∧ Below U.heap.size U w') := fun U => refValue_any tx U hsz
      obtain ⟨V, hV⟩ : ∃ V, valV tx = V := ⟨_, rfl⟩
      obtain ⟨E, hE⟩ : ∃ E, valE tx = E := ⟨_, rfl⟩
      have HNV : Hid (nvX ((4 : Int), tx, tl, tc) = if E = 0 then some V else none) := by show nvX _ = _; unfold nvX; rw [hV, hE, if_pos rfl]
      rw [HNV.out]
      rw [hV, hE] at HV
      clear hV hE HNV hsz
      by_cases h0 : E = 0
      · subst h0
        go_enter Tryz.func41, Tryz.ntmps41
        go_wp2_with fail
        go_quiet (fail)
        go_wp2_with fail
        refine quiet_lit3 (C := fun U => Below W.heap.size W U) (by kernel_rfl) (by kernel_rfl) (show Below _ _ _ from (bel_drewZ nq (Below.refl _ _)).drew) ?_
        go_big_quiet_want
        go_big_quiet_op
        go_big_quiet_on
        go_big_quiet_want
        refine ⟨.pointer (some ⟨b, 0, none⟩), fun W hW => ?_, ?_⟩
        · go_simp
        go_big_quiet_on
        simp only [Act.put, List.setIfInBounds_toArray, List.set_cons_zero, List.set_cons_succ]
        go_big_quiet_want
        refine ⟨.pointer (some ⟨b, 0, none⟩), fun W hW => ?_, ?_⟩
        · go_simp
        go_big_quiet_on
        simp only [Act.put, List.setIfInBounds_toArray, List.set_cons_zero, List.set_cons_succ]
        go_big_quiet_want
        refine ⟨.slice (some ⟨g, o, none⟩) n ct, fun W hW => ?_, ?_⟩
        · obtain ⟨k0, k1, k2⟩ := HCC.out W hW
          go_simp
        go_big_quiet_on
        simp only [Act.put, List.setIfInBounds_toArray, List.set_cons_zero, List.set_cons_succ]
        go_big_quiet_want
        go_big_quiet_op
        go_big_quiet_on
        go_big_quiet_want
        refine ⟨.pointer (some ⟨b, 0, none⟩), fun W hW => ?_, ?_⟩
        · go_simp
        go_big_quiet_on
        simp only [Act.put, List.setIfInBounds_toArray, List.set_cons_zero, List.set_cons_succ]
        go_big_quiet_want
        refine ⟨.pointer (some ⟨b, 1, none⟩), fun W hW => ?_, ?_⟩
        · go_simp
        go_big_quiet_on
        simp only [Act.put, List.setIfInBounds_toArray, List.set_cons_zero, List.set_cons_succ]
        go_big_quiet_want
        refine ⟨.int .i64 (i : Int), fun W hW => ?_, ?_⟩
        · obtain ⟨k0, k1, k2⟩ := HCC.out W hW
          go_simp
        go_big_quiet_on
        simp only [Act.put, List.setIfInBounds_toArray, List.set_cons_zero, List.set_cons_succ]
        go_big_quiet_want
        refine ⟨.pointer (some ⟨g, o + i * 4, none⟩), fun W hW => ?_, ?_⟩
        · go_simp
        go_big_quiet_on
        simp only [Act.put, List.setIfInBounds_toArray, List.set_cons_zero, List.set_cons_succ]
        go_big_quiet_want
        refine ⟨.pointer (some ⟨g, o + i * 4 + 1, none⟩), fun W hW => ?_, ?_⟩
        · go_simp
        go_big_quiet_on
        simp only [Act.put, List.setIfInBounds_toArray, List.set_cons_zero, List.set_cons_succ]
        go_big_quiet_want
        refine ⟨.string ⟨tx.toArray⟩, fun W hW => ?_, ?_⟩
        · obtain ⟨k0, k1, k2⟩ := HCC.out W hW
          go_simp
        go_big_quiet_on
        simp only [Act.put, List.setIfInBounds_toArray, List.set_cons_zero, List.set_cons_succ]
        go_big_quiet_want
        refine ⟨.tuple #[.int .i64 V, .int .i64 0], fun W hW => ?_, ?_⟩
        · go_simp
          refine (HV.out W).mono ?_
          rintro e w7 ⟨rfl, hb⟩
          exact ⟨rfl, bel0Z hW hb⟩
        go_big_quiet_on
        simp only [Act.put, List.setIfInBounds_toArray, List.set_cons_zero, List.set_cons_succ]
        go_big_quiet_want
        go_big_quiet_op
        go_big_quiet_on
        go_big_quiet_want
        refine ⟨.int .i64 V, fun W hW => ?_, ?_⟩
        · go_simp
        go_big_quiet_on
        simp only [Act.put, List.setIfInBounds_toArray, List.set_cons_zero, List.set_cons_succ]
        go_big_quiet_want
        refine ⟨.int .i64 0, fun W hW => ?_, ?_⟩
        · go_simp
        go_big_quiet_on
        simp only [Act.put, List.setIfInBounds_toArray, List.set_cons_zero, List.set_cons_succ]
        go_big_quiet_want
        go_big_quiet_op
        go_big_quiet_on
        go_big_quiet_want
        go_big_quiet_op
        go_big_quiet_on
        refine wpQuiet_nil ?_
        intro W1 b1
        have s1 := HS.out.1.below b1
        obtain ⟨d0, d1, d4, d5, df⟩ := s1.cells
        have f1 := df 1
        have HK : Hid (∀ (bt : Nat) (cs : Array Value), bt ≠ b → BT W bt cs → BT (W1.setCell ⟨b, 1, none⟩ (.int .i64 ((i : Int) + 1))) bt cs) := fun bt cs hne hB => (hB.below b1).other hne _
        have HD := hideL (s1.set HS.out.2 (i' := i + 1) (m' := m) (e' := 0) 1 (.int .i64 ((i : Int) + 1)) (fun vo vn => by simp))
        clear HV b1 s1 d0 d4 d5 df
        go_wp2_with fail
        go_ret
        exact ⟨⟨rfl, HD.out⟩, HK.out⟩
      · have y2 : (E == 0) = false := beq_eq_false_iff_ne.2 h0
        have y3 : (E != 0) = true := by simp only [bne, y2]; rfl
        rw [if_neg h0]
        clear h0
        go_enter Tryz.func41, Tryz.ntmps41
        go_wp2_with fail
        go_quiet (fail)
        go_wp2_with fail
        refine quiet_lit3 (C := fun U => Below W.heap.size W U) (by kernel_rfl) (by kernel_rfl) (show Below _ _ _ from (bel_drewZ nq (Below.refl _ _)).drew) ?_
        go_big_quiet_want
        go_big_quiet_op
        go_big_quiet_on
        go_big_quiet_want
        refine ⟨.pointer (some ⟨b, 0, none⟩), fun W hW => ?_, ?_⟩
        · go_simp
        go_big_quiet_on
        simp only [Act.put, List.setIfInBounds_toArray, List.set_cons_zero, List.set_cons_succ]
        go_big_quiet_want
        refine ⟨.pointer (some ⟨b, 0, none⟩), fun W hW => ?_, ?_⟩
        · go_simp
        go_big_quiet_on
        simp only [Act.put, List.setIfInBounds_toArray, List.set_cons_zero, List.set_cons_succ]
        go_big_quiet_want
        refine ⟨.slice (some ⟨g, o, none⟩) n ct, fun W hW => ?_, ?_⟩
        · obtain ⟨k0, k1, k2⟩ := HCC.out W hW
          go_simp
        go_big_quiet_on
        simp only [Act.put, List.setIfInBounds_toArray, List.set_cons_zero, List.set_cons_succ]
        go_big_quiet_want
        go_big_quiet_op
        go_big_quiet_on
        go_big_quiet_want
        refine ⟨.pointer (some ⟨b, 0, none⟩), fun W hW => ?_, ?_⟩
        · go_simp
        go_big_quiet_on
        simp only [Act.put, List.setIfInBounds_toArray, List.set_cons_zero, List.set_cons_succ]
        go_big_quiet_want
        refine ⟨.pointer (some ⟨b, 1, none⟩), fun W hW => ?_, ?_⟩
        · go_simp
        go_big_quiet_on
        simp only [Act.put, List.setIfInBounds_toArray, List.set_cons_zero, List.set_cons_succ]
        go_big_quiet_want
        refine ⟨.int .i64 (i : Int), fun W hW => ?_, ?_⟩
        · obtain ⟨k0, k1, k2⟩ := HCC.out W hW
          go_simp
        go_big_quiet_on
        simp only [Act.put, List.setIfInBounds_toArray, List.set_cons_zero, List.set_cons_succ]
        go_big_quiet_want
        refine ⟨.pointer (some ⟨g, o + i * 4, none⟩), fun W hW => ?_, ?_⟩
        · go_simp
        go_big_quiet_on
        simp only [Act.put, List.setIfInBounds_toArray, List.set_cons_zero, List.set_cons_succ]
        go_big_quiet_want
        refine ⟨.pointer (some ⟨g, o + i * 4 + 1, none⟩), fun W hW => ?_, ?_⟩
        · go_simp
        go_big_quiet_on
        simp only [Act.put, List.setIfInBounds_toArray, List.set_cons_zero, List.set_cons_succ]
        go_big_quiet_want
        refine ⟨.string ⟨tx.toArray⟩, fun W hW => ?_, ?_⟩
        · obtain ⟨k0, k1, k2⟩ := HCC.out W hW
          go_simp
        go_big_quiet_on
        simp only [Act.put, List.setIfInBounds_toArray, List.set_cons_zero, List.set_cons_succ]
        go_big_quiet_want
        refine ⟨.tuple #[.int .i64 V, .int .i64 E], fun W hW => ?_, ?_⟩
        · go_simp
          refine (HV.out W).mono ?_
          rintro e w7 ⟨rfl, hb⟩
          exact ⟨rfl, bel0Z hW hb⟩
        go_big_quiet_on
        simp only [Act.put, List.setIfInBounds_toArray, List.set_cons_zero, List.set_cons_succ]
        go_big_quiet_want
        go_big_quiet_op
        go_big_quiet_on
        go_big_quiet_want
        refine ⟨.int .i64 V, fun W hW => ?_, ?_⟩
        · go_simp
        go_big_quiet_on
        simp only [Act.put, List.setIfInBounds_toArray, List.set_cons_zero, List.set_cons_succ]
        go_big_quiet_want
        refine ⟨.int .i64 E, fun W hW => ?_, ?_⟩
        · go_simp
        go_big_quiet_on
        simp only [Act.put, List.setIfInBounds_toArray, List.set_cons_zero, List.set_cons_succ]
        go_big_quiet_want
        go_big_quiet_op
        go_big_quiet_on
        go_big_quiet_want
        go_big_quiet_op
        go_big_quiet_on
        refine wpQuiet_nil ?_
        intro W1 b1
        have s1 := HS.out.1.below b1
        obtain ⟨d0, d1, d4, d5, df⟩ := s1.cells
        have HB1 := hideL b1
        have HF1 := HF.out W1 s1
        clear HV b1 s1 d0 d4 d5 df
        go_wp2_with fail
        refine HF1.mono ?_
        rintro en W2 ⟨rfl, s2, k2⟩
        have HD := hideL s2
        have HK := hideL k2
        clear HF1 s2 k2
        go_wp2_with fail
        go_ret
        exact ⟨⟨rfl, HD.out⟩, fun bt cs hne hB => HK.out bt cs hne (hB.below HB1.out)⟩
    · have y1 : (tk == 4) = false := beq_eq_false_iff_ne.2 h4
      have y3 : (tk != 4) = true := by simp only [bne, y1]; rfl
      have HNV : Hid (nvX (tk, tx, tl, tc) = none) := by show nvX _ = _; unfold nvX; rw [if_neg h4]
      rw [HNV.out]
      clear h4 hsz
      go_enter Tryz.func41, Tryz.ntmps41
      go_wp2_with fail
      go_quiet (fail)
      have HF1 := HF.out _ (HS.out.1.below (bel_drewZ nq (Below.refl _ _)))
      go_wp2_with fail
      refine HF1.mono ?_
      rintro en W2 ⟨rfl, s2, k2⟩
      have HD := hideL s2
      have HK := hideL k2
      clear HF1 s2 k2
      go_wp2_with fail
      go_ret
      exact ⟨⟨rfl, HD.out⟩, fun bt cs hne hB => HK.out bt cs hne (hB.below (bel_drewZ nq (Below.refl _ _)))⟩
  · have j2 : (n : Int) ≤ (i : Int) := by omega
    have HNV : Hid (nvX (tokAt L i) = none) := by
      rcases nvX_in L i with h1 | h1
      · exfalso; omega
      · exact h1
    rw [HNV.out]
    clear hx hn cf c4 h hX hb hS hsz hk HNV
    go_enter Tryz.func41, Tryz.ntmps41
    go_wp2_with fail
    go_quiet (fail)
    have HF1 := HF.out _ (HS.out.1.below (bel_drewZ nq (Below.refl _ _)))
    go_wp2_with fail
    refine HF1.mono ?_
    rintro en W2 ⟨rfl, s2, k2⟩
    have HD := hideL s2
    have HK := hideL k2
    clear HF1 s2 k2
    go_wp2_with fail
    go_ret
    exact ⟨⟨rfl, HD.out⟩, fun bt cs hne hB => HK.out bt cs hne (hB.below (bel_drewZ nq (Below.refl _ _)))⟩
set_option maxRecDepth 100000 in
set_option maxHeartbeats 4000000 in
theorem rop_any (hX : XR w0 pt L) (hlen : L.length ≤ 100000) (h : DS w0 b pt ct L W i Q out m e) :
    Calls Tryz.prog 39 #[.pointer (some ⟨b, 0, none⟩)] W fun en W' => en = .returned (.int .i64 ((opN (tokAt L i) : Nat) : Int)) ∧ W' = W := by
  have c1 := h.cells.2.1
  have HA : Hid (∀ sg : List UInt8, Calls Tryz.prog 21 #[.pointer (some ⟨b, 0, none⟩), .int .i64 (i : Int), .string ⟨sg.toArray⟩] W fun en W' => en = .returned (.bool (isS (tokAt L i) sg)) ∧ W' = W) := fun sg => sign_any i sg hX hlen h
  obtain ⟨T, hT⟩ : ∃ T, tokAt L i = T := ⟨_, rfl⟩
  rw [hT] at HA ⊢
  have HO : Hid (opN T = if isS T [61] then 1 else if isS T [33, 61] then 2 else if isS T [60] then 3 else if isS T [60, 61] then 4 else if isS T [62] then 5 else if isS T [62, 61] then 6 else 0) := rfl
  rw [HO.out]
  clear HO hT h hX hlen
  have H1 := HA.out [61]
  have H2 := HA.out [33, 61]
  have H3 := HA.out [60]
  have H4 := HA.out [60, 61]
  have H5 := HA.out [62]
  have H6 := HA.out [62, 61]
  clear HA
  cases q1 : isS T [61] with
  | true =>
    rw [q1] at H1
    clear q1
    go_enter Tryz.func39, Tryz.ntmps39
    go_wp2_with fail
    refine H1.mono ?_
    rintro en W' ⟨rfl, hw⟩
    obtain rfl := hw.symm
    clear hw
    go_wp2_with fail
    go_ret
    exact ⟨rfl, rfl⟩
  | false =>
    rw [q1] at H1
    cases q2 : isS T [33, 61] with
    | true =>
      rw [q2] at H2
      clear q1 q2
      go_enter Tryz.func39, Tryz.ntmps39
      go_wp2_with fail
      refine H1.mono ?_
      rintro en W' ⟨rfl, hw⟩
      obtain rfl := hw.symm
      clear hw
      go_wp2_with fail
      refine H2.mono ?_
      rintro en W' ⟨rfl, hw⟩
      obtain rfl := hw.symm
      clear hw
      go_wp2_with fail
      go_ret
      exact ⟨rfl, rfl⟩
    | false =>
      rw [q2] at H2
      cases q3 : isS T [60] with
      | true =>
        rw [q3] at H3
        clear q1 q2 q3
        go_enter Tryz.func39, Tryz.ntmps39
        go_wp2_with fail
        refine H1.mono ?_
        rintro en W' ⟨rfl, hw⟩
        obtain rfl := hw.symm
        clear hw
        go_wp2_with fail
        refine H2.mono ?_
        rintro en W' ⟨rfl, hw⟩
        obtain rfl := hw.symm
        clear hw
        go_wp2_with fail
        refine H3.mono ?_
        rintro en W' ⟨rfl, hw⟩
        obtain rfl := hw.symm
        clear hw
        go_wp2_with fail
        go_ret
        exact ⟨rfl, rfl⟩
      | false =>
        rw [q3] at H3
        cases q4 : isS T [60, 61] with
        | true =>
          rw [q4] at H4
          clear q1 q2 q3 q4
          go_enter Tryz.func39, Tryz.ntmps39
          go_wp2_with fail
          refine H1.mono ?_
          rintro en W' ⟨rfl, hw⟩
          obtain rfl := hw.symm
          clear hw
          go_wp2_with fail
          refine H2.mono ?_
          rintro en W' ⟨rfl, hw⟩
          obtain rfl := hw.symm
          clear hw
          go_wp2_with fail
          refine H3.mono ?_
          rintro en W' ⟨rfl, hw⟩
          obtain rfl := hw.symm
          clear hw
          go_wp2_with fail
          refine H4.mono ?_
          rintro en W' ⟨rfl, hw⟩
          obtain rfl := hw.symm
          clear hw
          go_wp2_with fail
          go_ret
          exact ⟨rfl, rfl⟩
        | false =>
          rw [q4] at H4
          cases q5 : isS T [62] with
          | true =>
            rw [q5] at H5
            clear q1 q2 q3 q4 q5
            go_enter Tryz.func39, Tryz.ntmps39
            go_wp2_with fail
            refine H1.mono ?_
            rintro en W' ⟨rfl, hw⟩
            obtain rfl := hw.symm
            clear hw
            go_wp2_with fail
            refine H2.mono ?_
            rintro en W' ⟨rfl, hw⟩
            obtain rfl := hw.symm
            clear hw
            go_wp2_with fail
            refine H3.mono ?_
            rintro en W' ⟨rfl, hw⟩
            obtain rfl := hw.symm
            clear hw
            go_wp2_with fail
            refine H4.mono ?_
            rintro en W' ⟨rfl, hw⟩
            obtain rfl := hw.symm
            clear hw
            go_wp2_with fail
            refine H5.mono ?_
            rintro en W' ⟨rfl, hw⟩
            obtain rfl := hw.symm
            clear hw
            go_wp2_with fail
            go_ret
            exact ⟨rfl, rfl⟩
          | false =>
            rw [q5] at H5
            cases q6 : isS T [62, 61] with
            | true =>
              rw [q6] at H6
              clear q1 q2 q3 q4 q5 q6
              go_enter Tryz.func39, Tryz.ntmps39
              go_wp2_with fail
              refine H1.mono ?_
              rintro en W' ⟨rfl, hw⟩
              obtain rfl := hw.symm
              clear hw
              go_wp2_with fail
              refine H2.mono ?_
              rintro en W' ⟨rfl, hw⟩
              obtain rfl := hw.symm
              clear hw
              go_wp2_with fail
              refine H3.mono ?_
              rintro en W' ⟨rfl, hw⟩
              obtain rfl := hw.symm
              clear hw
              go_wp2_with fail
              refine H4.mono ?_
              rintro en W' ⟨rfl, hw⟩
              obtain rfl := hw.symm
              clear hw
              go_wp2_with fail
              refine H5.mono ?_
              rintro en W' ⟨rfl, hw⟩
              obtain rfl := hw.symm
              clear hw
              go_wp2_with fail
              refine H6.mono ?_
              rintro en W' ⟨rfl, hw⟩
              obtain rfl := hw.symm
              clear hw
              go_wp2_with fail
              go_ret
              exact ⟨rfl, rfl⟩
            | false =>
              rw [q6] at H6
              clear q1 q2 q3 q4 q5 q6
              go_enter Tryz.func39, Tryz.ntmps39
              go_wp2_with fail
              refine H1.mono ?_
              rintro en W' ⟨rfl, hw⟩
              obtain rfl := hw.symm
              clear hw
              go_wp2_with fail
              refine H2.mono ?_
              rintro en W' ⟨rfl, hw⟩
              obtain rfl := hw.symm
              clear hw
              go_wp2_with fail
              refine H3.mono ?_
              rintro en W' ⟨rfl, hw⟩
              obtain rfl := hw.symm
              clear hw
              go_wp2_with fail
              refine H4.mono ?_
              rintro en W' ⟨rfl, hw⟩
              obtain rfl := hw.symm
              clear hw
              go_wp2_with fail
              refine H5.mono ?_
              rintro en W' ⟨rfl, hw⟩
              obtain rfl := hw.symm
              clear hw
              go_wp2_with fail
              refine H6.mono ?_
              rintro en W' ⟨rfl, hw⟩
              obtain rfl := hw.symm
              clear hw
              go_wp2_with fail
              go_ret
              exact ⟨rfl, rfl⟩
set_option maxRecDepth 100000 in
set_option maxHeartbeats 4000000 in
theorem plain_any (k : Nat) (hb : w0.heap.size ≤ b) (hil : i ≤ 100000) (hm : m ≤ 64) (hout : out.length ≤ 1000) (h : DS w0 b pt ct L W i Q out m 0) :
    Calls Tryz.prog 24 #[.pointer (some ⟨b, 0, none⟩), .int .i64 (k : Int)] W fun en W' => en = .returned (.tuple #[]) ∧ ((m = 64 ∧ DS w0 b pt ct L W' i Q out (m + 1) 51) ∨ (m ≠ 64 ∧ DS w0 b pt ct L W' (i + 1) Q (out ++ [nd k]) (m + 1) 0)) := by
  have HM := make1_any hb (by omega) h
  have HP : Hid (∀ U, DS w0 b pt ct L U i Q out (m + 1) 0 → Calls Tryz.prog 38 #[.pointer (some ⟨b, 0, none⟩), .int .i64 (k : Int)] U fun en' W' => en' = .returned (.tuple #[]) ∧ DS w0 b pt ct L W' i Q (out ++ [nd k]) (m + 1) 0) := fun U hU => put_any k hb hout hU
  have HB := hideL hb
  have y5 : IntKind.i64.wrap ((i : Int) + 1) = (i : Int) + 1 := by rw [IntKind.wrap_i64]; omega
  by_cases h64 : m = 64
  · rw [if_pos (by omega)] at HM
    have HE : Hid (flE 0 51 = 51) := rfl
    rw [HE.out] at HM
    have HF := hideL h64
    clear h hout hb hm h64 hil HE
    go_enter Tryz.func24, Tryz.ntmps24
    go_wp2_with fail
    refine HM.mono ?_
    rintro en W1 ⟨rfl, s1⟩
    have c5 := s1.cells.2.2.2.1
    have HD := hideL s1
    clear HM s1
    go_wp2_with fail
    go_end0
    exact ⟨rfl, .inl ⟨HF.out, HD.out⟩⟩
  · rw [if_neg (by omega)] at HM
    have HF := hideL h64
    clear h hout hb hm h64 hil
    go_enter Tryz.func24, Tryz.ntmps24
    go_wp2_with fail
    refine HM.mono ?_
    rintro en W1 ⟨rfl, s1⟩
    have c5 := s1.cells.2.2.2.1
    have HP1 := HP.out W1 s1
    clear HM s1
    go_wp2_with fail
    refine HP1.mono ?_
    rintro en W2 ⟨rfl, s2⟩
    obtain ⟨d0, d1, d4, d5, df⟩ := s2.cells
    have f1 := df 1
    have HD := hideL (s2.set HB.out (i' := i + 1) (m' := m + 1) (e' := 0) 1 (.int .i64 ((i : Int) + 1)) (fun vo vn => by simp))
    clear HP1 s2 d0 d4 d5 df
    go_wp2_with fail
    go_end0
    exact ⟨rfl, .inr ⟨HF.out, HD.out⟩⟩
end Go.Proofs.YtffgkjmfeannoaaGreatDoor.Ex

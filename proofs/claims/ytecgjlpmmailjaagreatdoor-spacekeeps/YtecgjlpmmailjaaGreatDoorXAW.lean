import Derived.Test.YtecgjlpmmailjaaGreatDoorXAS
import Derived.Test.YtecgjlpmmailjaaGreatDoorXAV
import Derived.Test.YtecgjlpmmailjaaGreatDoorXAO
import Derived.Test.YtecgjlpmmailjaaGreatDoorXAG
import Derived.Test.YtecgjlpmmailjaaGreatDoorXAN
import Derived.Test.YtecgjlpmmailjaaGreatDoorXAC
import Derived.OneCell
import Derived.Deep.AppendLies
import Derived.Deep.RegionHeld3
namespace Go.Proofs.YtecgjlpmmailjaaGreatDoor
open Go.RowKit Go.Shelf
theorem szC_append (A B : List (List UInt8 × List (List UInt8))) : szC (A ++ B) = szC A + szC B := by
  induction A with
  | nil => simp [szC]
  | cons t r ih => rw [List.cons_append, szC, szC, ih]; omega
theorem szC_filter (p : List UInt8 × List (List UInt8) → Bool) (A : List (List UInt8 × List (List UInt8))) : szC (A.filter p) ≤ szC A := by
  induction A with
  | nil => simp
  | cons t r ih =>
    rw [List.filter_cons]
    split
    · rw [szC, szC]; omega
    · rw [szC]; omega
theorem szC_stl (Ts : List (List UInt8 × List (List UInt8))) : szC (stl Ts) ≤ szC Ts := by
  induction Ts with
  | nil => simp [stl]
  | cons t r ih =>
    unfold stl at ih ⊢
    rw [List.filterMap_cons, szC]
    cases h : setO t.1 t.2 with
    | none => simp only [Option.map_none]; omega
    | some R =>
      have := setO_len h
      simp only [Option.map_some]
      show (1 + R.length) + szC _ ≤ _
      omega
theorem szC_topF (L : List (List UInt8 × List (List UInt8))) : ∀ T : List (List UInt8 × List (List UInt8)), szC (L.foldl topCS T) ≤ szC T + szC L := by
  induction L with
  | nil => intro T; simp
  | cons x l ih =>
    intro T
    have h1 := ih (topCS T x)
    have h2 : szC (topCS T x) ≤ szC T + (1 + x.2.length) := by
      unfold topCS
      split
      · omega
      · rw [szC_append]
        have := szC_filter (fun y => !cvC y x) T
        have e : szC [x] = 1 + x.2.length := by simp [szC]
        omega
    rw [List.foldl_cons, szC]
    omega
theorem szC_top (Ts : List (List UInt8 × List (List UInt8))) : szC (topC (stl Ts)) ≤ szC Ts := by
  have h1 := szC_topF (stl Ts) []
  have h2 := szC_stl Ts
  unfold topC
  have e : szC ([] : List (List UInt8 × List (List UInt8))) = 0 := rfl
  omega
theorem szC_len (Ts : List (List UInt8 × List (List UInt8))) : Ts.length ≤ szC Ts := by
  induction Ts with
  | nil => simp
  | cons t r ih => rw [szC, List.length_cons]; omega
theorem szC_mem {Ts : List (List UInt8 × List (List UInt8))} : ∀ t ∈ Ts, t.2.length ≤ szC Ts := by
  induction Ts with
  | nil => intro t h; cases h
  | cons t r ih =>
    intro x hx
    rw [szC]
    rcases List.mem_cons.1 hx with rfl | hx
    · omega
    · have := ih x hx; omega
theorem SPL.below {W X : World} {B : Nat} {V : Value} {Ts : List (List UInt8 × List (List UInt8))} (h : SPL W B V Ts) (hb : Below W.heap.size W X) : SPL X B V Ts := by
  obtain ⟨Z, h1, h2, h3⟩ := h
  exact ⟨Z, h1, own_belQ h2 hb, fun z hz => own_belQ (h3 z hz) hb⟩
theorem SPL.base {W : World} {A B : Nat} {V : Value} {Ts : List (List UInt8 × List (List UInt8))} (h : SPL W B V Ts) (hA : A ≤ B) : SPL W A V Ts := by
  obtain ⟨Z, h1, h2, h3⟩ := h
  exact ⟨Z, h1, own_base h2 hA, fun z hz => own_base (h3 z hz) hA⟩
theorem SPL.kept {W X : World} {B b : Nat} {V : Value} {Ts : List (List UInt8 × List (List UInt8))} (h : SPL W B V Ts) (hg : W.grownBy X (some b)) (hb : b < B) : SPL X B V Ts := by
  obtain ⟨Z, h1, h2, h3⟩ := h
  exact ⟨Z, h1, h2.kept hg (.inr (fun e => by have := (h2.lt _ e).1; omega)), fun z hz => (h3 z hz).kept hg (.inr (fun e => by have := ((h3 z hz).lt _ e).1; omega))⟩
theorem SPL.shape {W : World} {B : Nat} {V : Value} {Ts : List (List UInt8 × List (List UInt8))} (h : SPL W B V Ts) : ∃ p c, V = .slice p Ts.length c := by
  obtain ⟨Z, rfl, h2, h3⟩ := h
  obtain ⟨p, c, e⟩ := shapeQ1 h2
  exact ⟨p, c, by rw [List.length_map]; exact e⟩
theorem SPL_nil (W : World) (B : Nat) : SPL W B (.slice none 0 0) [] := ⟨[], rfl, World.ownsRow_nil _ _ _ _, fun z hz => by cases hz⟩
def gdC (Ts : List (List UInt8 × List (List UInt8))) : Prop := ∀ t ∈ Ts, good t.1 = true ∧ ∀ x ∈ t.2, good x = true
set_option maxRecDepth 100000 in
theorem spText_zero (b : Int) (p : Option Addr) (cp : Nat) (w : World) : Calls Tryz.prog 12 #[.agg #[.int .i64 b, .slice p 0 cp, .bool false]] w fun e w' => e = .returned (.string ⟨#[110, 111, 110, 101]⟩) ∧ Below w.heap.size w w' := by
  obtain ⟨w2, hw2⟩ : ∃ w2, w.alloc (.cells #[.int .i64 b, .slice p 0 cp, .bool false] 28 (0, 0)) = w2 := ⟨_, rfl⟩
  have h0 : w2.heap[w.heap.size]? = some (.cells #[.int .i64 b, .slice p 0 cp, .bool false] 28 (0, 0)) := by rw [← hw2]; exact alloc_get _ _
  have hB : Below w.heap.size w w2 := by rw [← hw2]; exact belA (Below.refl _ _) _
  obtain ⟨hc0, -⟩ := cells_block h0
  have HI : Hid (Calls Tryz.prog 25 #[.agg #[.int .i64 b, .slice p 0 cp, .bool false]] w2 fun e w' => e = .returned (.agg #[.int .i64 b, .slice p 0 cp, .bool false]) ∧ Below w2.heap.size w2 w') := inForm_any b p 0 cp w2
  clear h0
  have hfl := fld1
  go_enter Tryz.func12, Tryz.ntmps12
  go_wp2_with fail
  refine HI.out.mono ?_
  rintro e W1 ⟨rfl, hb1⟩
  go_wp2_with fail
  go_ret
  exact ⟨rfl, bel0 hB hb1⟩
theorem spText_any (b : Int) (V : Value) (Ts : List (List UInt8 × List (List UInt8))) (B : Nat) (w : World) (h : SPL w B V Ts) (ho : szC Ts ≤ 128) (hg : gdC Ts) : Calls Tryz.prog 12 #[.agg #[.int .i64 b, V, .bool false]] w fun e w' => e = .returned (.string ⟨(txC Ts).toArray⟩) ∧ Below w.heap.size w w' := by
  obtain ⟨Z, rfl, h2, h3⟩ := h
  obtain ⟨p, c, rfl⟩ := shapeQ1 h2
  cases hZ : Z with
  | nil =>
    exact spText_zero b p c w
  | cons z0 Z0 =>
    rw [← hZ]
    have hne : Z ≠ [] := by rw [hZ]; simp
    have hl := szC_len (Z.map ZT.cont)
    rw [List.length_map] at hl
    have e : txC (Z.map ZT.cont) = jn (Z.map txZ) := by
      unfold txC
      rw [if_neg (by simp [hne]), List.map_map]
      rfl
    rw [e]
    refine spText_pos b p c Z.length Z B w rfl (by rw [hZ]; simp) (by omega) h2 h3 (fun z hz => ?_) (fun z hz => ?_)
    · have := szC_mem z.cont (List.mem_map_of_mem (f := ZT.cont) hz)
      have e2 : z.cont.2 = z.L := rfl
      rw [e2] at this
      omega
    · exact hg z.cont (List.mem_map_of_mem (f := ZT.cont) hz)
set_option maxRecDepth 100000 in
theorem spSize_any (b : Int) (V : Value) (Ts : List (List UInt8 × List (List UInt8))) (B : Nat) (w : World) (h : SPL w B V Ts) (ho : szC Ts ≤ 128) : Calls Tryz.prog 13 #[.agg #[.int .i64 b, V, .bool false]] w fun e w' => e = .returned (.int .i64 (szC Ts : Int)) ∧ Below w.heap.size w w' := by
  obtain ⟨Z, rfl, h2, -⟩ := h
  obtain ⟨p, cp, rfl⟩ := shapeQ1 h2
  have hl := szC_len (Z.map ZT.cont)
  rw [List.length_map] at hl
  rw [← szC_map] at ho hl ⊢
  obtain ⟨w2, hw2⟩ : ∃ w2, w.alloc (.cells #[.int .i64 b, .slice p Z.length cp, .bool false] 28 (0, 0)) = w2 := ⟨_, rfl⟩
  have h0 : w2.heap[w.heap.size]? = some (.cells #[.int .i64 b, .slice p Z.length cp, .bool false] 28 (0, 0)) := by rw [← hw2]; exact alloc_get _ _
  have hB : Below w.heap.size w w2 := by rw [← hw2]; exact belA (Below.refl _ _) _
  obtain ⟨hc0, -⟩ := cells_block h0
  have HI : Hid (Calls Tryz.prog 25 #[.agg #[.int .i64 b, .slice p Z.length cp, .bool false]] w2 fun e w' => e = .returned (.agg #[.int .i64 b, .slice p Z.length cp, .bool false]) ∧ Below w2.heap.size w2 w') := inForm_any b p _ cp w2
  have HS : Hid (∀ W, Below w2.heap.size w2 W → Calls Tryz.prog 17 #[.slice p Z.length cp] W fun e w' => e = .returned (.int .i64 (szZ Z : Int)) ∧ Below W.heap.size W w') := fun W hW => size_any (Z.map ZT.t) Z.length p cp W (by rw [List.length_map]) (by omega) (by show szZ Z ≤ _; omega) (IRZ_own (own_belQ h2 (bel0 hB hW)) rfl).irt
  clear h0 h2
  have hfl := fld1
  go_enter Tryz.func13, Tryz.ntmps13
  go_wp2_with fail
  refine HI.out.mono ?_
  rintro e W1 ⟨rfl, hb1⟩
  go_wp2_with fail
  refine (HS.out W1 hb1).mono ?_
  rintro e W2 ⟨rfl, hb2⟩
  go_wp2_with fail
  go_ret
  exact ⟨rfl, bel0 hB (bel0 hb1 hb2)⟩
end Go.Proofs.YtecgjlpmmailjaaGreatDoor
namespace Go.Proofs.YtecgjlpmmailjaaGreatDoor
open Go.RowKit Go.Shelf
def nnB (b : Int) : Int := if b < 1 ∨ 256 < b then 0 else b
theorem bel3 {w w2 : World} {W : World} (hB : Below w.heap.size w w2) (h : Below w2.heap.size w2 W) (v0 v1 v2 : Value) : Below w.heap.size w (((W.setCell ⟨w.heap.size, 0, none⟩ v0).setCell ⟨w.heap.size, 1, none⟩ v1).setCell ⟨w.heap.size, 2, none⟩ v2) := (((bel0 hB h).setCell (Nat.le_refl _) _).setCell (Nat.le_refl _) _).setCell (Nat.le_refl _) _
set_option maxRecDepth 100000 in
theorem none_any (b : Int) (w : World) : Calls Tryz.prog 15 #[.int .i64 b] w fun e w' => e = .returned (.agg #[.int .i64 (nnB b), .slice none 0 0, .bool false]) ∧ Below w.heap.size w w' := by
  obtain ⟨w2, hw2⟩ : ∃ w2, w.alloc (.cells #[.int .i64 0, .slice none 0 0, .bool false] 28 (0, 0)) = w2 := ⟨_, rfl⟩
  have h0 : w2.heap[w.heap.size]? = some (.cells #[.int .i64 0, .slice none 0 0, .bool false] 28 (0, 0)) := by rw [← hw2]; exact alloc_get _ _
  have hB : Below w.heap.size w w2 := by rw [← hw2]; exact belA (Below.refl _ _) _
  obtain ⟨hc0, hf0⟩ := cells_block h0
  by_cases h1 : b < 1
  · have HF : Hid (_ = _) := keep3 h0 0 (.slice none 0 0) false
    have HN : Hid (nnB b = 0) := if_pos (.inl h1)
    clear h0
    go_enter Tryz.func15, Tryz.ntmps15
    go_wp2_with fail
    refine bodyPost_ret (v := .agg #[.int .i64 0, .slice none 0 0, .bool false]) (res_space _ _ w.heap.size _ _ _ Tryz.results15 rfl HF.out) rfl ?_
    exact ⟨by rw [HN.out], bel3 hB (Below.refl _ _) _ _ _⟩
  · by_cases h2 : 256 < b
    · have HF : Hid (_ = _) := keep3 h0 0 (.slice none 0 0) false
      have HN : Hid (nnB b = 0) := if_pos (.inr h2)
      clear h0
      go_enter Tryz.func15, Tryz.ntmps15
      go_wp2_with fail
      refine bodyPost_ret (v := .agg #[.int .i64 0, .slice none 0 0, .bool false]) (res_space _ _ w.heap.size _ _ _ Tryz.results15 rfl HF.out) rfl ?_
      exact ⟨by rw [HN.out], bel3 hB (Below.refl _ _) _ _ _⟩
    · have HF : Hid (_ = _) := keep3 h0 b (.slice none 0 0) false
      have HN : Hid (nnB b = b) := if_neg (by omega)
      clear h0
      go_enter Tryz.func15, Tryz.ntmps15
      go_wp2_with fail
      refine bodyPost_ret (v := .agg #[.int .i64 b, .slice none 0 0, .bool false]) (res_space _ _ w.heap.size _ _ _ Tryz.results15 rfl HF.out) rfl ?_
      exact ⟨by rw [HN.out], bel3 hB (Below.refl _ _) _ _ _⟩
def prE (b : Int) (l : List UInt8) : Int := if 33024 < l.length then 2 else if b < 1 ∨ 256 < b then 1 else if l = [110, 111, 110, 101] then 0 else if (prts 43 l).all (okT b.toNat) = false then 20 else if 128 < szC ((prts 43 l).map tcon) then 3 else 0
def prB (b : Int) (l : List UInt8) : Int := if prE b l = 0 then b else 0
def prT (b : Int) (l : List UInt8) : List (List UInt8 × List (List UInt8)) := if prE b l = 0 then (if l = [110, 111, 110, 101] then [] else ordT (topC (stl ((prts 43 l).map tcon)))) else []
def PRS (w w' : World) (b : Int) (l : List UInt8) (e : Ending) : Prop := ∃ V, e = .returned (.tuple #[.agg #[.int .i64 (prB b l), V, .bool false], .int .i64 (prE b l)]) ∧ SPL w' w.heap.size V (prT b l) ∧ Below w.heap.size w w'
theorem PRS_no {w w' : World} {b : Int} {l : List UInt8} {c : Int} (h : prE b l = c) (hc : c ≠ 0) (hb : Below w.heap.size w w') : PRS w w' b l (.returned (.tuple #[.agg #[.int .i64 0, .slice none 0 0, .bool false], .int .i64 c])) := by
  have h1 : prE b l ≠ 0 := by rw [h]; exact hc
  refine ⟨.slice none 0 0, ?_, ?_, hb⟩
  · unfold prB
    rw [if_neg h1, h]
  · unfold prT
    rw [if_neg h1]
    exact SPL_nil _ _
set_option maxRecDepth 100000 in
set_option maxHeartbeats 2000000 in
theorem sParse_any (b : Int) (l : List UInt8) (w : World) (hl : l.length ≤ maxLen) : Calls Tryz.prog 5 #[.int .i64 b, .string ⟨l.toArray⟩] w fun e w' => PRS w w' b l e := by
  obtain ⟨w2, hw2⟩ : ∃ w2, w.alloc (.cells #[.int .i64 0, .slice none 0 0, .bool false] 28 (0, 0)) = w2 := ⟨_, rfl⟩
  have h0 : w2.heap[w.heap.size]? = some (.cells #[.int .i64 0, .slice none 0 0, .bool false] 28 (0, 0)) := by rw [← hw2]; exact alloc_get _ _
  have hB : Below w.heap.size w w2 := by rw [← hw2]; exact belA (Below.refl _ _) _
  obtain ⟨hc0, hf0⟩ := cells_block h0
  have hts : (⟨l.toArray⟩ : ByteArray).size = l.length := by simp [ByteArray.size]
  by_cases h1 : 33024 < l.length
  · have HF : Hid (_ = _) := keep3 h0 0 (.slice none 0 0) false
    have HE : Hid (prE b l = 2) := if_pos h1
    have j1 : (33024 : Int) < (l.length : Int) := by omega
    clear h0
    go_enter Tryz.func5, Tryz.ntmps5
    go_wp2_with fail
    refine bodyPost_ret (v := .tuple #[.agg #[.int .i64 0, .slice none 0 0, .bool false], .int .i64 2]) (res_space2 _ _ w.heap.size _ _ _ Tryz.results5 rfl HF.out) rfl ?_
    exact PRS_no HE.out (by decide) (bel3 hB (Below.refl _ _) _ _ _)
  · have j1 : ¬ (33024 : Int) < (l.length : Int) := by omega
    by_cases h2 : b < 1 ∨ 256 < b
    · have HF : Hid (_ = _) := keep3 h0 0 (.slice none 0 0) false
      have HE : Hid (prE b l = 1) := by unfold Hid prE; rw [if_neg h1, if_pos h2]
      clear h0
      rcases h2 with h2 | h2
      · go_enter Tryz.func5, Tryz.ntmps5
        go_wp2_with fail
        refine bodyPost_ret (v := .tuple #[.agg #[.int .i64 0, .slice none 0 0, .bool false], .int .i64 1]) (res_space2 _ _ w.heap.size _ _ _ Tryz.results5 rfl HF.out) rfl ?_
        exact PRS_no HE.out (by decide) (bel3 hB (Below.refl _ _) _ _ _)
      · have h3 : ¬ b < 1 := by omega
        go_enter Tryz.func5, Tryz.ntmps5
        go_wp2_with fail
        refine bodyPost_ret (v := .tuple #[.agg #[.int .i64 0, .slice none 0 0, .bool false], .int .i64 1]) (res_space2 _ _ w.heap.size _ _ _ Tryz.results5 rfl HF.out) rfl ?_
        exact PRS_no HE.out (by decide) (bel3 hB (Below.refl _ _) _ _ _)
    · have h3 : ¬ b < 1 := by omega
      have h4 : ¬ 256 < b := by omega
      by_cases h5 : l = [110, 111, 110, 101]
      · subst h5
        have HNO : Hid (Calls Tryz.prog 15 #[.int .i64 b] w2 fun e w' => e = .returned (.agg #[.int .i64 b, .slice none 0 0, .bool false]) ∧ Below w2.heap.size w2 w') := by
          unfold Hid
          have := none_any b w2
          rw [show nnB b = b from if_neg h2] at this
          exact this
        have HA : Hid (w2.heap[w.heap.size]? = some (.cells #[.int .i64 0, .slice none 0 0, .bool false] 28 (0, 0))) := h0
        have HE : Hid (prE b [110, 111, 110, 101] = 0) := by unfold Hid prE; rw [if_neg h1, if_neg h2, if_pos rfl]
        clear h0 h2
        go_enter Tryz.func5, Tryz.ntmps5
        go_wp2_with fail
        refine HNO.out.mono ?_
        rintro e W1 ⟨rfl, hb1⟩
        have hg1 := keepblk3 hb1 HA.out
        obtain ⟨hc1, hf1⟩ := cells_block hg1
        have HF : Hid (_ = _) := keep3 hg1 b (.slice none 0 0) false
        clear hg1
        go_wp2_with fail
        refine bodyPost_ret (v := .tuple #[.agg #[.int .i64 b, .slice none 0 0, .bool false], .int .i64 0]) (res_space2 _ _ w.heap.size _ _ _ Tryz.results5 rfl HF.out) rfl ?_
        refine ⟨.slice none 0 0, ?_, ?_, bel3 hB hb1 _ _ _⟩
        · unfold prB
          rw [HE.out, if_pos rfl]
        · unfold prT
          rw [HE.out, if_pos rfl, if_pos rfl]
          exact SPL_nil _ _
      · have hn1 : (l == [110, 111, 110, 101]) = false := by rw [beq_eq_false_iff_ne]; exact h5
        obtain ⟨n, rfl⟩ : ∃ n : Nat, b = n := ⟨b.toNat, by omega⟩
        have HA : Hid (w2.heap[w.heap.size]? = some (.cells #[.int .i64 0, .slice none 0 0, .bool false] 28 (0, 0))) := h0
        have HRT : Hid (Calls Tryz.prog 16 #[.int .i64 (n : Int), .string ⟨l.toArray⟩] w2 fun e w' => Below w2.heap.size w2 w' ∧ (((prts 43 l).all (okT n) = false ∧ e = .returned (.tuple #[.slice none 0 0, .bool false])) ∨ ((prts 43 l).all (okT n) = true ∧ ∃ v D, D.map (fun z => (z.c, z.L)) = (prts 43 l).map tcon ∧ e = .returned (.tuple #[v, .bool true]) ∧ w'.ownsRow w2.heap.size 67 10 v D.length (tes D) ∧ ∀ z ∈ D, ZOK w' z))) := readTerms_any n l w2 (by omega)
        have HLN : Hid ((prts 43 l).length ≤ 40001) := prts_len 43 40000 l (by omega)
        have HEQ : Hid (prE (n : Int) l = if (prts 43 l).all (okT n) = false then 20 else if 128 < szC ((prts 43 l).map tcon) then 3 else 0) := by
          unfold Hid prE
          rw [if_neg h1, if_neg h2, if_neg h5]
          rfl
        have H5 : Hid (¬ l = [110, 111, 110, 101]) := h5
        clear h0 h2 h5
        go_enter Tryz.func5, Tryz.ntmps5
        go_wp2_with fail
        refine HRT.out.mono ?_
        rintro e W1 ⟨hb1, ⟨hf, rfl⟩ | ⟨hf, v, D, hD, rfl, ho, hz⟩⟩
        · have HE : Hid (prE (n : Int) l = 20) := by unfold Hid; rw [HEQ.out, if_pos hf]
          have hg1 := keepblk3 hb1 HA.out
          obtain ⟨hc1, hf1⟩ := cells_block hg1
          have HF : Hid (_ = _) := keep3 hg1 0 (.slice none 0 0) false
          clear hg1 hf
          go_wp2_with fail
          refine bodyPost_ret (v := .tuple #[.agg #[.int .i64 0, .slice none 0 0, .bool false], .int .i64 20]) (res_space2 _ _ w.heap.size _ _ _ Tryz.results5 rfl HF.out) rfl ?_
          exact PRS_no HE.out (by decide) (bel3 hB hb1 _ _ _)
        · obtain ⟨pv, cv, rfl⟩ := shapeQ1 ho
          have hDl : D.length ≤ 40001 := by
            have := congrArg List.length hD
            rw [List.length_map, List.length_map] at this
            have := HLN.out
            omega
          have hsz : szZ D = szC ((prts 43 l).map tcon) := by
            rw [szC_map, ← hD]
            rfl
          have hzl : szZ D ≤ D.length * 1000001 := szZ_le D (fun z h => (hz z h).2.1)
          have HSZ : Hid (Calls Tryz.prog 17 #[.slice pv D.length cv] W1 fun e w' => e = .returned (.int .i64 (szZ D : Int)) ∧ Below W1.heap.size W1 w') := size_any (D.map ZT.t) D.length pv cv W1 (by rw [List.length_map]) (by omega) (by show szZ D ≤ _; omega) (IRZ_own ho rfl).irt
          have HFM : Hid (∀ W, Below W1.heap.size W1 W → Calls Tryz.prog 18 #[.int .i64 (n : Int), .slice pv D.length cv] W fun e w' => FRL W w' (n : Int) ((prts 43 l).map tcon) e) := by
            intro W hW
            have h := formed_any (n : Int) D D.length pv cv W rfl (by omega) ((IRZ_own ho rfl).later hW) (fun z h => (hz z h).later (KC_below hW))
            have e : D.map ZT.cont = (prts 43 l).map tcon := hD
            rw [e] at h
            exact h
          have HSE : Hid (szZ D = szC ((prts 43 l).map tcon) ∧ (prts 43 l).all (okT n) = true) := ⟨hsz, hf⟩
          have HB1 : Hid (Below w2.heap.size w2 W1) := hb1
          clear hD hf ho hz hsz hzl HLN hb1
          go_wp2_with fail
          refine HSZ.out.mono ?_
          rintro e W2 ⟨rfl, hb2⟩
          by_cases h6 : 128 < szZ D
          · have HE : Hid (prE (n : Int) l = 3) := by
              unfold Hid
              rw [HEQ.out, if_neg (by rw [HSE.out.2]; simp), if_pos (by rw [← HSE.out.1]; exact h6)]
            have j6 : (128 : Int) < (szZ D : Int) := by omega
            have hg1 := keepblk3 (bel0 HB1.out hb2) HA.out
            obtain ⟨hc1, hf1⟩ := cells_block hg1
            have HF : Hid (_ = _) := keep3 hg1 0 (.slice none 0 0) false
            clear hg1
            go_wp2_with fail
            refine bodyPost_ret (v := .tuple #[.agg #[.int .i64 0, .slice none 0 0, .bool false], .int .i64 3]) (res_space2 _ _ w.heap.size _ _ _ Tryz.results5 rfl HF.out) rfl ?_
            exact PRS_no HE.out (by decide) (bel3 hB (bel0 HB1.out hb2) _ _ _)
          · have HE : Hid (prE (n : Int) l = 0) := by
              unfold Hid
              rw [HEQ.out, if_neg (by rw [HSE.out.2]; simp), if_neg (by rw [← HSE.out.1]; exact h6)]
            have j6 : ¬ (128 : Int) < (szZ D : Int) := by omega
            have HB2 : Hid (Below w2.heap.size w2 W2) := bel0 HB1.out hb2
            go_wp2_with fail
            refine (HFM.out W2 hb2).mono ?_
            rintro e W3 ⟨hb3, ⟨_, V, rfl, hS⟩ | ⟨h7, _⟩⟩
            · obtain ⟨p7, c7, rfl⟩ := hS.shape
              have hg1 := keepblk3 (bel0 HB2.out hb3) HA.out
              obtain ⟨hc1, hf1⟩ := cells_block hg1
              have HF : Hid (_ = _) := keep3 hg1 (n : Int) (.slice p7 (ordT (topC (stl ((prts 43 l).map tcon)))).length c7) false
              have HS : Hid (SPL W3 W2.heap.size (.slice p7 (ordT (topC (stl ((prts 43 l).map tcon)))).length c7) (ordT (topC (stl ((prts 43 l).map tcon))))) := hS
              have HSZ2 : Hid (w.heap.size < W2.heap.size) := lt_of_get3 (keepblk3 HB2.out HA.out)
              clear hg1 hS
              go_wp2_with fail
              refine bodyPost_ret (v := .tuple #[.agg #[.int .i64 (n : Int), .slice p7 (ordT (topC (stl ((prts 43 l).map tcon)))).length c7, .bool false], .int .i64 0]) (res_space2 _ _ w.heap.size _ _ _ Tryz.results5 rfl HF.out) rfl ?_
              refine ⟨.slice p7 (ordT (topC (stl ((prts 43 l).map tcon)))).length c7, ?_, ?_, bel3 hB (bel0 HB2.out hb3) _ _ _⟩
              · unfold prB
                rw [HE.out, if_pos rfl]
              · unfold prT
                rw [HE.out, if_pos rfl, if_neg H5.out]
                have h := HSZ2.out
                exact (((HS.out.kept (set_grS _ _ _ _) h).kept (set_grS _ _ _ _) h).kept (set_grS _ _ _ _) h).base (by omega)
            · exfalso
              have h8 := szC_top ((prts 43 l).map tcon)
              have h9 := HSE.out.1
              omega
end Go.Proofs.YtecgjlpmmailjaaGreatDoor
namespace Go.Proofs.YtecgjlpmmailjaaGreatDoor
open Go.RowKit Go.Shelf
/-- Go's order of texts -/
theorem bl_cmp : ∀ (a b : List UInt8), Op.bytesLess a b = decide (Lib.compareBytes a b < 0)
  | [], [] => by simp [Op.bytesLess, Lib.compareBytes]
  | _ :: _, [] => by simp [Op.bytesLess, Lib.compareBytes]
  | [], _ :: _ => by simp [Op.bytesLess, Lib.compareBytes]
  | x :: a, y :: b => by
    rw [Op.bytesLess, Lib.compareBytes, bl_cmp a b]
    by_cases h1 : x < y
    · simp [h1]
    · by_cases h2 : y < x
      · have h3 : (x == y) = false := by
          rw [beq_eq_false_iff_ne]
          rintro rfl
          exact h1 h2
        simp [h1, h2, h3]
      · have h3 : x = y := by
          have a1 := UInt8.not_lt.1 h1
          have a2 := UInt8.not_lt.1 h2
          exact UInt8.le_antisymm a2 a1
        simp [h3]
def insT (x : List UInt8) : List (List UInt8) → List (List UInt8)
  | [] => [x]
  | y :: r => if Op.bytesLess x y = true then x :: y :: r else y :: insT x r
def putT (T : List (List UInt8)) (x : List UInt8) : List (List UInt8) := if T.any (fun y => wiB x y) = true then T else insT x (T.filter (fun y => !wiB y x))
def putL (L : List (List UInt8)) : List (List UInt8) := L.foldl putT []
theorem insT_perm (x : List UInt8) : ∀ L, (insT x L).Perm (x :: L)
  | [] => List.Perm.refl _
  | y :: r => by
    unfold insT
    split
    · exact List.Perm.refl _
    · exact ((insT_perm x r).cons y).trans (List.Perm.swap x y r)
theorem leB_of_less {x y : List UInt8} (h : Op.bytesLess x y = true) : leB x y = true := by
  rw [bl_cmp] at h
  unfold leB
  simp only [decide_eq_true_eq] at h ⊢
  omega
theorem leB_of_not {x y : List UInt8} (h : ¬ Op.bytesLess x y = true) : leB y x = true := by
  rw [bl_cmp] at h
  unfold leB
  simp only [decide_eq_true_eq] at h ⊢
  rcases cmpB_three x y with ⟨h1, h2⟩ | ⟨h1, h2⟩ | ⟨h1, h2⟩ <;> omega
theorem insT_sorted (x : List UInt8) : ∀ L : List (List UInt8), L.Pairwise (fun a b => leB a b = true) → (insT x L).Pairwise (fun a b => leB a b = true)
  | [], _ => by simp [insT]
  | y :: r, h => by
    rw [List.pairwise_cons] at h
    unfold insT
    split
    · rename_i hl
      have h1 := leB_of_less hl
      rw [List.pairwise_cons, List.pairwise_cons]
      refine ⟨fun z hz => ?_, h.1, h.2⟩
      rcases List.mem_cons.1 hz with rfl | hz
      · exact h1
      · exact leB_trans _ _ _ h1 (h.1 z hz)
    · rename_i hl
      have h1 := leB_of_not hl
      rw [List.pairwise_cons]
      refine ⟨fun z hz => ?_, insT_sorted x r h.2⟩
      rcases List.mem_cons.1 ((insT_perm x r).mem_iff.1 hz) with rfl | hz
      · exact h1
      · exact h.1 z hz
theorem any_perm {T U : List (List UInt8)} (hp : T.Perm U) (p : List UInt8 → Bool) : T.any p = U.any p := by
  rw [Bool.eq_iff_iff, List.any_eq_true, List.any_eq_true]
  exact ⟨fun ⟨x, h1, h2⟩ => ⟨x, hp.mem_iff.1 h1, h2⟩, fun ⟨x, h1, h2⟩ => ⟨x, hp.mem_iff.2 h1, h2⟩⟩
theorem putT_top {T U : List (List UInt8)} (x : List UInt8) (hp : T.Perm U) (hs : T.Pairwise (fun a b => leB a b = true)) : (putT T x).Perm (topS U x) ∧ (putT T x).Pairwise (fun a b => leB a b = true) := by
  unfold putT topS
  rw [any_perm hp]
  split
  · exact ⟨hp, hs⟩
  · refine ⟨(insT_perm x _).trans ?_, insT_sorted x _ (hs.sublist List.filter_sublist)⟩
    have h1 := hp.filter (fun y => !wiB y x)
    refine (h1.cons x).trans ?_
    exact (List.perm_append_comm (l₁ := [x]) (l₂ := List.filter (fun y => !wiB y x) U))
theorem putF_top (L : List (List UInt8)) : ∀ (T U : List (List UInt8)), T.Perm U → T.Pairwise (fun a b => leB a b = true) → (L.foldl putT T).Perm (L.foldl topS U) ∧ (L.foldl putT T).Pairwise (fun a b => leB a b = true) := by
  induction L with
  | nil => exact fun T U h1 h2 => ⟨h1, h2⟩
  | cons x r ih =>
    intro T U h1 h2
    have h3 := putT_top x h1 h2
    exact ih _ _ h3.1 h3.2
theorem putL_eq (L : List (List UInt8)) : putL L = srtT (topL L) :=
  have h := putF_top L [] [] (List.Perm.refl _) List.Pairwise.nil
  srt_eq h.1 h.2
theorem putL_step {L : List (List UInt8)} {k : Nat} {x : List UInt8} (h : L[k]? = some x) : putL (L.take (k + 1)) = putT (putL (L.take k)) x := by
  unfold putL
  rw [List.take_add_one, h, List.foldl_append]
  rfl
theorem wi_anti2 {a b : List UInt8} (h1 : wiB a b = true) (h2 : wiB b a = true) : a = b := by
  unfold wiB at h1 h2
  rw [Bool.and_eq_true, allTo_iff] at h1 h2
  have hl := fitB_len h1.1
  apply List.ext_getElem hl
  intro k k1 k2
  have e1 := h1.2 k k1
  have e2 := h2.2 k k2
  simp only [List.getElem?_eq_getElem k1, List.getElem?_eq_getElem k2] at e1 e2
  generalize a[k] = x at *
  generalize b[k] = y at *
  simp only [Bool.or_eq_true, beq_iff_eq] at e1 e2
  rcases e1 with e1 | e1
  · rcases e2 with e2 | e2
    · rw [e1, e2]
    · exact e2.symm
  · exact e1
/-- what two have in common is within the second -/
theorem mt_within {m c : List UInt8} (gm : good m = true) (gc : good c = true) (h : agB m c = true) : wiB (mtT m c) c = true := by
  have hf := agB_fit h
  have hl := fitB_len hf
  have hne : c ≠ [] := by
    rintro rfl
    have : m = [] := by simpa using hl
    rw [this] at hf
    simp [fitB] at hf
  unfold mtT
  rw [if_pos h]
  unfold wiB
  have hml := meetT_len m c hl
  rw [Bool.and_eq_true, allTo_iff]
  refine ⟨?_, fun k hk => ?_⟩
  · unfold fitB
    have h1 : meetT m c ≠ [] := by
      intro e
      rw [e] at hml
      exact hne (List.eq_nil_of_length_eq_zero (by rw [← hl, ← hml]; rfl))
    cases hz : meetT m c with
    | nil => exact absurd hz h1
    | cons z r =>
      rw [← hz, hml, hl]
      simp
      intro e
      exact h1 e
  · have k1 : k < m.length := by omega
    have k2 : k < c.length := by omega
    rw [meetT_get m c hl k k1, List.getElem?_eq_getElem k2]
    have hc := agB_cfl h k
    unfold cfl fx on at hc
    rw [List.getElem?_eq_getElem k1, List.getElem?_eq_getElem k2] at hc
    have ta := good_tri gm k k1
    have tb := good_tri gc k k2
    generalize m[k] = x at *
    generalize c[k] = y at *
    simp [tri] at ta tb
    rcases ta with (rfl | rfl) | rfl <;> rcases tb with (rfl | rfl) | rfl <;> simp_all
theorem lesL_within {c : List UInt8} {M : List (List UInt8)} (gc : good c = true) (gM : ∀ m ∈ M, good m = true) : ∀ t ∈ lesL c M, wiB t c = true := fun t ht => by
  unfold lesL at ht
  obtain ⟨m, hm, h⟩ := List.mem_filterMap.1 ht
  split at h
  · rename_i ha
    obtain rfl := Option.some.inj h
    exact mt_within (gM m hm) gc ha
  · cases h
/-- where c itself is among those that lie within c, c alone is left -/
theorem topF_whole {c : List UInt8} : ∀ (L T : List (List UInt8)), (∀ t ∈ L, wiB t c = true) → (∀ t ∈ T, wiB t c = true) → (T = [c] ∨ (c ∉ T ∧ c ∈ L)) → L.foldl topS T = [c]
  | [], T, _, _, h => by
    rcases h with rfl | ⟨-, h⟩
    · rfl
    · cases h
  | x :: L, T, hL, hT, h => by
    have hx := hL x List.mem_cons_self
    have hL2 : ∀ t ∈ L, wiB t c = true := fun t ht => hL t (List.mem_cons_of_mem _ ht)
    have hT2 : ∀ t ∈ topS T x, wiB t c = true := fun t ht => by
      rcases topS_mem ht with h | rfl
      · exact hT t h
      · exact hx
    refine topF_whole L (topS T x) hL2 hT2 ?_
    rcases h with rfl | ⟨h1, h2⟩
    · left
      unfold topS
      rw [if_pos (by simp [hx])]
    · by_cases hxc : x = c
      · subst hxc
        left
        unfold topS
        rw [if_neg, List.filter_eq_nil_iff.2]
        · rfl
        · intro y hy
          simp [hT y hy]
        · intro ha
          obtain ⟨y, hy, hw⟩ := List.any_eq_true.1 ha
          obtain rfl := wi_anti2 hw (hT y hy)
          exact h1 hy
      · right
        refine ⟨fun hm => ?_, ?_⟩
        · rcases topS_mem hm with h | h
          · exact h1 h
          · exact hxc h.symm
        · rcases List.mem_cons.1 h2 with h | h
          · exact absurd h.symm hxc
          · exact h
theorem put_none {c : List UInt8} {M : List (List UInt8)} (gc : good c = true) (gM : ∀ m ∈ M, good m = true) (h : setO c M = none) : putL (lesL c M) = [c] := by
  unfold setO at h
  split at h
  · rename_i ha
    obtain ⟨t, ht, he⟩ := List.any_eq_true.1 ha
    obtain rfl := beq_iff_eq.1 he
    rw [putL_eq]
    unfold topL
    rw [topF_whole _ [] (lesL_within gc gM) (by simp) (.inr ⟨by simp, ht⟩)]
    unfold srtT
    exact List.mergeSort_singleton _
  · cases h
theorem put_some {c : List UInt8} {M R : List (List UInt8)} (h : setO c M = some R) : putL (lesL c M) = srtT R ∧ c ∉ srtT R := by
  unfold setO at h
  split at h
  · cases h
  · rename_i ha
    obtain rfl := Option.some.inj h
    refine ⟨putL_eq _, fun hm => ha ?_⟩
    have h1 := topL_mem ((srtT_perm _).mem_iff.1 hm)
    exact List.any_eq_true.2 ⟨c, h1, by simp⟩
end Go.Proofs.YtecgjlpmmailjaaGreatDoor
namespace Go.Proofs.YtecgjlpmmailjaaGreatDoor
open Go.RowKit Go.Shelf
theorem cub_zero (t : List UInt8) : cubeT t = if cubB t = true then t else [] := by
  unfold cubeT
  by_cases h : refP t = 0
  · rw [if_pos h, if_pos ((cubB_iff t).2 ((refP_zero t).1 h))]
  · rw [if_neg h, if_neg (fun e => h ((refP_zero t).2 ((cubB_iff t).1 e)))]
/-- a row of texts lies there -/
def IRSt (w : World) (p : Option Addr) (L : List (List UInt8)) : Prop := ∀ W : World, Below w.heap.size w W → ∀ k t, L[k]? = some t → ∃ g o0, p = some ⟨g, o0, none⟩ ∧ W.cell? ⟨g, o0 + k, none⟩ = some (.string ⟨t.toArray⟩)
theorem IRSt.later {w W : World} {p : Option Addr} {L : List (List UInt8)} (h : IRSt w p L) (hb : Below w.heap.size w W) : IRSt W p L := fun X hX k t ht => h X (bel0 hb hX) k t ht
theorem IRSt_own {W : World} {B n c : Nat} {p : Option Addr} {L : List (List UInt8)} (h : W.ownsRow B 9 1 (.slice p n c) n (stx L)) (hn : L.length = n) : IRSt W p L := fun X hX k t ht => by
  obtain ⟨hk, he⟩ := List.getElem?_eq_some_iff.1 ht
  subst hn
  have h2 := own_belQ h hX
  rcases h2.2 with ⟨e, h0⟩ | ⟨g, cap, cur, e, _⟩
  · omega
  · injection e with e1 _ _
    subst e1
    refine ⟨g, 0, rfl, ?_⟩
    rw [Nat.zero_add]
    exact stx_at h2 hk he
theorem info_str2 : (Tryz.prog.info? 9).map (fun i => (i.zero, i.size, i.bytes)) = some (some (.string ⟨#[]⟩), 1, 16) := by kernel_rfl
theorem insT_app {x y : List UInt8} (hy : Op.bytesLess x y = true) (R : List (List UInt8)) : ∀ F : List (List UInt8), F.any (fun z => Op.bytesLess x z) = false → insT x (F ++ y :: R) = F ++ x :: y :: R
  | [], _ => by simp [insT, hy]
  | z :: F, h => by
    simp only [List.any_cons, Bool.or_eq_false_iff] at h
    simp [insT, h.1, insT_app hy R F h.2]
theorem insT_end {x : List UInt8} : ∀ F : List (List UInt8), F.any (fun z => Op.bytesLess x z) = false → insT x F = F ++ [x]
  | [], _ => by simp [insT]
  | z :: F, h => by
    simp only [List.any_cons, Bool.or_eq_false_iff] at h
    simp [insT, h.1, insT_end F h.2]
theorem insT_in {x : List UInt8} (y : List UInt8) : ∀ F : List (List UInt8), F.any (fun z => Op.bytesLess x z) = true → insT x (F ++ [y]) = insT x F ++ [y]
  | [], h => by simp at h
  | z :: F, h => by
    cases hz : Op.bytesLess x z with
    | true => simp [insT, hz]
    | false =>
      simp only [List.any_cons, hz, Bool.false_or] at h
      simp [insT, hz, insT_in y F h]
theorem insT_len (x : List UInt8) (F : List (List UInt8)) : (insT x F).length = F.length + 1 := (insT_perm x F).length_eq
/-- what put has made of the first k -/
def FT (T : List (List UInt8)) (x : List UInt8) (k : Nat) : List (List UInt8) := (T.take k).filter (fun y => !wiB y x)
def dn (T : List (List UInt8)) (x : List UInt8) (k : Nat) : Bool := (FT T x k).any (fun z => Op.bytesLess x z)
def mk (T : List (List UInt8)) (x : List UInt8) (k : Nat) : List (List UInt8) := if dn T x k = true then insT x (FT T x k) else FT T x k
theorem FT_skip {T : List (List UInt8)} {x y : List UInt8} {k : Nat} (h : T[k]? = some y) (hw : wiB y x = true) : FT T x (k + 1) = FT T x k := by
  unfold FT
  rw [List.take_add_one, h, List.filter_append]
  simp [hw]
theorem FT_step {T : List (List UInt8)} {x y : List UInt8} {k : Nat} (h : T[k]? = some y) (hw : wiB y x = false) : FT T x (k + 1) = FT T x k ++ [y] := by
  unfold FT
  rw [List.take_add_one, h, List.filter_append]
  simp [hw]
theorem mk_skip {T : List (List UInt8)} {x y : List UInt8} {k : Nat} (h : T[k]? = some y) (hw : wiB y x = true) : mk T x (k + 1) = mk T x k ∧ dn T x (k + 1) = dn T x k := by
  unfold mk dn
  rw [FT_skip h hw]
  exact ⟨rfl, rfl⟩
theorem mk_done {T : List (List UInt8)} {x y : List UInt8} {k : Nat} (h : T[k]? = some y) (hw : wiB y x = false) (hd : dn T x k = true) : mk T x (k + 1) = mk T x k ++ [y] ∧ dn T x (k + 1) = true := by
  have h1 : dn T x (k + 1) = true := by
    unfold dn at hd ⊢
    rw [FT_step h hw, List.any_append, hd]
    rfl
  refine ⟨?_, h1⟩
  unfold mk
  rw [if_pos h1, if_pos hd, FT_step h hw]
  exact insT_in y _ hd
theorem mk_now {T : List (List UInt8)} {x y : List UInt8} {k : Nat} (h : T[k]? = some y) (hw : wiB y x = false) (hd : dn T x k = false) (hl : Op.bytesLess x y = true) : mk T x (k + 1) = mk T x k ++ [x] ++ [y] ∧ dn T x (k + 1) = true := by
  have h1 : dn T x (k + 1) = true := by
    unfold dn
    rw [FT_step h hw, List.any_append]
    simp [hl]
  refine ⟨?_, h1⟩
  unfold mk
  rw [if_pos h1, if_neg (by rw [hd]; simp), FT_step h hw, insT_app hl [] _ hd]
  simp
theorem mk_not {T : List (List UInt8)} {x y : List UInt8} {k : Nat} (h : T[k]? = some y) (hw : wiB y x = false) (hd : dn T x k = false) (hl : Op.bytesLess x y = false) : mk T x (k + 1) = mk T x k ++ [y] ∧ dn T x (k + 1) = false := by
  have h1 : dn T x (k + 1) = false := by
    unfold dn at hd ⊢
    rw [FT_step h hw, List.any_append, hd]
    simp [hl]
  refine ⟨?_, h1⟩
  unfold mk
  rw [if_neg (by rw [h1]; simp), if_neg (by rw [hd]; simp), FT_step h hw]
theorem mk_len (T : List (List UInt8)) (x : List UInt8) (k : Nat) : (mk T x k).length ≤ k + 1 := by
  have h1 : (FT T x k).length ≤ k := by
    unfold FT
    refine Nat.le_trans (List.length_filter_le _ _) ?_
    rw [List.length_take]
    omega
  unfold mk
  split
  · rw [insT_len]; omega
  · omega
theorem mk_end {T : List (List UInt8)} {x : List UInt8} {k : Nat} (hk : T.length ≤ k) (ha : T.any (fun y => wiB x y) = false) : putT T x = if dn T x k = true then mk T x k else mk T x k ++ [x] := by
  unfold putT mk
  rw [if_neg (by rw [ha]; simp)]
  have hf : T.filter (fun y => !wiB y x) = FT T x k := by unfold FT; rw [List.take_of_length_le hk]
  rw [hf]
  split
  · rfl
  · rename_i h
    exact insT_end _ (by unfold dn at h; simpa using h)
end Go.Proofs.YtecgjlpmmailjaaGreatDoor
namespace Go.Proofs.YtecgjlpmmailjaaGreatDoor
open Go.RowKit Go.Shelf
theorem any_no {T : List (List UInt8)} {p : List UInt8 → Bool} {n : Nat} (hn : T.length ≤ n) (h : ∀ j t, j < n → T[j]? = some t → p t = false) : T.any p = false := by
  rw [List.any_eq_false]
  intro t ht
  obtain ⟨j, hj, he⟩ := List.getElem_of_mem ht
  rw [h j t (by omega) (by rw [List.getElem?_eq_getElem hj, he])]
  simp
theorem app_bel {w wr w1 : World} {o : Obj} {base : Nat} {e : TypeId} {size : Nat} {v : Value} {n : Nat} {xs : List Value} (hB : Below w.heap.size w wr) (hown : wr.ownsRow base e size v n xs) (hg : (wr.alloc o).grownBy w1 v.ownBlock) (hb : w.heap.size ≤ base) : Below w.heap.size w w1 :=
  (belA hB o).grown hg (belA hB o).size (fun k h => Nat.le_trans hb (hown.lt k h).1)
end Go.Proofs.YtecgjlpmmailjaaGreatDoor
namespace Go.Proofs.YtecgjlpmmailjaaGreatDoor
open Go.RowKit Go.Shelf
theorem set2_get {W : World} {b t : Nat} {x0 x1 : Value} (v0 v1 : Value) (h : W.heap[b]? = some (.cells #[x0, x1] t (0, 0))) : ((W.setCell ⟨b, 0, none⟩ v0).setCell ⟨b, 1, none⟩ v1).heap[b]? = some (.cells #[v0, v1] t (0, 0)) := by
  have h0 := set_get (j := 0) v0 h
  have h1 := set_get (j := 1) v1 h0
  rw [h1]
  simp
theorem set_gr (X : World) (b k : Nat) (u : Value) : X.grownBy (X.setCell ⟨b, k, none⟩ u) (some b) := ⟨rfl, rfl, rfl, by simp, fun j _ hj => heap_setCell_other X ⟨b, k, none⟩ j u (fun e => hj (by simp [e]))⟩
theorem lesL_step {c : List UInt8} {M : List (List UInt8)} {k : Nat} {m : List UInt8} (h : M[k]? = some m) : putL (lesL c (M.take (k + 1))) = if agB m c = true then putT (putL (lesL c (M.take k))) (mtT m c) else putL (lesL c (M.take k)) := by
  rw [List.take_add_one, h]
  show putL (lesL c (M.take k ++ [m])) = _
  rw [lesL_snoc]
  split
  · unfold putL
    rw [List.foldl_append]
    rfl
  · rw [List.append_nil]
theorem putL_mem {L : List (List UInt8)} {t : List UInt8} (h : t ∈ putL L) : t ∈ L := by
  rw [putL_eq] at h
  exact topL_mem ((srtT_perm _).mem_iff.1 h)
theorem putL_len (L : List (List UInt8)) : (putL L).length ≤ L.length := by
  rw [putL_eq, srtT_len]
  exact topL_len L
end Go.Proofs.YtecgjlpmmailjaaGreatDoor
namespace Go.Proofs.YtecgjlpmmailjaaGreatDoor
open Go.RowKit Go.Shelf
theorem idx_at {L : List UInt8} {s : UInt8} {k : Nat} (h : L[k]? = some s) (hn : ∀ j, j < k → L[j]? ≠ some s) : Lib.indexByte L s = k := by
  have h1 := Lib.indexByte_ge L s
  by_cases h2 : Lib.indexByte L s = -1
  · exact absurd h (Lib.indexByte_none h2 k)
  · obtain ⟨o, ho⟩ : ∃ o : Nat, Lib.indexByte L s = o := ⟨(Lib.indexByte L s).toNat, by omega⟩
    obtain ⟨h3, h4⟩ := Lib.indexByte_some ho
    rw [ho]
    rcases Nat.lt_trichotomy o k with h5 | h5 | h5
    · exact absurd h3 (hn o h5)
    · rw [h5]
    · exact absurd h (h4 k h5)
theorem idx_no {L : List UInt8} {s : UInt8} (h : ∀ j : Nat, L[j]? ≠ some s) : Lib.indexByte L s < 0 := by
  have h1 := Lib.indexByte_ge L s
  by_cases h2 : Lib.indexByte L s = -1
  · omega
  · obtain ⟨o, ho⟩ : ∃ o : Nat, Lib.indexByte L s = o := ⟨(Lib.indexByte L s).toNat, by omega⟩
    exact absurd (Lib.indexByte_some ho).1 (h o)
/-- what stands while a text is cut -/
def CTI (L : List UInt8) (s : UInt8) (f k : Nat) (D : List (List UInt8)) : Prop :=
  (k ≤ L.length ∧ f ≤ k ∧ D ++ prts s (L.drop f) = prts s L ∧ ∀ j, f ≤ j → j < k → L[j]? ≠ some s) ∨ (k = L.length + 1 ∧ D = prts s L)
theorem CTI.skip {L : List UInt8} {s x : UInt8} {f k : Nat} {D : List (List UInt8)} (h : CTI L s f k D) (hx : L[k]? = some x) (hne : x ≠ s) : CTI L s f (k + 1) D := by
  have hk := (List.getElem?_eq_some_iff.1 hx).1
  rcases h with ⟨h1, h2, h3, h4⟩ | ⟨h1, _⟩
  · refine .inl ⟨by omega, by omega, h3, fun j h5 h6 => ?_⟩
    by_cases e : j = k
    · subst e
      rw [hx]
      intro e2
      exact hne (Option.some.inj e2)
    · exact h4 j h5 (by omega)
  · omega
theorem CTI.cut {L : List UInt8} {s : UInt8} {f k : Nat} {D : List (List UInt8)} (h : CTI L s f k D) (hx : L[k]? = some s) : CTI L s (k + 1) (k + 1) (D ++ [(L.drop f).take (k - f)]) := by
  have hk := (List.getElem?_eq_some_iff.1 hx).1
  rcases h with ⟨h1, h2, h3, h4⟩ | ⟨h1, _⟩
  · refine .inl ⟨by omega, by omega, ?_, fun j h5 h6 => by omega⟩
    have hi : Lib.indexByte (L.drop f) s = ((k - f : Nat) : Int) := by
      refine idx_at ?_ (fun j hj => ?_)
      · rw [List.getElem?_drop, show f + (k - f) = k from by omega]
        exact hx
      · rw [List.getElem?_drop]
        exact h4 (f + j) (by omega) (by omega)
    rw [prts_pos hi, List.drop_drop, show f + (k - f + 1) = k + 1 from by omega] at h3
    rw [List.append_assoc]
    exact h3
  · omega
theorem CTI.last {L : List UInt8} {s : UInt8} {f : Nat} {D : List (List UInt8)} (h : CTI L s f L.length D) : CTI L s (L.length + 1) (L.length + 1) (D ++ [(L.drop f).take (L.length - f)]) := by
  rcases h with ⟨h1, h2, h3, h4⟩ | ⟨h1, _⟩
  · refine .inr ⟨rfl, ?_⟩
    have hi : Lib.indexByte (L.drop f) s < 0 := by
      refine idx_no (fun j => ?_)
      rw [List.getElem?_drop]
      by_cases hj : f + j < L.length
      · exact h4 (f + j) (by omega) hj
      · rw [List.getElem?_eq_none (by omega)]
        simp
    rw [prts_neg hi] at h3
    rw [← h3, List.take_of_length_le (by simp)]
  · omega
theorem CTI.len {L : List UInt8} {s : UInt8} {f k : Nat} {D : List (List UInt8)} (h : CTI L s f k D) : D.length ≤ (prts s L).length := by
  rcases h with ⟨_, _, h3, _⟩ | ⟨_, h2⟩
  · have := congrArg List.length h3
    rw [List.length_append] at this
    omega
  · rw [h2]
    omega
theorem CTI.fk {L : List UInt8} {s : UInt8} {f k : Nat} {D : List (List UInt8)} (h : CTI L s f k D) (hk : k ≤ L.length) : f ≤ k := by
  rcases h with ⟨_, h2, _⟩ | ⟨h1, _⟩ <;> omega
theorem ext_mid (a : ByteArray) (f k : Nat) : a.extract f k = ⟨((a.data.toList.drop f).take (k - f)).toArray⟩ := by
  refine ByteArray.ext ?_
  rw [ByteArray.data_extract]
  refine Array.ext' ?_
  rw [Array.toList_extract]
end Go.Proofs.YtecgjlpmmailjaaGreatDoor
namespace Go.Proofs.YtecgjlpmmailjaaGreatDoor
open Go.RowKit Go.Shelf
/-- what one list of a term asks of the other term -/
def cvP (a : List UInt8 × List (List UInt8)) (n : List UInt8) : Bool := !(agB n a.1 && !a.2.any (fun y => wiB (mtT n a.1) y))
theorem cvC_eq (a b : List UInt8 × List (List UInt8)) : cvC a b = (wiB a.1 b.1 && b.2.all (cvP a)) := rfl
theorem all_yes2 {L : List (List UInt8)} {p : List UInt8 → Bool} {n : Nat} (hn : L.length ≤ n) (h : ∀ j t, j < n → L[j]? = some t → p t = true) : L.all p = true := by
  rw [List.all_eq_true]
  intro t ht
  obtain ⟨j, hj, he⟩ := List.getElem_of_mem ht
  exact h j t (by omega) (by rw [List.getElem?_eq_getElem hj, he])
end Go.Proofs.YtecgjlpmmailjaaGreatDoor
namespace Go.Proofs.YtecgjlpmmailjaaGreatDoor
open Go.RowKit Go.Shelf
theorem cmpLn_end {A B : List (List UInt8)} {k : Nat} (h : ¬ (k < A.length ∧ k < B.length)) (hk : k ≤ A.length) (hk2 : k ≤ B.length) : decide (cmpLn (A.drop k) (B.drop k) < 0) = decide (A.length < B.length) := by
  by_cases h1 : k < A.length
  · have e : B.drop k = [] := List.drop_eq_nil_of_le (by omega)
    rw [e, List.drop_eq_getElem_cons h1]
    have : ¬ A.length < B.length := by omega
    simp [cmpLn, this]
  · have e : A.drop k = [] := List.drop_eq_nil_of_le (by omega)
    rw [e]
    by_cases h2 : k < B.length
    · rw [List.drop_eq_getElem_cons h2]
      have : A.length < B.length := by omega
      simp [cmpLn, this]
    · rw [List.drop_eq_nil_of_le (by omega)]
      have : ¬ A.length < B.length := by omega
      simp [cmpLn, this]
end Go.Proofs.YtecgjlpmmailjaaGreatDoor

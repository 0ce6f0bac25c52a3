import Derived.Test.YtggifkdgkjmljaaGreatDoorZ31
import Derived.Test.YtggifkdgkjmljaaGreatDoorZ30
import Derived.Lib.AppendStr
namespace Go.Proofs.YtggifkdgkjmljaaGreatDoor
open Go.RowKit Go.Shelf
/-- what stands ahead of a token -/
def gapB (p : Option ITok) (t : ITok) : List UInt8 := match p with
  | some u => if joinB u t = true then [] else [32]
  | none => []
def outR : Option (List UInt8) → List UInt8 × Nat
  | some s => (s, 0)
  | none => ([], 2)
/-- the text so far, and the tokens still to come; none: it is too long -/
def prF : Option ITok → List ITok → List UInt8 → Option (List UInt8)
  | _, [], acc => some acc
  | p, t :: r, acc => if 16384 < ((acc ++ gapB p t) ++ t.2.1).length then none else prF (some t) r ((acc ++ gapB p t) ++ t.2.1)
/-- what Print answers -/
def printM (L : List ITok) : List UInt8 × Nat :=
  if 16384 < L.length then ([], 2) else if linF 1 L = false then ([], 35) else outR (prF none L [])
theorem tokB_len {t : ITok} (h : tokB t = true) : t.2.1.length ≤ 16384 := by
  unfold tokB at h
  split at h
  · rw [beq_iff_eq.1 h]
    decide
  · refine Classical.byContradiction (fun hl => ?_)
    have e : scanM t.2.1 = ([], 2, 0, 0) := by unfold scanM; rw [if_pos (by omega)]
    rw [e] at h
    cases h
theorem linF_tok : ∀ (L : List ITok) (last : Int), linF last L = true → ∀ t ∈ L, tokB t = true
  | [], _, _, t, ht => by cases ht
  | u :: L, last, h, t, ht => by
    rw [linF] at h
    split at h
    · cases h
    · rename_i hn
      rcases List.mem_cons.1 ht with e | e
      · subst e
        cases hb : tokB t with
        | true => rfl
        | false => exact absurd (by rw [hb]; rfl) hn
      · exact linF_tok L u.1 h t e
theorem results_pr (tmps : Array Value) (W : World) (a b : Value) (h : tmps.getD 2 undef = a ∧ tmps.getD 3 undef = b) : (results Tryz.f5 tmps).run Tryz.prog W = .ok (.tuple #[a, b]) W := by
  obtain ⟨h1, h2⟩ := h
  have h1' : tmps[2]?.getD undef = a := by simpa using h1
  have h2' : tmps[3]?.getD undef = b := by simpa using h2
  simp [results, h1', h2', go_sem]
/-- the token ahead -/
def prevT (L : List ITok) (k : Nat) (p : Option ITok) : Prop := (k = 0 ∧ p = none) ∨ ∃ k' u, k = k' + 1 ∧ L[k']? = some u ∧ p = some u
theorem prF_step {L : List ITok} {k : Nat} {t : ITok} (ht : L[k]? = some t) (p : Option ITok) (acc : List UInt8) : prF p (L.drop k) acc = if 16384 < ((acc ++ gapB p t) ++ t.2.1).length then none else prF (some t) (L.drop (k + 1)) ((acc ++ gapB p t) ++ t.2.1) := by
  obtain ⟨hk, e⟩ := List.getElem?_eq_some_iff.1 ht
  rw [List.drop_eq_getElem_cons hk, e]
  rfl
set_option maxRecDepth 100000 in
set_option maxHeartbeats 4000000 in
theorem print_any (L : List ITok) (o : Option Addr) (c : Nat) (w : World) (hL : L.length ≤ 281474976710656) (hx : ∀ t ∈ L, t.2.1.length ≤ 281474976710656) (hr : IR w o L) (hv1 : SH w) (hv4 : SG w) (hv5 : VW w) (hj : JT w) :
    Calls Tryz.prog 5 #[.slice o L.length c] w fun e w' => e = .returned (.tuple #[.string ⟨(printM L).1.toArray⟩, .int .i64 ((printM L).2 : Int)]) ∧ Below w.heap.size w w' := by
  by_cases hbig : 16384 < L.length
  · have i1 : (16384 : Int) < (L.length : Int) := by omega
    have hres : Hid (printM L = ([], 2)) := by unfold Hid printM; rw [if_pos hbig]
    clear hx hr hv1 hv4 hv5 hj
    go_enter Tryz.func5, Tryz.ntmps5
    go_wp2_with fail
    refine bodyPost_ret (results_pr _ _ _ _ ⟨rfl, rfl⟩) rfl ?_
    exact ⟨by rw [hres.out]; rfl, Below.refl _ _⟩
  have i1 : ¬ (16384 : Int) < (L.length : Int) := by omega
  have HA := areLines_any L o c w hL hx hr hv1 hv4 hv5
  cases hq : linF 1 L with
  | false =>
    have hres : Hid (printM L = ([], 35)) := by unfold Hid printM; rw [if_neg hbig, if_pos hq]
    rw [hq] at HA
    clear hx hr hv1 hv4 hv5 hj hq
    go_enter Tryz.func5, Tryz.ntmps5
    go_wp2_with fail
    refine HA.mono ?_
    rintro e W1 ⟨rfl, hb1⟩
    go_wp2_with fail
    refine bodyPost_ret (results_pr _ _ _ _ ⟨rfl, rfl⟩) rfl ?_
    exact ⟨by rw [hres.out]; rfl, hb1⟩
  | true =>
    rw [hq] at HA
    obtain ⟨R, hR⟩ : ∃ R, prF none L [] = R := ⟨_, rfl⟩
    have HPM : Hid (printM L = outR R) := by
      unfold Hid printM
      rw [if_neg hbig, if_neg (by rw [hq]; decide), hR]
    have HR0 : Hid (prF none (L.drop 0) [] = R) := hR
    have HP0 : Hid (prevT L 0 none) := .inl ⟨rfl, rfl⟩
    have HR : Hid (IR w o L) := hr
    have HX : Hid (∀ t ∈ L, t.2.1.length ≤ 16384) := fun t ht => tokB_len (linF_tok L 1 hq t ht)
    have HJ0 : Hid (JT w) := hj
    obtain ⟨i0, hi, hz0, hz1, hz2⟩ := info_parts info_u8
    clear hx hr hv1 hv4 hv5 hj hq hR
    go_enter Tryz.func5, Tryz.ntmps5
    go_wp2_with fail
    refine HA.mono ?_
    rintro e W1 ⟨rfl, hb1⟩
    go_wp2_with fail
    go_loopw [4, 15] (fun v vk wr => ∃ (k : Nat) (acc : List UInt8) (p : Option ITok), vk = .int .i64 k ∧ k ≤ L.length ∧ acc.length ≤ 16384 ∧ wr.ownsRow w.heap.size 5 1 v acc.length (Lib.byteCells acc) ∧ Below w.heap.size w wr ∧ Hid (prF p (L.drop k) acc = R) ∧ Hid (prevT L k p)) (fun _ vk _ => L.length - (intOf vk).toNat)
    case atStart => exact ⟨0, [], none, rfl, Nat.zero_le _, by simp, World.ownsRow_nil _ _ _ _, hb1, HR0, HP0⟩
    case round =>
      clear HR0 HP0 hb1 HA
      obtain ⟨k, acc, p, rfl, hk, hacc, hown, hB, hrun, hprev⟩ := hrel
      by_cases hlt : k < L.length
      · have j1 : (k : Int) < (L.length : Int) := by omega
        have j0 : (0 : Int) ≤ (k : Int) := by omega
        obtain ⟨t, ht⟩ : ∃ t, L[k]? = some t := ⟨_, List.getElem?_eq_getElem hlt⟩
        obtain ⟨g, o0, rfl, p0, p1, p2, p3⟩ := HR.out wr hB k t ht
        have hstep := prF_step ht p acc
        rw [hrun.out] at hstep
        have hxl := HX.out t (List.mem_of_getElem? ht)
        have HPREV : Hid (prevT L (k + 1) (some t)) := .inr ⟨k, t, rfl, ht, rfl⟩
        obtain ⟨a, x, ln, cl⟩ := t
        simp only at p0 p1 p2 p3 hxl hstep
        obtain ⟨O, hO⟩ : ∃ O : Obj, Obj.cells #[.int .i64 a, .string ⟨x.toArray⟩, .int .i64 ln, .int .i64 cl] 24 = O := ⟨_, rfl⟩
        have hBs0 := hB.size
        have hB2 : Below w.heap.size w (wr.alloc O) := hB.alloc hBs0 O
        have hbx0 : (wr.alloc O).heap[wr.heap.size]? = some (.cells #[.int .i64 a, .string ⟨x.toArray⟩, .int .i64 ln, .int .i64 cl] 24) := by rw [hO]; exact alloc_get _ _
        have hown0 : Hid ((wr.alloc O).ownsRow w.heap.size 5 1 u4 acc.length (Lib.byteCells acc)) := hown.alloc _
        have XT : Hid (∀ W : World, Below (wr.alloc O).heap.size (wr.alloc O) W → W.cell? ⟨wr.heap.size, 0, none⟩ = some (.int .i64 a) ∧ W.cell? ⟨wr.heap.size, 1, none⟩ = some (.string ⟨x.toArray⟩) ∧ W.cell? ⟨wr.heap.size, 2, none⟩ = some (.int .i64 ln) ∧ W.cell? ⟨wr.heap.size, 3, none⟩ = some (.int .i64 cl)) := fun W hW => by
          have hk := keepblk hW hbx0
          exact ⟨cell_of_row W _ 0 _ _ _ hk, cell_of_row W _ 1 _ _ _ hk, cell_of_row W _ 2 _ _ _ hk, cell_of_row W _ 3 _ _ _ hk⟩
        have hbx1 : Hid ((wr.alloc O).heap[wr.heap.size]? = some (.cells #[.int .i64 a, .string ⟨x.toArray⟩, .int .i64 ln, .int .i64 cl] 24)) := hbx0
        clear hrun hown hbx0
        rcases hprev.out with ⟨rfl, rfl⟩ | ⟨k, u, rfl, hu, rfl⟩
        · have HSTEP : Hid ((if 16384 < (acc ++ x).length then none else prF (some (a, x, ln, cl)) (L.drop (0 + 1)) (acc ++ x)) = R) := by
            have h9 := hstep.symm
            simp only [gapB, List.append_nil] at h9
            exact h9
          clear hstep hprev ht
          simp only [Nat.zero_mul, Nat.add_zero] at p0 p1 p2 p3
          go_wp2_with fail
          try rw [hO]
          refine quiet_lit3 (C := fun W => Below (wr.alloc O).heap.size (wr.alloc O) W) (by kernel_rfl) (by kernel_rfl) (show Below _ _ _ from (Below.refl _ _).drew) ?_
          go_big_quiet_want
          go_big_quiet_op
          go_big_quiet_on
          go_big_quiet_want
          refine ⟨.bool false, fun W hW => ?_, ?_⟩
          · go_simp
          go_big_quiet_on
          simp only [Act.put, List.setIfInBounds_toArray, List.set_cons_zero, List.set_cons_succ]
          go_big_quiet_want
          go_big_quiet_op
          go_big_quiet_on
          go_big_quiet_skip
          go_big_quiet_skip
          go_big_quiet_skip
          go_big_quiet_skip
          go_big_quiet_skip
          go_big_quiet_skip
          go_big_quiet_skip
          go_big_quiet_skip
          go_big_quiet_want
          refine ⟨.bool false, fun W hW => ?_, ?_⟩
          · go_simp
          go_big_quiet_on
          simp only [Act.put, List.setIfInBounds_toArray, List.set_cons_zero, List.set_cons_succ]
          refine wpQuiet_nil ?_
          intro W hW
          have hown1 : W.ownsRow w.heap.size 5 1 u4 acc.length (Lib.byteCells acc) := owns_below hown0.out hW
          have hbx := keepblk hW hbx1.out
          have hBx := bel0 hB2 hW
          clear p0 p1 p2 p3 XT hO
          have b1 : W.cell? ⟨wr.heap.size, 1, none⟩ = some (.string ⟨x.toArray⟩) := cell_of_row _ _ 1 _ _ _ hbx
          have hBs := hBx.size
          obtain ⟨pv, cv, rfl⟩ := shapeP hown1
          have hxs : (ByteArray.mk x.toArray).size = x.length := by simp [ByteArray.size]
          by_cases hbig2 : 16384 < acc.length + x.length
          · have i9 : (16384 : Int) < (acc.length : Int) + (x.length : Int) := by omega
            have i10 : (16384 : Int) < (acc.length : Int) + (x.length : Int) := by omega
            have hres : Hid (R = none) := by
              unfold Hid
              rw [← HSTEP.out, if_pos (by rw [List.length_append]; exact hbig2)]
            clear HSTEP
            go_wp2_with (at_builtin; refine Lib.wpList_append_own_string _ rfl _ _ 34 9 rfl w.heap.size 5 i0 Tryz.underlying34 Tryz.underlying9 hi hz0 hz1 hz2 _ _ _ rfl hown1 ⟨x.toArray⟩ rfl (by rw [hxs]; unfold maxLen; omega) (by rw [hxs]; omega) hBs ?_; intro v6 w6 oB6 hg6 _; rw [hxs] at oB6; obtain ⟨p6, c6, rfl⟩ := shapeP oB6)
            refine bodyPost_ret (results_pr _ _ _ _ ⟨rfl, rfl⟩) rfl ?_
            exact ⟨by rw [HPM.out, hres.out]; rfl, hBx.grown hg6 hBs (fun k e => (hown1.lt k e).1)⟩
          · have i9 : ¬ (16384 : Int) < (acc.length : Int) + (x.length : Int) := by omega
            have i10 : ¬ (16384 : Int) < (acc.length : Int) + (x.length : Int) := by omega
            have hnext : Hid (prF (some (a, x, ln, cl)) (L.drop (0 + 1)) (acc ++ x) = R) := by
              unfold Hid
              rw [← HSTEP.out, if_neg (by rw [List.length_append]; exact hbig2)]
            clear HSTEP
            go_wp2_with (at_builtin; refine Lib.wpList_append_own_string _ rfl _ _ 34 9 rfl w.heap.size 5 i0 Tryz.underlying34 Tryz.underlying9 hi hz0 hz1 hz2 _ _ _ rfl hown1 ⟨x.toArray⟩ rfl (by rw [hxs]; unfold maxLen; omega) (by rw [hxs]; omega) hBs ?_; intro v6 w6 oB6 hg6 _; rw [hxs] at oB6; obtain ⟨p6, c6, rfl⟩ := shapeP oB6)
            go_roundw
            case rel => exact ⟨0 + 1, acc ++ x, some (a, x, ln, cl), by go_num, by omega, by rw [List.length_append]; omega, by rw [List.length_append, byteCells_append]; exact oB6, hBx.grown hg6 hBs (fun k e => (hown1.lt k e).1), hnext, HPREV⟩
            case measure => simp [intOf]; omega
        · obtain ⟨g', o0', hgg, -⟩ := HR.out wr hB k u hu
          obtain ⟨rfl, rfl⟩ : g = g' ∧ o0 = o0' := by
            injection hgg with hgg
            injection hgg with h1 h2
            exact ⟨h1, h2⟩
          have XU : Hid (∀ W : World, Below (wr.alloc O).heap.size (wr.alloc O) W → W.cell? ⟨g, o0 + k * 4, none⟩ = some (.int .i64 u.1) ∧ W.cell? ⟨g, o0 + k * 4 + 1, none⟩ = some (.string ⟨u.2.1.toArray⟩) ∧ W.cell? ⟨g, o0 + k * 4 + 2, none⟩ = some (.int .i64 u.2.2.1) ∧ W.cell? ⟨g, o0 + k * 4 + 3, none⟩ = some (.int .i64 u.2.2.2)) := fun W hW => by
            obtain ⟨g2, q2, h1, h2⟩ := HR.out W (bel0 hB2 hW) k u hu
            injection h1 with h1
            injection h1 with h1 h3
            subst h1 h3
            exact h2
          have HJ1 : Hid (∀ W : World, Below (wr.alloc O).heap.size (wr.alloc O) W → Calls Tryz.prog 10 #[iagg u, iagg (a, x, ln, cl)] W fun e w' => e = .returned (.bool (joinB u (a, x, ln, cl))) ∧ Below W.heap.size W w') := fun W hW => isJoined_any u (a, x, ln, cl) W (HJ0.out.below (bel0 hB2 hW))
          obtain ⟨jb, hjb⟩ : ∃ jb, joinB u (a, x, ln, cl) = jb := ⟨_, rfl⟩
          simp only [hjb] at HJ1
          obtain ⟨ua, ux, uln, ucl⟩ := u
          have HJ : Hid (∀ W : World, Below (wr.alloc O).heap.size (wr.alloc O) W → Calls Tryz.prog 10 #[.agg #[.int .i64 ua, .string ⟨ux.toArray⟩, .int .i64 uln, .int .i64 ucl], .agg #[.int .i64 a, .string ⟨x.toArray⟩, .int .i64 ln, .int .i64 cl]] W fun e w' => e = .returned (.bool jb) ∧ Below W.heap.size W w') := HJ1.out
          have HWK : Hid (IntKind.i64.wrap (k : Int) = (k : Int)) := by unfold Hid; rw [IntKind.wrap_i64]; omega
          have jk0 : (0 : Int) ≤ (k : Int) := by omega
          have jk1 : (k : Int) < (L.length : Int) := by omega
          have jk2 : (0 : Int) < (k : Int) + 1 := by omega
          have jk3 : (0 : Int) ≤ (k : Int) + 1 := by omega
          have jk4 : (k : Int) + 1 < (L.length : Int) := by omega
          have hjb' : Hid (joinB (ua, ux, uln, ucl) (a, x, ln, cl) = jb) := hjb
          clear hjb HJ1 hprev ht hu hgg
          go_wp2_with fail
          try rw [hO]
          refine quiet_lit3 (C := fun W => Below (wr.alloc O).heap.size (wr.alloc O) W) (by kernel_rfl) (by kernel_rfl) (show Below _ _ _ from (Below.refl _ _).drew) ?_
          go_big_quiet_want
          go_big_quiet_op
          go_big_quiet_on
          go_big_quiet_want
          refine ⟨.bool true, fun W hW => ?_, ?_⟩
          · go_simp
          go_big_quiet_on
          simp only [Act.put, List.setIfInBounds_toArray, List.set_cons_zero, List.set_cons_succ]
          go_big_quiet_want
          go_big_quiet_op
          go_big_quiet_on
          go_big_quiet_want
          go_big_quiet_op
          go_big_quiet_on
          go_big_quiet_want
          go_big_quiet_op
          go_big_quiet_on
          go_big_quiet_want
          refine ⟨.int .i64 (k : Int), fun W hW => ?_, ?_⟩
          · go_simp
            exact HWK.out
          go_big_quiet_on
          simp only [Act.put, List.setIfInBounds_toArray, List.set_cons_zero, List.set_cons_succ]
          go_big_quiet_want
          refine ⟨.pointer (some ⟨g, o0 + k * 4, none⟩), fun W hW => ?_, ?_⟩
          · go_simp
          go_big_quiet_on
          simp only [Act.put, List.setIfInBounds_toArray, List.set_cons_zero, List.set_cons_succ]
          go_big_quiet_want
          refine ⟨.agg #[.int .i64 ua, .string ⟨ux.toArray⟩, .int .i64 uln, .int .i64 ucl], fun W hW => ?_, ?_⟩
          · obtain ⟨z0, z1, z2, z3⟩ := XU.out W hW
            go_simp
          go_big_quiet_on
          simp only [Act.put, List.setIfInBounds_toArray, List.set_cons_zero, List.set_cons_succ]
          go_big_quiet_want
          refine ⟨.agg #[.int .i64 a, .string ⟨x.toArray⟩, .int .i64 ln, .int .i64 cl], fun W hW => ?_, ?_⟩
          · obtain ⟨z0, z1, z2, z3⟩ := XT.out W hW
            go_simp
          go_big_quiet_on
          simp only [Act.put, List.setIfInBounds_toArray, List.set_cons_zero, List.set_cons_succ]
          go_big_quiet_want
          refine ⟨.bool jb, fun W hW => ?_, ?_⟩
          · go_simp
            refine (HJ.out W hW).mono ?_
            rintro e w7 ⟨rfl, hb⟩
            exact ⟨rfl, by have := bel0 hW hb; simpa using this⟩
          go_big_quiet_on
          simp only [Act.put, List.setIfInBounds_toArray, List.set_cons_zero, List.set_cons_succ]
          go_big_quiet_want
          refine ⟨.bool (!jb), fun W hW => ?_, ?_⟩
          · go_simp
          go_big_quiet_on
          simp only [Act.put, List.setIfInBounds_toArray, List.set_cons_zero, List.set_cons_succ]
          go_big_quiet_want
          refine ⟨.bool (!jb), fun W hW => ?_, ?_⟩
          · go_simp
          go_big_quiet_on
          simp only [Act.put, List.setIfInBounds_toArray, List.set_cons_zero, List.set_cons_succ]
          refine wpQuiet_nil ?_
          intro W hW
          have hownW : W.ownsRow w.heap.size 5 1 u4 acc.length (Lib.byteCells acc) := owns_below hown0.out hW
          have hbxW := keepblk hW hbx1.out
          have hBW := bel0 hB2 hW
          have hBWs := hBW.size
          clear p0 p1 p2 p3 XT XU hO HJ
          cases jb with
          | true =>
            have HSTEP : Hid ((if 16384 < (acc ++ x).length then none else prF (some (a, x, ln, cl)) (L.drop (k + 1 + 1)) (acc ++ x)) = R) := by
              have h9 := hstep.symm
              simp only [gapB, hjb'.out, if_true, List.append_nil] at h9
              exact h9
            have hown1 := hownW
            have hbx := hbxW
            have hBx := hBW
            clear hstep hownW hbxW hBW
            have b1 : W.cell? ⟨wr.heap.size, 1, none⟩ = some (.string ⟨x.toArray⟩) := cell_of_row _ _ 1 _ _ _ hbx
            have hBs := hBx.size
            obtain ⟨pv, cv, rfl⟩ := shapeP hown1
            have hxs : (ByteArray.mk x.toArray).size = x.length := by simp [ByteArray.size]
            by_cases hbig2 : 16384 < acc.length + x.length
            · have i9 : (16384 : Int) < (acc.length : Int) + (x.length : Int) := by omega
              have i10 : (16384 : Int) < (acc.length : Int) + (x.length : Int) := by omega
              have hres : Hid (R = none) := by
                unfold Hid
                rw [← HSTEP.out, if_pos (by rw [List.length_append]; exact hbig2)]
              clear HSTEP
              go_wp2_with (at_builtin; refine Lib.wpList_append_own_string _ rfl _ _ 34 9 rfl w.heap.size 5 i0 Tryz.underlying34 Tryz.underlying9 hi hz0 hz1 hz2 _ _ _ rfl hown1 ⟨x.toArray⟩ rfl (by rw [hxs]; unfold maxLen; omega) (by rw [hxs]; omega) hBs ?_; intro v6 w6 oB6 hg6 _; rw [hxs] at oB6; obtain ⟨p6, c6, rfl⟩ := shapeP oB6)
              refine bodyPost_ret (results_pr _ _ _ _ ⟨rfl, rfl⟩) rfl ?_
              exact ⟨by rw [HPM.out, hres.out]; rfl, hBx.grown hg6 hBs (fun k e => (hown1.lt k e).1)⟩
            · have i9 : ¬ (16384 : Int) < (acc.length : Int) + (x.length : Int) := by omega
              have i10 : ¬ (16384 : Int) < (acc.length : Int) + (x.length : Int) := by omega
              have hnext : Hid (prF (some (a, x, ln, cl)) (L.drop ((k + 1) + 1)) (acc ++ x) = R) := by
                unfold Hid
                rw [← HSTEP.out, if_neg (by rw [List.length_append]; exact hbig2)]
              clear HSTEP
              go_wp2_with (at_builtin; refine Lib.wpList_append_own_string _ rfl _ _ 34 9 rfl w.heap.size 5 i0 Tryz.underlying34 Tryz.underlying9 hi hz0 hz1 hz2 _ _ _ rfl hown1 ⟨x.toArray⟩ rfl (by rw [hxs]; unfold maxLen; omega) (by rw [hxs]; omega) hBs ?_; intro v6 w6 oB6 hg6 _; rw [hxs] at oB6; obtain ⟨p6, c6, rfl⟩ := shapeP oB6)
              go_roundw
              case rel => exact ⟨(k + 1) + 1, acc ++ x, some (a, x, ln, cl), by go_num, by omega, by rw [List.length_append]; omega, by rw [List.length_append, byteCells_append]; exact oB6, hBx.grown hg6 hBs (fun k e => (hown1.lt k e).1), hnext, HPREV⟩
              case measure => simp [intOf]; omega
          | false =>
            have HSTEP : Hid ((if 16384 < ((acc ++ [32]) ++ x).length then none else prF (some (a, x, ln, cl)) (L.drop (k + 1 + 1)) ((acc ++ [32]) ++ x)) = R) := by
              have h9 := hstep.symm
              simp only [gapB, hjb'.out, Bool.false_eq_true, if_false] at h9
              exact h9
            have hne := own_not hownW hbxW (by decide)
            have hxs : (ByteArray.mk x.toArray).size = x.length := by simp [ByteArray.size]
            have HSP : Hid (∀ (v5 : Value) (w5 : World), w5.ownsRow w.heap.size 5 1 v5 (acc.length + 1) (Lib.byteCells acc ++ [.int .u8 32]) → (W.alloc (Obj.cells #[.int .u8 32] 5)).grownBy w5 u4.ownBlock → w5.ownsRow w.heap.size 5 1 v5 (acc.length + 1) (Lib.byteCells (acc ++ [32])) ∧ w5.heap[wr.heap.size]? = some (.cells #[.int .i64 a, .string ⟨x.toArray⟩, .int .i64 ln, .int .i64 cl] 24) ∧ Below w.heap.size w w5) := fun v5 w5 oB hg5 => ⟨by rw [byteCells_append]; exact oB, (hg5.block _ (lt_of_get (allocblk hbxW _)) (fun e => hne e.symm)).trans (allocblk hbxW _), (hBW.alloc hBWs _).grown hg5 (by simp; omega) (fun k e => (hownW.lt k e).1)⟩
            have hla : (acc ++ [32]).length = acc.length + 1 := by simp
            obtain ⟨pu, cu, rfl⟩ := shapeP hownW
            clear hstep hbxW hne
            obtain ⟨acc1, hacc1⟩ : ∃ y, acc ++ [32] = y := ⟨_, rfl⟩
            rw [hacc1] at hla HSTEP HSP
            clear hacc1
            have HLA : Hid (acc1.length = acc.length + 1) := hla
            by_cases hbig2 : 16384 < acc1.length + x.length
            · have i9 : (16384 : Int) < (acc1.length : Int) + (x.length : Int) := by omega
              have i10 : (16384 : Int) < ((acc.length : Int) + 1) + (x.length : Int) := by omega
              have hres : Hid (R = none) := by
                unfold Hid
                rw [← HSTEP.out, if_pos (by rw [List.length_append]; exact hbig2)]
              clear HSTEP hla
              go_wp2_with (at_builtin; first | (refine wpList_append_own _ rfl _ _ 34 rfl w.heap.size 5 i0 _ 1 1 Tryz.underlying34 hi hz0 hz1 hz2 rfl (by decide) _ _ _ rfl (hownW.alloc _) ⟨W.heap.size, 0, none⟩ 1 1 [.int .u8 32] rfl rfl (World.news_of_block (cs := #[.int .u8 32]) (t := 5) (fr := (0, 0)) (alloc_get _ _)) (by simp [Value.oneCell']) (by unfold maxLen; omega) (by omega) (by simp; omega) ?_; intro v5 w5 oB hg5 _; obtain ⟨hown1, hbx, hBx⟩ := HSP.out v5 w5 oB hg5; have b1 : w5.cell? ⟨wr.heap.size, 1, none⟩ = some (.string ⟨x.toArray⟩) := cell_of_row _ _ 1 _ _ _ hbx; have hBs := hBx.size; obtain ⟨pv, cv, rfl⟩ := shapeP hown1) | (refine Lib.wpList_append_own_string _ rfl _ _ 34 9 rfl w.heap.size 5 i0 Tryz.underlying34 Tryz.underlying9 hi hz0 hz1 hz2 _ _ _ rfl hown1 ⟨x.toArray⟩ rfl (by rw [hxs]; unfold maxLen; omega) (by rw [hxs]; omega) hBs ?_; intro v6 w6 oB6 hg6 _; rw [hxs] at oB6; obtain ⟨p6, c6, rfl⟩ := shapeP oB6))
              refine bodyPost_ret (results_pr _ _ _ _ ⟨rfl, rfl⟩) rfl ?_
              exact ⟨by rw [HPM.out, hres.out]; rfl, hBx.grown hg6 hBs (fun k e => (hown1.lt k e).1)⟩
            · have i9 : ¬ (16384 : Int) < (acc1.length : Int) + (x.length : Int) := by omega
              have i10 : ¬ (16384 : Int) < ((acc.length : Int) + 1) + (x.length : Int) := by omega
              have hnext : Hid (prF (some (a, x, ln, cl)) (L.drop ((k + 1) + 1)) (acc1 ++ x) = R) := by
                unfold Hid
                rw [← HSTEP.out, if_neg (by rw [List.length_append]; exact hbig2)]
              clear HSTEP hla
              go_wp2_with (at_builtin; first | (refine wpList_append_own _ rfl _ _ 34 rfl w.heap.size 5 i0 _ 1 1 Tryz.underlying34 hi hz0 hz1 hz2 rfl (by decide) _ _ _ rfl (hownW.alloc _) ⟨W.heap.size, 0, none⟩ 1 1 [.int .u8 32] rfl rfl (World.news_of_block (cs := #[.int .u8 32]) (t := 5) (fr := (0, 0)) (alloc_get _ _)) (by simp [Value.oneCell']) (by unfold maxLen; omega) (by omega) (by simp; omega) ?_; intro v5 w5 oB hg5 _; obtain ⟨hown1, hbx, hBx⟩ := HSP.out v5 w5 oB hg5; have b1 : w5.cell? ⟨wr.heap.size, 1, none⟩ = some (.string ⟨x.toArray⟩) := cell_of_row _ _ 1 _ _ _ hbx; have hBs := hBx.size; obtain ⟨pv, cv, rfl⟩ := shapeP hown1) | (refine Lib.wpList_append_own_string _ rfl _ _ 34 9 rfl w.heap.size 5 i0 Tryz.underlying34 Tryz.underlying9 hi hz0 hz1 hz2 _ _ _ rfl hown1 ⟨x.toArray⟩ rfl (by rw [hxs]; unfold maxLen; omega) (by rw [hxs]; omega) hBs ?_; intro v6 w6 oB6 hg6 _; rw [hxs] at oB6; obtain ⟨p6, c6, rfl⟩ := shapeP oB6))
              go_roundw
              case rel => exact ⟨(k + 1) + 1, acc1 ++ x, some (a, x, ln, cl), by go_num, by omega, by rw [List.length_append, HLA.out]; omega, by rw [List.length_append, HLA.out, byteCells_append]; exact oB6, hBx.grown hg6 hBs (fun k e => (hown1.lt k e).1), hnext, HPREV⟩
              case measure => simp [intOf]; omega
      · have j1 : ¬ (k : Int) < (L.length : Int) := by omega
        have hres : Hid (R = some acc) := by
          unfold Hid
          rw [← hrun.out, List.drop_eq_nil_of_le (by omega), prF]
        have hcv := conv_own acc hown
        obtain ⟨pv, cv, rfl⟩ := shapeP hown
        clear hrun hprev hown
        go_wp2_with fail
        refine bodyPost_ret (results_pr _ _ _ _ ⟨rfl, rfl⟩) rfl ?_
        exact ⟨by rw [HPM.out, hres.out]; rfl, hB⟩
end Go.Proofs.YtggifkdgkjmljaaGreatDoor

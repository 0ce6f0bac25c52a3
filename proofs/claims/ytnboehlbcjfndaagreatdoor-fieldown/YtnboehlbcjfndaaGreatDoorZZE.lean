import Derived.Test.YtnboehlbcjfndaaGreatDoorZZC
import Derived.Test.YtnboehlbcjfndaaGreatDoorZZD
import Derived.Laws.MakeOwn
import Derived.Deep.DeepCutAuto
import Derived.Laws.OwnMore
namespace Go.Proofs.YtnboehlbcjfndaaGreatDoor
open Go.RowKit
/-- a make in a region that draws, by its run -/
theorem step_makeZ {P : Program} {ops : Array Oper} {o : Oper} {a : Act} {w w' : World} {K : Act → World → Prop} {Q : Exit → Act → World → Prop} {E : Prop} {v u v' : Value} (hgd : o.guard = none) (l c : Operand) (t : TypeId) (ho : o.op = .makeSlice t l c) (hs : a.eval l = v) (hx : a.eval c = u) (hr : (Instr.makeSlice t v u).run P w = .ok v' w') (h : K (a.put o.dst v') w') : if Region.wanted o (yielded ops a.tmps) = true then Oper.wp P o a w K Q else E := by
  have hw : Region.wanted o (yielded ops a.tmps) = true := by simp [Region.wanted, hgd]
  rw [if_pos hw]
  unfold Oper.wp
  simp [execOp, ho, hs, hx, hr, Result.andThen]
  exact h
theorem info_stpZ : (Tryz.prog.info? 75).map (fun i => (i.zero, i.size, i.bytes)) = some (some (.agg #[.string ⟨#[]⟩, .int .i64 0]), 2, 24) := by kernel_rfl
theorem rep_at {n k : Nat} (h : k < n) : ((inZ (List.replicate n 0)) ++ [Value.int .i64 77])[k]? = some (.int .i64 0) := by
  rw [List.getElem?_append_left (by rw [inZ_len, List.length_replicate]; exact h)]
  unfold inZ
  rw [List.getElem?_map, List.getElem?_replicate, if_pos h]
  rfl
theorem rep_last (n : Nat) : ((inZ (List.replicate n 0)) ++ [Value.int .i64 77])[n]? = some (.int .i64 77) := by
  rw [List.getElem?_append_right (by rw [inZ_len, List.length_replicate]; exact Nat.le_refl _), inZ_len, List.length_replicate, Nat.sub_self]
  rfl
theorem rep_make (n : Nat) : (madeCells (Value.int .i64 0).cells ((n + 1) * 1)).toList.set n (.int .i64 77) = inZ (List.replicate n 0) ++ [.int .i64 77] := by
  rw [Nat.mul_one]
  have h := toList_madeCells_one (.int .i64 0) (n + 1)
  have e : (Value.int .i64 0).cells = #[Value.int .i64 0] := rfl
  rw [e, h, List.replicate_succ', List.set_append_right _ _ (by rw [List.length_replicate]; exact Nat.le_refl _), List.length_replicate, Nat.sub_self, inZ_rep]
  rfl
theorem BLZ.new {A U X : World} (h : BLZ A U) (g : U.grownBy X none) : BLZ A X := bel_grZ h g (fun k e => by cases e)
theorem keepN {W X : World} {b : Nat} {o : Obj} (g : W.grownBy X none) (h : W.heap[b]? = some o) : X.heap[b]? = some o := (g.block b (lt_getZ h) (by simp)).trans h
set_option maxRecDepth 100000 in
set_option maxHeartbeats 16000000 in
theorem roomy_core (F : List (List UInt8 × Int)) (nf c : Nat) (p : Option Addr) (n0 n1 : List UInt8) (f0 f1 : Int) (kd sa sb sc x y : Int) (ss : List UInt8) (w : World) (hnf : 1 ≤ nf) (hnf8 : nf ≤ 8) (_hc : nf ≤ c) (h0 : F[0]? = some (n0, f0)) (h1 : F[nf - 1]? = some (n1, f1)) (hr : FRZ w p F) (hx : bits .and .i64 sa 1 = x) (hy : bits .and .i64 sb 1 = y)
    (hWd : ∀ (W : World) (q : Option Addr) (c2 B : Nat), Below w.heap.size w W → W.ownsRow B 75 2 (.slice q 3 c2) 3 [.string ⟨n1.toArray⟩, .int .i64 x, .string ⟨n0.toArray⟩, .int .i64 y, .string ⟨#[114, 111, 111, 109]⟩, .int .i64 77] → Calls Tryz.prog 35 #[.slice p nf c, .slice q 2 c2] W fun e w' => ∃ (tx : List UInt8) (E : Int), e = .returned (.tuple #[.string ⟨tx.toArray⟩, .int .i64 E]) ∧ (nf = 1 → (E == 0) = false) ∧ (¬ nf = 1 → E = 0) ∧ Below W.heap.size W w')
    (hPk : ∀ (W : World) (q : Option Addr) (c2 B : Nat), Below w.heap.size w W → W.ownsRow B 3 1 (.slice q (nf + 1) c2) (nf + 1) (inZ (List.replicate nf 0) ++ [.int .i64 77]) → Calls Tryz.prog 36 #[.slice p nf c, .slice q nf c2] W fun e w' => ∃ tx : List UInt8, e = .returned (.tuple #[.string ⟨tx.toArray⟩, .int .i64 0]) ∧ Below W.heap.size W w') : Calls Tryz.prog 19 #[.slice p nf c, .agg #[.int .i64 kd, .int .i64 sa, .int .i64 sb, .int .i64 sc, .string ⟨ss.toArray⟩]] w fun e w' => e = .returned (.bool true) ∧ Below w.heap.size w w' := by
  obtain ⟨iS, hiS, hzS0, hzS1, hzS2⟩ := info_parts info_stpZ
  obtain ⟨iI, hiI, hzI0, hzI1, hzI2⟩ := info_parts info_inZ
  obtain ⟨m, hm⟩ : ∃ m, nf - 1 = m := ⟨_, rfl⟩
  rw [hm] at h1
  obtain ⟨gp, rfl, -⟩ := hr w (Below.refl _ _) 0 _ h0
  obtain ⟨bb, hbb⟩ : ∃ bb, w.heap.size = bb := ⟨_, rfl⟩
  have HWA : Hid (Below w.heap.size w (w.alloc (.cells #[.int .i64 kd, .int .i64 sa, .int .i64 sb, .int .i64 sc, .string ⟨ss.toArray⟩] 45 (0, 0)))) := belAZ (Below.refl _ _) _
  have HCL : Hid (∀ U, BLZ (w.alloc (.cells #[.int .i64 kd, .int .i64 sa, .int .i64 sb, .int .i64 sc, .string ⟨ss.toArray⟩] 45 (0, 0))) U → ((∀ j, U.cell? ⟨bb, j, none⟩ = (#[.int .i64 kd, .int .i64 sa, .int .i64 sb, .int .i64 sc, .string ⟨ss.toArray⟩] : Array Value)[j]?) ∧ U.cell? ⟨gp, m * 2, none⟩ = some (.string ⟨n1.toArray⟩) ∧ U.cell? ⟨gp, 0, none⟩ = some (.string ⟨n0.toArray⟩))) := fun U hU => by
    obtain ⟨g, e1, a1, -⟩ := hr U (bel0Z HWA.out hU) m _ h1
    obtain ⟨g', e2, a2, -⟩ := hr U (bel0Z HWA.out hU) 0 _ h0
    injection e1 with e1
    injection e1 with e1
    injection e2 with e2
    injection e2 with e2
    subst e1 e2
    exact ⟨(cellsZ (keepZ (show Below _ _ _ from hU) (by rw [← hbb]; exact alloc_getZ _ _))).1, a1, by simpa using a2⟩
  have m1 : (nf : Int) - 1 = (m : Int) := by omega
  have m0 : (0 : Int) ≤ (m : Int) := by omega
  have m2 : (m : Int) < (nf : Int) := by omega
  have m3 : (0 : Int) < (nf : Int) := by omega
  have m4 : IntKind.i64.wrap (m : Int) = (m : Int) := by rw [IntKind.wrap_i64]; omega
  have m5 : ¬ nf = 0 := by omega
  have m6 : 0 < nf := by omega
  have hsz : (w.alloc (.cells #[.int .i64 kd, .int .i64 sa, .int .i64 sb, .int .i64 sc, .string ⟨ss.toArray⟩] 45 (0, 0))).drew.heap.size = bb + 1 := by rw [← hbb]; exact Array.size_push _
  have HSZ : Hid ((w.alloc (.cells #[.int .i64 kd, .int .i64 sa, .int .i64 sb, .int .i64 sc, .string ⟨ss.toArray⟩] 45 (0, 0))).drew.heap.size = bb + 1) := hsz
  clear hsz
  have HWD : Hid (∀ (W : World) (q : Option Addr) (c2 B : Nat), Below w.heap.size w W → W.ownsRow B 75 2 (.slice q 3 c2) 3 [.string ⟨n1.toArray⟩, .int .i64 x, .string ⟨n0.toArray⟩, .int .i64 y, .string ⟨#[114, 111, 111, 109]⟩, .int .i64 77] → Calls Tryz.prog 35 #[.slice (some ⟨gp, 0, none⟩) nf c, .slice q 2 c2] W fun e w' => ∃ (tx : List UInt8) (E : Int), e = .returned (.tuple #[.string ⟨tx.toArray⟩, .int .i64 E]) ∧ (nf = 1 → (E == 0) = false) ∧ (¬ nf = 1 → E = 0) ∧ Below W.heap.size W w') := hWd
  have HPK : Hid (∀ (W : World) (q : Option Addr) (c2 B : Nat), Below w.heap.size w W → W.ownsRow B 3 1 (.slice q (nf + 1) c2) (nf + 1) (inZ (List.replicate nf 0) ++ [.int .i64 77]) → Calls Tryz.prog 36 #[.slice (some ⟨gp, 0, none⟩) nf c, .slice q nf c2] W fun e w' => ∃ tx : List UInt8, e = .returned (.tuple #[.string ⟨tx.toArray⟩, .int .i64 0]) ∧ Below W.heap.size W w') := hPk
  have HMK : Hid (∀ W, BLZ (w.alloc (.cells #[.int .i64 kd, .int .i64 sa, .int .i64 sb, .int .i64 sc, .string ⟨ss.toArray⟩] 45 (0, 0))) W → ∃ W5, (Instr.makeSlice 73 (.int .i64 0) (.int .i64 4)).run Tryz.prog W = .ok (.slice (some ⟨W.heap.size, 0, none⟩) 0 4) W5 ∧ W5.ownsRow (w.alloc (.cells #[.int .i64 kd, .int .i64 sa, .int .i64 sb, .int .i64 sc, .string ⟨ss.toArray⟩] 45 (0, 0))).heap.size 75 2 (.slice (some ⟨W.heap.size, 0, none⟩) 0 4) 0 [] ∧ W.grownBy W5 none) := fun W hW => run_make_own (P := Tryz.prog) W _ 73 75 iS _ 2 Tryz.underlying73 hiS hzS0 hzS1 .i64 .i64 4 (by rw [hzS2]; decide) (by decide) (Below.size hW)
  have HT : Hid (∀ (W5 : World) (gm gn : Nat), W5.ownsRow (w.alloc (.cells #[.int .i64 kd, .int .i64 sa, .int .i64 sb, .int .i64 sc, .string ⟨ss.toArray⟩] 45 (0, 0))).heap.size 75 2 (.slice (some ⟨gm, 0, none⟩) 0 4) 0 [] → W5.heap[gn]? = some (.cells #[.string ⟨n1.toArray⟩, .int .i64 x, .string ⟨n0.toArray⟩, .int .i64 y, .string ⟨#[114, 111, 111, 109]⟩, .int .i64 77] 75 (0, 0)) → BLZ (w.alloc (.cells #[.int .i64 kd, .int .i64 sa, .int .i64 sb, .int .i64 sc, .string ⟨ss.toArray⟩] 45 (0, 0))) W5 → ∃ pS cS W6, (Builtin.append_ #[73, 73] 73 #[.slice (some ⟨gm, 0, none⟩) 0 4, .slice (some ⟨gn, 0, none⟩) 3 3]).run Tryz.prog W5 = .ok (.slice pS 3 cS) W6 ∧ ((∀ j, W6.cell? ⟨bb, j, none⟩ = (#[.int .i64 kd, .int .i64 sa, .int .i64 sb, .int .i64 sc, .string ⟨ss.toArray⟩] : Array Value)[j]?) ∧ W6.cell? ⟨gp, m * 2, none⟩ = some (.string ⟨n1.toArray⟩) ∧ W6.cell? ⟨gp, 0, none⟩ = some (.string ⟨n0.toArray⟩)) ∧ Hid (W6.ownsRow (w.alloc (.cells #[.int .i64 kd, .int .i64 sa, .int .i64 sb, .int .i64 sc, .string ⟨ss.toArray⟩] 45 (0, 0))).heap.size 75 2 (.slice pS 3 cS) 3 [.string ⟨n1.toArray⟩, .int .i64 x, .string ⟨n0.toArray⟩, .int .i64 y, .string ⟨#[114, 111, 111, 109]⟩, .int .i64 77] ∧ BLZ (w.alloc (.cells #[.int .i64 kd, .int .i64 sa, .int .i64 sb, .int .i64 sc, .string ⟨ss.toArray⟩] 45 (0, 0))) W6)) := fun W5 gm gn om hn hb => by
    obtain ⟨v', W6, hr6, o6, g6, -⟩ := run_append_own_at (P := Tryz.prog) W5 _ 73 73 75 iS _ 2 24 Tryz.underlying73 hiS hzS0 hzS1 hzS2 rfl (by decide) (.slice (some ⟨gm, 0, none⟩) 0 4) 0 [] om ⟨gn, 0, none⟩ 3 3 [.string ⟨n1.toArray⟩, .int .i64 x, .string ⟨n0.toArray⟩, .int .i64 y, .string ⟨#[114, 111, 111, 109]⟩, .int .i64 77] rfl (World.news_of_block hn) (by simp [Value.oneCell']) (by unfold maxLen; omega) (by omega) (Below.size hb)
    obtain ⟨pS, cS, rfl⟩ := shapeZ o6
    have hb6 : BLZ (w.alloc (.cells #[.int .i64 kd, .int .i64 sa, .int .i64 sb, .int .i64 sc, .string ⟨ss.toArray⟩] 45 (0, 0))) W6 := bel_grZ hb g6 (fun k e => (om.lt k e).1)
    exact ⟨pS, cS, W6, hr6, HCL.out W6 hb6, o6, hb6⟩
  clear hWd hPk hr h0 h1 hm
  have BWD : BLZ (w.alloc (.cells #[.int .i64 kd, .int .i64 sa, .int .i64 sb, .int .i64 sc, .string ⟨ss.toArray⟩] 45 (0, 0))) (w.alloc (.cells #[.int .i64 kd, .int .i64 sa, .int .i64 sb, .int .i64 sc, .string ⟨ss.toArray⟩] 45 (0, 0))).drew := Below.drew (Below.refl _ _)
  have hs0 : ((∀ j, (w.alloc (.cells #[.int .i64 kd, .int .i64 sa, .int .i64 sb, .int .i64 sc, .string ⟨ss.toArray⟩] 45 (0, 0))).drew.cell? ⟨bb, j, none⟩ = (#[.int .i64 kd, .int .i64 sa, .int .i64 sb, .int .i64 sc, .string ⟨ss.toArray⟩] : Array Value)[j]?) ∧ (w.alloc (.cells #[.int .i64 kd, .int .i64 sa, .int .i64 sb, .int .i64 sc, .string ⟨ss.toArray⟩] 45 (0, 0))).drew.cell? ⟨gp, m * 2, none⟩ = some (.string ⟨n1.toArray⟩) ∧ (w.alloc (.cells #[.int .i64 kd, .int .i64 sa, .int .i64 sb, .int .i64 sc, .string ⟨ss.toArray⟩] 45 (0, 0))).drew.cell? ⟨gp, 0, none⟩ = some (.string ⟨n0.toArray⟩)) := HCL.out _ BWD
  go_enter Tryz.func19, Tryz.ntmps19
  go_upto_region 1 with fail
  go_cut [5] (fun v5 wc => ∃ (pS : Option Addr) (cS : Nat), v5 = .slice pS 3 cS ∧ Hid (wc.ownsRow (w.alloc (.cells #[.int .i64 kd, .int .i64 sa, .int .i64 sb, .int .i64 sc, .string ⟨ss.toArray⟩] 45 (0, 0))).heap.size 75 2 (.slice pS 3 cS) 3 [.string ⟨n1.toArray⟩, .int .i64 x, .string ⟨n0.toArray⟩, .int .i64 y, .string ⟨#[114, 111, 111, 109]⟩, .int .i64 77] ∧ BLZ (w.alloc (.cells #[.int .i64 kd, .int .i64 sa, .int .i64 sb, .int .i64 sc, .string ⟨ss.toArray⟩] 45 (0, 0))) wc))
  case first =>
    refine wp_region_held_drew (S := fun U => ((∀ j, U.cell? ⟨bb, j, none⟩ = (#[.int .i64 kd, .int .i64 sa, .int .i64 sb, .int .i64 sc, .string ⟨ss.toArray⟩] : Array Value)[j]?) ∧ U.cell? ⟨gp, m * 2, none⟩ = some (.string ⟨n1.toArray⟩) ∧ U.cell? ⟨gp, 0, none⟩ = some (.string ⟨n0.toArray⟩))) (by kernel_rfl) hs0 (fun _ => ?_)
    refine wpAnyH_take (i := 1) (v := .slice (some ⟨gp, 0, none⟩) nf c) rfl (by kernel_rfl) (by kernel_rfl) (by kernel_rfl) (fun _ _ _ h => h) (Or.inl ⟨by rfl, ?_⟩) hs0 ?_
    · rintro w ⟨s1, s2, s3⟩; go_simp
    refine wpAnyH_take (i := 2) (v := .slice (some ⟨gp, 0, none⟩) nf c) rfl (by kernel_rfl) (by kernel_rfl) (by kernel_rfl) (fun _ _ _ h => h) (Or.inl ⟨by rfl, ?_⟩) hs0 ?_
    · rintro w ⟨s1, s2, s3⟩; go_simp
    refine wpAnyH_take (i := 3) (v := .int .i64 (nf : Int)) rfl (by kernel_rfl) (by kernel_rfl) (by kernel_rfl) (fun _ _ _ h => h) (Or.inl ⟨by rfl, ?_⟩) hs0 ?_
    · rintro w ⟨s1, s2, s3⟩; go_simp
    refine wpAnyH_take (i := 4) (v := .int .i64 (m : Int)) rfl (by kernel_rfl) (by kernel_rfl) (by kernel_rfl) (fun _ _ _ h => h) (Or.inl ⟨by rfl, ?_⟩) hs0 ?_
    · rintro w ⟨s1, s2, s3⟩; go_simp
    refine wpAnyH_take (i := 5) (v := .pointer (some ⟨gp, m * 2, none⟩)) rfl (by kernel_rfl) (by kernel_rfl) (by kernel_rfl) (fun _ _ _ h => h) (Or.inl ⟨by rfl, ?_⟩) hs0 ?_
    · rintro w ⟨s1, s2, s3⟩; go_simp
    refine wpAnyH_take (i := 6) (v := .pointer (some ⟨gp, m * 2, none⟩)) rfl (by kernel_rfl) (by kernel_rfl) (by kernel_rfl) (fun _ _ _ h => h) (Or.inl ⟨by rfl, ?_⟩) hs0 ?_
    · rintro w ⟨s1, s2, s3⟩; go_simp
    refine wpAnyH_take (i := 7) (v := .string ⟨n1.toArray⟩) rfl (by kernel_rfl) (by kernel_rfl) (by kernel_rfl) (fun _ _ _ h => h) (Or.inl ⟨by rfl, ?_⟩) hs0 ?_
    · rintro w ⟨s1, s2, s3⟩; go_simp
    refine wpAnyH_take (i := 8) (v := .pointer (some ⟨bb, 1, none⟩)) rfl (by kernel_rfl) (by kernel_rfl) (by kernel_rfl) (fun _ _ _ h => h) (Or.inl ⟨by rfl, ?_⟩) hs0 ?_
    · rintro w ⟨s1, s2, s3⟩; go_simp
    refine wpAnyH_take (i := 9) (v := .int .i64 sa) rfl (by kernel_rfl) (by kernel_rfl) (by kernel_rfl) (fun _ _ _ h => h) (Or.inl ⟨by rfl, ?_⟩) hs0 ?_
    · rintro w ⟨s1, s2, s3⟩; go_simp
    refine wpAnyH_take (i := 10) (v := .int .i64 x) rfl (by kernel_rfl) (by kernel_rfl) (by kernel_rfl) (fun _ _ _ h => h) (Or.inl ⟨by rfl, ?_⟩) hs0 ?_
    · rintro w ⟨s1, s2, s3⟩; go_simp
    refine wpAnyH_take (i := 11) (v := .agg #[.string ⟨n1.toArray⟩, .int .i64 x]) rfl (by kernel_rfl) (by kernel_rfl) (by kernel_rfl) (fun _ _ _ h => h) (Or.inl ⟨by rfl, ?_⟩) hs0 ?_
    · rintro w ⟨s1, s2, s3⟩; go_simp
    refine wpAnyH_take (i := 12) (v := .slice (some ⟨gp, 0, none⟩) nf c) rfl (by kernel_rfl) (by kernel_rfl) (by kernel_rfl) (fun _ _ _ h => h) (Or.inl ⟨by rfl, ?_⟩) hs0 ?_
    · rintro w ⟨s1, s2, s3⟩; go_simp
    refine wpAnyH_take (i := 13) (v := .pointer (some ⟨gp, 0, none⟩)) rfl (by kernel_rfl) (by kernel_rfl) (by kernel_rfl) (fun _ _ _ h => h) (Or.inl ⟨by rfl, ?_⟩) hs0 ?_
    · rintro w ⟨s1, s2, s3⟩; go_simp
    refine wpAnyH_take (i := 14) (v := .pointer (some ⟨gp, 0, none⟩)) rfl (by kernel_rfl) (by kernel_rfl) (by kernel_rfl) (fun _ _ _ h => h) (Or.inl ⟨by rfl, ?_⟩) hs0 ?_
    · rintro w ⟨s1, s2, s3⟩; go_simp
    refine wpAnyH_take (i := 15) (v := .string ⟨n0.toArray⟩) rfl (by kernel_rfl) (by kernel_rfl) (by kernel_rfl) (fun _ _ _ h => h) (Or.inl ⟨by rfl, ?_⟩) hs0 ?_
    · rintro w ⟨s1, s2, s3⟩; go_simp
    refine wpAnyH_take (i := 16) (v := .pointer (some ⟨bb, 2, none⟩)) rfl (by kernel_rfl) (by kernel_rfl) (by kernel_rfl) (fun _ _ _ h => h) (Or.inl ⟨by rfl, ?_⟩) hs0 ?_
    · rintro w ⟨s1, s2, s3⟩; go_simp
    refine wpAnyH_take (i := 17) (v := .int .i64 sb) rfl (by kernel_rfl) (by kernel_rfl) (by kernel_rfl) (fun _ _ _ h => h) (Or.inl ⟨by rfl, ?_⟩) hs0 ?_
    · rintro w ⟨s1, s2, s3⟩; go_simp
    refine wpAnyH_take (i := 18) (v := .int .i64 y) rfl (by kernel_rfl) (by kernel_rfl) (by kernel_rfl) (fun _ _ _ h => h) (Or.inl ⟨by rfl, ?_⟩) hs0 ?_
    · rintro w ⟨s1, s2, s3⟩; go_simp
    refine wpAnyH_take (i := 19) (v := .agg #[.string ⟨n0.toArray⟩, .int .i64 y]) rfl (by kernel_rfl) (by kernel_rfl) (by kernel_rfl) (fun _ _ _ h => h) (Or.inl ⟨by rfl, ?_⟩) hs0 ?_
    · rintro w ⟨s1, s2, s3⟩; go_simp
    refine wpAnyH_take (i := 20) (v := .agg #[.string ⟨#[114, 111, 111, 109]⟩, .int .i64 77]) rfl (by kernel_rfl) (by kernel_rfl) (by kernel_rfl) (fun _ _ _ h => h) (Or.inl ⟨by rfl, ?_⟩) hs0 ?_
    · rintro w ⟨s1, s2, s3⟩; go_simp
    refine wpAnyH_ready (rs := [0, 21]) (by kernel_rfl) (by simp) ?_
    refine AllReadyH.cons rfl (fun KK hKK => ?_) (AllReadyH.cons rfl (fun KK hKK => ?_) AllReadyH.nil)
    · obtain ⟨W5, hr5, om5, g5⟩ := HMK.out ((w.alloc (.cells #[.int .i64 kd, .int .i64 sa, .int .i64 sb, .int .i64 sc, .string ⟨ss.toArray⟩] 45 (0, 0))).drew) (by exact BWD)
      refine step_makeZ (by rfl) _ _ _ (by rfl) (by rfl) (by rfl) hr5 ?_
      have bw5 : BLZ (w.alloc (.cells #[.int .i64 kd, .int .i64 sa, .int .i64 sb, .int .i64 sc, .string ⟨ss.toArray⟩] 45 (0, 0))) W5 := BLZ.new BWD g5
      refine hKK.out _ _ (HCL.out W5 bw5) (fun _ => ?_)
      clear hKK KK hr5 g5
      refine wpAnyH_ready (rs := [21]) (by kernel_rfl) (by simp) ?_
      refine AllReadyH.cons rfl (fun KK hKK => ?_) AllReadyH.nil
      go_simp
      refine hKK.out _ _ (HCL.out _ (bw5.trans (belAZ (Below.refl _ _) _))) (fun _ => ?_)
      clear hKK KK
      rw [HSZ.out] at om5
      have om := own_belZ om5 (belAZ (Below.refl _ _) (.cells #[.string ⟨n1.toArray⟩, .int .i64 x, .string ⟨n0.toArray⟩, .int .i64 y, .string ⟨#[114, 111, 111, 109]⟩, .int .i64 77] 75 (0, 0)))
      have hn6 := alloc_getZ W5 (.cells #[.string ⟨n1.toArray⟩, .int .i64 x, .string ⟨n0.toArray⟩, .int .i64 y, .string ⟨#[114, 111, 111, 109]⟩, .int .i64 77] 75 (0, 0))
      have bw6 := bw5.trans (belAZ (Below.refl _ _) (.cells #[.string ⟨n1.toArray⟩, .int .i64 x, .string ⟨n0.toArray⟩, .int .i64 y, .string ⟨#[114, 111, 111, 109]⟩, .int .i64 77] 75 (0, 0)))
      clear om5 bw5
      obtain ⟨pS, cS, W6, hr6, hs6, HS⟩ := HT.out _ _ _ om hn6 bw6
      clear om hn6 bw6
      refine wpAnyH_ready (rs := [22]) (by kernel_rfl) (by simp) ?_
      refine AllReadyH.cons rfl (fun KK hKK => ?_) AllReadyH.nil
      refine step_runZ (by rfl) _ _ _ (by rfl) (by rfl) (by rfl) hr6 ?_
      refine hKK.out _ _ hs6 (fun _ => ?_)
      clear hKK KK hr6
      refine wpAnyH_ready (rs := [23]) (by kernel_rfl) (by simp) ?_
      refine AllReadyH.cons rfl (fun KK hKK => ?_) AllReadyH.nil
      go_simp
      refine hKK.out _ _ hs6 (fun _ => ?_)
      clear hKK KK
      refine wpAnyH_done (by kernel_rfl) ?_ _
      go_wp2_with fail
      go_meet
      exact ⟨pS, cS, rfl, HS⟩
    · go_simp
      refine hKK.out _ _ (HCL.out _ (BLZ.trans BWD (belAZ (Below.refl _ _) _))) (fun _ => ?_)
      clear hKK KK
      have bwA : BLZ (w.alloc (.cells #[.int .i64 kd, .int .i64 sa, .int .i64 sb, .int .i64 sc, .string ⟨ss.toArray⟩] 45 (0, 0))) (((w.alloc (.cells #[.int .i64 kd, .int .i64 sa, .int .i64 sb, .int .i64 sc, .string ⟨ss.toArray⟩] 45 (0, 0))).drew).alloc (.cells #[.string ⟨n1.toArray⟩, .int .i64 x, .string ⟨n0.toArray⟩, .int .i64 y, .string ⟨#[114, 111, 111, 109]⟩, .int .i64 77] 75 (0, 0))) := BLZ.trans BWD (belAZ (Below.refl _ _) _)
      refine wpAnyH_ready (rs := [0]) (by kernel_rfl) (by simp) ?_
      refine AllReadyH.cons rfl (fun KK hKK => ?_) AllReadyH.nil
      obtain ⟨W5, hr5, om5, g5⟩ := HMK.out (((w.alloc (.cells #[.int .i64 kd, .int .i64 sa, .int .i64 sb, .int .i64 sc, .string ⟨ss.toArray⟩] 45 (0, 0))).drew).alloc (.cells #[.string ⟨n1.toArray⟩, .int .i64 x, .string ⟨n0.toArray⟩, .int .i64 y, .string ⟨#[114, 111, 111, 109]⟩, .int .i64 77] 75 (0, 0))) bwA
      refine step_makeZ (by rfl) _ _ _ (by rfl) (by rfl) (by rfl) hr5 ?_
      have bw6 : BLZ (w.alloc (.cells #[.int .i64 kd, .int .i64 sa, .int .i64 sb, .int .i64 sc, .string ⟨ss.toArray⟩] 45 (0, 0))) W5 := BLZ.new bwA g5
      refine hKK.out _ _ (HCL.out W5 bw6) (fun _ => ?_)
      clear hKK KK hr5
      have om := om5
      have hn6 : W5.heap[bb + 1]? = some (.cells #[.string ⟨n1.toArray⟩, .int .i64 x, .string ⟨n0.toArray⟩, .int .i64 y, .string ⟨#[114, 111, 111, 109]⟩, .int .i64 77] 75 (0, 0)) := by
        rw [← HSZ.out]
        exact keepN g5 (alloc_getZ _ _)
      clear om5 g5 bwA
      obtain ⟨pS, cS, W6, hr6, hs6, HS⟩ := HT.out _ _ _ om hn6 bw6
      clear om hn6 bw6
      refine wpAnyH_ready (rs := [22]) (by kernel_rfl) (by simp) ?_
      refine AllReadyH.cons rfl (fun KK hKK => ?_) AllReadyH.nil
      refine step_runZ (by rfl) _ _ _ (by rfl) (by rfl) (by rfl) hr6 ?_
      refine hKK.out _ _ hs6 (fun _ => ?_)
      clear hKK KK hr6
      refine wpAnyH_ready (rs := [23]) (by kernel_rfl) (by simp) ?_
      refine AllReadyH.cons rfl (fun KK hKK => ?_) AllReadyH.nil
      go_simp
      refine hKK.out _ _ hs6 (fun _ => ?_)
      clear hKK KK
      refine wpAnyH_done (by kernel_rfl) ?_ _
      go_wp2_with fail
      go_meet
      exact ⟨pS, cS, rfl, HS⟩
  case rest =>
    obtain ⟨pS, cS, rfl, HS⟩ := hcut
    rename World => wc
    clear HMK HT BWD hs0 hiS hzS0 hzS1 hzS2 iS
    obtain ⟨gs, rfl⟩ := own_someZ HS.out.1 (by omega)
    have hcS : 3 ≤ cS := own_capZ HS.out.1
    have c1 : (2 : Int) ≤ (cS : Int) := by omega
    have hsw : (w.alloc (.cells #[.int .i64 kd, .int .i64 sa, .int .i64 sb, .int .i64 sc, .string ⟨ss.toArray⟩] 45 (0, 0))).heap.size ≤ wc.heap.size := Below.size HS.out.2
    go_upto_region 3 with (at_make; refine wpList_make_full _ rfl _ _ 22 rfl (w.alloc (.cells #[.int .i64 kd, .int .i64 sa, .int .i64 sb, .int .i64 sc, .string ⟨ss.toArray⟩] 45 (0, 0))).heap.size 3 iI (.int .i64 0) 1 Tryz.underlying22 hiI hzI0 hzI1 .i64 .i64 _ _ (nf + 1) rfl rfl (by omega) (by omega) (by rw [hzI2]; omega) (by unfold maxLen; omega) hsw ?_; intro w5 hO5 hg5)
    have hb5 : BLZ (w.alloc (.cells #[.int .i64 kd, .int .i64 sa, .int .i64 sb, .int .i64 sc, .string ⟨ss.toArray⟩] 45 (0, 0))) w5 := BLZ.new HS.out.2 hg5
    obtain ⟨gv, hgv⟩ : ∃ gv, wc.heap.size = gv := ⟨_, rfl⟩
    rw [hgv] at hO5
    simp only [hgv]
    obtain ⟨st1, st2⟩ := World.ownsRow.stored hO5 nf (.int .i64 77)
    rw [rep_make] at st1
    have oS5 : w5.ownsRow (w.alloc (.cells #[.int .i64 kd, .int .i64 sa, .int .i64 sb, .int .i64 sc, .string ⟨ss.toArray⟩] 45 (0, 0))).heap.size 75 2 (.slice (some ⟨gs, 0, none⟩) 3 cS) 3 [.string ⟨n1.toArray⟩, .int .i64 x, .string ⟨n0.toArray⟩, .int .i64 y, .string ⟨#[114, 111, 111, 109]⟩, .int .i64 77] := HS.out.1.kept hg5 (.inr (by simp [Value.ownBlock]))
    have HV : Hid ((w5.setCell ⟨gv, nf, none⟩ (.int .i64 77)).ownsRow (w.alloc (.cells #[.int .i64 kd, .int .i64 sa, .int .i64 sb, .int .i64 sc, .string ⟨ss.toArray⟩] 45 (0, 0))).heap.size 3 1 (.slice (some ⟨gv, 0, none⟩) (nf + 1) (nf + 1)) (nf + 1) (inZ (List.replicate nf 0) ++ [.int .i64 77]) ∧ (w5.setCell ⟨gv, nf, none⟩ (.int .i64 77)).ownsRow (w.alloc (.cells #[.int .i64 kd, .int .i64 sa, .int .i64 sb, .int .i64 sc, .string ⟨ss.toArray⟩] 45 (0, 0))).heap.size 75 2 (.slice (some ⟨gs, 0, none⟩) 3 cS) 3 [.string ⟨n1.toArray⟩, .int .i64 x, .string ⟨n0.toArray⟩, .int .i64 y, .string ⟨#[114, 111, 111, 109]⟩, .int .i64 77] ∧ BLZ (w.alloc (.cells #[.int .i64 kd, .int .i64 sa, .int .i64 sb, .int .i64 sc, .string ⟨ss.toArray⟩] 45 (0, 0))) (w5.setCell ⟨gv, nf, none⟩ (.int .i64 77))) := ⟨st1, oS5.kept st2 (own_neZ oS5 hO5 (by decide)), bel_grZ hb5 st2 (fun k e => (hO5.lt k e).1)⟩
    obtain ⟨u7, hu7⟩ : ∃ u, (madeCells (Value.int .i64 0).cells ((nf + 1) * 1)).toList[nf]? = some u := by
      refine ⟨_, List.getElem?_eq_getElem ?_⟩
      rw [hO5.1]
      omega
    have k1 := own_atZ hO5 hu7
    have k2 : w5.frozen? ⟨gv, nf, none⟩ = false := hO5.frozenAt nf
    have v0 : (0 : Int) ≤ (nf : Int) := by omega
    have v1 : (nf : Int) < (nf : Int) + 1 := by omega
    have v2 : (nf : Int) ≤ (nf : Int) + 1 := by omega
    clear hO5 hg5 hb5 st1 st2 oS5 hu7 hgv hsw HS
    go_upto_region 4 with fail
    obtain ⟨W7, hW7⟩ : ∃ W7, w5.setCell ⟨gv, nf, none⟩ (.int .i64 77) = W7 := ⟨_, rfl⟩
    rw [hW7]
    rw [hW7] at HV
    clear k1 k2 hW7
    have HW := HWD.out W7 _ _ _ (bel0Z HWA.out HV.out.2.2) HV.out.2.1
    go_wp2_with fail
    refine HW.mono ?_
    rintro e W8 ⟨tx, E, rfl, hE1, hE2, hb8⟩
    have HV8 : Hid (W8.ownsRow (w.alloc (.cells #[.int .i64 kd, .int .i64 sa, .int .i64 sb, .int .i64 sc, .string ⟨ss.toArray⟩] 45 (0, 0))).heap.size 3 1 (.slice (some ⟨gv, 0, none⟩) (nf + 1) (nf + 1)) (nf + 1) (inZ (List.replicate nf 0) ++ [.int .i64 77]) ∧ W8.ownsRow (w.alloc (.cells #[.int .i64 kd, .int .i64 sa, .int .i64 sb, .int .i64 sc, .string ⟨ss.toArray⟩] 45 (0, 0))).heap.size 75 2 (.slice (some ⟨gs, 0, none⟩) 3 cS) 3 [.string ⟨n1.toArray⟩, .int .i64 x, .string ⟨n0.toArray⟩, .int .i64 y, .string ⟨#[114, 111, 111, 109]⟩, .int .i64 77] ∧ BLZ (w.alloc (.cells #[.int .i64 kd, .int .i64 sa, .int .i64 sb, .int .i64 sc, .string ⟨ss.toArray⟩] 45 (0, 0))) W8) := ⟨own_belZ HV.out.1 hb8, own_belZ HV.out.2.1 hb8, HV.out.2.2.trans hb8⟩
    have HP := HPK.out W8 _ _ _ (bel0Z HWA.out HV8.out.2.2) HV8.out.1
    clear HV hb8 HW
    go_wp2_with fail
    refine HP.mono ?_
    rintro e W9 ⟨tx2, rfl, hb9⟩
    have HQ : Hid (∀ U, BLZ W9 U → (∀ j, U.cell? ⟨bb, j, none⟩ = (#[.int .i64 kd, .int .i64 sa, .int .i64 sb, .int .i64 sc, .string ⟨ss.toArray⟩] : Array Value)[j]?) ∧ U.cell? ⟨gp, m * 2, none⟩ = some (.string ⟨n1.toArray⟩) ∧ U.cell? ⟨gp, 0, none⟩ = some (.string ⟨n0.toArray⟩) ∧ U.cell? ⟨gs, 0, none⟩ = some (.string ⟨n1.toArray⟩) ∧ U.cell? ⟨gs, 1, none⟩ = some (.int .i64 x) ∧ U.cell? ⟨gs, 2, none⟩ = some (.string ⟨n0.toArray⟩) ∧ U.cell? ⟨gs, 3, none⟩ = some (.int .i64 y) ∧ U.cell? ⟨gs, 4, none⟩ = some (.string ⟨#[114, 111, 111, 109]⟩) ∧ U.cell? ⟨gs, 5, none⟩ = some (.int .i64 77)) := fun U hU => by
      have o := own_belZ HV8.out.2.1 (bel0Z hb9 hU)
      obtain ⟨a1, a2, a3⟩ := HCL.out U (HV8.out.2.2.trans (bel0Z hb9 hU))
      exact ⟨a1, a2, a3, own_atZ o rfl, own_atZ o rfl, own_atZ o rfl, own_atZ o rfl, own_atZ o rfl, own_atZ o rfl⟩
    have HQV : Hid (∀ U, BLZ W9 U → (∀ k, k < nf → U.cell? ⟨gv, k, none⟩ = some (.int .i64 0)) ∧ U.cell? ⟨gv, nf, none⟩ = some (.int .i64 77) ∧ Below w.heap.size w U) := fun U hU => by
      have o := own_belZ HV8.out.1 (bel0Z hb9 hU)
      exact ⟨fun k hk => own_atZ o (rep_at hk), own_atZ o (rep_last nf), bel0Z HWA.out (HV8.out.2.2.trans (bel0Z hb9 hU))⟩
    clear HV8 HP hb9 HCL HWA HWD HPK
    go_wp2_with fail
    refine quiet_lit3 (C := fun U => BLZ W9 U) (by kernel_rfl) (by kernel_rfl) (show BLZ _ _ from Below.drew (Below.refl _ _)) ?_
    go_big_quiet_want
    go_big_quiet_op
    go_big_quiet_on
    go_big_quiet_want
    refine ⟨.pointer (some ⟨gs, 0, none⟩), fun W hW => ?_, ?_⟩
    · go_simp
    go_big_quiet_on
    simp only [Act.put, List.setIfInBounds_toArray, List.set_cons_zero, List.set_cons_succ]
    go_big_quiet_want
    refine ⟨.agg #[.string ⟨n1.toArray⟩, .int .i64 x], fun W hW => ?_, ?_⟩
    · obtain ⟨q1, q2, q3, q4, q5, q6, q7, q8, q9⟩ := HQ.out W hW
      go_simp
    go_big_quiet_on
    simp only [Act.put, List.setIfInBounds_toArray, List.set_cons_zero, List.set_cons_succ]
    go_big_quiet_want
    go_big_quiet_op
    go_big_quiet_on
    go_big_quiet_want
    go_big_quiet_op
    go_big_quiet_on
    go_big_quiet_want
    refine ⟨.int .i64 (nf : Int), fun W hW => ?_, ?_⟩
    · go_simp
    go_big_quiet_on
    simp only [Act.put, List.setIfInBounds_toArray, List.set_cons_zero, List.set_cons_succ]
    go_big_quiet_want
    refine ⟨.int .i64 (m : Int), fun W hW => ?_, ?_⟩
    · go_simp
    go_big_quiet_on
    simp only [Act.put, List.setIfInBounds_toArray, List.set_cons_zero, List.set_cons_succ]
    go_big_quiet_want
    refine ⟨.pointer (some ⟨gp, m * 2, none⟩), fun W hW => ?_, ?_⟩
    · go_simp
    go_big_quiet_on
    simp only [Act.put, List.setIfInBounds_toArray, List.set_cons_zero, List.set_cons_succ]
    go_big_quiet_want
    refine ⟨.pointer (some ⟨gp, m * 2, none⟩), fun W hW => ?_, ?_⟩
    · go_simp
    go_big_quiet_on
    simp only [Act.put, List.setIfInBounds_toArray, List.set_cons_zero, List.set_cons_succ]
    go_big_quiet_want
    refine ⟨.string ⟨n1.toArray⟩, fun W hW => ?_, ?_⟩
    · obtain ⟨q1, q2, q3, q4, q5, q6, q7, q8, q9⟩ := HQ.out W hW
      go_simp
    go_big_quiet_on
    simp only [Act.put, List.setIfInBounds_toArray, List.set_cons_zero, List.set_cons_succ]
    go_big_quiet_want
    refine ⟨.pointer (some ⟨bb, 1, none⟩), fun W hW => ?_, ?_⟩
    · go_simp
    go_big_quiet_on
    simp only [Act.put, List.setIfInBounds_toArray, List.set_cons_zero, List.set_cons_succ]
    go_big_quiet_want
    refine ⟨.int .i64 sa, fun W hW => ?_, ?_⟩
    · obtain ⟨q1, q2, q3, q4, q5, q6, q7, q8, q9⟩ := HQ.out W hW
      go_simp
    go_big_quiet_on
    simp only [Act.put, List.setIfInBounds_toArray, List.set_cons_zero, List.set_cons_succ]
    go_big_quiet_want
    refine ⟨.int .i64 x, fun W hW => ?_, ?_⟩
    · go_simp
    go_big_quiet_on
    simp only [Act.put, List.setIfInBounds_toArray, List.set_cons_zero, List.set_cons_succ]
    go_big_quiet_want
    refine ⟨.agg #[.string ⟨n1.toArray⟩, .int .i64 x], fun W hW => ?_, ?_⟩
    · go_simp
    go_big_quiet_on
    simp only [Act.put, List.setIfInBounds_toArray, List.set_cons_zero, List.set_cons_succ]
    go_big_quiet_want
    refine ⟨.bool true, fun W hW => ?_, ?_⟩
    · go_simp
    go_big_quiet_on
    simp only [Act.put, List.setIfInBounds_toArray, List.set_cons_zero, List.set_cons_succ]
    go_big_quiet_want
    go_big_quiet_op
    go_big_quiet_on
    go_big_quiet_want
    go_big_quiet_op
    go_big_quiet_on
    go_big_quiet_want
    refine ⟨.pointer (some ⟨gs, 2, none⟩), fun W hW => ?_, ?_⟩
    · go_simp
    go_big_quiet_on
    simp only [Act.put, List.setIfInBounds_toArray, List.set_cons_zero, List.set_cons_succ]
    go_big_quiet_want
    refine ⟨.agg #[.string ⟨n0.toArray⟩, .int .i64 y], fun W hW => ?_, ?_⟩
    · obtain ⟨q1, q2, q3, q4, q5, q6, q7, q8, q9⟩ := HQ.out W hW
      go_simp
    go_big_quiet_on
    simp only [Act.put, List.setIfInBounds_toArray, List.set_cons_zero, List.set_cons_succ]
    go_big_quiet_want
    go_big_quiet_op
    go_big_quiet_on
    go_big_quiet_want
    refine ⟨.pointer (some ⟨gp, 0, none⟩), fun W hW => ?_, ?_⟩
    · go_simp
    go_big_quiet_on
    simp only [Act.put, List.setIfInBounds_toArray, List.set_cons_zero, List.set_cons_succ]
    go_big_quiet_want
    refine ⟨.pointer (some ⟨gp, 0, none⟩), fun W hW => ?_, ?_⟩
    · go_simp
    go_big_quiet_on
    simp only [Act.put, List.setIfInBounds_toArray, List.set_cons_zero, List.set_cons_succ]
    go_big_quiet_want
    refine ⟨.string ⟨n0.toArray⟩, fun W hW => ?_, ?_⟩
    · obtain ⟨q1, q2, q3, q4, q5, q6, q7, q8, q9⟩ := HQ.out W hW
      go_simp
    go_big_quiet_on
    simp only [Act.put, List.setIfInBounds_toArray, List.set_cons_zero, List.set_cons_succ]
    go_big_quiet_want
    refine ⟨.pointer (some ⟨bb, 2, none⟩), fun W hW => ?_, ?_⟩
    · go_simp
    go_big_quiet_on
    simp only [Act.put, List.setIfInBounds_toArray, List.set_cons_zero, List.set_cons_succ]
    go_big_quiet_want
    refine ⟨.int .i64 sb, fun W hW => ?_, ?_⟩
    · obtain ⟨q1, q2, q3, q4, q5, q6, q7, q8, q9⟩ := HQ.out W hW
      go_simp
    go_big_quiet_on
    simp only [Act.put, List.setIfInBounds_toArray, List.set_cons_zero, List.set_cons_succ]
    go_big_quiet_want
    refine ⟨.int .i64 y, fun W hW => ?_, ?_⟩
    · go_simp
    go_big_quiet_on
    simp only [Act.put, List.setIfInBounds_toArray, List.set_cons_zero, List.set_cons_succ]
    go_big_quiet_want
    refine ⟨.agg #[.string ⟨n0.toArray⟩, .int .i64 y], fun W hW => ?_, ?_⟩
    · go_simp
    go_big_quiet_on
    simp only [Act.put, List.setIfInBounds_toArray, List.set_cons_zero, List.set_cons_succ]
    go_big_quiet_want
    refine ⟨.bool true, fun W hW => ?_, ?_⟩
    · go_simp
    go_big_quiet_on
    simp only [Act.put, List.setIfInBounds_toArray, List.set_cons_zero, List.set_cons_succ]
    go_big_quiet_want
    refine ⟨.bool true, fun W hW => ?_, ?_⟩
    · go_simp
    go_big_quiet_on
    simp only [Act.put, List.setIfInBounds_toArray, List.set_cons_zero, List.set_cons_succ]
    go_big_quiet_want
    go_big_quiet_op
    go_big_quiet_on
    refine wpQuiet_nil ?_
    intro Wa hWa
    have HWa : Hid (BLZ W9 Wa) := hWa
    clear hWa
    go_wp2_with fail
    go_loopw [11, 12] (fun v11 v12 wr => ∃ i : Nat, v12 = .int .i64 (i : Int) ∧ v11 = .bool true ∧ i ≤ nf ∧ Hid (BLZ W9 wr)) (fun _ v12 _ => nf - (intOf v12).toNat)
    case atStart => exact ⟨0, rfl, rfl, Nat.zero_le _, HWa⟩
    case round =>
      clear HWa
      rename World => wr
      obtain ⟨i, rfl, rfl, hi, HR⟩ := hrel
      by_cases hlt : i < nf
      · have i0 : (0 : Int) ≤ (i : Int) := by omega
        have i1 : (i : Int) < (nf : Int) := by omega
        have i2 : (i : Int) < (nf : Int) + 1 := by omega
        have c1 := (HQV.out wr HR.out).1 i hlt
        go_wp2_with fail
        go_roundw
        case rel => exact ⟨i + 1, by go_num, rfl, by omega, HR⟩
        case measure => simp [intOf]; omega
      · have i1 : ¬ (i : Int) < (nf : Int) := by omega
        obtain ⟨q1, q2, q3, q4, q5, q6, q7, q8, q9⟩ := HQ.out wr HR.out
        obtain ⟨-, r2, r3⟩ := HQV.out wr HR.out
        have HBW : Hid (Below w.heap.size w wr) := r3
        clear r3 HR
        by_cases hn1 : nf = 1
        · have hHid : True := trivial
          have hE : (E == 0) = false := hE1 hn1
          have n1b : ((nf : Int) == 1) = true := by rw [hn1]; rfl
          clear hE1 hE2 hn1
          go_wp2_with fail
          refine (numZ_any _ _).mono ?_
          rintro e y7 ⟨rfl, rfl⟩
          go_wp2_with fail
          refine (numZ_any _ _).mono ?_
          rintro e y8 ⟨rfl, rfl⟩
          go_wp2_with fail
          go_ret
          exact ⟨rfl, HBW.out⟩
        · have hHid : True := trivial
          obtain rfl : E = 0 := hE2 hn1
          have n1b : ((nf : Int) == 1) = false := by simp; omega
          clear hE1 hE2 hn1
          go_wp2_with fail
          refine (numZ_any _ _).mono ?_
          rintro e y7 ⟨rfl, rfl⟩
          go_wp2_with fail
          refine (numZ_any _ _).mono ?_
          rintro e y8 ⟨rfl, rfl⟩
          go_wp2_with fail
          go_ret
          exact ⟨rfl, HBW.out⟩
end Go.Proofs.YtnboehlbcjfndaaGreatDoor

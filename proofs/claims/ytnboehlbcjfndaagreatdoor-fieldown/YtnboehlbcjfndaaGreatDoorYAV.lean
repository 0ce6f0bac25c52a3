import Derived.Test.YtnboehlbcjfndaaGreatDoorYAS
import Derived.Test.YtnboehlbcjfndaaGreatDoorYAU
import Derived.Test.YtnboehlbcjfndaaGreatDoorYAT
import Derived.Shelf.Strconv.Clone
import Derived.Ground.NamesProg
import Derived.Test.YtnboehlbcjfndaaGreatDoorProg
import Derived.Test.YtnboehlbcjfndaaGreatDoorYAD
namespace Go.Proofs.YtnboehlbcjfndaaGreatDoor
open Go.RowKit Go.Shelf
set_option maxRecDepth 100000 in
set_option maxHeartbeats 4000000 in
theorem run_any {X : MX} (hC : MC X) (hF : FOK X.w0) {W : World} {v0 : Value} (h : MS X W 0 0 1 0 v0 []) :
    Calls Tryz.prog 108 #[.pointer (some ⟨X.b, 0, none⟩)] W fun e w' => RunR X (runM (X.l.length + 1) X.l 0 1 0 []) e w' := by
  obtain ⟨R, hR⟩ : ∃ R, runM (X.l.length + 1) X.l 0 1 0 [] = R := ⟨_, rfl⟩
  have HF0 : Hid (RF X R 0 0 0 0 1 0 0 v0 [] W) := ⟨by decide, h, rfl, rfl, Nat.le_refl _, Nat.zero_le _, Nat.zero_le _, Nat.le_refl _, (fun _ => ⟨_, by omega, hR⟩), (fun h => absurd h (by decide)), (fun h => absurd h (by decide))⟩
  rw [hR]
  clear hR h
  go_enter Tryz.func108, Tryz.ntmps108
  go_wp2_with fail
  refine wp_scope_many2 (RJ X R) (fun lab _ wr => rM X lab wr) ?pass ?first
  case first =>
    intro pass
    go_wp2_with fail
    go_step3
    simp only [Exit.then]
    rename_i hK
    refine hK _ _ ?_
    exact use_pass (pass 0) ⟨0, 0, 0, 1, 0, 0, v0, [], _, rfl, rfl, rfl, HF0⟩ rfl
  case pass =>
    intro lab a wr hJ
    have hlab : lab = 0 ∨ lab = 1 ∨ lab = 2 := by
      obtain ⟨_, _, _, _, _, _, _, _, _, _, _, _, HF⟩ := hJ
      exact HF.out.1
    rcases hlab with rfl | rfl | rfl
    · exact rn0 hC hF (fun tmps W' h => bodyPost_ret (results_rn _ _) rfl h) a wr hJ _ _ rfl
    · exact rn1 hC (fun tmps W' h => bodyPost_ret (results_rn _ _) rfl h) a wr hJ _ _ rfl
    · exact rn2 hC (fun tmps W' h => bodyPost_ret (results_rn _ _) rfl h) a wr hJ _ _ rfl
end Go.Proofs.YtnboehlbcjfndaaGreatDoor
namespace Go.Proofs
open Go.Shelf
def Tryz.l316_ren : Go.Shelf.Ren := ⟨fun | 316 => 134 | n => n, fun | 9 => 9 | 3 => 3 | 4 => 4 | 37 => 60 | 0 => 0 | 127 => 169 | 5 => 5 | n => n, fun | n => n⟩
theorem Tryz.l316 : Go.Proofs.LaysM.n316 Tryz.prog Tryz.l316_ren := {
  mixed := by kernel_rfl
  f316 := Tryz.func134.trans (congrArg some (by kernel_rfl))
  t0 := Tryz.underlying0
  a0 := Tryz.isAgg0
  z0 := Tryz.sizeOf0
  v0 := Tryz.zeroValue0
  t3 := Tryz.underlying3
  a3 := Tryz.isAgg3
  z3 := Tryz.sizeOf3
  v3 := Tryz.zeroValue3
  t4 := Tryz.underlying4
  a4 := Tryz.isAgg4
  z4 := Tryz.sizeOf4
  v4 := Tryz.zeroValue4
  t9 := Tryz.underlying9
  a9 := Tryz.isAgg9
  z9 := Tryz.sizeOf9
  v9 := Tryz.zeroValue9
  t37 := Tryz.underlying60
  a37 := Tryz.isAgg60
  z37 := Tryz.sizeOf60
  v37 := Tryz.zeroValue60
  t127 := Tryz.underlying169
  a127 := Tryz.isAgg169
  z127 := Tryz.sizeOf169
  v127 := Tryz.zeroValue169
  t5 := Tryz.underlying5
  a5 := Tryz.isAgg5
  z5 := Tryz.sizeOf5
  v5 := Tryz.zeroValue5
  i0 := by kernel_rfl
  i3 := by kernel_rfl
  i4 := by kernel_rfl
  i5 := by kernel_rfl
  i9 := by kernel_rfl
  i37 := by kernel_rfl
  i127 := by kernel_rfl }
end Go.Proofs
namespace Go.Proofs.YtnboehlbcjfndaaGreatDoor
open Go.RowKit Go.Shelf
def scanM (l : List UInt8) : Res := if 16384 < l.length then ([], 2, 0, 0) else runM (l.length + 1) l 0 1 0 []
def scR (l : List UInt8) (w : World) (e : Ending) (w' : World) : Prop :=
  ∃ v, e = .returned (.tuple #[v, .int .i64 ((scanM l).2.1 : Int), .int .i64 ((scanM l).2.2.1 : Int), .int .i64 ((scanM l).2.2.2 : Int)]) ∧ w'.ownsRow w.heap.size 125 4 v (scanM l).1.length (tcels (scanM l).1) ∧ Below w.heap.size w w'
theorem results_sc (tmps : Array Value) (W : World) : (results Tryz.f82 tmps).run Tryz.prog W = .ok (.tuple #[tmps.getD 2 undef, tmps.getD 3 undef, tmps.getD 4 undef, tmps.getD 5 undef]) W := by
  simp [results, go_sem]
theorem clone_any (l : List UInt8) (w : World) (h : l.length ≤ 16384) : Calls Tryz.prog 106 #[.string ⟨l.toArray⟩] w fun e w' => e = .returned (.string ⟨l.toArray⟩) ∧ Below w.heap.size w w' := by
  have H := Any.stringslite_Clone Tryz.l316 ⟨l.toArray⟩ w (by simp [ByteArray.size]; omega)
  go_enter Tryz.func106, Tryz.ntmps106
  go_wp2_with fail
  refine H.mono ?_
  rintro e w1 ⟨rfl, hb⟩
  go_wp2_with fail
  go_ret
  exact ⟨rfl, hb⟩
theorem row_blk {W : World} {B g cap n : Nat} {C : List (Int × Nat)} (h : W.ownsRow B 184 2 (.slice (some ⟨g, 0, none⟩) n cap) C.length (ccels C)) : ∃ gc gf, W.heap[g]? = some (.cells gc 184 gf) ∧ ∀ k c, C[k]? = some c → gc[k * 2]? = some (.int .i32 c.1) ∧ gc[k * 2 + 1]? = some (.int .i64 (c.2 : Int)) := by
  rcases h.2 with ⟨hh, _⟩ | ⟨g', c, cur, h1, _, h3, _⟩
  · cases hh
  · injection h1 with h1 _ _
    injection h1 with h1
    injection h1 with h1 _ _
    subst h1
    refine ⟨_, _, h3, fun k c hc => ?_⟩
    obtain ⟨a, b⟩ := ccels_at C k c hc
    have ca := h.cells rfl _ _ a
    have cb := h.cells rfl _ _ b
    rw [add0, cell_of_row W g _ _ _ _ h3] at ca cb
    exact ⟨ca, cb⟩
set_option maxRecDepth 100000 in
set_option maxHeartbeats 2000000 in
theorem scan_any (l : List UInt8) (w : World) (hm : l.length ≤ 281474976710656) (hsh : SH w) (hsg : SG w) (hF : FOK w) :
    Calls Tryz.prog 82 #[.string ⟨l.toArray⟩] w fun e w' => scR l w e w' := by
  by_cases h1 : 16384 < l.length
  · have hr : Hid (scanM l = ([], 2, 0, 0)) := if_pos h1
    have i1 : (16384 : Int) < (l.length : Int) := by omega
    go_enter Tryz.func82, Tryz.ntmps82
    go_wp2_with fail
    refine bodyPost_ret (results_sc _ _) rfl ?_
    unfold scR
    rw [hr.out]
    exact ⟨_, rfl, World.ownsRow_nil _ _ _ _, Below.refl _ _⟩
  · have i1 : ¬ (16384 : Int) < (l.length : Int) := by omega
    have hr : scanM l = runM (l.length + 1) l 0 1 0 [] := if_neg h1
    have HC := clone_any l w (by omega)
    have HCH : Hid (∀ W, Calls Tryz.prog 107 #[.string ⟨l.toArray⟩] W fun e w' => ∃ v, e = .returned v ∧ w'.ownsRow W.heap.size 184 2 v (chars l 0).length (ccels (chars l 0)) ∧ Below W.heap.size W w') := fun W => charsOf_any l W (by omega)
    have hget0 : (chars l 0)[0]? = some (chr l 0, (if 0 < l.length then 0 else l.length)) := drop_get (now := 0) rfl
    have hN0 : 0 < (chars l 0).length := (List.getElem?_eq_some_iff.1 hget0).1
    have hNm := chars_len l _ 0 (Nat.le_refl _)
    obtain ⟨R, hR⟩ : ∃ R, scanM l = R := ⟨_, rfl⟩
    unfold scR
    rw [hR]
    have HRR : Hid (runM (l.length + 1) l 0 1 0 [] = R) := hr.symm.trans hR
    have hSH : Hid (SH w) := hsh
    have hSG : Hid (SG w) := hsg
    have hFF : Hid (FOK w) := hF
    clear hr hR hget0 hsh hsg hF
    go_enter Tryz.func82, Tryz.ntmps82
    go_wp2_with fail
    refine HC.mono ?_
    rintro e w1 ⟨rfl, hb1⟩
    go_wp2_with fail
    refine (HCH.out _).mono ?_
    rintro e w2 ⟨vc, rfl, ho2, hb2⟩
    obtain ⟨g, cap, rfl⟩ := own_form ho2 hN0
    have hcap := own_cap ho2
    obtain ⟨gc, gf, hgk, hgc⟩ := row_blk ho2
    have hbel := bel0 hb1 hb2
    obtain ⟨X, hX⟩ : ∃ X : MX, X = ⟨w, l, w2.heap.size, g, cap, gc, gf⟩ := ⟨_, rfl⟩
    have hMC : MC X := by subst hX; exact ⟨hgc, hbel.size, hcap, by show l.length ≤ 16384; omega, hSH.out, hSG.out⟩
    have hM0 : MS X (w2.alloc (.cells #[.string ⟨l.toArray⟩, .slice (some ⟨g, 0, none⟩) (chars l 0).length cap, .int .i64 0, .int .i64 0, .int .i64 1, .int .i64 0, .slice none 0 0] 156)) 0 0 1 0 (.slice none 0 0) [] := by
      subst hX
      exact ⟨alloc_get _ _, allocblk hgk _, World.ownsRow_nil _ _ _ _, hbel.alloc hbel.size _⟩
    have HRun := run_any hMC (by subst hX; exact hFF.out) hM0
    have hXb : X.b = w2.heap.size := by rw [hX]
    have hXl : X.l = l := by rw [hX]
    have hXw : X.w0 = w := by rw [hX]
    rw [hXb, hXl, HRR.out] at HRun
    have HXw : Hid (X.w0 = w) := hXw
    have HXb : Hid (X.b = w2.heap.size) := hXb
    clear hX hXb hXl hXw HCH HC HRR hSH hSG hFF ho2 hgk hgc hb1 hb2 hM0 hMC
    go_wp2_with fail
    refine HRun.mono ?_
    rintro e w3 ⟨rfl, now, fst, line, head, v, D, hM, hhn, hn16, hok, herr⟩
    clear HRun
    by_cases e0 : R.2.1 = 0
    · obtain rfl := hok e0
      have hc6 := hM.c6
      rw [HXb.out] at hc6
      clear hok herr e0
      go_wp2_with fail
      refine bodyPost_ret (results_sc _ _) rfl ?_
      have ho := hM.own
      have hb := hM.bel
      rw [HXw.out] at ho hb
      exact ⟨v, rfl, ho, hb⟩
    · have hRe := herr e0
      obtain ⟨E, hE⟩ : ∃ E, R.2.1 = E := ⟨_, rfl⟩
      rw [hE] at e0 hRe ⊢
      have HRe : Hid (R = ([], E, line, now - head + 1)) := hRe
      have t0 : ((E : Int) == 0) = false := by rw [beq_eq_false_iff_ne]; omega
      have t1 : ((E : Int) != 0) = true := by rw [bne, t0]; rfl
      have HB : Hid (∀ W', MS X W' now fst line head v D → ∀ i, W'.cell? ⟨w2.heap.size, i, none⟩ = (mcells X now fst line head v)[i]?) := fun W' m' i => by rw [← HXb.out]; exact m'.c i
      have HCo : Hid (∀ W', MS X W' now fst line head v D → Calls Tryz.prog 109 #[.pointer (some ⟨w2.heap.size, 0, none⟩), .int .i64 (now : Int)] W' fun e w' => e = .returned (.int .i64 ((now - head + 1 : Nat) : Int)) ∧ w' = W') := fun W' m' => by
        rw [← HXb.out]
        exact column_any m' hhn hn16
      clear hok herr hRe hE
      go_wp2_with fail
      refine quiet_lit3 (C := fun W => MS X W now fst line head v D) (by kernel_rfl) (by kernel_rfl) (MS.drew hM) ?_
      go_big_quiet_want
      go_big_quiet_op
      go_big_quiet_on
      go_big_quiet_want
      refine ⟨.pointer (some ⟨w2.heap.size, 4, none⟩), fun W hW => ?_, ?_⟩
      · go_simp
      go_big_quiet_on
      simp only [Act.put, List.setIfInBounds_toArray, List.set_cons_zero, List.set_cons_succ]
      go_big_quiet_want
      refine ⟨.int .i64 (line : Int), fun W hW => ?_, ?_⟩
      · have x4 : W.cell? ⟨w2.heap.size, 4, none⟩ = some (.int .i64 (line : Int)) := HB.out W hW 4
        go_simp
      go_big_quiet_on
      simp only [Act.put, List.setIfInBounds_toArray, List.set_cons_zero, List.set_cons_succ]
      go_big_quiet_want
      refine ⟨.pointer (some ⟨w2.heap.size, 2, none⟩), fun W hW => ?_, ?_⟩
      · go_simp
      go_big_quiet_on
      simp only [Act.put, List.setIfInBounds_toArray, List.set_cons_zero, List.set_cons_succ]
      go_big_quiet_want
      refine ⟨.int .i64 (now : Int), fun W hW => ?_, ?_⟩
      · have x2 : W.cell? ⟨w2.heap.size, 2, none⟩ = some (.int .i64 (now : Int)) := HB.out W hW 2
        go_simp
      go_big_quiet_on
      simp only [Act.put, List.setIfInBounds_toArray, List.set_cons_zero, List.set_cons_succ]
      go_big_quiet_want
      refine ⟨.int .i64 ((now - head + 1 : Nat) : Int), fun W hW => ?_, ?_⟩
      · go_simp
        refine (HCo.out W hW).mono ?_
        rintro e w7 ⟨rfl, rfl⟩
        exact ⟨rfl, hW⟩
      go_big_quiet_on
      simp only [Act.put, List.setIfInBounds_toArray, List.set_cons_zero, List.set_cons_succ]
      go_big_quiet_want
      go_big_quiet_op
      go_big_quiet_on
      go_big_quiet_want
      go_big_quiet_op
      go_big_quiet_on
      go_big_quiet_want
      go_big_quiet_op
      go_big_quiet_on
      go_big_quiet_want
      go_big_quiet_op
      go_big_quiet_on
      refine wpQuiet_nil ?_
      intro W hW
      go_wp2_with fail
      refine bodyPost_ret (results_sc _ _) rfl ?_
      have hb := hW.bel
      rw [HXw.out] at hb
      rw [HRe.out]
      exact ⟨.slice none 0 0, rfl, World.ownsRow_nil _ _ _ _, hb⟩
end Go.Proofs.YtnboehlbcjfndaaGreatDoor

import Derived.Test.YtppmncmhokkfdaaDoorZ31
import Derived.Test.YtppmncmhokkfdaaDoorZ33
import Derived.Test.YtppmncmhokkfdaaDoorZ32
import Derived.Shelf.Strconv.Clone
import Derived.Ground.NamesProg
import Derived.Test.YtppmncmhokkfdaaDoorProg
import Derived.Test.YtppmncmhokkfdaaDoorZ10
import Derived.Shelf.Strings.SlTrimAscii
import Derived.Test.YtppmncmhokkfdaaDoorZ21
import Derived.Test.YtppmncmhokkfdaaDoorZ17
import Derived.Lib.SlTrimSet
namespace Go.Proofs.YtppmncmhokkfdaaDoor
open Go.RowKit Go.Shelf
set_option maxRecDepth 100000 in
set_option maxHeartbeats 4000000 in
theorem run_any {X : MX} (hC : MC X) (hF : FOK X.w0) {W : World} {v0 : Value} (h : MS X W 0 0 1 0 v0 []) :
    Calls Tryd.prog 17 #[.pointer (some ⟨X.b, 0, none⟩)] W fun e w' => RunR X (runM (X.l.length + 1) X.l 0 1 0 []) e w' := by
  obtain ⟨R, hR⟩ : ∃ R, runM (X.l.length + 1) X.l 0 1 0 [] = R := ⟨_, rfl⟩
  have HF0 : Hid (RF X R 0 0 0 0 1 0 0 v0 [] W) := ⟨by decide, h, rfl, rfl, Nat.le_refl _, Nat.zero_le _, Nat.zero_le _, Nat.le_refl _, (fun _ => ⟨_, by omega, hR⟩), (fun h => absurd h (by decide)), (fun h => absurd h (by decide))⟩
  rw [hR]
  clear hR h
  go_enter Tryd.func17, Tryd.ntmps17
  go_wp2_with fail
  refine wp_scope_many2 (RJ X R) (fun lab _ wr => rM X lab wr) ?pass ?first
  case first =>
    intro pass
    go_wp2_with fail
    go_step3
    simp only [Exit.then]
    rename_i hK
    refine hK _ _ ?_
    exact use_pass (pass 0) ⟨0, 0, 0, 1, 0, 0, v0, [], _, rfl, rfl, rfl, HF0⟩ rfl
  case pass =>
    intro lab a wr hJ
    have hlab : lab = 0 ∨ lab = 1 ∨ lab = 2 := by
      obtain ⟨_, _, _, _, _, _, _, _, _, _, _, _, HF⟩ := hJ
      exact HF.out.1
    rcases hlab with rfl | rfl | rfl
    · exact rn0 hC hF (fun tmps W' h => bodyPost_ret (results_rn _ _) rfl h) a wr hJ _ _ rfl
    · exact rn1 hC (fun tmps W' h => bodyPost_ret (results_rn _ _) rfl h) a wr hJ _ _ rfl
    · exact rn2 hC (fun tmps W' h => bodyPost_ret (results_rn _ _) rfl h) a wr hJ _ _ rfl
end Go.Proofs.YtppmncmhokkfdaaDoor
namespace Go.Proofs
open Go.Shelf
def Tryd.l316_ren : Go.Shelf.Ren := ⟨fun | 316 => 25 | n => n, fun | 9 => 9 | 3 => 3 | 4 => 4 | 37 => 52 | 0 => 0 | 127 => 78 | 5 => 5 | n => n, fun | n => n⟩
theorem Tryd.l316 : Go.Proofs.LaysM.n316 Tryd.prog Tryd.l316_ren := {
  mixed := by kernel_rfl
  f316 := Tryd.func25.trans (congrArg some (by kernel_rfl))
  t0 := Tryd.underlying0
  a0 := Tryd.isAgg0
  z0 := Tryd.sizeOf0
  v0 := Tryd.zeroValue0
  t3 := Tryd.underlying3
  a3 := Tryd.isAgg3
  z3 := Tryd.sizeOf3
  v3 := Tryd.zeroValue3
  t4 := Tryd.underlying4
  a4 := Tryd.isAgg4
  z4 := Tryd.sizeOf4
  v4 := Tryd.zeroValue4
  t9 := Tryd.underlying9
  a9 := Tryd.isAgg9
  z9 := Tryd.sizeOf9
  v9 := Tryd.zeroValue9
  t37 := Tryd.underlying52
  a37 := Tryd.isAgg52
  z37 := Tryd.sizeOf52
  v37 := Tryd.zeroValue52
  t127 := Tryd.underlying78
  a127 := Tryd.isAgg78
  z127 := Tryd.sizeOf78
  v127 := Tryd.zeroValue78
  t5 := Tryd.underlying5
  a5 := Tryd.isAgg5
  z5 := Tryd.sizeOf5
  v5 := Tryd.zeroValue5
  i0 := by kernel_rfl
  i3 := by kernel_rfl
  i4 := by kernel_rfl
  i5 := by kernel_rfl
  i9 := by kernel_rfl
  i37 := by kernel_rfl
  i127 := by kernel_rfl }
end Go.Proofs
namespace Go.Proofs.YtppmncmhokkfdaaDoor
open Go.RowKit Go.Shelf
/-- what Scan answers -/
def scanM (l : List UInt8) : Res := if 16384 < l.length then ([], 2, 0, 0) else runM (l.length + 1) l 0 1 0 []
def scR (l : List UInt8) (w : World) (e : Ending) (w' : World) : Prop :=
  ∃ v, e = .returned (.tuple #[v, .int .i64 ((scanM l).2.1 : Int), .int .i64 ((scanM l).2.2.1 : Int), .int .i64 ((scanM l).2.2.2 : Int)]) ∧ w'.ownsRow w.heap.size 29 4 v (scanM l).1.length (tcels (scanM l).1) ∧ Below w.heap.size w w'
theorem results_sc (tmps : Array Value) (W : World) : (results Tryd.f7 tmps).run Tryd.prog W = .ok (.tuple #[tmps.getD 2 undef, tmps.getD 3 undef, tmps.getD 4 undef, tmps.getD 5 undef]) W := by
  simp [results, go_sem]
theorem clone_any (l : List UInt8) (w : World) (h : l.length ≤ 16384) : Calls Tryd.prog 15 #[.string ⟨l.toArray⟩] w fun e w' => e = .returned (.string ⟨l.toArray⟩) ∧ Below w.heap.size w w' := by
  have H := Any.stringslite_Clone Tryd.l316 ⟨l.toArray⟩ w (by simp [ByteArray.size]; omega)
  go_enter Tryd.func15, Tryd.ntmps15
  go_wp2_with fail
  refine H.mono ?_
  rintro e w1 ⟨rfl, hb⟩
  go_wp2_with fail
  go_ret
  exact ⟨rfl, hb⟩
theorem row_blk {W : World} {B g cap n : Nat} {C : List (Int × Nat)} (h : W.ownsRow B 54 2 (.slice (some ⟨g, 0, none⟩) n cap) C.length (ccels C)) : ∃ gc gf, W.heap[g]? = some (.cells gc 54 gf) ∧ ∀ k c, C[k]? = some c → gc[k * 2]? = some (.int .i32 c.1) ∧ gc[k * 2 + 1]? = some (.int .i64 (c.2 : Int)) := by
  rcases h.2 with ⟨hh, _⟩ | ⟨g', c, cur, h1, _, h3, _⟩
  · cases hh
  · injection h1 with h1 _ _
    injection h1 with h1
    injection h1 with h1 _ _
    subst h1
    refine ⟨_, _, h3, fun k c hc => ?_⟩
    obtain ⟨a, b⟩ := ccels_at C k c hc
    have ca := h.cells rfl _ _ a
    have cb := h.cells rfl _ _ b
    rw [add0, cell_of_row W g _ _ _ _ h3] at ca cb
    exact ⟨ca, cb⟩
set_option maxRecDepth 100000 in
set_option maxHeartbeats 2000000 in
theorem scan_any (l : List UInt8) (w : World) (hm : l.length ≤ 281474976710656) (hsh : SH w) (hsg : SG w) (hF : FOK w) :
    Calls Tryd.prog 7 #[.string ⟨l.toArray⟩] w fun e w' => scR l w e w' := by
  by_cases h1 : 16384 < l.length
  · have hr : Hid (scanM l = ([], 2, 0, 0)) := if_pos h1
    have i1 : (16384 : Int) < (l.length : Int) := by omega
    go_enter Tryd.func7, Tryd.ntmps7
    go_wp2_with fail
    refine bodyPost_ret (results_sc _ _) rfl ?_
    unfold scR
    rw [hr.out]
    exact ⟨_, rfl, World.ownsRow_nil _ _ _ _, Below.refl _ _⟩
  · have i1 : ¬ (16384 : Int) < (l.length : Int) := by omega
    have hr : scanM l = runM (l.length + 1) l 0 1 0 [] := if_neg h1
    have HC := clone_any l w (by omega)
    have HCH : Hid (∀ W, Calls Tryd.prog 16 #[.string ⟨l.toArray⟩] W fun e w' => ∃ v, e = .returned v ∧ w'.ownsRow W.heap.size 54 2 v (chars l 0).length (ccels (chars l 0)) ∧ Below W.heap.size W w') := fun W => charsOf_any l W (by omega)
    have hget0 : (chars l 0)[0]? = some (chr l 0, (if 0 < l.length then 0 else l.length)) := drop_get (now := 0) rfl
    have hN0 : 0 < (chars l 0).length := (List.getElem?_eq_some_iff.1 hget0).1
    have hNm := chars_len l _ 0 (Nat.le_refl _)
    obtain ⟨R, hR⟩ : ∃ R, scanM l = R := ⟨_, rfl⟩
    unfold scR
    rw [hR]
    have HRR : Hid (runM (l.length + 1) l 0 1 0 [] = R) := hr.symm.trans hR
    have hSH : Hid (SH w) := hsh
    have hSG : Hid (SG w) := hsg
    have hFF : Hid (FOK w) := hF
    clear hr hR hget0 hsh hsg hF
    go_enter Tryd.func7, Tryd.ntmps7
    go_wp2_with fail
    refine HC.mono ?_
    rintro e w1 ⟨rfl, hb1⟩
    go_wp2_with fail
    refine (HCH.out _).mono ?_
    rintro e w2 ⟨vc, rfl, ho2, hb2⟩
    obtain ⟨g, cap, rfl⟩ := own_form ho2 hN0
    have hcap := own_cap ho2
    obtain ⟨gc, gf, hgk, hgc⟩ := row_blk ho2
    have hbel := bel0 hb1 hb2
    obtain ⟨X, hX⟩ : ∃ X : MX, X = ⟨w, l, w2.heap.size, g, cap, gc, gf⟩ := ⟨_, rfl⟩
    have hMC : MC X := by subst hX; exact ⟨hgc, hbel.size, hcap, by show l.length ≤ 16384; omega, hSH.out, hSG.out⟩
    have hM0 : MS X (w2.alloc (.cells #[.string ⟨l.toArray⟩, .slice (some ⟨g, 0, none⟩) (chars l 0).length cap, .int .i64 0, .int .i64 0, .int .i64 1, .int .i64 0, .slice none 0 0] 45)) 0 0 1 0 (.slice none 0 0) [] := by
      subst hX
      exact ⟨alloc_get _ _, allocblk hgk _, World.ownsRow_nil _ _ _ _, hbel.alloc hbel.size _⟩
    have HRun := run_any hMC (by subst hX; exact hFF.out) hM0
    have hXb : X.b = w2.heap.size := by rw [hX]
    have hXl : X.l = l := by rw [hX]
    have hXw : X.w0 = w := by rw [hX]
    rw [hXb, hXl, HRR.out] at HRun
    have HXw : Hid (X.w0 = w) := hXw
    have HXb : Hid (X.b = w2.heap.size) := hXb
    clear hX hXb hXl hXw HCH HC HRR hSH hSG hFF ho2 hgk hgc hb1 hb2 hM0 hMC
    go_wp2_with fail
    refine HRun.mono ?_
    rintro e w3 ⟨rfl, now, fst, line, head, v, D, hM, hhn, hn16, hok, herr⟩
    clear HRun
    by_cases e0 : R.2.1 = 0
    · obtain rfl := hok e0
      have hc6 := hM.c6
      rw [HXb.out] at hc6
      clear hok herr e0
      go_wp2_with fail
      refine bodyPost_ret (results_sc _ _) rfl ?_
      have ho := hM.own
      have hb := hM.bel
      rw [HXw.out] at ho hb
      exact ⟨v, rfl, ho, hb⟩
    · have hRe := herr e0
      obtain ⟨E, hE⟩ : ∃ E, R.2.1 = E := ⟨_, rfl⟩
      rw [hE] at e0 hRe ⊢
      have HRe : Hid (R = ([], E, line, now - head + 1)) := hRe
      have t0 : ((E : Int) == 0) = false := by rw [beq_eq_false_iff_ne]; omega
      have t1 : ((E : Int) != 0) = true := by rw [bne, t0]; rfl
      have HB : Hid (∀ W', MS X W' now fst line head v D → ∀ i, W'.cell? ⟨w2.heap.size, i, none⟩ = (mcells X now fst line head v)[i]?) := fun W' m' i => by rw [← HXb.out]; exact m'.c i
      have HCo : Hid (∀ W', MS X W' now fst line head v D → Calls Tryd.prog 18 #[.pointer (some ⟨w2.heap.size, 0, none⟩), .int .i64 (now : Int)] W' fun e w' => e = .returned (.int .i64 ((now - head + 1 : Nat) : Int)) ∧ w' = W') := fun W' m' => by
        rw [← HXb.out]
        exact column_any m' hhn hn16
      clear hok herr hRe hE
      go_wp2_with fail
      refine quiet_lit3 (C := fun W => MS X W now fst line head v D) (by kernel_rfl) (by kernel_rfl) (MS.drew hM) ?_
      go_big_quiet_want
      go_big_quiet_op
      go_big_quiet_on
      go_big_quiet_want
      refine ⟨.pointer (some ⟨w2.heap.size, 4, none⟩), fun W hW => ?_, ?_⟩
      · go_simp
      go_big_quiet_on
      simp only [Act.put, List.setIfInBounds_toArray, List.set_cons_zero, List.set_cons_succ]
      go_big_quiet_want
      refine ⟨.int .i64 (line : Int), fun W hW => ?_, ?_⟩
      · have x4 : W.cell? ⟨w2.heap.size, 4, none⟩ = some (.int .i64 (line : Int)) := HB.out W hW 4
        go_simp
      go_big_quiet_on
      simp only [Act.put, List.setIfInBounds_toArray, List.set_cons_zero, List.set_cons_succ]
      go_big_quiet_want
      refine ⟨.pointer (some ⟨w2.heap.size, 2, none⟩), fun W hW => ?_, ?_⟩
      · go_simp
      go_big_quiet_on
      simp only [Act.put, List.setIfInBounds_toArray, List.set_cons_zero, List.set_cons_succ]
      go_big_quiet_want
      refine ⟨.int .i64 (now : Int), fun W hW => ?_, ?_⟩
      · have x2 : W.cell? ⟨w2.heap.size, 2, none⟩ = some (.int .i64 (now : Int)) := HB.out W hW 2
        go_simp
      go_big_quiet_on
      simp only [Act.put, List.setIfInBounds_toArray, List.set_cons_zero, List.set_cons_succ]
      go_big_quiet_want
      refine ⟨.int .i64 ((now - head + 1 : Nat) : Int), fun W hW => ?_, ?_⟩
      · go_simp
        refine (HCo.out W hW).mono ?_
        rintro e w7 ⟨rfl, rfl⟩
        exact ⟨rfl, hW⟩
      go_big_quiet_on
      simp only [Act.put, List.setIfInBounds_toArray, List.set_cons_zero, List.set_cons_succ]
      go_big_quiet_want
      go_big_quiet_op
      go_big_quiet_on
      go_big_quiet_want
      go_big_quiet_op
      go_big_quiet_on
      go_big_quiet_want
      go_big_quiet_op
      go_big_quiet_on
      go_big_quiet_want
      go_big_quiet_op
      go_big_quiet_on
      refine wpQuiet_nil ?_
      intro W hW
      go_wp2_with fail
      refine bodyPost_ret (results_sc _ _) rfl ?_
      have hb := hW.bel
      rw [HXw.out] at hb
      rw [HRe.out]
      exact ⟨.slice none 0 0, rfl, World.ownsRow_nil _ _ _ _, hb⟩
end Go.Proofs.YtppmncmhokkfdaaDoor
namespace Go.Proofs
open Go.Shelf
def Tryd.l160_ren : Go.Shelf.Ren := ⟨fun | 160 => 70 | 232 => 90 | 231 => 89 | 227 => 91 | 234 => 93 | 233 => 92 | 236 => 95 | 235 => 94 | 228 => 102 | 271 => 104 | 151 => 103 | 197 => 87 | 120 => 106 | 152 => 105 | 260 => 101 | 137 => 107 | 119 => 51 | 224 => 84 | 225 => 83 | 217 => 82 | 266 => 99 | n => n, fun | 9 => 9 | 4 => 4 | 3 => 3 | 5 => 5 | 117 => 126 | 116 => 125 | 0 => 0 | 124 => 129 | 21 => 21 | 105 => 84 | 46 => 59 | 119 => 143 | 139 => 146 | 138 => 145 | n => n, fun | 3 => 9 | 4 => 10 | n => n⟩
theorem Tryd.l160 : Go.Proofs.Lays.n160 Tryd.prog Tryd.l160_ren := {
  mixed := by kernel_rfl
  f119 := Tryd.func51.trans (congrArg some (by kernel_rfl))
  f120 := Tryd.func106.trans (congrArg some (by kernel_rfl))
  f137 := Tryd.func107.trans (congrArg some (by kernel_rfl))
  f151 := Tryd.func103.trans (congrArg some (by kernel_rfl))
  f152 := Tryd.func105.trans (congrArg some (by kernel_rfl))
  f160 := Tryd.func70.trans (congrArg some (by kernel_rfl))
  f197 := Tryd.func87.trans (congrArg some (by kernel_rfl))
  f217 := Tryd.func82.trans (congrArg some (by kernel_rfl))
  f224 := Tryd.func84.trans (congrArg some (by kernel_rfl))
  f225 := Tryd.func83.trans (congrArg some (by kernel_rfl))
  f227 := Tryd.func91.trans (congrArg some (by kernel_rfl))
  f228 := Tryd.func102.trans (congrArg some (by kernel_rfl))
  f231 := Tryd.func89.trans (congrArg some (by kernel_rfl))
  f232 := Tryd.func90.trans (congrArg some (by kernel_rfl))
  f233 := Tryd.func92.trans (congrArg some (by kernel_rfl))
  f234 := Tryd.func93.trans (congrArg some (by kernel_rfl))
  f235 := Tryd.func94.trans (congrArg some (by kernel_rfl))
  f236 := Tryd.func95.trans (congrArg some (by kernel_rfl))
  f260 := Tryd.func101.trans (congrArg some (by kernel_rfl))
  f266 := Tryd.func99.trans (congrArg some (by kernel_rfl))
  f271 := Tryd.func104.trans (congrArg some (by kernel_rfl))
  t0 := Tryd.underlying0
  a0 := Tryd.isAgg0
  z0 := Tryd.sizeOf0
  v0 := Tryd.zeroValue0
  t3 := Tryd.underlying3
  a3 := Tryd.isAgg3
  z3 := Tryd.sizeOf3
  v3 := Tryd.zeroValue3
  t4 := Tryd.underlying4
  a4 := Tryd.isAgg4
  z4 := Tryd.sizeOf4
  v4 := Tryd.zeroValue4
  t5 := Tryd.underlying5
  a5 := Tryd.isAgg5
  z5 := Tryd.sizeOf5
  v5 := Tryd.zeroValue5
  t9 := Tryd.underlying9
  a9 := Tryd.isAgg9
  z9 := Tryd.sizeOf9
  v9 := Tryd.zeroValue9
  t21 := Tryd.underlying21
  a21 := Tryd.isAgg21
  z21 := Tryd.sizeOf21
  v21 := Tryd.zeroValue21
  t46 := Tryd.underlying59
  a46 := Tryd.isAgg59
  z46 := Tryd.sizeOf59
  v46 := Tryd.zeroValue59
  t105 := Tryd.underlying84
  a105 := Tryd.isAgg84
  z105 := Tryd.sizeOf84
  v105 := Tryd.zeroValue84
  t116 := Tryd.underlying125
  a116 := Tryd.isAgg125
  z116 := Tryd.sizeOf125
  t117 := Tryd.underlying126
  a117 := Tryd.isAgg126
  z117 := Tryd.sizeOf126
  v117 := Tryd.zeroValue126
  t119 := Tryd.underlying143
  a119 := Tryd.isAgg143
  z119 := Tryd.sizeOf143
  t124 := Tryd.underlying129
  a124 := Tryd.isAgg129
  z124 := Tryd.sizeOf129
  v124 := Tryd.zeroValue129
  t138 := Tryd.underlying145
  a138 := Tryd.isAgg145
  z138 := Tryd.sizeOf145
  v138 := Tryd.zeroValue145
  t139 := Tryd.underlying146
  a139 := Tryd.isAgg146
  z139 := Tryd.sizeOf146
  v139 := Tryd.zeroValue146
  g3 := by kernel_rfl
  g4 := by kernel_rfl }
end Go.Proofs
namespace Go.Proofs.YtppmncmhokkfdaaDoor
open Go.RowKit Go.Shelf
theorem res_fault (tmps : Array Value) (W : World) (b : Nat) (x : Int) {m : Nat × Nat} (hp : tmps.getD 4 undef = .pointer (some ⟨b, 0, none⟩)) (h : W.heap[b]? = some (.cells #[.int .i64 x] 23 m)) :
    (results Tryd.f58 tmps).run Tryd.prog W = .ok (.int .i64 x) W := by
  have hc : ∀ j, W.cell? ⟨b, j, none⟩ = (#[.int .i64 x] : Array Value)[j]? := by
    intro j; unfold World.cell?; rw [h]; simp
  have hp' : tmps[4]?.getD undef = .pointer (some ⟨b, 0, none⟩) := by simpa using hp
  simp [results, hp', go_sem, hc]
set_option maxRecDepth 100000 in
set_option maxHeartbeats 1000000 in
theorem fault6 (t : List UInt8) (w : World) : Calls Tryd.prog 58 #[.int .i64 6, .string ⟨t.toArray⟩] w fun e w' => e = .returned (.int .i64 0) ∧ Below w.heap.size w w' := by
  go_enter Tryd.func58, Tryd.ntmps58
  go_wp2_with fail
  exact bodyPost_ret (res_fault _ _ w.heap.size 0 rfl (alloc_get _ _)) rfl ⟨rfl, (Below.refl _ _).alloc (Nat.le_refl _) _⟩
set_option maxRecDepth 100000 in
set_option maxHeartbeats 1000000 in
theorem fault7 (t : List UInt8) (w : World) : Calls Tryd.prog 58 #[.int .i64 7, .string ⟨t.toArray⟩] w fun e w' => e = .returned (.int .i64 (if t = [] then 30 else 0 : Nat)) ∧ Below w.heap.size w w' := by
  cases t with
  | nil =>
    go_enter Tryd.func58, Tryd.ntmps58
    go_wp2_with fail
    exact bodyPost_ret (res_fault _ _ w.heap.size 30 rfl (alloc_get _ _)) rfl ⟨rfl, (Below.refl _ _).alloc (Nat.le_refl _) _⟩
  | cons c t =>
    go_enter Tryd.func58, Tryd.ntmps58
    go_wp2_with fail
    exact bodyPost_ret (res_fault _ _ w.heap.size 0 rfl (alloc_get _ _)) rfl ⟨rfl, (Below.refl _ _).alloc (Nat.le_refl _) _⟩
theorem valE_nat (t : List UInt8) : valE t = ((valE t).toNat : Int) := by
  unfold valE
  repeat' split
  all_goals rfl
set_option maxRecDepth 100000 in
set_option maxHeartbeats 1000000 in
theorem fault4 (t : List UInt8) (w : World) (ht : t.length ≤ 16384) (hv : VW w) : Calls Tryd.prog 58 #[.int .i64 4, .string ⟨t.toArray⟩] w fun e w' => e = .returned (.int .i64 ((valE t).toNat : Int)) ∧ Below w.heap.size w w' := by
  have HV := value_any t (w.alloc (.cells #[.int .i64 0] 23)) (by omega) (hv.below ((Below.refl _ _).alloc (Nat.le_refl _) _))
  rw [← valE_nat t]
  obtain ⟨x, hx⟩ : ∃ x, valV t = x := ⟨_, rfl⟩
  obtain ⟨y, hy⟩ : ∃ y, valE t = y := ⟨_, rfl⟩
  rw [hx, hy] at HV
  rw [hy]
  clear hx hy hv
  go_enter Tryd.func58, Tryd.ntmps58
  go_wp2_with fail
  refine HV.mono ?_
  rintro e w1 ⟨rfl, hb⟩
  have k0 := keepblk hb (alloc_get w (.cells #[.int .i64 0] 23))
  have c0 := cell_of k0
  have f0 := froz_of k0
  go_wp2_with fail
  refine bodyPost_ret (res_fault _ _ w.heap.size y rfl (set_one _ k0)) rfl ⟨rfl, (bel1 hb).setCell (p := ⟨w.heap.size, 0, none⟩) (Nat.le_refl _) _⟩
theorem dropW_nil {α : Type} (p : α → Bool) : ∀ l : List α, l.dropWhile p = [] ↔ ∀ x ∈ l, p x = true
  | [] => by simp
  | a :: l => by
    rw [List.dropWhile_cons]
    cases h : p a with
    | true =>
      simp only [if_true]
      rw [dropW_nil p l]
      simp [h]
    | false =>
      simp [h]
theorem trim_nil (l : List UInt8) : Lib.trimS l [48, 49, 120] = [] ↔ l.all is01x = true := by
  have hc : ∀ b : UInt8, ([48, 49, 120] : List UInt8).contains b = is01x b := fun b => by
    unfold is01x
    simp [List.contains, List.elem]
    cases b == 48 <;> cases b == 49 <;> cases b == 120 <;> rfl
  have hr : Lib.trimRightS l [48, 49, 120] = [] ↔ ∀ x ∈ l, is01x x = true := by
    unfold Lib.trimRightS
    rw [List.reverse_eq_nil_iff, dropW_nil]
    simp only [List.mem_reverse, hc]
  have hpre : ∀ x, x ∈ Lib.trimRightS l [48, 49, 120] → x ∈ l := fun x hx => by
    unfold Lib.trimRightS at hx
    rw [List.mem_reverse] at hx
    exact List.mem_reverse.1 ((List.dropWhile_sublist _).subset hx)
  rw [List.all_eq_true]
  unfold Lib.trimS Lib.trimLeftS
  rw [dropW_nil]
  simp only [hc]
  constructor
  · intro h
    refine hr.1 (Classical.byContradiction (fun hne => ?_))
    have hlast := List.getLast_mem hne
    have h1 := h _ hlast
    have h2 : is01x ((Lib.trimRightS l [48, 49, 120]).getLast hne) = false := by
      have hd : l.reverse.dropWhile (([48, 49, 120] : List UInt8).contains ·) ≠ [] := fun e => hne (by unfold Lib.trimRightS; rw [e]; rfl)
      have hh := List.head_dropWhile_not (([48, 49, 120] : List UInt8).contains ·) hd
      have he : (Lib.trimRightS l [48, 49, 120]).getLast hne = (l.reverse.dropWhile (([48, 49, 120] : List UInt8).contains ·)).head hd := by
        simp only [Lib.trimRightS, List.getLast_reverse]
      rw [he, ← hc]
      simpa using hh
    rw [h1] at h2
    cases h2
  · intro h x hx
    exact h x (hpre x hx)
theorem trim_any (r : List UInt8) (w : World) (hr : r.length ≤ 16384) : Calls Tryd.prog 70 #[.string ⟨r.toArray⟩, .string ⟨#[48, 49, 120]⟩] w fun e w' => e = .returned (.string ⟨(Lib.trimS r [48, 49, 120]).toArray⟩) ∧ Below w.heap.size w w' :=
  Any.strings_Trim_ascii Tryd.l160 (by intro w; kernel_rfl) (by kernel_rfl) ⟨r.toArray⟩ ⟨#[48, 49, 120]⟩ w (by simp [ByteArray.size]; omega) (by decide) (fun j b h => by
    have : b ∈ ([48, 49, 120] : List UInt8) := List.mem_of_getElem? h
    clear h
    revert b
    decide)
set_option maxRecDepth 100000 in
set_option maxHeartbeats 1000000 in
theorem fault5 (c : UInt8) (d : List UInt8) (w : World) (hd : d.length ≤ 16383) : Calls Tryd.prog 58 #[.int .i64 5, .string ⟨(c :: d).toArray⟩] w fun e w' => e = .returned (.int .i64 (if d = [] ∨ 32 < d.length ∨ d.all is01x = false then 44 else 0 : Nat)) ∧ Below w.heap.size w w' := by
  have hE : (ByteArray.mk (c :: d).toArray).extract 1 (d.length + 1) = ⟨d.toArray⟩ := by
    have := ext_drop (c :: d) 1
    simpa using this
  have q1 : (1 : Int) ≤ (d.length : Int) + 1 := by omega
  have q2 : (0 : Int) ≤ (d.length : Int) := by omega
  have HT : Hid (∀ W, Calls Tryd.prog 70 #[.string ⟨d.toArray⟩, .string ⟨#[48, 49, 120]⟩] W fun e w' => e = .returned (.string ⟨(Lib.trimS d [48, 49, 120]).toArray⟩) ∧ Below W.heap.size W w') := fun W => trim_any d W (by omega)
  have hn := trim_nil d
  by_cases d0 : d = []
  · have HR : Hid ((if d = [] ∨ 32 < d.length ∨ d.all is01x = false then 44 else 0 : Nat) = 44) := if_pos (.inl d0)
    rw [HR.out]
    subst d0
    clear hn
    go_enter Tryd.func58, Tryd.ntmps58
    go_wp2_with fail
    exact bodyPost_ret (res_fault _ _ w.heap.size 44 rfl (alloc_get _ _)) rfl ⟨rfl, (Below.refl _ _).alloc (Nat.le_refl _) _⟩
  · have hem : d.isEmpty = false := by cases d with
      | nil => exact absurd rfl d0
      | cons _ _ => rfl
    by_cases d32 : 32 < d.length
    · have HR : Hid ((if d = [] ∨ 32 < d.length ∨ d.all is01x = false then 44 else 0 : Nat) = 44) := if_pos (.inr (.inl d32))
      rw [HR.out]
      have i32 : (32 : Int) < (d.length : Int) := by omega
      clear hn
      go_enter Tryd.func58, Tryd.ntmps58
      go_wp2_with fail
      exact bodyPost_ret (res_fault _ _ w.heap.size 44 rfl (alloc_get _ _)) rfl ⟨rfl, (Below.refl _ _).alloc (Nat.le_refl _) _⟩
    · have i32 : ¬ (32 : Int) < (d.length : Int) := by omega
      obtain ⟨T, hT⟩ : ∃ T, Lib.trimS d [48, 49, 120] = T := ⟨_, rfl⟩
      rw [hT] at HT hn
      cases ha : d.all is01x with
      | true =>
        have HR : Hid ((if d = [] ∨ 32 < d.length ∨ true = false then 44 else 0 : Nat) = 0) := if_neg (by simp [d0]; omega)
        rw [HR.out]
        obtain rfl := hn.2 ha
        clear hn hT ha
        go_enter Tryd.func58, Tryd.ntmps58
        go_wp2_with fail
        refine (HT.out _).mono ?_
        rintro e w1 ⟨rfl, hb⟩
        have k0 := keepblk hb (alloc_get w (.cells #[.int .i64 0] 23))
        have c0 := cell_of k0
        have f0 := froz_of k0
        go_wp2_with fail
        exact bodyPost_ret (res_fault _ _ w.heap.size 0 rfl (set_one _ k0)) rfl ⟨rfl, (bel1 hb).setCell (p := ⟨w.heap.size, 0, none⟩) (Nat.le_refl _) _⟩
      | false =>
        have HR : Hid ((if d = [] ∨ 32 < d.length ∨ false = false then 44 else 0 : Nat) = 44) := if_pos (.inr (.inr rfl))
        rw [HR.out]
        have hT0 : T ≠ [] := fun e => by
          have := hn.1 e
          rw [ha] at this
          cases this
        have hTe : T.isEmpty = false := by cases T with
          | nil => exact absurd rfl hT0
          | cons _ _ => rfl
        clear hn hT ha
        go_enter Tryd.func58, Tryd.ntmps58
        go_wp2_with fail
        refine (HT.out _).mono ?_
        rintro e w1 ⟨rfl, hb⟩
        have k0 := keepblk hb (alloc_get w (.cells #[.int .i64 0] 23))
        have c0 := cell_of k0
        have f0 := froz_of k0
        go_wp2_with fail
        exact bodyPost_ret (res_fault _ _ w.heap.size 44 rfl (set_one _ k0)) rfl ⟨rfl, (bel1 hb).setCell (p := ⟨w.heap.size, 0, none⟩) (Nat.le_refl _) _⟩
end Go.Proofs.YtppmncmhokkfdaaDoor

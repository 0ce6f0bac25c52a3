import Derived.RangeFuncNested
import Derived.RangeFuncBound
import Derived.RangeFuncCalls
import Derived.RangeFuncLeaves
import Derived.RangeFuncBox
import Derived.Shelf.Abstract
import Derived.Shelf.RegionOpen
import Derived.WalkKit
import Derived.OwnWalkIn
import Derived.TacticsInMore
import Derived.LoopNIn
import Derived.LoopIn
import Derived.Maps.AppendAt
import Derived.Test.YtcejejiomhhpgaaGreatDoorXAD
import Derived.Shelf.Strings.Search3
import Derived.Ground.NamesProg
import Derived.Test.YtcejejiomhhpgaaGreatDoorProg
import Derived.Laws.Strings3
namespace Go.Proofs.YtcejejiomhhpgaaGreatDoor
open Go.RowKit Go.Shelf

section
variable {F : Fence} {m : Nat} {P : Program}

/-- one round of the loop whose record lies at l: behind the body the record is still there, busy; what holds once it is put back -/
def bodyEnd (l : Nat) (r : Loop) (In : World → Prop) (Out : Code → World → Prop) : Exit → Act → World → Prop
  | .normal, _, W => W.heap[l]? = some (.loop { r with state := .busy }) ∧ In (W.putObj l (.loop r))
  | .exit id, _, W => W.heap[l]? = some (.loop { r with state := .busy }) ∧ Out (.exit id) (W.putObj l (.loop { r with state := .done, pending := some (.exit id) }))
  | .ret, _, W => W.heap[l]? = some (.loop { r with state := .busy }) ∧ Out .ret (W.putObj l (.loop { r with state := .done, pending := some .ret }))
  | _, _, _ => False

theorem round_by {l : Nat} {r : Loop} {W : World} {args : Array Value} {In : World → Prop} {Out : Code → World → Prop} (hF : F.fn r.fn) (hl : W.heap[l]? = some (.loop r)) (hr : r.state = .ready) (hp : r.pending = none) (hs : args.size = r.params.size)
    (a1 : Act) (has : ∀ K : Act → World → Prop, K a1 W → r.assign.wpIn (F.inRound l) m P (Exit.then K (fun _ _ _ => False)) { tmps := (r.params.zip args).foldl (fun tmps (t, a) => tmps.setIfInBounds t a) r.tmps, defers := [] } W)
    (hb : r.body.wpIn (F.inRound l) m P (bodyEnd l r In Out) a1 (W.putObj l (.loop { r with state := .busy }))) :
    YieldAt F m P l args W fun e W' => (e = .returned (.bool true) ∧ In W') ∨ (e = .returned (.bool false) ∧ ∃ c, Out c W') := by
  refine ⟨_, _, _, _, run_yield hl hs, roundIn_of_wpIn hF (has _ ⟨_, run_beginRound hl hr, wpIn_mono hb ?_⟩)⟩
  intro e a2 W2 h
  cases e with
  | normal =>
    have q := run_endRound (P := P) none h.1
    have e1 : ({ ({ r with state := .busy } : Loop) with state := if (none : Option Code).isNone = true then .ready else .done, pending := none } : Loop) = r := by
      cases r; simp_all
    rw [e1] at q
    exact ⟨_, _, q, .inl ⟨rfl, h.2⟩⟩
  | exit id => exact ⟨_, _, run_endRound (P := P) (some (.exit id)) h.1, .inr ⟨rfl, _, h.2⟩⟩
  | ret => exact ⟨_, _, run_endRound (P := P) (some .ret) h.1, .inr ⟨rfl, _, h.2⟩⟩
  | goto t => exact h.elim
  | panic c => exact h.elim
  | outgrown => exact h.elim

/-- the record that a loop lays -/
def recOf (fn : FuncId) (tmps : Array Value) (ps : Array Tmp) (assign body : Code) (D : Nat) : Loop := { state := .ready, pending := none, fn, tmps, params := ps, assign, body, defers := D }

/-- a loop over a function, not in a round: the iterator's call, on the record that is laid; what is pending behind it -/
theorem range_by {n : Nat} {g : Operand} {ps : Array Tmp} {assign body : Code} {Q : Exit → Act → World → Prop} {a : Act} {w : World}
    (hro : F.round = none) (h1 : 1 ≤ n) {gf : Nat} {lb : Array Value} (hg : a.eval g = .func (.func gf) #[] lb) (hFg : F.fn gf) (eg : ∀ args w, (callFunc gf args).run P w = .ok (.enter gf args) w)
    (h : ∀ fn, F.fn fn → CallsIn F (n - 1) P gf (#[.func (.yield (w.heap.size + 1)) #[] #[]] ++ lb) ((w.alloc (.deferred (some []))).alloc (.loop (recOf fn a.tmps ps assign body w.heap.size)))
      fun e W => (∃ v, e = .returned v) ∧ ∃ r, W.heap[w.heap.size + 1]? = some (.loop r) ∧ r.state ≠ .busy ∧
        ((r.pending = none ∧ Q .normal { a with defers := { target := .collected w.heap.size, args := #[] } :: a.defers } (W.putObj (w.heap.size + 1) (.loop { r with state := .exhausted }))) ∨
         ∃ c, r.pending = some c ∧ c.wpIn F n P Q { a with defers := { target := .collected w.heap.size, args := #[] } :: a.defers } (W.putObj (w.heap.size + 1) (.loop { r with state := .exhausted })))) :
    (Code.rangeFunc g ps assign body).wpIn F n P Q a w := by
  refine wpIn_rangeFunc (fun fn hfn => ?_)
  rw [hro]
  have hd : (resolve a.eval (rangeCall g (w.heap.size + 1)) 0).run P ((w.alloc (.deferred (some []))).alloc (.loop (recOf fn a.tmps ps assign body w.heap.size))) = .ok { target := .fn (.func gf) lb, args := #[.func (.yield (w.heap.size + 1)) #[] #[]] } ((w.alloc (.deferred (some []))).alloc (.loop (recOf fn a.tmps ps assign body w.heap.size))) := by
    simp only [resolve, hg]
    simp [go_sem]
  refine ⟨_, _, _, _, _, gf, _, _, run_enterLoop_outer fn a.tmps ps assign body, hd, ?_, ?_, fun _ => h1, (h fn hfn).mono ?_⟩
  · intro f' hf'
    simp [Target.leads] at hf'
    subst hf'
    exact hFg
  · simp [invoke, go_sem, eg]
  · rintro e W ⟨⟨v, rfl⟩, r, hr, hb, hq⟩
    refine ⟨_, _, run_endLoop (P := P) hr hb, ?_⟩
    rcases hq with ⟨hp, hq⟩ | ⟨c, hp, hq⟩
    · rw [hp] at hq ⊢; exact hq
    · rw [hp] at hq ⊢; exact hq

/-- a loop over a function in a round of another -/
theorem range_in {n : Nat} {g : Operand} {ps : Array Tmp} {assign body : Code} {Q : Exit → Act → World → Prop} {a : Act} {w : World} {l0 : Nat} {r0 : Loop}
    (hro : F.round = some l0) (hr0 : w.heap[l0]? = some (.loop r0)) (h1 : 1 ≤ n) {gf : Nat} {lb : Array Value} (hg : a.eval g = .func (.func gf) #[] lb) (hFg : F.fn gf) (eg : ∀ args w, (callFunc gf args).run P w = .ok (.enter gf args) w)
    (h : ∀ fn, F.fn fn → CallsIn F (n - 1) P gf (#[.func (.yield w.heap.size) #[] #[]] ++ lb) (w.alloc (.loop (recOf fn a.tmps ps assign body r0.defers)))
      fun e W => (∃ v, e = .returned v) ∧ ∃ r, W.heap[w.heap.size]? = some (.loop r) ∧ r.state ≠ .busy ∧
        ((r.pending = none ∧ Q .normal a (W.putObj w.heap.size (.loop { r with state := .exhausted }))) ∨
         ∃ c, r.pending = some c ∧ c.wpIn F n P Q a (W.putObj w.heap.size (.loop { r with state := .exhausted })))) :
    (Code.rangeFunc g ps assign body).wpIn F n P Q a w := by
  refine wpIn_rangeFunc (fun fn hfn => ?_)
  rw [hro]
  have hd : (resolve a.eval (rangeCall g w.heap.size) 0).run P (w.alloc (.loop (recOf fn a.tmps ps assign body r0.defers))) = .ok { target := .fn (.func gf) lb, args := #[.func (.yield w.heap.size) #[] #[]] } (w.alloc (.loop (recOf fn a.tmps ps assign body r0.defers))) := by
    simp only [resolve, hg]
    simp [go_sem]
  refine ⟨_, _, _, _, _, gf, _, _, run_enterLoop_inner hr0 fn a.tmps ps assign body, hd, ?_, ?_, fun _ => h1, (h fn hfn).mono ?_⟩
  · intro f' hf'
    simp [Target.leads] at hf'
    subst hf'
    exact hFg
  · simp [invoke, go_sem, eg]
  · rintro e W ⟨⟨v, rfl⟩, r, hr, hb, hq⟩
    refine ⟨_, _, run_endLoop (P := P) hr hb, ?_⟩
    rcases hq with ⟨hp, hq⟩ | ⟨c, hp, hq⟩
    · rw [hp] at hq ⊢; exact hq
    · rw [hp] at hq ⊢; exact hq
end
end Go.Proofs.YtcejejiomhhpgaaGreatDoor
namespace Go.Proofs
open Go.Shelf
def Tryz.l143_ren : Go.Shelf.Ren := ⟨fun | 143 => 82 | 219 => 101 | 217 => 116 | 225 => 117 | 224 => 118 | 267 => 119 | 266 => 124 | 314 => 125 | n => n, fun | 9 => 9 | 3 => 3 | 4 => 4 | 5 => 5 | 46 => 114 | 146 => 160 | 51 => 134 | n => n, fun | 1 => 0 | n => n⟩
theorem Tryz.l143 : Go.Proofs.Lays.n143 Tryz.prog Tryz.l143_ren := {
  mixed := by kernel_rfl
  f143 := Tryz.func82.trans (congrArg some (by kernel_rfl))
  f217 := Tryz.func116.trans (congrArg some (by kernel_rfl))
  f219 := Tryz.func101.trans (congrArg some (by kernel_rfl))
  f224 := Tryz.func118.trans (congrArg some (by kernel_rfl))
  f225 := Tryz.func117.trans (congrArg some (by kernel_rfl))
  f266 := Tryz.func124.trans (congrArg some (by kernel_rfl))
  f267 := Tryz.func119.trans (congrArg some (by kernel_rfl))
  f314 := Tryz.func125.trans (congrArg some (by kernel_rfl))
  t3 := Tryz.underlying3
  a3 := Tryz.isAgg3
  z3 := Tryz.sizeOf3
  v3 := Tryz.zeroValue3
  t4 := Tryz.underlying4
  a4 := Tryz.isAgg4
  z4 := Tryz.sizeOf4
  v4 := Tryz.zeroValue4
  t5 := Tryz.underlying5
  a5 := Tryz.isAgg5
  z5 := Tryz.sizeOf5
  v5 := Tryz.zeroValue5
  t9 := Tryz.underlying9
  a9 := Tryz.isAgg9
  z9 := Tryz.sizeOf9
  v9 := Tryz.zeroValue9
  t46 := Tryz.underlying114
  a46 := Tryz.isAgg114
  z46 := Tryz.sizeOf114
  v46 := Tryz.zeroValue114
  t51 := Tryz.underlying134
  a51 := Tryz.isAgg134
  z51 := Tryz.sizeOf134
  v51 := Tryz.zeroValue134
  t146 := Tryz.underlying160
  a146 := Tryz.isAgg160
  z146 := Tryz.sizeOf160
  v146 := Tryz.zeroValue160
  g1 := by kernel_rfl }
end Go.Proofs
namespace Go.Proofs.YtcejejiomhhpgaaGreatDoor
open Go.RowKit Go.Shelf

attribute [local go_sem] Oper.semAt_some
theorem idx_lt (l : List UInt8) (c : UInt8) : Lib.indexByte l c < l.length := by
  rcases Int.lt_or_le (Lib.indexByte l c) 0 with hi | hi
  · omega
  · obtain ⟨o, ho⟩ : ∃ o : Nat, Lib.indexByte l c = o := ⟨(Lib.indexByte l c).toNat, by omega⟩
    have := (List.getElem?_eq_some_iff.1 (Lib.indexByte_some ho).1).1
    omega
theorem ext_take (l : List UInt8) (i : Nat) : (ByteArray.mk l.toArray).extract 0 i = ⟨(l.take i).toArray⟩ := ByteArray.ext (by simp)
theorem ext_drop (l : List UInt8) (i : Nat) : (ByteArray.mk l.toArray).extract i l.length = ⟨(l.drop i).toArray⟩ := ByteArray.ext (by simp; exact List.take_of_length_le (by simp))

theorem index_sep (s : UInt8) (r : List UInt8) (w : World) : Calls Tryz.prog 82 #[.string ⟨r.toArray⟩, .string ⟨#[s]⟩] w fun e w' => e = .returned (.int .i64 (Lib.indexByte r s)) ∧ w' = w := Any.strings_Index_one Tryz.l143 ⟨r.toArray⟩ s w
theorem cell_of {W : World} {b : Nat} {v : Value} {t : TypeId} {m : Nat × Nat} (h : W.heap[b]? = some (.cells #[v] t m)) : W.cell? ⟨b, 0, none⟩ = some v := by
  unfold World.cell?; rw [h]; simp
theorem froz_of {W : World} {b : Nat} {v : Value} {t : TypeId} (h : W.heap[b]? = some (.cells #[v] t (0, 0))) : W.frozen? ⟨b, 0, none⟩ = false := by
  simp [World.frozen?, h]
def sLen (b : Nat) (W : World) : Nat := match W.cell? ⟨b, 0, none⟩ with
  | some (.string s) => s.size
  | _ => 0
theorem sLen_of {W : World} {b : Nat} {r : List UInt8} (h : W.cell? ⟨b, 0, none⟩ = some (.string ⟨r.toArray⟩)) : sLen b W = r.length := by
  unfold sLen; rw [h]; simp [ByteArray.size]
theorem splitSeq_in (s : UInt8) (r : List UInt8) (w : World) : Calls Tryz.prog 42 #[.string ⟨r.toArray⟩, .string ⟨#[s]⟩] w fun e w' => e = .returned (.func (.func 80) #[] #[.pointer (some ⟨w.heap.size + 1, 0, none⟩), .pointer (some ⟨w.heap.size, 0, none⟩), .pointer (some ⟨w.heap.size + 1 + 1, 0, none⟩)]) ∧ w' = ((w.alloc (.cells #[.string ⟨r.toArray⟩] 9)).alloc (.cells #[.string ⟨#[s]⟩] 9)).alloc (.cells #[.int .i64 0] 3) := by
  go_enter Tryz.func42, Tryz.ntmps42
  go_wp2
  go_ret
  exact ⟨rfl, rfl⟩

set_option maxRecDepth 100000 in
set_option maxHeartbeats 1000000 in
/-- strings.splitSeq's closure at a dot: the pieces, one behind the other -/
theorem split_in (s : UInt8) (n : Nat) (hn : 1 ≤ n) (l b : Nat) (J : List UInt8 → World → Prop) (Jx Je : World → Prop)
    (hbox : ∀ r W, J r W → W.heap[b]? = some (.cells #[.string ⟨r.toArray⟩] 9 (0, 0)) ∧ W.heap[b + 1]? = some (.cells #[.string ⟨#[s]⟩] 9 (0, 0)) ∧ W.heap[b + 1 + 1]? = some (.cells #[.int .i64 0] 3 (0, 0)) ∧ r.length ≤ 40000)
    (hY1 : ∀ r W (i : Nat), J r W → Lib.indexByte r s = i → YieldAt Fence.wide (n - 1) Tryz.prog l #[.string ⟨(r.take i).toArray⟩] W fun e W' =>
      (e = .returned (.bool true) ∧ W'.heap[b]? = some (.cells #[.string ⟨r.toArray⟩] 9 (0, 0)) ∧ W'.heap[b + 1]? = some (.cells #[.string ⟨#[s]⟩] 9 (0, 0)) ∧ J (r.drop (i + 1)) (W'.setCell ⟨b, 0, none⟩ (.string ⟨(r.drop (i + 1)).toArray⟩))) ∨ (e = .returned (.bool false) ∧ Jx W'))
    (hY2 : ∀ r W, J r W → Lib.indexByte r s < 0 → YieldAt Fence.wide (n - 1) Tryz.prog l #[.string ⟨r.toArray⟩] W fun e W' => (∃ x, e = .returned (.bool x)) ∧ Je W')
    (r0 : List UInt8) (W0 : World) (h0 : J r0 W0) :
    CallsIn Fence.wide n Tryz.prog 80 #[.func (.yield l) #[] #[], .pointer (some ⟨b + 1, 0, none⟩), .pointer (some ⟨b, 0, none⟩), .pointer (some ⟨b + 1 + 1, 0, none⟩)] W0 fun e W' => (∃ v, e = .returned v) ∧ (Jx W' ∨ Je W') := by
  obtain ⟨z1, z2, z3, z4⟩ := hbox _ _ h0
  have c2 := cell_of z2
  refine callsIn_of_wp Tryz.func80 rfl trivial ?_ rfl
  simp only [Tryz.ntmps80, List.size_toArray, List.length_cons, List.length_nil, Nat.reduceAdd, Nat.reduceSub, Array.replicate_succ, Array.replicate_zero, List.push_toArray, List.append_toArray, List.nil_append, List.cons_append]
  gi_wp2
  gi_loopw [7] (fun _ wr => ∃ r, J r wr) (fun _ wr => sLen b wr)
  case atStart => exact ⟨r0, h0⟩
  case round =>
    clear z1 z2 z3 z4 c2
    obtain ⟨r, hJ⟩ := hrel
    obtain ⟨z1, z2, z3, z4⟩ := hbox _ _ hJ
    have c1 := cell_of z1
    have c2 := cell_of z2
    have c3 := cell_of z3
    have hI := index_sep s r wr
    obtain ⟨di, hdi⟩ : ∃ di, Lib.indexByte r s = di := ⟨_, rfl⟩
    have hd1 : -1 ≤ di := by rw [← hdi]; exact Lib.indexByte_ge _ _
    have hd2 : di < r.length := by rw [← hdi]; exact idx_lt _ _
    rw [hdi] at hI
    by_cases hneg : di < 0
    · obtain ⟨fn, tmps, assign, body, hy, hR⟩ := hY2 r wr hJ (by rw [hdi]; exact hneg)
      gi_wp2_with (refine ⟨trivial, ?_⟩; gi_at_call 82; refine (callsIn_wide.2 hI).mono ?_; rintro e w' ⟨rfl, rfl⟩)
      refine hR.mono ?_
      rintro e W3 ⟨⟨x, rfl⟩, hJe⟩
      gi_wp2
      go_end0
      exact ⟨⟨_, rfl⟩, .inr hJe⟩
    · obtain ⟨i, rfl⟩ : ∃ i : Nat, di = i := ⟨di.toNat, by omega⟩
      have hnn : ¬ (i : Int) < 0 := by omega
      obtain ⟨fn, tmps, assign, body, hy, hR⟩ := hY1 r wr i hJ hdi
      have hE1 := ext_take r i
      have hE2 := ext_drop r (i + 1)
      gi_wp2_with (refine ⟨trivial, ?_⟩; gi_at_call 82; refine (callsIn_wide.2 hI).mono ?_; rintro e w' ⟨rfl, rfl⟩)
      refine hR.mono ?_
      rintro e W3 (⟨rfl, y1, y2, hJ3⟩ | ⟨rfl, hJx3⟩)
      · have d1 := cell_of y1
        have d2 := cell_of y2
        have f1 := froz_of y1
        have hm : sLen b (W3.setCell ⟨b, 0, none⟩ (.string ⟨(r.drop (i + 1)).toArray⟩)) < sLen b w' := by
          rw [sLen_of c1, sLen_of (cell_of (hbox _ _ hJ3).1)]
          simp; omega
        have HM : Hid (sLen b (W3.setCell ⟨b, 0, none⟩ (.string ⟨(r.drop (i + 1)).toArray⟩)) < sLen b w') := hm
        clear hm
        gi_wp2
        go_roundw
        case rel => exact ⟨_, hJ3⟩
        case measure => exact HM.out
      · gi_wp2
        refine bodyPost_ret (results_none rfl _ _ _) rfl ?_
        exact ⟨⟨_, rfl⟩, .inl hJx3⟩
end Go.Proofs.YtcejejiomhhpgaaGreatDoor

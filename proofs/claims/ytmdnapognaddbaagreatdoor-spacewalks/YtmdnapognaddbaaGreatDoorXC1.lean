import Derived.Test.YtmdnapognaddbaaGreatDoorXBH
import Derived.Sort.QuietThIn
import Derived.BigQuiet
namespace Go.Proofs.YtmdnapognaddbaaGreatDoor
open Go.RowKit Go.Shelf
/-- whether none of the operations defers -/
def noDefK (ops : Array Oper) : Bool := ops.toList.all (fun o => match o.op with | .defer _ => false | _ => true)
theorem noDefK_at {ops : Array Oper} (h : noDefK ops = true) {j : Nat} {o : Oper} (ho : ops[j]? = some o) : ∀ c, o.op ≠ .defer c := fun c hc => by
  have h1 := List.all_eq_true.1 h o (by rw [← Array.getElem?_toList] at ho; exact List.mem_of_getElem? ho)
  rw [hc] at h1
  cases h1
/-- in a round a region without a defer goes as it goes outside -/
theorem wpAnyIn_inRoundK {F : Fence} {n : Nat} {P : Program} {md : Region.Mode} {ops : Array Oper} {Q : Exit → Act → World → Prop} {l : Nat} (hd : noDefK ops = true) :
    ∀ {fuel : Nat} {listed : Array Bool} {a : Act} {w : World}, wpAnyIn F n P md ops Q fuel listed a w → wpAnyIn (F.inRound l) n P md ops Q fuel listed a w := by
  intro fuel
  induction fuel with
  | zero => intro listed a w h; exact h
  | succ fuel ih =>
    intro listed a w h
    refine ⟨h.1, fun i hi => ?_⟩
    have h2 : wpOpIn F n P ops Q i (wpAnyIn (F.inRound l) n P md ops Q fuel (listed.setIfInBounds i true)) a w := wpOpIn_mono (fun a' w' h3 => ih h3) (h.2 i hi)
    unfold wpOpIn at h2 ⊢
    cases ho : ops[i]? with
    | none => rw [ho] at h2; exact h2
    | some o =>
      rw [ho] at h2
      simp only at h2 ⊢
      split
      · rename_i hw
        rw [if_pos hw] at h2
        unfold Oper.wpIn at h2 ⊢
        refine ⟨h2.1, ?_⟩
        have h3 := h2.2
        rw [Oper.semAt_plain F _ _ (noDefK_at hd ho)] at h3
        rw [Oper.semAt_plain (F.inRound l) _ _ (noDefK_at hd ho)]
        exact h3
      · rename_i hw
        rw [if_neg hw] at h2
        exact h2
/-- a quiet walk serves at the wide fence -/
theorem quiet_of_wide {P : Program} {ops : Array Oper} {C : World → Prop} {Q : Act → Prop} {n : Nat} : ∀ (l : List Oper) (a : Act), wpQuiet P ops C Q l a → wpQuietIn Fence.wide n P ops C Q l a
  | [], _, h => h
  | o :: r, a, h => by
    refine ⟨fun _ _ _ _ => trivial, ?_⟩
    unfold wpQuiet at h
    split
    · rename_i hw
      rw [if_pos hw] at h
      obtain ⟨v, h1, h2⟩ := h
      refine ⟨v, fun w hC => ?_, quiet_of_wide r _ h2⟩
      have h3 := h1 w hC
      unfold Oper.quietAtIn
      unfold Oper.quietAt at h3
      generalize (execOp a.eval o).run P w = x at h3 ⊢
      cases x with
      | ok y w' =>
        cases y <;> first | exact h3 | exact ⟨h3.1, (fun h => by cases h), callsIn_wide.2 h3.2⟩
      | halt y w' => exact h3
    · rename_i hw
      rw [if_neg hw] at h
      exact quiet_of_wide r _ h
/-- a region that draws, in a round: one quiet walk -/
theorem quiet_in3 {P : Program} {id n l0 : Nat} {Q : Exit → Act → World → Prop} {a : Act} {w : World} {l : List Oper} {C : World → Prop} (hm : P.follows .mixedOrders = true) (hB : Region.lexB .any l.toArray = true) (hd : noDefK l.toArray = true) (hC : C w.drew)
    (h : wpQuiet P l.toArray C (fun a' => ∀ w', C w' → Q .normal a' w') l a) : (Code.region id l.toArray true).wpIn (Fence.wide.inRound l0) n P Q a w := by
  simp only [Region.lexB, Bool.and_eq_true] at hB
  refine wpIn_region_any hm (wpAnyIn_inRoundK hd (wpAnyIn_of_quiet (C := C) (Q := fun a' => ∀ w', C w' → Q .normal a' w') rfl (fun _ w' hw' h => h w' hw') _ _ _ _ hC ?_))
  have := wpAnyQIn_lex (F := Fence.wide) (n := n) (C := C) (md := .any) hB.1 l 0 (Array.replicate l.toArray.size false) a (by simp) (by simpa using hB.2) (quiet_of_wide l a h)
  simpa using this
section
variable {F : Fence} {P : Program}
/-- a loop over a function that ends or is left: what is behind it is walked once -/
theorem range_by1 {n id : Nat} {g : Operand} {ps : Array Tmp} {assign body : Code} {Q : Exit → Act → World → Prop} {a : Act} {w : World}
    (hro : F.round = none) (h1 : 1 ≤ n) {gf : Nat} {lb : Array Value} (hg : a.eval g = .func (.func gf) #[] lb) (hFg : F.fn gf) (eg : ∀ args w, (callFunc gf args).run P w = .ok (.enter gf args) w)
    (hx : ∀ a w, Q .normal a w → (Code.exit id).wpIn F n P Q a w)
    (h : ∀ fn, F.fn fn → CallsIn F (n - 1) P gf (#[.func (.yield (w.heap.size + 1)) #[] #[]] ++ lb) ((w.alloc (.deferred (some []))).alloc (.loop (recOf fn a.tmps ps assign body w.heap.size)))
      fun e W => (∃ v, e = .returned v) ∧ ∃ r, W.heap[w.heap.size + 1]? = some (.loop r) ∧ r.state ≠ .busy ∧ (r.pending = none ∨ r.pending = some (.exit id)) ∧ Q .normal { a with defers := { target := .collected w.heap.size, args := #[] } :: a.defers } (W.putObj (w.heap.size + 1) (.loop { r with state := .exhausted }))) :
    (Code.rangeFunc g ps assign body).wpIn F n P Q a w := by
  refine range_by hro h1 hg hFg eg (fun fn hfn => (h fn hfn).mono ?_)
  rintro e W ⟨hv, r, hr, hb, hp | hp, hq⟩
  · exact ⟨hv, r, hr, hb, .inl ⟨hp, hq⟩⟩
  · exact ⟨hv, r, hr, hb, .inr ⟨_, hp, hx _ _ hq⟩⟩
/-- the same in a round of another -/
theorem range_in1 {n id : Nat} {g : Operand} {ps : Array Tmp} {assign body : Code} {Q : Exit → Act → World → Prop} {a : Act} {w : World} {l0 : Nat} {r0 : Loop}
    (hro : F.round = some l0) (hr0 : w.heap[l0]? = some (.loop r0)) (h1 : 1 ≤ n) {gf : Nat} {lb : Array Value} (hg : a.eval g = .func (.func gf) #[] lb) (hFg : F.fn gf) (eg : ∀ args w, (callFunc gf args).run P w = .ok (.enter gf args) w)
    (hx : ∀ a w, Q .normal a w → (Code.exit id).wpIn F n P Q a w)
    (h : ∀ fn, F.fn fn → CallsIn F (n - 1) P gf (#[.func (.yield w.heap.size) #[] #[]] ++ lb) (w.alloc (.loop (recOf fn a.tmps ps assign body r0.defers)))
      fun e W => (∃ v, e = .returned v) ∧ ∃ r, W.heap[w.heap.size]? = some (.loop r) ∧ r.state ≠ .busy ∧ (r.pending = none ∨ r.pending = some (.exit id)) ∧ Q .normal a (W.putObj w.heap.size (.loop { r with state := .exhausted }))) :
    (Code.rangeFunc g ps assign body).wpIn F n P Q a w := by
  refine range_in hro hr0 h1 hg hFg eg (fun fn hfn => (h fn hfn).mono ?_)
  rintro e W ⟨hv, r, hr, hb, hp | hp, hq⟩
  · exact ⟨hv, r, hr, hb, .inl ⟨hp, hq⟩⟩
  · exact ⟨hv, r, hr, hb, .inr ⟨_, hp, hx _ _ hq⟩⟩
end
/-- all old blocks stand but the count's and the loop's -/
def FRM (N bk l : Nat) (X W : World) : Prop := N ≤ W.heap.size ∧ ∀ k, k < N → k ≠ bk → k ≠ l → W.heap[k]? = X.heap[k]?
/-- what stands while a loop goes through the cubes and counts them -/
structure WS (w0 X : World) (N bk l : Nat) (R : Loop) (o : List (List UInt8)) (r : Option Nat) (W : World) : Prop where
  no : r = none
  bx : W.heap[bk]? = some (.cells #[.int .i64 ((o.length : Nat) : Int)] 3 (0, 0))
  lp : W.heap[l]? = some (.loop R)
  fr : FRM N bk l X W
  be : Below w0.heap.size w0 W
def WX (bk l k : Nat) : Prop := k = bk ∨ k = l
theorem FRM.below {N bk l : Nat} {X W W' : World} (h : FRM N bk l X W) (hb : Below W.heap.size W W') : FRM N bk l X W' := ⟨Nat.le_trans h.1 hb.size, fun k h1 h2 h3 => (hb.block k (Nat.lt_of_lt_of_le h1 h.1)).trans (h.2 k h1 h2 h3)⟩
theorem FRM.set {N bk l b j : Nat} {v : Value} {X W : World} (h : FRM N bk l X W) (hb : b = bk ∨ N ≤ b) : FRM N bk l X (W.setCell ⟨b, j, none⟩ v) := ⟨by rw [size_setC]; exact h.1, fun k h1 h2 h3 => (Below.heap_setCell _ _ _ _ (by rintro rfl; rcases hb with e | e <;> omega)).trans (h.2 k h1 h2 h3)⟩
theorem FRM.put {N bk l : Nat} {o : Obj} {X W : World} (h : FRM N bk l X W) : FRM N bk l X (W.putObj l o) := ⟨by simpa using h.1, fun k h1 h2 h3 => (World.putObj_heap_other h3).trans (h.2 k h1 h2 h3)⟩
theorem FRM.get {N bk l k : Nat} {o : Obj} {X W : World} (h : FRM N bk l X W) (h1 : k < N) (h2 : k ≠ bk) (h3 : k ≠ l) (ho : X.heap[k]? = some o) : W.heap[k]? = some o := (h.2 k h1 h2 h3).trans ho
theorem WS.jy {w0 X : World} {N bk l : Nat} {R : Loop} (h1 : bk < N) (h2 : l < N) (h0 : w0.heap.size ≤ N) : JY (WX bk l) N (WS w0 X N bk l R) where
  below := fun o r W W' h hb => ⟨h.no, keepblk3 hb h.bx, keepblk3 hb h.lp, h.fr.below hb, bel0 h.be hb⟩
  set := fun o r W b j v h hb _ => ⟨h.no, (Below.heap_setCell _ _ _ _ (by show bk ≠ b; omega)).trans h.bx, (Below.heap_setCell _ _ _ _ (by show l ≠ b; omega)).trans h.lp, h.fr.set (.inr hb), h.be.setCell (p := ⟨b, j, none⟩) (by show w0.heap.size ≤ b; omega) _⟩
  low := fun k hk => by rcases hk with rfl | rfl <;> assumption
  size := fun _ _ _ h => h.fr.1
  row := fun o r W k h hr => by rw [h.no] at hr; cases hr
theorem exO_up {n lim lim2 : Nat} {l L : List (List UInt8)} (h : exO splT n lim l L = true) (hl : lim ≤ lim2) : exO splT n lim2 l L = true := (exO_iff splT n lim2 L l).2 (fun j hj => Nat.le_trans ((exO_iff splT n lim L l).1 h j hj) hl)
theorem exE_up {lim lim2 : Nat} (hl : lim ≤ lim2) : ∀ (Ts : List (List UInt8 × List (List UInt8))) (out R : List (List UInt8)), exE splT lim out Ts = some R → exE splT lim2 out Ts = some R
  | [], _, _, e => e
  | t :: r, out, R, e => by
    unfold exE at e ⊢
    split at e
    · rename_i ho
      rw [if_pos (exO_up ho hl)]
      exact exE_up hl r _ R e
    · cases e
theorem cubes_any (b : Int) (p : Option Addr) (n cp : Nat) (w : World) : Calls Tryz.prog 6 #[.agg #[.int .i64 b, .slice p n cp, .bool false]] w fun e w' => ∃ S, e = .returned (.func (.func 52) #[] #[.pointer (some ⟨S, 0, none⟩), .pointer (some ⟨S + 1, 0, none⟩)]) ∧ w'.heap[S]? = some (.cells #[.int .i64 b, .slice p n cp, .bool false] 24 (0, 0)) ∧ w'.heap[S + 1]? = some (.cells #[.int .i64 9223372036854775807] 3 (0, 0)) ∧ Below w.heap.size w w' := by
  go_enter Tryz.func6, Tryz.ntmps6
  have hc := (cells_block (alloc_get w (.cells #[.int .i64 b, .slice p n cp, .bool false] 24 (0, 0)))).1
  go_wp2_with fail
  refine (plain_any b p n cp 9223372036854775807 _).mono ?_
  rintro e w' ⟨rfl, rfl⟩
  have k1 := alw_0 (w.alloc (.cells #[.int .i64 b, .slice p n cp, .bool false] 24 (0, 0))) (.cells #[.int .i64 b, .slice p n cp, .bool false] 24 (0, 0)) (.cells #[.int .i64 9223372036854775807] 3 (0, 0))
  have k2 := alw_1 (w.alloc (.cells #[.int .i64 b, .slice p n cp, .bool false] 24 (0, 0))) (.cells #[.int .i64 b, .slice p n cp, .bool false] 24 (0, 0)) (.cells #[.int .i64 9223372036854775807] 3 (0, 0))
  simp only [World.size_alloc] at k1 k2
  go_wp2
  go_ret
  exact ⟨_, rfl, k1, k2, belA (belA (belA (Below.refl _ _) _) _) _⟩
theorem seq_nilC (lb : Array Value) (w : World) : (binOp .eql 31 (.func (.func 52) #[] lb) .nilFunc).run Tryz.prog w = .ok (.bool false) w := by kernel_rfl
end Go.Proofs.YtmdnapognaddbaaGreatDoor

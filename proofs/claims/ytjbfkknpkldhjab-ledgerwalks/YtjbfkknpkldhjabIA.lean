import Derived.Test.YtjbfkknpkldhjabLU
import Derived.Sort.QuietThIn
import Derived.Sort.CutIn
import Derived.BigQuiet
namespace Go.Proofs.Ytjbfkknpkldhjab
open Go.RowKit Go.Shelf
/-- whether none of the operations defers -/
def noDefK (ops : Array Oper) : Bool := ops.toList.all (fun o => match o.op with | .defer _ => false | _ => true)
theorem noDefK_at {ops : Array Oper} (h : noDefK ops = true) {j : Nat} {o : Oper} (ho : ops[j]? = some o) : ∀ c, o.op ≠ .defer c := fun c hc => by
  have h1 := List.all_eq_true.1 h o (by rw [← Array.getElem?_toList] at ho; exact List.mem_of_getElem? ho)
  rw [hc] at h1
  cases h1
/-- in a round a region without a defer goes as it goes outside -/
theorem wpAnyIn_inRoundK {F : Fence} {n : Nat} {P : Program} {md : Region.Mode} {ops : Array Oper} {Q : Exit → Act → World → Prop} {l : Nat} (hd : noDefK ops = true) :
    ∀ {fuel : Nat} {listed : Array Bool} {a : Act} {w : World}, wpAnyIn F n P md ops Q fuel listed a w → wpAnyIn (F.inRound l) n P md ops Q fuel listed a w := by
  intro fuel
  induction fuel with
  | zero => intro listed a w h; exact h
  | succ fuel ih =>
    intro listed a w h
    refine ⟨h.1, fun i hi => ?_⟩
    have h2 : wpOpIn F n P ops Q i (wpAnyIn (F.inRound l) n P md ops Q fuel (listed.setIfInBounds i true)) a w := wpOpIn_mono (fun a' w' h3 => ih h3) (h.2 i hi)
    unfold wpOpIn at h2 ⊢
    cases ho : ops[i]? with
    | none => rw [ho] at h2; exact h2
    | some o =>
      rw [ho] at h2
      simp only at h2 ⊢
      split
      · rename_i hw
        rw [if_pos hw] at h2
        unfold Oper.wpIn at h2 ⊢
        refine ⟨h2.1, ?_⟩
        have h3 := h2.2
        rw [Oper.semAt_plain F _ _ (noDefK_at hd ho)] at h3
        rw [Oper.semAt_plain (F.inRound l) _ _ (noDefK_at hd ho)]
        exact h3
      · rename_i hw
        rw [if_neg hw] at h2
        exact h2
/-- a quiet walk serves at the wide fence -/
theorem quiet_of_wide {P : Program} {ops : Array Oper} {C : World → Prop} {Q : Act → Prop} {n : Nat} : ∀ (l : List Oper) (a : Act), wpQuiet P ops C Q l a → wpQuietIn Fence.wide n P ops C Q l a
  | [], _, h => h
  | o :: r, a, h => by
    refine ⟨fun _ _ _ _ => trivial, ?_⟩
    unfold wpQuiet at h
    split
    · rename_i hw
      rw [if_pos hw] at h
      obtain ⟨v, h1, h2⟩ := h
      refine ⟨v, fun w hC => ?_, quiet_of_wide r _ h2⟩
      have h3 := h1 w hC
      unfold Oper.quietAtIn
      unfold Oper.quietAt at h3
      generalize (execOp a.eval o).run P w = x at h3 ⊢
      cases x with
      | ok y w' =>
        cases y <;> first | exact h3 | exact ⟨h3.1, (fun h => by cases h), callsIn_wide.2 h3.2⟩
      | halt y w' => exact h3
    · rename_i hw
      rw [if_neg hw] at h
      exact quiet_of_wide r _ h
/-- a region that draws, in a round: one quiet walk -/
theorem quiet_in3 {P : Program} {id n l0 : Nat} {Q : Exit → Act → World → Prop} {a : Act} {w : World} {l : List Oper} {C : World → Prop} (hm : P.follows .mixedOrders = true) (hB : Region.lexB .any l.toArray = true) (hd : noDefK l.toArray = true) (hC : C w.drew)
    (h : wpQuiet P l.toArray C (fun a' => ∀ w', C w' → Q .normal a' w') l a) : (Code.region id l.toArray true).wpIn (Fence.wide.inRound l0) n P Q a w := by
  simp only [Region.lexB, Bool.and_eq_true] at hB
  refine wpIn_region_any hm (wpAnyIn_inRoundK hd (wpAnyIn_of_quiet (C := C) (Q := fun a' => ∀ w', C w' → Q .normal a' w') rfl (fun _ w' hw' h => h w' hw') _ _ _ _ hC ?_))
  have := wpAnyQIn_lex (F := Fence.wide) (n := n) (C := C) (md := .any) hB.1 l 0 (Array.replicate l.toArray.size false) a (by simp) (by simpa using hB.2) (quiet_of_wide l a h)
  simpa using this
section
variable {F : Fence} {P : Program}
/-- a loop over a function that ends or is left: what is behind it is walked once -/
theorem range_by1 {n id : Nat} {g : Operand} {ps : Array Tmp} {assign body : Code} {Q : Exit → Act → World → Prop} {a : Act} {w : World}
    (hro : F.round = none) (h1 : 1 ≤ n) {gf : Nat} {lb : Array Value} (hg : a.eval g = .func (.func gf) #[] lb) (hFg : F.fn gf) (eg : ∀ args w, (callFunc gf args).run P w = .ok (.enter gf args) w)
    (hx : ∀ a w, Q .normal a w → (Code.exit id).wpIn F n P Q a w)
    (h : ∀ fn, F.fn fn → CallsIn F (n - 1) P gf (#[.func (.yield (w.heap.size + 1)) #[] #[]] ++ lb) ((w.alloc (.deferred (some []))).alloc (.loop (recOf fn a.tmps ps assign body w.heap.size)))
      fun e W => (∃ v, e = .returned v) ∧ ∃ r, W.heap[w.heap.size + 1]? = some (.loop r) ∧ r.state ≠ .busy ∧ (r.pending = none ∨ r.pending = some (.exit id)) ∧ Q .normal { a with defers := { target := .collected w.heap.size, args := #[] } :: a.defers } (W.putObj (w.heap.size + 1) (.loop { r with state := .exhausted }))) :
    (Code.rangeFunc g ps assign body).wpIn F n P Q a w := by
  refine range_by hro h1 hg hFg eg (fun fn hfn => (h fn hfn).mono ?_)
  rintro e W ⟨hv, r, hr, hb, hp | hp, hq⟩
  · exact ⟨hv, r, hr, hb, .inl ⟨hp, hq⟩⟩
  · exact ⟨hv, r, hr, hb, .inr ⟨_, hp, hx _ _ hq⟩⟩
/-- the same in a round of another -/
theorem range_in1 {n id : Nat} {g : Operand} {ps : Array Tmp} {assign body : Code} {Q : Exit → Act → World → Prop} {a : Act} {w : World} {l0 : Nat} {r0 : Loop}
    (hro : F.round = some l0) (hr0 : w.heap[l0]? = some (.loop r0)) (h1 : 1 ≤ n) {gf : Nat} {lb : Array Value} (hg : a.eval g = .func (.func gf) #[] lb) (hFg : F.fn gf) (eg : ∀ args w, (callFunc gf args).run P w = .ok (.enter gf args) w)
    (hx : ∀ a w, Q .normal a w → (Code.exit id).wpIn F n P Q a w)
    (h : ∀ fn, F.fn fn → CallsIn F (n - 1) P gf (#[.func (.yield w.heap.size) #[] #[]] ++ lb) (w.alloc (.loop (recOf fn a.tmps ps assign body r0.defers)))
      fun e W => (∃ v, e = .returned v) ∧ ∃ r, W.heap[w.heap.size]? = some (.loop r) ∧ r.state ≠ .busy ∧ (r.pending = none ∨ r.pending = some (.exit id)) ∧ Q .normal a (W.putObj w.heap.size (.loop { r with state := .exhausted }))) :
    (Code.rangeFunc g ps assign body).wpIn F n P Q a w := by
  refine range_in hro hr0 h1 hg hFg eg (fun fn hfn => (h fn hfn).mono ?_)
  rintro e W ⟨hv, r, hr, hb, hp | hp, hq⟩
  · exact ⟨hv, r, hr, hb, .inl ⟨hp, hq⟩⟩
  · exact ⟨hv, r, hr, hb, .inr ⟨_, hp, hx _ _ hq⟩⟩
end
/-- what stands while a loop goes through the records and counts them -/
structure CS (X1 : World) (bk l : Nat) (R : Loop) (b1 b2 : Nat) (o1 o2 : Obj) (k : Nat) (W : World) : Prop where
  bx : W.heap[bk]? = some (.cells #[.int .i64 (k : Int)] 3 (0, 0))
  lp : W.heap[l]? = some (.loop R)
  d1 : W.heap[b1]? = some o1
  d2 : W.heap[b2]? = some o2
  be : Below X1.heap.size X1 W
theorem CS.below {X1 : World} {bk l : Nat} {R : Loop} {b1 b2 : Nat} {o1 o2 : Obj} {k : Nat} {W W' : World} (h : CS X1 bk l R b1 b2 o1 o2 k W) (hb : Below W.heap.size W W') : CS X1 bk l R b1 b2 o1 o2 k W' :=
  ⟨keepZ hb h.bx, keepZ hb h.lp, keepZ hb h.d1, keepZ hb h.d2, bel0Z h.be hb⟩
theorem CS.loop {X1 : World} {bk l : Nat} {R : Loop} {b1 b2 : Nat} {o1 o2 : Obj} {k : Nat} {W : World} (h : CS X1 bk l R b1 b2 o1 o2 k W) (R' : Loop) (hl : X1.heap.size ≤ l) (n1 : bk ≠ l) (n2 : b1 ≠ l) (n3 : b2 ≠ l) : CS X1 bk l R' b1 b2 o1 o2 k (W.putObj l (.loop R')) :=
  ⟨put_otherZ h.bx n1, World.putObj_heap_same (lt_getZ h.lp), put_otherZ h.d1 n2, put_otherZ h.d2 n3, h.be.grown (grownBy_putObj' W l _) h.be.size (fun x e => by cases e; exact hl)⟩
theorem CS.set {X1 : World} {bk l : Nat} {R : Loop} {b1 b2 : Nat} {o1 o2 : Obj} {k : Nat} {W : World} (h : CS X1 bk l R b1 b2 o1 o2 k W) (hb : X1.heap.size ≤ bk) (n1 : l ≠ bk) (n2 : b1 ≠ bk) (n3 : b2 ≠ bk) (k1 : Nat) : CS X1 bk l R b1 b2 o1 o2 k1 (W.setCell ⟨bk, 0, none⟩ (.int .i64 (k1 : Int))) :=
  ⟨by rw [set_getZ _ h.bx]; rfl, (Below.heap_setCell _ _ _ _ n1).trans h.lp, (Below.heap_setCell _ _ _ _ n2).trans h.d1, (Below.heap_setCell _ _ _ _ n3).trans h.d2, h.be.setCell (p := ⟨bk, 0, none⟩) hb _⟩
/-- a loop that was left -/
def JL (X1 : World) (bk l id : Nat) (b1 b2 : Nat) (o1 o2 : Obj) (nm : Nat) (lim : Int) (W : World) : Prop := ∃ (r : Loop) (k : Nat), r.state = .done ∧ r.pending = some (.exit id) ∧ CS X1 bk l r b1 b2 o1 o2 k W ∧ (k : Int) = lim ∧ k ≤ nm
/-- what the function holds while its loops go -/
structure BI (D : List UInt8) (L : List Rec) (nm : Nat) (x1 x2 : Int) (q1 q2 qr bW bF Bc : Nat) (pw : Option Addr) (cw : Nat) (p : Option Addr) (n c : Nat) (X : World) : Prop where
  u : X.heap[q1]? = some (.cells #[.int .i64 x1] 3 (0, 0))
  a : X.heap[q2]? = some (.cells #[.int .i64 x2] 3 (0, 0))
  r : X.heap[qr]? = some (.cells #[.bool false] 4 (0, 0))
  f : X.heap[bF]? = some (.cells #[.func (.func 22) #[] #[.pointer (some ⟨Bc, 0, none⟩)]] 37 (0, 0))
  d : X.heap[Bc]? = some (.cells #[.slice p n c] 22 (0, 0))
  m : X.heap[bW]? = some (.cells #[.slice pw nm cw] 33 (0, 0))
  mc : RR X pw L
  dc : BR X p D
theorem BI.below {D : List UInt8} {L : List Rec} {nm : Nat} {x1 x2 : Int} {q1 q2 qr bW bF Bc : Nat} {pw : Option Addr} {cw : Nat} {p : Option Addr} {n c : Nat} {X W : World} (h : BI D L nm x1 x2 q1 q2 qr bW bF Bc pw cw p n c X) (hb : Below X.heap.size X W) : BI D L nm x1 x2 q1 q2 qr bW bF Bc pw cw p n c W :=
  ⟨keepZ hb h.u, keepZ hb h.a, keepZ hb h.r, keepZ hb h.f, keepZ hb h.d, keepZ hb h.m, h.mc.below hb, h.dc.below hb⟩
theorem res_boolZ {fn : Func} {p : Tmp} {m : Nat × Nat} (tmps : Array Value) (W : World) (b : Nat) (v : Bool) (hr : fn.results = #[.cell p 4]) (hp : tmps.getD p undef = .pointer (some ⟨b, 0, none⟩)) (h : W.heap[b]? = some (.cells #[.bool v] 4 m)) :
    (results fn tmps).run Try.prog W = .ok (.bool v) W := by
  have hc : ∀ j, W.cell? ⟨b, j, none⟩ = (#[.bool v] : Array Value)[j]? := by
    intro j; unfold World.cell?; rw [h]; simp
  have hp' : tmps[p]?.getD undef = .pointer (some ⟨b, 0, none⟩) := by simpa using hp
  simp [results, hr, hp', go_sem, hc]
theorem seq_nilZ (lb : Array Value) (w : World) : (binOp .eql 37 (.func (.func 22) #[] lb) .nilFunc).run Try.prog w = .ok (.bool false) w := by kernel_rfl
end Go.Proofs.Ytjbfkknpkldhjab

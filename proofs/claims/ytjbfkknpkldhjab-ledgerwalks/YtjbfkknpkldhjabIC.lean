import Derived.Test.YtjbfkknpkldhjabIA
import Derived.Test.YtjbfkknpkldhjabQL
namespace Go.Proofs.Ytjbfkknpkldhjab
open Go.RowKit Go.Shelf
section
variable {P : Program} {ops : Array Oper} {C : World → Prop} {n m : Nat} {F : Fence}
theorem wpAnyIn_of_last (hro : F.round = none) (h : lastB ops n = true) {Q' : Exit → Act → World → Prop} : ∀ (fuel : Nat) (listed : Array Bool) (a : Act) (w : World), listed.size = ops.size → C w → listed.getD n true = false → DCL ops listed →
    wpAnyQIn F m P .any ops C (fun a' => ∀ w', C w' → wpOpIn F m P ops Q' n (Q' .normal) a' w') fuel (listed.setIfInBounds n true) a → wpAnyIn F m P .any ops Q' (fuel + 1) listed a w := by
  have hsz := lastB_size h
  intro fuel
  induction fuel with
  | zero =>
    intro listed a w hs hw hn hd hq
    have hall := all_of_nil h (listed := listed.setIfInBounds n true) (by simpa using hs) hq.1
    have hothers : ∀ i, i < n → listed.getD i false = true := fun i hi => by
      have := hall i (by omega)
      rw [getD_set_ne false (by omega)] at this
      exact this
    refine ⟨fun h0 => ?_, fun i hi => ?_⟩
    · have : n ∈ Region.ready .any ops listed := mem_ready.2 ⟨hn, ops[n]'(by omega), Array.getElem?_eq_getElem _, fun e he hb => hothers _ (lastB_back h (Array.getElem?_eq_getElem (by omega)) e he hb)⟩
      rw [h0] at this
      cases this
    · obtain ⟨h0, o, ho, _⟩ := mem_ready.1 hi
      have hlt : i < ops.size := (Array.getElem?_eq_some_iff.1 ho).1
      have hin : i = n := by
        refine Classical.byContradiction (fun hne => ?_)
        rw [gdl_of (by omega), hothers i (by omega)] at h0
        cases h0
      subst hin
      exact wpOpIn_mono (fun a' w' hQ => ⟨hq.1, hQ⟩) (hq.2 w hw)
  | succ fuel ih =>
    intro listed a w hs hw hn hd hq
    refine ⟨fun h0 => ?_, fun i hi => ?_⟩
    · exfalso
      have hr : Region.ready .any ops (listed.setIfInBounds n true) = [] := by
        refine List.eq_nil_iff_forall_not_mem.2 (fun i hi => ?_)
        obtain ⟨h1, o, ho, hall⟩ := mem_ready.1 hi
        have hne : n ≠ i := fun e => by
          subst e
          rw [gdl_self (by omega)] at h1
          cases h1
        have hlt : i < ops.size := (Array.getElem?_eq_some_iff.1 ho).1
        have : i ∈ Region.ready .any ops listed := mem_ready.2 ⟨by rw [getD_set_ne true hne] at h1; exact h1, o, ho, fun e he hb => by
          have h2 := hall e he hb
          have h3 := lastB_back h ho e he hb
          rw [getD_set_ne false (by omega)] at h2
          exact h2⟩
        rw [h0] at this
        cases this
      have hall := all_of_nil h (listed := listed.setIfInBounds n true) (by simpa using hs) hr
      have : n ∈ Region.ready .any ops listed := mem_ready.2 ⟨hn, ops[n]'(by omega), Array.getElem?_eq_getElem _, fun e he hb => by
        have h3 := lastB_back h (Array.getElem?_eq_getElem (by omega)) e he hb
        have := hall e.on (by omega)
        rw [getD_set_ne false (by omega)] at this
        exact this⟩
      rw [h0] at this
      cases this
    · by_cases hin : i = n
      · subst hin
        have ha := fun (k : Nat) (hk : k < i) => all_of_ready h hd hi i k (by omega) hk
        have hr : Region.ready .any ops (listed.setIfInBounds i true) = [] := nil_of_all (by simpa using hs) (fun k hk => by
          by_cases hk2 : k = i
          · subst hk2; exact gdl_self (by omega) _
          · rw [getD_set_ne false (fun e => hk2 e.symm)]; exact ha k (by omega))
        refine wpOpIn_mono (fun a' w' hQ => ⟨fun _ => hQ, fun j hj => ?_⟩) (hq.1 hr w hw)
        rw [hr] at hj
        cases hj
      · have hq2 := hq.2 i (ready_mono hi hin)
        refine wpOpIn_of_qOpIn hro hw (fun a' w' hw' hK => ih (listed.setIfInBounds i true) a' w' (by simpa using hs) hw' ?_ ?_ ?_) hq2
        · rw [getD_set_ne true hin]; exact hn
        · intro k o ho hk e he hb
          by_cases hki : k = i
          · subst hki
            obtain ⟨_, o', ho', hall⟩ := mem_ready.1 hi
            obtain rfl := Option.some.inj (ho.symm.trans ho')
            exact getD_set_true (hall e he hb)
          · rw [getD_set_ne false (fun x => hki x.symm)] at hk
            exact getD_set_true (hd k o ho hk e he hb)
        · rw [Array.setIfInBounds_comm _ _ hin]
          exact hK
theorem lex_partIn {Q : Act → Prop} (hs : Region.noSelect ops = true) : ∀ (l : List Oper) (k : Nat) (listed : Array Bool) (a : Act), (∀ j, j < l.length → l[j]? = ops[k + j]?) →
    Region.lexFrom .any ops l.length k listed = true → wpQuietIn F m P ops C Q l a → wpAnyQIn F m P .any ops C Q l.length listed a := by
  intro l
  induction l with
  | nil => intro k listed a _ hB h; exact ⟨by simpa [Region.lexFrom] using hB, h⟩
  | cons o l ih =>
    intro k listed a hl hB h
    have h0 : ops[k]? = some o := by
      have := hl 0 (by simp)
      simpa using this.symm
    simp only [List.length_cons, Region.lexFrom, Bool.and_eq_true] at hB
    obtain ⟨⟨hr, hf⟩, hB'⟩ := hB
    have hst : qOpIn F m P ops C k (wpQuietIn F m P ops C Q l) a := by unfold qOpIn; simp only [h0]; exact h
    obtain ⟨v, hy, hK⟩ := yieldsQuiet_of_qOpIn h0 hst
    refine wpAnyQIn_first h0 (Region.noSelect_spec hs) l.length listed a (Region.free_spec h0 hf) (by simpa using hr) hy (ih (k + 1) _ _ (fun j hj => ?_) hB' hK)
    have := hl (j + 1) (by simp; omega)
    rw [show k + 1 + j = k + (j + 1) by omega, ← this]
    simp
end
section
/-- in a round: a region that draws, all of whose operations but the last are quiet, and the last one waits for all -/
theorem quiet_lastIn {P : Program} {id n l0 : Nat} {Q : Exit → Act → World → Prop} {a : Act} {w : World} {l : List Oper} {C : World → Prop} (hm : P.follows .mixedOrders = true) (h1 : Region.noSelect l.toArray = true) (h2 : lastB l.toArray l.dropLast.length = true)
    (h3 : Region.lexFrom .any l.toArray l.dropLast.length 0 ((Array.replicate l.toArray.size false).setIfInBounds l.dropLast.length true) = true) (hd : noDefK l.toArray = true) (hC : C w.drew)
    (h : wpQuiet P l.toArray C (fun a' => ∀ w', C w' → wpOpIn Fence.wide n P l.toArray Q l.dropLast.length (Q .normal) a' w') l.dropLast a) : (Code.region id l.toArray true).wpIn (Fence.wide.inRound l0) n P Q a w := by
  have hsz := lastB_size h2
  refine wpIn_region_any hm (wpAnyIn_inRoundK hd ?_)
  rw [← hsz]
  have hsl : l.dropLast.length < l.length := by simpa using (by rw [← hsz]; omega : l.dropLast.length < l.toArray.size)
  refine wpAnyIn_of_last (C := C) rfl h2 l.dropLast.length (Array.replicate (l.dropLast.length + 1) false) a _ (by simpa using hsz) hC (by simp) (fun i o _ hi => ?_) ?_
  · have h0 : (Array.replicate (l.dropLast.length + 1) false).getD i false = false := by unfold Array.getD; split <;> simp
    rw [h0] at hi
    cases hi
  · rw [hsz]
    exact lex_partIn h1 l.dropLast 0 _ a (fun j hj => by simp [List.getElem?_dropLast] ; omega) h3 (quiet_of_wide _ a h)
theorem wpOpIn_go {P : Program} {ops : Array Oper} {Q : Exit → Act → World → Prop} {F : Fence} {m n : Nat} {K : Act → World → Prop} {a : Act} {w : World} {o : Oper} (ho : ops[n]? = some o) (hg : o.guard = none) (h : o.wpIn F m P a w K Q) : wpOpIn F m P ops Q n K a w := by
  unfold wpOpIn
  rw [ho]
  have hw : Region.wanted o (yielded ops a.tmps) = true := by simp [Region.wanted, hg]
  simp only [hw, if_true]
  exact h
end
/-- what stands while a loop goes through the records, counts them and knows their places -/
structure CW (X1 : World) (bk bp l : Nat) (R : Loop) (b1 : Nat) (o1 : Obj) (D : List UInt8) (k : Nat) (W : World) : Prop where
  bx : W.heap[bk]? = some (.cells #[.int .i64 (k : Int)] 3 (0, 0))
  px : W.heap[bp]? = some (.cells #[.int .i64 (plc D k : Int)] 3 (0, 0))
  lp : W.heap[l]? = some (.loop R)
  d1 : W.heap[b1]? = some o1
  be : Below X1.heap.size X1 W
theorem CW.below {X1 : World} {bk bp l : Nat} {R : Loop} {b1 : Nat} {o1 : Obj} {D : List UInt8} {k : Nat} {W W' : World} (h : CW X1 bk bp l R b1 o1 D k W) (hb : Below W.heap.size W W') : CW X1 bk bp l R b1 o1 D k W' :=
  ⟨keepZ hb h.bx, keepZ hb h.px, keepZ hb h.lp, keepZ hb h.d1, bel0Z h.be hb⟩
theorem CW.loop {X1 : World} {bk bp l : Nat} {R : Loop} {b1 : Nat} {o1 : Obj} {D : List UInt8} {k : Nat} {W : World} (h : CW X1 bk bp l R b1 o1 D k W) (R' : Loop) (hl : X1.heap.size ≤ l) (n1 : bk ≠ l) (n2 : bp ≠ l) (n3 : b1 ≠ l) : CW X1 bk bp l R' b1 o1 D k (W.putObj l (.loop R')) :=
  ⟨put_otherZ h.bx n1, put_otherZ h.px n2, World.putObj_heap_same (lt_getZ h.lp), put_otherZ h.d1 n3, h.be.grown (grownBy_putObj' W l _) h.be.size (fun x e => by cases e; exact hl)⟩
theorem CW.set {X1 : World} {bk bp l : Nat} {R : Loop} {b1 : Nat} {o1 : Obj} {D : List UInt8} {k : Nat} {W : World} (h : CW X1 bk bp l R b1 o1 D k W) (hb : X1.heap.size ≤ bk) (hp : X1.heap.size ≤ bp) (h0 : bk ≠ bp) (n1 : l ≠ bk) (n2 : l ≠ bp) (n3 : b1 ≠ bk) (n4 : b1 ≠ bp) (k1 : Nat) : CW X1 bk bp l R b1 o1 D k1 ((W.setCell ⟨bp, 0, none⟩ (.int .i64 (plc D k1 : Int))).setCell ⟨bk, 0, none⟩ (.int .i64 (k1 : Int))) := by
  have e1 : (W.setCell ⟨bp, 0, none⟩ (.int .i64 (plc D k1 : Int))).heap[bk]? = some (.cells #[.int .i64 (k : Int)] 3 (0, 0)) := (Below.heap_setCell _ _ _ _ h0).trans h.bx
  have e2 : (W.setCell ⟨bp, 0, none⟩ (.int .i64 (plc D k1 : Int))).heap[bp]? = some (.cells #[.int .i64 (plc D k1 : Int)] 3 (0, 0)) := by rw [set_getZ _ h.px]; rfl
  exact ⟨by rw [set_getZ _ e1]; rfl, (Below.heap_setCell _ _ _ _ (fun e => h0 e.symm)).trans e2, (Below.heap_setCell _ _ _ _ n1).trans ((Below.heap_setCell _ _ _ _ n2).trans h.lp), (Below.heap_setCell _ _ _ _ n3).trans ((Below.heap_setCell _ _ _ _ n4).trans h.d1), (h.be.setCell (p := ⟨bp, 0, none⟩) hp _).setCell (p := ⟨bk, 0, none⟩) hb _⟩
/-- what the function holds while its loops go -/
structure BW (D : List UInt8) (L : List Rec) (nm : Nat) (x1 : Int) (q1 qr bW Bc : Nat) (pw : Option Addr) (cw : Nat) (p : Option Addr) (n c : Nat) (X : World) : Prop where
  u : X.heap[q1]? = some (.cells #[.int .i64 x1] 3 (0, 0))
  r : X.heap[qr]? = some (.cells #[.bool false] 4 (0, 0))
  d : X.heap[Bc]? = some (.cells #[.slice p n c] 22 (0, 0))
  m : X.heap[bW]? = some (.cells #[.slice pw nm cw] 33 (0, 0))
  mc : RR X pw L
  dc : BR X p D
theorem BW.below {D : List UInt8} {L : List Rec} {nm : Nat} {x1 : Int} {q1 qr bW Bc : Nat} {pw : Option Addr} {cw : Nat} {p : Option Addr} {n c : Nat} {X W : World} (h : BW D L nm x1 q1 qr bW Bc pw cw p n c X) (hb : Below X.heap.size X W) : BW D L nm x1 q1 qr bW Bc pw cw p n c W :=
  ⟨keepZ hb h.u, keepZ hb h.r, keepZ hb h.d, keepZ hb h.m, h.mc.below hb, h.dc.below hb⟩
theorem plc_step {D : List UInt8} {k : Nat} {r : Rec} (h : (whL 1 D)[k]? = some r) : plc D (k + 1) = plc D k + (r.text.length + 20) := by
  unfold plc
  rw [List.take_add_one, h, whB_app]
  simp [whB]
end Go.Proofs.Ytjbfkknpkldhjab

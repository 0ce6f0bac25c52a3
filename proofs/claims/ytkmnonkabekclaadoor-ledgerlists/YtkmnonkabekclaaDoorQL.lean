import Derived.Test.YtkmnonkabekclaaDoorChecked
import Derived.WalkKit
import Derived.BigQuiet
import Derived.Deep.Quiet
namespace Go.Proofs.YtkmnonkabekclaaDoor
open Go
/-- each operation waits for earlier ones alone, and each but the last one is waited for: so the last one comes last -/
def lastB (ops : Array Oper) (n : Nat) : Bool :=
  (n + 1 == ops.size) && ((List.range ops.size).all fun i => (ops[i]?.map fun o => o.after.all fun e => !Region.binds .any e || decide (e.on < i)).getD true)
  && ((List.range n).all fun i => (List.range ops.size).any fun j => decide (i < j) && (ops[j]?.map fun o => o.after.any fun e => Region.binds .any e && e.on == i).getD false)
section
variable {P : Program} {ops : Array Oper} {C : World → Prop} {n : Nat}
theorem lastB_size (h : lastB ops n = true) : n + 1 = ops.size := by
  unfold lastB at h
  simp only [Bool.and_eq_true, beq_iff_eq] at h
  exact h.1.1
theorem lastB_back (h : lastB ops n = true) {i : Nat} {o : Oper} (ho : ops[i]? = some o) : ∀ e ∈ o.after, Region.binds .any e = true → e.on < i := by
  unfold lastB at h
  simp only [Bool.and_eq_true, List.all_eq_true, List.mem_range] at h
  have hi : i < ops.size := (Array.getElem?_eq_some_iff.1 ho).1
  have := h.1.2 i hi
  rw [ho] at this
  simp only [Option.map_some, Option.getD_some, Array.all_eq_true_iff_forall_mem] at this
  intro e he hb
  have := this e he
  simpa [hb] using this
theorem lastB_next (h : lastB ops n = true) {i : Nat} (hi : i < n) : ∃ j o e, i < j ∧ j ≤ n ∧ ops[j]? = some o ∧ e ∈ o.after ∧ Region.binds .any e = true ∧ e.on = i := by
  have hs := lastB_size h
  unfold lastB at h
  simp only [Bool.and_eq_true, List.all_eq_true, List.mem_range] at h
  obtain ⟨j, hj, hj2⟩ := List.any_eq_true.1 (h.2 i hi)
  rw [List.mem_range] at hj
  simp only [Bool.and_eq_true, decide_eq_true_eq] at hj2
  obtain ⟨hij, hj3⟩ := hj2
  cases ho : ops[j]? with
  | none => rw [ho] at hj3; simp at hj3
  | some o =>
    rw [ho] at hj3
    simp only [Option.map_some, Option.getD_some] at hj3
    obtain ⟨e, he, hb⟩ := Array.any_eq_true'.1 hj3
    simp only [Bool.and_eq_true, beq_iff_eq] at hb
    exact ⟨j, o, e, hij, by omega, ho, he, hb.1, hb.2⟩
/-- what has come up has come up behind what it waits for -/
def DCL (ops : Array Oper) (listed : Array Bool) : Prop := ∀ i o, ops[i]? = some o → listed.getD i false = true → ∀ e ∈ o.after, Region.binds .any e = true → listed.getD e.on false = true
theorem gdl_of {listed : Array Bool} {i : Nat} (hs : i < listed.size) : listed.getD i true = listed.getD i false := by simp [hs]
theorem all_of_ready (h : lastB ops n = true) {listed : Array Bool} (hd : DCL ops listed) (hn : n ∈ Region.ready .any ops listed) : ∀ (d i : Nat), n - i ≤ d → i < n → listed.getD i false = true
  | 0, i, hd0, hi => by omega
  | d + 1, i, hd0, hi => by
    obtain ⟨j, o, e, hij, hjn, ho, he, hb, rfl⟩ := lastB_next h hi
    by_cases hj : j = n
    · subst hj
      obtain ⟨_, o', ho', hall⟩ := mem_ready.1 hn
      obtain rfl := Option.some.inj (ho.symm.trans ho')
      exact hall e he hb
    · exact hd j o ho (all_of_ready h hd hn d j (by omega) (by omega)) e he hb
theorem all_of_nil (h : lastB ops n = true) {listed : Array Bool} (hs : listed.size = ops.size) (hr : Region.ready .any ops listed = []) : ∀ i, i < ops.size → listed.getD i false = true := by
  intro i
  induction i using Nat.strongRecOn with
  | _ i ih =>
    intro hi
    refine Classical.byContradiction (fun hc => ?_)
    have : i ∈ Region.ready .any ops listed := by
      refine mem_ready.2 ⟨by rw [gdl_of (by omega)]; simpa using hc, ops[i], Array.getElem?_eq_getElem hi, fun e he hb => ?_⟩
      have := lastB_back h (Array.getElem?_eq_getElem hi) e he hb
      exact ih _ this (by omega)
    rw [hr] at this
    cases this
theorem nil_of_all {listed : Array Bool} (hs : listed.size = ops.size) (ha : ∀ i, i < ops.size → listed.getD i false = true) : Region.ready .any ops listed = [] := by
  refine List.eq_nil_iff_forall_not_mem.2 (fun i hi => ?_)
  obtain ⟨h0, o, ho, _⟩ := mem_ready.1 hi
  have hlt : i < ops.size := (Array.getElem?_eq_some_iff.1 ho).1
  rw [gdl_of (by omega), ha i hlt] at h0
  cases h0
theorem gdl_self {listed : Array Bool} {i : Nat} (hs : i < listed.size) (d : Bool) : (listed.setIfInBounds i true).getD i d = true := by simp [hs]
theorem wpAny_of_last (h : lastB ops n = true) {Q' : Exit → Act → World → Prop} : ∀ (fuel : Nat) (listed : Array Bool) (a : Act) (w : World), listed.size = ops.size → C w → listed.getD n true = false → DCL ops listed →
    wpAnyQ P .any ops C (fun a' => ∀ w', C w' → wpOp P ops Q' n (Q' .normal) a' w') fuel (listed.setIfInBounds n true) a → wpAny P .any ops Q' (fuel + 1) listed a w := by
  have hsz := lastB_size h
  intro fuel
  induction fuel with
  | zero =>
    intro listed a w hs hw hn hd hq
    have hall := all_of_nil h (listed := listed.setIfInBounds n true) (by simpa using hs) hq.1
    have hothers : ∀ i, i < n → listed.getD i false = true := fun i hi => by
      have := hall i (by omega)
      rw [getD_set_ne false (by omega)] at this
      exact this
    refine ⟨fun h0 => ?_, fun i hi => ?_⟩
    · have : n ∈ Region.ready .any ops listed := mem_ready.2 ⟨hn, ops[n]'(by omega), Array.getElem?_eq_getElem _, fun e he hb => hothers _ (lastB_back h (Array.getElem?_eq_getElem (by omega)) e he hb)⟩
      rw [h0] at this
      cases this
    · obtain ⟨h0, o, ho, _⟩ := mem_ready.1 hi
      have hlt : i < ops.size := (Array.getElem?_eq_some_iff.1 ho).1
      have hin : i = n := by
        refine Classical.byContradiction (fun hne => ?_)
        rw [gdl_of (by omega), hothers i (by omega)] at h0
        cases h0
      subst hin
      exact wpOp_mono (fun a' w' hQ => ⟨hq.1, hQ⟩) (hq.2 w hw)
  | succ fuel ih =>
    intro listed a w hs hw hn hd hq
    refine ⟨fun h0 => ?_, fun i hi => ?_⟩
    · exfalso
      have hr : Region.ready .any ops (listed.setIfInBounds n true) = [] := by
        refine List.eq_nil_iff_forall_not_mem.2 (fun i hi => ?_)
        obtain ⟨h1, o, ho, hall⟩ := mem_ready.1 hi
        have hne : n ≠ i := fun e => by
          subst e
          rw [gdl_self (by omega)] at h1
          cases h1
        have hlt : i < ops.size := (Array.getElem?_eq_some_iff.1 ho).1
        have : i ∈ Region.ready .any ops listed := mem_ready.2 ⟨by rw [getD_set_ne true hne] at h1; exact h1, o, ho, fun e he hb => by
          have h2 := hall e he hb
          have h3 := lastB_back h ho e he hb
          rw [getD_set_ne false (by omega)] at h2
          exact h2⟩
        rw [h0] at this
        cases this
      have hall := all_of_nil h (listed := listed.setIfInBounds n true) (by simpa using hs) hr
      have : n ∈ Region.ready .any ops listed := mem_ready.2 ⟨hn, ops[n]'(by omega), Array.getElem?_eq_getElem _, fun e he hb => by
        have h3 := lastB_back h (Array.getElem?_eq_getElem (by omega)) e he hb
        have := hall e.on (by omega)
        rw [getD_set_ne false (by omega)] at this
        exact this⟩
      rw [h0] at this
      cases this
    · by_cases hin : i = n
      · subst hin
        have ha := fun (k : Nat) (hk : k < i) => all_of_ready h hd hi i k (by omega) hk
        have hr : Region.ready .any ops (listed.setIfInBounds i true) = [] := nil_of_all (by simpa using hs) (fun k hk => by
          by_cases hk2 : k = i
          · subst hk2; exact gdl_self (by omega) _
          · rw [getD_set_ne false (fun e => hk2 e.symm)]; exact ha k (by omega))
        refine wpOp_mono (fun a' w' hQ => ⟨fun _ => hQ, fun j hj => ?_⟩) (hq.1 hr w hw)
        rw [hr] at hj
        cases hj
      · have hq2 := hq.2 i (ready_mono hi hin)
        refine wpOp_of_qOp hw (fun a' w' hw' hK => ih (listed.setIfInBounds i true) a' w' (by simpa using hs) hw' ?_ ?_ ?_) hq2
        · rw [getD_set_ne true hin]; exact hn
        · intro k o ho hk e he hb
          by_cases hki : k = i
          · subst hki
            obtain ⟨_, o', ho', hall⟩ := mem_ready.1 hi
            obtain rfl := Option.some.inj (ho.symm.trans ho')
            exact getD_set_true (hall e he hb)
          · rw [getD_set_ne false (fun x => hki x.symm)] at hk
            exact getD_set_true (hd k o ho hk e he hb)
        · rw [Array.setIfInBounds_comm _ _ hin]
          exact hK
theorem lex_part {Q : Act → Prop} (hs : Region.noSelect ops = true) : ∀ (l : List Oper) (k : Nat) (listed : Array Bool) (a : Act), (∀ j, j < l.length → l[j]? = ops[k + j]?) →
    Region.lexFrom .any ops l.length k listed = true → wpQuiet P ops C Q l a → wpAnyQ P .any ops C Q l.length listed a := by
  intro l
  induction l with
  | nil => intro k listed a _ hB h; exact ⟨by simpa [Region.lexFrom] using hB, h⟩
  | cons o l ih =>
    intro k listed a hl hB h
    have h0 : ops[k]? = some o := by
      have := hl 0 (by simp)
      simpa using this.symm
    simp only [List.length_cons, Region.lexFrom, Bool.and_eq_true] at hB
    obtain ⟨⟨hr, hf⟩, hB'⟩ := hB
    have hst : qOp P ops C k (wpQuiet P ops C Q l) a := by unfold qOp; simp only [h0]; exact h
    obtain ⟨v, hy, hK⟩ := yieldsIn_of_qOp h0 hst
    refine wpAnyQ_first h0 (Region.noSelect_spec hs) l.length listed a (Region.free_spec h0 hf) (by simpa using hr) hy (ih (k + 1) _ _ (fun j hj => ?_) hB' hK)
    have := hl (j + 1) (by simp; omega)
    rw [show k + 1 + j = k + (j + 1) by omega, ← this]
    simp
end
/-- A REGION THAT DRAWS, ALL OF WHOSE OPERATIONS BUT THE LAST ARE QUIET IN A CLASS OF WORLDS, AND THE LAST ONE WAITS FOR ALL: one walk of the lexical order, and the last operation behind it. -/
theorem quiet_last {P : Program} {id : Nat} {Q : Exit → Act → World → Prop} {a : Act} {w : World} {l : List Oper} {C : World → Prop} (hm : P.follows .mixedOrders = true) (h1 : Region.noSelect l.toArray = true) (h2 : lastB l.toArray l.dropLast.length = true)
    (h3 : Region.lexFrom .any l.toArray l.dropLast.length 0 ((Array.replicate l.toArray.size false).setIfInBounds l.dropLast.length true) = true) (hC : C w.drew)
    (h : wpQuiet P l.toArray C (fun a' => ∀ w', C w' → wpOp P l.toArray Q l.dropLast.length (Q .normal) a' w') l.dropLast a) : (Code.region id l.toArray true).wp P Q a w := by
  have hsz := lastB_size h2
  refine wp_region_any hm ?_
  rw [← hsz]
  have hsl : l.dropLast.length < l.length := by simpa using (by rw [← hsz]; omega : l.dropLast.length < l.toArray.size)
  refine wpAny_of_last (C := C) h2 l.dropLast.length (Array.replicate (l.dropLast.length + 1) false) a _ (by simpa using hsz) hC (by simp) (fun i o _ hi => ?_) ?_
  · have h0 : (Array.replicate (l.dropLast.length + 1) false).getD i false = false := by unfold Array.getD; split <;> simp
    rw [h0] at hi
    cases hi
  · rw [hsz]
    exact lex_part h1 l.dropLast 0 _ a (fun j hj => by simp [List.getElem?_dropLast] ; omega) h3 h
theorem wpOp_go {P : Program} {ops : Array Oper} {Q : Exit → Act → World → Prop} {n : Nat} {K : Act → World → Prop} {a : Act} {w : World} {o : Oper} (ho : ops[n]? = some o) (hg : o.guard = none) (h : o.wp P a w K Q) : wpOp P ops Q n K a w := by
  unfold wpOp
  rw [ho]
  have hw : Region.wanted o (yielded ops a.tmps) = true := by simp [Region.wanted, hg]
  simp only [hw, if_true]
  exact .inl h
end Go.Proofs.YtkmnonkabekclaaDoor

import Derived.Test.YtcojcfocnemclaaDoorRows
import Derived.Test.YtcojcfocnemclaaDoorCards
import Derived.Test.YtcojcfocnemclaaDoorTie
import Derived.Test.YtcojcfocnemclaaDoorPJ
import Derived.SizedLaws
import Derived.ChangeSame
import Derived.ChangeVars
import Derived.ChangeMaps5
import Derived.JoinedOf
import Derived.JoinedAt
import Derived.RowKit
import Derived.RowKit3
import Derived.RowKitTokens
import Derived.LaidLaws
import Derived.Lib.LaidTab
import Derived.Stop.LaidErr
import Derived.Handed
import Derived.ProofKit
import Derived.OpenShut
import Derived.ShutString
import Derived.ChangeOld
import Derived.Below
import Derived.Carry
import Derived.SliceStrings
import Derived.ChangeSlices
namespace Go.Proofs.YtcojcfocnemclaaDoor
open Go.ChangeShapes Go.WideShapes Go.ChangeAt Go.RowKit
open Go.ChangeMaps (open_string shut_string)
theorem laidU : laidOutB Tryd.prog = true := by kernel_rfl
theorem own_knobU : ownKnob Tryd.prog.godebug = none := by kernel_rfl
theorem gV_pow : Tryd.prog.globalNamed "internal/strconv.uint64pow10" = some 0 := by kernel_rfl
theorem gtV_pow : (Tryd.prog.globals[0]?).map (·.type) = some 107 := by kernel_rfl
theorem ceV_pow : Tryd.prog.cellsOf 93 = 1 := by kernel_rfl
theorem ctV_pow : Tryd.prog.cellsOf 107 = 20 := by kernel_rfl
theorem TBL_of {W : World} (h : laidMet Tryd.prog Rows.ledgerPlacesRow.laid W) : TBL W :=
  Lib.tabIs_of_head gV_pow gtV_pow Tryd.underlying107 Tryd.underlying93 ceV_pow ctV_pow (laidMet.tail (laidMet.tail h))
def cellsE : DataW Unit → List Value
  | .lit (.int k z) => [.int k z]
  | .lit (.string z) => [.string ⟨z.toArray⟩]
  | .lit (.bool z) => [.bool z]
  | _ => []
def cellsV : DataW Unit → Array Value
  | .agg xs => (xs.flatMap cellsE).toArray
  | _ => #[]
def layV (d : DataW Unit) : Obj → Obj
  | .cells _ t frozen => .cells (cellsV d) t frozen
  | o => o
/-- the settled world with the tables as their initialisers lay them -/
noncomputable def laidWorldU (os : Os) : World :=
  let w0 := World.holding Tryd.prog os ⟨#[], #[], []⟩
  { w0 with heap := (((w0.heap.modify 4 (layV Rows.laid_math_bits_deBruijn32tab)).modify 5 (layV Rows.laid_math_bits_deBruijn64tab)).modify 0 (layV Rows.laid_internal_strconv_uint64pow10)) }
theorem laid_metU (os : Os) (args : Array Value) : laidMet Tryd.prog Rows.ledgerPlacesRow.laid ((laidWorldU os).forCall (fun _ _ => 0) ⟨#[], args, []⟩).memory :=
  laidMet_of_run' 8 (by kernel_rfl) (by kernel_rfl)
set_option maxRecDepth 100000 in
theorem ledgerPlaces_lifted (os : Os) (started : os.Started) (H : Type) (enc : TypeId × Value → H) :
    ReturnsInHanded {} Tryd.checked os 4 .any (fun w args => (Rows.ledgerPlacesSpec.pre enc Tryd.prog Tryd.f4 Rows.ledgerPlacesRow.domain false w args ∧ laidMet Tryd.prog Rows.ledgerPlacesRow.laid w) ∧ sizedMet enc Tryd.prog Tryd.f4 (OpenSpec.ofChange Rows.ledgerPlacesSpec) false w args)
      (Rows.ledgerPlacesSpec.post enc Tryd.prog Tryd.f4 false true false false) := by
  refine returnsInHanded_of_change_and (C := Tryd.checked) (X := fun w _ => laidMet Tryd.prog Rows.ledgerPlacesRow.laid w) (fun _ _ _ hh h => h.of_heap hh) own_knobU started (by kernel_rfl) Tryd.func4
    (ChangeSpec.witness_at (enc := enc) (C := Tryd.checked) (os := os) (X := fun w _ => laidMet Tryd.prog Rows.ledgerPlacesRow.laid w) false (laidWorldU os) #[.slice none 0 0, .slice none 0 0, .slice none 0 0] 8 rfl (by kernel_rfl) (by kernel_rfl) (by kernel_rfl) (by kernel_rfl) (by kernel_rfl) (laid_metU os _)) ?_
  intro W base args ds gs before hval0 hW _ hsz0 hL _
  have hval : ∀ (j : Nat) t v, Tryd.f4.params[j]? = some t → args[j]? = some v → Value.okWide Tryd.prog W .any base t v := hval0
  have hsz : (DataW.weightsEach Tryd.prog (Tryd.f4.params.toList ++ Rows.ledgerPlacesSpec.plain.varTypes Tryd.prog) (ds ++ gs)).all (· ≤ reachBytes) = true := hsz0
  clear hsz0
  have hW' := hW
  obtain ⟨p, q, hA0, hV, rfl, _, _⟩ := hW
  have hA : DataW.TrodAll enc Tryd.prog W 0 (fun _ => true) true Tryd.f4.params.toList args.toList ds p := hA0
  rw [Tryd.params4] at hA hval hsz
  obtain ⟨v0, vs0, d0, ds0, p0, q0, hargs, rfl, rfl, h0, r0⟩ := trodAll_cons hA
  obtain ⟨v1, vs1, d1, ds1, p1, q1, rfl, rfl, rfl, h1, r1⟩ := trodAll_cons r0
  obtain ⟨v2, vs2, d2, ds2, p2, q2, rfl, rfl, rfl, h2, r2⟩ := trodAll_cons r1
  obtain ⟨rfl, rfl, rfl⟩ := trodAll_nil r2
  obtain rfl : args = #[v0, v1, v2] := by cases args; simp_all
  obtain ⟨rfl, rfl⟩ := trodVars_none hV
  obtain ⟨ad0, len0, cap0, rfl⟩ := okWide_slice Tryd.underlying31 (hval 0 31 v0 rfl rfl)
  have k0 := h0
  have lt0 : ∀ x ∈ p0, x.block < W.heap.size := by obtain ⟨m, hm⟩ := k0; exact DataW.trod_lt m _ _ _ hm
  obtain ⟨ad1, len1, cap1, rfl⟩ := okWide_slice Tryd.underlying22 (hval 1 22 v1 rfl rfl)
  have k1 := h1
  have lt1 : ∀ x ∈ p1, x.block < W.heap.size := by obtain ⟨m, hm⟩ := k1; exact DataW.trod_lt m _ _ _ hm
  obtain ⟨ad2, len2, cap2, rfl⟩ := okWide_slice Tryd.underlying32 (hval 2 32 v2 rfl rfl)
  have k2 := h2
  have lt2 : ∀ x ∈ p2, x.block < W.heap.size := by obtain ⟨m, hm⟩ := k2; exact DataW.trod_lt m _ _ _ hm
  clear hA0 hval0
  simp only [List.append_nil] at hW'
  obtain ⟨l0, hn0, hc0, hr0⟩ := (by obtain ⟨fuel, hf⟩ := h0; exact bytes_arg hf : ∃ l, l.length = len0 ∧ len0 ≤ cap0 ∧ BR W ad0 l)
  obtain ⟨l1, hn1, hr1, hx1⟩ := (by
    obtain ⟨fuel, hf⟩ := h1
    refine strs_arg hf (fun b hb => ?_)
    have h1 := of_decide_eq_true (List.all_eq_true.1 hsz b (DataW.weights_mem_each (j := 1) (t := 22) rfl rfl b hb))
    have h2 := reachBytes_lt
    have e3 : (2 : Nat) ^ 47 = 140737488355328 := by decide
    omega : ∃ l : List (List UInt8), l.length = len1 ∧ TR W ad1 l ∧ LB l)
  obtain ⟨hi2, hm2⟩ := (by
    obtain ⟨fuel, hf⟩ := h2
    refine ints_arg hf (fun b hb => ?_)
    have h1 := of_decide_eq_true (List.all_eq_true.1 hsz b (DataW.weights_mem_each (j := 2) (t := 32) rfl rfl b hb))
    have h2 := reachBytes_lt
    have e3 : (2 : Nat) ^ 47 = 140737488355328 := by decide
    omega : IRW W ad2 len2 ∧ len2 ≤ 281474976710656)
  refine (ledgerPlaces_walk l0 ad0 len0 cap0 l1 ad1 len1 cap1 ad2 len2 cap2 W hn0 hc0 hr0 hn1 hr1 hx1 hi2 hm2 (TBL_of hL)).mono fun e W' ⟨he, hnx⟩ => ?_
  subst he
  exact ⟨_, rfl, _, _, _, [], _, [], hW', trodAll_mk1 (shut_bool Tryd.underlying4 _), (trodAll_cons_mk (Below.trod laidU (by kernel_rfl) (of_decide_eq_true (by kernel_rfl)) k0 hnx lt0) (trodAll_cons_mk (Below.trod laidU (by kernel_rfl) (of_decide_eq_true (by kernel_rfl)) k1 hnx lt1) (trodAll_cons_mk (Below.trod laidU (by kernel_rfl) (of_decide_eq_true (by kernel_rfl)) k2 hnx lt2) trodAll_mk0))), rfl, hnx.frame _, fun h => by cases h⟩
theorem ledgerPlaces_row : Rows.LedgerPlacesSaid :=
  OpenClaim.holds_of_wide 4 Tryd.f4 rfl rfl rfl rfl rfl rfl rfl ⟨rfl, rfl, rfl, rfl, rfl⟩ rfl rfl rfl rfl rfl (by kernel_rfl) Tryd.func4 (by kernel_rfl)
    (of_decide_eq_true (by kernel_rfl)) (by unfold Func.isWrapper; first | (rw [if_pos (by decide +kernel)]; kernel_rfl) | (rw [if_neg (by decide +kernel)]; exact ⟨rfl, rfl⟩))
    (fun os started H enc _ => ledgerPlaces_lifted os started H enc)
theorem plainU (f : FuncId) (fn : Func) (hf : Tryd.pinned.checked.prog.funcNamed "reach/reachlaw19.LedgerPlaces" = some f) (hfn : Tryd.pinned.checked.prog.funcs[f]? = some fn) :
    true = Tryd.pinned.checked.prog.looks [] ∧ ∀ (j : Nat) t, fn.params[j]? = some t → Tryd.pinned.checked.prog.wantsStandIn t = false := by
  obtain rfl : f = 4 := Option.some.inj ((show Tryd.prog.funcNamed "reach/reachlaw19.LedgerPlaces" = some 4 by kernel_rfl).symm.trans hf) |>.symm
  obtain rfl : fn = Tryd.f4 := (Option.some.inj (Tryd.func4.symm.trans hfn)).symm
  refine ⟨by kernel_rfl, fun j t ht => ?_⟩
  rw [Tryd.params4] at ht
  have hm := Array.mem_of_getElem? ht
  have h3 : t = 31 ∨ t = 22 ∨ t = 32 := by simpa using hm
  rcases h3 with rfl | rfl | rfl
  · exact (show Tryd.prog.wantsStandIn 31 = false by kernel_rfl)
  · exact (show Tryd.prog.wantsStandIn 22 = false by kernel_rfl)
  · exact (show Tryd.prog.wantsStandIn 32 = false by kernel_rfl)
theorem ledgerPlaces_holds : Rows.LedgerPlacesCardSaid :=
  Claim7.holds_tied_plain_at .later [] _ _ _ _ ledgerPlaces_row (fun _ h => by cases h) (by kernel_rfl) (fun _ h => by cases h) ledgerPlaces_row_tie rfl ⟨rfl, rfl⟩ (by kernel_rfl) rfl plainU (by kernel_rfl)
#print axioms ledgerPlaces_holds
end Go.Proofs.YtcojcfocnemclaaDoor

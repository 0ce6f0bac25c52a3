import Derived.Test.YtkmnonkabekclaaDoorRows
import Derived.Test.YtkmnonkabekclaaDoorCards
import Derived.Test.YtkmnonkabekclaaDoorTie
import Derived.Test.YtkmnonkabekclaaDoorSE
import Derived.Test.YtkmnonkabekclaaDoorDA
import Derived.SizedLaws
import Derived.ChangeSame
import Derived.ChangeVars
import Derived.ChangeMaps5
import Derived.JoinedOf
import Derived.JoinedAt
import Derived.RowKit
import Derived.RowKit3
import Derived.RowKitTokens
import Derived.LaidLaws
import Derived.Lib.LaidTab
import Derived.Stop.LaidErr
import Derived.Handed
import Derived.ProofKit
import Derived.OpenShut
import Derived.ShutString
import Derived.ChangeOld
import Derived.Below
import Derived.Carry
import Derived.SliceStrings
import Derived.ChangeSlices
namespace Go.Proofs.YtkmnonkabekclaaDoor
open Go.ChangeShapes Go.WideShapes Go.ChangeAt Go.RowKit
open Go.ChangeMaps (open_string shut_string)
theorem laidU : laidOutB Tryd.prog = true := by kernel_rfl
theorem own_knobU : ownKnob Tryd.prog.godebug = none := by kernel_rfl
theorem gV_pow : Tryd.prog.globalNamed "internal/strconv.uint64pow10" = some 0 := by kernel_rfl
theorem gtV_pow : (Tryd.prog.globals[0]?).map (·.type) = some 107 := by kernel_rfl
theorem ceV_pow : Tryd.prog.cellsOf 93 = 1 := by kernel_rfl
theorem ctV_pow : Tryd.prog.cellsOf 107 = 20 := by kernel_rfl
theorem TBL_of {W : World} (h : laidMet Tryd.prog Rows.ledgerListsRow.laid W) : TBL W :=
  Lib.tabIs_of_head gV_pow gtV_pow Tryd.underlying107 Tryd.underlying93 ceV_pow ctV_pow (laidMet.tail (laidMet.tail h))
theorem gV_syn : Tryd.prog.globalNamed "strconv.ErrSyntax" = some 2 := by kernel_rfl
theorem gtV_syn : (Tryd.prog.globals[2]?).map (·.type) = some 64 := by kernel_rfl
theorem gV_rng : Tryd.prog.globalNamed "strconv.ErrRange" = some 3 := by kernel_rfl
theorem gtV_rng : (Tryd.prog.globals[3]?).map (·.type) = some 64 := by kernel_rfl
theorem starV : "*errors.errorString" = "*" ++ "errors.errorString" := by decide
theorem rowV_es (u : TypeId) (h : Tryd.prog.typeName? 3 u = some "*errors.errorString") : u = 121 :=
  typeName_ptr_named (nm := "errors.errorString") (by rw [← starV]; kernel_rfl) (by kernel_rfl) (by decide) u (by rw [← starV]; exact h)
theorem cellsV_es : Tryd.prog.cellsOf 123 = 1 := by kernel_rfl
theorem cellsV_s : Tryd.prog.cellsOf 9 = 1 := by kernel_rfl
theorem VWP_of {W : World} (h : laidMet Tryd.prog Rows.ledgerListsRow.laid W) : VWP W := by
  obtain ⟨b0, s0, hv0, -, -, -⟩ := laid_sentinel (laidMet.tail (laidMet.tail (laidMet.tail h))) gV_rng gtV_rng Tryd.underlying64 rowV_es Tryd.underlying121 Tryd.underlying123 rfl rfl Tryd.underlying9 cellsV_es cellsV_s
  obtain ⟨b1, s1, hv1, -, -, -⟩ := laid_sentinel (laidMet.tail (laidMet.tail (laidMet.tail (laidMet.tail h)))) gV_syn gtV_syn Tryd.underlying64 rowV_es Tryd.underlying121 Tryd.underlying123 rfl rfl Tryd.underlying9 cellsV_es cellsV_s
  exact ⟨TBL_of h, ⟨_, _, hv1⟩, ⟨_, _, hv0⟩⟩
def cellsE : DataW Unit → List Value
  | .lit (.int k z) => [.int k z]
  | .lit (.string z) => [.string ⟨z.toArray⟩]
  | .lit (.bool z) => [.bool z]
  | _ => []
def cellsV : DataW Unit → Array Value
  | .agg xs => (xs.flatMap cellsE).toArray
  | _ => #[]
def layV (d : DataW Unit) : Obj → Obj
  | .cells _ t frozen => .cells (cellsV d) t frozen
  | o => o
def layE (a : Nat) : Obj → Obj
  | .cells _ t frozen => .cells #[.iface 121 (.pointer (some ⟨a, 0, none⟩))] t frozen
  | o => o
abbrev synS : ByteArray := { data := #[105, 110, 118, 97, 108, 105, 100, 32, 115, 121, 110, 116, 97, 120] }
abbrev rngS : ByteArray := { data := #[118, 97, 108, 117, 101, 32, 111, 117, 116, 32, 111, 102, 32, 114, 97, 110, 103, 101] }
noncomputable def lowV : Nat := (World.holding Tryd.prog default ⟨#[], #[], []⟩).heap.size
/-- the settled world with the tables as their initialisers lay them -/
noncomputable def laidWorldU (os : Os) : World :=
  let w0 := World.holding Tryd.prog os ⟨#[.cells #[.string synS] 123, .cells #[.string rngS] 123], #[], []⟩
  { w0 with heap := (((((w0.heap.modify 4 (layV Rows.laid_math_bits_deBruijn32tab)).modify 5 (layV Rows.laid_math_bits_deBruijn64tab)).modify 0 (layV Rows.laid_internal_strconv_uint64pow10)).modify 3 (layE (lowV + 1))).modify 2 (layE lowV)) }
theorem laid_metU (os : Os) (args : Array Value) : laidMet Tryd.prog Rows.ledgerListsRow.laid ((laidWorldU os).forCall (fun _ _ => 0) ⟨#[], args, []⟩).memory :=
  laidMet_of_run' 8 (by kernel_rfl) (by kernel_rfl)
set_option maxRecDepth 100000 in
theorem ledgerLists_lifted (os : Os) (started : os.Started) (H : Type) (enc : TypeId × Value → H) :
    ReturnsInHanded {} Tryd.checked os 7 .any (fun w args => (Rows.ledgerListsSpec.pre enc Tryd.prog Tryd.f7 Rows.ledgerListsRow.domain false w args ∧ laidMet Tryd.prog Rows.ledgerListsRow.laid w) ∧ sizedMet enc Tryd.prog Tryd.f7 (OpenSpec.ofChange Rows.ledgerListsSpec) false w args)
      (Rows.ledgerListsSpec.post enc Tryd.prog Tryd.f7 false true false false) := by
  refine returnsInHanded_of_change_and (C := Tryd.checked) (X := fun w _ => laidMet Tryd.prog Rows.ledgerListsRow.laid w) (fun _ _ _ hh h => h.of_heap hh) own_knobU started (by kernel_rfl) Tryd.func7
    (ChangeSpec.witness_at (enc := enc) (C := Tryd.checked) (os := os) (X := fun w _ => laidMet Tryd.prog Rows.ledgerListsRow.laid w) false (laidWorldU os) #[.slice none 0 0, .string ByteArray.empty] 8 rfl (by kernel_rfl) (by kernel_rfl) (by kernel_rfl) (by kernel_rfl) (by kernel_rfl) (laid_metU os _)) ?_
  intro W base args ds gs before hval0 hW _ hsz0 hL _
  have hval : ∀ (j : Nat) t v, Tryd.f7.params[j]? = some t → args[j]? = some v → Value.okWide Tryd.prog W .any base t v := hval0
  have hsz : (DataW.weightsEach Tryd.prog (Tryd.f7.params.toList ++ Rows.ledgerListsSpec.plain.varTypes Tryd.prog) (ds ++ gs)).all (· ≤ reachBytes) = true := hsz0
  clear hsz0
  have hW' := hW
  obtain ⟨p, q, hA0, hV, rfl, _, _⟩ := hW
  have hA : DataW.TrodAll enc Tryd.prog W 0 (fun _ => true) true Tryd.f7.params.toList args.toList ds p := hA0
  rw [Tryd.params7] at hA hval hsz
  obtain ⟨v0, vs0, d0, ds0, p0, q0, hargs, rfl, rfl, h0, r0⟩ := trodAll_cons hA
  obtain ⟨v1, vs1, d1, ds1, p1, q1, rfl, rfl, rfl, h1, r1⟩ := trodAll_cons r0
  obtain ⟨rfl, rfl, rfl⟩ := trodAll_nil r1
  obtain rfl : args = #[v0, v1] := by cases args; simp_all
  obtain ⟨rfl, rfl⟩ := trodVars_none hV
  obtain ⟨ad0, len0, cap0, rfl⟩ := okWide_slice Tryd.underlying31 (hval 0 31 v0 rfl rfl)
  have k0 := h0
  have lt0 : ∀ x ∈ p0, x.block < W.heap.size := by obtain ⟨m, hm⟩ := k0; exact DataW.trod_lt m _ _ _ hm
  obtain ⟨a1, rfl, rfl, rfl, w1⟩ := open_string Tryd.underlying9 (hval 1 9 v1 rfl rfl) h1
  clear hA0 hval0
  simp only [List.append_nil] at hW'
  obtain ⟨l0, hn0, hc0, hr0⟩ := (by obtain ⟨fuel, hf⟩ := h0; exact bytes_arg hf : ∃ l, l.length = len0 ∧ len0 ≤ cap0 ∧ BR W ad0 l)
  have hlim1 : a1.data.toList.length ≤ 281474976710656 := by
    have h1 := sized_string hsz (j := 1) (t := 9) rfl rfl
    have h2 := reachBytes_lt
    have e3 : (2 : Nat) ^ 47 = 140737488355328 := by decide
    omega
  refine (ledgerLists_walk l0 ad0 len0 cap0 a1.data.toList W hn0 hc0 hr0 hlim1 (VWP_of hL)).mono fun e W' ⟨he, hnx⟩ => ?_
  subst he
  exact ⟨_, rfl, _, _, _, [], _, [], hW', trodAll_mk1 (shut_bool Tryd.underlying4 _), (trodAll_cons_mk (Below.trod laidU (by kernel_rfl) (of_decide_eq_true (by kernel_rfl)) k0 hnx lt0) (trodAll_cons_mk (shut_string Tryd.underlying9 w1) trodAll_mk0)), rfl, hnx.frame _, fun h => by cases h⟩
theorem ledgerLists_row : Rows.LedgerListsSaid :=
  OpenClaim.holds_of_wide 7 Tryd.f7 rfl rfl rfl rfl rfl rfl rfl ⟨rfl, rfl, rfl, rfl, rfl⟩ rfl rfl rfl rfl rfl (by kernel_rfl) Tryd.func7 (by kernel_rfl)
    (of_decide_eq_true (by kernel_rfl)) (by unfold Func.isWrapper; first | (rw [if_pos (by decide +kernel)]; kernel_rfl) | (rw [if_neg (by decide +kernel)]; exact ⟨rfl, rfl⟩))
    (fun os started H enc _ => ledgerLists_lifted os started H enc)
theorem plainU (f : FuncId) (fn : Func) (hf : Tryd.pinned.checked.prog.funcNamed "reach/reachlaw19.LedgerLists" = some f) (hfn : Tryd.pinned.checked.prog.funcs[f]? = some fn) :
    true = Tryd.pinned.checked.prog.looks [] ∧ ∀ (j : Nat) t, fn.params[j]? = some t → Tryd.pinned.checked.prog.wantsStandIn t = false := by
  obtain rfl : f = 7 := Option.some.inj ((show Tryd.prog.funcNamed "reach/reachlaw19.LedgerLists" = some 7 by kernel_rfl).symm.trans hf) |>.symm
  obtain rfl : fn = Tryd.f7 := (Option.some.inj (Tryd.func7.symm.trans hfn)).symm
  refine ⟨by kernel_rfl, fun j t ht => ?_⟩
  rw [Tryd.params7] at ht
  have hm := Array.mem_of_getElem? ht
  have h3 : t = 31 ∨ t = 9 := by simpa using hm
  rcases h3 with rfl | rfl
  · exact (show Tryd.prog.wantsStandIn 31 = false by kernel_rfl)
  · exact (show Tryd.prog.wantsStandIn 9 = false by kernel_rfl)
theorem ledgerLists_holds : Rows.LedgerListsCardSaid :=
  Claim7.holds_tied_plain_at .later [] _ _ _ _ ledgerLists_row (fun _ h => by cases h) (by kernel_rfl) (fun _ h => by cases h) ledgerLists_row_tie rfl ⟨rfl, rfl⟩ (by kernel_rfl) rfl plainU (by kernel_rfl)
#print axioms ledgerLists_holds
end Go.Proofs.YtkmnonkabekclaaDoor

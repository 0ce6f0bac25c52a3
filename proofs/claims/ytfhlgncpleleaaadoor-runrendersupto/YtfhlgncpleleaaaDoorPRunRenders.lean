import Derived.Test.YtfhlgncpleleaaaDoorUR
import Derived.Test.YtfhlgncpleleaaaDoorRows
import Derived.Test.YtfhlgncpleleaaaDoorCards
import Derived.Test.YtfhlgncpleleaaaDoorTie
import Derived.SizedLaws
import Derived.ChangeSame
import Derived.ChangeVars
import Derived.JoinedOf
import Derived.JoinedAt
import Derived.RowKit
import Derived.RowKit3
import Derived.RowKitTokens
import Derived.LaidLaws
import Derived.Lib.LaidTab
import Derived.Stop.LaidErr
import Derived.Handed
import Derived.ProofKit
import Derived.OpenShut
import Derived.Below
import Derived.Carry
import Derived.Deep.DeepHandedRow
namespace Go.Proofs.YtfhlgncpleleaaaDoor
open Go.ChangeShapes Go.WideShapes Go.ChangeAt Go.RowKit
theorem laidU : laidOutB Tryd.prog = true := by kernel_rfl
theorem own_knobU : ownKnob Tryd.prog.godebug = none := by kernel_rfl
theorem gV_pow : Tryd.prog.globalNamed "internal/strconv.uint64pow10" = some 1 := by kernel_rfl
theorem gtV_pow : (Tryd.prog.globals[1]?).map (·.type) = some 69 := by kernel_rfl
theorem ceV_pow : Tryd.prog.cellsOf 61 = 1 := by kernel_rfl
theorem ctV_pow : Tryd.prog.cellsOf 69 = 20 := by kernel_rfl
theorem gG : Tryd.prog.globalNamed "reach/run.words" = some 0 := by kernel_rfl
theorem gtG : (Tryd.prog.globals[0]?).map (·.type) = some 51 := by kernel_rfl
theorem ctG : Tryd.prog.cellsOf 51 = 10 := by kernel_rfl
def wdsL : List (List UInt8) := [[98, 117, 100, 103, 101, 116], [114, 101, 97, 99, 104], [109, 105, 115, 115, 101, 100], [108, 111, 111, 112], [108, 111, 115, 116], [105, 115, 111, 108, 97, 116, 101], [112, 97, 116, 104], [97, 118, 111, 105, 100], [99, 111, 118, 101, 114], [116, 114, 97, 99, 101]]
theorem TWD_of {W : World} {rest : List (String × DataW Unit)} (h : laidMet Tryd.prog (("reach/run.words", Rows.laid_reach_run_words) :: rest) W) : TWD W := by
  have e : (Rows.laid_reach_run_words : DataW Unit) = strData wdsL := by kernel_rfl
  rw [e] at h
  have hp := strs_of_head gG gtG Tryd.underlying51 Tryd.underlying9 cR1 ctG h
  unfold World.var? at hp
  rw [gG] at hp
  simp only [Option.bind_some] at hp
  intro j h1 h2
  split at hp
  · rename_i cs t fr hh
    have e : cs = (wdsL.map fun z => Value.string ⟨z.toArray⟩).toArray := Option.some.inj hp
    have hc : W.cell? ⟨0, j, none⟩ = cs[j]? := by unfold World.cell?; rw [hh]; simp
    rw [hc, e]
    have q : ∀ i : Fin 10, 1 ≤ i.val → ((wdsL.map fun z => Value.string ⟨z.toArray⟩).toArray)[i.val]? = some (.string ⟨(wdT.getD i.val []).toArray⟩) := by
      intro i hi
      match i with
      | ⟨0, _⟩ => exact absurd hi (Nat.not_succ_le_zero 0)
      | ⟨1, _⟩ => rfl
      | ⟨2, _⟩ => rfl
      | ⟨3, _⟩ => rfl
      | ⟨4, _⟩ => rfl
      | ⟨5, _⟩ => rfl
      | ⟨6, _⟩ => rfl
      | ⟨7, _⟩ => rfl
      | ⟨8, _⟩ => rfl
      | ⟨9, _⟩ => rfl
    exact q ⟨j, h2⟩ h1
  · cases hp
theorem TBL_of {W : World} (h : laidMetH Tryd.prog Rows.runRendersUptoRow.laid W) : TBL W := by
  have h : laidMet Tryd.prog Rows.runRendersUptoRow.laid W := h
  exact ⟨Lib.tabIs_of_head gV_pow gtV_pow Tryd.underlying69 Tryd.underlying61 ceV_pow ctV_pow (laidMet.tail (laidMet.tail h)), TWD_of (laidMet.tail (laidMet.tail (laidMet.tail h)))⟩
def cellsE : DataW Unit → List Value
  | .lit (.int k z) => [.int k z]
  | .lit (.string z) => [.string ⟨z.toArray⟩]
  | .lit (.bool z) => [.bool z]
  | _ => []
def cellsV : DataW Unit → Array Value
  | .agg xs => (xs.flatMap cellsE).toArray
  | _ => #[]
def layV (d : DataW Unit) : Obj → Obj
  | .cells _ t frozen => .cells (cellsV d) t frozen
  | o => o
/-- the settled world with the tables as their initialisers lay them -/
noncomputable def laidWorldU (os : Os) : World :=
  let w0 := World.holding Tryd.prog os ⟨#[], #[], []⟩
  { w0 with heap := ((((w0.heap.modify 2 (layV Rows.laid_math_bits_deBruijn32tab)).modify 3 (layV Rows.laid_math_bits_deBruijn64tab)).modify 1 (layV Rows.laid_internal_strconv_uint64pow10)).modify 0 (layV Rows.laid_reach_run_words)) }
def argU : Array Value := #[.agg #[.int .i64 0, .int .i64 0, .int .i64 0, .int .i64 0, .slice none 0 0]]
theorem laid_metU (os : Os) : laidMetH Tryd.prog Rows.runRendersUptoRow.laid ((laidWorldU os).forCall (fun _ _ => 0) ⟨#[], argU, []⟩).memory :=
  laidMet_of_run' 8 (by kernel_rfl) (by kernel_rfl)
theorem readsU (os : Os) {H : Type} (enc : TypeId × Value → H) : ∃ places, DataW.whole enc Tryd.prog ((laidWorldU os).forCall (fun _ _ => 0) ⟨#[], argU, []⟩).memory Tryd.f3.params.toList Rows.runRendersSpec.vars false argU.toList 8 = some ([.agg [.lit (.int .i64 0), .lit (.int .i64 0), .lit (.int .i64 0), .lit (.int .i64 0), .nil]], [], places) :=
  ⟨[], by kernel_rfl⟩
set_option maxRecDepth 100000 in
theorem contractU (H : Type) (enc : TypeId × Value → H) (W : World) (base : Nat) (args : Array Value) (ds gs : List (DataW H)) (before : List MemPlace)
    (hval : ∀ (j : Nat) t v, Tryd.f3.params[j]? = some t → args[j]? = some v → Value.okWide Tryd.prog W .any base t v)
    (hW : DataW.Whole enc Tryd.prog Tryd.f3.params.toList Rows.runRendersSpec.vars false W args.toList ds gs before) (hk : Rows.uptoSmall H (ds ++ gs) = true) (hL : laidMetH Tryd.prog Rows.runRendersUptoRow.laid W) :
    Calls Tryd.prog 3 args W fun e W' => ∃ v, e = .returned v ∧ Rows.runRendersSpec.post enc Tryd.prog Tryd.f3 false true false false W args v W' := by
  have hW' := hW
  obtain ⟨p, q, hA0, hV, rfl, _, _⟩ := hW
  have hA : DataW.TrodAll enc Tryd.prog W 0 (fun _ => true) true Tryd.f3.params.toList args.toList ds p := hA0
  rw [Tryd.params3] at hA hval
  obtain ⟨v0, vs0, d0, ds0, p0, q0, hargs, rfl, rfl, h0, r0⟩ := trodAll_cons hA
  obtain ⟨rfl, rfl, rfl⟩ := trodAll_nil r0
  obtain rfl : args = #[v0] := by cases args; simp_all
  obtain ⟨rfl, rfl⟩ := trodVars_none hV
  obtain ⟨cs, rfl, hcs⟩ := okWide_struct Tryd.underlying25 (hval 0 25 v0 rfl rfl)
  have k0 := h0
  have lt0 : ∀ x ∈ p0, x.block < W.heap.size := by obtain ⟨m, hm⟩ := k0; exact DataW.trod_lt m _ _ _ hm
  clear hA0
  simp only [List.append_nil] at hW'
  obtain ⟨s, qa, c, Es, hc, hr, hc1, hl1, hw⟩ : ∃ (s : RS) (q : Option Addr) (c : Nat) (Es : List VR), cs = #[.int .i64 s.k, .int .i64 s.c, .int .i64 s.t, .int .i64 s.l, .slice q Es.length c] ∧ RDR W q Es ∧ (-9223372036854775808 ≤ s.c ∧ s.c ≤ 9223372036854775807) ∧ (-9223372036854775808 ≤ s.l ∧ s.l ≤ 9223372036854775807) ∧ wgA (rps Es) ≤ 7 * Rows.uptoBulk d0 := by
    obtain ⟨fuel, hf⟩ := h0
    obtain ⟨s, q, c, Es, e1, e2, e3, e4, e5⟩ := open_rsR hf
    refine ⟨s, q, c, Es, ?_, e2, e3, e4, e5⟩
    have e6 : cs.toList = _ := e1
    rw [← Array.toArray_toList (xs := cs), e6]
  subst hc
  have hbulk : Rows.uptoBulk d0 ≤ 1048576 := by
    have h := of_decide_eq_true hk
    simp only [List.append_nil, Rows.uptoBulkAll] at h
    omega
  refine (law_any s Es qa Es.length c W rfl hr (TBL_of hL) hc1.1 hc1.2 hl1.1 hl1.2 (by omega)).mono fun e W' ⟨he, hnx⟩ => ?_
  subst he
  exact ⟨_, rfl, _, _, _, [], _, [], hW', trodAll_mk1 (shut_bool Tryd.underlying4 _), trodAll_mk1 (Below.trod laidU (by kernel_rfl) (of_decide_eq_true (by kernel_rfl)) k0 hnx lt0), rfl, hnx.frame _, fun h => by cases h⟩
set_option maxRecDepth 100000 in
theorem liftedU (os : Os) (started : os.Started) (H : Type) (enc : TypeId × Value → H) (F : Stop.Interp) :
    ReturnsInHanded {} Tryd.checked os 3 .any ((Rows.OpenSpec.upto Rows.runRendersSpec).preRow enc Tryd.prog Tryd.f3 Rows.runRendersUptoRow.domain false Rows.runRendersUptoRow.laid) (((Rows.OpenSpec.upto Rows.runRendersSpec).at F).post enc Tryd.prog Tryd.f3 false true false false) := by
  obtain ⟨places, hx⟩ := readsU os enc
  refine returnsInHanded_of_row (C := Tryd.checked) (s := Rows.OpenSpec.upto Rows.runRendersSpec) own_knobU started (by kernel_rfl) Tryd.func3
    (witness_row_at (enc := enc) (C := Tryd.checked) false (laidWorldU os) argU rfl (by kernel_rfl) (by kernel_rfl) (by kernel_rfl)
      (OpenSpec.preRow_of_cond 8 hx (by kernel_rfl) (fun k hk => by cases hk; kernel_rfl) (by kernel_rfl) (laid_metU os))) ?_
  intro W base args ds gs before hval hW _ hcond _ hL _ _
  exact contractU H enc W base args ds gs before hval hW (hcond _ rfl) hL
theorem saidU : Rows.RunRendersUptoSaid :=
  OpenClaim.holds_of_cond 3 Tryd.f3 rfl rfl rfl rfl rfl rfl rfl ⟨rfl, rfl, rfl, rfl, rfl⟩ rfl rfl rfl rfl rfl (by kernel_rfl) Tryd.func3 (by kernel_rfl)
    (of_decide_eq_true (by kernel_rfl)) (by unfold Func.isWrapper; first | (rw [if_pos (by decide +kernel)]; kernel_rfl) | (rw [if_neg (by decide +kernel)]; exact ⟨rfl, rfl⟩))
    (fun os started H enc _ F => by rw [OpenClaim.pre_eq_preRow]; exact liftedU os started H enc F)
theorem plainU (f : FuncId) (fn : Func) (hf : Tryd.pinned.checked.prog.funcNamed "reach/reachlaw17.RunRenders" = some f) (hfn : Tryd.pinned.checked.prog.funcs[f]? = some fn) :
    false = Tryd.pinned.checked.prog.looks [] ∧ ∀ (j : Nat) t, fn.params[j]? = some t → Tryd.pinned.checked.prog.wantsStandIn t = false := by
  obtain rfl : f = 3 := Option.some.inj ((show Tryd.prog.funcNamed "reach/reachlaw17.RunRenders" = some 3 by kernel_rfl).symm.trans hf) |>.symm
  obtain rfl : fn = Tryd.f3 := (Option.some.inj (Tryd.func3.symm.trans hfn)).symm
  refine ⟨by kernel_rfl, fun j t ht => ?_⟩
  rw [Tryd.params3] at ht
  obtain rfl : t = 25 := by simpa using Array.mem_of_getElem? ht
  exact (show Tryd.prog.wantsStandIn 25 = false by kernel_rfl)
theorem runRenders_holds : Rows.RunRendersUptoCardSaid :=
  Claim7.holds_tied_plain_at .later [] _ _ _ _ saidU (fun _ h => by cases h) (by kernel_rfl) (fun _ h => by cases h) runRendersUpto_row_tie rfl ⟨rfl, rfl⟩ (by kernel_rfl) rfl plainU (by kernel_rfl)
#print axioms runRenders_holds
end Go.Proofs.YtfhlgncpleleaaaDoor

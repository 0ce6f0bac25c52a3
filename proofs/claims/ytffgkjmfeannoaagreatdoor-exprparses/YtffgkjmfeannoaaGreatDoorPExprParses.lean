import Derived.Test.YtffgkjmfeannoaaGreatDoorXBU
import Derived.Test.YtffgkjmfeannoaaGreatDoorXBV
import Derived.Test.YtffgkjmfeannoaaGreatDoorRows
import Derived.Test.YtffgkjmfeannoaaGreatDoorCards
import Derived.Test.YtffgkjmfeannoaaGreatDoorTie
import Derived.SizedLaws
import Derived.ChangeSame
import Derived.ChangeVars
import Derived.ChangeMaps5
import Derived.JoinedOf
import Derived.JoinedAt
import Derived.RowKit
import Derived.RowKit3
import Derived.RowKitTokens
import Derived.LaidLaws
import Derived.Lib.LaidTab
import Derived.Stop.LaidErr
import Derived.Handed
import Derived.ProofKit
import Derived.OpenShut
import Derived.ShutString
namespace Go.Proofs.YtffgkjmfeannoaaGreatDoor
open Go.ChangeShapes Go.WideShapes Go.ChangeAt Go.RowKit
open Go.ChangeMaps (open_string shut_string)

theorem own_knobU : ownKnob Tryz.prog.godebug = none := by kernel_rfl
theorem gV_pow : Tryz.prog.globalNamed "internal/strconv.uint64pow10" = some 9 := by kernel_rfl
theorem gtV_pow : (Tryz.prog.globals[9]?).map (·.type) = some 179 := by kernel_rfl
theorem ceV_pow : Tryz.prog.cellsOf 143 = 1 := by kernel_rfl
theorem ctV_pow : Tryz.prog.cellsOf 179 = 20 := by kernel_rfl
theorem gV_syn : Tryz.prog.globalNamed "strconv.ErrSyntax" = some 7 := by kernel_rfl
theorem gtV_syn : (Tryz.prog.globals[7]?).map (·.type) = some 145 := by kernel_rfl
theorem gV_rng : Tryz.prog.globalNamed "strconv.ErrRange" = some 8 := by kernel_rfl
theorem gtV_rng : (Tryz.prog.globals[8]?).map (·.type) = some 145 := by kernel_rfl
theorem starV : "*errors.errorString" = "*" ++ "errors.errorString" := by decide
theorem rowV_es (u : TypeId) (h : Tryz.prog.typeName? 3 u = some "*errors.errorString") : u = 175 :=
  typeName_ptr_named (nm := "errors.errorString") (by rw [← starV]; kernel_rfl) (by kernel_rfl) (by decide) u (by rw [← starV]; exact h)
theorem cellsV_es : Tryz.prog.cellsOf 177 = 1 := by kernel_rfl
theorem cellsV_s : Tryz.prog.cellsOf 9 = 1 := by kernel_rfl
def cellsE : DataW Unit → List Value
  | .lit (.int k z) => [.int k z]
  | .lit (.string z) => [.string ⟨z.toArray⟩]
  | _ => []
def cellsF : DataW Unit → List Value
  | .agg xs => xs.flatMap cellsE
  | d => cellsE d
def cellsG : DataW Unit → List Value
  | .agg xs => xs.flatMap cellsF
  | d => cellsF d
def cellsV : DataW Unit → Array Value
  | .agg xs => (xs.flatMap cellsG).toArray
  | _ => #[]
def layV (d : DataW Unit) : Obj → Obj
  | .cells _ t frozen => .cells (cellsV d) t frozen
  | o => o
def layE (a : Nat) : Obj → Obj
  | .cells _ t frozen => .cells #[.iface 175 (.pointer (some ⟨a, 0, none⟩))] t frozen
  | o => o
abbrev synS : ByteArray := { data := #[105, 110, 118, 97, 108, 105, 100, 32, 115, 121, 110, 116, 97, 120] }
abbrev rngS : ByteArray := { data := #[118, 97, 108, 117, 101, 32, 111, 117, 116, 32, 111, 102, 32, 114, 97, 110, 103, 101] }
noncomputable def lowV : Nat := (World.holding Tryz.prog default ⟨#[], #[], []⟩).heap.size
noncomputable def laidWorldU (os : Os) : World :=
  let w0 := World.holding Tryz.prog os ⟨#[.cells #[.string synS] 177, .cells #[.string rngS] 177], #[], []⟩
  { w0 with heap := (((((((((((w0.heap.modify 10 (layV Rows.laid_math_bits_deBruijn32tab)).modify 11 (layV Rows.laid_math_bits_deBruijn64tab)).modify 9 (layV Rows.laid_internal_strconv_uint64pow10)).modify 5 (layV Rows.laid_unicode_utf8_acceptRanges)).modify 1 (layV Rows.laid_reach_reachref3_signs)).modify 8 (layE (lowV + 1))).modify 7 (layE lowV)).modify 3 (layV Rows.laid_reach_scan_shorts)).modify 0 (layV Rows.laid_reach_scan_signs)).modify 2 (layV Rows.laid_reach_expr_opSigns)).modify 4 (layV Rows.laid_unicode_utf8_first)) }
theorem laid_metU (os : Os) (args : Array Value) : laidMet Tryz.prog Rows.exprParsesRow.laid ((laidWorldU os).forCall (fun _ _ => 0) ⟨#[], args, []⟩).memory :=
  laidMet_of_run' 8 (by kernel_rfl) (by kernel_rfl)
theorem gU : Tryz.prog.globalNamed "reach/scan.shorts" = some 3 := by kernel_rfl
theorem gtU : (Tryz.prog.globals[3]?).map (·.type) = some 134 := by kernel_rfl
theorem ciU : Tryz.prog.cellsOf 21 = 1 := by kernel_rfl
theorem ceU : Tryz.prog.cellsOf 133 = 2 := by kernel_rfl
theorem ctU : Tryz.prog.cellsOf 134 = 5 * 2 := by kernel_rfl
theorem SH_of {W : World} {rest : List (String × DataW Unit)} (h : laidMet Tryz.prog (("reach/scan.shorts", Rows.laid_reach_scan_shorts) :: rest) W) : SH W := by
  have hp : PairIs Tryz.prog W "reach/scan.shorts" .i32 shortsL := pairIs_of_head gU gtU Tryz.underlying134 Tryz.underlying133 rfl rfl rfl rfl Tryz.underlying21 ciU ceU ctU h
  unfold PairIs World.var? at hp
  rw [gU] at hp
  simp only [Option.bind_some] at hp
  split at hp
  · rename_i cs t fr hh
    have e : cs = shortsC := Option.some.inj hp
    exact ⟨_, _, by rw [hh, e]⟩
  · cases hp

theorem gG : Tryz.prog.globalNamed "reach/scan.signs" = some 0 := by kernel_rfl
theorem gtG : (Tryz.prog.globals[0]?).map (·.type) = some 95 := by kernel_rfl
theorem ceG : Tryz.prog.cellsOf 9 = 1 := by kernel_rfl
theorem ctG : Tryz.prog.cellsOf 95 = 16 := by kernel_rfl
theorem SG_of {W : World} {rest : List (String × DataW Unit)} (h : laidMet Tryz.prog (("reach/scan.signs", Rows.laid_reach_scan_signs) :: rest) W) : SG W := by
  have e : (Rows.laid_reach_scan_signs : DataW Unit) = strData signsL := by kernel_rfl
  rw [e] at h
  have hp := strs_of_head gG gtG Tryz.underlying95 Tryz.underlying9 ceG ctG h
  unfold World.var? at hp
  rw [gG] at hp
  simp only [Option.bind_some] at hp
  split at hp
  · rename_i cs t fr hh
    have e : cs = signsC := Option.some.inj hp
    exact ⟨_, _, by rw [hh, e]⟩
  · cases hp
theorem gR : Tryz.prog.globalNamed "reach/reachref3.signs" = some 1 := by kernel_rfl
theorem gtR : (Tryz.prog.globals[1]?).map (·.type) = some 102 := by kernel_rfl
theorem ceR : Tryz.prog.cellsOf 9 = 1 := by kernel_rfl
theorem ctR : Tryz.prog.cellsOf 102 = 17 := by kernel_rfl
theorem SR_of {W : World} {rest : List (String × DataW Unit)} (h : laidMet Tryz.prog (("reach/reachref3.signs", Rows.laid_reach_reachref3_signs) :: rest) W) : SR W := by
  have e : (Rows.laid_reach_reachref3_signs : DataW Unit) = strData (signsL ++ [[]]) := by kernel_rfl
  rw [e] at h
  have hp := strs_of_head gR gtR Tryz.underlying102 Tryz.underlying9 ceR ctR h
  unfold World.var? at hp
  rw [gR] at hp
  simp only [Option.bind_some] at hp
  split at hp
  · rename_i cs t fr hh
    have e : cs = signsD := Option.some.inj hp
    exact ⟨_, _, by rw [hh, e]⟩
  · cases hp
theorem gO : Tryz.prog.globalNamed "reach/expr.opSigns" = some 2 := by kernel_rfl
theorem gtO : (Tryz.prog.globals[2]?).map (·.type) = some 118 := by kernel_rfl
theorem ctO : Tryz.prog.cellsOf 118 = 7 := by kernel_rfl
theorem OS_of {W : World} {rest : List (String × DataW Unit)} (h : laidMet Tryz.prog (("reach/expr.opSigns", Rows.laid_reach_expr_opSigns) :: rest) W) : Ex.OS W := by
  have e : (Rows.laid_reach_expr_opSigns : DataW Unit) = strData Ex.opL := by kernel_rfl
  rw [e] at h
  have hp := strs_of_head gO gtO Tryz.underlying118 Tryz.underlying9 ceG ctO h
  unfold World.var? at hp
  rw [gO] at hp
  simp only [Option.bind_some] at hp
  split at hp
  · rename_i cs t fr hh
    have e : cs = Ex.opsC := Option.some.inj hp
    exact ⟨_, _, by rw [hh, e]⟩
  · cases hp
set_option maxRecDepth 100000 in
theorem exprParses_lifted (os : Os) (started : os.Started) (H : Type) (enc : TypeId × Value → H) :
    ReturnsInHanded {} Tryz.checked os 4 .any (fun w args => (Rows.exprParsesSpec.pre enc Tryz.prog Tryz.f4 Rows.exprParsesRow.domain false w args ∧ laidMet Tryz.prog Rows.exprParsesRow.laid w) ∧ sizedMet enc Tryz.prog Tryz.f4 (OpenSpec.ofChange Rows.exprParsesSpec) false w args)
      (Rows.exprParsesSpec.post enc Tryz.prog Tryz.f4 false true false false) := by
  refine returnsInHanded_of_change_and (C := Tryz.checked) (X := fun w _ => laidMet Tryz.prog Rows.exprParsesRow.laid w) (fun _ _ _ hh h => h.of_heap hh) own_knobU started (by kernel_rfl) Tryz.func4
    (ChangeSpec.witness_at (enc := enc) (C := Tryz.checked) (os := os) (X := fun w _ => laidMet Tryz.prog Rows.exprParsesRow.laid w) false (laidWorldU os) #[.string ByteArray.empty] 8 rfl (by kernel_rfl) (by kernel_rfl) (by kernel_rfl) (by kernel_rfl) (by kernel_rfl) (laid_metU os _)) ?_
  intro W base args ds gs before hval0 hW _ hsz0 hL _
  have hval : ∀ (j : Nat) t v, Tryz.f4.params[j]? = some t → args[j]? = some v → Value.okWide Tryz.prog W .any base t v := hval0
  have hsz : (DataW.weightsEach Tryz.prog (Tryz.f4.params.toList ++ Rows.exprParsesSpec.plain.varTypes Tryz.prog) (ds ++ gs)).all (· ≤ reachBytes) = true := hsz0
  clear hsz0
  have hW' := hW
  obtain ⟨p, q, hA0, hV, rfl, _, _⟩ := hW
  have hA : DataW.TrodAll enc Tryz.prog W 0 (fun _ => true) true Tryz.f4.params.toList args.toList ds p := hA0
  rw [Tryz.params4] at hA hval hsz
  obtain ⟨v0, d0, rfl, rfl, h0⟩ := trodAll_one hA
  obtain ⟨rfl, rfl⟩ := trodVars_none hV
  obtain ⟨a0, rfl, rfl, rfl, w0⟩ := open_string Tryz.underlying9 (hval 0 9 v0 rfl rfl) h0
  clear hA0 hval0
  simp only [List.append_nil] at hW'
  have hlim : a0.size ≤ 281474976710656 := by
    have h1 := sized_string hsz (j := 0) (t := 9) rfl rfl
    have h2 := reachBytes_lt
    have e1 : a0.size = a0.data.size := rfl
    have e2 : a0.data.toList.length = a0.data.size := Array.length_toList
    have e3 : (2 : Nat) ^ 47 = 140737488355328 := by decide
    omega
  have htab : Lib.TabIs Tryz.prog W "internal/strconv.uint64pow10" .u64 Lib.pow10Tab := Lib.tabIs_of_head gV_pow gtV_pow Tryz.underlying179 Tryz.underlying143 ceV_pow ctV_pow hL.tail.tail
  obtain ⟨b0, s0, hv0, -, -, -⟩ := laid_sentinel hL.tail.tail.tail.tail.tail gV_rng gtV_rng Tryz.underlying145 rowV_es Tryz.underlying175 Tryz.underlying177 rfl rfl Tryz.underlying9 cellsV_es cellsV_s
  obtain ⟨b1, s1, hv1, -, -, -⟩ := laid_sentinel hL.tail.tail.tail.tail.tail.tail gV_syn gtV_syn Tryz.underlying145 rowV_es Tryz.underlying175 Tryz.underlying177 rfl rfl Tryz.underlying9 cellsV_es cellsV_s
  refine (exprParses_walk a0 W hlim (SH_of hL.tail.tail.tail.tail.tail.tail.tail) (SG_of hL.tail.tail.tail.tail.tail.tail.tail.tail) ⟨htab, ⟨_, _, hv1⟩, ⟨_, _, hv0⟩⟩ (SR_of hL.tail.tail.tail.tail) (OS_of hL.tail.tail.tail.tail.tail.tail.tail.tail.tail)).mono fun e W' ⟨he, hnx⟩ => ?_
  subst he
  refine ⟨_, rfl, _, _, _, [], [], [], hW', ?_, ?_, rfl, hnx.frame _, fun h => by cases h⟩
  · exact trodAll_mk1 (shut_bool Tryz.underlying4 _)
  · exact trodAll_mk1 (shut_string Tryz.underlying9 w0)

theorem exprParses_row : Rows.ExprParsesSaid :=
  OpenClaim.holds_of_wide 4 Tryz.f4 rfl rfl rfl rfl rfl rfl rfl ⟨rfl, rfl, rfl, rfl, rfl⟩ rfl rfl rfl rfl rfl (by kernel_rfl) Tryz.func4 (by kernel_rfl)
    (of_decide_eq_true (by kernel_rfl)) (by unfold Func.isWrapper; first | (rw [if_pos (by decide +kernel)]; kernel_rfl) | (rw [if_neg (by decide +kernel)]; exact ⟨rfl, rfl⟩))
    (fun os started H enc _ => exprParses_lifted os started H enc)

theorem exprParses_holds : Rows.ExprParsesCardSaid :=
  Claim7.holds_tied_plain_at .later [] [.data, .data, .data, .data, .data, .sentinel, .sentinel, .data, .data, .data, .pinned] true Rows.exprParsesCard.stood.harness true
    exprParses_row (fun _ h => by cases h) (by kernel_rfl) (fun _ h => by cases h) exprParses_row_tie rfl ⟨rfl, rfl⟩ (by kernel_rfl) rfl
    (fun f fn hf hfn => by
      obtain rfl : f = 4 := Option.some.inj ((show Tryz.prog.funcNamed Rows.exprParsesRow.func = some 4 by kernel_rfl).symm.trans hf) |>.symm
      obtain rfl : fn = Tryz.f4 := (Option.some.inj (Tryz.func4.symm.trans hfn)).symm
      exact ⟨by kernel_rfl, fun j t ht => by
        rw [Tryz.params4] at ht
        have h3 : t = 9 := by
          rcases j with _ | j
          · simpa using ht.symm
          · simp at ht
        subst h3
        exact (show Tryz.prog.wantsStandIn 9 = false by kernel_rfl)⟩)
    (by kernel_rfl)
#print axioms exprParses_holds
end Go.Proofs.YtffgkjmfeannoaaGreatDoor

import Derived.Test.YtffgkjmfeannoaaGreatDoorXCA
import Derived.Test.YtffgkjmfeannoaaGreatDoorXBV
import Derived.Test.YtffgkjmfeannoaaGreatDoorRows
import Derived.Test.YtffgkjmfeannoaaGreatDoorCards
import Derived.Test.YtffgkjmfeannoaaGreatDoorTie
import Derived.SizedLaws
import Derived.ChangeSame
import Derived.ChangeVars
import Derived.ChangeMaps5
import Derived.JoinedOf
import Derived.JoinedAt
import Derived.RowKit
import Derived.RowKit3
import Derived.RowKitTokens
import Derived.LaidLaws
import Derived.Lib.LaidTab
import Derived.Stop.LaidErr
import Derived.Handed
import Derived.ProofKit
import Derived.OpenShut
import Derived.ShutString
import Derived.ChangeOld
import Derived.Below
import Derived.Carry
namespace Go.Proofs.YtffgkjmfeannoaaGreatDoor
open Go.ChangeShapes Go.WideShapes Go.ChangeAt Go.RowKit
open Go.ChangeMaps (open_string shut_string)

theorem laidU : laidOutB Tryz.prog = true := by kernel_rfl
theorem own_knobU : ownKnob Tryz.prog.godebug = none := by kernel_rfl
theorem gV_pow : Tryz.prog.globalNamed "internal/strconv.uint64pow10" = some 9 := by kernel_rfl
theorem gtV_pow : (Tryz.prog.globals[9]?).map (·.type) = some 179 := by kernel_rfl
theorem ceV_pow : Tryz.prog.cellsOf 143 = 1 := by kernel_rfl
theorem ctV_pow : Tryz.prog.cellsOf 179 = 20 := by kernel_rfl
theorem gV_syn : Tryz.prog.globalNamed "strconv.ErrSyntax" = some 7 := by kernel_rfl
theorem gtV_syn : (Tryz.prog.globals[7]?).map (·.type) = some 145 := by kernel_rfl
theorem gV_rng : Tryz.prog.globalNamed "strconv.ErrRange" = some 8 := by kernel_rfl
theorem gtV_rng : (Tryz.prog.globals[8]?).map (·.type) = some 145 := by kernel_rfl
theorem starV : "*errors.errorString" = "*" ++ "errors.errorString" := by decide
theorem rowV_es (u : TypeId) (h : Tryz.prog.typeName? 3 u = some "*errors.errorString") : u = 175 :=
  typeName_ptr_named (nm := "errors.errorString") (by rw [← starV]; kernel_rfl) (by kernel_rfl) (by decide) u (by rw [← starV]; exact h)
theorem cellsV_es : Tryz.prog.cellsOf 177 = 1 := by kernel_rfl
theorem cellsV_s : Tryz.prog.cellsOf 9 = 1 := by kernel_rfl
def cellsE : DataW Unit → List Value
  | .lit (.int k z) => [.int k z]
  | .lit (.string z) => [.string ⟨z.toArray⟩]
  | _ => []
def cellsF : DataW Unit → List Value
  | .agg xs => xs.flatMap cellsE
  | d => cellsE d
def cellsG : DataW Unit → List Value
  | .agg xs => xs.flatMap cellsF
  | d => cellsF d
def cellsV : DataW Unit → Array Value
  | .agg xs => (xs.flatMap cellsG).toArray
  | _ => #[]
def layV (d : DataW Unit) : Obj → Obj
  | .cells _ t frozen => .cells (cellsV d) t frozen
  | o => o
def layE (a : Nat) : Obj → Obj
  | .cells _ t frozen => .cells #[.iface 175 (.pointer (some ⟨a, 0, none⟩))] t frozen
  | o => o
abbrev synS : ByteArray := { data := #[105, 110, 118, 97, 108, 105, 100, 32, 115, 121, 110, 116, 97, 120] }
abbrev rngS : ByteArray := { data := #[118, 97, 108, 117, 101, 32, 111, 117, 116, 32, 111, 102, 32, 114, 97, 110, 103, 101] }
noncomputable def lowV : Nat := (World.holding Tryz.prog default ⟨#[], #[], []⟩).heap.size
/-- the settled world with the tables and the two errors as their initialisers lay them -/
noncomputable def laidWorldU (os : Os) : World :=
  let w0 := World.holding Tryz.prog os ⟨#[.cells #[.string synS] 177, .cells #[.string rngS] 177], #[], []⟩
  { w0 with heap := ((((((((((w0.heap.modify 10 (layV Rows.laid_math_bits_deBruijn32tab)).modify 11 (layV Rows.laid_math_bits_deBruijn64tab)).modify 9 (layV Rows.laid_internal_strconv_uint64pow10)).modify 5 (layV Rows.laid_unicode_utf8_acceptRanges)).modify 8 (layE (lowV + 1))).modify 7 (layE lowV)).modify 3 (layV Rows.laid_reach_scan_shorts)).modify 0 (layV Rows.laid_reach_scan_signs)).modify 2 (layV Rows.laid_reach_expr_opSigns)).modify 4 (layV Rows.laid_unicode_utf8_first)) }
theorem laid_metU (os : Os) (args : Array Value) : laidMet Tryz.prog Rows.exprReadsRow.laid ((laidWorldU os).forCall (fun _ _ => 0) ⟨#[], args, []⟩).memory :=
  laidMet_of_run' 8 (by kernel_rfl) (by kernel_rfl)
theorem gU : Tryz.prog.globalNamed "reach/scan.shorts" = some 3 := by kernel_rfl
theorem gtU : (Tryz.prog.globals[3]?).map (·.type) = some 134 := by kernel_rfl
theorem ciU : Tryz.prog.cellsOf 21 = 1 := by kernel_rfl
theorem ceU : Tryz.prog.cellsOf 133 = 2 := by kernel_rfl
theorem ctU : Tryz.prog.cellsOf 134 = 5 * 2 := by kernel_rfl
theorem SH_of {W : World} {rest : List (String × DataW Unit)} (h : laidMet Tryz.prog (("reach/scan.shorts", Rows.laid_reach_scan_shorts) :: rest) W) : SH W := by
  have hp : PairIs Tryz.prog W "reach/scan.shorts" .i32 shortsL := pairIs_of_head gU gtU Tryz.underlying134 Tryz.underlying133 rfl rfl rfl rfl Tryz.underlying21 ciU ceU ctU h
  unfold PairIs World.var? at hp
  rw [gU] at hp
  simp only [Option.bind_some] at hp
  split at hp
  · rename_i cs t fr hh
    have e : cs = shortsC := Option.some.inj hp
    exact ⟨_, _, by rw [hh, e]⟩
  · cases hp

theorem gG : Tryz.prog.globalNamed "reach/scan.signs" = some 0 := by kernel_rfl
theorem gtG : (Tryz.prog.globals[0]?).map (·.type) = some 95 := by kernel_rfl
theorem ceG : Tryz.prog.cellsOf 9 = 1 := by kernel_rfl
theorem ctG : Tryz.prog.cellsOf 95 = 16 := by kernel_rfl
theorem SG_of {W : World} {rest : List (String × DataW Unit)} (h : laidMet Tryz.prog (("reach/scan.signs", Rows.laid_reach_scan_signs) :: rest) W) : SG W := by
  have e : (Rows.laid_reach_scan_signs : DataW Unit) = strData signsL := by kernel_rfl
  rw [e] at h
  have hp := strs_of_head gG gtG Tryz.underlying95 Tryz.underlying9 ceG ctG h
  unfold World.var? at hp
  rw [gG] at hp
  simp only [Option.bind_some] at hp
  split at hp
  · rename_i cs t fr hh
    have e : cs = signsC := Option.some.inj hp
    exact ⟨_, _, by rw [hh, e]⟩
  · cases hp
theorem gO : Tryz.prog.globalNamed "reach/expr.opSigns" = some 2 := by kernel_rfl
theorem gtO : (Tryz.prog.globals[2]?).map (·.type) = some 118 := by kernel_rfl
theorem ctO : Tryz.prog.cellsOf 118 = 7 := by kernel_rfl
theorem OS_of {W : World} {rest : List (String × DataW Unit)} (h : laidMet Tryz.prog (("reach/expr.opSigns", Rows.laid_reach_expr_opSigns) :: rest) W) : Ex.OS W := by
  have e : (Rows.laid_reach_expr_opSigns : DataW Unit) = strData Ex.opL := by kernel_rfl
  rw [e] at h
  have hp := strs_of_head gO gtO Tryz.underlying118 Tryz.underlying9 ceG ctO h
  unfold World.var? at hp
  rw [gO] at hp
  simp only [Option.bind_some] at hp
  split at hp
  · rename_i cs t fr hh
    have e : cs = Ex.opsC := Option.some.inj hp
    exact ⟨_, _, by rw [hh, e]⟩
  · cases hp
set_option maxRecDepth 100000 in
theorem exprReads_lifted (os : Os) (started : os.Started) (H : Type) (enc : TypeId × Value → H) :
    ReturnsInHanded {} Tryz.checked os 3 .any (fun w args => (Rows.exprReadsSpec.pre enc Tryz.prog Tryz.f3 Rows.exprReadsRow.domain false w args ∧ laidMet Tryz.prog Rows.exprReadsRow.laid w) ∧ sizedMet enc Tryz.prog Tryz.f3 (OpenSpec.ofChange Rows.exprReadsSpec) false w args)
      (Rows.exprReadsSpec.post enc Tryz.prog Tryz.f3 false true false false) := by
  refine returnsInHanded_of_change_and (C := Tryz.checked) (X := fun w _ => laidMet Tryz.prog Rows.exprReadsRow.laid w) (fun _ _ _ hh h => h.of_heap hh) own_knobU started (by kernel_rfl) Tryz.func3
    (ChangeSpec.witness_at (enc := enc) (C := Tryz.checked) (os := os) (X := fun w _ => laidMet Tryz.prog Rows.exprReadsRow.laid w) false (laidWorldU os) #[.slice none 0 0, .int .i64 0] 8 rfl (by kernel_rfl) (by kernel_rfl) (by kernel_rfl) (by kernel_rfl) (by kernel_rfl) (laid_metU os _)) ?_
  intro W base args ds gs before hval0 hW _ hsz0 hL _
  have hval : ∀ (j : Nat) t v, Tryz.f3.params[j]? = some t → args[j]? = some v → Value.okWide Tryz.prog W .any base t v := hval0
  have hsz : (DataW.weightsEach Tryz.prog (Tryz.f3.params.toList ++ Rows.exprReadsSpec.plain.varTypes Tryz.prog) (ds ++ gs)).all (· ≤ reachBytes) = true := hsz0
  clear hsz0
  have hW' := hW
  obtain ⟨p, q, hA0, hV, rfl, _, _⟩ := hW
  have hA : DataW.TrodAll enc Tryz.prog W 0 (fun _ => true) true Tryz.f3.params.toList args.toList ds p := hA0
  rw [Tryz.params3] at hA hval hsz
  obtain ⟨v0, vs0, d0, ds0, p0, q0, hargs, rfl, rfl, h0, r0⟩ := trodAll_cons hA
  obtain ⟨v1, vs1, d1, ds1, p1, q1, rfl, rfl, rfl, h1, r1⟩ := trodAll_cons r0
  obtain ⟨rfl, rfl, rfl⟩ := trodAll_nil r1
  obtain rfl : args = #[v0, v1] := by cases args; simp_all
  obtain ⟨rfl, rfl⟩ := trodVars_none hV
  obtain ⟨ad, len, cap, rfl⟩ := okWide_slice Tryz.underlying22 (hval 0 22 v0 rfl rfl)
  obtain ⟨a1, rfl, rfl, rfl, w1⟩ := open_int Tryz.underlying3 (hval 1 3 v1 rfl rfl) h1
  have k1 := h0
  have lt1 : ∀ x ∈ p0, x.block < W.heap.size := by obtain ⟨m, hm⟩ := k1; exact DataW.trod_lt m _ _ _ hm
  clear hA0 hval0
  simp only [List.append_nil] at hW'
  obtain ⟨L, hLn, hlenb, hstr, hcell⟩ : ∃ L : List Ex.XTok, L.length = len ∧ len ≤ 281474976710656 ∧ Ex.shT L ∧ Ex.XR W ad L := by
    obtain ⟨fuel, hf⟩ := h0
    rcases Ex.open_toks hf with ⟨hcs, hx⟩ | ⟨a, l, c, L, spare, hcs, hl, hx, hc⟩
    · simp [Value.cells] at hcs
      obtain ⟨rfl, rfl, rfl⟩ := hcs
      exact ⟨[], rfl, by omega, fun t ht => by simp at ht, fun k t ht => by simp at ht⟩
    · simp [Value.cells] at hcs
      obtain ⟨rfl, rfl, rfl⟩ := hcs
      simp only at hx
      subst hx
      obtain ⟨s1, s2⟩ := Ex.sized_toks hsz rfl rfl
      have h2 := reachBytes_lt
      have e3 : (2 : Nat) ^ 47 = 140737488355328 := by decide
      refine ⟨L, hl, by omega, fun t ht => by have := s2 t ht; omega, fun k t ht => ?_⟩
      obtain ⟨g, o0, rfl, c0, c1, c2, c3⟩ := hc k t ht
      exact ⟨g, o0, rfl, c0, c1, c2, c3⟩
  have htab : Lib.TabIs Tryz.prog W "internal/strconv.uint64pow10" .u64 Lib.pow10Tab := Lib.tabIs_of_head gV_pow gtV_pow Tryz.underlying179 Tryz.underlying143 ceV_pow ctV_pow hL.tail.tail
  obtain ⟨b0, s0, hv0, -, -, -⟩ := laid_sentinel hL.tail.tail.tail.tail gV_rng gtV_rng Tryz.underlying145 rowV_es Tryz.underlying175 Tryz.underlying177 rfl rfl Tryz.underlying9 cellsV_es cellsV_s
  obtain ⟨b1, s1, hv1, -, -, -⟩ := laid_sentinel hL.tail.tail.tail.tail.tail gV_syn gtV_syn Tryz.underlying145 rowV_es Tryz.underlying175 Tryz.underlying177 rfl rfl Tryz.underlying9 cellsV_es cellsV_s
  refine (exprReads_walk L len ad cap a1 W hLn hlenb hstr hcell (SH_of hL.tail.tail.tail.tail.tail.tail) (SG_of hL.tail.tail.tail.tail.tail.tail.tail) ⟨htab, ⟨_, _, hv1⟩, ⟨_, _, hv0⟩⟩ (OS_of hL.tail.tail.tail.tail.tail.tail.tail.tail)).mono fun e W' ⟨he, hnx⟩ => ?_
  subst he
  exact ⟨_, rfl, _, _, _, [], _, [], hW', trodAll_mk1 (shut_bool Tryz.underlying4 _), trodAll_cons_mk (Below.trod laidU (by kernel_rfl) (of_decide_eq_true (by kernel_rfl)) k1 hnx lt1) (trodAll_cons_mk (shut_int Tryz.underlying3 w1) trodAll_mk0), rfl, hnx.frame _, fun h => by cases h⟩

theorem exprReads_row : Rows.ExprReadsSaid :=
  OpenClaim.holds_of_wide 3 Tryz.f3 rfl rfl rfl rfl rfl rfl rfl ⟨rfl, rfl, rfl, rfl, rfl⟩ rfl rfl rfl rfl rfl (by kernel_rfl) Tryz.func3 (by kernel_rfl)
    (of_decide_eq_true (by kernel_rfl)) (by unfold Func.isWrapper; first | (rw [if_pos (by decide +kernel)]; kernel_rfl) | (rw [if_neg (by decide +kernel)]; exact ⟨rfl, rfl⟩))
    (fun os started H enc _ => exprReads_lifted os started H enc)

theorem exprReads_holds : Rows.ExprReadsCardSaid :=
  Claim7.holds_tied_plain_at .later [] [.data, .data, .data, .data, .sentinel, .sentinel, .data, .data, .data, .pinned] true Rows.exprReadsCard.stood.harness true
    exprReads_row (fun _ h => by cases h) (by kernel_rfl) (fun _ h => by cases h) exprReads_row_tie rfl ⟨rfl, rfl⟩ (by kernel_rfl) rfl
    (fun f fn hf hfn => by
      obtain rfl : f = 3 := Option.some.inj ((show Tryz.prog.funcNamed Rows.exprReadsRow.func = some 3 by kernel_rfl).symm.trans hf) |>.symm
      obtain rfl : fn = Tryz.f3 := (Option.some.inj (Tryz.func3.symm.trans hfn)).symm
      exact ⟨by kernel_rfl, fun j t ht => by
        rw [Tryz.params3] at ht
        have h3 : t = 22 ∨ t = 3 := by
          rcases j with _ | _ | j
          · exact .inl (by simpa using ht.symm)
          · exact .inr (by simpa using ht.symm)
          · simp at ht
        rcases h3 with rfl | rfl
        · exact (show Tryz.prog.wantsStandIn 22 = false by kernel_rfl)
        · exact (show Tryz.prog.wantsStandIn 3 = false by kernel_rfl)⟩)
    (by kernel_rfl)
#print axioms exprReads_holds
end Go.Proofs.YtffgkjmfeannoaaGreatDoor

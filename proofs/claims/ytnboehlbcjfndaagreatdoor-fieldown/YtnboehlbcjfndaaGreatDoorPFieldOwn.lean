import Derived.Test.YtnboehlbcjfndaaGreatDoorZZF
import Derived.Test.YtnboehlbcjfndaaGreatDoorYBT
import Derived.Test.YtnboehlbcjfndaaGreatDoorRows
import Derived.Test.YtnboehlbcjfndaaGreatDoorCards
import Derived.Test.YtnboehlbcjfndaaGreatDoorTie
import Derived.SizedLaws
import Derived.ChangeSame
import Derived.ChangeVars
import Derived.ChangeMaps5
import Derived.JoinedOf
import Derived.JoinedAt
import Derived.RowKit
import Derived.RowKit3
import Derived.RowKitTokens
import Derived.LaidLaws
import Derived.Lib.LaidTab
import Derived.Stop.LaidErr
import Derived.Handed
import Derived.ProofKit
import Derived.OpenShut
import Derived.ShutString
import Derived.ChangeOld
import Derived.Below
import Derived.Carry
import Derived.Test.YtnboehlbcjfndaaGreatDoorChecked
import Derived.WalkKit
import Derived.Lib.SmallJoins
import Derived.Deep.Slices
namespace Go.Proofs.YtnboehlbcjfndaaGreatDoor
open Go.RowKit
abbrev IStp := Int × Int × Int × Int × List UInt8
def scelZ (f : IStp) : List Value := [.int .i64 f.1, .int .i64 f.2.1, .int .i64 f.2.2.1, .int .i64 f.2.2.2.1, .string ⟨f.2.2.2.2.toArray⟩]
def stpData {H : Type} (f : IStp) : DataW H := .agg [.lit (.int .i64 f.1), .lit (.int .i64 f.2.1), .lit (.int .i64 f.2.2.1), .lit (.int .i64 f.2.2.2.1), .lit (.string f.2.2.2.2)]
theorem cS0Z : Tryz.prog.cellsOf 3 = 1 := by kernel_rfl
theorem cS1Z : Tryz.prog.cellsOf 9 = 1 := by kernel_rfl
theorem cS5Z : Tryz.prog.cellsOf 45 = 5 := by kernel_rfl
section
variable {H : Type} {enc : TypeId × Value → H} {w : World} {base : Nat} {sp : Nat → Bool} {held : Bool}
theorem stp_open {fuel : Nat} {cs : List Value} {x : DataW H × List MemPlace} (h : DataW.trod enc Tryz.prog w base sp held fuel 45 cs = some x) : ∃ t : IStp, cs = scelZ t ∧ x.1 = stpData t := by
  obtain ⟨xs, n, _, rfl, hl, hlen, hf⟩ := DataW.trod_struct Tryz.underlying45 h
  rw [cS5Z] at hl
  match xs, hlen with
  | [y0, y1, y2, y3, y4], _ =>
    have g0 := hf 0 _ rfl
    have g1 := hf 1 _ rfl
    have g2 := hf 2 _ rfl
    have g3 := hf 3 _ rfl
    have g4 := hf 4 _ rfl
    obtain ⟨z0, a0, b0, _⟩ := DataW.trod_int Tryz.underlying3 g0
    obtain ⟨z1, a1, b1, _⟩ := DataW.trod_int Tryz.underlying3 g1
    obtain ⟨z2, a2, b2, _⟩ := DataW.trod_int Tryz.underlying3 g2
    obtain ⟨z3, a3, b3, _⟩ := DataW.trod_int Tryz.underlying3 g3
    obtain ⟨z4, a4, b4, _⟩ := DataW.trod_string Tryz.underlying9 g4
    replace a0 : (cs.drop 0).take (Tryz.prog.cellsOf 3) = [.int .i64 z0] := a0
    replace a1 : (cs.drop 1).take (Tryz.prog.cellsOf 3) = [.int .i64 z1] := a1
    replace a2 : (cs.drop 2).take (Tryz.prog.cellsOf 3) = [.int .i64 z2] := a2
    replace a3 : (cs.drop 3).take (Tryz.prog.cellsOf 3) = [.int .i64 z3] := a3
    replace a4 : (cs.drop 4).take (Tryz.prog.cellsOf 9) = [.string z4] := a4
    rw [cS1Z] at a4
    rw [cS0Z] at a0 a1 a2 a3
    clear g0 g1 g2 g3 g4 h hf
    refine ⟨(z0, z1, z2, z3, z4.data.toList), ?_, ?_⟩
    · match cs, hl with
      | [c0, c1, c2, c3, c4], _ =>
        have e0 : c0 = .int .i64 z0 := by simpa using a0
        have e1 : c1 = .int .i64 z1 := by simpa using a1
        have e2 : c2 = .int .i64 z2 := by simpa using a2
        have e3 : c3 = .int .i64 z3 := by simpa using a3
        have e4 : c4 = .string z4 := by simpa using a4
        unfold scelZ
        rw [e0, e1, e2, e3, e4]
    · have d0 := congrArg Prod.fst b0
      have d1 := congrArg Prod.fst b1
      have d2 := congrArg Prod.fst b2
      have d3 := congrArg Prod.fst b3
      have d4 := congrArg Prod.fst b4
      simp only at d0 d1 d2 d3 d4
      simp only [List.map_cons, List.map_nil, d0, d1, d2, d3, d4]
      rfl
theorem add_spotZ {a : Addr} (h : a.spot = none) (m : Nat) : a.add m = ⟨a.block, a.off + m, none⟩ := by
  unfold Addr.add
  split
  · rename_i h0
    subst h0
    obtain ⟨b, o, s⟩ := a
    simp only at h
    subst h
    rfl
  · rfl
theorem cell_spotZ {a : Addr} {v : Value} (h : w.cell? a = some v) : a.spot = none := by
  unfold World.cell? at h
  split at h
  · split at h
    · cases h
    · rename_i hs
      cases hh : a.spot with
      | none => rfl
      | some s => rw [hh] at hs; simp at hs
  · cases h
theorem open_stps {fuel : Nat} {cs : List Value} {x : DataW H × List MemPlace} (hf : DataW.trod enc Tryz.prog w 0 sp held fuel 42 cs = some x) :
    (cs = [.slice none 0 0] ∧ x = (.nil, [])) ∨ ∃ (a : Addr) (len cap : Nat) (L : List IStp) (spare : List (DataW H)), cs = [.slice (some a) len cap] ∧ L.length = len ∧ x.1 = .slice (L.map stpData) spare ∧
      ∀ (k : Nat) (t : IStp), L[k]? = some t → ∃ g o0, a = ⟨g, o0, none⟩ ∧ w.cell? ⟨g, o0 + k * 5, none⟩ = some (.int .i64 t.1) ∧ w.cell? ⟨g, o0 + k * 5 + 1, none⟩ = some (.int .i64 t.2.1) ∧ w.cell? ⟨g, o0 + k * 5 + 2, none⟩ = some (.int .i64 t.2.2.1) ∧ w.cell? ⟨g, o0 + k * 5 + 3, none⟩ = some (.int .i64 t.2.2.2.1) ∧ w.cell? ⟨g, o0 + k * 5 + 4, none⟩ = some (.string ⟨t.2.2.2.2.toArray⟩) := by
  rcases Deep.open_slice Tryz.underlying42 hf with h | ⟨a, len, cap, m, n, D, Pl, hcs, _, hlc, hcm, hm, hx, hD⟩
  · exact .inl h
  · right
    rw [cS5Z] at hD
    have hlm : len ≤ m := by rw [hm]; split <;> omega
    have hex : ∀ i, ∃ t : IStp, i < m → w.cells? 0 (a.add (i * 5)) 5 = some (scelZ t) ∧ D i = stpData t := fun i => by
      by_cases hi : i < m
      · obtain ⟨cs', h1, h2⟩ := hD i hi
        obtain ⟨t, e1, e2⟩ := stp_open h2
        exact ⟨t, fun _ => ⟨by rw [h1, e1], e2⟩⟩
      · exact ⟨(0, 0, 0, 0, []), fun h => absurd h hi⟩
    obtain ⟨F, hF⟩ := Classical.axiomOfChoice hex
    refine ⟨a, len, cap, (List.range len).map F, (List.range (m - len)).map fun j => D (len + j), hcs, by simp, ?_, fun k t ht => ?_⟩
    · rw [hx]
      simp only [List.map_map]
      congr 1
      refine List.map_congr_left (fun i hi => ?_)
      exact (hF i (by have := List.mem_range.1 hi; omega)).2
    · rw [List.getElem?_map] at ht
      by_cases hk : k < len
      · rw [List.getElem?_range hk] at ht
        obtain rfl := Option.some.inj ht
        have cell : ∀ i j v, i < m → (scelZ (F i))[j]? = some v → j < 5 → w.cell? ((a.add (i * 5)).add j) = some v := fun i j v hi hv hj => by
          have h1 := (hF i hi).1
          unfold World.cells? at h1
          rw [if_pos (Nat.zero_le _)] at h1
          obtain ⟨b, hb, hc⟩ := Lib.mapM_at h1 j j (by simp [hj])
          rw [hv] at hb
          rw [Option.some.inj hb]
          exact hc
        have h00 := cell 0 0 _ (by omega) rfl (by decide)
        have hs : a.spot = none := by
          have e : (a.add (0 * 5)).add 0 = a := rfl
          rw [e] at h00
          exact cell_spotZ h00
        obtain ⟨g, o0, s⟩ := a
        simp only at hs
        subst hs
        have ea : ∀ j, ((⟨g, o0, none⟩ : Addr).add (k * 5)).add j = ⟨g, o0 + k * 5 + j, none⟩ := fun j => by
          rw [add_spotZ rfl (k * 5), add_spotZ rfl j]
        have c0 := cell k 0 _ (by omega) rfl (by decide)
        have c1 := cell k 1 _ (by omega) rfl (by decide)
        have c2 := cell k 2 _ (by omega) rfl (by decide)
        have c3 := cell k 3 _ (by omega) rfl (by decide)
        have c4 := cell k 4 _ (by omega) rfl (by decide)
        rw [ea] at c0 c1 c2 c3 c4
        exact ⟨g, o0, rfl, c0, c1, c2, c3, c4⟩
      · rw [List.getElem?_eq_none (by simp; omega)] at ht
        cases ht
theorem w_stp (t : IStp) : t.2.2.2.2.length ∈ DataW.weights Tryz.prog 45 (stpData t : DataW H) := by
  unfold stpData
  simp [DataW.weights, Tryz.underlying45, DataW.weightsEach]
theorem w_stps {t : IStp} : ∀ {L : List IStp}, t ∈ L → t.2.2.2.2.length ∈ DataW.weightsAll Tryz.prog 45 (L.map (stpData : IStp → DataW H))
  | u :: L, h => by
    rw [List.map_cons, DataW.weightsAll]
    rcases List.mem_cons.1 h with rfl | h
    · exact List.mem_append_left _ (w_stp t)
    · exact List.mem_append_right _ (w_stps h)
theorem sized_stps {ts : List TypeId} {ds : List (DataW H)} (h : (DataW.weightsEach Tryz.prog ts ds).all (· ≤ reachBytes) = true) {L : List IStp} {spare : List (DataW H)} {j : Nat} (ht : ts[j]? = some 42) (hd : ds[j]? = some (.slice (L.map stpData) spare)) : L.length * 48 ≤ reachBytes ∧ ∀ t ∈ L, t.2.2.2.2.length ≤ reachBytes := by
  have hb : Tryz.prog.bytesOf 45 = 48 := by kernel_rfl
  have h1 := sized_slice h ht hd Tryz.underlying42
  rw [hb, List.length_map] at h1
  refine ⟨by omega, fun t hm => ?_⟩
  have := List.all_eq_true.1 h _ (DataW.weights_mem_each ht hd t.2.2.2.2.length (by
    simp only [DataW.weights, Tryz.underlying42]
    exact List.mem_cons_of_mem _ (List.mem_append_left _ (w_stps hm))))
  simpa using this
end
end Go.Proofs.YtnboehlbcjfndaaGreatDoor
namespace Go.Proofs.YtnboehlbcjfndaaGreatDoor
open Go.ChangeShapes Go.WideShapes Go.ChangeAt Go.RowKit
open Go.ChangeMaps (open_string shut_string)

theorem laidU : laidOutB Tryz.prog = true := by kernel_rfl
theorem own_knobU : ownKnob Tryz.prog.godebug = none := by kernel_rfl
theorem gV_pow : Tryz.prog.globalNamed "internal/strconv.uint64pow10" = some 5 := by kernel_rfl
theorem gtV_pow : (Tryz.prog.globals[5]?).map (·.type) = some 211 := by kernel_rfl
theorem ceV_pow : Tryz.prog.cellsOf 102 = 1 := by kernel_rfl
theorem ctV_pow : Tryz.prog.cellsOf 211 = 20 := by kernel_rfl
theorem gV_syn : Tryz.prog.globalNamed "strconv.ErrSyntax" = some 9 := by kernel_rfl
theorem gtV_syn : (Tryz.prog.globals[9]?).map (·.type) = some 141 := by kernel_rfl
theorem gV_rng : Tryz.prog.globalNamed "strconv.ErrRange" = some 10 := by kernel_rfl
theorem gtV_rng : (Tryz.prog.globals[10]?).map (·.type) = some 141 := by kernel_rfl
theorem starV : "*errors.errorString" = "*" ++ "errors.errorString" := by decide
theorem rowV_es (u : TypeId) (h : Tryz.prog.typeName? 3 u = some "*errors.errorString") : u = 247 :=
  typeName_ptr_named (nm := "errors.errorString") (by rw [← starV]; kernel_rfl) (by kernel_rfl) (by decide) u (by rw [← starV]; exact h)
theorem cellsV_es : Tryz.prog.cellsOf 249 = 1 := by kernel_rfl
theorem cellsV_s : Tryz.prog.cellsOf 9 = 1 := by kernel_rfl
def cellsE : DataW Unit → List Value
  | .lit (.int k z) => [.int k z]
  | .lit (.string z) => [.string ⟨z.toArray⟩]
  | .lit (.bool z) => [.bool z]
  | _ => []
def cellsF : DataW Unit → List Value
  | .agg xs => xs.flatMap cellsE
  | d => cellsE d
def cellsG : DataW Unit → List Value
  | .agg xs => xs.flatMap cellsF
  | d => cellsF d
def cellsV : DataW Unit → Array Value
  | .agg xs => (xs.flatMap cellsG).toArray
  | _ => #[]
def layV (d : DataW Unit) : Obj → Obj
  | .cells _ t frozen => .cells (cellsV d) t frozen
  | o => o
def layE (a : Nat) : Obj → Obj
  | .cells _ t frozen => .cells #[.iface 247 (.pointer (some ⟨a, 0, none⟩))] t frozen
  | o => o
abbrev synS : ByteArray := { data := #[105, 110, 118, 97, 108, 105, 100, 32, 115, 121, 110, 116, 97, 120] }
abbrev rngS : ByteArray := { data := #[118, 97, 108, 117, 101, 32, 111, 117, 116, 32, 111, 102, 32, 114, 97, 110, 103, 101] }
noncomputable def lowV : Nat := (World.holding Tryz.prog default ⟨#[], #[], []⟩).heap.size
/-- the settled world with the tables and the two errors as their initialisers lay them -/
noncomputable def laidWorldU (os : Os) : World :=
  let w0 := World.holding Tryz.prog os ⟨#[.cells #[.string synS] 249, .cells #[.string rngS] 249], #[], []⟩
  { w0 with heap := ((((((((((w0.heap.modify 1 (layV Rows.laid_math_bits_deBruijn32tab)).modify 2 (layV Rows.laid_math_bits_deBruijn64tab)).modify 5 (layV Rows.laid_internal_strconv_uint64pow10)).modify 7 (layV Rows.laid_unicode_utf8_acceptRanges)).modify 10 (layE (lowV + 1))).modify 9 (layE lowV)).modify 8 (layV Rows.laid_reach_scan_shorts)).modify 4 (layV Rows.laid_reach_scan_signs)).modify 0 (layV Rows.laid_reach_field_uses)).modify 6 (layV Rows.laid_unicode_utf8_first)) }
theorem laid_metU (os : Os) (args : Array Value) : laidMet Tryz.prog Rows.fieldOwnRow.laid ((laidWorldU os).forCall (fun _ _ => 0) ⟨#[], args, []⟩).memory :=
  laidMet_of_run' 8 (by kernel_rfl) (by kernel_rfl)
theorem gU : Tryz.prog.globalNamed "reach/scan.shorts" = some 8 := by kernel_rfl
theorem gtU : (Tryz.prog.globals[8]?).map (·.type) = some 228 := by kernel_rfl
theorem ciU : Tryz.prog.cellsOf 21 = 1 := by kernel_rfl
theorem ceU : Tryz.prog.cellsOf 227 = 2 := by kernel_rfl
theorem ctU : Tryz.prog.cellsOf 228 = 5 * 2 := by kernel_rfl
theorem SH_of {W : World} {rest : List (String × DataW Unit)} (h : laidMet Tryz.prog (("reach/scan.shorts", Rows.laid_reach_scan_shorts) :: rest) W) : SH W := by
  have hp : PairIs Tryz.prog W "reach/scan.shorts" .i32 shortsL := pairIs_of_head gU gtU Tryz.underlying228 Tryz.underlying227 rfl rfl rfl rfl Tryz.underlying21 ciU ceU ctU h
  unfold PairIs World.var? at hp
  rw [gU] at hp
  simp only [Option.bind_some] at hp
  split at hp
  · rename_i cs t fr hh
    have e : cs = shortsC := Option.some.inj hp
    exact ⟨_, _, by rw [hh, e]⟩
  · cases hp

theorem gD : Tryz.prog.globalNamed "math/bits.deBruijn64tab" = some 2 := by kernel_rfl
theorem gtD : (Tryz.prog.globals[2]?).map (·.type) = some 187 := by kernel_rfl
theorem ceD : Tryz.prog.cellsOf 5 = 1 := by kernel_rfl
theorem ctD : Tryz.prog.cellsOf 187 = 64 := by kernel_rfl
def tabD : List Int := Lib.deBruijn64tab.map (fun n : Nat => (n : Int))
theorem DB_of {W : World} {rest : List (String × DataW Unit)} (h : laidMet Tryz.prog (("math/bits.deBruijn64tab", Rows.laid_math_bits_deBruijn64tab) :: rest) W) : DB W := by
  have e : (Rows.laid_math_bits_deBruijn64tab : DataW Unit) = Lib.tabData .u8 tabD := by kernel_rfl
  rw [e] at h
  have ht : Lib.TabIs Tryz.prog W "math/bits.deBruijn64tab" .u8 tabD := Lib.tabIs_of_head gD gtD Tryz.underlying187 Tryz.underlying5 ceD ctD h
  intro j hj
  have hc := ht.cell gD j (by unfold tabD; rw [List.length_map]; exact hj)
  rw [hc]
  refine congrArg (fun z => some (Value.int .u8 z)) ?_
  unfold tabD
  simp [List.getD, List.getElem?_map, List.getElem?_eq_getElem hj]
theorem gG : Tryz.prog.globalNamed "reach/scan.signs" = some 4 := by kernel_rfl
theorem gtG : (Tryz.prog.globals[4]?).map (·.type) = some 205 := by kernel_rfl
theorem ceG : Tryz.prog.cellsOf 9 = 1 := by kernel_rfl
theorem ctG : Tryz.prog.cellsOf 205 = 16 := by kernel_rfl
theorem SG_of {W : World} {rest : List (String × DataW Unit)} (h : laidMet Tryz.prog (("reach/scan.signs", Rows.laid_reach_scan_signs) :: rest) W) : SG W := by
  have e : (Rows.laid_reach_scan_signs : DataW Unit) = strData signsL := by kernel_rfl
  rw [e] at h
  have hp := strs_of_head gG gtG Tryz.underlying205 Tryz.underlying9 ceG ctG h
  unfold World.var? at hp
  rw [gG] at hp
  simp only [Option.bind_some] at hp
  split at hp
  · rename_i cs t fr hh
    have e : cs = signsC := Option.some.inj hp
    exact ⟨_, _, by rw [hh, e]⟩
  · cases hp
theorem gF : Tryz.prog.globalNamed "reach/field.uses" = some 0 := by kernel_rfl
theorem gtF : (Tryz.prog.globals[0]?).map (·.type) = some 127 := by kernel_rfl
theorem ciF : Tryz.prog.cellsOf 4 = 1 := by kernel_rfl
theorem ceF : Tryz.prog.cellsOf 126 = 4 := by kernel_rfl
theorem ctF : Tryz.prog.cellsOf 127 = 5 * 4 := by kernel_rfl
theorem US_of {W : World} {rest : List (String × DataW Unit)} (h : laidMet Tryz.prog (("reach/field.uses", Rows.laid_reach_field_uses) :: rest) W) : US W := by
  have e : (Rows.laid_reach_field_uses : DataW Unit) = fourData usesL := by kernel_rfl
  rw [e] at h
  have hp := fours_of_head gF gtF Tryz.underlying127 Tryz.underlying126 rfl rfl rfl rfl rfl rfl rfl rfl Tryz.underlying4 ciF ceF ctF h
  unfold World.var? at hp
  rw [gF] at hp
  simp only [Option.bind_some] at hp
  split at hp
  · rename_i cs t fr hh
    have e : cs = usesC := Option.some.inj hp
    exact ⟨_, _, by rw [hh, e]⟩
  · cases hp
set_option maxRecDepth 100000 in
theorem fieldOwn_lifted (os : Os) (started : os.Started) (H : Type) (enc : TypeId × Value → H) :
    ReturnsInHanded {} Tryz.checked os 4 .any (fun w args => (Rows.fieldOwnSpec.pre enc Tryz.prog Tryz.f4 Rows.fieldOwnRow.domain false w args ∧ laidMet Tryz.prog Rows.fieldOwnRow.laid w) ∧ sizedMet enc Tryz.prog Tryz.f4 (OpenSpec.ofChange Rows.fieldOwnSpec) false w args)
      (Rows.fieldOwnSpec.post enc Tryz.prog Tryz.f4 false true false false) := by
  refine returnsInHanded_of_change_and (C := Tryz.checked) (X := fun w _ => laidMet Tryz.prog Rows.fieldOwnRow.laid w) (fun _ _ _ hh h => h.of_heap hh) own_knobU started (by kernel_rfl) Tryz.func4
    (ChangeSpec.witness_at (enc := enc) (C := Tryz.checked) (os := os) (X := fun w _ => laidMet Tryz.prog Rows.fieldOwnRow.laid w) false (laidWorldU os) #[.slice none 0 0, .slice none 0 0] 8 rfl (by kernel_rfl) (by kernel_rfl) (by kernel_rfl) (by kernel_rfl) (by kernel_rfl) (laid_metU os _)) ?_
  intro W base args ds gs before hval0 hW _ hsz0 hL _
  have hval : ∀ (j : Nat) t v, Tryz.f4.params[j]? = some t → args[j]? = some v → Value.okWide Tryz.prog W .any base t v := hval0
  have hsz : (DataW.weightsEach Tryz.prog (Tryz.f4.params.toList ++ Rows.fieldOwnSpec.plain.varTypes Tryz.prog) (ds ++ gs)).all (· ≤ reachBytes) = true := hsz0
  clear hsz0
  have hW' := hW
  obtain ⟨p, q, hA0, hV, rfl, _, _⟩ := hW
  have hA : DataW.TrodAll enc Tryz.prog W 0 (fun _ => true) true Tryz.f4.params.toList args.toList ds p := hA0
  rw [Tryz.params4] at hA hval hsz
  obtain ⟨v0, vs0, d0, ds0, p0, q0, hargs, rfl, rfl, h0, r0⟩ := trodAll_cons hA
  obtain ⟨v1, vs1, d1, ds1, p1, q1, rfl, rfl, rfl, h1, r1⟩ := trodAll_cons r0
  obtain ⟨rfl, rfl, rfl⟩ := trodAll_nil r1
  obtain rfl : args = #[v0, v1] := by cases args; simp_all
  obtain ⟨rfl, rfl⟩ := trodVars_none hV
  obtain ⟨ad0, len0, cap0, rfl⟩ := okWide_slice Tryz.underlying22 (hval 0 22 v0 rfl rfl)
  obtain ⟨ad1, len1, cap1, rfl⟩ := okWide_slice Tryz.underlying42 (hval 1 42 v1 rfl rfl)
  have k0 := h0
  have lt0 : ∀ x ∈ p0, x.block < W.heap.size := by obtain ⟨m, hm⟩ := k0; exact DataW.trod_lt m _ _ _ hm
  have k1 := h1
  have lt1 : ∀ x ∈ p1, x.block < W.heap.size := by obtain ⟨m, hm⟩ := k1; exact DataW.trod_lt m _ _ _ hm
  clear hA0 hval0
  simp only [List.append_nil] at hW'
  obtain ⟨V0, hVn0, hvb0, hvc0⟩ : ∃ V : List Int, V.length = len0 ∧ len0 * 8 ≤ 140737488355328 ∧ IRV W ad0 V := by
    obtain ⟨fuel, hf⟩ := h0
    rcases open_ints hf with ⟨hcs, hx⟩ | ⟨a, l, c, V, spare, hcs, hl, hlc, hx, hc⟩
    · simp [Value.cells] at hcs
      obtain ⟨rfl, rfl, rfl⟩ := hcs
      exact ⟨[], rfl, by omega, fun W' hW' k t ht => by simp at ht⟩
    · simp [Value.cells] at hcs
      obtain ⟨rfl, rfl, rfl⟩ := hcs
      simp only at hx
      subst hx
      have s1 := sized_ints (j := 0) hsz rfl rfl
      have h2 := reachBytes_lt
      have e3 : (2 : Nat) ^ 47 = 140737488355328 := by decide
      refine ⟨V, hl, by omega, fun Wz hz k t ht => ?_⟩
      obtain ⟨g, o0, rfl, c0⟩ := hc k t ht
      have hk : ∀ {p : Addr} {v : Value}, W.cell? p = some v → Wz.cell? p = some v := fun h => (hz.cell (World.block_lt_of_cell? W _ h)).trans h
      exact ⟨g, o0, rfl, hk c0⟩
  have hsc1 : ISZ W ad1 len1 := by
    obtain ⟨fuel, hf⟩ := h1
    rcases open_stps hf with ⟨hcs, hx⟩ | ⟨a, l, c, L, spare, hcs, hl, hx, hc⟩
    · simp [Value.cells] at hcs
      obtain ⟨rfl, rfl, rfl⟩ := hcs
      exact fun Wz hz i hi => by omega
    · simp [Value.cells] at hcs
      obtain ⟨rfl, rfl, rfl⟩ := hcs
      simp only at hx
      subst hx
      have s1 := (sized_stps (j := 1) hsz rfl rfl).2
      have h2 := reachBytes_lt
      have e3 : (2 : Nat) ^ 47 = 140737488355328 := by decide
      intro Wz hz i hi
      obtain ⟨t, ht⟩ : ∃ t, L[i]? = some t := ⟨_, List.getElem?_eq_getElem (by omega)⟩
      obtain ⟨g, o0, rfl, c0, c1, c2, c3, c4⟩ := hc i t ht
      have hk : ∀ {p : Addr} {v : Value}, W.cell? p = some v → Wz.cell? p = some v := fun h => (hz.cell (World.block_lt_of_cell? W _ h)).trans h
      exact ⟨g, o0, t.1, t.2.1, t.2.2.1, t.2.2.2.1, t.2.2.2.2, rfl, hk c0, hk c1, hk c2, hk c3, hk c4, by have := s1 t (List.mem_of_getElem? ht); omega⟩
  have htab : Lib.TabIs Tryz.prog W "internal/strconv.uint64pow10" .u64 Lib.pow10Tab := Lib.tabIs_of_head gV_pow gtV_pow Tryz.underlying211 Tryz.underlying102 ceV_pow ctV_pow hL.tail.tail
  obtain ⟨b0, s0, hv0, -, -, -⟩ := laid_sentinel hL.tail.tail.tail.tail gV_rng gtV_rng Tryz.underlying141 rowV_es Tryz.underlying247 Tryz.underlying249 rfl rfl Tryz.underlying9 cellsV_es cellsV_s
  obtain ⟨b1, s1, hv1, -, -, -⟩ := laid_sentinel hL.tail.tail.tail.tail.tail gV_syn gtV_syn Tryz.underlying141 rowV_es Tryz.underlying247 Tryz.underlying249 rfl rfl Tryz.underlying9 cellsV_es cellsV_s
  refine (fieldOwn_walk V0 len0 ad0 cap0 len1 ad1 cap1 W hVn0 hvb0 hvc0 hsc1 (SH_of hL.tail.tail.tail.tail.tail.tail) (DB_of hL.tail) (SG_of hL.tail.tail.tail.tail.tail.tail.tail) ⟨htab, ⟨_, _, hv1⟩, ⟨_, _, hv0⟩⟩ (US_of hL.tail.tail.tail.tail.tail.tail.tail.tail)).mono fun e W' ⟨he, hnx⟩ => ?_
  subst he
  exact ⟨_, rfl, _, _, _, [], _, [], hW', trodAll_mk1 (shut_bool Tryz.underlying4 _), (trodAll_cons_mk (Below.trod laidU (by kernel_rfl) (of_decide_eq_true (by kernel_rfl)) k0 hnx lt0) (trodAll_cons_mk (Below.trod laidU (by kernel_rfl) (of_decide_eq_true (by kernel_rfl)) k1 hnx lt1) trodAll_mk0)), rfl, hnx.frame _, fun h => by cases h⟩

theorem fieldOwn_row : Rows.FieldOwnSaid :=
  OpenClaim.holds_of_wide 4 Tryz.f4 rfl rfl rfl rfl rfl rfl rfl ⟨rfl, rfl, rfl, rfl, rfl⟩ rfl rfl rfl rfl rfl (by kernel_rfl) Tryz.func4 (by kernel_rfl)
    (of_decide_eq_true (by kernel_rfl)) (by unfold Func.isWrapper; first | (rw [if_pos (by decide +kernel)]; kernel_rfl) | (rw [if_neg (by decide +kernel)]; exact ⟨rfl, rfl⟩))
    (fun os started H enc _ => fieldOwn_lifted os started H enc)

theorem fieldOwn_holds : Rows.FieldOwnCardSaid :=
  Claim7.holds_tied_plain_at .later [] [.data, .data, .data, .data, .sentinel, .sentinel, .data, .data, .data, .pinned] true Rows.fieldOwnCard.stood.harness true
    fieldOwn_row (fun _ h => by cases h) (by kernel_rfl) (fun _ h => by cases h) fieldOwn_row_tie rfl ⟨rfl, rfl⟩ (by kernel_rfl) rfl
    (fun f fn hf hfn => by
      obtain rfl : f = 4 := Option.some.inj ((show Tryz.prog.funcNamed Rows.fieldOwnRow.func = some 4 by kernel_rfl).symm.trans hf) |>.symm
      obtain rfl : fn = Tryz.f4 := (Option.some.inj (Tryz.func4.symm.trans hfn)).symm
      exact ⟨by kernel_rfl, fun j t ht => by
        rw [Tryz.params4] at ht
        have h3 : t = 22 ∨ t = 42 := by
          rcases j with _ | _ | j
          · exact .inl (by simpa using ht.symm)
          · exact .inr (by simpa using ht.symm)
          · simp at ht
        rcases h3 with rfl | rfl
        · exact (show Tryz.prog.wantsStandIn 22 = false by kernel_rfl)
        · exact (show Tryz.prog.wantsStandIn 42 = false by kernel_rfl)⟩)
    (by kernel_rfl)
#print axioms fieldOwn_holds
end Go.Proofs.YtnboehlbcjfndaaGreatDoor

import Derived.Test.YtdgglglemdbgcaaL2
import Derived.ProofKit
import Derived.OpenShut
import Derived.ShutString
import Derived.ChangeOld
import Derived.Below
import Derived.Carry
import Derived.JoinedCond
import Derived.SliceStrings
namespace Go.Proofs.Ytdgglglemdbgcaa
open Go.ChangeShapes Go.WideShapes Go.ChangeAt Go.RowKit
open Go.ChangeMaps (open_string shut_string)

theorem bulk_strs {H : Type} (l : List ByteArray) : l.length ≤ Rows.uptoBulkAll (strs l : List (DataW H)) := by
  induction l with
  | nil => simp
  | cons s l ih =>
    show l.length + 1 ≤ Rows.uptoBulkAll (DataW.lit (.string s.data.toList) :: (strs l : List (DataW H)))
    rw [Rows.uptoBulkAll, Rows.uptoBulk]
    omega

theorem ternLeastHull_own : ownKnob Try.prog.godebug = none := by kernel_rfl
theorem ternLeastHull_laid : laidOutB Try.prog = true := by kernel_rfl
set_option maxRecDepth 100000 in
theorem ternLeastHull_lifted (os : Os) (started : os.Started) (H : Type) (enc : TypeId × Value → H) (F : Stop.Interp) :
    ReturnsInHanded {} Try.checked os 6 .any ((Rows.OpenSpec.upto Rows.ternLeastHullSpec).pre6 enc Try.prog Try.f6 Rows.ternLeastHullUptoRow.domain false) (((Rows.OpenSpec.upto Rows.ternLeastHullSpec).at F).post enc Try.prog Try.f6 false true false false) := by
  refine returnsInHanded_of_cond (C := Try.checked) (s := Rows.OpenSpec.upto Rows.ternLeastHullSpec) (k := Rows.uptoSmall) rfl ternLeastHull_own started (by kernel_rfl) Try.func6
    (OpenSpec.witness (enc := enc) (C := Try.checked) (s := Rows.OpenSpec.upto Rows.ternLeastHullSpec) (k := Rows.uptoSmall) rfl false ⟨#[], #[.string ByteArray.empty, .slice none 0 0, .string ByteArray.empty], []⟩ 8 (by kernel_rfl) (by kernel_rfl) (by kernel_rfl)
      (x := ([.lit (.string []), .nil, .lit (.string [])], [], [])) (by kernel_rfl) rfl (by kernel_rfl)) ?_
  intro W base args ds gs before hval0 hW hcnd hk0 _
  have hval : ∀ (j : Nat) t v, Try.f6.params[j]? = some t → args[j]? = some v → Value.okWide Try.prog W .any base t v := hval0
  have hW' := hW
  obtain ⟨p, q, hA0, hV, rfl, hfz, hnd⟩ := hW
  have hA : DataW.TrodAll enc Try.prog W 0 (fun _ => true) true Try.f6.params.toList args.toList ds p := hA0
  rw [Try.params6] at hA hval
  obtain ⟨v0, vs0, d0, ds0, p0, q0, hargs, rfl, rfl, h0, r0⟩ := trodAll_cons hA
  obtain ⟨v1, vs1, d1, ds1, p1, q1, rfl, rfl, rfl, h1, r1⟩ := trodAll_cons r0
  obtain ⟨v2, vs2, d2, ds2, p2, q2, rfl, rfl, rfl, h2, r2⟩ := trodAll_cons r1
  obtain ⟨rfl, rfl, rfl⟩ := trodAll_nil r2
  obtain rfl : args = #[v0, v1, v2] := by cases args; simp_all
  obtain ⟨rfl, rfl⟩ := trodVars_none hV
  obtain ⟨a0, rfl, rfl, rfl, w0⟩ := open_string Try.underlying9 (hval 0 9 v0 rfl rfl) h0
  obtain ⟨ad, len, cap, rfl⟩ := okWide_slice Try.underlying41 (hval 1 41 v1 rfl rfl)
  have k1 := h1
  have lt1 : ∀ x ∈ p1, x.block < W.heap.size := by obtain ⟨m, hm⟩ := k1; exact DataW.trod_lt m _ _ _ hm
  obtain ⟨a2, rfl, rfl, rfl, w2⟩ := open_string Try.underlying9 (hval 2 9 v2 rfl rfl) h2
  obtain ⟨SL, hlen, hlb, hcell, hsz⟩ : ∃ SL : List ByteArray, SL.length = len ∧ len ≤ 1048576 ∧ (∀ i, i < len → ∃ a, ad = some a ∧ W.cell? (a.add i) = some (.string (SL.getD i ByteArray.empty))) ∧ ∀ s ∈ SL, s.size ≤ maxLen := by
    obtain ⟨fuel, hf⟩ := h1
    rcases open_strings Try.underlying41 Try.underlying9 (by kernel_rfl) hf with ⟨hcs, hx⟩ | ⟨x, l, c, ss, hcs, _, hl, hm, hz, hx, hcell, hws⟩
    · simp [Value.cells] at hcs
      obtain ⟨rfl, rfl, rfl⟩ := hcs
      exact ⟨[], rfl, by omega, fun i hi => by omega, fun s hs => by simp at hs⟩
    · simp [Value.cells] at hcs
      obtain ⟨rfl, rfl, rfl⟩ := hcs
      have hz' : ss.length = cap := by simpa using hz
      have hx1 : d1 = .slice (strs (ss.take len)) (strs (ss.drop len)) := by injection hx
      have hk : Rows.uptoBulkAll ([.lit (.string a0.data.toList), d1, .lit (.string a2.data.toList)] : List (DataW H)) ≤ 1048576 := of_decide_eq_true hk0
      rw [hx1] at hk
      simp only [Rows.uptoBulkAll, Rows.uptoBulk] at hk
      have hb := bulk_strs (H := H) (ss.take len)
      have hlt : (ss.take len).length = len := by simp; omega
      refine ⟨ss.take len, hlt, by omega, fun i hi => ⟨_, rfl, ?_⟩, fun s hs => hws s (List.mem_of_mem_take hs)⟩
      rw [hcell i (by omega)]
      simp [hi]
  clear hA0 hval0
  refine (ternLeastHull_walk a0 a2 ad len cap SL W w0 w2 hlen hlb hcell hsz).mono fun e W' ⟨he, bel⟩ => ?_
  subst he
  exact ⟨_, rfl, _, _, _, [], _, [], hW', trodAll_mk1 (shut_bool Try.underlying4 _), (trodAll_cons_mk (shut_string Try.underlying9 w0) (trodAll_cons_mk (Below.trod ternLeastHull_laid (by kernel_rfl) (of_decide_eq_true (by kernel_rfl)) k1 bel lt1) (trodAll_cons_mk (shut_string Try.underlying9 w2) trodAll_mk0))), rfl, bel.frame _, fun h => by cases h⟩

theorem ternLeastHull_holds : Rows.TernLeastHullUptoSaid :=
  OpenClaim.holds_of_cond 6 Try.f6 rfl rfl rfl rfl rfl rfl rfl ⟨rfl, rfl, rfl, rfl, rfl⟩ rfl rfl rfl rfl rfl (by kernel_rfl) Try.func6 (by kernel_rfl)
    (of_decide_eq_true (by kernel_rfl)) (by unfold Func.isWrapper; first | (rw [if_pos (by decide +kernel)]; kernel_rfl) | (rw [if_neg (by decide +kernel)]; exact ⟨rfl, rfl⟩))
    (fun os started H enc _ F => ternLeastHull_lifted os started H enc F)
#print axioms ternLeastHull_holds
end Go.Proofs.Ytdgglglemdbgcaa

import Derived.Test.YtkmnonkabekclaaDoorPF
import Derived.SliceStrings
import Derived.ChangeSlices
import Derived.ChangeSame
import Derived.SizedLaws
import Derived.Lib.LaidTab
namespace Go.Proofs.YtkmnonkabekclaaDoor
open Go.ChangeShapes Go.WideShapes Go.RowKit
theorem add_spotS {a : Addr} (h : a.spot = none) (m : Nat) : a.add m = ⟨a.block, a.off + m, none⟩ := by
  unfold Addr.add
  split
  · rename_i h0
    subst h0
    obtain ⟨b, o, s⟩ := a
    simp only at h
    subst h
    rfl
  · rfl
theorem cell_spotS {w : World} {a : Addr} {v : Value} (h : w.cell? a = some v) : a.spot = none := by
  unfold World.cell? at h
  split at h
  · split at h
    · cases h
    · rename_i hs
      cases hh : a.spot with
      | none => rfl
      | some s => rw [hh] at hs; simp at hs
  · cases h
theorem strs_mem {H : Type} (P : Program) (e : TypeId) : ∀ (ss : List ByteArray) (s : ByteArray), s ∈ ss → s.data.toList.length ∈ DataW.weightsAll (H := H) P e (strs ss)
  | [], _, h => by simp at h
  | x :: r, s, h => by
    have e1 : (strs (x :: r) : List (DataW H)) = .lit (.string x.data.toList) :: strs r := rfl
    rw [e1, DataW.weightsAll, DataW.weights]
    rcases List.mem_cons.1 h with rfl | h
    · simp
    · exact List.mem_append_right _ (strs_mem P e r s h)
/-- texts that are handed in -/
theorem strs_arg {H : Type} {enc : TypeId × Value → H} {w : World} {held : Bool} {fuel len cap : Nat} {ad : Option Addr} {d : DataW H} {ps : List MemPlace}
    (hf : DataW.trod enc Tryd.prog w 0 (fun _ => true) held fuel 22 (Value.slice ad len cap).cells.toList = some (d, ps)) (hw : ∀ b ∈ d.weights Tryd.prog 22, b ≤ 281474976710656) :
    ∃ L : List (List UInt8), L.length = len ∧ TR w ad L ∧ LB L := by
  rcases open_strings Tryd.underlying22 Tryd.underlying9 (by kernel_rfl) hf with ⟨hcs, hx⟩ | ⟨x, l, c, ss, hcs, _, hl, hm, hz, hx, hcell, hws⟩
  · simp [Value.cells] at hcs
    obtain ⟨rfl, rfl, rfl⟩ := hcs
    exact ⟨[], rfl, fun k x hx => by simp at hx, fun x hx => by simp at hx⟩
  · simp [Value.cells] at hcs
    obtain ⟨rfl, rfl, rfl⟩ := hcs
    have hz' : ss.length = cap := by simpa using hz
    have hd : d = .slice (strs (ss.take len)) (strs (ss.drop len)) := congrArg Prod.fst hx
    refine ⟨(ss.take len).map (fun s => s.data.toList), by simp; omega, fun k y hy => ?_, fun y hy => ?_⟩
    · have hk : k < len := by
        have := (List.getElem?_eq_some_iff.1 hy).1
        simp at this
        omega
      have h0 := hcell 0 (by omega)
      have hs : x.spot = none := by
        have e : x.add 0 = x := rfl
        rw [e] at h0
        exact cell_spotS h0
      have hc := hcell k (by omega)
      rw [add_spotS hs] at hc
      obtain ⟨g, o0, s⟩ := x
      simp only at hs
      subst hs
      refine ⟨g, o0, rfl, hc.trans ?_⟩
      rw [List.getElem?_map, List.getElem?_take, if_pos hk] at hy
      obtain ⟨z, hz1, rfl⟩ := Option.map_eq_some_iff.1 hy
      rw [List.getD_eq_getElem?_getD, hz1]
      rfl
    · obtain ⟨s, hs, rfl⟩ := List.mem_map.1 hy
      refine hw _ ?_
      rw [hd, DataW.weights, Tryd.underlying22]
      exact List.mem_cons_of_mem _ (List.mem_append_left _ (strs_mem _ _ _ s hs))
end Go.Proofs.YtkmnonkabekclaaDoor

import Derived.Test.YtcojcfocnemclaaDoorPH
import Derived.Test.YtcojcfocnemclaaDoorPG
import Derived.Test.YtcojcfocnemclaaDoorDA
import Derived.OpenShut
namespace Go.Proofs.YtcojcfocnemclaaDoor
open Go.ChangeShapes Go.WideShapes Go.RowKit
theorem bI8 : Tryd.prog.bytesOf 3 = 8 := by kernel_rfl
/-- numbers that are handed in -/
theorem ints_arg {H : Type} {enc : TypeId × Value → H} {w : World} {held : Bool} {fuel len cap : Nat} {ad : Option Addr} {d : DataW H} {ps : List MemPlace}
    (hf : DataW.trod enc Tryd.prog w 0 (fun _ => true) held fuel 32 (Value.slice ad len cap).cells.toList = some (d, ps)) (hw : ∀ b ∈ d.weights Tryd.prog 32, b ≤ 281474976710656) :
    IRW w ad len ∧ len ≤ 281474976710656 := by
  rcases open_ints Tryd.underlying32 Tryd.underlying3 (by kernel_rfl) hf with ⟨hcs, hx⟩ | ⟨x, l, c, zs, hcs, _, hl, hm, hz, hx, hcell, hws⟩
  · simp [Value.cells] at hcs
    obtain ⟨rfl, rfl, rfl⟩ := hcs
    exact ⟨fun i hi => by omega, by omega⟩
  · simp [Value.cells] at hcs
    obtain ⟨rfl, rfl, rfl⟩ := hcs
    have hz' : zs.length = cap := by simpa using hz
    have hd : d = .slice (lits .i64 (zs.take len)) (lits .i64 (zs.drop len)) := congrArg Prod.fst hx
    refine ⟨fun k hk => ?_, ?_⟩
    · have h0 := hcell 0 (by omega)
      have hs : x.spot = none := by
        have e : x.add 0 = x := rfl
        rw [e] at h0
        exact cell_spotS h0
      have hc := hcell k (by omega)
      rw [add_spotS hs] at hc
      have hb := bounds_i64 (hws (zs.getD k 0) (by rw [List.getD_eq_getElem?_getD, List.getElem?_eq_getElem (by omega), Option.getD_some]; exact List.getElem_mem _))
      obtain ⟨g, o0, s⟩ := x
      simp only at hs
      subst hs
      exact ⟨g, o0, zs.getD k 0, rfl, hc, hb.1, hb.2⟩
    · have h1 := hw (((lits .i64 (zs.take len) : List (DataW H)).length + (lits .i64 (zs.drop len) : List (DataW H)).length) * Tryd.prog.bytesOf 3) (by rw [hd, DataW.weights, Tryd.underlying32]; exact List.mem_cons_self ..)
      rw [bI8] at h1
      have h2 : (lits .i64 (zs.take len) : List (DataW H)).length = len := by simp [lits]; omega
      omega
end Go.Proofs.YtcojcfocnemclaaDoor

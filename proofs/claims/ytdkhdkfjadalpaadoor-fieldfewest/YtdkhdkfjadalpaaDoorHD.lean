import Derived.Test.YtdkhdkfjadalpaaDoorH2
import Derived.Lib.ConvBytes
import Derived.Laws.IdiomStrings
import Derived.Laws.Rows
namespace Go.Proofs.YtdkhdkfjadalpaaDoor
open Go.RowKit
def bys (t : List UInt8) : List Value := t.map fun b => .int .u8 (b.toNat : Int)
theorem set_get {W : World} {b j T : Nat} {m : Nat × Nat} {cs : Array Value} (v : Value) (h : W.heap[b]? = some (.cells cs T m)) : (W.setCell ⟨b, j, none⟩ v).heap[b]? = some (.cells (cs.setIfInBounds j v) T m) := by
  simp only [World.setCell, Array.getElem?_modify, if_pos, h, Option.map_some]
  simp

def hdr (W : World) (gh : Nat) (z : List Value) (h : List UInt8) : Prop := W.heap[gh]? = some (.cells (bys h ++ z).toArray 5 (h.length + z.length, h.length + z.length + 1))
theorem bys_len (h : List UInt8) : (bys h).length = h.length := by simp [bys]
theorem hdr_cell {W : World} {gh j : Nat} {z : List Value} {h : List UInt8} (hh : hdr W gh z h) (hj : j < h.length) : W.cell? ⟨gh, j, none⟩ = some (.int .u8 (h[j].toNat : Int)) := by
  unfold hdr at hh
  rw [cell_of_row W gh j _ _ _ hh]
  simp [bys, List.getElem?_append_left, hj]
theorem hdr_frozen {W : World} {gh j : Nat} {z : List Value} {h : List UInt8} (hh : hdr W gh z h) (hj : j < h.length) : W.frozen? ⟨gh, j, none⟩ = false := by
  unfold hdr at hh
  simp [World.frozen?, hh]
  omega
theorem hdr_set {W : World} {gh p : Nat} {z : List Value} {h : List UInt8} (x : UInt8) (hh : hdr W gh z h) (hp : p < h.length) : hdr (W.setCell ⟨gh, p, none⟩ (.int .u8 (x.toNat : Int))) gh z (h.set p x) := by
  have e : (bys h ++ z).toArray.setIfInBounds p (.int .u8 (x.toNat : Int)) = (bys (h.set p x) ++ z).toArray := by
    have := List.set_append_left (s := bys h) (t := z) (i := p) (x := Value.int .u8 (x.toNat : Int)) (by rw [bys_len]; exact hp)
    rw [List.setIfInBounds_toArray, this]
    simp [bys, List.map_set]
  have := set_get (j := p) (.int .u8 (x.toNat : Int)) hh
  rw [e] at this
  unfold hdr
  simpa using this
theorem hdr_grow {W W' : World} {gh : Nat} {row : Option Nat} {z : List Value} {h : List UInt8} (hh : hdr W gh z h) (hg : W.grownBy W' row) (hne : some gh ≠ row) : hdr W' gh z h := (hg.block gh (lt_of_get hh) hne).trans hh
theorem hdr_alloc {W : World} {gh : Nat} {z : List Value} {h : List UInt8} (hh : hdr W gh z h) (o : Obj) : hdr (W.alloc o) gh z h := allocblk hh o
theorem hdr_new (w : World) (t : List UInt8) : hdr (Lib.bytesWorld w 5 ⟨t.toArray⟩) w.heap.size (List.replicate (grownCap w t.length 0 5 - t.length) (Value.int .u8 0)) t := by
  have h := Lib.bytesWorld_at_new w 5 ⟨t.toArray⟩
  have hz : (⟨t.toArray⟩ : ByteArray).size = t.length := by show t.toArray.size = _; simp
  have e : Lib.bytesCells w 5 ⟨t.toArray⟩ = (bys t ++ List.replicate (grownCap w t.length 0 5 - t.length) (Value.int .u8 0)).toArray := by
    unfold Lib.bytesCells
    rw [hz]
    simp [bys]
  unfold hdr
  rw [h, e]
  simp [bys_len]
theorem bel_bytes (w : World) (s : ByteArray) : Below w.heap.size w (Lib.bytesWorld w 5 s) := by
  have hb0 := ((Below.refl w.heap.size w).drew).alloc (Nat.le_refl _) (.cells (Lib.bytesCells w 5 s) 5)
  refine ⟨?_, ?_, ?_, ?_, fun k hk => Lib.bytesWorld_at_old w 5 s k hk⟩
  · simp only [Lib.bytesWorld, World.freeze]; exact hb0.os
  · simp only [Lib.bytesWorld, World.freeze]; exact hb0.tape
  · simp only [Lib.bytesWorld, World.freeze]; exact hb0.output
  · rw [Lib.bytesWorld_size]; omega

end Go.Proofs.YtdkhdkfjadalpaaDoor

import Derived.Test.YtmblloddhpcdeacY2
import Derived.Test.YtmblloddhpcdeacW6
import Derived.Test.YtmblloddhpcdeacW13
import Derived.Deep.AppendLies
import Derived.OneCell
import Derived.Lib.ConvBytes
import Derived.Laws.IdiomStrings
namespace Go.Proofs.Ytmblloddhpcdeac
open Go.RowKit

theorem info_int : (Try.prog.info? 3).map (fun i => (i.zero, i.size, i.bytes)) = some (some (.int .i64 0), 1, 8) := by kernel_rfl
/-- places as numbers -/
def ints (l : List Nat) : List Value := l.map fun (k : Nat) => Value.int .i64 (k : Int)
theorem ints_snoc (l : List Nat) (k : Nat) : ints (l ++ [k]) = ints l ++ [Value.int .i64 (k : Int)] := by simp [ints]
/-- the header when the places ahead of k have been gone through -/
def lsk (t : List UInt8) (k : Nat) : List UInt8 := lst (t.take k) ++ t.drop k
theorem lsk_len (t : List UInt8) (k : Nat) (hk : k ≤ t.length) : (lsk t k).length = t.length := by simp [lsk, lst_len]; omega
theorem lsk_zero (t : List UInt8) : lsk t 0 = t := by simp [lsk, lst]
theorem lsk_all (t : List UInt8) : lsk t t.length = lst t := by simp [lsk]
theorem lsk_get (t : List UInt8) (k : Nat) (hk : k < t.length) : (lsk t k)[k]? = some t[k] := by
  have h2 : (lst (t.take k)).length = k := by simp [lst_len]; omega
  unfold lsk
  rw [List.getElem?_append_right (by omega), h2]
  simp [List.getElem?_eq_getElem hk]
theorem lsk_succ (t : List UInt8) (k : Nat) (hk : k < t.length) : lsk t (k + 1) = lst (t.take k) ++ ((if t[k] == 120 then 48 else t[k]) :: t.drop (k + 1)) := by
  have h1 : t.take (k + 1) = t.take k ++ [t[k]] := by rw [List.take_add_one, List.getElem?_eq_getElem hk]; rfl
  have h2 : lst (t.take k ++ [t[k]]) = lst (t.take k) ++ [if t[k] == 120 then 48 else t[k]] := by unfold lst; rw [List.map_append]; rfl
  unfold lsk
  rw [h1, h2, List.append_assoc]
  rfl
theorem lsk_x (t : List UInt8) (k : Nat) (hk : k < t.length) (hx : t[k] = 120) : lsk t (k + 1) = (lsk t k).set k 48 := by
  have h2 : (lst (t.take k)).length = k := by simp [lst_len]; omega
  rw [lsk_succ t k hk]
  unfold lsk
  have := List.set_append_right (s := lst (t.take k)) (t := t.drop k) (i := k) (x := 48) (by omega)
  rw [this, h2, List.drop_eq_getElem_cons hk, hx]
  simp
theorem lsk_n (t : List UInt8) (k : Nat) (hk : k < t.length) (hx : t[k] ≠ 120) : lsk t (k + 1) = lsk t k := by
  rw [lsk_succ t k hk]
  unfold lsk
  rw [List.drop_eq_getElem_cons hk]
  simp [hx]

/-- the header's bytes stand at gh, with z behind them -/
def hdr (W : World) (gh : Nat) (z : List Value) (h : List UInt8) : Prop := W.heap[gh]? = some (.cells (bys h ++ z).toArray 5 (h.length + z.length, h.length + z.length + 1))
theorem bys_len (h : List UInt8) : (bys h).length = h.length := by simp [bys]
theorem hdr_cell {W : World} {gh j : Nat} {z : List Value} {h : List UInt8} (hh : hdr W gh z h) (hj : j < h.length) : W.cell? ⟨gh, j, none⟩ = some (.int .u8 (h[j].toNat : Int)) := by
  unfold hdr at hh
  rw [cell_of_row W gh j _ _ _ hh]
  simp [bys, List.getElem?_append_left, hj]
theorem hdr_frozen {W : World} {gh j : Nat} {z : List Value} {h : List UInt8} (hh : hdr W gh z h) (hj : j < h.length) : W.frozen? ⟨gh, j, none⟩ = false := by
  unfold hdr at hh
  simp [World.frozen?, hh]
  omega
theorem hdr_set {W : World} {gh p : Nat} {z : List Value} {h : List UInt8} (x : UInt8) (hh : hdr W gh z h) (hp : p < h.length) : hdr (W.setCell ⟨gh, p, none⟩ (.int .u8 (x.toNat : Int))) gh z (h.set p x) := by
  have e : (bys h ++ z).toArray.setIfInBounds p (.int .u8 (x.toNat : Int)) = (bys (h.set p x) ++ z).toArray := by
    have := List.set_append_left (s := bys h) (t := z) (i := p) (x := Value.int .u8 (x.toNat : Int)) (by rw [bys_len]; exact hp)
    rw [List.setIfInBounds_toArray, this]
    simp [bys, List.map_set]
  have := set_get (j := p) (.int .u8 (x.toNat : Int)) hh
  rw [e] at this
  unfold hdr
  simpa using this
theorem hdr_grow {W W' : World} {gh : Nat} {row : Option Nat} {z : List Value} {h : List UInt8} (hh : hdr W gh z h) (hg : W.grownBy W' row) (hne : some gh ≠ row) : hdr W' gh z h := (hg.block gh (lt_of_get hh) hne).trans hh
theorem hdr_alloc {W : World} {gh : Nat} {z : List Value} {h : List UInt8} (hh : hdr W gh z h) (o : Obj) : hdr (W.alloc o) gh z h := allocblk hh o
theorem hdr_new (w : World) (t : List UInt8) : hdr (Lib.bytesWorld w 5 ⟨t.toArray⟩) w.heap.size (List.replicate (grownCap w t.length 0 5 - t.length) (Value.int .u8 0)) t := by
  have h := Lib.bytesWorld_at_new w 5 ⟨t.toArray⟩
  have hz : (⟨t.toArray⟩ : ByteArray).size = t.length := by show t.toArray.size = _; simp
  have e : Lib.bytesCells w 5 ⟨t.toArray⟩ = (bys t ++ List.replicate (grownCap w t.length 0 5 - t.length) (Value.int .u8 0)).toArray := by
    unfold Lib.bytesCells
    rw [hz]
    simp [bys]
  unfold hdr
  rw [h, e]
  simp [bys_len]
theorem bel_bytes (w : World) (s : ByteArray) : Below w.heap.size w (Lib.bytesWorld w 5 s) := by
  have hb0 := ((Below.refl w.heap.size w).drew).alloc (Nat.le_refl _) (.cells (Lib.bytesCells w 5 s) 5)
  refine ⟨?_, ?_, ?_, ?_, fun k hk => Lib.bytesWorld_at_old w 5 s k hk⟩
  · simp only [Lib.bytesWorld, World.freeze]; exact hb0.os
  · simp only [Lib.bytesWorld, World.freeze]; exact hb0.tape
  · simp only [Lib.bytesWorld, World.freeze]; exact hb0.output
  · rw [Lib.bytesWorld_size]; omega
theorem own_not {W : World} {B g n : Nat} {e e2 : TypeId} {sz : Nat} {v : Value} {xs : List Value} {cs : Array Value} {m : Nat × Nat} (h : W.ownsRow B e sz v n xs) (hk : W.heap[g]? = some (.cells cs e2 m)) (hne : e ≠ e2) : v.ownBlock ≠ some g := by
  intro hb
  rcases h.2 with ⟨rfl, _⟩ | ⟨g2, c2, cur2, rfl, _, hg2, _⟩
  · cases hb
  · have : g2 = g := by injection hb
    subst this
    rw [hk] at hg2
    injection hg2 with h
    injection h with _ h _
    exact hne h.symm

set_option maxHeartbeats 1000000 in
theorem least_any (t : List UInt8) (w : World) (hg : good t = true) (h1 : 1 ≤ t.length) :
    Calls Try.prog 49 #[cubeV t] w fun e w' => ∃ gh c z v, e = .returned (.tuple #[.slice (some ⟨gh, 0, none⟩) t.length c, v]) ∧ w.heap.size ≤ gh ∧ hdr w' gh z (lst t) ∧ w'.ownsRow w.heap.size 3 1 v (fr t t.length).length (ints (fr t t.length)) ∧ Below w.heap.size w w' := by
  have hl := good_len hg
  obtain ⟨i0, hi, hz0, hz1, hz2⟩ := info_parts info_int
  have hcv := fun W => Lib.run_convert_string_bytes (P := Try.prog) W 9 39 5 ⟨t.toArray⟩ Try.underlying9 Try.underlying39 Try.underlying5
  unfold cubeV cv
  go_enter Try.func49, Try.ntmps49
  go_wp2_with fail
  refine (text_any t _ hg).mono ?_
  rintro e w1 ⟨rfl, hb1⟩
  have B1 := bel1 hb1
  have hN := hdr_new w1 t
  have B2 := bel0 B1 (bel_bytes w1 ⟨t.toArray⟩)
  have hzw : w.heap.size ≤ w1.heap.size := B1.size
  obtain ⟨cp, hcp⟩ : ∃ c, grownCap w1 (⟨t.toArray⟩ : ByteArray).size 0 5 = c := ⟨_, rfl⟩
  obtain ⟨z, hz⟩ : ∃ z, List.replicate (grownCap w1 t.length 0 5 - t.length) (Value.int .u8 0) = z := ⟨_, rfl⟩
  have hcv1 := hcv w1
  rw [hcp] at hcv1
  rw [hz] at hN
  obtain ⟨w2, hw2⟩ : ∃ w2, Lib.bytesWorld w1 5 ⟨t.toArray⟩ = w2 := ⟨_, rfl⟩
  have hts : (⟨t.toArray⟩ : ByteArray).size = t.length := by show t.toArray.size = _; simp
  rw [hw2, hts] at hcv1
  rw [hw2] at hN B2
  clear hb1 hcv hw2 hz hcp B1
  go_wp2_with fail
  go_loopw [3, 11] (fun v i wr => ∃ k : Nat, k ≤ t.length ∧ i = .int .i64 k ∧ hdr wr w1.heap.size z (lsk t k) ∧ wr.ownsRow w.heap.size 3 1 v (fr t k).length (ints (fr t k)) ∧ Below w.heap.size w wr) (fun _ i _ => t.length - (intOf i).toNat)
  case atStart => exact ⟨0, Nat.zero_le _, rfl, by rw [lsk_zero]; exact hN, World.ownsRow_nil _ _ _ _, B2⟩
  case round =>
    obtain ⟨k, hk, rfl, hH, hown, hB⟩ := hrel
    by_cases hlt : k < t.length
    · have i0' : (0 : Int) ≤ (k : Int) := by omega
      have i1 : (k : Int) < (t.length : Int) := by omega
      have hkl : k < (lsk t k).length := by rw [lsk_len t k hk]; exact hlt
      have cH := hdr_cell hH hkl
      have fH := hdr_frozen hH hkl
      have eH : (lsk t k)[k] = t[k] := by have := lsk_get t k hlt; rw [List.getElem?_eq_getElem hkl] at this; exact Option.some.inj this
      rw [eH] at cH
      have hFl := fr_len t k
      by_cases hx : t[k] = 120
      · have hxi : ((t[k].toNat : Int) == 120) = true := by rw [hx]; rfl
        have hs1 : Hid (lsk t (k + 1) = (lsk t k).set k 48) := lsk_x t k hlt hx
        have hs2 : Hid (fr t (k + 1) = fr t k ++ [k]) := fr_x t k hlt hx
        have hH2 := hdr_set 48 hH hkl
        have hown2 := ownsRow_setCell_other hown (a := ⟨w1.heap.size, k, none⟩) (own_not hown hH (by decide)) (.int .u8 48)
        have hB2 := hB.setCell (p := ⟨w1.heap.size, k, none⟩) hzw (.int .u8 48)
        obtain ⟨W2, hW2⟩ : ∃ W2, wr.setCell ⟨w1.heap.size, k, none⟩ (.int .u8 48) = W2 := ⟨_, rfl⟩
        have hH3 : hdr W2 w1.heap.size z ((lsk t k).set k 48) := by rw [← hW2]; exact hH2
        rw [hW2] at hown2 hB2
        clear hH2 hown
        go_wp2_with (at_builtin; refine wpList_append_own _ rfl _ _ 78 rfl w.heap.size 3 i0 (.int .i64 0) 1 8 Try.underlying78 hi hz0 hz1 hz2 rfl (by decide) _ _ _ rfl (hown2.alloc _) ⟨_, 0, none⟩ 1 1 [.int .i64 (k : Int)] rfl rfl (cell_one_new _ _ _) (by simp [Value.oneCell']) (by unfold maxLen; omega) (by omega) (by have := hB2.size; simp; omega) ?_; intro v' w3 hown3 hgrow _)
        have hH4 := hdr_grow (hdr_alloc hH3 _) hgrow (fun e => own_not hown2 hH3 (by decide) e.symm)
        have B3 := bel_app hB2 hown2 hgrow
        go_roundw
        case rel => exact ⟨k + 1, by omega, by go_num, by rw [hs1.out]; exact hH4, by rw [hs2.out, ints_snoc]; simpa using hown3, B3⟩
        case measure => simp [intOf]; omega
      · have hxi : ((t[k].toNat : Int) == 120) = false := ne_byte (n := 120) hx
        have hs1 : Hid (lsk t (k + 1) = lsk t k) := lsk_n t k hlt hx
        have hs2 : Hid (fr t (k + 1) = fr t k) := fr_n t k hlt hx
        go_wp2
        go_roundw
        case rel => exact ⟨k + 1, by omega, by go_num, by rw [hs1.out]; exact hH, by rw [hs2.out]; exact hown, hB⟩
        case measure => simp [intOf]; omega
    · have i1 : ¬ (k : Int) < (t.length : Int) := by omega
      obtain rfl : k = t.length := by omega
      go_wp2
      go_ret2
      rw [lsk_all] at hH
      exact ⟨_, _, _, _, rfl, hzw, hH, hown, hB⟩
end Go.Proofs.Ytmblloddhpcdeac

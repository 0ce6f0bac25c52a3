import Derived.Test.YtpbbmmkhlpkkbaaGreatDoorXAG
import Derived.Test.YtpbbmmkhlpkkbaaGreatDoorXAD
import Derived.Test.YtpbbmmkhlpkkbaaGreatDoorXAP
import Derived.Deep.RegionHeld3
import Derived.Deep.AppendLies
import Derived.OneCell
import Derived.Lib.ConvBytes
import Derived.Laws.IdiomStrings
import Derived.Test.YtpbbmmkhlpkkbaaGreatDoorXAF
import Derived.Shelf.Small.Strs
import Derived.Ground.NamesProg
import Derived.Test.YtpbbmmkhlpkkbaaGreatDoorProg
import Derived.Test.YtpbbmmkhlpkkbaaGreatDoorXAL
import Derived.Shelf.Small.Bits
import Derived.Shelf.Strings.Repeat
namespace Go.Proofs.YtpbbmmkhlpkkbaaGreatDoor
open Go.RowKit
theorem byte_bne (x : UInt8) (n : Nat) (hn : n < 256) : ((x.toNat : Int) != (n : Int)) = !(x == UInt8.ofNat n) := by
  unfold bne
  congr 1
  rw [Bool.eq_iff_iff, beq_iff_eq, beq_iff_eq]
  constructor
  · intro h
    have h1 : x.toNat = n := by omega
    rw [← h1]
    simp
  · rintro rfl
    simp
    omega
theorem byte_bne2 (x y : UInt8) : ((x.toNat : Int) != (y.toNat : Int)) = !(x == y) := by
  unfold bne
  congr 1
  rw [Bool.eq_iff_iff, beq_iff_eq, beq_iff_eq]
  constructor
  · intro h
    exact UInt8.toNat_inj.1 (by omega)
  · rintro rfl
    rfl
theorem cfl_str (a b : ByteArray) (k : Nat) (ha : k < a.size) (hb : k < b.size) (ga : good a.data.toList = true) (gb : good b.data.toList = true) (p1 p2 p3 : Bool) (n1 : ((a[k].toNat : Int) != 120) = p1) (n2 : ((b[k].toNat : Int) != 120) = p2) (n3 : ((b[k].toNat : Int) != (a[k].toNat : Int)) = p3) :
    cfl a.data.toList b.data.toList k = (p1 && p2 && p3) := by
  have f1 : ((a[k].toNat : Int) != 120) = !(a[k] == 120) := byte_bne a[k] 120 (by decide)
  have f2 : ((b[k].toNat : Int) != 120) = !(b[k] == 120) := byte_bne b[k] 120 (by decide)
  have f3 := byte_bne2 b[k] a[k]
  have f4 : (b[k] == a[k]) = (a[k] == b[k]) := by rw [Bool.eq_iff_iff, beq_iff_eq, beq_iff_eq]; exact eq_comm
  have la : k < a.data.toList.length := by simpa using ha
  have lb : k < b.data.toList.length := by simpa using hb
  rw [cfl_bytes _ _ k la lb (good_tri ga k la) (good_tri gb k lb), byte_at a k ha, byte_at b k hb, ← n1, ← n2, ← n3, f1, f2, f3, f4]
theorem cfl_succ {a b : List UInt8} {k : Nat} (h : ∀ j, j < k → cfl a b j = false) (hk : cfl a b k = false) : ∀ j, j < k + 1 → cfl a b j = false := by
  intro j hj
  by_cases e : j = k
  · subst e; exact hk
  · exact h j (by omega)
theorem ok_succ {p : Nat → Bool} {k : Nat} (h : ∀ j, j < k → p j = true) (hk : p k = true) : ∀ j, j < k + 1 → p j = true := by
  intro j hj
  by_cases e : j = k
  · subst e; exact hk
  · exact h j (by omega)
theorem inK_str (a b : ByteArray) (k : Nat) (ha : k < a.size) (hb : k < b.size) (p2 p3 : Bool) (n2 : ((b[k].toNat : Int) != 120) = p2) (n3 : ((b[k].toNat : Int) != (a[k].toNat : Int)) = p3) :
    (match a.data.toList[k]?, b.data.toList[k]? with | some x, some y => y == 120 || x == y | _, _ => true) = !(p2 && p3) := by
  have f2 : ((b[k].toNat : Int) != 120) = !(b[k] == 120) := byte_bne b[k] 120 (by decide)
  have f3 := byte_bne2 b[k] a[k]
  have f4 : (b[k] == a[k]) = (a[k] == b[k]) := by rw [Bool.eq_iff_iff, beq_iff_eq, beq_iff_eq]; exact eq_comm
  have la : a.data.toList[k]? = some a[k] := by rw [List.getElem?_eq_getElem (by simpa using ha)]; rfl
  have lb : b.data.toList[k]? = some b[k] := by rw [List.getElem?_eq_getElem (by simpa using hb)]; rfl
  simp only [la, lb]
  rw [← n2, ← n3, f2, f3, f4]
  cases (b[k] == 120) <;> cases (a[k] == b[k]) <;> rfl
theorem fit_no {a b : ByteArray} (h : fitB a.data.toList b.data.toList = false) : ((a.size : Int) != (b.size : Int)) = true ∨ (((a.size : Int) != (b.size : Int)) = false ∧ ((a.size : Int) == 0) = true) := by
  by_cases e : a.size = b.size
  · right
    have h0 : a.size = 0 := by
      unfold fitB at h
      simp at h
      by_cases e0 : a.size = 0
      · exact e0
      · exact absurd e (h (by
          intro e1
          exact e0 (by rw [show a.size = a.data.size from rfl, e1]; rfl)))
    exact ⟨by rw [e]; simp, by rw [h0]; rfl⟩
  · left
    rw [bne_iff_ne]
    omega
theorem fit_yes {a b : ByteArray} (h : fitB a.data.toList b.data.toList = true) : ((a.size : Int) != (b.size : Int)) = false ∧ ((a.size : Int) == 0) = false ∧ a.size = b.size := by
  have e : a.size = b.size := by simpa using fitB_len h
  refine ⟨by rw [e]; simp, ?_, e⟩
  rw [beq_eq_false_iff_ne]
  intro h0
  have h1 : a.data.toList = [] := by
    apply List.eq_nil_of_length_eq_zero
    have : a.data.toList.length = a.size := by simp
    omega
  rw [h1] at h
  simp [fitB] at h
theorem row_snoc {X : World} {B g cap k n : Nat} {T : List UInt8} {x : UInt8} (hk : k < T.length) (hx : T[k] = x) (h : X.ownsRow B 5 1 (.slice (some ⟨g, 0, none⟩) n cap) n ((rowAt T k).set k (.int .u8 (x.toNat : Int)))) : X.ownsRow B 5 1 (.slice (some ⟨g, 0, none⟩) n cap) n (rowAt T (k + 1)) := by
  rw [← rowAt_succ T k hk, hx]
  exact h
end Go.Proofs.YtpbbmmkhlpkkbaaGreatDoor
namespace Go.Proofs.YtpbbmmkhlpkkbaaGreatDoor
open Go.RowKit
/-- the header's bytes stand at gh, with z behind them -/
def hdr (W : World) (gh : Nat) (z : List Value) (h : List UInt8) : Prop := W.heap[gh]? = some (.cells (bys h ++ z).toArray 5 (h.length + z.length, h.length + z.length + 1))
theorem bys_len (h : List UInt8) : (bys h).length = h.length := by simp [bys]
theorem hdr_cell {W : World} {gh j : Nat} {z : List Value} {h : List UInt8} (hh : hdr W gh z h) (hj : j < h.length) : W.cell? ⟨gh, j, none⟩ = some (.int .u8 (h[j].toNat : Int)) := by
  unfold hdr at hh
  rw [cell_of_row W gh j _ _ _ hh]
  simp [bys, List.getElem?_append_left, hj]
theorem hdr_frozen {W : World} {gh j : Nat} {z : List Value} {h : List UInt8} (hh : hdr W gh z h) (hj : j < h.length) : W.frozen? ⟨gh, j, none⟩ = false := by
  unfold hdr at hh
  simp [World.frozen?, hh]
  omega
theorem hdr_set {W : World} {gh p : Nat} {z : List Value} {h : List UInt8} (x : UInt8) (hh : hdr W gh z h) (hp : p < h.length) : hdr (W.setCell ⟨gh, p, none⟩ (.int .u8 (x.toNat : Int))) gh z (h.set p x) := by
  have e : (bys h ++ z).toArray.setIfInBounds p (.int .u8 (x.toNat : Int)) = (bys (h.set p x) ++ z).toArray := by
    have := List.set_append_left (s := bys h) (t := z) (i := p) (x := Value.int .u8 (x.toNat : Int)) (by rw [bys_len]; exact hp)
    rw [List.setIfInBounds_toArray, this]
    simp [bys, List.map_set]
  have := set_get (j := p) (.int .u8 (x.toNat : Int)) hh
  rw [e] at this
  unfold hdr
  simpa using this
theorem hdr_alloc {W : World} {gh : Nat} {z : List Value} {h : List UInt8} (hh : hdr W gh z h) (o : Obj) : hdr (W.alloc o) gh z h := allocblk hh o
theorem hdr_new (w : World) (t : List UInt8) : hdr (Lib.bytesWorld w 5 ⟨t.toArray⟩) w.heap.size (List.replicate (grownCap w t.length 0 5 - t.length) (Value.int .u8 0)) t := by
  have h := Lib.bytesWorld_at_new w 5 ⟨t.toArray⟩
  have hz : (⟨t.toArray⟩ : ByteArray).size = t.length := by show t.toArray.size = _; simp
  have e : Lib.bytesCells w 5 ⟨t.toArray⟩ = (bys t ++ List.replicate (grownCap w t.length 0 5 - t.length) (Value.int .u8 0)).toArray := by
    unfold Lib.bytesCells
    rw [hz]
    simp [bys]
  unfold hdr
  rw [h, e]
  simp [bys_len]
theorem bel_bytes (w : World) (s : ByteArray) : Below w.heap.size w (Lib.bytesWorld w 5 s) := by
  have hb0 := ((Below.refl w.heap.size w).drew).alloc (Nat.le_refl _) (.cells (Lib.bytesCells w 5 s) 5)
  refine ⟨?_, ?_, ?_, ?_, fun k hk => Lib.bytesWorld_at_old w 5 s k hk⟩
  · simp only [Lib.bytesWorld, World.freeze]; exact hb0.os
  · simp only [Lib.bytesWorld, World.freeze]; exact hb0.tape
  · simp only [Lib.bytesWorld, World.freeze]; exact hb0.output
  · rw [Lib.bytesWorld_size]; omega
theorem cfl_str2 (a b : ByteArray) (k : Nat) (ha : k < a.size) (hb : k < b.size) (ga : good a.data.toList = true) (gb : good b.data.toList = true) (p1 p2 p3 : Bool) (n1 : ((a[k].toNat : Int) != 120) = p1) (n2 : ((b[k].toNat : Int) != 120) = p2) (n3 : ((a[k].toNat : Int) != (b[k].toNat : Int)) = p3) :
    cfl a.data.toList b.data.toList k = (p1 && p2 && p3) := by
  refine cfl_str a b k ha hb ga gb p1 p2 p3 n1 n2 ?_
  rw [← n3, byte_bne2, byte_bne2]
  congr 1
  rw [Bool.eq_iff_iff, beq_iff_eq, beq_iff_eq]
  exact eq_comm
/-- the bytes behind k rounds -/
def bxk (T a : List UInt8) (k : Nat) : List UInt8 := T.take k ++ a.drop k
theorem bxk_zero (T a : List UInt8) : bxk T a 0 = a := by simp [bxk]
theorem bxk_all (T a : List UInt8) (h : T.length = a.length) : bxk T a a.length = T := by
  unfold bxk
  rw [← h, List.take_length, h, List.drop_length, List.append_nil]
theorem bxk_len (T a : List UInt8) (h : T.length = a.length) (k : Nat) (hk : k ≤ a.length) : (bxk T a k).length = a.length := by
  unfold bxk
  rw [List.length_append, List.length_take, List.length_drop]
  omega
theorem bxk_succ (T a : List UInt8) (h : T.length = a.length) (k : Nat) (hk : k < a.length) : bxk T a (k + 1) = (bxk T a k).set k (T[k]'(by omega)) := by
  have ht : k < T.length := by omega
  have h2 : (T.take k).length = k := by rw [List.length_take]; omega
  unfold bxk
  have e := List.set_append_right (s := T.take k) (t := a.drop k) (i := k) (x := T[k]) (by omega)
  rw [e, h2, Nat.sub_self, List.take_add_one, List.getElem?_eq_getElem ht, List.drop_eq_getElem_cons hk, List.append_assoc]
  rfl
theorem bxk_keep (T a : List UInt8) (h : T.length = a.length) (k : Nat) (hk : k < a.length) (e : T[k]'(by omega) = a[k]) : bxk T a (k + 1) = bxk T a k := by
  have ht : k < T.length := by omega
  unfold bxk
  rw [List.take_add_one, List.getElem?_eq_getElem ht, List.drop_eq_getElem_cons hk, e]
  simp
end Go.Proofs.YtpbbmmkhlpkkbaaGreatDoor
namespace Go.Proofs.YtpbbmmkhlpkkbaaGreatDoor
open Go.RowKit
theorem info_strE : (Tryz.prog.info? 9).map (fun i => (i.zero, i.size, i.bytes)) = some (some (.string ⟨#[]⟩), 1, 16) := by kernel_rfl
theorem rs_bxk (a b : List UInt8) (k : Nat) : rsT a b k = bxk (meetT a b) a k := by
  unfold rsT bxk meetT
  rw [List.take_zipWith]
theorem notU {W : World} {B g n : Nat} {e e2 : TypeId} {sz : Nat} {v : Value} {xs : List Value} {cs : Array Value} {m : Nat × Nat} (h : W.ownsRow B e sz v n xs) (hk : W.heap[g]? = some (.cells cs e2 m)) (hne : e ≠ e2) : v.ownBlock ≠ some g := by
  intro hb
  rcases h.2 with ⟨rfl, _⟩ | ⟨g2, c2, cur2, rfl, _, hg2, _⟩
  · cases hb
  · have : g2 = g := by injection hb
    subst this
    rw [hk] at hg2
    injection hg2 with h
    injection h with _ h _
    exact hne h.symm
theorem hdr_grown {W W2 : World} {gh : Nat} {z : List Value} {h : List UInt8} {row : Option Nat} (hh : hdr W gh z h) (hg : W.grownBy W2 row) (hne : row ≠ some gh) : hdr W2 gh z h := by
  unfold hdr at hh ⊢
  exact (hg.block gh (lt_of_get3 hh) (fun e => hne e.symm)).trans hh
theorem pcs_skipE (a b : List UInt8) (k : Nat) (h : qual a b k = false) : pcs a b (k + 1) = pcs a b k := by
  refine pcs_skip a b k (k + 1) (by omega) ?_
  intro j h1 h2
  obtain rfl : j = k := by omega
  exact h
theorem stx_snocE (l : List (List UInt8)) (t : List UInt8) : stx (l ++ [t]) = stx l ++ [.string ⟨t.toArray⟩] := by simp [stx]
theorem hdr_bel {W W2 : World} {gh : Nat} {z : List Value} {h : List UInt8} (hh : hdr W gh z h) (hb : Below W.heap.size W W2) : hdr W2 gh z h := keepblk3 hb hh
end Go.Proofs.YtpbbmmkhlpkkbaaGreatDoor
namespace Go.Proofs
open Go.Shelf
def Tryz.l106_ren : Go.Shelf.Ren := ⟨fun | 106 => 91 | 213 => 122 | 265 => 142 | n => n, fun | 9 => 9 | 3 => 3 | n => n, fun | n => n⟩
theorem Tryz.l106 : Go.Proofs.Lays.n106 Tryz.prog Tryz.l106_ren := {
  mixed := by kernel_rfl
  f106 := Tryz.func91.trans (congrArg some (by kernel_rfl))
  f213 := Tryz.func122.trans (congrArg some (by kernel_rfl))
  f265 := Tryz.func142.trans (congrArg some (by kernel_rfl))
  t3 := Tryz.underlying3
  a3 := Tryz.isAgg3
  z3 := Tryz.sizeOf3
  v3 := Tryz.zeroValue3
  t9 := Tryz.underlying9
  a9 := Tryz.isAgg9
  z9 := Tryz.sizeOf9
  v9 := Tryz.zeroValue9 }
end Go.Proofs
namespace Go.Proofs.YtpbbmmkhlpkkbaaGreatDoor
open Go.RowKit Go.Shelf
/-- a cube with its text -/
def nm (t : List UInt8) : List Value := [.string ⟨t.toArray⟩, .int .i64 (t.length : Int), .int .u64 (FW t 0 : Int), .int .u64 (FW t 1 : Int), .int .u64 (FW t 2 : Int), .int .u64 (FW t 3 : Int), .int .u64 (OW t 0 : Int), .int .u64 (OW t 1 : Int), .int .u64 (OW t 2 : Int), .int .u64 (OW t 3 : Int)]
def nms (l : List (List UInt8)) : List Value := l.flatMap nm
theorem nms_snoc (l : List (List UInt8)) (t : List UInt8) : nms (l ++ [t]) = nms l ++ nm t := by simp [nms]
theorem nms_len (l : List (List UInt8)) : (nms l).length = l.length * 10 := by
  induction l with
  | nil => rfl
  | cons t l ih => simp only [nms, List.flatMap_cons, List.length_append, List.length_cons] at ih ⊢; rw [ih]; simp [nm]; omega
theorem info_named : (Tryz.prog.info? 106).map (fun i => (i.zero, i.size, i.bytes)) = some (some (.agg #[.string ⟨#[]⟩, .int .i64 0, .int .u64 0, .int .u64 0, .int .u64 0, .int .u64 0, .int .u64 0, .int .u64 0, .int .u64 0, .int .u64 0]), 10, 88) := by kernel_rfl
set_option maxRecDepth 100000 in
set_option maxHeartbeats 1000000 in
theorem byText_any (a b : List UInt8) (w : World) : Calls Tryz.prog 67 #[.agg #[.string ⟨a.toArray⟩, .int .i64 (a.length : Int), .int .u64 (FW a 0 : Int), .int .u64 (FW a 1 : Int), .int .u64 (FW a 2 : Int), .int .u64 (FW a 3 : Int), .int .u64 (OW a 0 : Int), .int .u64 (OW a 1 : Int), .int .u64 (OW a 2 : Int), .int .u64 (OW a 3 : Int)], .agg #[.string ⟨b.toArray⟩, .int .i64 (b.length : Int), .int .u64 (FW b 0 : Int), .int .u64 (FW b 1 : Int), .int .u64 (FW b 2 : Int), .int .u64 (FW b 3 : Int), .int .u64 (OW b 0 : Int), .int .u64 (OW b 1 : Int), .int .u64 (OW b 2 : Int), .int .u64 (OW b 3 : Int)]] w fun e w' => e = .returned (.int .i64 (Lib.compareBytes a b)) ∧ w' = (w.alloc (.cells #[.string ⟨a.toArray⟩, .int .i64 (a.length : Int), .int .u64 (FW a 0 : Int), .int .u64 (FW a 1 : Int), .int .u64 (FW a 2 : Int), .int .u64 (FW a 3 : Int), .int .u64 (OW a 0 : Int), .int .u64 (OW a 1 : Int), .int .u64 (OW a 2 : Int), .int .u64 (OW a 3 : Int)] 106 (0, 0))).alloc (.cells #[.string ⟨b.toArray⟩, .int .i64 (b.length : Int), .int .u64 (FW b 0 : Int), .int .u64 (FW b 1 : Int), .int .u64 (FW b 2 : Int), .int .u64 (FW b 3 : Int), .int .u64 (OW b 0 : Int), .int .u64 (OW b 1 : Int), .int .u64 (OW b 2 : Int), .int .u64 (OW b 3 : Int)] 106 (0, 0)) := by
  have H1 : ∀ W', Calls Tryz.prog 91 #[.string ⟨a.toArray⟩, .string ⟨b.toArray⟩] W' fun e w' => e = .returned (.int .i64 (Lib.compareBytes a b)) ∧ w' = W' := fun W' => Any.strings_Compare Tryz.l106 ⟨a.toArray⟩ ⟨b.toArray⟩ W'
  generalize Lib.compareBytes a b = r at H1 ⊢
  go_enter Tryz.func67, Tryz.ntmps67
  go_wp2_with (go_at_call 91; refine (H1 _).mono ?_; rintro e w' ⟨rfl, rfl⟩)
  go_ret
  exact ⟨rfl, rfl⟩
/-- the sort of the line behind its first, as it is asked for -/
def SortOK (srt : List (List UInt8) → List (List UInt8)) : Prop := ∀ (L : List (List UInt8)) (x : List UInt8) (n g c B : Nat) (ad : Addr) (W : World), L.length = n → n ≤ 1000000 → W.ownsRow B 106 10 (.slice (some ⟨g, 0, none⟩) (n + 1) c) (n + 1) (nms (x :: L)) → ((n = 0 ∧ ad = ⟨g, 0, none⟩) ∨ ad = ⟨g, 10, none⟩) → Calls Tryz.prog 88 #[.slice (some ad) n (c - 1), .func (.func 67) #[] #[]] W fun e w' => e = .returned (.tuple #[]) ∧ w'.ownsRow B 106 10 (.slice (some ⟨g, 0, none⟩) (n + 1) c) (n + 1) (nms (x :: srt L)) ∧ W.grownBy w' (some g)
set_option maxRecDepth 100000 in
set_option maxHeartbeats 4000000 in
theorem inLine_any (srt : List (List UInt8) → List (List UInt8)) (hso : SortOK srt) (c : List UInt8) (L : List (List UInt8)) (m k : Nat) (q : Option Addr) (w : World) (hm : L.length = m) (hm2 : m ≤ 1000000) (gc : good c = true) (gL : ∀ t ∈ L, good t = true) (hr : IRC w q L) :
    Calls Tryz.prog 63 #[.agg #[.int .i64 (c.length : Int), .int .u64 (FW c 0 : Int), .int .u64 (FW c 1 : Int), .int .u64 (FW c 2 : Int), .int .u64 (FW c 3 : Int), .int .u64 (OW c 0 : Int), .int .u64 (OW c 1 : Int), .int .u64 (OW c 2 : Int), .int .u64 (OW c 3 : Int), .slice q m k]] w fun e w' => ∃ v, e = .returned v ∧ w'.ownsRow w.heap.size 106 10 v (m + 1) (nms (c :: srt L)) ∧ Below w.heap.size w w' := by
  obtain ⟨i0, hi, hz0, hz1, hz2⟩ := info_parts info_named
  obtain ⟨w2, hw2⟩ : ∃ w2, w.alloc (.cells #[.int .i64 (c.length : Int), .int .u64 (FW c 0 : Int), .int .u64 (FW c 1 : Int), .int .u64 (FW c 2 : Int), .int .u64 (FW c 3 : Int), .int .u64 (OW c 0 : Int), .int .u64 (OW c 1 : Int), .int .u64 (OW c 2 : Int), .int .u64 (OW c 3 : Int), .slice q m k] 60 (0, 0)) = w2 := ⟨_, rfl⟩
  have hA : w2.heap[w.heap.size]? = some (.cells #[.int .i64 (c.length : Int), .int .u64 (FW c 0 : Int), .int .u64 (FW c 1 : Int), .int .u64 (FW c 2 : Int), .int .u64 (FW c 3 : Int), .int .u64 (OW c 0 : Int), .int .u64 (OW c 1 : Int), .int .u64 (OW c 2 : Int), .int .u64 (OW c 3 : Int), .slice q m k] 60 (0, 0)) := by rw [← hw2]; exact alloc_get _ _
  have hB2 : Below w.heap.size w w2 := by rw [← hw2]; exact belA (Below.refl _ _) _
  have HA : Hid (∀ W, Below w2.heap.size w2 W → ∀ j, W.cell? ⟨w.heap.size, j, none⟩ = (#[.int .i64 (c.length : Int), .int .u64 (FW c 0 : Int), .int .u64 (FW c 1 : Int), .int .u64 (FW c 2 : Int), .int .u64 (FW c 3 : Int), .int .u64 (OW c 0 : Int), .int .u64 (OW c 1 : Int), .int .u64 (OW c 2 : Int), .int .u64 (OW c 3 : Int), .slice q m k] : Array Value)[j]?) := fun W hW => (cells_block (keepblk3 hW hA)).1
  have HT : Hid (∀ t, good t = true → ∀ W, Calls Tryz.prog 26 #[.agg #[.int .i64 (t.length : Int), .int .u64 (FW t 0 : Int), .int .u64 (FW t 1 : Int), .int .u64 (FW t 2 : Int), .int .u64 (FW t 3 : Int), .int .u64 (OW t 0 : Int), .int .u64 (OW t 1 : Int), .int .u64 (OW t 2 : Int), .int .u64 (OW t 3 : Int)]] W fun e w' => e = .returned (.string ⟨t.toArray⟩) ∧ Below W.heap.size W w') := fun t gt W => text_any t W gt
  have HR : Hid (IRC w2 q L) := hr.later hB2
  have HN : Hid (L.length = m ∧ (∀ t ∈ L, good t = true) ∧ good c = true ∧ Below w.heap.size w w2) := ⟨hm, gL, gc, hB2⟩
  have HSO : Hid (SortOK srt) := hso
  have hA6 := HA.out w2 (Below.refl _ _)
  have hA6d : ∀ j, w2.drew.cell? ⟨w.heap.size, j, none⟩ = (#[.int .i64 (c.length : Int), .int .u64 (FW c 0 : Int), .int .u64 (FW c 1 : Int), .int .u64 (FW c 2 : Int), .int .u64 (FW c 3 : Int), .int .u64 (OW c 0 : Int), .int .u64 (OW c 1 : Int), .int .u64 (OW c 2 : Int), .int .u64 (OW c 3 : Int), .slice q m k] : Array Value)[j]? := hA6
  clear hA hB2 hr hm gL gc hso
  go_enter Tryz.func63, Tryz.ntmps63
  go_upto_region 1 with fail
  go_region_held3 (fun W => ∀ j, W.cell? ⟨w.heap.size, j, none⟩ = (#[.int .i64 (c.length : Int), .int .u64 (FW c 0 : Int), .int .u64 (FW c 1 : Int), .int .u64 (FW c 2 : Int), .int .u64 (FW c 3 : Int), .int .u64 (OW c 0 : Int), .int .u64 (OW c 1 : Int), .int .u64 (OW c 2 : Int), .int .u64 (OW c 3 : Int), .slice q m k] : Array Value)[j]?) (first | with_reducible exact hA6 | with_reducible exact hA6d | with_reducible exact hk5 | with_reducible exact hk6) (first | (go_at_call 26; refine (HT.out c HN.out.2.2.1 _).mono ?_; rintro e w5 ⟨rfl, hb5⟩; have hb5' : Below w2.heap.size w2 w5 := (by first | exact hb5 | exact und hb5); have hk5 := HA.out w5 hb5'; have hk6 := HA.out (w5.alloc (.cells #[.string ⟨c.toArray⟩, .int .i64 (c.length : Int), .int .u64 (FW c 0 : Int), .int .u64 (FW c 1 : Int), .int .u64 (FW c 2 : Int), .int .u64 (FW c 3 : Int), .int .u64 (OW c 0 : Int), .int .u64 (OW c 1 : Int), .int .u64 (OW c 2 : Int), .int .u64 (OW c 3 : Int)] 106 (0, 0))) (belA hb5' _)))
  have hB5 : Below w2.heap.size w2 (w5.alloc (.cells #[.string ⟨c.toArray⟩, .int .i64 (c.length : Int), .int .u64 (FW c 0 : Int), .int .u64 (FW c 1 : Int), .int .u64 (FW c 2 : Int), .int .u64 (FW c 3 : Int), .int .u64 (OW c 0 : Int), .int .u64 (OW c 1 : Int), .int .u64 (OW c 2 : Int), .int .u64 (OW c 3 : Int)] 106 (0, 0))) := belA hb5' _
  have o1 : (w5.alloc (.cells #[.string ⟨c.toArray⟩, .int .i64 (c.length : Int), .int .u64 (FW c 0 : Int), .int .u64 (FW c 1 : Int), .int .u64 (FW c 2 : Int), .int .u64 (FW c 3 : Int), .int .u64 (OW c 0 : Int), .int .u64 (OW c 1 : Int), .int .u64 (OW c 2 : Int), .int .u64 (OW c 3 : Int)] 106 (0, 0))).ownsRow w2.heap.size 106 10 (.slice (some ⟨w5.heap.size, 0, none⟩) 1 1) 1 (nms [c]) := ⟨rfl, .inr ⟨w5.heap.size, 1, _, rfl, hb5'.size, alloc_get _ _, by omega, by unfold maxLen; omega, rfl, rfl⟩⟩
  have HO1 : Hid ((w5.alloc (.cells #[.string ⟨c.toArray⟩, .int .i64 (c.length : Int), .int .u64 (FW c 0 : Int), .int .u64 (FW c 1 : Int), .int .u64 (FW c 2 : Int), .int .u64 (FW c 3 : Int), .int .u64 (OW c 0 : Int), .int .u64 (OW c 1 : Int), .int .u64 (OW c 2 : Int), .int .u64 (OW c 3 : Int)] 106 (0, 0))).ownsRow w2.heap.size 106 10 (.slice (some ⟨w5.heap.size, 0, none⟩) 1 1) 1 (nms [c]) ∧ Below w2.heap.size w2 (w5.alloc (.cells #[.string ⟨c.toArray⟩, .int .i64 (c.length : Int), .int .u64 (FW c 0 : Int), .int .u64 (FW c 1 : Int), .int .u64 (FW c 2 : Int), .int .u64 (FW c 3 : Int), .int .u64 (OW c 0 : Int), .int .u64 (OW c 1 : Int), .int .u64 (OW c 2 : Int), .int .u64 (OW c 3 : Int)] 106 (0, 0)))) := ⟨o1, hB5⟩
  clear o1 hk5 hA6 hA6d hw2
  go_wp2_with fail
  go_loopw [3, 16] (fun v3 v16 wr => ∃ j : Nat, v16 = .int .i64 (j : Int) ∧ j ≤ m ∧ wr.ownsRow w2.heap.size 106 10 v3 (j + 1) (nms (c :: L.take j)) ∧ Below w2.heap.size w2 wr) (fun _ v16 _ => m - (intOf v16).toNat)
  case atStart => exact ⟨0, rfl, Nat.zero_le _, HO1.out.1, HO1.out.2⟩
  case round =>
    clear HO1 hb5 hb5' hk6 hB5
    obtain ⟨j, rfl, hj, oR, hB⟩ := hrel
    by_cases hlt : j < m
    · have j1 : (j : Int) < (m : Int) := by omega
      have j0 : (0 : Int) ≤ (j : Int) := by omega
      obtain ⟨x, hx⟩ : ∃ x, L[j]? = some x := ⟨_, List.getElem?_eq_getElem (by rw [HN.out.1]; exact hlt)⟩
      obtain ⟨g, o0, rfl, p0, p1, p2, p3, p4, p5, p6, p7, p8⟩ := HR.out wr hB j x hx
      have HST : Hid (nms (c :: L.take (j + 1)) = nms (c :: L.take j) ++ nm x ∧ good x = true) := ⟨by rw [List.take_add_one, hx, ← List.cons_append]; exact nms_snoc _ _, HN.out.2.1 x (List.mem_of_getElem? hx)⟩
      obtain ⟨wa, hwa⟩ : ∃ wa, wr.alloc (.cells #[.int .i64 (x.length : Int), .int .u64 (FW x 0 : Int), .int .u64 (FW x 1 : Int), .int .u64 (FW x 2 : Int), .int .u64 (FW x 3 : Int), .int .u64 (OW x 0 : Int), .int .u64 (OW x 1 : Int), .int .u64 (OW x 2 : Int), .int .u64 (OW x 3 : Int)] 38 (0, 0)) = wa := ⟨_, rfl⟩
      have hal : Below wr.heap.size wr wa := by rw [← hwa]; exact belA (Below.refl _ _) _
      have hgt : wa.heap[wr.heap.size]? = some (.cells #[.int .i64 (x.length : Int), .int .u64 (FW x 0 : Int), .int .u64 (FW x 1 : Int), .int .u64 (FW x 2 : Int), .int .u64 (FW x 3 : Int), .int .u64 (OW x 0 : Int), .int .u64 (OW x 1 : Int), .int .u64 (OW x 2 : Int), .int .u64 (OW x 3 : Int)] 38 (0, 0)) := by rw [← hwa]; exact alloc_get _ _
      have HX : Hid (∀ W, Below wa.heap.size wa W → ∀ j, W.cell? ⟨wr.heap.size, j, none⟩ = (#[.int .i64 (x.length : Int), .int .u64 (FW x 0 : Int), .int .u64 (FW x 1 : Int), .int .u64 (FW x 2 : Int), .int .u64 (FW x 3 : Int), .int .u64 (OW x 0 : Int), .int .u64 (OW x 1 : Int), .int .u64 (OW x 2 : Int), .int .u64 (OW x 3 : Int)] : Array Value)[j]?) := fun W hW => (cells_block (keepblk3 hW hgt)).1
      have hX6 := HX.out wa (Below.refl _ _)
      have hX6d : ∀ j, wa.drew.cell? ⟨wr.heap.size, j, none⟩ = (#[.int .i64 (x.length : Int), .int .u64 (FW x 0 : Int), .int .u64 (FW x 1 : Int), .int .u64 (FW x 2 : Int), .int .u64 (FW x 3 : Int), .int .u64 (OW x 0 : Int), .int .u64 (OW x 1 : Int), .int .u64 (OW x 2 : Int), .int .u64 (OW x 3 : Int)] : Array Value)[j]? := hX6
      have HOR : Hid (wa.ownsRow w2.heap.size 106 10 u3 (j + 1) (nms (c :: L.take j)) ∧ Below w2.heap.size w2 wa) := ⟨own_belQ oR hal, bel0 hB hal⟩
      have HXG : Hid (∀ W X, Below wa.heap.size wa W → W.grownBy X u3.ownBlock → ∀ j, X.cell? ⟨wr.heap.size, j, none⟩ = (#[.int .i64 (x.length : Int), .int .u64 (FW x 0 : Int), .int .u64 (FW x 1 : Int), .int .u64 (FW x 2 : Int), .int .u64 (FW x 3 : Int), .int .u64 (OW x 0 : Int), .int .u64 (OW x 1 : Int), .int .u64 (OW x 2 : Int), .int .u64 (OW x 3 : Int)] : Array Value)[j]?) := fun W X hW hg => by
        have hb := keepblk3 hW hgt
        refine (cells_block ((hg.block _ (lt_of_get3 hb) (fun e => ?_)).trans hb)).1
        have := (oR.lt _ e.symm).2
        omega
      clear hx hgt oR
      go_upto_region 5 with fail
      go_region_held3 (fun W => ∀ j, W.cell? ⟨wr.heap.size, j, none⟩ = (#[.int .i64 (x.length : Int), .int .u64 (FW x 0 : Int), .int .u64 (FW x 1 : Int), .int .u64 (FW x 2 : Int), .int .u64 (FW x 3 : Int), .int .u64 (OW x 0 : Int), .int .u64 (OW x 1 : Int), .int .u64 (OW x 2 : Int), .int .u64 (OW x 3 : Int)] : Array Value)[j]?) (first | with_reducible exact hX6 | with_reducible exact hX6d | with_reducible exact hk5 | with_reducible exact hk6 | with_reducible exact hk7) (first | (go_at_call 26; refine (HT.out x HST.out.2 _).mono ?_; rintro e w5 ⟨rfl, hb5⟩; have hb5' : Below wa.heap.size wa w5 := (by first | exact hb5 | exact und hb5); have hk5 := HX.out w5 hb5'; have hb6 : Below wa.heap.size wa (w5.alloc (.cells #[.string ⟨x.toArray⟩, .int .i64 (x.length : Int), .int .u64 (FW x 0 : Int), .int .u64 (FW x 1 : Int), .int .u64 (FW x 2 : Int), .int .u64 (FW x 3 : Int), .int .u64 (OW x 0 : Int), .int .u64 (OW x 1 : Int), .int .u64 (OW x 2 : Int), .int .u64 (OW x 3 : Int)] 106 (0, 0))) := belA hb5' _; have hk6 := HX.out _ hb6; have o5 := own_belQ HOR.out.1 hb5'; have hs5 := (bel0 HOR.out.2 hb5').size) | (refine step_append_lies _ (by rfl) _ _ _ (by rfl) w2.heap.size 106 i0 _ 10 88 Tryz.underlying101 hi hz0 hz1 hz2 rfl (by decide) u3 (j + 1) (nms (c :: L.take j)) (by rfl) (World.ownsRow.alloc o5 _) ⟨_, 0, none⟩ 1 1 (nm x) (by rfl) (by rfl) (World.news_of_block (cs := #[.string ⟨x.toArray⟩, .int .i64 (x.length : Int), .int .u64 (FW x 0 : Int), .int .u64 (FW x 1 : Int), .int .u64 (FW x 2 : Int), .int .u64 (FW x 3 : Int), .int .u64 (OW x 0 : Int), .int .u64 (OW x 1 : Int), .int .u64 (OW x 2 : Int), .int .u64 (OW x 3 : Int)]) (t := 106) (fr := (0, 0)) (alloc_get w5 _)) (by simp [nm, Value.oneCell']) (by omega) (by unfold maxLen; omega) (by omega) (by simp; omega) _ rfl ?_; intro g9 c9 w7 o7 g7 _ _; have hk7 := HXG.out _ _ hb6 g7))
      have HE : Hid (w7.ownsRow w2.heap.size 106 10 (.slice (some ⟨g9, 0, none⟩) (j + 1 + 1) c9) (j + 1 + 1) (nms (c :: L.take (j + 1))) ∧ Below w2.heap.size w2 w7) := by
        refine ⟨by rw [HST.out.1]; exact o7, (bel0 HOR.out.2 hb6).grown g7 (by simp; omega) (fun b e => (HOR.out.1.lt b e).1)⟩
      clear o7 g7 hk5 hk6 hk7 o5
      go_wp2_with fail
      go_roundw
      case rel => exact ⟨j + 1, by go_num, by omega, HE.out.1, HE.out.2⟩
      case measure => simp [intOf]; omega
    · have j1 : ¬ (j : Int) < (m : Int) := by omega
      obtain rfl : j = m := by omega
      have eL : L.take j = L := List.take_of_length_le (by rw [HN.out.1]; exact Nat.le_refl _)
      rw [eL] at oR
      rcases own_shapeQ oR with ⟨-, h0⟩ | ⟨g, c9, rfl, hc9, -, -, -⟩
      · omega
      have HFI : Hid (∀ W, W.ownsRow w2.heap.size 106 10 (.slice (some ⟨g, 0, none⟩) (j + 1) c9) (j + 1) (nms (c :: srt L)) → wr.grownBy W (some g) → W.ownsRow w.heap.size 106 10 (.slice (some ⟨g, 0, none⟩) (j + 1) c9) (j + 1) (nms (c :: srt L)) ∧ Below w.heap.size w W) := fun W h1 h2 => ⟨own_base h1 HN.out.2.2.2.size, bel0 HN.out.2.2.2 (hB.grown h2 hB.size (fun b e => (oR.lt b e).1))⟩
      have k1 : (1 : Int) ≤ (c9 : Int) := by omega
      have k2 : (j : Int) + 1 ≤ (c9 : Int) := by omega
      have k3 : 1 ≤ c9 := by omega
      by_cases hc1 : c9 = 1
      · have H1 := HSO.out L c j g c9 w2.heap.size ⟨g, 0, none⟩ wr HN.out.1 hm2 oR (.inl ⟨by omega, rfl⟩)
        subst hc1
        obtain rfl : j = 0 := by omega
        clear oR eL
        go_wp2_with fail
        refine H1.mono ?_
        rintro e W1 ⟨rfl, o9, g9⟩
        have HZ := HFI.out W1 o9 g9
        go_wp2_with fail
        go_ret
        exact ⟨_, rfl, HZ.1, HZ.2⟩
      · have H1 := HSO.out L c j g c9 w2.heap.size ⟨g, 10, none⟩ wr HN.out.1 hm2 oR (.inr rfl)
        clear oR eL
        go_wp2_with fail
        refine H1.mono ?_
        rintro e W1 ⟨rfl, o9, g9⟩
        have HZ := HFI.out W1 o9 g9
        go_wp2_with fail
        go_ret
        exact ⟨_, rfl, HZ.1, HZ.2⟩
end Go.Proofs.YtpbbmmkhlpkkbaaGreatDoor
namespace Go.Proofs
open Go.Shelf
def Tryz.l125_ren : Go.Shelf.Ren := ⟨fun | 125 => 90 | 128 => 120 | 129 => 121 | n => n, fun | 46 => 122 | 3 => 3 | 51 => 143 | 53 => 34 | 4 => 4 | 5 => 5 | 9 => 9 | n => n, fun | n => n⟩
theorem Tryz.l125 : Go.Proofs.Lays.n125 Tryz.prog Tryz.l125_ren := {
  mixed := by kernel_rfl
  f125 := Tryz.func90.trans (congrArg some (by kernel_rfl))
  f128 := Tryz.func120.trans (congrArg some (by kernel_rfl))
  f129 := Tryz.func121.trans (congrArg some (by kernel_rfl))
  t3 := Tryz.underlying3
  a3 := Tryz.isAgg3
  z3 := Tryz.sizeOf3
  v3 := Tryz.zeroValue3
  t4 := Tryz.underlying4
  a4 := Tryz.isAgg4
  z4 := Tryz.sizeOf4
  v4 := Tryz.zeroValue4
  t5 := Tryz.underlying5
  a5 := Tryz.isAgg5
  z5 := Tryz.sizeOf5
  v5 := Tryz.zeroValue5
  t9 := Tryz.underlying9
  a9 := Tryz.isAgg9
  z9 := Tryz.sizeOf9
  v9 := Tryz.zeroValue9
  t46 := Tryz.underlying122
  a46 := Tryz.isAgg122
  z46 := Tryz.sizeOf122
  v46 := Tryz.zeroValue122
  t51 := Tryz.underlying143
  a51 := Tryz.isAgg143
  z51 := Tryz.sizeOf143
  v51 := Tryz.zeroValue143
  t53 := Tryz.underlying34
  a53 := Tryz.isAgg34
  z53 := Tryz.sizeOf34
  v53 := Tryz.zeroValue34 }
def Tryz.l105_ren : Go.Shelf.Ren := ⟨fun | 105 => 53 | 212 => 80 | 99 => 81 | 165 => 82 | 166 => 25 | 170 => 83 | 169 => 27 | 263 => 102 | 264 => 103 | 206 => 104 | 240 => 59 | 241 => 105 | 276 => 87 | 277 => 126 | n => n, fun | 9 => 9 | 3 => 3 | 4 => 4 | 20 => 20 | 0 => 0 | 46 => 122 | 109 => 123 | 5 => 5 | 72 => 58 | 76 => 63 | 51 => 143 | 146 => 144 | 53 => 34 | 148 => 146 | 70 => 55 | 37 => 56 | 75 => 62 | 127 => 97 | 164 => 131 | 80 => 30 | n => n, fun | n => n⟩
theorem Tryz.l105 : Go.Proofs.Lays.n105 Tryz.prog Tryz.l105_ren := {
  mixed := by kernel_rfl
  f99 := Tryz.func81.trans (congrArg some (by kernel_rfl))
  f105 := Tryz.func53.trans (congrArg some (by kernel_rfl))
  f165 := Tryz.func82.trans (congrArg some (by kernel_rfl))
  f166 := Tryz.func25.trans (congrArg some (by kernel_rfl))
  f169 := Tryz.func27.trans (congrArg some (by kernel_rfl))
  f170 := Tryz.func83.trans (congrArg some (by kernel_rfl))
  f206 := Tryz.func104.trans (congrArg some (by kernel_rfl))
  f212 := Tryz.func80.trans (congrArg some (by kernel_rfl))
  f240 := Tryz.func59.trans (congrArg some (by kernel_rfl))
  f241 := Tryz.func105.trans (congrArg some (by kernel_rfl))
  f263 := Tryz.func102.trans (congrArg some (by kernel_rfl))
  f264 := Tryz.func103.trans (congrArg some (by kernel_rfl))
  f276 := Tryz.func87.trans (congrArg some (by kernel_rfl))
  f277 := Tryz.func126.trans (congrArg some (by kernel_rfl))
  t0 := Tryz.underlying0
  a0 := Tryz.isAgg0
  z0 := Tryz.sizeOf0
  v0 := Tryz.zeroValue0
  t3 := Tryz.underlying3
  a3 := Tryz.isAgg3
  z3 := Tryz.sizeOf3
  v3 := Tryz.zeroValue3
  t4 := Tryz.underlying4
  a4 := Tryz.isAgg4
  z4 := Tryz.sizeOf4
  v4 := Tryz.zeroValue4
  t5 := Tryz.underlying5
  a5 := Tryz.isAgg5
  z5 := Tryz.sizeOf5
  v5 := Tryz.zeroValue5
  t9 := Tryz.underlying9
  a9 := Tryz.isAgg9
  z9 := Tryz.sizeOf9
  v9 := Tryz.zeroValue9
  t20 := Tryz.underlying20
  a20 := Tryz.isAgg20
  z20 := Tryz.sizeOf20
  v20 := Tryz.zeroValue20
  t37 := Tryz.underlying56
  a37 := Tryz.isAgg56
  z37 := Tryz.sizeOf56
  v37 := Tryz.zeroValue56
  t46 := Tryz.underlying122
  a46 := Tryz.isAgg122
  z46 := Tryz.sizeOf122
  v46 := Tryz.zeroValue122
  t51 := Tryz.underlying143
  a51 := Tryz.isAgg143
  z51 := Tryz.sizeOf143
  v51 := Tryz.zeroValue143
  t53 := Tryz.underlying34
  a53 := Tryz.isAgg34
  z53 := Tryz.sizeOf34
  v53 := Tryz.zeroValue34
  t70 := Tryz.underlying55
  a70 := Tryz.isAgg55
  z70 := Tryz.sizeOf55
  v70 := Tryz.zeroValue55
  t72 := Tryz.underlying58
  a72 := Tryz.isAgg58
  z72 := Tryz.sizeOf58
  v72 := Tryz.zeroValue58
  t75 := Tryz.underlying62
  a75 := Tryz.isAgg62
  z75 := Tryz.sizeOf62
  v75 := Tryz.zeroValue62
  t76 := Tryz.underlying63
  a76 := Tryz.isAgg63
  z76 := Tryz.sizeOf63
  v76 := Tryz.zeroValue63
  t109 := Tryz.underlying123
  a109 := Tryz.isAgg123
  z109 := Tryz.sizeOf123
  v109 := Tryz.zeroValue123
  t127 := Tryz.underlying97
  a127 := Tryz.isAgg97
  z127 := Tryz.sizeOf97
  v127 := Tryz.zeroValue97
  t146 := Tryz.underlying144
  a146 := Tryz.isAgg144
  z146 := Tryz.sizeOf144
  v146 := Tryz.zeroValue144
  t148 := Tryz.underlying146
  a148 := Tryz.isAgg146
  z148 := Tryz.sizeOf146
  v148 := Tryz.zeroValue146
  t164 := Tryz.underlying131
  a164 := Tryz.isAgg131
  z164 := Tryz.sizeOf131
  v164 := Tryz.zeroValue131 }
end Go.Proofs

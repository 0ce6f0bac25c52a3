import Derived.Test.YtkcbkeimbpopcaaGreatDoorXAT
import Derived.Test.YtkcbkeimbpopcaaGreatDoorXAE
import Derived.Test.YtkcbkeimbpopcaaGreatDoorXAA
import Derived.Test.YtkcbkeimbpopcaaGreatDoorXBT
import Derived.Test.YtkcbkeimbpopcaaGreatDoorXBS
import Derived.Test.YtkcbkeimbpopcaaGreatDoorXAU
import Derived.Deep.AppendLies
import Derived.OneCell
import Derived.Lib.ConvBytes
import Derived.Laws.IdiomStrings
namespace Go.Proofs.YtkcbkeimbpopcaaGreatDoor
open Go.RowKit
set_option maxHeartbeats 400000 in
theorem before_no (a b : List UInt8) (w : World) (ha : good a = true) (hq0 : agB a b = false) :
    Calls Tryz.prog 65 #[cubeV a, cubeV b] w fun e w' => e = .returned (.tuple #[cubeV [], .bool false]) ∧ Below w.heap.size w w' := by
  have hq : Hid (agB a b = false) := hq0
  clear hq0
  rw [cubeV_nil]
  unfold cubeV cv
  go_enter Tryz.func65, Tryz.ntmps65
  go_wp2_with (go_at_call 91; refine (agrees_D a b false _ ha hq.out).mono ?_; rintro e w1 ⟨rfl, hb1⟩; obtain ⟨hc1, hf1⟩ := bcell hb1)
  have hk : w1.heap[w.heap.size + 2]? = some (.cells #[.int .i64 0, .int .u64 0, .int .u64 0, .int .u64 0, .int .u64 0, .int .u64 0, .int .u64 0, .int .u64 0, .int .u64 0] 54 (0, 0)) := by
    rw [hb1.block _ (by simp)]
    exact alloc_get2 _ _ _ _
  refine bodyPost_ret (v := .tuple #[cv 0 0 0 0 0 0 0 0 0, .bool false]) ?_ rfl ⟨rfl, ?_⟩
  · exact res_cube2 _ _ (w.heap.size + 2) _ _ _ _ _ _ _ _ _ Tryz.results65 rfl (put9_get _ _ _ _ _ _ _ _ _ hk)
  · exact put9_below _ _ _ _ _ _ _ _ _ (bel1 (bel1 (bel1 hb1))) (by omega)

theorem before_any (a b : List UInt8) (w : World) (ha : good a = true) :
    Calls Tryz.prog 65 #[cubeV a, cubeV b] w fun e w' => e = .returned (.tuple #[cubeV (beT a b), .bool (agB a b)]) ∧ Below w.heap.size w w' := by
  unfold beT
  cases hq : agB a b
  · exact before_no a b w ha hq
  · have hl := fitB_len (agB_fit hq)
    refine (before_raw _ _ _ _ _ _ _ _ _ _ _ _ _ _ _ _ _ _ w (fun W => agrees_D a b true W ha hq)).mono ?_
    rintro e w' ⟨rfl, hb⟩
    refine ⟨?_, hb⟩
    rw [FW_bf a b hl, FW_bf a b hl, FW_bf a b hl, FW_bf a b hl, OW_bf a b hl, OW_bf a b hl, OW_bf a b hl, OW_bf a b hl, if_pos rfl]
    have e : (bfT a b).length = a.length := zip_len _ a b hl
    unfold cubeV
    rw [e]
theorem before_D (a b M : List UInt8) (q : Bool) (w : World) (ha : good a = true) (hM : beT a b = M) (hq : agB a b = q) :
    Calls Tryz.prog 65 #[cubeV a, cubeV b] w fun e w' => e = .returned (.tuple #[cubeV M, .bool q]) ∧ Below w.heap.size w w' := by
  subst hM hq; exact before_any a b w ha
end Go.Proofs.YtkcbkeimbpopcaaGreatDoor
namespace Go.Proofs.YtkcbkeimbpopcaaGreatDoor
open Go.RowKit Go.Shelf
/-- the cubes of the headers that r writes into those of the list -/
def bfL (r : List UInt8) (L : List (List UInt8)) : List (List UInt8) := L.filterMap (fun m => if agB m r = true then some (beT m r) else none)
/-- the raw terms of Before -/
def bfN (r : List UInt8) (A : List (List UInt8 × List (List UInt8))) : List (List UInt8 × List (List UInt8)) := A.filterMap (fun t => if agB t.1 r = true then some (beT t.1 r, bfL r t.2) else none)
def bvE (b : Int) (r : List UInt8) : Int := if (!(b == 0) && (b == (r.length : Int))) = false then 11 else 0
def bvB (b : Int) (r : List UInt8) : Int := if bvE b r = 0 then b else 0
def bvT (b : Int) (A : List (List UInt8 × List (List UInt8))) (r : List UInt8) : List (List UInt8 × List (List UInt8)) := if bvE b r = 0 then ordT (topC (stl (bfN r A))) else []
theorem bfL_step {r : List UInt8} {L : List (List UInt8)} {k : Nat} {m : List UInt8} (h : L[k]? = some m) : bfL r (L.take (k + 1)) = bfL r (L.take k) ++ (if agB m r = true then [beT m r] else []) := by
  unfold bfL
  rw [List.take_add_one, h, List.filterMap_append]
  congr 1
  by_cases hq : agB m r = true <;> simp [hq]
theorem bfN_step {r : List UInt8} {A : List (List UInt8 × List (List UInt8))} {k : Nat} {a : List UInt8 × List (List UInt8)} (h : A[k]? = some a) : bfN r (A.take (k + 1)) = bfN r (A.take k) ++ (if agB a.1 r = true then [(beT a.1 r, bfL r a.2)] else []) := by
  unfold bfN
  rw [List.take_add_one, h, List.filterMap_append]
  congr 1
  by_cases hq : agB a.1 r = true <;> simp [hq]
theorem bfL_len (r : List UInt8) (L : List (List UInt8)) : (bfL r L).length ≤ L.length := List.length_filterMap_le _ _
theorem bfN_len (r : List UInt8) (A : List (List UInt8 × List (List UInt8))) : (bfN r A).length ≤ A.length := List.length_filterMap_le _ _
theorem bfN_sz (r : List UInt8) (A : List (List UInt8 × List (List UInt8))) : szC (bfN r A) ≤ szC A := by
  induction A with
  | nil => exact Nat.le_refl _
  | cons a l ih =>
    have e : bfN r (a :: l) = (if agB a.1 r = true then [(beT a.1 r, bfL r a.2)] else []) ++ bfN r l := by
      unfold bfN
      by_cases hq : agB a.1 r = true <;> simp [hq]
    have h2 := bfL_len r a.2
    rw [e, szC_append, szC]
    by_cases hq : agB a.1 r = true
    · rw [if_pos hq]
      simp only [szC]
      omega
    · rw [if_neg hq]
      simp only [szC]
      omega
theorem bfL_good {r : List UInt8} {L : List (List UInt8)} (gr : good r = true) (h : ∀ x ∈ L, good x = true) : ∀ x ∈ bfL r L, good x = true := fun x hx => by
  obtain ⟨m, hm, he⟩ := List.mem_filterMap.1 hx
  split at he
  · obtain rfl := Option.some.inj he
    exact good_beT _ _ (h m hm) gr
  · cases he
theorem bfN_gd {r : List UInt8} {A : List (List UInt8 × List (List UInt8))} (gr : good r = true) (h : gdC A) : gdC (bfN r A) := fun t ht => by
  obtain ⟨a, ha, he⟩ := List.mem_filterMap.1 ht
  split at he
  · obtain rfl := Option.some.inj he
    exact ⟨good_beT _ _ (h a ha).1 gr, bfL_good gr (h a ha).2⟩
  · cases he
theorem bf_rep {c : List UInt8} (h : c ≠ []) (gc : good c = true) : agB c (List.replicate c.length 120) = true ∧ beT c (List.replicate c.length 120) = c := by
  have h1 := (mt_rep h gc).1
  refine ⟨h1, ?_⟩
  unfold beT
  rw [if_pos h1]
  unfold bfT
  apply List.ext_getElem?
  intro k
  rw [List.getElem?_zipWith]
  by_cases hk : k < c.length
  · rw [rep_get _ _ hk, List.getElem?_eq_getElem hk]
    rfl
  · rw [List.getElem?_eq_none (by omega)]
theorem bfL_all {n : Nat} : ∀ {L : List (List UInt8)}, (∀ x ∈ L, x.length = n ∧ x ≠ [] ∧ good x = true) → bfL (List.replicate n 120) L = L
  | [], _ => rfl
  | a :: l, h => by
    obtain ⟨h1, h2, h3⟩ := h a List.mem_cons_self
    have h4 := bf_rep h2 h3
    rw [h1] at h4
    have ih := bfL_all (L := l) (fun x hx => h x (List.mem_cons_of_mem _ hx))
    unfold bfL at ih ⊢
    rw [List.filterMap_cons_some (b := a) (by rw [if_pos h4.1, h4.2]), ih]
theorem bfN_all {n : Nat} : ∀ {A : List (List UInt8 × List (List UInt8))}, (∀ t ∈ A, t.1.length = n ∧ t.1 ≠ [] ∧ FTm t) → bfN (List.replicate n 120) A = A
  | [], _ => rfl
  | a :: l, h => by
    obtain ⟨h1, h2, h3⟩ := h a List.mem_cons_self
    have h4 := bf_rep h2 h3.gc
    rw [h1] at h4
    have ih := bfN_all (A := l) (fun x hx => h x (List.mem_cons_of_mem _ hx))
    have hL : bfL (List.replicate n 120) a.2 = a.2 := bfL_all (fun x hx => by
      have hw := h3.wi x hx
      have hf : fitB x a.1 = true := by
        unfold wiB at hw
        exact (Bool.and_eq_true_iff.1 hw).1
      have hl := fitB_len hf
      refine ⟨by omega, fun e => ?_, h3.gl x hx⟩
      rw [e] at hl
      apply h2
      exact List.eq_nil_of_length_eq_zero (by simpa using hl.symm))
    unfold bfN at ih ⊢
    rw [List.filterMap_cons_some (b := a) (by rw [if_pos h4.1, h4.2, hL]), ih]
end Go.Proofs.YtkcbkeimbpopcaaGreatDoor
namespace Go.Proofs.YtkcbkeimbpopcaaGreatDoor
open Go.RowKit
/-- the header's bytes stand at gh, with z behind them -/
def hdr (W : World) (gh : Nat) (z : List Value) (h : List UInt8) : Prop := W.heap[gh]? = some (.cells (bys h ++ z).toArray 5 (h.length + z.length, h.length + z.length + 1))
theorem bys_len (h : List UInt8) : (bys h).length = h.length := by simp [bys]
theorem hdr_cell {W : World} {gh j : Nat} {z : List Value} {h : List UInt8} (hh : hdr W gh z h) (hj : j < h.length) : W.cell? ⟨gh, j, none⟩ = some (.int .u8 (h[j].toNat : Int)) := by
  unfold hdr at hh
  rw [cell_of_row W gh j _ _ _ hh]
  simp [bys, List.getElem?_append_left, hj]
theorem hdr_frozen {W : World} {gh j : Nat} {z : List Value} {h : List UInt8} (hh : hdr W gh z h) (hj : j < h.length) : W.frozen? ⟨gh, j, none⟩ = false := by
  unfold hdr at hh
  simp [World.frozen?, hh]
  omega
theorem hdr_set {W : World} {gh p : Nat} {z : List Value} {h : List UInt8} (x : UInt8) (hh : hdr W gh z h) (hp : p < h.length) : hdr (W.setCell ⟨gh, p, none⟩ (.int .u8 (x.toNat : Int))) gh z (h.set p x) := by
  have e : (bys h ++ z).toArray.setIfInBounds p (.int .u8 (x.toNat : Int)) = (bys (h.set p x) ++ z).toArray := by
    have := List.set_append_left (s := bys h) (t := z) (i := p) (x := Value.int .u8 (x.toNat : Int)) (by rw [bys_len]; exact hp)
    rw [List.setIfInBounds_toArray, this]
    simp [bys, List.map_set]
  have := set_get (j := p) (.int .u8 (x.toNat : Int)) hh
  rw [e] at this
  unfold hdr
  simpa using this
theorem hdr_alloc {W : World} {gh : Nat} {z : List Value} {h : List UInt8} (hh : hdr W gh z h) (o : Obj) : hdr (W.alloc o) gh z h := allocblk hh o
theorem hdr_new (w : World) (t : List UInt8) : hdr (Lib.bytesWorld w 5 ⟨t.toArray⟩) w.heap.size (List.replicate (grownCap w t.length 0 5 - t.length) (Value.int .u8 0)) t := by
  have h := Lib.bytesWorld_at_new w 5 ⟨t.toArray⟩
  have hz : (⟨t.toArray⟩ : ByteArray).size = t.length := by show t.toArray.size = _; simp
  have e : Lib.bytesCells w 5 ⟨t.toArray⟩ = (bys t ++ List.replicate (grownCap w t.length 0 5 - t.length) (Value.int .u8 0)).toArray := by
    unfold Lib.bytesCells
    rw [hz]
    simp [bys]
  unfold hdr
  rw [h, e]
  simp [bys_len]
theorem bel_bytes (w : World) (s : ByteArray) : Below w.heap.size w (Lib.bytesWorld w 5 s) := by
  have hb0 := ((Below.refl w.heap.size w).drew).alloc (Nat.le_refl _) (.cells (Lib.bytesCells w 5 s) 5)
  refine ⟨?_, ?_, ?_, ?_, fun k hk => Lib.bytesWorld_at_old w 5 s k hk⟩
  · simp only [Lib.bytesWorld, World.freeze]; exact hb0.os
  · simp only [Lib.bytesWorld, World.freeze]; exact hb0.tape
  · simp only [Lib.bytesWorld, World.freeze]; exact hb0.output
  · rw [Lib.bytesWorld_size]; omega
theorem cfl_str2 (a b : ByteArray) (k : Nat) (ha : k < a.size) (hb : k < b.size) (ga : good a.data.toList = true) (gb : good b.data.toList = true) (p1 p2 p3 : Bool) (n1 : ((a[k].toNat : Int) != 120) = p1) (n2 : ((b[k].toNat : Int) != 120) = p2) (n3 : ((a[k].toNat : Int) != (b[k].toNat : Int)) = p3) :
    cfl a.data.toList b.data.toList k = (p1 && p2 && p3) := by
  refine cfl_str a b k ha hb ga gb p1 p2 p3 n1 n2 ?_
  rw [← n3, byte_bne2, byte_bne2]
  congr 1
  rw [Bool.eq_iff_iff, beq_iff_eq, beq_iff_eq]
  exact eq_comm
/-- the bytes behind k rounds -/
def bxk (T a : List UInt8) (k : Nat) : List UInt8 := T.take k ++ a.drop k
theorem bxk_zero (T a : List UInt8) : bxk T a 0 = a := by simp [bxk]
theorem bxk_all (T a : List UInt8) (h : T.length = a.length) : bxk T a a.length = T := by
  unfold bxk
  rw [← h, List.take_length, h, List.drop_length, List.append_nil]
theorem bxk_len (T a : List UInt8) (h : T.length = a.length) (k : Nat) (hk : k ≤ a.length) : (bxk T a k).length = a.length := by
  unfold bxk
  rw [List.length_append, List.length_take, List.length_drop]
  omega
theorem bxk_succ (T a : List UInt8) (h : T.length = a.length) (k : Nat) (hk : k < a.length) : bxk T a (k + 1) = (bxk T a k).set k (T[k]'(by omega)) := by
  have ht : k < T.length := by omega
  have h2 : (T.take k).length = k := by rw [List.length_take]; omega
  unfold bxk
  have e := List.set_append_right (s := T.take k) (t := a.drop k) (i := k) (x := T[k]) (by omega)
  rw [e, h2, Nat.sub_self, List.take_add_one, List.getElem?_eq_getElem ht, List.drop_eq_getElem_cons hk, List.append_assoc]
  rfl
theorem bxk_keep (T a : List UInt8) (h : T.length = a.length) (k : Nat) (hk : k < a.length) (e : T[k]'(by omega) = a[k]) : bxk T a (k + 1) = bxk T a k := by
  have ht : k < T.length := by omega
  unfold bxk
  rw [List.take_add_one, List.getElem?_eq_getElem ht, List.drop_eq_getElem_cons hk, e]
  simp
set_option maxRecDepth 100000 in
set_option maxHeartbeats 4000000 in
theorem dbefore_loop (a b : ByteArray) (w : World) (ga : good a.data.toList = true) (gb : good b.data.toList = true) (hf0 : fitB a.data.toList b.data.toList = true) :
    Calls Tryz.prog 68 #[.string a, .string b] w fun e w' => e = .returned (.tuple #[.string ⟨(beT a.data.toList b.data.toList).toArray⟩, .bool (agB a.data.toList b.data.toList)]) ∧ Below w.heap.size w w' := by
  have hf : Hid (fitB a.data.toList b.data.toList = true) := hf0
  obtain ⟨-, -, hz0⟩ := fit_yes hf0
  have hz : Hid (a.size = b.size) := hz0
  have hl : a.size ≤ 256 := by simpa using good_len ga
  have LA : Hid (a.data.toList.length = a.size) := by simp [Hid]
  obtain ⟨T, hT0⟩ : ∃ T, bfT a.data.toList b.data.toList = T := ⟨_, rfl⟩
  have HT : Hid (bfT a.data.toList b.data.toList = T) := hT0
  have hTl0 : T.length = a.data.toList.length := by rw [← hT0]; exact zip_len _ _ _ (fitB_len hf0)
  have HTL : Hid (T.length = a.data.toList.length) := hTl0
  have HG : Hid (∀ (k : Nat) (ha : k < a.size) (hb : k < b.size) (ht : k < T.length), T[k] = if b[k] == 120 then a[k] else 120) := fun k ha hb ht => by
    have h1 := zip_get (fun x y => if y == 120 then x else 120) _ _ (fitB_len hf0) k (by simpa using ha)
    have h2 : T[k]? = some (if b[k] == 120 then a[k] else 120) := by rw [← hT0]; exact h1
    rw [List.getElem?_eq_getElem ht] at h2
    exact Option.some.inj h2
  have hcv := Lib.run_convert_string_bytes (P := Tryz.prog) w 9 68 5 a Tryz.underlying9 Tryz.underlying68 Tryz.underlying5
  have ea : (⟨a.data.toList.toArray⟩ : ByteArray) = a := by cases a; rfl
  have hN := hdr_new w a.data.toList
  have B2 := bel_bytes w a
  rw [ea] at hN
  obtain ⟨cp, hcp⟩ : ∃ c, grownCap w a.size 0 5 = c := ⟨_, rfl⟩
  obtain ⟨z, hz'⟩ : ∃ z, List.replicate (grownCap w a.data.toList.length 0 5 - a.data.toList.length) (Value.int .u8 0) = z := ⟨_, rfl⟩
  rw [hcp] at hcv
  rw [hz'] at hN
  obtain ⟨w2, hw2⟩ : ∃ w2, Lib.bytesWorld w 5 a = w2 := ⟨_, rfl⟩
  rw [hw2] at hcv hN B2
  clear hf0 hz0 hT0 hTl0 hw2 hz' hcp ea
  go_enter Tryz.func68, Tryz.ntmps68
  go_wp2_with fail
  clear hcv
  go_loopw [7] (fun i wr => ∃ k : Nat, k ≤ a.size ∧ i = .int .i64 k ∧ hdr wr w.heap.size z (bxk T a.data.toList k) ∧ Below w.heap.size w wr ∧ Hid (∀ j, j < k → cfl a.data.toList b.data.toList j = false)) (fun i _ => a.size - (intOf i).toNat)
  case atStart => exact ⟨0, Nat.zero_le _, rfl, by rw [bxk_zero]; exact hN, B2, fun j h => by omega⟩
  case round =>
    clear hN B2
    obtain ⟨k, hk, rfl, hrow, hB, hok⟩ := hrel
    by_cases hlt : k < a.size
    · have hkb : k < b.size := by rw [← hz.out]; exact hlt
      have hkl : k < a.data.toList.length := by rw [LA.out]; exact hlt
      have hkT : k < T.length := by rw [HTL.out]; exact hkl
      have i0' : (0 : Int) ≤ (k : Int) := by omega
      have i1 : (k : Int) < (a.size : Int) := by omega
      have i2 : (k : Int) < (b.size : Int) := by omega
      obtain ⟨p1, n1⟩ : ∃ p, ((a[k].toNat : Int) != 120) = p := ⟨_, rfl⟩
      obtain ⟨p2, n2⟩ : ∃ p, ((b[k].toNat : Int) != 120) = p := ⟨_, rfl⟩
      obtain ⟨p3, n3⟩ : ∃ p, ((a[k].toNat : Int) != (b[k].toNat : Int)) = p := ⟨_, rfl⟩
      have hH : Hid (cfl a.data.toList b.data.toList k = (p1 && p2 && p3)) := cfl_str2 a b k hlt hkb ga gb p1 p2 p3 n1 n2 n3
      have hlt' : Hid (k < a.data.toList.length) := hkl
      have M2 : Hid ((b[k] == 120) = !p2) := by
        unfold Hid
        rw [← n2, show ((b[k].toNat : Int) != 120) = !(b[k] == 120) from byte_bne b[k] 120 (by decide)]; simp
      have GT : Hid (T[k] = if b[k] == 120 then a[k] else 120) := HG.out k hlt hkb hkT
      have hjk : k < (bxk T a.data.toList k).length := by rw [bxk_len _ _ HTL.out k (by omega)]; exact hkl
      obtain ⟨cv0, hc2⟩ : ∃ v, wr.cell? ⟨w.heap.size, k, none⟩ = some v := ⟨_, hdr_cell hrow hjk⟩
      have hf2 := hdr_frozen hrow hjk
      have ea : a.data.toList[k] = a[k] := rfl
      have HST : Hid (p2 = true → hdr (wr.setCell ⟨w.heap.size, k, none⟩ (.int .u8 120)) w.heap.size z (bxk T a.data.toList (k + 1))) := fun hp => by
        have h1 := hdr_set (x := 120) hrow hjk
        rw [bxk_succ _ _ HTL.out k hkl, GT.out, M2.out, hp]
        exact h1
      have HKP : Hid (p2 = false → hdr wr w.heap.size z (bxk T a.data.toList (k + 1))) := fun hp => by
        rw [bxk_keep _ _ HTL.out k hkl (by rw [GT.out, M2.out, hp]; rfl)]
        exact hrow
      have HB : Hid (Below w.heap.size w wr) := hB
      clear hB hrow hjk ea
      cases p2
      · go_wp2
        go_roundw
        case rel => exact ⟨k + 1, by omega, by go_num, HKP.out rfl, HB.out, cfl_succ hok.out (by rw [hH.out]; cases p1 <;> rfl)⟩
        case measure => simp [intOf]; omega
      · cases p1 <;> cases p3
        all_goals
          go_wp2
          go_quiet (fail)
          go_wp2
          first
            | (have hC : agB a.data.toList b.data.toList = false := agB_conf _ _ k hlt'.out hH.out
               have hC' : Hid (agB a.data.toList b.data.toList = false) := hC
               clear hC
               go_ret2
               exact ⟨by unfold beT; rw [hC'.out]; rfl, HB.out.trans (below_drewN _ _ _)⟩)
            | (have hC : cfl a.data.toList b.data.toList k = false := hH.out
               have hC' := cfl_succ hok.out hC
               clear hC
               go_roundw
               case rel => exact ⟨k + 1, by omega, by go_num, HST.out (by trivial), (HB.out.trans (below_drewN _ _ _)).setCell (Nat.le_refl _) _, hC'⟩
               case measure => simp [intOf]; omega)
    · have hkn : k = a.size := by omega
      have hA : agB a.data.toList b.data.toList = true := agB_all _ _ hf.out (fun j hj => hok.out j (by rw [LA.out] at hj; omega))
      have hM : Hid (beT a.data.toList b.data.toList = T) := by unfold Hid beT; rw [if_pos hA]; exact HT.out
      have hA' : Hid (agB a.data.toList b.data.toList = true) := hA
      have e1 : bxk T a.data.toList k = T := by rw [hkn, ← LA.out]; exact bxk_all _ _ HTL.out
      rw [e1] at hrow
      have eT : T.length = a.size := by rw [HTL.out]; exact LA.out
      have hcv := run_convert_bytes_back (P := Tryz.prog) wr 68 9 5 ⟨w.heap.size, 0, none⟩ cp T Tryz.underlying68 Tryz.underlying5 Tryz.underlying9 (fun j hj => by rw [add_plain]; simpa using hdr_cell hrow hj)
      rw [eT] at hcv
      clear hA hrow e1 eT
      go_wp2
      go_ret2
      exact ⟨by rw [hM.out, hA'.out]; rfl, hB⟩
theorem dbefore_any (A B : List UInt8) (w : World) (ga : good A = true) (gb : good B = true) (hf : fitB A B = true) :
    Calls Tryz.prog 68 #[.string ⟨A.toArray⟩, .string ⟨B.toArray⟩] w fun e w' => e = .returned (.tuple #[.string ⟨(beT A B).toArray⟩, .bool (agB A B)]) ∧ Below w.heap.size w w' := dbefore_loop ⟨A.toArray⟩ ⟨B.toArray⟩ w ga gb hf
end Go.Proofs.YtkcbkeimbpopcaaGreatDoor

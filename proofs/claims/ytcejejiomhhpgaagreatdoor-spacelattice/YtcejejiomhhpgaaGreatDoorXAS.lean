import Derived.Test.YtcejejiomhhpgaaGreatDoorXAR
import Derived.Deep.RegionHeld3
import Derived.Test.YtcejejiomhhpgaaGreatDoorXAO
namespace Go.Proofs.YtcejejiomhhpgaaGreatDoor
open Go.RowKit

/-- place k of a header suits a cube's -/
def okH (t h : List UInt8) (k : Nat) : Bool := match t[k]?, h[k]? with | some x, some d => (d == 48 || d == 49) && (x == 120 || x == d) | _, _ => true
/-- P1.4 -/
def hasB (t h : List UInt8) : Bool := !t.isEmpty && (t.length == h.length) && allTo (okH t h) t.length

theorem byteH_bne (x : UInt8) (n : Nat) (hn : n < 256) : ((x.toNat : Int) != (n : Int)) = !(x == UInt8.ofNat n) := by
  unfold bne
  congr 1
  rw [Bool.eq_iff_iff, beq_iff_eq, beq_iff_eq]
  constructor
  · intro e
    have : x.toNat = n := by omega
    rw [← this]; simp
  · intro e; subst e
    simp [UInt8.toNat_ofNat', Nat.mod_eq_of_lt hn]

theorem byteH_bne2 (x y : UInt8) : ((x.toNat : Int) != (y.toNat : Int)) = !(x == y) := by
  unfold bne
  congr 1
  rw [Bool.eq_iff_iff, beq_iff_eq, beq_iff_eq]
  constructor
  · intro e; exact UInt8.toNat_inj.1 (by omega)
  · intro e; subst e; rfl

theorem okH_eq (t : List UInt8) (s : ByteArray) (k : Nat) (hk : k < t.length) (hks : k < s.size) (p1 p2 p3 p4 : Bool) (n1 : ((s[k].toNat : Int) != 48) = p1) (n2 : ((s[k].toNat : Int) != 49) = p2) (n3 : ((t[k].toNat : Int) != 120) = p3) (n4 : ((t[k].toNat : Int) != (s[k].toNat : Int)) = p4) :
    okH t s.data.toList k = !((p1 && p2) || (p3 && p4)) := by
  have e1 := byteH_bne s[k] 48 (by decide)
  have e2 := byteH_bne s[k] 49 (by decide)
  have e3 := byteH_bne t[k] 120 (by decide)
  have e4 := byteH_bne2 t[k] s[k]
  have hs : s.data.toList[k]? = some s[k] := by rw [List.getElem?_eq_getElem (by simpa using hks)]; rfl
  simp only [okH, hs, List.getElem?_eq_getElem hk]
  subst n1 n2 n3 n4
  have f1 : ((s[k].toNat : Int) != 48) = !(s[k] == 48) := e1
  have f2 : ((s[k].toNat : Int) != 49) = !(s[k] == 49) := e2
  have f3 : ((t[k].toNat : Int) != 120) = !(t[k] == 120) := e3
  rw [f1, f2, f3, e4]
  cases (s[k] == 48) <;> cases (s[k] == 49) <;> cases (t[k] == 120) <;> cases (t[k] == s[k]) <;> rfl

set_option maxHeartbeats 400000 in
theorem has_off (t : List UInt8) (s : ByteArray) (w : World) (hs : s.size ≤ maxLen) (h : t.length = 0 ∨ s.size ≠ t.length) :
    Calls Tryz.prog 47 #[cubeV t, .string s] w fun e w' => e = .returned (.bool false) ∧ Below w.heap.size w w' := by
  unfold maxLen at hs
  unfold cubeV cv
  by_cases h0 : t.length = 0
  · have b0 : ((t.length : Int) == 0) = true := by rw [h0]; rfl
    clear h h0
    go_enter Tryz.func47, Tryz.ntmps47
    go_wp2
    go_ret
    exact ⟨rfl, (Below.refl _ _).alloc (Nat.le_refl _) _⟩
  · have b0 : ((t.length : Int) == 0) = false := by simp; intro e; subst e; simp at h0
    have b1 : ((s.size : Int) != (t.length : Int)) = true := by simp; omega
    clear h h0
    go_enter Tryz.func47, Tryz.ntmps47
    go_wp2
    go_ret
    exact ⟨rfl, (Below.refl _ _).alloc (Nat.le_refl _) _⟩

theorem okH_succ {p : Nat → Bool} {k : Nat} {q : Bool} (h : ∀ j, j < k → p j = true) (hk : p k = q) (hq : q = true := by rfl) : ∀ j, j < k + 1 → p j = true := by
  intro j hj
  by_cases e : j = k
  · subst e; rw [hk, hq]
  · exact h j (by omega)

set_option maxHeartbeats 2000000 in
theorem has_loop (t : List UInt8) (s : ByteArray) (w : World) (hg : good t = true) (h0 : 1 ≤ t.length) (hsz : s.size = t.length) :
    Calls Tryz.prog 47 #[cubeV t, .string s] w fun e w' => e = .returned (.bool (allTo (okH t s.data.toList) t.length)) ∧ Below w.heap.size w w' := by
  have hl := good_len hg
  have HS : Hid (s.size = t.length) := hsz
  have b0 : ((t.length : Int) == 0) = false := by simp; intro e; subst e; simp at h0
  have b1 : ((s.size : Int) != (t.length : Int)) = false := by simp [hsz]
  clear hsz
  unfold cubeV cv
  go_enter Tryz.func47, Tryz.ntmps47
  go_wp2
  clear b0 b1
  go_loopw [20] (fun i wr => ∃ k : Nat, k ≤ t.length ∧ i = .int .i64 k ∧ Hid (∀ j, j < k → okH t s.data.toList j = true) ∧ Below (w.heap.size + 1) (w.alloc (.cells #[.int .i64 (t.length : Int), .int .u64 (FW t 0 : Int), .int .u64 (FW t 1 : Int), .int .u64 (FW t 2 : Int), .int .u64 (FW t 3 : Int), .int .u64 (OW t 0 : Int), .int .u64 (OW t 1 : Int), .int .u64 (OW t 2 : Int), .int .u64 (OW t 3 : Int)] 56)) wr) (fun i _ => t.length - (intOf i).toNat)
  case atStart => exact ⟨0, Nat.zero_le _, rfl, fun j h => by omega, Below.refl _ _⟩
  case round =>
    obtain ⟨k, hk, rfl, hok, hB⟩ := hrel
    have hsz1 : w.heap.size + 1 ≤ wr.heap.size := by have := hB.size; simpa using this
    by_cases hlt : k < t.length
    · have hc : ∀ b o, b < w.heap.size + 1 → wr.cell? ⟨b, o, none⟩ = (w.alloc (.cells #[.int .i64 (t.length : Int), .int .u64 (FW t 0 : Int), .int .u64 (FW t 1 : Int), .int .u64 (FW t 2 : Int), .int .u64 (FW t 3 : Int), .int .u64 (OW t 0 : Int), .int .u64 (OW t 1 : Int), .int .u64 (OW t 2 : Int), .int .u64 (OW t 3 : Int)] 56)).cell? ⟨b, o, none⟩ := fun b o h => hB.cell (p := ⟨b, o, none⟩) h
      have hks : k < s.size := by rw [HS.out]; exact hlt
      have i0 : (0 : Int) ≤ (k : Int) := by omega
      have i1 : (k : Int) < (s.size : Int) := by omega
      obtain ⟨p1, n1⟩ : ∃ p, ((s[k].toNat : Int) != 48) = p := ⟨_, rfl⟩
      obtain ⟨p2, n2⟩ : ∃ p, ((s[k].toNat : Int) != 49) = p := ⟨_, rfl⟩
      obtain ⟨p3, n3⟩ : ∃ p, ((t[k].toNat : Int) != 120) = p := ⟨_, rfl⟩
      obtain ⟨p4, n4⟩ : ∃ p, ((t[k].toNat : Int) != (s[k].toNat : Int)) = p := ⟨_, rfl⟩
      have hH : Hid (okH t s.data.toList k = !((p1 && p2) || (p3 && p4))) := okH_eq t s k hlt hks p1 p2 p3 p4 n1 n2 n3 n4
      go_wp2
      have hS : ∀ j, wr.cell? ⟨w.heap.size, j, none⟩ = (#[.int .i64 (t.length : Int), .int .u64 (FW t 0 : Int), .int .u64 (FW t 1 : Int), .int .u64 (FW t 2 : Int), .int .u64 (FW t 3 : Int), .int .u64 (OW t 0 : Int), .int .u64 (OW t 1 : Int), .int .u64 (OW t 2 : Int), .int .u64 (OW t 3 : Int)] : Array Value)[j]? := fun j => by rw [hc _ _ (by omega)]; simp
      go_region_held3 (fun W => ∀ j, W.cell? ⟨w.heap.size, j, none⟩ = (#[.int .i64 (t.length : Int), .int .u64 (FW t 0 : Int), .int .u64 (FW t 1 : Int), .int .u64 (FW t 2 : Int), .int .u64 (FW t 3 : Int), .int .u64 (OW t 0 : Int), .int .u64 (OW t 1 : Int), .int .u64 (OW t 2 : Int), .int .u64 (OW t 3 : Int)] : Array Value)[j]?) (first | exact hS | (intro j; exact (hb2.cell (p := ⟨w.heap.size, j, none⟩) (by simp; omega)).trans (hS j))) (first | (go_at_call 46; refine (at_any t _ k _ hg rfl hlt).mono ?_; rintro e w2 ⟨rfl, hb2⟩))
      all_goals
        have hB2 := hB.trans ((undrew hb2).mono hsz1)
        clear hS hc hb2 hB
        cases p1 <;> cases p2 <;> cases p3 <;> cases p4
        all_goals
          go_wp2
          first
            | (have hF : okH t s.data.toList k = false := hH.out
               have hF2 := allTo_false (n := t.length) k hlt hF
               go_ret
               refine ⟨?_, ((Below.refl _ _).alloc (Nat.le_refl _) _).trans (hB2.mono (by omega))⟩
               rw [hF2]
               rfl)
            | (have hF : okH t s.data.toList k = true := hH.out
               have hF2 := okH_succ hok.out hF
               go_roundw
               case rel => exact ⟨k + 1, by omega, by go_num, hF2, hB2⟩
               case measure => simp [intOf]; omega)
    · have hkn : k = t.length := by omega
      have hA : Hid (allTo (okH t s.data.toList) t.length = true) := (allTo_iff _ _).2 (fun j hj => hok.out j (by omega))
      clear hok
      go_wp2
      go_ret
      exact ⟨by rw [hA.out]; rfl, ((Below.refl _ _).alloc (Nat.le_refl _) _).trans (hB.mono (by omega))⟩

theorem has_any (t : List UInt8) (s : ByteArray) (w : World) (hg : good t = true) (hs : s.size ≤ maxLen) :
    Calls Tryz.prog 47 #[cubeV t, .string s] w fun e w' => e = .returned (.bool (hasB t s.data.toList)) ∧ Below w.heap.size w w' := by
  have hlen : s.data.toList.length = s.size := by simp
  unfold hasB
  by_cases h : t.length = 0 ∨ s.size ≠ t.length
  · have e : (!t.isEmpty && (t.length == s.data.toList.length)) = false := by
      rw [hlen]
      rcases h with h | h
      · have : t = [] := List.eq_nil_of_length_eq_zero h
        subst this; rfl
      · have : (t.length == s.size) = false := by simp; omega
        rw [this]; simp
    rw [e]
    exact has_off t s w hs h
  · have e : (!t.isEmpty && (t.length == s.data.toList.length)) = true := by
      rw [hlen]
      cases t with
      | nil => simp at h
      | cons x l => simp at h ⊢; omega
    rw [e, Bool.true_and]
    exact has_loop t s w hg (by omega) (by omega)
theorem has_D (t : List UInt8) (s : ByteArray) (q : Bool) (w : World) (hg : good t = true) (hs : s.size ≤ maxLen) (h : hasB t s.data.toList = q) :
    Calls Tryz.prog 47 #[cubeV t, .string s] w fun e w' => e = .returned (.bool q) ∧ Below w.heap.size w w' := by
  subst h; exact has_any t s w hg hs
end Go.Proofs.YtcejejiomhhpgaaGreatDoor
namespace Go.Proofs.YtcejejiomhhpgaaGreatDoor
open Go.RowKit
/-- a header is in a term -/
def thB (c : List UInt8) (L : List (List UInt8)) (h : List UInt8) : Bool := hasB c h && L.all (fun m => !hasB m h)
set_option maxRecDepth 100000 in
set_option maxHeartbeats 4000000 in
theorem thas_any (zc : List UInt8) (zq : Option Addr) (zk : Nat) (zL : List (List UInt8)) (s : ByteArray) (w : World) (hz : IRC w zq zL) (gc : good zc = true) (gL : ∀ x ∈ zL, good x = true) (hzl : zL.length ≤ 1000000) (hs : s.size ≤ maxLen) : Calls Tryz.prog 28 #[.agg #[.int .i64 (zc.length : Int), .int .u64 (FW zc 0 : Int), .int .u64 (FW zc 1 : Int), .int .u64 (FW zc 2 : Int), .int .u64 (FW zc 3 : Int), .int .u64 (OW zc 0 : Int), .int .u64 (OW zc 1 : Int), .int .u64 (OW zc 2 : Int), .int .u64 (OW zc 3 : Int), .slice zq zL.length zk], .string s] w fun e w' => e = .returned (.bool (thB zc zL s.data.toList)) ∧ Below w.heap.size w w' := by
  obtain ⟨w2, hw2⟩ : ∃ w2, w.alloc (.cells #[.int .i64 (zc.length : Int), .int .u64 (FW zc 0 : Int), .int .u64 (FW zc 1 : Int), .int .u64 (FW zc 2 : Int), .int .u64 (FW zc 3 : Int), .int .u64 (OW zc 0 : Int), .int .u64 (OW zc 1 : Int), .int .u64 (OW zc 2 : Int), .int .u64 (OW zc 3 : Int), .slice zq zL.length zk] 59 (0, 0)) = w2 := ⟨_, rfl⟩
  have ha : w2.heap[w.heap.size]? = some (.cells #[.int .i64 (zc.length : Int), .int .u64 (FW zc 0 : Int), .int .u64 (FW zc 1 : Int), .int .u64 (FW zc 2 : Int), .int .u64 (FW zc 3 : Int), .int .u64 (OW zc 0 : Int), .int .u64 (OW zc 1 : Int), .int .u64 (OW zc 2 : Int), .int .u64 (OW zc 3 : Int), .slice zq zL.length zk] 59 (0, 0)) := by rw [← hw2]; exact alloc_get _ _
  have hB : Below w.heap.size w w2 := by rw [← hw2]; exact belA (Below.refl _ _) _
  have HA : Hid (w2.heap[w.heap.size]? = some (.cells #[.int .i64 (zc.length : Int), .int .u64 (FW zc 0 : Int), .int .u64 (FW zc 1 : Int), .int .u64 (FW zc 2 : Int), .int .u64 (FW zc 3 : Int), .int .u64 (OW zc 0 : Int), .int .u64 (OW zc 1 : Int), .int .u64 (OW zc 2 : Int), .int .u64 (OW zc 3 : Int), .slice zq zL.length zk] 59 (0, 0)) ∧ Below w.heap.size w w2) := ⟨ha, hB⟩
  have HU : Hid (IRC w zq zL ∧ ∀ x ∈ zL, good x = true) := ⟨hz, gL⟩
  have HS : Hid (s.size ≤ maxLen) := hs
  obtain ⟨hca, -⟩ := cells_block ha
  obtain ⟨P, hP⟩ : ∃ P : List UInt8 → Bool, (fun m => !hasB m s.data.toList) = P := ⟨_, rfl⟩
  have HP : Hid (∀ m, P m = !hasB m s.data.toList) := fun n => by rw [← hP]
  have HCV : Hid (thB zc zL s.data.toList = (hasB zc s.data.toList && zL.all P)) := by unfold Hid thB; rw [hP]
  have H1 : Hid (Calls Tryz.prog 47 #[.agg #[.int .i64 (zc.length : Int), .int .u64 (FW zc 0 : Int), .int .u64 (FW zc 1 : Int), .int .u64 (FW zc 2 : Int), .int .u64 (FW zc 3 : Int), .int .u64 (OW zc 0 : Int), .int .u64 (OW zc 1 : Int), .int .u64 (OW zc 2 : Int), .int .u64 (OW zc 3 : Int)], .string s] w2 fun e w' => e = .returned (.bool (hasB zc s.data.toList)) ∧ Below w2.heap.size w2 w') := has_any zc s w2 gc hs
  clear ha hB hz gc gL hs hP
  cases hw : hasB zc s.data.toList with
  | false =>
    rw [hw] at H1 HCV
    clear hw
    go_enter Tryz.func28, Tryz.ntmps28
    go_wp2_with fail
    refine H1.out.mono ?_
    rintro e W1 ⟨rfl, hb1⟩
    go_wp2_with fail
    go_ret
    exact ⟨by rw [HCV.out]; rfl, bel0 HA.out.2 hb1⟩
  | true =>
    rw [hw] at H1 HCV
    clear hw
    go_enter Tryz.func28, Tryz.ntmps28
    go_wp2_with fail
    refine H1.out.mono ?_
    rintro e W1 ⟨rfl, hb1⟩
    obtain ⟨hcb1, -⟩ := cells_block (keepblk3 hb1 HA.out.1)
    have HB1 : Hid (Below w2.heap.size w2 W1) := hb1
    clear hca hw2 hb1
    go_wp2_with fail
    clear hcb1
    go_loopw [15] (fun vi wr => ∃ j : Nat, vi = .int .i64 j ∧ j ≤ zL.length ∧ Hid (∀ i t, i < j → zL[i]? = some t → P t = true) ∧ Below w2.heap.size w2 wr) (fun vi _ => zL.length - (intOf vi).toNat)
    case atStart => exact ⟨0, rfl, Nat.zero_le _, fun i t hi => by omega, HB1.out⟩
    case round =>
      clear HB1
      obtain ⟨j, rfl, hj, hok, hBj⟩ := hrel
      by_cases hlt : j < zL.length
      · have j1 : (j : Int) < (zL.length : Int) := by omega
        have j0 : (0 : Int) ≤ (j : Int) := by omega
        obtain ⟨t, ht⟩ : ∃ t, zL[j]? = some t := ⟨_, List.getElem?_eq_getElem hlt⟩
        obtain ⟨g, o0, rfl, p0, p1, p2, p3, p4, p5, p6, p7, p8⟩ := HU.out.1 wr (bel0 HA.out.2 hBj) j t ht
        have gt := HU.out.2 t (List.mem_of_getElem? ht)
        obtain ⟨wa, hwa⟩ : ∃ wa, wr.alloc (.cells #[.int .i64 (t.length : Int), .int .u64 (FW t 0 : Int), .int .u64 (FW t 1 : Int), .int .u64 (FW t 2 : Int), .int .u64 (FW t 3 : Int), .int .u64 (OW t 0 : Int), .int .u64 (OW t 1 : Int), .int .u64 (OW t 2 : Int), .int .u64 (OW t 3 : Int)] 56 (0, 0)) = wa := ⟨_, rfl⟩
        have hal : Below wr.heap.size wr wa := by rw [← hwa]; exact belA (Below.refl _ _) _
        have hgt : wa.heap[wr.heap.size]? = some (.cells #[.int .i64 (t.length : Int), .int .u64 (FW t 0 : Int), .int .u64 (FW t 1 : Int), .int .u64 (FW t 2 : Int), .int .u64 (FW t 3 : Int), .int .u64 (OW t 0 : Int), .int .u64 (OW t 1 : Int), .int .u64 (OW t 2 : Int), .int .u64 (OW t 3 : Int)] 56 (0, 0)) := by rw [← hwa]; exact alloc_get _ _
        obtain ⟨hct, -⟩ := cells_block hgt
        have hBa : Below w2.heap.size w2 wa := bel0 hBj hal
        have HT : Hid (zL[j]? = some t) := ht
        obtain ⟨q, hq⟩ : ∃ q, hasB t s.data.toList = q := ⟨_, rfl⟩
        have HPt : Hid (P t = !q) := by unfold Hid; rw [HP.out, hq]
        have H2 : Hid (Calls Tryz.prog 47 #[.agg #[.int .i64 (t.length : Int), .int .u64 (FW t 0 : Int), .int .u64 (FW t 1 : Int), .int .u64 (FW t 2 : Int), .int .u64 (FW t 3 : Int), .int .u64 (OW t 0 : Int), .int .u64 (OW t 1 : Int), .int .u64 (OW t 2 : Int), .int .u64 (OW t 3 : Int)], .string s] wa fun e w' => e = .returned (.bool q) ∧ Below wa.heap.size wa w') := has_D t s q wa gt HS.out hq
        clear ht gt hgt hal hq
        cases q with
        | true =>
          have HX : Hid (zL.all P = false) := all_fail HT.out (by rw [HPt.out]; rfl)
          go_wp2_with fail
          refine H2.out.mono ?_
          rintro e W5 ⟨rfl, hb5⟩
          clear hct hwa p0 p1 p2 p3 p4 p5 p6 p7 p8
          go_wp2_with fail
          go_ret
          exact ⟨by rw [HCV.out, HX.out]; rfl, bel0 HA.out.2 (bel0 hBa hb5)⟩
        | false =>
          have HX : Hid (∀ i t, i < j + 1 → zL[i]? = some t → P t = true) := fun i v hi hv => by
            by_cases e : i = j
            · subst e
              rw [HT.out] at hv
              obtain rfl := Option.some.inj hv
              rw [HPt.out]; rfl
            · exact hok.out i v (by omega) hv
          go_wp2_with fail
          refine H2.out.mono ?_
          rintro e W5 ⟨rfl, hb5⟩
          clear hct hwa p0 p1 p2 p3 p4 p5 p6 p7 p8
          go_wp2_with fail
          go_roundw
          case rel => exact ⟨j + 1, by go_num, by omega, HX, bel0 hBa hb5⟩
          case measure => simp [intOf]; omega
      · have j1 : ¬ (j : Int) < (zL.length : Int) := by omega
        have HX : Hid (zL.all P = true) := all_step hok.out (by omega)
        clear hok
        go_wp2_with fail
        go_ret
        exact ⟨by rw [HCV.out, HX.out]; rfl, bel0 HA.out.2 hBj⟩
end Go.Proofs.YtcejejiomhhpgaaGreatDoor
namespace Go.Proofs.YtcejejiomhhpgaaGreatDoor
open Go.RowKit
/-- a header is in one of the terms -/
def hsB (Ts : List (List UInt8 × List (List UInt8))) (h : List UInt8) : Bool := Ts.any (fun t => thB t.1 t.2 h)
theorem any_noV {α : Type} {L : List α} {p : α → Bool} {n : Nat} (hn : L.length ≤ n) (h : ∀ j t, j < n → L[j]? = some t → p t = false) : L.any p = false := by
  rw [List.any_eq_false]
  intro t ht
  obtain ⟨j, hj, he⟩ := List.getElem_of_mem ht
  rw [h j t (by omega) (by rw [List.getElem?_eq_getElem hj, he])]
  simp
set_option maxRecDepth 100000 in
set_option maxHeartbeats 4000000 in
theorem sHas_any (b : Int) (V : Value) (Ts : List (List UInt8 × List (List UInt8))) (B : Nat) (s : ByteArray) (w : World) (h : SPL w B V Ts) (hg : ∀ t ∈ Ts, good t.1 = true ∧ ∀ x ∈ t.2, good x = true) (hl : Ts.length ≤ 1000000) (hll : ∀ t ∈ Ts, t.2.length ≤ 1000000) (hs : s.size ≤ maxLen) : Calls Tryz.prog 12 #[.agg #[.int .i64 b, V, .bool false], .string s] w fun e w' => e = .returned (.bool (hsB Ts s.data.toList)) ∧ Below w.heap.size w w' := by
  obtain ⟨Z, rfl, h2, h3⟩ := h
  obtain ⟨p, c, rfl⟩ := shapeQ1 h2
  rw [List.length_map] at hl
  obtain ⟨w2, hw2⟩ : ∃ w2, w.alloc (.cells #[.int .i64 b, .slice p Z.length c, .bool false] 26 (0, 0)) = w2 := ⟨_, rfl⟩
  have h0 : w2.heap[w.heap.size]? = some (.cells #[.int .i64 b, .slice p Z.length c, .bool false] 26 (0, 0)) := by rw [← hw2]; exact alloc_get _ _
  have hB : Below w.heap.size w w2 := by rw [← hw2]; exact belA (Below.refl _ _) _
  obtain ⟨hc0, -⟩ := cells_block h0
  have HR : Hid (IRZ w p Z) := IRZ_own h2 rfl
  have HZ : Hid (∀ z ∈ Z, IRC w z.q z.L ∧ (good z.c = true ∧ ∀ x ∈ z.L, good x = true) ∧ z.L.length ≤ 1000000) := fun z hz => ⟨IRC_own (h3 z hz) rfl, hg z.cont (List.mem_map_of_mem (f := ZT.cont) hz), hll z.cont (List.mem_map_of_mem (f := ZT.cont) hz)⟩
  have HS : Hid (s.size ≤ maxLen) := hs
  obtain ⟨P, hP⟩ : ∃ P : ZT → Bool, (fun z => thB z.c z.L s.data.toList) = P := ⟨_, rfl⟩
  have HP : Hid (∀ z, P z = thB z.c z.L s.data.toList) := fun n => by rw [← hP]
  have HCV : Hid (hsB (Z.map ZT.cont) s.data.toList = Z.any P) := by
    unfold Hid hsB
    rw [List.any_map, ← hP]
    rfl
  have HBB : Hid (Below w.heap.size w w2) := hB
  obtain ⟨n, hn⟩ : ∃ n, Z.length = n := ⟨_, rfl⟩
  rw [hn] at hc0 hw2 hl ⊢
  have HN : Hid (Z.length = n) := hn
  clear h0 hB h2 h3 hg hll hs hP hn
  go_enter Tryz.func12, Tryz.ntmps12
  go_wp2_with fail
  clear hc0 hw2
  go_loopw [10] (fun vi wr => ∃ j : Nat, vi = .int .i64 j ∧ j ≤ n ∧ Hid (∀ i t, i < j → Z[i]? = some t → P t = false) ∧ Below w2.heap.size w2 wr) (fun vi _ => n - (intOf vi).toNat)
  case atStart => exact ⟨0, rfl, Nat.zero_le _, fun i t hi => by omega, Below.refl _ _⟩
  case round =>
    obtain ⟨j, rfl, hj, hok, hBj⟩ := hrel
    by_cases hlt : j < n
    · have j1 : (j : Int) < (n : Int) := by omega
      have j0 : (0 : Int) ≤ (j : Int) := by omega
      obtain ⟨z, hz⟩ : ∃ z, Z[j]? = some z := ⟨_, List.getElem?_eq_getElem (by rw [HN.out]; exact hlt)⟩
      obtain ⟨zc, zq, zk, zL⟩ := z
      obtain ⟨g, o0, rfl, p0, p1, p2, p3, p4, p5, p6, p7, p8, p9⟩ := HR.out wr (bel0 HBB.out hBj) j _ hz
      simp only at p0 p1 p2 p3 p4 p5 p6 p7 p8 p9
      have hZ := HZ.out _ (List.mem_of_getElem? hz)
      obtain ⟨wa, hwa⟩ : ∃ wa, wr.alloc (.cells #[.int .i64 (zc.length : Int), .int .u64 (FW zc 0 : Int), .int .u64 (FW zc 1 : Int), .int .u64 (FW zc 2 : Int), .int .u64 (FW zc 3 : Int), .int .u64 (OW zc 0 : Int), .int .u64 (OW zc 1 : Int), .int .u64 (OW zc 2 : Int), .int .u64 (OW zc 3 : Int), .slice zq zL.length zk] 59 (0, 0)) = wa := ⟨_, rfl⟩
      have hal : Below wr.heap.size wr wa := by rw [← hwa]; exact belA (Below.refl _ _) _
      have hgt : wa.heap[wr.heap.size]? = some (.cells #[.int .i64 (zc.length : Int), .int .u64 (FW zc 0 : Int), .int .u64 (FW zc 1 : Int), .int .u64 (FW zc 2 : Int), .int .u64 (FW zc 3 : Int), .int .u64 (OW zc 0 : Int), .int .u64 (OW zc 1 : Int), .int .u64 (OW zc 2 : Int), .int .u64 (OW zc 3 : Int), .slice zq zL.length zk] 59 (0, 0)) := by rw [← hwa]; exact alloc_get _ _
      obtain ⟨hct, -⟩ := cells_block hgt
      have hBa : Below w2.heap.size w2 wa := bel0 hBj hal
      have HT : Hid (Z[j]? = some ⟨zc, zq, zk, zL⟩) := hz
      obtain ⟨q, hq⟩ : ∃ q, thB zc zL s.data.toList = q := ⟨_, rfl⟩
      have HPt : Hid (P ⟨zc, zq, zk, zL⟩ = q) := by unfold Hid; rw [HP.out, hq]
      have H2 : Hid (Calls Tryz.prog 28 #[.agg #[.int .i64 (zc.length : Int), .int .u64 (FW zc 0 : Int), .int .u64 (FW zc 1 : Int), .int .u64 (FW zc 2 : Int), .int .u64 (FW zc 3 : Int), .int .u64 (OW zc 0 : Int), .int .u64 (OW zc 1 : Int), .int .u64 (OW zc 2 : Int), .int .u64 (OW zc 3 : Int), .slice zq zL.length zk], .string s] wa fun e w' => e = .returned (.bool q) ∧ Below wa.heap.size wa w') := by
        unfold Hid
        rw [← hq]
        exact thas_any zc zq zk zL s wa (hZ.1.later (bel0 HBB.out hBa)) hZ.2.1.1 hZ.2.1.2 hZ.2.2 HS.out
      clear hz hgt hal hq hZ
      cases q with
      | true =>
        have HX : Hid (Z.any P = true) := List.any_eq_true.2 ⟨_, List.mem_of_getElem? HT.out, HPt.out⟩
        go_wp2_with fail
        refine H2.out.mono ?_
        rintro e W5 ⟨rfl, hb5⟩
        clear hct hwa p0 p1 p2 p3 p4 p5 p6 p7 p8 p9
        go_wp2_with fail
        go_ret
        exact ⟨by rw [HCV.out, HX.out]; rfl, bel0 HBB.out (bel0 hBa hb5)⟩
      | false =>
        have HX : Hid (∀ i t, i < j + 1 → Z[i]? = some t → P t = false) := fun i v hi hv => by
          by_cases e : i = j
          · subst e
            rw [HT.out] at hv
            obtain rfl := Option.some.inj hv
            exact HPt.out
          · exact hok.out i v (by omega) hv
        go_wp2_with fail
        refine H2.out.mono ?_
        rintro e W5 ⟨rfl, hb5⟩
        clear hct hwa p0 p1 p2 p3 p4 p5 p6 p7 p8 p9
        go_wp2_with fail
        go_roundw
        case rel => exact ⟨j + 1, by go_num, by omega, HX, bel0 hBa hb5⟩
        case measure => simp [intOf]; omega
    · have j1 : ¬ (j : Int) < (n : Int) := by omega
      have HX : Hid (Z.any P = false) := any_noV (n := j) (by rw [HN.out]; omega) hok.out
      clear hok
      go_wp2_with fail
      go_ret
      exact ⟨by rw [HCV.out, HX.out]; rfl, bel0 HBB.out hBj⟩
end Go.Proofs.YtcejejiomhhpgaaGreatDoor

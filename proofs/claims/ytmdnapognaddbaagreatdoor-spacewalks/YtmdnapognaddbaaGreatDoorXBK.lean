import Derived.Test.YtmdnapognaddbaaGreatDoorXAM
import Derived.Deep.RegionHeld3
import Derived.Test.YtmdnapognaddbaaGreatDoorXAI
import Derived.Test.YtmdnapognaddbaaGreatDoorXAK
import Derived.Test.YtmdnapognaddbaaGreatDoorXAS
import Derived.Test.YtmdnapognaddbaaGreatDoorXAU
import Derived.Test.YtmdnapognaddbaaGreatDoorXBA
import Derived.Test.YtmdnapognaddbaaGreatDoorXBH
import Derived.Test.YtmdnapognaddbaaGreatDoorXBJ
namespace Go.Proofs.YtmdnapognaddbaaGreatDoor
open Go.RowKit

/-- place k of a header suits a cube's -/
def okH (t h : List UInt8) (k : Nat) : Bool := match t[k]?, h[k]? with | some x, some d => (d == 48 || d == 49) && (x == 120 || x == d) | _, _ => true
/-- P1.4 -/
def hasB (t h : List UInt8) : Bool := !t.isEmpty && (t.length == h.length) && allTo (okH t h) t.length

theorem byteH_bne (x : UInt8) (n : Nat) (hn : n < 256) : ((x.toNat : Int) != (n : Int)) = !(x == UInt8.ofNat n) := by
  unfold bne
  congr 1
  rw [Bool.eq_iff_iff, beq_iff_eq, beq_iff_eq]
  constructor
  · intro e
    have : x.toNat = n := by omega
    rw [← this]; simp
  · intro e; subst e
    simp [UInt8.toNat_ofNat', Nat.mod_eq_of_lt hn]

theorem byteH_bne2 (x y : UInt8) : ((x.toNat : Int) != (y.toNat : Int)) = !(x == y) := by
  unfold bne
  congr 1
  rw [Bool.eq_iff_iff, beq_iff_eq, beq_iff_eq]
  constructor
  · intro e; exact UInt8.toNat_inj.1 (by omega)
  · intro e; subst e; rfl

theorem okH_eq (t : List UInt8) (s : ByteArray) (k : Nat) (hk : k < t.length) (hks : k < s.size) (p1 p2 p3 p4 : Bool) (n1 : ((s[k].toNat : Int) != 48) = p1) (n2 : ((s[k].toNat : Int) != 49) = p2) (n3 : ((t[k].toNat : Int) != 120) = p3) (n4 : ((t[k].toNat : Int) != (s[k].toNat : Int)) = p4) :
    okH t s.data.toList k = !((p1 && p2) || (p3 && p4)) := by
  have e1 := byteH_bne s[k] 48 (by decide)
  have e2 := byteH_bne s[k] 49 (by decide)
  have e3 := byteH_bne t[k] 120 (by decide)
  have e4 := byteH_bne2 t[k] s[k]
  have hs : s.data.toList[k]? = some s[k] := by rw [List.getElem?_eq_getElem (by simpa using hks)]; rfl
  simp only [okH, hs, List.getElem?_eq_getElem hk]
  subst n1 n2 n3 n4
  have f1 : ((s[k].toNat : Int) != 48) = !(s[k] == 48) := e1
  have f2 : ((s[k].toNat : Int) != 49) = !(s[k] == 49) := e2
  have f3 : ((t[k].toNat : Int) != 120) = !(t[k] == 120) := e3
  rw [f1, f2, f3, e4]
  cases (s[k] == 48) <;> cases (s[k] == 49) <;> cases (t[k] == 120) <;> cases (t[k] == s[k]) <;> rfl

set_option maxHeartbeats 400000 in
theorem has_off (t : List UInt8) (s : ByteArray) (w : World) (hs : s.size ≤ maxLen) (h : t.length = 0 ∨ s.size ≠ t.length) :
    Calls Tryz.prog 68 #[cubeV t, .string s] w fun e w' => e = .returned (.bool false) ∧ Below w.heap.size w w' := by
  unfold maxLen at hs
  unfold cubeV cv
  by_cases h0 : t.length = 0
  · have b0 : ((t.length : Int) == 0) = true := by rw [h0]; rfl
    clear h h0
    go_enter Tryz.func68, Tryz.ntmps68
    go_wp2
    go_ret
    exact ⟨rfl, (Below.refl _ _).alloc (Nat.le_refl _) _⟩
  · have b0 : ((t.length : Int) == 0) = false := by simp; intro e; subst e; simp at h0
    have b1 : ((s.size : Int) != (t.length : Int)) = true := by simp; omega
    clear h h0
    go_enter Tryz.func68, Tryz.ntmps68
    go_wp2
    go_ret
    exact ⟨rfl, (Below.refl _ _).alloc (Nat.le_refl _) _⟩

theorem okH_succ {p : Nat → Bool} {k : Nat} {q : Bool} (h : ∀ j, j < k → p j = true) (hk : p k = q) (hq : q = true := by rfl) : ∀ j, j < k + 1 → p j = true := by
  intro j hj
  by_cases e : j = k
  · subst e; rw [hk, hq]
  · exact h j (by omega)

set_option maxHeartbeats 2000000 in
theorem has_loop (t : List UInt8) (s : ByteArray) (w : World) (hg : good t = true) (h0 : 1 ≤ t.length) (hsz : s.size = t.length) :
    Calls Tryz.prog 68 #[cubeV t, .string s] w fun e w' => e = .returned (.bool (allTo (okH t s.data.toList) t.length)) ∧ Below w.heap.size w w' := by
  have hl := good_len hg
  have HS : Hid (s.size = t.length) := hsz
  have b0 : ((t.length : Int) == 0) = false := by simp; intro e; subst e; simp at h0
  have b1 : ((s.size : Int) != (t.length : Int)) = false := by simp [hsz]
  clear hsz
  unfold cubeV cv
  go_enter Tryz.func68, Tryz.ntmps68
  go_wp2
  clear b0 b1
  go_loopw [20] (fun i wr => ∃ k : Nat, k ≤ t.length ∧ i = .int .i64 k ∧ Hid (∀ j, j < k → okH t s.data.toList j = true) ∧ Below (w.heap.size + 1) (w.alloc (.cells #[.int .i64 (t.length : Int), .int .u64 (FW t 0 : Int), .int .u64 (FW t 1 : Int), .int .u64 (FW t 2 : Int), .int .u64 (FW t 3 : Int), .int .u64 (OW t 0 : Int), .int .u64 (OW t 1 : Int), .int .u64 (OW t 2 : Int), .int .u64 (OW t 3 : Int)] 40)) wr) (fun i _ => t.length - (intOf i).toNat)
  case atStart => exact ⟨0, Nat.zero_le _, rfl, fun j h => by omega, Below.refl _ _⟩
  case round =>
    obtain ⟨k, hk, rfl, hok, hB⟩ := hrel
    have hsz1 : w.heap.size + 1 ≤ wr.heap.size := by have := hB.size; simpa using this
    by_cases hlt : k < t.length
    · have hc : ∀ b o, b < w.heap.size + 1 → wr.cell? ⟨b, o, none⟩ = (w.alloc (.cells #[.int .i64 (t.length : Int), .int .u64 (FW t 0 : Int), .int .u64 (FW t 1 : Int), .int .u64 (FW t 2 : Int), .int .u64 (FW t 3 : Int), .int .u64 (OW t 0 : Int), .int .u64 (OW t 1 : Int), .int .u64 (OW t 2 : Int), .int .u64 (OW t 3 : Int)] 40)).cell? ⟨b, o, none⟩ := fun b o h => hB.cell (p := ⟨b, o, none⟩) h
      have hks : k < s.size := by rw [HS.out]; exact hlt
      have i0 : (0 : Int) ≤ (k : Int) := by omega
      have i1 : (k : Int) < (s.size : Int) := by omega
      obtain ⟨p1, n1⟩ : ∃ p, ((s[k].toNat : Int) != 48) = p := ⟨_, rfl⟩
      obtain ⟨p2, n2⟩ : ∃ p, ((s[k].toNat : Int) != 49) = p := ⟨_, rfl⟩
      obtain ⟨p3, n3⟩ : ∃ p, ((t[k].toNat : Int) != 120) = p := ⟨_, rfl⟩
      obtain ⟨p4, n4⟩ : ∃ p, ((t[k].toNat : Int) != (s[k].toNat : Int)) = p := ⟨_, rfl⟩
      have hH : Hid (okH t s.data.toList k = !((p1 && p2) || (p3 && p4))) := okH_eq t s k hlt hks p1 p2 p3 p4 n1 n2 n3 n4
      go_wp2
      have hS : ∀ j, wr.cell? ⟨w.heap.size, j, none⟩ = (#[.int .i64 (t.length : Int), .int .u64 (FW t 0 : Int), .int .u64 (FW t 1 : Int), .int .u64 (FW t 2 : Int), .int .u64 (FW t 3 : Int), .int .u64 (OW t 0 : Int), .int .u64 (OW t 1 : Int), .int .u64 (OW t 2 : Int), .int .u64 (OW t 3 : Int)] : Array Value)[j]? := fun j => by rw [hc _ _ (by omega)]; simp
      go_region_held3 (fun W => ∀ j, W.cell? ⟨w.heap.size, j, none⟩ = (#[.int .i64 (t.length : Int), .int .u64 (FW t 0 : Int), .int .u64 (FW t 1 : Int), .int .u64 (FW t 2 : Int), .int .u64 (FW t 3 : Int), .int .u64 (OW t 0 : Int), .int .u64 (OW t 1 : Int), .int .u64 (OW t 2 : Int), .int .u64 (OW t 3 : Int)] : Array Value)[j]?) (first | exact hS | (intro j; exact (hb2.cell (p := ⟨w.heap.size, j, none⟩) (by simp; omega)).trans (hS j))) (first | (go_at_call 25; refine (at_any t _ k _ hg rfl hlt).mono ?_; rintro e w2 ⟨rfl, hb2⟩))
      all_goals
        have hB2 := hB.trans ((undrew hb2).mono hsz1)
        clear hS hc hb2 hB
        cases p1 <;> cases p2 <;> cases p3 <;> cases p4
        all_goals
          go_wp2
          first
            | (have hF : okH t s.data.toList k = false := hH.out
               have hF2 := allTo_false (n := t.length) k hlt hF
               go_ret
               refine ⟨?_, ((Below.refl _ _).alloc (Nat.le_refl _) _).trans (hB2.mono (by omega))⟩
               rw [hF2]
               rfl)
            | (have hF : okH t s.data.toList k = true := hH.out
               have hF2 := okH_succ hok.out hF
               go_roundw
               case rel => exact ⟨k + 1, by omega, by go_num, hF2, hB2⟩
               case measure => simp [intOf]; omega)
    · have hkn : k = t.length := by omega
      have hA : Hid (allTo (okH t s.data.toList) t.length = true) := (allTo_iff _ _).2 (fun j hj => hok.out j (by omega))
      clear hok
      go_wp2
      go_ret
      exact ⟨by rw [hA.out]; rfl, ((Below.refl _ _).alloc (Nat.le_refl _) _).trans (hB.mono (by omega))⟩

theorem has_any (t : List UInt8) (s : ByteArray) (w : World) (hg : good t = true) (hs : s.size ≤ maxLen) :
    Calls Tryz.prog 68 #[cubeV t, .string s] w fun e w' => e = .returned (.bool (hasB t s.data.toList)) ∧ Below w.heap.size w w' := by
  have hlen : s.data.toList.length = s.size := by simp
  unfold hasB
  by_cases h : t.length = 0 ∨ s.size ≠ t.length
  · have e : (!t.isEmpty && (t.length == s.data.toList.length)) = false := by
      rw [hlen]
      rcases h with h | h
      · have : t = [] := List.eq_nil_of_length_eq_zero h
        subst this; rfl
      · have : (t.length == s.size) = false := by simp; omega
        rw [this]; simp
    rw [e]
    exact has_off t s w hs h
  · have e : (!t.isEmpty && (t.length == s.data.toList.length)) = true := by
      rw [hlen]
      cases t with
      | nil => simp at h
      | cons x l => simp at h ⊢; omega
    rw [e, Bool.true_and]
    exact has_loop t s w hg (by omega) (by omega)
theorem has_D (t : List UInt8) (s : ByteArray) (q : Bool) (w : World) (hg : good t = true) (hs : s.size ≤ maxLen) (h : hasB t s.data.toList = q) :
    Calls Tryz.prog 68 #[cubeV t, .string s] w fun e w' => e = .returned (.bool q) ∧ Below w.heap.size w w' := by
  subst h; exact has_any t s w hg hs
end Go.Proofs.YtmdnapognaddbaaGreatDoor
namespace Go.Proofs.YtmdnapognaddbaaGreatDoor
open Go.RowKit
/-- a header is in a term -/
def thB (c : List UInt8) (L : List (List UInt8)) (h : List UInt8) : Bool := hasB c h && L.all (fun m => !hasB m h)
set_option maxRecDepth 100000 in
set_option maxHeartbeats 4000000 in
theorem thas_any (zc : List UInt8) (zq : Option Addr) (zk : Nat) (zL : List (List UInt8)) (s : ByteArray) (w : World) (hz : IRC w zq zL) (gc : good zc = true) (gL : ∀ x ∈ zL, good x = true) (hzl : zL.length ≤ 1000000) (hs : s.size ≤ maxLen) : Calls Tryz.prog 44 #[.agg #[.int .i64 (zc.length : Int), .int .u64 (FW zc 0 : Int), .int .u64 (FW zc 1 : Int), .int .u64 (FW zc 2 : Int), .int .u64 (FW zc 3 : Int), .int .u64 (OW zc 0 : Int), .int .u64 (OW zc 1 : Int), .int .u64 (OW zc 2 : Int), .int .u64 (OW zc 3 : Int), .slice zq zL.length zk], .string s] w fun e w' => e = .returned (.bool (thB zc zL s.data.toList)) ∧ Below w.heap.size w w' := by
  obtain ⟨w2, hw2⟩ : ∃ w2, w.alloc (.cells #[.int .i64 (zc.length : Int), .int .u64 (FW zc 0 : Int), .int .u64 (FW zc 1 : Int), .int .u64 (FW zc 2 : Int), .int .u64 (FW zc 3 : Int), .int .u64 (OW zc 0 : Int), .int .u64 (OW zc 1 : Int), .int .u64 (OW zc 2 : Int), .int .u64 (OW zc 3 : Int), .slice zq zL.length zk] 82 (0, 0)) = w2 := ⟨_, rfl⟩
  have ha : w2.heap[w.heap.size]? = some (.cells #[.int .i64 (zc.length : Int), .int .u64 (FW zc 0 : Int), .int .u64 (FW zc 1 : Int), .int .u64 (FW zc 2 : Int), .int .u64 (FW zc 3 : Int), .int .u64 (OW zc 0 : Int), .int .u64 (OW zc 1 : Int), .int .u64 (OW zc 2 : Int), .int .u64 (OW zc 3 : Int), .slice zq zL.length zk] 82 (0, 0)) := by rw [← hw2]; exact alloc_get _ _
  have hB : Below w.heap.size w w2 := by rw [← hw2]; exact belA (Below.refl _ _) _
  have HA : Hid (w2.heap[w.heap.size]? = some (.cells #[.int .i64 (zc.length : Int), .int .u64 (FW zc 0 : Int), .int .u64 (FW zc 1 : Int), .int .u64 (FW zc 2 : Int), .int .u64 (FW zc 3 : Int), .int .u64 (OW zc 0 : Int), .int .u64 (OW zc 1 : Int), .int .u64 (OW zc 2 : Int), .int .u64 (OW zc 3 : Int), .slice zq zL.length zk] 82 (0, 0)) ∧ Below w.heap.size w w2) := ⟨ha, hB⟩
  have HU : Hid (IRC w zq zL ∧ ∀ x ∈ zL, good x = true) := ⟨hz, gL⟩
  have HS : Hid (s.size ≤ maxLen) := hs
  obtain ⟨hca, -⟩ := cells_block ha
  obtain ⟨P, hP⟩ : ∃ P : List UInt8 → Bool, (fun m => !hasB m s.data.toList) = P := ⟨_, rfl⟩
  have HP : Hid (∀ m, P m = !hasB m s.data.toList) := fun n => by rw [← hP]
  have HCV : Hid (thB zc zL s.data.toList = (hasB zc s.data.toList && zL.all P)) := by unfold Hid thB; rw [hP]
  have H1 : Hid (Calls Tryz.prog 68 #[.agg #[.int .i64 (zc.length : Int), .int .u64 (FW zc 0 : Int), .int .u64 (FW zc 1 : Int), .int .u64 (FW zc 2 : Int), .int .u64 (FW zc 3 : Int), .int .u64 (OW zc 0 : Int), .int .u64 (OW zc 1 : Int), .int .u64 (OW zc 2 : Int), .int .u64 (OW zc 3 : Int)], .string s] w2 fun e w' => e = .returned (.bool (hasB zc s.data.toList)) ∧ Below w2.heap.size w2 w') := has_any zc s w2 gc hs
  clear ha hB hz gc gL hs hP
  cases hw : hasB zc s.data.toList with
  | false =>
    rw [hw] at H1 HCV
    clear hw
    go_enter Tryz.func44, Tryz.ntmps44
    go_wp2_with fail
    refine H1.out.mono ?_
    rintro e W1 ⟨rfl, hb1⟩
    go_wp2_with fail
    go_ret
    exact ⟨by rw [HCV.out]; rfl, bel0 HA.out.2 hb1⟩
  | true =>
    rw [hw] at H1 HCV
    clear hw
    go_enter Tryz.func44, Tryz.ntmps44
    go_wp2_with fail
    refine H1.out.mono ?_
    rintro e W1 ⟨rfl, hb1⟩
    obtain ⟨hcb1, -⟩ := cells_block (keepblk3 hb1 HA.out.1)
    have HB1 : Hid (Below w2.heap.size w2 W1) := hb1
    clear hca hw2 hb1
    go_wp2_with fail
    clear hcb1
    go_loopw [15] (fun vi wr => ∃ j : Nat, vi = .int .i64 j ∧ j ≤ zL.length ∧ Hid (∀ i t, i < j → zL[i]? = some t → P t = true) ∧ Below w2.heap.size w2 wr) (fun vi _ => zL.length - (intOf vi).toNat)
    case atStart => exact ⟨0, rfl, Nat.zero_le _, fun i t hi => by omega, HB1.out⟩
    case round =>
      clear HB1
      obtain ⟨j, rfl, hj, hok, hBj⟩ := hrel
      by_cases hlt : j < zL.length
      · have j1 : (j : Int) < (zL.length : Int) := by omega
        have j0 : (0 : Int) ≤ (j : Int) := by omega
        obtain ⟨t, ht⟩ : ∃ t, zL[j]? = some t := ⟨_, List.getElem?_eq_getElem hlt⟩
        obtain ⟨g, o0, rfl, p0, p1, p2, p3, p4, p5, p6, p7, p8⟩ := HU.out.1 wr (bel0 HA.out.2 hBj) j t ht
        have gt := HU.out.2 t (List.mem_of_getElem? ht)
        obtain ⟨wa, hwa⟩ : ∃ wa, wr.alloc (.cells #[.int .i64 (t.length : Int), .int .u64 (FW t 0 : Int), .int .u64 (FW t 1 : Int), .int .u64 (FW t 2 : Int), .int .u64 (FW t 3 : Int), .int .u64 (OW t 0 : Int), .int .u64 (OW t 1 : Int), .int .u64 (OW t 2 : Int), .int .u64 (OW t 3 : Int)] 40 (0, 0)) = wa := ⟨_, rfl⟩
        have hal : Below wr.heap.size wr wa := by rw [← hwa]; exact belA (Below.refl _ _) _
        have hgt : wa.heap[wr.heap.size]? = some (.cells #[.int .i64 (t.length : Int), .int .u64 (FW t 0 : Int), .int .u64 (FW t 1 : Int), .int .u64 (FW t 2 : Int), .int .u64 (FW t 3 : Int), .int .u64 (OW t 0 : Int), .int .u64 (OW t 1 : Int), .int .u64 (OW t 2 : Int), .int .u64 (OW t 3 : Int)] 40 (0, 0)) := by rw [← hwa]; exact alloc_get _ _
        obtain ⟨hct, -⟩ := cells_block hgt
        have hBa : Below w2.heap.size w2 wa := bel0 hBj hal
        have HT : Hid (zL[j]? = some t) := ht
        obtain ⟨q, hq⟩ : ∃ q, hasB t s.data.toList = q := ⟨_, rfl⟩
        have HPt : Hid (P t = !q) := by unfold Hid; rw [HP.out, hq]
        have H2 : Hid (Calls Tryz.prog 68 #[.agg #[.int .i64 (t.length : Int), .int .u64 (FW t 0 : Int), .int .u64 (FW t 1 : Int), .int .u64 (FW t 2 : Int), .int .u64 (FW t 3 : Int), .int .u64 (OW t 0 : Int), .int .u64 (OW t 1 : Int), .int .u64 (OW t 2 : Int), .int .u64 (OW t 3 : Int)], .string s] wa fun e w' => e = .returned (.bool q) ∧ Below wa.heap.size wa w') := has_D t s q wa gt HS.out hq
        clear ht gt hgt hal hq
        cases q with
        | true =>
          have HX : Hid (zL.all P = false) := all_fail HT.out (by rw [HPt.out]; rfl)
          go_wp2_with fail
          refine H2.out.mono ?_
          rintro e W5 ⟨rfl, hb5⟩
          clear hct hwa p0 p1 p2 p3 p4 p5 p6 p7 p8
          go_wp2_with fail
          go_ret
          exact ⟨by rw [HCV.out, HX.out]; rfl, bel0 HA.out.2 (bel0 hBa hb5)⟩
        | false =>
          have HX : Hid (∀ i t, i < j + 1 → zL[i]? = some t → P t = true) := fun i v hi hv => by
            by_cases e : i = j
            · subst e
              rw [HT.out] at hv
              obtain rfl := Option.some.inj hv
              rw [HPt.out]; rfl
            · exact hok.out i v (by omega) hv
          go_wp2_with fail
          refine H2.out.mono ?_
          rintro e W5 ⟨rfl, hb5⟩
          clear hct hwa p0 p1 p2 p3 p4 p5 p6 p7 p8
          go_wp2_with fail
          go_roundw
          case rel => exact ⟨j + 1, by go_num, by omega, HX, bel0 hBa hb5⟩
          case measure => simp [intOf]; omega
      · have j1 : ¬ (j : Int) < (zL.length : Int) := by omega
        have HX : Hid (zL.all P = true) := all_step hok.out (by omega)
        clear hok
        go_wp2_with fail
        go_ret
        exact ⟨by rw [HCV.out, HX.out]; rfl, bel0 HA.out.2 hBj⟩
end Go.Proofs.YtmdnapognaddbaaGreatDoor
namespace Go.Proofs.YtmdnapognaddbaaGreatDoor
open Go.RowKit
/-- a header is in one of the terms -/
def hsB (Ts : List (List UInt8 × List (List UInt8))) (h : List UInt8) : Bool := Ts.any (fun t => thB t.1 t.2 h)
theorem any_noV {α : Type} {L : List α} {p : α → Bool} {n : Nat} (hn : L.length ≤ n) (h : ∀ j t, j < n → L[j]? = some t → p t = false) : L.any p = false := by
  rw [List.any_eq_false]
  intro t ht
  obtain ⟨j, hj, he⟩ := List.getElem_of_mem ht
  rw [h j t (by omega) (by rw [List.getElem?_eq_getElem hj, he])]
  simp
set_option maxRecDepth 100000 in
set_option maxHeartbeats 4000000 in
theorem sHas_any (b : Int) (V : Value) (Ts : List (List UInt8 × List (List UInt8))) (B : Nat) (s : ByteArray) (w : World) (h : SPL w B V Ts) (hg : ∀ t ∈ Ts, good t.1 = true ∧ ∀ x ∈ t.2, good x = true) (hl : Ts.length ≤ 1000000) (hll : ∀ t ∈ Ts, t.2.length ≤ 1000000) (hs : s.size ≤ maxLen) : Calls Tryz.prog 18 #[.agg #[.int .i64 b, V, .bool false], .string s] w fun e w' => e = .returned (.bool (hsB Ts s.data.toList)) ∧ Below w.heap.size w w' := by
  obtain ⟨Z, rfl, h2, h3⟩ := h
  obtain ⟨p, c, rfl⟩ := shapeQ1 h2
  rw [List.length_map] at hl
  obtain ⟨w2, hw2⟩ : ∃ w2, w.alloc (.cells #[.int .i64 b, .slice p Z.length c, .bool false] 24 (0, 0)) = w2 := ⟨_, rfl⟩
  have h0 : w2.heap[w.heap.size]? = some (.cells #[.int .i64 b, .slice p Z.length c, .bool false] 24 (0, 0)) := by rw [← hw2]; exact alloc_get _ _
  have hB : Below w.heap.size w w2 := by rw [← hw2]; exact belA (Below.refl _ _) _
  obtain ⟨hc0, -⟩ := cells_block h0
  have HR : Hid (IRZ w p Z) := IRZ_own h2 rfl
  have HZ : Hid (∀ z ∈ Z, IRC w z.q z.L ∧ (good z.c = true ∧ ∀ x ∈ z.L, good x = true) ∧ z.L.length ≤ 1000000) := fun z hz => ⟨IRC_own (h3 z hz) rfl, hg z.cont (List.mem_map_of_mem (f := ZT.cont) hz), hll z.cont (List.mem_map_of_mem (f := ZT.cont) hz)⟩
  have HS : Hid (s.size ≤ maxLen) := hs
  obtain ⟨P, hP⟩ : ∃ P : ZT → Bool, (fun z => thB z.c z.L s.data.toList) = P := ⟨_, rfl⟩
  have HP : Hid (∀ z, P z = thB z.c z.L s.data.toList) := fun n => by rw [← hP]
  have HCV : Hid (hsB (Z.map ZT.cont) s.data.toList = Z.any P) := by
    unfold Hid hsB
    rw [List.any_map, ← hP]
    rfl
  have HBB : Hid (Below w.heap.size w w2) := hB
  obtain ⟨n, hn⟩ : ∃ n, Z.length = n := ⟨_, rfl⟩
  rw [hn] at hc0 hw2 hl ⊢
  have HN : Hid (Z.length = n) := hn
  clear h0 hB h2 h3 hg hll hs hP hn
  go_enter Tryz.func18, Tryz.ntmps18
  go_wp2_with fail
  clear hc0 hw2
  go_loopw [10] (fun vi wr => ∃ j : Nat, vi = .int .i64 j ∧ j ≤ n ∧ Hid (∀ i t, i < j → Z[i]? = some t → P t = false) ∧ Below w2.heap.size w2 wr) (fun vi _ => n - (intOf vi).toNat)
  case atStart => exact ⟨0, rfl, Nat.zero_le _, fun i t hi => by omega, Below.refl _ _⟩
  case round =>
    obtain ⟨j, rfl, hj, hok, hBj⟩ := hrel
    by_cases hlt : j < n
    · have j1 : (j : Int) < (n : Int) := by omega
      have j0 : (0 : Int) ≤ (j : Int) := by omega
      obtain ⟨z, hz⟩ : ∃ z, Z[j]? = some z := ⟨_, List.getElem?_eq_getElem (by rw [HN.out]; exact hlt)⟩
      obtain ⟨zc, zq, zk, zL⟩ := z
      obtain ⟨g, o0, rfl, p0, p1, p2, p3, p4, p5, p6, p7, p8, p9⟩ := HR.out wr (bel0 HBB.out hBj) j _ hz
      simp only at p0 p1 p2 p3 p4 p5 p6 p7 p8 p9
      have hZ := HZ.out _ (List.mem_of_getElem? hz)
      obtain ⟨wa, hwa⟩ : ∃ wa, wr.alloc (.cells #[.int .i64 (zc.length : Int), .int .u64 (FW zc 0 : Int), .int .u64 (FW zc 1 : Int), .int .u64 (FW zc 2 : Int), .int .u64 (FW zc 3 : Int), .int .u64 (OW zc 0 : Int), .int .u64 (OW zc 1 : Int), .int .u64 (OW zc 2 : Int), .int .u64 (OW zc 3 : Int), .slice zq zL.length zk] 82 (0, 0)) = wa := ⟨_, rfl⟩
      have hal : Below wr.heap.size wr wa := by rw [← hwa]; exact belA (Below.refl _ _) _
      have hgt : wa.heap[wr.heap.size]? = some (.cells #[.int .i64 (zc.length : Int), .int .u64 (FW zc 0 : Int), .int .u64 (FW zc 1 : Int), .int .u64 (FW zc 2 : Int), .int .u64 (FW zc 3 : Int), .int .u64 (OW zc 0 : Int), .int .u64 (OW zc 1 : Int), .int .u64 (OW zc 2 : Int), .int .u64 (OW zc 3 : Int), .slice zq zL.length zk] 82 (0, 0)) := by rw [← hwa]; exact alloc_get _ _
      obtain ⟨hct, -⟩ := cells_block hgt
      have hBa : Below w2.heap.size w2 wa := bel0 hBj hal
      have HT : Hid (Z[j]? = some ⟨zc, zq, zk, zL⟩) := hz
      obtain ⟨q, hq⟩ : ∃ q, thB zc zL s.data.toList = q := ⟨_, rfl⟩
      have HPt : Hid (P ⟨zc, zq, zk, zL⟩ = q) := by unfold Hid; rw [HP.out, hq]
      have H2 : Hid (Calls Tryz.prog 44 #[.agg #[.int .i64 (zc.length : Int), .int .u64 (FW zc 0 : Int), .int .u64 (FW zc 1 : Int), .int .u64 (FW zc 2 : Int), .int .u64 (FW zc 3 : Int), .int .u64 (OW zc 0 : Int), .int .u64 (OW zc 1 : Int), .int .u64 (OW zc 2 : Int), .int .u64 (OW zc 3 : Int), .slice zq zL.length zk], .string s] wa fun e w' => e = .returned (.bool q) ∧ Below wa.heap.size wa w') := by
        unfold Hid
        rw [← hq]
        exact thas_any zc zq zk zL s wa (hZ.1.later (bel0 HBB.out hBa)) hZ.2.1.1 hZ.2.1.2 hZ.2.2 HS.out
      clear hz hgt hal hq hZ
      cases q with
      | true =>
        have HX : Hid (Z.any P = true) := List.any_eq_true.2 ⟨_, List.mem_of_getElem? HT.out, HPt.out⟩
        go_wp2_with fail
        refine H2.out.mono ?_
        rintro e W5 ⟨rfl, hb5⟩
        clear hct hwa p0 p1 p2 p3 p4 p5 p6 p7 p8 p9
        go_wp2_with fail
        go_ret
        exact ⟨by rw [HCV.out, HX.out]; rfl, bel0 HBB.out (bel0 hBa hb5)⟩
      | false =>
        have HX : Hid (∀ i t, i < j + 1 → Z[i]? = some t → P t = false) := fun i v hi hv => by
          by_cases e : i = j
          · subst e
            rw [HT.out] at hv
            obtain rfl := Option.some.inj hv
            exact HPt.out
          · exact hok.out i v (by omega) hv
        go_wp2_with fail
        refine H2.out.mono ?_
        rintro e W5 ⟨rfl, hb5⟩
        clear hct hwa p0 p1 p2 p3 p4 p5 p6 p7 p8 p9
        go_wp2_with fail
        go_roundw
        case rel => exact ⟨j + 1, by go_num, by omega, HX, bel0 hBa hb5⟩
        case measure => simp [intOf]; omega
    · have j1 : ¬ (j : Int) < (n : Int) := by omega
      have HX : Hid (Z.any P = false) := any_noV (n := j) (by rw [HN.out]; omega) hok.out
      clear hok
      go_wp2_with fail
      go_ret
      exact ⟨by rw [HCV.out, HX.out]; rfl, bel0 HBB.out hBj⟩
end Go.Proofs.YtmdnapognaddbaaGreatDoor
namespace Go.Proofs.YtmdnapognaddbaaGreatDoor
open Go.RowKit Go.Shelf
def digB (d : UInt8) : Bool := d == 48 || d == 49
/-- a header of that width -/
def hdB (b : Int) (l : List UInt8) : Bool := ((l.length : Int) == b) && !(b == 0) && l.all digB
theorem dig_succ {s : ByteArray} {k : Nat} (hk : k < s.size) (h : ∀ j (h : j < s.data.toList.length), j < k → digB s.data.toList[j] = true) (c : s[k] = 48 ∨ s[k] = 49) : ∀ j (h : j < s.data.toList.length), j < k + 1 → digB s.data.toList[j] = true := by
  intro j hj hlt
  by_cases e : j < k
  · exact h j hj e
  · obtain rfl : j = k := by omega
    have e2 : s.data.toList[j] = s[j] := rfl
    rw [e2]
    unfold digB
    rcases c with c | c <;> rw [c] <;> rfl
end Go.Proofs.YtmdnapognaddbaaGreatDoor
namespace Go.Proofs.YtmdnapognaddbaaGreatDoor
open Go.RowKit Go.Shelf
/-- the document's: a header is in a term -/
def tdB (c : List UInt8) (L : List (List UInt8)) (h : List UInt8) : Bool := wiB h c && L.all (fun m => !wiB h m)
theorem good_hd {b : Int} {l : List UInt8} (h : hdB b l = true) (hb : b ≤ 256) : good l = true := by
  unfold hdB at h
  obtain ⟨h1, h2⟩ := Bool.and_eq_true_iff.1 h
  have h3 : (l.length : Int) = b := by simpa using (Bool.and_eq_true_iff.1 h1).1
  have h4 := List.all_eq_true.1 h2
  unfold good
  rw [Bool.and_eq_true, List.all_eq_true]
  refine ⟨by simp; omega, fun x hx => ?_⟩
  have h5 := h4 x hx
  unfold digB at h5
  unfold tri
  rcases Bool.or_eq_true_iff.1 h5 with h5 | h5 <;> rw [h5] <;> simp
end Go.Proofs.YtmdnapognaddbaaGreatDoor
namespace Go.Proofs.YtmdnapognaddbaaGreatDoor
open Go.RowKit Go.Shelf
/-- every term of what is read has its form, and its width -/
theorem prT_ft (b : Int) (l : List UInt8) : ∀ t ∈ prT b l, FTm t ∧ (t.1.length : Int) = b ∧ 1 ≤ b ∧ b ≤ 256 ∧ prE b l = 0 := fun t ht => by
  unfold prT at ht
  split at ht
  · rename_i h0
    obtain ⟨h1, h2, h3⟩ := prE_zero h0
    split at ht
    · cases ht
    · rename_i hn
      rcases h3 with h3 | h3
      · exact absurd h3 hn
      · obtain ⟨hf, y, hy, he⟩ := FTm_form (gdC_tcon h3) t ht
        refine ⟨hf, ?_, h1, h2, h0⟩
        obtain ⟨p, hp, rfl⟩ := List.mem_map.1 hy
        have h4 := List.all_eq_true.1 h3 p hp
        have hne := prts_ne 45 p
        have : (tcon p).1.length = b.toNat := by
          unfold tcon
          unfold okT at h4
          cases hc : prts 45 p with
          | nil => rw [hc] at hne; exact absurd hne (by simp)
          | cons c r =>
            rw [hc] at h4
            have h5 := List.all_eq_true.1 h4 c List.mem_cons_self
            unfold okP at h5
            simpa using (Bool.and_eq_true_iff.1 h5).2
        rw [← he, this]
        omega
  · cases ht
theorem okH_at {t h : List UInt8} {k : Nat} (hk : k < t.length) (hk2 : k < h.length) : okH t h k = ((h[k] == 48 || h[k] == 49) && (t[k] == 120 || t[k] == h[k])) := by
  unfold okH
  rw [List.getElem?_eq_getElem hk, List.getElem?_eq_getElem hk2]
theorem has_wi {t h : List UInt8} (hl : t.length = h.length) (hd : h.all digB = true) : hasB t h = wiB h t := by
  have hd' := List.all_eq_true.1 hd
  unfold hasB wiB fitB
  have e1 : t.isEmpty = h.isEmpty := by
    cases t <;> cases h <;> first | rfl | (simp at hl)
  rw [e1, hl, Bool.eq_iff_iff]
  simp only [Bool.and_eq_true, allTo_iff]
  refine and_congr (by simp) (forall_congr' fun k => forall_congr' fun hk => ?_)
  rw [okH_at (by omega) hk, List.getElem?_eq_getElem hk, List.getElem?_eq_getElem (show k < t.length by omega)]
  have h1 := hd' _ (List.getElem_mem hk)
  unfold digB at h1
  rw [h1, Bool.true_and]
  simp only [Bool.or_eq_true, beq_iff_eq]
  exact ⟨fun h => h.imp id Eq.symm, fun h => h.imp id Eq.symm⟩
theorem has_hd {b : Int} {t h : List UInt8} (hb : (t.length : Int) = b) (h1 : 1 ≤ b) (hh : hdB b h = false) : hasB t h = false := by
  cases hc : hasB t h with
  | false => rfl
  | true =>
    unfold hasB at hc
    obtain ⟨h2, h3⟩ := Bool.and_eq_true_iff.1 hc
    have h4 : t.length = h.length := by simpa using (Bool.and_eq_true_iff.1 h2).2
    have h5 := (allTo_iff _ _).1 h3
    have : hdB b h = true := by
      unfold hdB
      rw [← h4, show ((t.length : Int) == b) = true by simpa using hb, show (b == 0) = false by simp; omega]
      simp only [Bool.not_false, Bool.and_true, Bool.true_and]
      refine List.all_eq_true.2 (fun x hx => ?_)
      obtain ⟨k, hk, rfl⟩ := List.getElem_of_mem hx
      have h6 := h5 k (by omega)
      rw [okH_at (by omega) hk] at h6
      exact (Bool.and_eq_true_iff.1 h6).1
    rw [this] at hh
    cases hh
theorem any_congrB {α : Type} {L : List α} {p q : α → Bool} (h : ∀ t ∈ L, p t = q t) : L.any p = L.any q := by
  induction L with
  | nil => rfl
  | cons x l ih => rw [List.any_cons, List.any_cons, h x List.mem_cons_self, ih (fun t ht => h t (List.mem_cons_of_mem _ ht))]
theorem all_congrB {α : Type} {L : List α} {p q : α → Bool} (h : ∀ t ∈ L, p t = q t) : L.all p = L.all q := by
  induction L with
  | nil => rfl
  | cons x l ih => rw [List.all_cons, List.all_cons, h x List.mem_cons_self, ih (fun t ht => h t (List.mem_cons_of_mem _ ht))]
/-- the program's Has is the document's -/
theorem hs_eq (b : Int) (l h : List UInt8) : hsB (prT b l) h = (hdB (prB b l) h && (prT b l).any (fun t => tdB t.1 t.2 h)) := by
  have hF := prT_ft b l
  unfold hsB
  by_cases hX : prT b l = []
  · rw [hX]; simp
  · obtain ⟨t0, ht0⟩ : ∃ t, t ∈ prT b l := by
      cases hx : prT b l with
      | nil => exact absurd hx hX
      | cons t r => exact ⟨t, List.mem_cons_self⟩
    have e0 : prB b l = b := by unfold prB; rw [if_pos (hF t0 ht0).2.2.2.2]
    rw [e0]
    cases hh : hdB b h with
    | false =>
      rw [Bool.false_and, List.any_eq_false]
      intro t ht
      obtain ⟨hf, hl, h1, h2, -⟩ := hF t ht
      unfold thB
      rw [has_hd hl h1 hh]
      simp
    | true =>
      rw [Bool.true_and]
      refine any_congrB (fun t ht => ?_)
      obtain ⟨hf, hl, h1, h2, -⟩ := hF t ht
      have hd : h.all digB = true := (Bool.and_eq_true_iff.1 hh).2
      have hln : (h.length : Int) = b := by simpa using (Bool.and_eq_true_iff.1 (Bool.and_eq_true_iff.1 hh).1).1
      unfold thB tdB
      rw [has_wi (by omega) hd]
      congr 1
      refine all_congrB (fun m hm => ?_)
      have h3 := hf.wi m hm
      unfold wiB at h3
      have h4 := fitB_len (Bool.and_eq_true_iff.1 h3).1
      rw [has_wi (by omega) hd]
end Go.Proofs.YtmdnapognaddbaaGreatDoor
namespace Go.Proofs.YtmdnapognaddbaaGreatDoor
open Go.RowKit Go.Shelf
/-- the terms of a space, good, each of one width -/
def gdS (Ts : List (List UInt8 × List (List UInt8))) : Prop := ∀ t ∈ Ts, good t.1 = true ∧ gdW t.1.length t.2
theorem gdS_ft {Ts : List (List UInt8 × List (List UInt8))} (h : ∀ t ∈ Ts, FTm t) : gdS Ts := fun t ht => by
  have h0 := h t ht
  refine ⟨h0.gc, fun x hx => ⟨h0.gl x hx, ?_⟩⟩
  have h3 := h0.wi x hx
  rw [wiB_eq, Bool.and_eq_true] at h3
  have h4 := h3.1
  simp [fitB] at h4
  omega
theorem gdS_pr (b : Int) (l : List UInt8) : gdS (prT b l) := gdS_ft (fun t ht => (prT_ft b l t ht).1)
theorem TRC_spl {W : World} {B n cp : Nat} {p : Option Addr} {Z : List ZT} (h : W.ownsRow B 82 10 (.slice p n cp) n (tes Z)) (hn : Z.length = n) (hz : ZL W B Z) : TRC W (fun _ => False) none p Z := fun i z hzi => by
  obtain ⟨g, o0, e, c⟩ := IRZ_own h hn W (Below.refl _ _) i z hzi
  have hL := hz z (List.mem_of_getElem? hzi)
  refine ⟨g, o0, e, c, fun h => h, by simp, fun j t ht => ?_, ?_⟩
  · obtain ⟨g2, o2, e2, c2⟩ := IRC_own hL rfl W (Below.refl _ _) j t ht
    exact ⟨g2, o2, e2, c2, fun h => h, by simp⟩
  · rcases own_shapeQ hL with ⟨_, e2⟩ | ⟨g3, c3, e3, e4, -⟩
    · omega
    · injection e3 with _ _ e5
      omega
set_option maxRecDepth 100000 in
set_option maxHeartbeats 4000000 in
theorem sExpand_any (b lim : Int) (Ts : List (List UInt8 × List (List UInt8))) (B : Nat) (V : Value) (w : World) (h : SPL w B V Ts) (hs : szC Ts ≤ 128) (hg : gdS Ts) :
    Calls Tryz.prog 40 #[.agg #[.int .i64 b, V, .bool false], .int .i64 lim] w fun e w' => ∃ v, e = .returned (.tuple #[v, .int .i64 (xpE b lim Ts)]) ∧ w'.ownsRow w.heap.size 40 9 v (xpL b lim Ts).length (ces (xpL b lim Ts)) ∧ Below w.heap.size w w' := by
  obtain ⟨Z, rfl, hrow, hzl⟩ := h
  obtain ⟨p, cp, rfl⟩ := shapeQ1 hrow
  have hq1 := szC_len (Z.map ZT.cont)
  rw [List.length_map] at hq1
  obtain ⟨n, hn⟩ : ∃ n, Z.length = n := ⟨_, rfl⟩
  rw [hn] at hrow hq1 ⊢
  have hzg : ∀ z ∈ Z, good z.c = true ∧ gdW z.c.length z.L ∧ z.L.length ≤ 128 := fun z hz => by
    have hm := List.mem_map_of_mem (f := ZT.cont) hz
    have h1 := szC_mem z.cont hm
    have e : z.cont.2 = z.L := rfl
    rw [e] at h1
    obtain ⟨g1, g2⟩ := hg z.cont hm
    exact ⟨g1, g2, by omega⟩
  have ht := TRC_spl hrow hn hzl
  obtain ⟨w2, hw2⟩ : ∃ w2, (w.alloc (.cells #[.int .i64 b, .slice p n cp, .bool false] 24 (0, 0))).alloc (.cells #[.int .i64 lim] 3 (0, 0)) = w2 := ⟨_, rfl⟩
  have b1 : w2.heap[w.heap.size]? = some (.cells #[.int .i64 b, .slice p n cp, .bool false] 24 (0, 0)) := by rw [← hw2]; exact alw_0 _ _ _
  have b2 : w2.heap[w.heap.size + 1]? = some (.cells #[.int .i64 lim] 3 (0, 0)) := by rw [← hw2]; exact alw_1 _ _ _
  have hB2 : Below w.heap.size w w2 := by rw [← hw2]; exact belA (belA (Below.refl _ _) _) _
  have hc1 := (cells_block b1).1
  have hc2 : w2.cell? ⟨w.heap.size + 1, 0, none⟩ = some (.int .i64 lim) := (cells_block b2).1 0
  have hmf : ∀ (fn : Fn) (first cap : Array Value) (w : World), (Instr.makeFunc fn first cap).run Tryz.prog w = .ok (.func fn first cap) w := fun _ _ _ _ => rfl
  have HRF := refusal_any b lim p n cp w2
  obtain ⟨E, hE⟩ : ∃ E, rfE b lim = E := ⟨_, rfl⟩
  rw [hE] at HRF
  have HB : Hid (Below w.heap.size w w2) := hB2
  have hsz2 : w.heap.size ≤ w2.heap.size := hB2.size
  by_cases hE0 : E = 0
  · have hb0 : ¬ b = 0 := fun h => by unfold rfE at hE; rw [if_pos h] at hE; omega
    have hl0 : ¬ (lim < 0 ∨ 2048 < lim) := fun h => by unfold rfE at hE; rw [if_neg hb0, if_pos h] at hE; omega
    obtain ⟨M, rfl⟩ : ∃ M : Nat, lim = M := ⟨lim.toNat, by omega⟩
    have hM : M ≤ 2048 := by omega
    obtain ⟨R, ok, hxp, HG⟩ : ∃ (R : List (List UInt8)) (ok : Bool), (XPD b (M : Int) (Z.map ZT.cont) (if ok = true then 0 else 3) (if ok = true then R else [])) ∧ ∀ W, Below w2.heap.size w2 W → Calls Tryz.prog 65 #[.pointer (some ⟨w.heap.size, 0, none⟩), .pointer (some ⟨w.heap.size + 1, 0, none⟩)] W fun e w' => Below W.heap.size W w' ∧ ((ok = true ∧ ∃ v, e = .returned v ∧ w'.ownsRow W.heap.size 40 9 v R.length (ces R)) ∨ (ok = false ∧ e = .panicked [{ v := .iface 122 (.agg #[]), recovered := false }])) := by
      have H1 : ∀ W, Below w2.heap.size w2 W → _ := fun W hW => expand1_any inForm_any b Z n p cp w.heap.size (w.heap.size + 1) M W hn (by omega) hM (keepblk3 hW b1) (keepblk3 hW b2) (ht.ofW (bel0 hB2 hW) (fun k h => h.elim)) hzg
      cases hx : exE splT M [] (Z.map ZT.cont) with
      | none =>
        refine ⟨[], false, xpd_n hb0 hM hx, fun W hW => (H1 W hW).mono ?_⟩
        rintro e w' ⟨h1, ⟨R, v, h2, -⟩ | ⟨-, h3⟩⟩
        · rw [show exE splT M [] (Z.map ctZ) = none from hx] at h2
          cases h2
        · exact ⟨h1, .inr ⟨rfl, h3⟩⟩
      | some R =>
        refine ⟨R, true, xpd_s hb0 hM hx, fun W hW => (H1 W hW).mono ?_⟩
        rintro e w' ⟨h1, ⟨R', v, h2, h3, h4⟩ | ⟨h3, -⟩⟩
        · rw [show exE splT M [] (Z.map ctZ) = some R from hx] at h2
          injection h2 with h2
          subst h2
          exact ⟨h1, .inl ⟨rfl, v, h3, h4⟩⟩
        · rw [show exE splT M [] (Z.map ctZ) = some R from hx] at h3
          cases h3
    rw [← hxp.1, ← hxp.2]
    have HGV : Hid (∀ W, Below w2.heap.size w2 W → Calls Tryz.prog 64 #[.func (.func 65) #[] #[.pointer (some ⟨w.heap.size, 0, none⟩), .pointer (some ⟨w.heap.size + 1, 0, none⟩)]] W fun e w' => ∃ v, e = .returned (.tuple #[v, .int .i64 (if ok = true then 0 else 3)]) ∧ w'.ownsRow W.heap.size 40 9 v (if ok = true then R else []).length (ces (if ok = true then R else [])) ∧ Below W.heap.size W w') := fun W hW => giveC R ok _ _ W (fun X hX => HG X (bel0 hW hX))
    obtain ⟨EE, hEE⟩ : ∃ E : Int, (if ok = true then 0 else 3) = E := ⟨_, rfl⟩
    obtain ⟨LL, hLL⟩ : ∃ E, (if ok = true then R else []) = E := ⟨_, rfl⟩
    rw [hEE, hLL] at HGV ⊢
    subst hE0
    clear hE hb0 hl0 HG hxp hEE hLL b1 b2 ht hzg hrow hzl hg hs hB2 hn hq1
    go_enter Tryz.func40, Tryz.ntmps40
    go_wp2_with fail
    refine HRF.mono ?_
    rintro e w3 ⟨rfl, hb3⟩
    clear HRF hc1 hc2 hw2
    have HB3 : Hid (Below w2.heap.size w2 w3) := hb3
    clear hb3
    go_wp2_with fail
    refine (HGV.out w3 HB3.out).mono ?_
    rintro e w4 ⟨v, rfl, o4, hb4⟩
    obtain ⟨p4, c4, rfl⟩ := shapeQ1 o4
    have hs3 := HB3.out.size
    have HZ : Hid (w4.ownsRow w.heap.size 40 9 (.slice p4 LL.length c4) LL.length (ces LL) ∧ Below w.heap.size w w4) := ⟨own_base o4 (by omega), bel0 HB.out (bel0 HB3.out hb4)⟩
    clear o4 hb4
    go_wp2_with fail
    go_ret2
    exact ⟨_, rfl, HZ.out.1, HZ.out.2⟩
  · have hxp : XPD b lim (Z.map ZT.cont) E [] := by
      unfold rfE at hE
      split at hE
      · rename_i h1
        subst h1
        rw [← hE]
        exact xpd_w _ _
      · rename_i h1
        split at hE
        · rename_i h2
          rw [← hE]
          exact xpd_a _ h1 h2
        · omega
    rw [← hxp.1, ← hxp.2]
    have e0 : (E != 0) = true := by rw [bne_iff_ne]; exact hE0
    clear hE hxp b1 b2 ht hzg hrow hzl hg hs hB2 hn hq1 hE0
    go_enter Tryz.func40, Tryz.ntmps40
    go_wp2_with fail
    refine HRF.mono ?_
    rintro e w3 ⟨rfl, hb3⟩
    have HZ : Hid (Below w.heap.size w w3) := bel0 HB.out hb3
    clear HRF hc1 hc2 hw2 hb3
    go_wp2_with fail
    go_ret2
    exact ⟨_, rfl, World.ownsRow_nil _ _ _ _, HZ.out⟩
end Go.Proofs.YtmdnapognaddbaaGreatDoor

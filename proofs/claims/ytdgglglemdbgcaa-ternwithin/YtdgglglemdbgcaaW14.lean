import Derived.Test.YtdgglglemdbgcaaW13
import Derived.Deep.RegionHeld3
namespace Go.Proofs.Ytdgglglemdbgcaa
open Go.RowKit

/-- place k of a header suits a cube's -/
def okH (t h : List UInt8) (k : Nat) : Bool := match t[k]?, h[k]? with | some x, some d => (d == 48 || d == 49) && (x == 120 || x == d) | _, _ => true
/-- P1.4 -/
def hasB (t h : List UInt8) : Bool := !t.isEmpty && (t.length == h.length) && allTo (okH t h) t.length

theorem byte_bne (x : UInt8) (n : Nat) (hn : n < 256) : ((x.toNat : Int) != (n : Int)) = !(x == UInt8.ofNat n) := by
  unfold bne
  congr 1
  rw [Bool.eq_iff_iff, beq_iff_eq, beq_iff_eq]
  constructor
  · intro e
    have : x.toNat = n := by omega
    rw [← this]; simp
  · intro e; subst e
    simp [UInt8.toNat_ofNat', Nat.mod_eq_of_lt hn]

theorem byte_bne2 (x y : UInt8) : ((x.toNat : Int) != (y.toNat : Int)) = !(x == y) := by
  unfold bne
  congr 1
  rw [Bool.eq_iff_iff, beq_iff_eq, beq_iff_eq]
  constructor
  · intro e; exact UInt8.toNat_inj.1 (by omega)
  · intro e; subst e; rfl

theorem okH_eq (t : List UInt8) (s : ByteArray) (k : Nat) (hk : k < t.length) (hks : k < s.size) (p1 p2 p3 p4 : Bool) (n1 : ((s[k].toNat : Int) != 48) = p1) (n2 : ((s[k].toNat : Int) != 49) = p2) (n3 : ((t[k].toNat : Int) != 120) = p3) (n4 : ((t[k].toNat : Int) != (s[k].toNat : Int)) = p4) :
    okH t s.data.toList k = !((p1 && p2) || (p3 && p4)) := by
  have e1 := byte_bne s[k] 48 (by decide)
  have e2 := byte_bne s[k] 49 (by decide)
  have e3 := byte_bne t[k] 120 (by decide)
  have e4 := byte_bne2 t[k] s[k]
  have hs : s.data.toList[k]? = some s[k] := by rw [List.getElem?_eq_getElem (by simpa using hks)]; rfl
  simp only [okH, hs, List.getElem?_eq_getElem hk]
  subst n1 n2 n3 n4
  have f1 : ((s[k].toNat : Int) != 48) = !(s[k] == 48) := e1
  have f2 : ((s[k].toNat : Int) != 49) = !(s[k] == 49) := e2
  have f3 : ((t[k].toNat : Int) != 120) = !(t[k] == 120) := e3
  rw [f1, f2, f3, e4]
  cases (s[k] == 48) <;> cases (s[k] == 49) <;> cases (t[k] == 120) <;> cases (t[k] == s[k]) <;> rfl

set_option maxHeartbeats 400000 in
theorem has_off (t : List UInt8) (s : ByteArray) (w : World) (hs : s.size ≤ maxLen) (h : t.length = 0 ∨ s.size ≠ t.length) :
    Calls Try.prog 13 #[cubeV t, .string s] w fun e w' => e = .returned (.bool false) ∧ Below w.heap.size w w' := by
  unfold maxLen at hs
  unfold cubeV cv
  by_cases h0 : t.length = 0
  · have b0 : ((t.length : Int) == 0) = true := by rw [h0]; rfl
    clear h h0
    go_enter Try.func13, Try.ntmps13
    go_wp2
    go_ret
    exact ⟨rfl, (Below.refl _ _).alloc (Nat.le_refl _) _⟩
  · have b0 : ((t.length : Int) == 0) = false := by simp; intro e; subst e; simp at h0
    have b1 : ((s.size : Int) != (t.length : Int)) = true := by simp; omega
    clear h h0
    go_enter Try.func13, Try.ntmps13
    go_wp2
    go_ret
    exact ⟨rfl, (Below.refl _ _).alloc (Nat.le_refl _) _⟩

theorem ok_succ {p : Nat → Bool} {k : Nat} {q : Bool} (h : ∀ j, j < k → p j = true) (hk : p k = q) (hq : q = true := by rfl) : ∀ j, j < k + 1 → p j = true := by
  intro j hj
  by_cases e : j = k
  · subst e; rw [hk, hq]
  · exact h j (by omega)

set_option maxHeartbeats 2000000 in
theorem has_loop (t : List UInt8) (s : ByteArray) (w : World) (hg : good t = true) (h0 : 1 ≤ t.length) (hsz : s.size = t.length) :
    Calls Try.prog 13 #[cubeV t, .string s] w fun e w' => e = .returned (.bool (allTo (okH t s.data.toList) t.length)) ∧ Below w.heap.size w w' := by
  have hl := good_len hg
  have HS : Hid (s.size = t.length) := hsz
  have b0 : ((t.length : Int) == 0) = false := by simp; intro e; subst e; simp at h0
  have b1 : ((s.size : Int) != (t.length : Int)) = false := by simp [hsz]
  clear hsz
  unfold cubeV cv
  go_enter Try.func13, Try.ntmps13
  go_wp2
  clear b0 b1
  go_loopw [20] (fun i wr => ∃ k : Nat, k ≤ t.length ∧ i = .int .i64 k ∧ Hid (∀ j, j < k → okH t s.data.toList j = true) ∧ Below (w.heap.size + 1) (w.alloc (.cells #[.int .i64 (t.length : Int), .int .u64 (FW t 0 : Int), .int .u64 (FW t 1 : Int), .int .u64 (FW t 2 : Int), .int .u64 (FW t 3 : Int), .int .u64 (OW t 0 : Int), .int .u64 (OW t 1 : Int), .int .u64 (OW t 2 : Int), .int .u64 (OW t 3 : Int)] 26)) wr) (fun i _ => t.length - (intOf i).toNat)
  case atStart => exact ⟨0, Nat.zero_le _, rfl, fun j h => by omega, Below.refl _ _⟩
  case round =>
    obtain ⟨k, hk, rfl, hok, hB⟩ := hrel
    have hsz1 : w.heap.size + 1 ≤ wr.heap.size := by have := hB.size; simpa using this
    by_cases hlt : k < t.length
    · have hc : ∀ b o, b < w.heap.size + 1 → wr.cell? ⟨b, o, none⟩ = (w.alloc (.cells #[.int .i64 (t.length : Int), .int .u64 (FW t 0 : Int), .int .u64 (FW t 1 : Int), .int .u64 (FW t 2 : Int), .int .u64 (FW t 3 : Int), .int .u64 (OW t 0 : Int), .int .u64 (OW t 1 : Int), .int .u64 (OW t 2 : Int), .int .u64 (OW t 3 : Int)] 26)).cell? ⟨b, o, none⟩ := fun b o h => hB.cell (p := ⟨b, o, none⟩) h
      have hks : k < s.size := by rw [HS.out]; exact hlt
      have i0 : (0 : Int) ≤ (k : Int) := by omega
      have i1 : (k : Int) < (s.size : Int) := by omega
      obtain ⟨p1, n1⟩ : ∃ p, ((s[k].toNat : Int) != 48) = p := ⟨_, rfl⟩
      obtain ⟨p2, n2⟩ : ∃ p, ((s[k].toNat : Int) != 49) = p := ⟨_, rfl⟩
      obtain ⟨p3, n3⟩ : ∃ p, ((t[k].toNat : Int) != 120) = p := ⟨_, rfl⟩
      obtain ⟨p4, n4⟩ : ∃ p, ((t[k].toNat : Int) != (s[k].toNat : Int)) = p := ⟨_, rfl⟩
      have hH : Hid (okH t s.data.toList k = !((p1 && p2) || (p3 && p4))) := okH_eq t s k hlt hks p1 p2 p3 p4 n1 n2 n3 n4
      go_wp2
      have hS : ∀ j, wr.cell? ⟨w.heap.size, j, none⟩ = (#[.int .i64 (t.length : Int), .int .u64 (FW t 0 : Int), .int .u64 (FW t 1 : Int), .int .u64 (FW t 2 : Int), .int .u64 (FW t 3 : Int), .int .u64 (OW t 0 : Int), .int .u64 (OW t 1 : Int), .int .u64 (OW t 2 : Int), .int .u64 (OW t 3 : Int)] : Array Value)[j]? := fun j => by rw [hc _ _ (by omega)]; simp
      go_region_held3 (fun W => ∀ j, W.cell? ⟨w.heap.size, j, none⟩ = (#[.int .i64 (t.length : Int), .int .u64 (FW t 0 : Int), .int .u64 (FW t 1 : Int), .int .u64 (FW t 2 : Int), .int .u64 (FW t 3 : Int), .int .u64 (OW t 0 : Int), .int .u64 (OW t 1 : Int), .int .u64 (OW t 2 : Int), .int .u64 (OW t 3 : Int)] : Array Value)[j]?) (first | exact hS | (intro j; exact (hb2.cell (p := ⟨w.heap.size, j, none⟩) (by simp; omega)).trans (hS j))) (first | (go_at_call 29; refine (at_any t _ k _ hg rfl hlt).mono ?_; rintro e w2 ⟨rfl, hb2⟩))
      all_goals
        have hB2 := hB.trans ((undrew hb2).mono hsz1)
        clear hS hc hb2 hB
        cases p1 <;> cases p2 <;> cases p3 <;> cases p4
        all_goals
          go_wp2
          first
            | (have hF : okH t s.data.toList k = false := hH.out
               have hF2 := allTo_false (n := t.length) k hlt hF
               go_ret
               refine ⟨?_, ((Below.refl _ _).alloc (Nat.le_refl _) _).trans (hB2.mono (by omega))⟩
               rw [hF2]
               rfl)
            | (have hF : okH t s.data.toList k = true := hH.out
               have hF2 := ok_succ hok.out hF
               go_roundw
               case rel => exact ⟨k + 1, by omega, by go_num, hF2, hB2⟩
               case measure => simp [intOf]; omega)
    · have hkn : k = t.length := by omega
      have hA : Hid (allTo (okH t s.data.toList) t.length = true) := (allTo_iff _ _).2 (fun j hj => hok.out j (by omega))
      clear hok
      go_wp2
      go_ret
      exact ⟨by rw [hA.out]; rfl, ((Below.refl _ _).alloc (Nat.le_refl _) _).trans (hB.mono (by omega))⟩

theorem has_any (t : List UInt8) (s : ByteArray) (w : World) (hg : good t = true) (hs : s.size ≤ maxLen) :
    Calls Try.prog 13 #[cubeV t, .string s] w fun e w' => e = .returned (.bool (hasB t s.data.toList)) ∧ Below w.heap.size w w' := by
  have hlen : s.data.toList.length = s.size := by simp
  unfold hasB
  by_cases h : t.length = 0 ∨ s.size ≠ t.length
  · have e : (!t.isEmpty && (t.length == s.data.toList.length)) = false := by
      rw [hlen]
      rcases h with h | h
      · have : t = [] := List.eq_nil_of_length_eq_zero h
        subst this; rfl
      · have : (t.length == s.size) = false := by simp; omega
        rw [this]; simp
    rw [e]
    exact has_off t s w hs h
  · have e : (!t.isEmpty && (t.length == s.data.toList.length)) = true := by
      rw [hlen]
      cases t with
      | nil => simp at h
      | cons x l => simp at h ⊢; omega
    rw [e, Bool.true_and]
    exact has_loop t s w hg (by omega) (by omega)
theorem has_D (t : List UInt8) (s : ByteArray) (q : Bool) (w : World) (hg : good t = true) (hs : s.size ≤ maxLen) (h : hasB t s.data.toList = q) :
    Calls Try.prog 13 #[cubeV t, .string s] w fun e w' => e = .returned (.bool q) ∧ Below w.heap.size w w' := by
  subst h; exact has_any t s w hg hs
end Go.Proofs.Ytdgglglemdbgcaa

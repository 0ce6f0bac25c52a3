import Derived.Test.YtecgjlpmmailjaaGreatDoorXAE
import Derived.Test.YtecgjlpmmailjaaGreatDoorXAM
import Derived.Test.YtecgjlpmmailjaaGreatDoorXAC
import Derived.Deep.RegionHeld3
import Derived.Deep.AppendLies
import Derived.OneCell
import Derived.Lib.ConvBytes
import Derived.Laws.IdiomStrings
import Derived.Test.YtecgjlpmmailjaaGreatDoorXAD
import Derived.Shelf.Small.Strs
import Derived.Ground.NamesProg
import Derived.Test.YtecgjlpmmailjaaGreatDoorProg
import Derived.Test.YtecgjlpmmailjaaGreatDoorXAJ
import Derived.Shelf.Small.Bits
namespace Go.Proofs.YtecgjlpmmailjaaGreatDoor

theorem fitB_ne {a b : List UInt8} (h : fitB a b = true) : a ≠ [] := by
  intro e; subst e; simp [fitB] at h

theorem wi_hu (a b z : List UInt8) (ha : a ≠ []) (hl : a.length = b.length) (hl2 : a.length = z.length) : wiB (huT a b) z = (wiB a z && wiB b z) := by
  have hb : b ≠ [] := by
    intro e; subst e; exact ha (List.eq_nil_of_length_eq_zero hl)
  have hlh := huT_len a b hl
  have hh : huT a b ≠ [] := by
    intro e; rw [e] at hlh; exact ha (List.eq_nil_of_length_eq_zero hlh.symm)
  rw [wiB_eq, wiB_eq, wiB_eq, fit_of ha hl2, fit_of hb (by omega), fit_of hh (by omega), Bool.true_and, Bool.true_and, Bool.true_and, hlh, ← hl]
  have key : ∀ k, k < a.length → inK (huT a b) z k = (inK a z k && inK b z k) := by
    intro k hk
    have kb : k < b.length := by omega
    have kz : k < z.length := by omega
    simp only [inK, huT_get a b hl k hk, List.getElem?_eq_getElem hk, List.getElem?_eq_getElem kb, List.getElem?_eq_getElem kz]
    generalize a[k] = x
    generalize b[k] = y
    generalize z[k] = v
    by_cases e : x = y
    · subst e; simp
    · by_cases e2 : v = 120
      · subst e2; simp
      · have e3 : ((120 : UInt8) == v) = false := by simpa using fun h => e2 h.symm
        have e4 : (v == 120) = false := by simpa using e2
        have e5 : (x == y) = false := by simpa using e
        rw [e4, e5, Bool.false_or, Bool.false_or, Bool.false_or]
        show ((120 : UInt8) == v) = _
        rw [e3]
        cases h1 : (x == v)
        · rfl
        · cases h2 : (y == v)
          · rfl
          · exact absurd ((eq_of_beq h1).trans (eq_of_beq h2).symm) e
  rw [Bool.eq_iff_iff, Bool.and_eq_true, allTo_iff, allTo_iff, allTo_iff]
  constructor
  · intro h
    refine ⟨fun k hk => ?_, fun k hk => ?_⟩
    · have := h k hk; rw [key k hk, Bool.and_eq_true] at this; exact this.1
    · have := h k hk; rw [key k hk, Bool.and_eq_true] at this; exact this.2
  · rintro ⟨h1, h2⟩ k hk
    rw [key k hk, h1 k hk, h2 k hk]; rfl

/-- the hull lies in z just if all of them do -/
theorem hul_wi (F : List UInt8) (L : List (List UInt8)) (H z : List UInt8) (hF : F ≠ []) (h : hulA F L = some H) (hl : F.length = z.length) :
    wiB H z = (wiB F z && L.all (fun x => wiB x z)) := by
  induction L generalizing F with
  | nil =>
    obtain rfl : F = H := Option.some.inj h
    simp
  | cons d l ih =>
    have h' : (if fitB F d = true then hulA (huT F d) l else none) = some H := h
    cases hf : fitB F d
    · rw [hf] at h'; cases h'
    · rw [if_pos hf] at h'
      have hld := fitB_len hf
      have hlh := huT_len F d hld
      have hh : huT F d ≠ [] := by
        intro e; rw [e] at hlh; exact hF (List.eq_nil_of_length_eq_zero hlh.symm)
      rw [ih (huT F d) hh h' (by omega), wi_hu F d z hF hld hl, List.all_cons, Bool.and_assoc]

theorem hul_len (F : List UInt8) (L : List (List UInt8)) (H : List UInt8) (h : hulA F L = some H) : H.length = F.length := by
  induction L generalizing F with
  | nil =>
    obtain rfl : F = H := Option.some.inj h
    rfl
  | cons d l ih =>
    have h' : (if fitB F d = true then hulA (huT F d) l else none) = some H := h
    cases hf : fitB F d
    · rw [hf] at h'; cases h'
    · rw [if_pos hf] at h'
      rw [ih (huT F d) h', huT_len F d (fitB_len hf)]

theorem hul_good (F : List UInt8) (L : List (List UInt8)) (H : List UInt8) (h : hulA F L = some H) (gF : good F = true) (gL : ∀ x ∈ L, good x = true) : good H = true := by
  induction L generalizing F with
  | nil =>
    obtain rfl : F = H := Option.some.inj h
    exact gF
  | cons d l ih =>
    have h' : (if fitB F d = true then hulA (huT F d) l else none) = some H := h
    cases hf : fitB F d
    · rw [hf] at h'; cases h'
    · rw [if_pos hf] at h'
      exact ih (huT F d) h' (good_huT F d gF (gL d (by simp))) (fun x hx => gL x (by simp [hx]))

theorem hul_fits (F : List UInt8) (L : List (List UInt8)) (hF : F ≠ []) (hL : ∀ x ∈ L, x.length = F.length) : ∃ H, hulA F L = some H := by
  induction L generalizing F with
  | nil => exact ⟨F, rfl⟩
  | cons d l ih =>
    have hld : F.length = d.length := (hL d (by simp)).symm
    have hf : fitB F d = true := fit_of hF hld
    have hlh := huT_len F d hld
    have hh : huT F d ≠ [] := by
      intro e; rw [e] at hlh; exact hF (List.eq_nil_of_length_eq_zero hlh.symm)
    obtain ⟨H, hH⟩ := ih (huT F d) hh (fun x hx => by rw [hL x (by simp [hx]), hlh])
    exact ⟨H, by show (if fitB F d = true then hulA (huT F d) l else none) = _; rw [if_pos hf]; exact hH⟩

/-- it holds all, and lies in every cube that does -/
theorem hul_least (F : List UInt8) (L : List (List UInt8)) (H : List UInt8) (hF : F ≠ []) (h : hulA F L = some H) : wiB F H = true ∧ ∀ x ∈ L, wiB x H = true := by
  have hl := hul_len F L H h
  have hH : H ≠ [] := by
    intro e; rw [e] at hl; exact hF (List.eq_nil_of_length_eq_zero hl.symm)
  have := hul_wi F L H H hF h hl.symm
  rw [wi_refl H hH, eq_comm, Bool.and_eq_true, List.all_eq_true] at this
  exact this
end Go.Proofs.YtecgjlpmmailjaaGreatDoor
namespace Go.Proofs.YtecgjlpmmailjaaGreatDoor
open Go.RowKit

/-- the digit of the hull at a place, one cube behind the other -/
def hdg (i : Nat) (d : UInt8) (L : List (List UInt8)) : UInt8 := L.foldl (fun d x => if x.getD i 0 == d then d else 120) d
theorem hdg_snoc (i : Nat) (d : UInt8) (L : List (List UInt8)) (k : Nat) (hk : k < L.length) : hdg i d (L.take (k + 1)) = if L[k].getD i 0 == hdg i d (L.take k) then hdg i d (L.take k) else 120 := by
  rw [List.take_add_one, List.getElem?_eq_getElem hk]
  show (L.take k ++ [L[k]]).foldl _ d = _
  rw [List.foldl_append]
  rfl
theorem hul_get (F : List UInt8) (L : List (List UInt8)) (H : List UInt8) (h : hulA F L = some H) (i : Nat) (hi : i < F.length) : H[i]? = some (hdg i F[i] L) := by
  induction L generalizing F with
  | nil =>
    obtain rfl : F = H := Option.some.inj h
    exact List.getElem?_eq_getElem hi
  | cons d l ih =>
    have h' : (if fitB F d = true then hulA (huT F d) l else none) = some H := h
    cases hf : fitB F d
    · rw [hf] at h'; cases h'
    · rw [if_pos hf] at h'
      have hld := fitB_len hf
      have hi2 : i < (huT F d).length := by rw [huT_len F d hld]; exact hi
      rw [ih (huT F d) h' hi2]
      have hg := huT_get F d hld i hi
      rw [List.getElem?_eq_getElem hi2] at hg
      rw [Option.some.inj hg]
      show some (hdg i _ l) = some (hdg i (if d.getD i 0 == F[i] then F[i] else 120) l)
      have hd : d.getD i 0 = d[i]'(by omega) := by simp [List.getElem?_eq_getElem (show i < d.length by omega)]
      rw [hd]
      congr 2
      by_cases e : F[i] = d[i]'(by omega)
      · rw [e]
      · have e2 : ¬ (d[i]'(by omega)) = F[i] := fun x => e x.symm
        simp [e, e2]
theorem hul_lens (F : List UInt8) (L : List (List UInt8)) (H : List UInt8) (h : hulA F L = some H) : ∀ x ∈ L, x.length = F.length := by
  induction L generalizing F with
  | nil => intro x hx; simp at hx
  | cons d l ih =>
    have h' : (if fitB F d = true then hulA (huT F d) l else none) = some H := h
    cases hf : fitB F d
    · rw [hf] at h'; cases h'
    · rw [if_pos hf] at h'
      have hld := fitB_len hf
      intro x hx
      rcases List.mem_cons.1 hx with rfl | hx
      · exact hld.symm
      · rw [ih _ h' x hx, huT_len F d hld]

theorem hulF_none (F : List UInt8) (L : List (List UInt8)) (x : List UInt8) (hx : x ∈ F :: L) (h : fitB x F = false) : hulF F L = none := by
  unfold hulF
  split
  · rfl
  · rename_i hF
    cases hA : hulA F L with
    | none => rfl
    | some H =>
      exfalso
      have hlen : x.length = F.length := by
        rcases List.mem_cons.1 hx with rfl | hx
        · rfl
        · exact hul_lens F L H hA x hx
      have hxe : x ≠ [] := by
        intro e
        rw [e] at hlen
        exact hF (List.eq_nil_of_length_eq_zero hlen.symm)
      rw [fit_of hxe hlen] at h
      cases h
theorem hulF_some (F : List UInt8) (L : List (List UInt8)) (h : ∀ x ∈ F :: L, fitB x F = true) : ∃ H, hulF F L = some H ∧ F ≠ [] ∧ H.length = F.length ∧ ∀ i, i < F.length → H[i]? = some (hdg i (F.getD i 0) (F :: L)) := by
  have hF : F ≠ [] := fitB_ne (h F (by simp))
  obtain ⟨H, hH⟩ := hul_fits F L hF (fun x hx => fitB_len (h x (by simp [hx])))
  refine ⟨H, ?_, hF, hul_len F L H hH, fun i hi => ?_⟩
  · unfold hulF; rw [if_neg hF]; exact hH
  · rw [hul_get F L H hH i hi]
    have hd : F.getD i 0 = F[i] := by simp [List.getElem?_eq_getElem hi]
    show some (hdg i F[i] L) = some (hdg i (if F.getD i 0 == F.getD i 0 then F.getD i 0 else 120) L)
    rw [hd]
    simp

/-- texts as strings -/
def stx (l : List (List UInt8)) : List Value := l.map (fun t => .string ⟨t.toArray⟩)
theorem stx_snoc (l : List (List UInt8)) (t : List UInt8) : stx (l ++ [t]) = stx l ++ [.string ⟨t.toArray⟩] := by simp [stx]
theorem stx_at {W : World} {B g cap k : Nat} {L : List (List UInt8)} {P : List UInt8} (hown : W.ownsRow B 9 1 (.slice (some ⟨g, 0, none⟩) L.length cap) L.length (stx L)) (hk : k < L.length) (hP : L[k] = P) :
    W.cell? ⟨g, k, none⟩ = some (.string ⟨P.toArray⟩) := by
  rw [hown.cellAt k (by omega)]
  simp [stx, List.getElem?_eq_getElem hk, hP]
/-- what the reference's Hull answers -/
def hulR : Option (List UInt8) → Value
  | some H => .tuple #[.string ⟨H.toArray⟩, .int .i64 0]
  | none => .tuple #[.string ⟨#[]⟩, .int .i64 11]
end Go.Proofs.YtecgjlpmmailjaaGreatDoor
namespace Go.Proofs.YtecgjlpmmailjaaGreatDoor
open Go.RowKit
theorem byte_bne (x : UInt8) (n : Nat) (hn : n < 256) : ((x.toNat : Int) != (n : Int)) = !(x == UInt8.ofNat n) := by
  unfold bne
  congr 1
  rw [Bool.eq_iff_iff, beq_iff_eq, beq_iff_eq]
  constructor
  · intro h
    have h1 : x.toNat = n := by omega
    rw [← h1]
    simp
  · rintro rfl
    simp
    omega
theorem byte_bne2 (x y : UInt8) : ((x.toNat : Int) != (y.toNat : Int)) = !(x == y) := by
  unfold bne
  congr 1
  rw [Bool.eq_iff_iff, beq_iff_eq, beq_iff_eq]
  constructor
  · intro h
    exact UInt8.toNat_inj.1 (by omega)
  · rintro rfl
    rfl
theorem cfl_str (a b : ByteArray) (k : Nat) (ha : k < a.size) (hb : k < b.size) (ga : good a.data.toList = true) (gb : good b.data.toList = true) (p1 p2 p3 : Bool) (n1 : ((a[k].toNat : Int) != 120) = p1) (n2 : ((b[k].toNat : Int) != 120) = p2) (n3 : ((b[k].toNat : Int) != (a[k].toNat : Int)) = p3) :
    cfl a.data.toList b.data.toList k = (p1 && p2 && p3) := by
  have f1 : ((a[k].toNat : Int) != 120) = !(a[k] == 120) := byte_bne a[k] 120 (by decide)
  have f2 : ((b[k].toNat : Int) != 120) = !(b[k] == 120) := byte_bne b[k] 120 (by decide)
  have f3 := byte_bne2 b[k] a[k]
  have f4 : (b[k] == a[k]) = (a[k] == b[k]) := by rw [Bool.eq_iff_iff, beq_iff_eq, beq_iff_eq]; exact eq_comm
  have la : k < a.data.toList.length := by simpa using ha
  have lb : k < b.data.toList.length := by simpa using hb
  rw [cfl_bytes _ _ k la lb (good_tri ga k la) (good_tri gb k lb), byte_at a k ha, byte_at b k hb, ← n1, ← n2, ← n3, f1, f2, f3, f4]
theorem cfl_succ {a b : List UInt8} {k : Nat} (h : ∀ j, j < k → cfl a b j = false) (hk : cfl a b k = false) : ∀ j, j < k + 1 → cfl a b j = false := by
  intro j hj
  by_cases e : j = k
  · subst e; exact hk
  · exact h j (by omega)
theorem ok_succ {p : Nat → Bool} {k : Nat} (h : ∀ j, j < k → p j = true) (hk : p k = true) : ∀ j, j < k + 1 → p j = true := by
  intro j hj
  by_cases e : j = k
  · subst e; exact hk
  · exact h j (by omega)
theorem inK_str (a b : ByteArray) (k : Nat) (ha : k < a.size) (hb : k < b.size) (p2 p3 : Bool) (n2 : ((b[k].toNat : Int) != 120) = p2) (n3 : ((b[k].toNat : Int) != (a[k].toNat : Int)) = p3) :
    (match a.data.toList[k]?, b.data.toList[k]? with | some x, some y => y == 120 || x == y | _, _ => true) = !(p2 && p3) := by
  have f2 : ((b[k].toNat : Int) != 120) = !(b[k] == 120) := byte_bne b[k] 120 (by decide)
  have f3 := byte_bne2 b[k] a[k]
  have f4 : (b[k] == a[k]) = (a[k] == b[k]) := by rw [Bool.eq_iff_iff, beq_iff_eq, beq_iff_eq]; exact eq_comm
  have la : a.data.toList[k]? = some a[k] := by rw [List.getElem?_eq_getElem (by simpa using ha)]; rfl
  have lb : b.data.toList[k]? = some b[k] := by rw [List.getElem?_eq_getElem (by simpa using hb)]; rfl
  simp only [la, lb]
  rw [← n2, ← n3, f2, f3, f4]
  cases (b[k] == 120) <;> cases (a[k] == b[k]) <;> rfl
theorem fit_no {a b : ByteArray} (h : fitB a.data.toList b.data.toList = false) : ((a.size : Int) != (b.size : Int)) = true ∨ (((a.size : Int) != (b.size : Int)) = false ∧ ((a.size : Int) == 0) = true) := by
  by_cases e : a.size = b.size
  · right
    have h0 : a.size = 0 := by
      unfold fitB at h
      simp at h
      by_cases e0 : a.size = 0
      · exact e0
      · exact absurd e (h (by
          intro e1
          exact e0 (by rw [show a.size = a.data.size from rfl, e1]; rfl)))
    exact ⟨by rw [e]; simp, by rw [h0]; rfl⟩
  · left
    rw [bne_iff_ne]
    omega
theorem fit_yes {a b : ByteArray} (h : fitB a.data.toList b.data.toList = true) : ((a.size : Int) != (b.size : Int)) = false ∧ ((a.size : Int) == 0) = false ∧ a.size = b.size := by
  have e : a.size = b.size := by simpa using fitB_len h
  refine ⟨by rw [e]; simp, ?_, e⟩
  rw [beq_eq_false_iff_ne]
  intro h0
  have h1 : a.data.toList = [] := by
    apply List.eq_nil_of_length_eq_zero
    have : a.data.toList.length = a.size := by simp
    omega
  rw [h1] at h
  simp [fitB] at h
theorem row_snoc {X : World} {B g cap k n : Nat} {T : List UInt8} {x : UInt8} (hk : k < T.length) (hx : T[k] = x) (h : X.ownsRow B 5 1 (.slice (some ⟨g, 0, none⟩) n cap) n ((rowAt T k).set k (.int .u8 (x.toNat : Int)))) : X.ownsRow B 5 1 (.slice (some ⟨g, 0, none⟩) n cap) n (rowAt T (k + 1)) := by
  rw [← rowAt_succ T k hk, hx]
  exact h
end Go.Proofs.YtecgjlpmmailjaaGreatDoor
namespace Go.Proofs.YtecgjlpmmailjaaGreatDoor
open Go.RowKit
/-- the header's bytes stand at gh, with z behind them -/
def hdr (W : World) (gh : Nat) (z : List Value) (h : List UInt8) : Prop := W.heap[gh]? = some (.cells (bys h ++ z).toArray 5 (h.length + z.length, h.length + z.length + 1))
theorem bys_len (h : List UInt8) : (bys h).length = h.length := by simp [bys]
theorem hdr_cell {W : World} {gh j : Nat} {z : List Value} {h : List UInt8} (hh : hdr W gh z h) (hj : j < h.length) : W.cell? ⟨gh, j, none⟩ = some (.int .u8 (h[j].toNat : Int)) := by
  unfold hdr at hh
  rw [cell_of_row W gh j _ _ _ hh]
  simp [bys, List.getElem?_append_left, hj]
theorem hdr_frozen {W : World} {gh j : Nat} {z : List Value} {h : List UInt8} (hh : hdr W gh z h) (hj : j < h.length) : W.frozen? ⟨gh, j, none⟩ = false := by
  unfold hdr at hh
  simp [World.frozen?, hh]
  omega
theorem hdr_set {W : World} {gh p : Nat} {z : List Value} {h : List UInt8} (x : UInt8) (hh : hdr W gh z h) (hp : p < h.length) : hdr (W.setCell ⟨gh, p, none⟩ (.int .u8 (x.toNat : Int))) gh z (h.set p x) := by
  have e : (bys h ++ z).toArray.setIfInBounds p (.int .u8 (x.toNat : Int)) = (bys (h.set p x) ++ z).toArray := by
    have := List.set_append_left (s := bys h) (t := z) (i := p) (x := Value.int .u8 (x.toNat : Int)) (by rw [bys_len]; exact hp)
    rw [List.setIfInBounds_toArray, this]
    simp [bys, List.map_set]
  have := set_get (j := p) (.int .u8 (x.toNat : Int)) hh
  rw [e] at this
  unfold hdr
  simpa using this
theorem hdr_alloc {W : World} {gh : Nat} {z : List Value} {h : List UInt8} (hh : hdr W gh z h) (o : Obj) : hdr (W.alloc o) gh z h := allocblk hh o
theorem hdr_new (w : World) (t : List UInt8) : hdr (Lib.bytesWorld w 5 ⟨t.toArray⟩) w.heap.size (List.replicate (grownCap w t.length 0 5 - t.length) (Value.int .u8 0)) t := by
  have h := Lib.bytesWorld_at_new w 5 ⟨t.toArray⟩
  have hz : (⟨t.toArray⟩ : ByteArray).size = t.length := by show t.toArray.size = _; simp
  have e : Lib.bytesCells w 5 ⟨t.toArray⟩ = (bys t ++ List.replicate (grownCap w t.length 0 5 - t.length) (Value.int .u8 0)).toArray := by
    unfold Lib.bytesCells
    rw [hz]
    simp [bys]
  unfold hdr
  rw [h, e]
  simp [bys_len]
theorem bel_bytes (w : World) (s : ByteArray) : Below w.heap.size w (Lib.bytesWorld w 5 s) := by
  have hb0 := ((Below.refl w.heap.size w).drew).alloc (Nat.le_refl _) (.cells (Lib.bytesCells w 5 s) 5)
  refine ⟨?_, ?_, ?_, ?_, fun k hk => Lib.bytesWorld_at_old w 5 s k hk⟩
  · simp only [Lib.bytesWorld, World.freeze]; exact hb0.os
  · simp only [Lib.bytesWorld, World.freeze]; exact hb0.tape
  · simp only [Lib.bytesWorld, World.freeze]; exact hb0.output
  · rw [Lib.bytesWorld_size]; omega
theorem cfl_str2 (a b : ByteArray) (k : Nat) (ha : k < a.size) (hb : k < b.size) (ga : good a.data.toList = true) (gb : good b.data.toList = true) (p1 p2 p3 : Bool) (n1 : ((a[k].toNat : Int) != 120) = p1) (n2 : ((b[k].toNat : Int) != 120) = p2) (n3 : ((a[k].toNat : Int) != (b[k].toNat : Int)) = p3) :
    cfl a.data.toList b.data.toList k = (p1 && p2 && p3) := by
  refine cfl_str a b k ha hb ga gb p1 p2 p3 n1 n2 ?_
  rw [← n3, byte_bne2, byte_bne2]
  congr 1
  rw [Bool.eq_iff_iff, beq_iff_eq, beq_iff_eq]
  exact eq_comm
/-- the bytes behind k rounds -/
def bxk (T a : List UInt8) (k : Nat) : List UInt8 := T.take k ++ a.drop k
theorem bxk_zero (T a : List UInt8) : bxk T a 0 = a := by simp [bxk]
theorem bxk_all (T a : List UInt8) (h : T.length = a.length) : bxk T a a.length = T := by
  unfold bxk
  rw [← h, List.take_length, h, List.drop_length, List.append_nil]
theorem bxk_len (T a : List UInt8) (h : T.length = a.length) (k : Nat) (hk : k ≤ a.length) : (bxk T a k).length = a.length := by
  unfold bxk
  rw [List.length_append, List.length_take, List.length_drop]
  omega
theorem bxk_succ (T a : List UInt8) (h : T.length = a.length) (k : Nat) (hk : k < a.length) : bxk T a (k + 1) = (bxk T a k).set k (T[k]'(by omega)) := by
  have ht : k < T.length := by omega
  have h2 : (T.take k).length = k := by rw [List.length_take]; omega
  unfold bxk
  have e := List.set_append_right (s := T.take k) (t := a.drop k) (i := k) (x := T[k]) (by omega)
  rw [e, h2, Nat.sub_self, List.take_add_one, List.getElem?_eq_getElem ht, List.drop_eq_getElem_cons hk, List.append_assoc]
  rfl
theorem bxk_keep (T a : List UInt8) (h : T.length = a.length) (k : Nat) (hk : k < a.length) (e : T[k]'(by omega) = a[k]) : bxk T a (k + 1) = bxk T a k := by
  have ht : k < T.length := by omega
  unfold bxk
  rw [List.take_add_one, List.getElem?_eq_getElem ht, List.drop_eq_getElem_cons hk, e]
  simp
end Go.Proofs.YtecgjlpmmailjaaGreatDoor
namespace Go.Proofs.YtecgjlpmmailjaaGreatDoor
open Go.RowKit
theorem info_strE : (Tryz.prog.info? 9).map (fun i => (i.zero, i.size, i.bytes)) = some (some (.string ⟨#[]⟩), 1, 16) := by kernel_rfl
theorem rs_bxk (a b : List UInt8) (k : Nat) : rsT a b k = bxk (meetT a b) a k := by
  unfold rsT bxk meetT
  rw [List.take_zipWith]
theorem notU {W : World} {B g n : Nat} {e e2 : TypeId} {sz : Nat} {v : Value} {xs : List Value} {cs : Array Value} {m : Nat × Nat} (h : W.ownsRow B e sz v n xs) (hk : W.heap[g]? = some (.cells cs e2 m)) (hne : e ≠ e2) : v.ownBlock ≠ some g := by
  intro hb
  rcases h.2 with ⟨rfl, _⟩ | ⟨g2, c2, cur2, rfl, _, hg2, _⟩
  · cases hb
  · have : g2 = g := by injection hb
    subst this
    rw [hk] at hg2
    injection hg2 with h
    injection h with _ h _
    exact hne h.symm
theorem hdr_grown {W W2 : World} {gh : Nat} {z : List Value} {h : List UInt8} {row : Option Nat} (hh : hdr W gh z h) (hg : W.grownBy W2 row) (hne : row ≠ some gh) : hdr W2 gh z h := by
  unfold hdr at hh ⊢
  exact (hg.block gh (lt_of_get3 hh) (fun e => hne e.symm)).trans hh
theorem pcs_skipE (a b : List UInt8) (k : Nat) (h : qual a b k = false) : pcs a b (k + 1) = pcs a b k := by
  refine pcs_skip a b k (k + 1) (by omega) ?_
  intro j h1 h2
  obtain rfl : j = k := by omega
  exact h
theorem stx_snocE (l : List (List UInt8)) (t : List UInt8) : stx (l ++ [t]) = stx l ++ [.string ⟨t.toArray⟩] := by simp [stx]
theorem hdr_bel {W W2 : World} {gh : Nat} {z : List Value} {h : List UInt8} (hh : hdr W gh z h) (hb : Below W.heap.size W W2) : hdr W2 gh z h := keepblk3 hb hh
end Go.Proofs.YtecgjlpmmailjaaGreatDoor
namespace Go.Proofs
open Go.Shelf
def Tryz.l106_ren : Go.Shelf.Ren := ⟨fun | 106 => 67 | 213 => 88 | 265 => 107 | n => n, fun | 9 => 9 | 3 => 3 | n => n, fun | n => n⟩
theorem Tryz.l106 : Go.Proofs.Lays.n106 Tryz.prog Tryz.l106_ren := {
  mixed := by kernel_rfl
  f106 := Tryz.func67.trans (congrArg some (by kernel_rfl))
  f213 := Tryz.func88.trans (congrArg some (by kernel_rfl))
  f265 := Tryz.func107.trans (congrArg some (by kernel_rfl))
  t3 := Tryz.underlying3
  a3 := Tryz.isAgg3
  z3 := Tryz.sizeOf3
  v3 := Tryz.zeroValue3
  t9 := Tryz.underlying9
  a9 := Tryz.isAgg9
  z9 := Tryz.sizeOf9
  v9 := Tryz.zeroValue9 }
end Go.Proofs
namespace Go.Proofs.YtecgjlpmmailjaaGreatDoor
open Go.RowKit Go.Shelf
/-- a cube with its text -/
def nm (t : List UInt8) : List Value := [.string ⟨t.toArray⟩, .int .i64 (t.length : Int), .int .u64 (FW t 0 : Int), .int .u64 (FW t 1 : Int), .int .u64 (FW t 2 : Int), .int .u64 (FW t 3 : Int), .int .u64 (OW t 0 : Int), .int .u64 (OW t 1 : Int), .int .u64 (OW t 2 : Int), .int .u64 (OW t 3 : Int)]
def nms (l : List (List UInt8)) : List Value := l.flatMap nm
theorem nms_snoc (l : List (List UInt8)) (t : List UInt8) : nms (l ++ [t]) = nms l ++ nm t := by simp [nms]
theorem nms_len (l : List (List UInt8)) : (nms l).length = l.length * 10 := by
  induction l with
  | nil => rfl
  | cons t l ih => simp only [nms, List.flatMap_cons, List.length_append, List.length_cons] at ih ⊢; rw [ih]; simp [nm]; omega
theorem info_named : (Tryz.prog.info? 103).map (fun i => (i.zero, i.size, i.bytes)) = some (some (.agg #[.string ⟨#[]⟩, .int .i64 0, .int .u64 0, .int .u64 0, .int .u64 0, .int .u64 0, .int .u64 0, .int .u64 0, .int .u64 0, .int .u64 0]), 10, 88) := by kernel_rfl
set_option maxRecDepth 100000 in
set_option maxHeartbeats 1000000 in
theorem byText_any (a b : List UInt8) (w : World) : Calls Tryz.prog 48 #[.agg #[.string ⟨a.toArray⟩, .int .i64 (a.length : Int), .int .u64 (FW a 0 : Int), .int .u64 (FW a 1 : Int), .int .u64 (FW a 2 : Int), .int .u64 (FW a 3 : Int), .int .u64 (OW a 0 : Int), .int .u64 (OW a 1 : Int), .int .u64 (OW a 2 : Int), .int .u64 (OW a 3 : Int)], .agg #[.string ⟨b.toArray⟩, .int .i64 (b.length : Int), .int .u64 (FW b 0 : Int), .int .u64 (FW b 1 : Int), .int .u64 (FW b 2 : Int), .int .u64 (FW b 3 : Int), .int .u64 (OW b 0 : Int), .int .u64 (OW b 1 : Int), .int .u64 (OW b 2 : Int), .int .u64 (OW b 3 : Int)]] w fun e w' => e = .returned (.int .i64 (Lib.compareBytes a b)) ∧ w' = (w.alloc (.cells #[.string ⟨a.toArray⟩, .int .i64 (a.length : Int), .int .u64 (FW a 0 : Int), .int .u64 (FW a 1 : Int), .int .u64 (FW a 2 : Int), .int .u64 (FW a 3 : Int), .int .u64 (OW a 0 : Int), .int .u64 (OW a 1 : Int), .int .u64 (OW a 2 : Int), .int .u64 (OW a 3 : Int)] 103 (0, 0))).alloc (.cells #[.string ⟨b.toArray⟩, .int .i64 (b.length : Int), .int .u64 (FW b 0 : Int), .int .u64 (FW b 1 : Int), .int .u64 (FW b 2 : Int), .int .u64 (FW b 3 : Int), .int .u64 (OW b 0 : Int), .int .u64 (OW b 1 : Int), .int .u64 (OW b 2 : Int), .int .u64 (OW b 3 : Int)] 103 (0, 0)) := by
  have H1 : ∀ W', Calls Tryz.prog 67 #[.string ⟨a.toArray⟩, .string ⟨b.toArray⟩] W' fun e w' => e = .returned (.int .i64 (Lib.compareBytes a b)) ∧ w' = W' := fun W' => Any.strings_Compare Tryz.l106 ⟨a.toArray⟩ ⟨b.toArray⟩ W'
  generalize Lib.compareBytes a b = r at H1 ⊢
  go_enter Tryz.func48, Tryz.ntmps48
  go_wp2_with (go_at_call 67; refine (H1 _).mono ?_; rintro e w' ⟨rfl, rfl⟩)
  go_ret
  exact ⟨rfl, rfl⟩
/-- the sort of the line behind its first, as it is asked for -/
def SortOK (srt : List (List UInt8) → List (List UInt8)) : Prop := ∀ (L : List (List UInt8)) (x : List UInt8) (n g c B : Nat) (ad : Addr) (W : World), L.length = n → n ≤ 1000000 → W.ownsRow B 103 10 (.slice (some ⟨g, 0, none⟩) (n + 1) c) (n + 1) (nms (x :: L)) → ((n = 0 ∧ ad = ⟨g, 0, none⟩) ∨ ad = ⟨g, 10, none⟩) → Calls Tryz.prog 64 #[.slice (some ad) n (c - 1), .func (.func 48) #[] #[]] W fun e w' => e = .returned (.tuple #[]) ∧ w'.ownsRow B 103 10 (.slice (some ⟨g, 0, none⟩) (n + 1) c) (n + 1) (nms (x :: srt L)) ∧ W.grownBy w' (some g)
set_option maxRecDepth 100000 in
set_option maxHeartbeats 4000000 in
theorem inLine_any (srt : List (List UInt8) → List (List UInt8)) (hso : SortOK srt) (c : List UInt8) (L : List (List UInt8)) (m k : Nat) (q : Option Addr) (w : World) (hm : L.length = m) (hm2 : m ≤ 1000000) (gc : good c = true) (gL : ∀ t ∈ L, good t = true) (hr : IRC w q L) :
    Calls Tryz.prog 44 #[.agg #[.int .i64 (c.length : Int), .int .u64 (FW c 0 : Int), .int .u64 (FW c 1 : Int), .int .u64 (FW c 2 : Int), .int .u64 (FW c 3 : Int), .int .u64 (OW c 0 : Int), .int .u64 (OW c 1 : Int), .int .u64 (OW c 2 : Int), .int .u64 (OW c 3 : Int), .slice q m k]] w fun e w' => ∃ v, e = .returned v ∧ w'.ownsRow w.heap.size 103 10 v (m + 1) (nms (c :: srt L)) ∧ Below w.heap.size w w' := by
  obtain ⟨i0, hi, hz0, hz1, hz2⟩ := info_parts info_named
  obtain ⟨w2, hw2⟩ : ∃ w2, w.alloc (.cells #[.int .i64 (c.length : Int), .int .u64 (FW c 0 : Int), .int .u64 (FW c 1 : Int), .int .u64 (FW c 2 : Int), .int .u64 (FW c 3 : Int), .int .u64 (OW c 0 : Int), .int .u64 (OW c 1 : Int), .int .u64 (OW c 2 : Int), .int .u64 (OW c 3 : Int), .slice q m k] 67 (0, 0)) = w2 := ⟨_, rfl⟩
  have hA : w2.heap[w.heap.size]? = some (.cells #[.int .i64 (c.length : Int), .int .u64 (FW c 0 : Int), .int .u64 (FW c 1 : Int), .int .u64 (FW c 2 : Int), .int .u64 (FW c 3 : Int), .int .u64 (OW c 0 : Int), .int .u64 (OW c 1 : Int), .int .u64 (OW c 2 : Int), .int .u64 (OW c 3 : Int), .slice q m k] 67 (0, 0)) := by rw [← hw2]; exact alloc_get _ _
  have hB2 : Below w.heap.size w w2 := by rw [← hw2]; exact belA (Below.refl _ _) _
  have HA : Hid (∀ W, Below w2.heap.size w2 W → ∀ j, W.cell? ⟨w.heap.size, j, none⟩ = (#[.int .i64 (c.length : Int), .int .u64 (FW c 0 : Int), .int .u64 (FW c 1 : Int), .int .u64 (FW c 2 : Int), .int .u64 (FW c 3 : Int), .int .u64 (OW c 0 : Int), .int .u64 (OW c 1 : Int), .int .u64 (OW c 2 : Int), .int .u64 (OW c 3 : Int), .slice q m k] : Array Value)[j]?) := fun W hW => (cells_block (keepblk3 hW hA)).1
  have HT : Hid (∀ t, good t = true → ∀ W, Calls Tryz.prog 23 #[.agg #[.int .i64 (t.length : Int), .int .u64 (FW t 0 : Int), .int .u64 (FW t 1 : Int), .int .u64 (FW t 2 : Int), .int .u64 (FW t 3 : Int), .int .u64 (OW t 0 : Int), .int .u64 (OW t 1 : Int), .int .u64 (OW t 2 : Int), .int .u64 (OW t 3 : Int)]] W fun e w' => e = .returned (.string ⟨t.toArray⟩) ∧ Below W.heap.size W w') := fun t gt W => text_any t W gt
  have HR : Hid (IRC w2 q L) := hr.later hB2
  have HN : Hid (L.length = m ∧ (∀ t ∈ L, good t = true) ∧ good c = true ∧ Below w.heap.size w w2) := ⟨hm, gL, gc, hB2⟩
  have HSO : Hid (SortOK srt) := hso
  have hA6 := HA.out w2 (Below.refl _ _)
  have hA6d : ∀ j, w2.drew.cell? ⟨w.heap.size, j, none⟩ = (#[.int .i64 (c.length : Int), .int .u64 (FW c 0 : Int), .int .u64 (FW c 1 : Int), .int .u64 (FW c 2 : Int), .int .u64 (FW c 3 : Int), .int .u64 (OW c 0 : Int), .int .u64 (OW c 1 : Int), .int .u64 (OW c 2 : Int), .int .u64 (OW c 3 : Int), .slice q m k] : Array Value)[j]? := hA6
  clear hA hB2 hr hm gL gc hso
  go_enter Tryz.func44, Tryz.ntmps44
  go_upto_region 1 with fail
  go_region_held3 (fun W => ∀ j, W.cell? ⟨w.heap.size, j, none⟩ = (#[.int .i64 (c.length : Int), .int .u64 (FW c 0 : Int), .int .u64 (FW c 1 : Int), .int .u64 (FW c 2 : Int), .int .u64 (FW c 3 : Int), .int .u64 (OW c 0 : Int), .int .u64 (OW c 1 : Int), .int .u64 (OW c 2 : Int), .int .u64 (OW c 3 : Int), .slice q m k] : Array Value)[j]?) (first | with_reducible exact hA6 | with_reducible exact hA6d | with_reducible exact hk5 | with_reducible exact hk6) (first | (go_at_call 23; refine (HT.out c HN.out.2.2.1 _).mono ?_; rintro e w5 ⟨rfl, hb5⟩; have hb5' : Below w2.heap.size w2 w5 := (by first | exact hb5 | exact und hb5); have hk5 := HA.out w5 hb5'; have hk6 := HA.out (w5.alloc (.cells #[.string ⟨c.toArray⟩, .int .i64 (c.length : Int), .int .u64 (FW c 0 : Int), .int .u64 (FW c 1 : Int), .int .u64 (FW c 2 : Int), .int .u64 (FW c 3 : Int), .int .u64 (OW c 0 : Int), .int .u64 (OW c 1 : Int), .int .u64 (OW c 2 : Int), .int .u64 (OW c 3 : Int)] 103 (0, 0))) (belA hb5' _)))
  have hB5 : Below w2.heap.size w2 (w5.alloc (.cells #[.string ⟨c.toArray⟩, .int .i64 (c.length : Int), .int .u64 (FW c 0 : Int), .int .u64 (FW c 1 : Int), .int .u64 (FW c 2 : Int), .int .u64 (FW c 3 : Int), .int .u64 (OW c 0 : Int), .int .u64 (OW c 1 : Int), .int .u64 (OW c 2 : Int), .int .u64 (OW c 3 : Int)] 103 (0, 0))) := belA hb5' _
  have o1 : (w5.alloc (.cells #[.string ⟨c.toArray⟩, .int .i64 (c.length : Int), .int .u64 (FW c 0 : Int), .int .u64 (FW c 1 : Int), .int .u64 (FW c 2 : Int), .int .u64 (FW c 3 : Int), .int .u64 (OW c 0 : Int), .int .u64 (OW c 1 : Int), .int .u64 (OW c 2 : Int), .int .u64 (OW c 3 : Int)] 103 (0, 0))).ownsRow w2.heap.size 103 10 (.slice (some ⟨w5.heap.size, 0, none⟩) 1 1) 1 (nms [c]) := ⟨rfl, .inr ⟨w5.heap.size, 1, _, rfl, hb5'.size, alloc_get _ _, by omega, by unfold maxLen; omega, rfl, rfl⟩⟩
  have HO1 : Hid ((w5.alloc (.cells #[.string ⟨c.toArray⟩, .int .i64 (c.length : Int), .int .u64 (FW c 0 : Int), .int .u64 (FW c 1 : Int), .int .u64 (FW c 2 : Int), .int .u64 (FW c 3 : Int), .int .u64 (OW c 0 : Int), .int .u64 (OW c 1 : Int), .int .u64 (OW c 2 : Int), .int .u64 (OW c 3 : Int)] 103 (0, 0))).ownsRow w2.heap.size 103 10 (.slice (some ⟨w5.heap.size, 0, none⟩) 1 1) 1 (nms [c]) ∧ Below w2.heap.size w2 (w5.alloc (.cells #[.string ⟨c.toArray⟩, .int .i64 (c.length : Int), .int .u64 (FW c 0 : Int), .int .u64 (FW c 1 : Int), .int .u64 (FW c 2 : Int), .int .u64 (FW c 3 : Int), .int .u64 (OW c 0 : Int), .int .u64 (OW c 1 : Int), .int .u64 (OW c 2 : Int), .int .u64 (OW c 3 : Int)] 103 (0, 0)))) := ⟨o1, hB5⟩
  clear o1 hk5 hA6 hA6d hw2
  go_wp2_with fail
  go_loopw [3, 16] (fun v3 v16 wr => ∃ j : Nat, v16 = .int .i64 (j : Int) ∧ j ≤ m ∧ wr.ownsRow w2.heap.size 103 10 v3 (j + 1) (nms (c :: L.take j)) ∧ Below w2.heap.size w2 wr) (fun _ v16 _ => m - (intOf v16).toNat)
  case atStart => exact ⟨0, rfl, Nat.zero_le _, HO1.out.1, HO1.out.2⟩
  case round =>
    clear HO1 hb5 hb5' hk6 hB5
    obtain ⟨j, rfl, hj, oR, hB⟩ := hrel
    by_cases hlt : j < m
    · have j1 : (j : Int) < (m : Int) := by omega
      have j0 : (0 : Int) ≤ (j : Int) := by omega
      obtain ⟨x, hx⟩ : ∃ x, L[j]? = some x := ⟨_, List.getElem?_eq_getElem (by rw [HN.out.1]; exact hlt)⟩
      obtain ⟨g, o0, rfl, p0, p1, p2, p3, p4, p5, p6, p7, p8⟩ := HR.out wr hB j x hx
      have HST : Hid (nms (c :: L.take (j + 1)) = nms (c :: L.take j) ++ nm x ∧ good x = true) := ⟨by rw [List.take_add_one, hx, ← List.cons_append]; exact nms_snoc _ _, HN.out.2.1 x (List.mem_of_getElem? hx)⟩
      obtain ⟨wa, hwa⟩ : ∃ wa, wr.alloc (.cells #[.int .i64 (x.length : Int), .int .u64 (FW x 0 : Int), .int .u64 (FW x 1 : Int), .int .u64 (FW x 2 : Int), .int .u64 (FW x 3 : Int), .int .u64 (OW x 0 : Int), .int .u64 (OW x 1 : Int), .int .u64 (OW x 2 : Int), .int .u64 (OW x 3 : Int)] 58 (0, 0)) = wa := ⟨_, rfl⟩
      have hal : Below wr.heap.size wr wa := by rw [← hwa]; exact belA (Below.refl _ _) _
      have hgt : wa.heap[wr.heap.size]? = some (.cells #[.int .i64 (x.length : Int), .int .u64 (FW x 0 : Int), .int .u64 (FW x 1 : Int), .int .u64 (FW x 2 : Int), .int .u64 (FW x 3 : Int), .int .u64 (OW x 0 : Int), .int .u64 (OW x 1 : Int), .int .u64 (OW x 2 : Int), .int .u64 (OW x 3 : Int)] 58 (0, 0)) := by rw [← hwa]; exact alloc_get _ _
      have HX : Hid (∀ W, Below wa.heap.size wa W → ∀ j, W.cell? ⟨wr.heap.size, j, none⟩ = (#[.int .i64 (x.length : Int), .int .u64 (FW x 0 : Int), .int .u64 (FW x 1 : Int), .int .u64 (FW x 2 : Int), .int .u64 (FW x 3 : Int), .int .u64 (OW x 0 : Int), .int .u64 (OW x 1 : Int), .int .u64 (OW x 2 : Int), .int .u64 (OW x 3 : Int)] : Array Value)[j]?) := fun W hW => (cells_block (keepblk3 hW hgt)).1
      have hX6 := HX.out wa (Below.refl _ _)
      have hX6d : ∀ j, wa.drew.cell? ⟨wr.heap.size, j, none⟩ = (#[.int .i64 (x.length : Int), .int .u64 (FW x 0 : Int), .int .u64 (FW x 1 : Int), .int .u64 (FW x 2 : Int), .int .u64 (FW x 3 : Int), .int .u64 (OW x 0 : Int), .int .u64 (OW x 1 : Int), .int .u64 (OW x 2 : Int), .int .u64 (OW x 3 : Int)] : Array Value)[j]? := hX6
      have HOR : Hid (wa.ownsRow w2.heap.size 103 10 u3 (j + 1) (nms (c :: L.take j)) ∧ Below w2.heap.size w2 wa) := ⟨own_belQ oR hal, bel0 hB hal⟩
      have HXG : Hid (∀ W X, Below wa.heap.size wa W → W.grownBy X u3.ownBlock → ∀ j, X.cell? ⟨wr.heap.size, j, none⟩ = (#[.int .i64 (x.length : Int), .int .u64 (FW x 0 : Int), .int .u64 (FW x 1 : Int), .int .u64 (FW x 2 : Int), .int .u64 (FW x 3 : Int), .int .u64 (OW x 0 : Int), .int .u64 (OW x 1 : Int), .int .u64 (OW x 2 : Int), .int .u64 (OW x 3 : Int)] : Array Value)[j]?) := fun W X hW hg => by
        have hb := keepblk3 hW hgt
        refine (cells_block ((hg.block _ (lt_of_get3 hb) (fun e => ?_)).trans hb)).1
        have := (oR.lt _ e.symm).2
        omega
      clear hx hgt oR
      go_upto_region 5 with fail
      go_region_held3 (fun W => ∀ j, W.cell? ⟨wr.heap.size, j, none⟩ = (#[.int .i64 (x.length : Int), .int .u64 (FW x 0 : Int), .int .u64 (FW x 1 : Int), .int .u64 (FW x 2 : Int), .int .u64 (FW x 3 : Int), .int .u64 (OW x 0 : Int), .int .u64 (OW x 1 : Int), .int .u64 (OW x 2 : Int), .int .u64 (OW x 3 : Int)] : Array Value)[j]?) (first | with_reducible exact hX6 | with_reducible exact hX6d | with_reducible exact hk5 | with_reducible exact hk6 | with_reducible exact hk7) (first | (go_at_call 23; refine (HT.out x HST.out.2 _).mono ?_; rintro e w5 ⟨rfl, hb5⟩; have hb5' : Below wa.heap.size wa w5 := (by first | exact hb5 | exact und hb5); have hk5 := HX.out w5 hb5'; have hb6 : Below wa.heap.size wa (w5.alloc (.cells #[.string ⟨x.toArray⟩, .int .i64 (x.length : Int), .int .u64 (FW x 0 : Int), .int .u64 (FW x 1 : Int), .int .u64 (FW x 2 : Int), .int .u64 (FW x 3 : Int), .int .u64 (OW x 0 : Int), .int .u64 (OW x 1 : Int), .int .u64 (OW x 2 : Int), .int .u64 (OW x 3 : Int)] 103 (0, 0))) := belA hb5' _; have hk6 := HX.out _ hb6; have o5 := own_belQ HOR.out.1 hb5'; have hs5 := (bel0 HOR.out.2 hb5').size) | (refine step_append_lies _ (by rfl) _ _ _ (by rfl) w2.heap.size 103 i0 _ 10 88 Tryz.underlying98 hi hz0 hz1 hz2 rfl (by decide) u3 (j + 1) (nms (c :: L.take j)) (by rfl) (World.ownsRow.alloc o5 _) ⟨_, 0, none⟩ 1 1 (nm x) (by rfl) (by rfl) (World.news_of_block (cs := #[.string ⟨x.toArray⟩, .int .i64 (x.length : Int), .int .u64 (FW x 0 : Int), .int .u64 (FW x 1 : Int), .int .u64 (FW x 2 : Int), .int .u64 (FW x 3 : Int), .int .u64 (OW x 0 : Int), .int .u64 (OW x 1 : Int), .int .u64 (OW x 2 : Int), .int .u64 (OW x 3 : Int)]) (t := 103) (fr := (0, 0)) (alloc_get w5 _)) (by simp [nm, Value.oneCell']) (by omega) (by unfold maxLen; omega) (by omega) (by simp; omega) _ rfl ?_; intro g9 c9 w7 o7 g7 _ _; have hk7 := HXG.out _ _ hb6 g7))
      have HE : Hid (w7.ownsRow w2.heap.size 103 10 (.slice (some ⟨g9, 0, none⟩) (j + 1 + 1) c9) (j + 1 + 1) (nms (c :: L.take (j + 1))) ∧ Below w2.heap.size w2 w7) := by
        refine ⟨by rw [HST.out.1]; exact o7, (bel0 HOR.out.2 hb6).grown g7 (by simp; omega) (fun b e => (HOR.out.1.lt b e).1)⟩
      clear o7 g7 hk5 hk6 hk7 o5
      go_wp2_with fail
      go_roundw
      case rel => exact ⟨j + 1, by go_num, by omega, HE.out.1, HE.out.2⟩
      case measure => simp [intOf]; omega
    · have j1 : ¬ (j : Int) < (m : Int) := by omega
      obtain rfl : j = m := by omega
      have eL : L.take j = L := List.take_of_length_le (by rw [HN.out.1]; exact Nat.le_refl _)
      rw [eL] at oR
      rcases own_shapeQ oR with ⟨-, h0⟩ | ⟨g, c9, rfl, hc9, -, -, -⟩
      · omega
      have HFI : Hid (∀ W, W.ownsRow w2.heap.size 103 10 (.slice (some ⟨g, 0, none⟩) (j + 1) c9) (j + 1) (nms (c :: srt L)) → wr.grownBy W (some g) → W.ownsRow w.heap.size 103 10 (.slice (some ⟨g, 0, none⟩) (j + 1) c9) (j + 1) (nms (c :: srt L)) ∧ Below w.heap.size w W) := fun W h1 h2 => ⟨own_base h1 HN.out.2.2.2.size, bel0 HN.out.2.2.2 (hB.grown h2 hB.size (fun b e => (oR.lt b e).1))⟩
      have k1 : (1 : Int) ≤ (c9 : Int) := by omega
      have k2 : (j : Int) + 1 ≤ (c9 : Int) := by omega
      have k3 : 1 ≤ c9 := by omega
      by_cases hc1 : c9 = 1
      · have H1 := HSO.out L c j g c9 w2.heap.size ⟨g, 0, none⟩ wr HN.out.1 hm2 oR (.inl ⟨by omega, rfl⟩)
        subst hc1
        obtain rfl : j = 0 := by omega
        clear oR eL
        go_wp2_with fail
        refine H1.mono ?_
        rintro e W1 ⟨rfl, o9, g9⟩
        have HZ := HFI.out W1 o9 g9
        go_wp2_with fail
        go_ret
        exact ⟨_, rfl, HZ.1, HZ.2⟩
      · have H1 := HSO.out L c j g c9 w2.heap.size ⟨g, 10, none⟩ wr HN.out.1 hm2 oR (.inr rfl)
        clear oR eL
        go_wp2_with fail
        refine H1.mono ?_
        rintro e W1 ⟨rfl, o9, g9⟩
        have HZ := HFI.out W1 o9 g9
        go_wp2_with fail
        go_ret
        exact ⟨_, rfl, HZ.1, HZ.2⟩
end Go.Proofs.YtecgjlpmmailjaaGreatDoor
namespace Go.Proofs
open Go.Shelf
def Tryz.l125_ren : Go.Shelf.Ren := ⟨fun | 125 => 66 | 128 => 86 | 129 => 87 | n => n, fun | 46 => 125 | 3 => 3 | 51 => 140 | 53 => 54 | 4 => 4 | 5 => 5 | 9 => 9 | n => n, fun | n => n⟩
theorem Tryz.l125 : Go.Proofs.Lays.n125 Tryz.prog Tryz.l125_ren := {
  mixed := by kernel_rfl
  f125 := Tryz.func66.trans (congrArg some (by kernel_rfl))
  f128 := Tryz.func86.trans (congrArg some (by kernel_rfl))
  f129 := Tryz.func87.trans (congrArg some (by kernel_rfl))
  t3 := Tryz.underlying3
  a3 := Tryz.isAgg3
  z3 := Tryz.sizeOf3
  v3 := Tryz.zeroValue3
  t4 := Tryz.underlying4
  a4 := Tryz.isAgg4
  z4 := Tryz.sizeOf4
  v4 := Tryz.zeroValue4
  t5 := Tryz.underlying5
  a5 := Tryz.isAgg5
  z5 := Tryz.sizeOf5
  v5 := Tryz.zeroValue5
  t9 := Tryz.underlying9
  a9 := Tryz.isAgg9
  z9 := Tryz.sizeOf9
  v9 := Tryz.zeroValue9
  t46 := Tryz.underlying125
  a46 := Tryz.isAgg125
  z46 := Tryz.sizeOf125
  v46 := Tryz.zeroValue125
  t51 := Tryz.underlying140
  a51 := Tryz.isAgg140
  z51 := Tryz.sizeOf140
  v51 := Tryz.zeroValue140
  t53 := Tryz.underlying54
  a53 := Tryz.isAgg54
  z53 := Tryz.sizeOf54
  v53 := Tryz.zeroValue54 }
end Go.Proofs
namespace Go.Proofs.YtecgjlpmmailjaaGreatDoor
open Go.RowKit Go.Shelf
set_option maxRecDepth 100000 in
set_option maxHeartbeats 1000000 in
theorem ins_le1 (n : Nat) (hn : n ≤ 1) (p : Option Addr) (c : Nat) (w : World) : Calls Tryz.prog 78 #[.slice p n c, .int .i64 0, .int .i64 (n : Int), .func (.func 46) #[] #[]] w fun e w' => e = .returned (.tuple #[]) ∧ Below w.heap.size w w' := by
  have h1 : ¬ (1 : Int) < (n : Int) := by omega
  go_enter Tryz.func78, Tryz.ntmps78
  go_wp2_with fail
  go_loopw [8] (fun v wr => v = .int .i64 1 ∧ Below w.heap.size w wr) (fun _ _ => 0)
  case atStart => exact ⟨rfl, Below.refl _ _⟩
  case round =>
    obtain ⟨rfl, hB⟩ := hrel
    go_wp2_with fail
    exact ⟨rfl, .tuple #[], by simp [results, Tryz.results78], rfl, hB⟩
set_option maxRecDepth 100000 in
set_option maxHeartbeats 2000000 in
theorem pdq_le1 (n : Nat) (hn : n ≤ 1) (p : Option Addr) (c : Nat) (l : Int) (w : World) : Calls Tryz.prog 65 #[.slice p n c, .int .i64 0, .int .i64 (n : Int), .int .i64 l, .func (.func 46) #[] #[]] w fun e w' => e = .returned (.tuple #[]) ∧ Below w.heap.size w w' := by
  have h1 : (n : Int) ≤ 12 := by omega
  have h2 : (0 : Int) ≤ (n : Int) := by omega
  have HI : Hid (∀ W, Calls Tryz.prog 78 #[.slice p n c, .int .i64 0, .int .i64 (n : Int), .func (.func 46) #[] #[]] W fun e w' => e = .returned (.tuple #[]) ∧ Below W.heap.size W w') := fun W => ins_le1 n hn p c W
  go_enter Tryz.func65, Tryz.ntmps65
  go_wp2_with fail
  go_loopw [1, 2, 3] (fun v1 v2 _ wr => v1 = .int .i64 0 ∧ v2 = .int .i64 (n : Int) ∧ Below w.heap.size w wr) (fun _ _ _ _ => 0)
  case atStart => exact ⟨rfl, rfl, Below.refl _ _⟩
  case round =>
    obtain ⟨rfl, rfl, hB⟩ := hrel
    go_wp2_with fail
    refine (HI.out _).mono ?_
    rintro e W1 ⟨rfl, hb1⟩
    go_wp2_with fail
    exact ⟨rfl, .tuple #[], by simp [results, Tryz.results65], rfl, bel0 hB hb1⟩
set_option maxRecDepth 100000 in
set_option maxHeartbeats 1000000 in
theorem sort_le1 (n : Nat) (hn : n ≤ 1) (p : Option Addr) (c : Nat) (w : World) : Calls Tryz.prog 45 #[.slice p n c, .func (.func 46) #[] #[]] w fun e w' => e = .returned (.tuple #[]) ∧ Below w.heap.size w w' := by
  have HL : Hid (∀ W, Calls Tryz.prog 66 #[.int .u64 (n : Int)] W fun e w' => (∃ l : Int, e = .returned (.int .i64 l)) ∧ w' = W) := fun W => (Any.bits_Len Tryz.l125 n W (by omega) (by omega)).mono fun _ _ ⟨he, hw⟩ => ⟨⟨_, he⟩, hw⟩
  have HP : Hid (∀ (l : Int) (W : World), Calls Tryz.prog 65 #[.slice p n c, .int .i64 0, .int .i64 (n : Int), .int .i64 l, .func (.func 46) #[] #[]] W fun e w' => e = .returned (.tuple #[]) ∧ Below W.heap.size W w') := fun l W => pdq_le1 n hn p c l W
  have h3 : IntKind.u64.wrap (n : Int) = (n : Int) := by unfold IntKind.wrap; simp [IntKind.bits]; omega
  go_enter Tryz.func45, Tryz.ntmps45
  go_wp2_with fail
  refine (HL.out _).mono ?_
  rintro e W1 ⟨⟨l, rfl⟩, rfl⟩
  go_wp2_with fail
  refine (HP.out _ _).mono ?_
  rintro e W2 ⟨rfl, hb2⟩
  go_wp2_with fail
  exact ⟨rfl, .tuple #[], by simp [results, Tryz.results45], rfl, hb2⟩
end Go.Proofs.YtecgjlpmmailjaaGreatDoor

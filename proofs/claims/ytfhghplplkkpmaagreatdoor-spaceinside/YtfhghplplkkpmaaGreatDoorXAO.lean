import Derived.Test.YtfhghplplkkpmaaGreatDoorXAC
import Derived.Test.YtfhghplplkkpmaaGreatDoorXAN
import Derived.Test.YtfhghplplkkpmaaGreatDoorXAD
import Derived.Test.YtfhghplplkkpmaaGreatDoorXAA
import Derived.Deep.RegionHeld3
import Derived.Shelf.Strings.Builder1
import Derived.Ground.NamesProg
import Derived.Test.YtfhghplplkkpmaaGreatDoorProg
namespace Go.Proofs.YtfhghplplkkpmaaGreatDoor

theorem fitB_ne {a b : List UInt8} (h : fitB a b = true) : a ≠ [] := by
  intro e; subst e; simp [fitB] at h

theorem wi_hu (a b z : List UInt8) (ha : a ≠ []) (hl : a.length = b.length) (hl2 : a.length = z.length) : wiB (huT a b) z = (wiB a z && wiB b z) := by
  have hb : b ≠ [] := by
    intro e; subst e; exact ha (List.eq_nil_of_length_eq_zero hl)
  have hlh := huT_len a b hl
  have hh : huT a b ≠ [] := by
    intro e; rw [e] at hlh; exact ha (List.eq_nil_of_length_eq_zero hlh.symm)
  rw [wiB_eq, wiB_eq, wiB_eq, fit_of ha hl2, fit_of hb (by omega), fit_of hh (by omega), Bool.true_and, Bool.true_and, Bool.true_and, hlh, ← hl]
  have key : ∀ k, k < a.length → inK (huT a b) z k = (inK a z k && inK b z k) := by
    intro k hk
    have kb : k < b.length := by omega
    have kz : k < z.length := by omega
    simp only [inK, huT_get a b hl k hk, List.getElem?_eq_getElem hk, List.getElem?_eq_getElem kb, List.getElem?_eq_getElem kz]
    generalize a[k] = x
    generalize b[k] = y
    generalize z[k] = v
    by_cases e : x = y
    · subst e; simp
    · by_cases e2 : v = 120
      · subst e2; simp
      · have e3 : ((120 : UInt8) == v) = false := by simpa using fun h => e2 h.symm
        have e4 : (v == 120) = false := by simpa using e2
        have e5 : (x == y) = false := by simpa using e
        rw [e4, e5, Bool.false_or, Bool.false_or, Bool.false_or]
        show ((120 : UInt8) == v) = _
        rw [e3]
        cases h1 : (x == v)
        · rfl
        · cases h2 : (y == v)
          · rfl
          · exact absurd ((eq_of_beq h1).trans (eq_of_beq h2).symm) e
  rw [Bool.eq_iff_iff, Bool.and_eq_true, allTo_iff, allTo_iff, allTo_iff]
  constructor
  · intro h
    refine ⟨fun k hk => ?_, fun k hk => ?_⟩
    · have := h k hk; rw [key k hk, Bool.and_eq_true] at this; exact this.1
    · have := h k hk; rw [key k hk, Bool.and_eq_true] at this; exact this.2
  · rintro ⟨h1, h2⟩ k hk
    rw [key k hk, h1 k hk, h2 k hk]; rfl

/-- the hull lies in z just if all of them do -/
theorem hul_wi (F : List UInt8) (L : List (List UInt8)) (H z : List UInt8) (hF : F ≠ []) (h : hulA F L = some H) (hl : F.length = z.length) :
    wiB H z = (wiB F z && L.all (fun x => wiB x z)) := by
  induction L generalizing F with
  | nil =>
    obtain rfl : F = H := Option.some.inj h
    simp
  | cons d l ih =>
    have h' : (if fitB F d = true then hulA (huT F d) l else none) = some H := h
    cases hf : fitB F d
    · rw [hf] at h'; cases h'
    · rw [if_pos hf] at h'
      have hld := fitB_len hf
      have hlh := huT_len F d hld
      have hh : huT F d ≠ [] := by
        intro e; rw [e] at hlh; exact hF (List.eq_nil_of_length_eq_zero hlh.symm)
      rw [ih (huT F d) hh h' (by omega), wi_hu F d z hF hld hl, List.all_cons, Bool.and_assoc]

theorem hul_len (F : List UInt8) (L : List (List UInt8)) (H : List UInt8) (h : hulA F L = some H) : H.length = F.length := by
  induction L generalizing F with
  | nil =>
    obtain rfl : F = H := Option.some.inj h
    rfl
  | cons d l ih =>
    have h' : (if fitB F d = true then hulA (huT F d) l else none) = some H := h
    cases hf : fitB F d
    · rw [hf] at h'; cases h'
    · rw [if_pos hf] at h'
      rw [ih (huT F d) h', huT_len F d (fitB_len hf)]

theorem hul_good (F : List UInt8) (L : List (List UInt8)) (H : List UInt8) (h : hulA F L = some H) (gF : good F = true) (gL : ∀ x ∈ L, good x = true) : good H = true := by
  induction L generalizing F with
  | nil =>
    obtain rfl : F = H := Option.some.inj h
    exact gF
  | cons d l ih =>
    have h' : (if fitB F d = true then hulA (huT F d) l else none) = some H := h
    cases hf : fitB F d
    · rw [hf] at h'; cases h'
    · rw [if_pos hf] at h'
      exact ih (huT F d) h' (good_huT F d gF (gL d (by simp))) (fun x hx => gL x (by simp [hx]))

theorem hul_fits (F : List UInt8) (L : List (List UInt8)) (hF : F ≠ []) (hL : ∀ x ∈ L, x.length = F.length) : ∃ H, hulA F L = some H := by
  induction L generalizing F with
  | nil => exact ⟨F, rfl⟩
  | cons d l ih =>
    have hld : F.length = d.length := (hL d (by simp)).symm
    have hf : fitB F d = true := fit_of hF hld
    have hlh := huT_len F d hld
    have hh : huT F d ≠ [] := by
      intro e; rw [e] at hlh; exact hF (List.eq_nil_of_length_eq_zero hlh.symm)
    obtain ⟨H, hH⟩ := ih (huT F d) hh (fun x hx => by rw [hL x (by simp [hx]), hlh])
    exact ⟨H, by show (if fitB F d = true then hulA (huT F d) l else none) = _; rw [if_pos hf]; exact hH⟩

/-- it holds all, and lies in every cube that does -/
theorem hul_least (F : List UInt8) (L : List (List UInt8)) (H : List UInt8) (hF : F ≠ []) (h : hulA F L = some H) : wiB F H = true ∧ ∀ x ∈ L, wiB x H = true := by
  have hl := hul_len F L H h
  have hH : H ≠ [] := by
    intro e; rw [e] at hl; exact hF (List.eq_nil_of_length_eq_zero hl.symm)
  have := hul_wi F L H H hF h hl.symm
  rw [wi_refl H hH, eq_comm, Bool.and_eq_true, List.all_eq_true] at this
  exact this
end Go.Proofs.YtfhghplplkkpmaaGreatDoor
namespace Go.Proofs.YtfhghplplkkpmaaGreatDoor
open Go.RowKit

/-- the digit of the hull at a place, one cube behind the other -/
def hdg (i : Nat) (d : UInt8) (L : List (List UInt8)) : UInt8 := L.foldl (fun d x => if x.getD i 0 == d then d else 120) d
theorem hdg_snoc (i : Nat) (d : UInt8) (L : List (List UInt8)) (k : Nat) (hk : k < L.length) : hdg i d (L.take (k + 1)) = if L[k].getD i 0 == hdg i d (L.take k) then hdg i d (L.take k) else 120 := by
  rw [List.take_add_one, List.getElem?_eq_getElem hk]
  show (L.take k ++ [L[k]]).foldl _ d = _
  rw [List.foldl_append]
  rfl
theorem hul_get (F : List UInt8) (L : List (List UInt8)) (H : List UInt8) (h : hulA F L = some H) (i : Nat) (hi : i < F.length) : H[i]? = some (hdg i F[i] L) := by
  induction L generalizing F with
  | nil =>
    obtain rfl : F = H := Option.some.inj h
    exact List.getElem?_eq_getElem hi
  | cons d l ih =>
    have h' : (if fitB F d = true then hulA (huT F d) l else none) = some H := h
    cases hf : fitB F d
    · rw [hf] at h'; cases h'
    · rw [if_pos hf] at h'
      have hld := fitB_len hf
      have hi2 : i < (huT F d).length := by rw [huT_len F d hld]; exact hi
      rw [ih (huT F d) h' hi2]
      have hg := huT_get F d hld i hi
      rw [List.getElem?_eq_getElem hi2] at hg
      rw [Option.some.inj hg]
      show some (hdg i _ l) = some (hdg i (if d.getD i 0 == F[i] then F[i] else 120) l)
      have hd : d.getD i 0 = d[i]'(by omega) := by simp [List.getElem?_eq_getElem (show i < d.length by omega)]
      rw [hd]
      congr 2
      by_cases e : F[i] = d[i]'(by omega)
      · rw [e]
      · have e2 : ¬ (d[i]'(by omega)) = F[i] := fun x => e x.symm
        simp [e, e2]
theorem hul_lens (F : List UInt8) (L : List (List UInt8)) (H : List UInt8) (h : hulA F L = some H) : ∀ x ∈ L, x.length = F.length := by
  induction L generalizing F with
  | nil => intro x hx; simp at hx
  | cons d l ih =>
    have h' : (if fitB F d = true then hulA (huT F d) l else none) = some H := h
    cases hf : fitB F d
    · rw [hf] at h'; cases h'
    · rw [if_pos hf] at h'
      have hld := fitB_len hf
      intro x hx
      rcases List.mem_cons.1 hx with rfl | hx
      · exact hld.symm
      · rw [ih _ h' x hx, huT_len F d hld]

theorem hulF_none (F : List UInt8) (L : List (List UInt8)) (x : List UInt8) (hx : x ∈ F :: L) (h : fitB x F = false) : hulF F L = none := by
  unfold hulF
  split
  · rfl
  · rename_i hF
    cases hA : hulA F L with
    | none => rfl
    | some H =>
      exfalso
      have hlen : x.length = F.length := by
        rcases List.mem_cons.1 hx with rfl | hx
        · rfl
        · exact hul_lens F L H hA x hx
      have hxe : x ≠ [] := by
        intro e
        rw [e] at hlen
        exact hF (List.eq_nil_of_length_eq_zero hlen.symm)
      rw [fit_of hxe hlen] at h
      cases h
theorem hulF_some (F : List UInt8) (L : List (List UInt8)) (h : ∀ x ∈ F :: L, fitB x F = true) : ∃ H, hulF F L = some H ∧ F ≠ [] ∧ H.length = F.length ∧ ∀ i, i < F.length → H[i]? = some (hdg i (F.getD i 0) (F :: L)) := by
  have hF : F ≠ [] := fitB_ne (h F (by simp))
  obtain ⟨H, hH⟩ := hul_fits F L hF (fun x hx => fitB_len (h x (by simp [hx])))
  refine ⟨H, ?_, hF, hul_len F L H hH, fun i hi => ?_⟩
  · unfold hulF; rw [if_neg hF]; exact hH
  · rw [hul_get F L H hH i hi]
    have hd : F.getD i 0 = F[i] := by simp [List.getElem?_eq_getElem hi]
    show some (hdg i F[i] L) = some (hdg i (if F.getD i 0 == F.getD i 0 then F.getD i 0 else 120) L)
    rw [hd]
    simp

/-- texts as strings -/
def stx (l : List (List UInt8)) : List Value := l.map (fun t => .string ⟨t.toArray⟩)
theorem stx_snoc (l : List (List UInt8)) (t : List UInt8) : stx (l ++ [t]) = stx l ++ [.string ⟨t.toArray⟩] := by simp [stx]
theorem stx_at {W : World} {B g cap k : Nat} {L : List (List UInt8)} {P : List UInt8} (hown : W.ownsRow B 9 1 (.slice (some ⟨g, 0, none⟩) L.length cap) L.length (stx L)) (hk : k < L.length) (hP : L[k] = P) :
    W.cell? ⟨g, k, none⟩ = some (.string ⟨P.toArray⟩) := by
  rw [hown.cellAt k (by omega)]
  simp [stx, List.getElem?_eq_getElem hk, hP]
/-- what the reference's Hull answers -/
def hulR : Option (List UInt8) → Value
  | some H => .tuple #[.string ⟨H.toArray⟩, .int .i64 0]
  | none => .tuple #[.string ⟨#[]⟩, .int .i64 11]
end Go.Proofs.YtfhghplplkkpmaaGreatDoor
namespace Go.Proofs.YtfhghplplkkpmaaGreatDoor
open Go.RowKit
theorem byte_bne (x : UInt8) (n : Nat) (hn : n < 256) : ((x.toNat : Int) != (n : Int)) = !(x == UInt8.ofNat n) := by
  unfold bne
  congr 1
  rw [Bool.eq_iff_iff, beq_iff_eq, beq_iff_eq]
  constructor
  · intro h
    have h1 : x.toNat = n := by omega
    rw [← h1]
    simp
  · rintro rfl
    simp
    omega
theorem byte_bne2 (x y : UInt8) : ((x.toNat : Int) != (y.toNat : Int)) = !(x == y) := by
  unfold bne
  congr 1
  rw [Bool.eq_iff_iff, beq_iff_eq, beq_iff_eq]
  constructor
  · intro h
    exact UInt8.toNat_inj.1 (by omega)
  · rintro rfl
    rfl
theorem cfl_str (a b : ByteArray) (k : Nat) (ha : k < a.size) (hb : k < b.size) (ga : good a.data.toList = true) (gb : good b.data.toList = true) (p1 p2 p3 : Bool) (n1 : ((a[k].toNat : Int) != 120) = p1) (n2 : ((b[k].toNat : Int) != 120) = p2) (n3 : ((b[k].toNat : Int) != (a[k].toNat : Int)) = p3) :
    cfl a.data.toList b.data.toList k = (p1 && p2 && p3) := by
  have f1 : ((a[k].toNat : Int) != 120) = !(a[k] == 120) := byte_bne a[k] 120 (by decide)
  have f2 : ((b[k].toNat : Int) != 120) = !(b[k] == 120) := byte_bne b[k] 120 (by decide)
  have f3 := byte_bne2 b[k] a[k]
  have f4 : (b[k] == a[k]) = (a[k] == b[k]) := by rw [Bool.eq_iff_iff, beq_iff_eq, beq_iff_eq]; exact eq_comm
  have la : k < a.data.toList.length := by simpa using ha
  have lb : k < b.data.toList.length := by simpa using hb
  rw [cfl_bytes _ _ k la lb (good_tri ga k la) (good_tri gb k lb), byte_at a k ha, byte_at b k hb, ← n1, ← n2, ← n3, f1, f2, f3, f4]
theorem cfl_succ {a b : List UInt8} {k : Nat} (h : ∀ j, j < k → cfl a b j = false) (hk : cfl a b k = false) : ∀ j, j < k + 1 → cfl a b j = false := by
  intro j hj
  by_cases e : j = k
  · subst e; exact hk
  · exact h j (by omega)
theorem ok_succ {p : Nat → Bool} {k : Nat} (h : ∀ j, j < k → p j = true) (hk : p k = true) : ∀ j, j < k + 1 → p j = true := by
  intro j hj
  by_cases e : j = k
  · subst e; exact hk
  · exact h j (by omega)
theorem inK_str (a b : ByteArray) (k : Nat) (ha : k < a.size) (hb : k < b.size) (p2 p3 : Bool) (n2 : ((b[k].toNat : Int) != 120) = p2) (n3 : ((b[k].toNat : Int) != (a[k].toNat : Int)) = p3) :
    (match a.data.toList[k]?, b.data.toList[k]? with | some x, some y => y == 120 || x == y | _, _ => true) = !(p2 && p3) := by
  have f2 : ((b[k].toNat : Int) != 120) = !(b[k] == 120) := byte_bne b[k] 120 (by decide)
  have f3 := byte_bne2 b[k] a[k]
  have f4 : (b[k] == a[k]) = (a[k] == b[k]) := by rw [Bool.eq_iff_iff, beq_iff_eq, beq_iff_eq]; exact eq_comm
  have la : a.data.toList[k]? = some a[k] := by rw [List.getElem?_eq_getElem (by simpa using ha)]; rfl
  have lb : b.data.toList[k]? = some b[k] := by rw [List.getElem?_eq_getElem (by simpa using hb)]; rfl
  simp only [la, lb]
  rw [← n2, ← n3, f2, f3, f4]
  cases (b[k] == 120) <;> cases (a[k] == b[k]) <;> rfl
theorem fit_no {a b : ByteArray} (h : fitB a.data.toList b.data.toList = false) : ((a.size : Int) != (b.size : Int)) = true ∨ (((a.size : Int) != (b.size : Int)) = false ∧ ((a.size : Int) == 0) = true) := by
  by_cases e : a.size = b.size
  · right
    have h0 : a.size = 0 := by
      unfold fitB at h
      simp at h
      by_cases e0 : a.size = 0
      · exact e0
      · exact absurd e (h (by
          intro e1
          exact e0 (by rw [show a.size = a.data.size from rfl, e1]; rfl)))
    exact ⟨by rw [e]; simp, by rw [h0]; rfl⟩
  · left
    rw [bne_iff_ne]
    omega
theorem fit_yes {a b : ByteArray} (h : fitB a.data.toList b.data.toList = true) : ((a.size : Int) != (b.size : Int)) = false ∧ ((a.size : Int) == 0) = false ∧ a.size = b.size := by
  have e : a.size = b.size := by simpa using fitB_len h
  refine ⟨by rw [e]; simp, ?_, e⟩
  rw [beq_eq_false_iff_ne]
  intro h0
  have h1 : a.data.toList = [] := by
    apply List.eq_nil_of_length_eq_zero
    have : a.data.toList.length = a.size := by simp
    omega
  rw [h1] at h
  simp [fitB] at h
theorem row_snoc {X : World} {B g cap k n : Nat} {T : List UInt8} {x : UInt8} (hk : k < T.length) (hx : T[k] = x) (h : X.ownsRow B 5 1 (.slice (some ⟨g, 0, none⟩) n cap) n ((rowAt T k).set k (.int .u8 (x.toNat : Int)))) : X.ownsRow B 5 1 (.slice (some ⟨g, 0, none⟩) n cap) n (rowAt T (k + 1)) := by
  rw [← rowAt_succ T k hk, hx]
  exact h
end Go.Proofs.YtfhghplplkkpmaaGreatDoor
namespace Go.Proofs
open Go.Shelf
def Tryz.l169_ren : Go.Shelf.Ren := ⟨fun | 169 => 38 | n => n, fun | 70 => 67 | 9 => 9 | 0 => 0 | 72 => 69 | 37 => 56 | 127 => 105 | 3 => 3 | 5 => 5 | n => n, fun | n => n⟩
theorem Tryz.l169 : Go.Proofs.Lays.n169 Tryz.prog Tryz.l169_ren := {
  mixed := by kernel_rfl
  f169 := Tryz.func38.trans (congrArg some (by kernel_rfl))
  t0 := Tryz.underlying0
  a0 := Tryz.isAgg0
  z0 := Tryz.sizeOf0
  v0 := Tryz.zeroValue0
  t3 := Tryz.underlying3
  a3 := Tryz.isAgg3
  z3 := Tryz.sizeOf3
  v3 := Tryz.zeroValue3
  t9 := Tryz.underlying9
  a9 := Tryz.isAgg9
  z9 := Tryz.sizeOf9
  v9 := Tryz.zeroValue9
  t37 := Tryz.underlying56
  a37 := Tryz.isAgg56
  z37 := Tryz.sizeOf56
  v37 := Tryz.zeroValue56
  t70 := Tryz.underlying67
  a70 := Tryz.isAgg67
  z70 := Tryz.sizeOf67
  v70 := Tryz.zeroValue67
  t72 := Tryz.underlying69
  a72 := Tryz.isAgg69
  z72 := Tryz.sizeOf69
  v72 := Tryz.zeroValue69
  t127 := Tryz.underlying105
  a127 := Tryz.isAgg105
  z127 := Tryz.sizeOf105
  v127 := Tryz.zeroValue105 }
end Go.Proofs
namespace Go.Proofs.YtfhghplplkkpmaaGreatDoor
open Go.RowKit Go.Shelf
theorem bextra : Builder.Extra Tryz.prog Tryz.l169_ren where
  sizeBuilder := by kernel_rfl
  liesBuilder := by kernel_rfl
  t5 := Tryz.underlying5
  a5 := Tryz.isAgg5
  z5 := Tryz.sizeOf5
  v5 := Tryz.zeroValue5
  infoByte := by kernel_rfl
  cellsByte := by kernel_rfl
  sizeByte := by kernel_rfl
  neB5 := by decide
theorem sizeBd : (Tryz.prog.info? 69).map (·.size) = some 2 := by kernel_rfl
theorem liesBd : liesAt Tryz.prog Tryz.prog.depth 69 (2 / Tryz.prog.cellsOf 69) 0 69 1 = true := by kernel_rfl
set_option maxHeartbeats 1000000 in
set_option maxRecDepth 100000 in
theorem cc_used (b : Nat) (w : World) (h0 : w.cell? ⟨b, 0, none⟩ = some (.pointer (some ⟨b, 0, none⟩))) :
    Calls Tryz.prog 57 #[.pointer (some ⟨b, 0, none⟩)] w fun e w' => e = .returned (.tuple #[]) ∧ w' = w := by
  obtain ⟨j, hj, _⟩ := Option.map_eq_some_iff.1 sizeBd
  go_enter Tryz.func57, Tryz.ntmps57
  go_wp2
  rw [Lib.run_neq_ptr_same w _ Tryz.underlying67 hj]
  go_wp2
  go_end0
  exact ⟨rfl, rfl⟩
set_option maxHeartbeats 1000000 in
set_option maxRecDepth 100000 in
theorem cc_fresh (b : Nat) (w : World) (h0 : w.cell? ⟨b, 0, none⟩ = some (.pointer none)) (hsh : w.shape? b = some (69, 2)) (hfz : w.frozen? ⟨b, 0, none⟩ = false) :
    Calls Tryz.prog 57 #[.pointer (some ⟨b, 0, none⟩)] w fun e w' => e = .returned (.tuple #[]) ∧ w' = w.setCell ⟨b, 0, none⟩ (.pointer (some ⟨b, 0, none⟩)) := by
  obtain ⟨j, hj, hjs⟩ := Option.map_eq_some_iff.1 sizeBd
  go_enter Tryz.func57, Tryz.ntmps57
  go_wp2
  rw [Lib.run_to_unsafe w ⟨b, 0, none⟩ Tryz.underlying67 Tryz.underlying125 hj (by rw [hjs]; decide) hsh (Nat.zero_lt_succ 1)]
  simp only [Result.andThen]
  rw [Oper.upon_value]
  go_wp2
  rw [run_callFunc_extern Tryz.func78 (by kernel_rfl) (by kernel_rfl) (by kernel_rfl) (e := Extern.AbiNoEscape.same) (by kernel_rfl)]
  rw [Lib.run_noEscape]
  simp only [Result.andThen]
  rw [Oper.upon_value]
  go_wp2
  rw [Lib.run_from_unsafe w ⟨b, 0, none⟩ Tryz.underlying125 Tryz.underlying67 hj hsh liesBd]
  simp only [Result.andThen]
  rw [Oper.upon_value]
  go_wp2
  go_end0
  exact ⟨rfl, rfl⟩
/-- what is neither a builder nor a row of bytes lies as it lay -/
def KT (w w' : World) : Prop := ∀ (k : Nat) (cs : Array Value) (t : TypeId) (fr : Nat × Nat), w.heap[k]? = some (.cells cs t fr) → t ≠ 69 → t ≠ 5 → w'.heap[k]? = some (.cells cs t fr)
theorem KT.refl (w : World) : KT w w := fun _ _ _ _ h _ _ => h
theorem KT.trans {a b c : World} (h1 : KT a b) (h2 : KT b c) : KT a c := fun k cs t fr h n1 n2 => h2 k cs t fr (h1 k cs t fr h n1 n2) n1 n2
theorem KT_below {a b : World} (h : Below a.heap.size a b) : KT a b := fun k _ _ _ hk _ _ => (h.block k (Array.getElem?_eq_some_iff.1 hk).1).trans hk
theorem KT_set {w : World} {b j : Nat} {cs : Array Value} {fr : Nat × Nat} (v : Value) (h : w.heap[b]? = some (.cells cs 69 fr)) : KT w (w.setCell ⟨b, j, none⟩ v) := fun k ds t f hk n1 _ => by
  rw [heap_setCell_other]
  · exact hk
  · rintro rfl
    rw [h] at hk
    injection hk with e
    injection e with _ e _
    exact n1 e.symm
theorem cc_any (B b : Nat) (bs : List Value) (w : World) (h : Lib.IsBuilder 69 5 B b bs w) :
    Calls Tryz.prog 57 #[.pointer (some ⟨b, 0, none⟩)] w fun e w' => e = .returned (.tuple #[]) ∧ (Lib.BuilderAt 69 5 B b (.pointer (some ⟨b, 0, none⟩)) bs w' ∧ Below B w w' ∧ KT w w') := by
  rcases h with h | h
  · refine (cc_fresh b w h.cell0 h.shape h.frozen0).mono ?_
    rintro e w' ⟨rfl, rfl⟩
    obtain ⟨_, v, hb, _⟩ := id h
    exact ⟨rfl, h.used _, (Below.refl B w).setCell (p := ⟨b, 0, none⟩) h.1 _, KT_set _ hb⟩
  · refine (cc_used b w h.cell0).mono ?_
    rintro e w' ⟨rfl, rfl⟩
    exact ⟨rfl, h, Below.refl B _, KT.refl _⟩
set_option maxHeartbeats 2000000 in
set_option maxRecDepth 100000 in
theorem ws_any (B b : Nat) (bs : List Value) (s : ByteArray) (w : World) (h : Lib.IsBuilder 69 5 B b bs w) (hlen : bs.length + s.size ≤ 140737488355328) (hBw : B ≤ w.heap.size) :
    Calls Tryz.prog 36 #[.pointer (some ⟨b, 0, none⟩), .string s] w fun e w' => e = .returned (.tuple #[.int .i64 s.size, .nilIface]) ∧ (Lib.IsBuilder 69 5 B b (bs ++ Lib.strCells s) w' ∧ Below B w w' ∧ KT w w') := by
  obtain ⟨i0, hi, hz0, hz1, hz2⟩ := info_parts info_u8
  go_enter Tryz.func36, Tryz.ntmps36
  go_wp2_with (go_at_call 57; refine (cc_any B b bs _ h).mono ?_)
  rintro e w1 ⟨rfl, h1, hb1, kt1⟩
  obtain ⟨hB, v, hbk, hown, hne⟩ := h1
  have c0 : w1.cell? ⟨b, 0, none⟩ = some (.pointer (some ⟨b, 0, none⟩)) := by rw [Lib.cell_of_heap hbk]; rfl
  have c1 : w1.cell? ⟨b, 1, none⟩ = some v := by rw [Lib.cell_of_heap hbk]; rfl
  go_wp2_with (at_builtin; refine Lib.wpList_append_own_string _ rfl _ _ 56 9 rfl B 5 i0 Tryz.underlying56 Tryz.underlying9 hi hz0 hz1 hz2 _ _ _ rfl hown s rfl ?c3 ?c4 ?c5 ?_)
  case c3 => unfold maxLen; omega
  case c4 => omega
  case c5 => have := hb1.size; omega
  intro v' w2 hown' hgrow _
  have hlt : b < w1.heap.size := by
    rcases Nat.lt_or_ge b w1.heap.size with h' | h'
    · exact h'
    · simp [Array.getElem?_eq_none h'] at hbk
  have hb2 : w2.heap[b]? = some (.cells #[.pointer (some ⟨b, 0, none⟩), v] 69 (0, 0)) := by
    rw [hgrow.block b hlt (fun e => hne e.symm)]
    exact hbk
  have d0 : w2.cell? ⟨b, 0, none⟩ = some (.pointer (some ⟨b, 0, none⟩)) := by rw [Lib.cell_of_heap hb2]; rfl
  have d1 : w2.cell? ⟨b, 1, none⟩ = some v := by rw [Lib.cell_of_heap hb2]; rfl
  have f1 : w2.frozen? ⟨b, 1, none⟩ = false := Lib.frozen_of_heap hb2 1
  obtain ⟨ao, n', cap, rfl⟩ : ∃ ao n' cap, v' = .slice ao n' cap := by
    rcases hown'.2 with ⟨hv, _⟩ | ⟨g, cap, cur, hv, _⟩
    · exact ⟨_, _, _, hv⟩
    · exact ⟨_, _, _, hv⟩
  go_wp2
  go_ret2
  refine ⟨rfl, .inr ?_, ?_, ?_⟩
  · exact Lib.BuilderAt.put (T := 69) (e := 5) hB hb2 (bs' := bs ++ Lib.strCells s) (by simpa [Lib.strCells_length] using hown') (by decide)
  · exact (hb1.grown hgrow (by have := hb1.size; omega) (fun k hk => (hown.lt k hk).1)).setCell (p := ⟨b, 1, none⟩) hB _
  · refine kt1.trans (KT.trans (fun k cs t fr hk n1 n2 => ?_) (KT_set _ hb2))
    rw [hgrow.block k (Array.getElem?_eq_some_iff.1 hk).1 ?_]
    · exact hk
    · intro e
      rcases hown.2 with ⟨rfl, _⟩ | ⟨g, cap, cur, rfl, _, hg, _⟩
      · cases e
      · have : k = g := by injection e
        subst this
        rw [hg] at hk
        injection hk with e2
        injection e2 with _ e2 _
        exact n2 e2.symm
theorem bstr_any (B b : Nat) (l : List UInt8) (w : World) (h : Lib.IsBuilder 69 5 B b (Lib.byteCells l) w) (hBw : B ≤ w.heap.size) :
    Calls Tryz.prog 38 #[.pointer (some ⟨b, 0, none⟩)] w fun e w' => e = .returned (.string ⟨l.toArray⟩) ∧ Below B w w' :=
  Any.Builder_String_any Tryz.l169 bextra B b l w h hBw
end Go.Proofs.YtfhghplplkkpmaaGreatDoor
namespace Go.Proofs.YtfhghplplkkpmaaGreatDoor
open Go.RowKit Go.Shelf
theorem res_space2 {fn : Func} {p u : Tmp} {m : Nat × Nat} (tmps : Array Value) (W : World) (b : Nat) (v0 v1 v2 : Value) (hr : fn.results = #[.cell p 26, .tmp u]) (hp : tmps.getD p undef = .pointer (some ⟨b, 0, none⟩)) (h : W.heap[b]? = some (.cells #[v0, v1, v2] 26 m)) :
    (results fn tmps).run Tryz.prog W = .ok (.tuple #[.agg #[v0, v1, v2], tmps.getD u undef]) W := by
  have hc : ∀ j, W.cell? ⟨b, j, none⟩ = (#[v0, v1, v2] : Array Value)[j]? := by
    intro j; unfold World.cell?; rw [h]; simp
  rw [results_cell_tmp hr, hp]
  simp [go_sem, hc]
theorem keep3 {W : World} {b t : Nat} {x0 x1 x2 : Value} (h : W.heap[b]? = some (.cells #[x0, x1, x2] t (0, 0))) (v0 : Int) (v1 : Value) (v2 : Bool) : (((W.setCell ⟨b, 0, none⟩ (.int .i64 v0)).setCell ⟨b, 1, none⟩ v1).setCell ⟨b, 2, none⟩ (.bool v2)).heap[b]? = some (.cells #[.int .i64 v0, v1, .bool v2] t (0, 0)) := by
  have h0 := set_get (j := 0) (.int .i64 v0) h
  have h1 := set_get (j := 1) v1 h0
  have h2 := set_get (j := 2) (.bool v2) h1
  rw [h2]
  simp
set_option maxRecDepth 100000 in
theorem inForm_any (b : Int) (p : Option Addr) (n cp : Nat) (w : World) : Calls Tryz.prog 30 #[.agg #[.int .i64 b, .slice p n cp, .bool false]] w fun e w' => e = .returned (.agg #[.int .i64 b, .slice p n cp, .bool false]) ∧ Below w.heap.size w w' := by
  obtain ⟨w2, hw2⟩ : ∃ w2, (w.alloc (.cells #[.int .i64 b, .slice p n cp, .bool false] 26 (0, 0))).alloc (.cells #[.int .i64 0, .slice none 0 0, .bool false] 26 (0, 0)) = w2 := ⟨_, rfl⟩
  have h0 : w2.heap[w.heap.size]? = some (.cells #[.int .i64 b, .slice p n cp, .bool false] 26 (0, 0)) := by rw [← hw2]; exact alw_0 _ _ _
  have h1 : w2.heap[w.heap.size + 1]? = some (.cells #[.int .i64 0, .slice none 0 0, .bool false] 26 (0, 0)) := by rw [← hw2]; exact alw_1 _ _ _
  have hB : Below w.heap.size w w2 := by rw [← hw2]; exact belA (belA (Below.refl _ _) _) _
  obtain ⟨hc0, -⟩ := cells_block h0
  obtain ⟨hc1, hf1⟩ := cells_block h1
  have HF : Hid (_ = _) := keep3 h1 b (.slice p n cp) false
  have HB : Hid (Below w.heap.size w (((w2.setCell ⟨w.heap.size + 1, 0, none⟩ (.int .i64 b)).setCell ⟨w.heap.size + 1, 1, none⟩ (.slice p n cp)).setCell ⟨w.heap.size + 1, 2, none⟩ (.bool false))) := ((hB.setCell (Nat.le_succ _) _).setCell (Nat.le_succ _) _).setCell (Nat.le_succ _) _
  clear h0 h1 hB
  go_enter Tryz.func30, Tryz.ntmps30
  go_wp2_with fail
  refine bodyPost_ret (v := .agg #[.int .i64 b, .slice p n cp, .bool false]) (res_space _ _ (w.heap.size + 1) _ _ _ Tryz.results30 rfl HF.out) rfl ?_
  exact ⟨rfl, HB.out⟩
set_option maxRecDepth 100000 in
theorem fld1 (b : Int) (p : Option Addr) (n cp : Nat) (w : World) : (Instr.field 26 (.agg #[.int .i64 b, .slice p n cp, .bool false]) 1).run Tryz.prog w = .ok (.slice p n cp) w := by
  first | rfl | kernel_rfl | simp [Instr.field, go_sem, Tryz.underlying26]
set_option maxRecDepth 100000 in
theorem bits_any (b : Int) (p : Option Addr) (n cp : Nat) (w : World) : Calls Tryz.prog 15 #[.agg #[.int .i64 b, .slice p n cp, .bool false]] w fun e w' => e = .returned (.int .i64 b) ∧ Below w.heap.size w w' := by
  obtain ⟨w2, hw2⟩ : ∃ w2, w.alloc (.cells #[.int .i64 b, .slice p n cp, .bool false] 26 (0, 0)) = w2 := ⟨_, rfl⟩
  have h0 : w2.heap[w.heap.size]? = some (.cells #[.int .i64 b, .slice p n cp, .bool false] 26 (0, 0)) := by rw [← hw2]; exact alloc_get _ _
  have hB : Below w.heap.size w w2 := by rw [← hw2]; exact belA (Below.refl _ _) _
  obtain ⟨hc0, -⟩ := cells_block h0
  clear h0
  go_enter Tryz.func15, Tryz.ntmps15
  go_wp2_with fail
  go_ret
  exact ⟨rfl, hB⟩
/-- the text of what is taken away -/
def txL (R : List (List UInt8)) : List UInt8 := R.flatMap (fun r => 45 :: r)
theorem txL_step {R : List (List UInt8)} {k : Nat} {t : List UInt8} (h : R[k]? = some t) : txL (R.take (k + 1)) = txL (R.take k) ++ (45 :: t) := by
  unfold txL
  rw [List.take_add_one, h, List.flatMap_append]
  simp
theorem txL_len {R : List (List UInt8)} (hR : ∀ t ∈ R, good t = true) : (txL R).length ≤ 257 * R.length := by
  induction R with
  | nil => simp [txL]
  | cons t r ih =>
    have h1 := ih (fun x hx => hR x (List.mem_cons_of_mem _ hx))
    have h2 := good_len (hR t List.mem_cons_self)
    unfold txL at h1 ⊢
    rw [List.flatMap_cons, List.length_append, List.length_cons, List.length_cons]
    omega
theorem isB_below {W X : World} {B b : Nat} {bs : List Value} (h : Lib.IsBuilder 69 5 B b bs W) (hb : Below W.heap.size W X) : Lib.IsBuilder 69 5 B b bs X := by
  rcases h with ⟨h1, v, h2, h3, h4⟩ | ⟨h1, v, h2, h3, h4⟩
  · exact .inl ⟨h1, v, keepblk3 hb h2, own_belQ h3 hb, h4⟩
  · exact .inr ⟨h1, v, keepblk3 hb h2, own_belQ h3 hb, h4⟩
theorem own_KT {W X : World} {B n : Nat} {e : TypeId} {sz : Nat} {v : Value} {xs : List Value} (h : W.ownsRow B e sz v n xs) (k : KT W X) (n1 : e ≠ 69) (n2 : e ≠ 5) : X.ownsRow B e sz v n xs := by
  refine ⟨h.1, ?_⟩
  rcases h.2 with h2 | ⟨g, cap, cur, h1, h2, h3, h4⟩
  · exact .inl h2
  · exact .inr ⟨g, cap, cur, h1, h2, k _ _ _ _ h3 n1 n2, h4⟩
theorem ws_text (B b : Nat) (l t : List UInt8) (w : World) (h : Lib.IsBuilder 69 5 B b (Lib.byteCells l) w) (hlen : l.length + t.length ≤ 140737488355328) (hBw : B ≤ w.heap.size) :
    Calls Tryz.prog 36 #[.pointer (some ⟨b, 0, none⟩), .string ⟨t.toArray⟩] w fun e w' => e = .returned (.tuple #[.int .i64 (t.length : Int), .nilIface]) ∧ (Lib.IsBuilder 69 5 B b (Lib.byteCells (l ++ t)) w' ∧ Below B w w' ∧ KT w w') := by
  refine (ws_any B b (Lib.byteCells l) ⟨t.toArray⟩ w h (by rw [Lib.byteCells_length]; exact hlen) hBw).mono ?_
  rintro e w' ⟨rfl, h1, h2⟩
  refine ⟨rfl, ?_, h2⟩
  have e1 : Lib.byteCells (l ++ t) = Lib.byteCells l ++ Lib.strCells ⟨t.toArray⟩ := by
    unfold Lib.byteCells Lib.strCells
    rw [List.map_append]
  rw [e1]
  exact h1
/-- what stands while Text writes -/
def TXI (W1 wr : World) (l : List UInt8) : Prop := Lib.IsBuilder 69 5 W1.heap.size W1.heap.size (Lib.byteCells l) wr ∧ KT W1 wr ∧ Below W1.heap.size W1 wr
theorem TXI.below {W1 wr X : World} {l : List UInt8} (h : TXI W1 wr l) (hb : Below wr.heap.size wr X) : TXI W1 X l := ⟨isB_below h.1 hb, h.2.1.trans (KT_below hb), bel0 h.2.2 hb⟩
theorem TXI.write {W1 wr : World} {l : List UInt8} (h : TXI W1 wr l) (t : List UInt8) (hlen : l.length + t.length ≤ 140737488355328) :
    Calls Tryz.prog 36 #[.pointer (some ⟨W1.heap.size, 0, none⟩), .string ⟨t.toArray⟩] wr fun e w' => e = .returned (.tuple #[.int .i64 (t.length : Int), .nilIface]) ∧ TXI W1 w' (l ++ t) ∧ KT wr w' := by
  refine (ws_text W1.heap.size W1.heap.size l t wr h.1 hlen h.2.2.size).mono ?_
  rintro e w' ⟨rfl, h1, h2, h3⟩
  exact ⟨rfl, ⟨h1, h.2.1.trans h3, h.2.2.trans h2⟩, h3⟩
set_option maxRecDepth 100000 in
theorem sText_none (b : Int) (w : World) : Calls Tryz.prog 13 #[.agg #[.int .i64 b, .slice none 0 0, .bool false]] w fun e w' => e = .returned (.string ⟨#[110, 111, 110, 101]⟩) ∧ Below w.heap.size w w' := by
  obtain ⟨w2, hw2⟩ : ∃ w2, w.alloc (.cells #[.int .i64 b, .slice none 0 0, .bool false] 26 (0, 0)) = w2 := ⟨_, rfl⟩
  have h0 : w2.heap[w.heap.size]? = some (.cells #[.int .i64 b, .slice none 0 0, .bool false] 26 (0, 0)) := by rw [← hw2]; exact alloc_get _ _
  have hB : Below w.heap.size w w2 := by rw [← hw2]; exact belA (Below.refl _ _) _
  obtain ⟨hc0, -⟩ := cells_block h0
  have HI : Hid (Calls Tryz.prog 30 #[.agg #[.int .i64 b, .slice none 0 0, .bool false]] w2 fun e w' => e = .returned (.agg #[.int .i64 b, .slice none 0 0, .bool false]) ∧ Below w2.heap.size w2 w') := inForm_any b none 0 0 w2
  clear h0
  have hfl := fld1
  go_enter Tryz.func13, Tryz.ntmps13
  go_wp2_with fail
  refine HI.out.mono ?_
  rintro e W1 ⟨rfl, hb1⟩
  go_wp2_with fail
  go_ret
  exact ⟨rfl, bel0 hB hb1⟩
/-- pieces with a plus between them -/
def jn (L : List (List UInt8)) : List UInt8 := (L.flatMap (fun x => 43 :: x)).drop 1
theorem jn_first (x : List UInt8) : jn [x] = x := by simp [jn]
theorem jn_snoc {L : List (List UInt8)} (h : 0 < L.length) (x : List UInt8) : jn (L ++ [x]) = jn L ++ [43] ++ x := by
  unfold jn
  rw [List.flatMap_append, List.drop_append_of_le_length]
  · simp
  · cases L with
    | nil => exact absurd h (by simp)
    | cons y l => simp
def txZ (z : ZT) : List UInt8 := z.c ++ txL z.L
def txT (t : List UInt8 × List (List UInt8)) : List UInt8 := t.1 ++ txL t.2
/-- a space's text -/
def txC (Ts : List (List UInt8 × List (List UInt8))) : List UInt8 := if Ts = [] then [110, 111, 110, 101] else jn (Ts.map txT)
theorem jnZ_step0 {Z : List ZT} {z : ZT} (h : Z[0]? = some z) : jn ((Z.take 1).map txZ) = txZ z := by
  cases Z with
  | nil => cases h
  | cons y l =>
    obtain rfl : y = z := by simpa using h
    simp [jn]
theorem jnZ_step {Z : List ZT} {k : Nat} {z : ZT} (h : Z[k]? = some z) (hk : 0 < k) : jn ((Z.take (k + 1)).map txZ) = jn ((Z.take k).map txZ) ++ [43] ++ txZ z := by
  have hl := (List.getElem?_eq_some_iff.1 h).1
  rw [List.take_add_one, h, List.map_append]
  exact jn_snoc (by simp; omega) _
theorem jn_len (n m : Nat) (L : List (List UInt8)) (hL : L.length ≤ n) (h : ∀ x ∈ L, x.length ≤ m) : (jn L).length ≤ n * (m + 1) := by
  have h2 : ∀ L : List (List UInt8), (∀ x ∈ L, x.length ≤ m) → (L.flatMap (fun x => (43 : UInt8) :: x)).length ≤ L.length * (m + 1) := by
    intro L
    induction L with
    | nil => intro _; simp
    | cons y l ih =>
      intro h
      have h1 := ih (fun x hx => h x (List.mem_cons_of_mem _ hx))
      have h3 := h y List.mem_cons_self
      rw [List.flatMap_cons, List.length_append, List.length_cons, List.length_cons, Nat.add_mul]
      omega
  have h3 := h2 L h
  have h4 : L.length * (m + 1) ≤ n * (m + 1) := Nat.mul_le_mul_right _ hL
  unfold jn
  rw [List.length_drop]
  omega
end Go.Proofs.YtfhghplplkkpmaaGreatDoor

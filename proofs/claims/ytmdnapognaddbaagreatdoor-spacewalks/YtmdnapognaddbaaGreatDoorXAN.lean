import Derived.Test.YtmdnapognaddbaaGreatDoorXAC
import Derived.Test.YtmdnapognaddbaaGreatDoorXAM
import Derived.Test.YtmdnapognaddbaaGreatDoorXAA
import Derived.Deep.RegionHeld3
import Derived.Shelf.Strings.Builder1
import Derived.Ground.NamesProg
import Derived.Test.YtmdnapognaddbaaGreatDoorProg
import Derived.Test.YtmdnapognaddbaaGreatDoorXAL
namespace Go.Proofs.YtmdnapognaddbaaGreatDoor
open Go.RowKit
theorem byte_bne (x : UInt8) (n : Nat) (hn : n < 256) : ((x.toNat : Int) != (n : Int)) = !(x == UInt8.ofNat n) := by
  unfold bne
  congr 1
  rw [Bool.eq_iff_iff, beq_iff_eq, beq_iff_eq]
  constructor
  · intro h
    have h1 : x.toNat = n := by omega
    rw [← h1]
    simp
  · rintro rfl
    simp
    omega
theorem byte_bne2 (x y : UInt8) : ((x.toNat : Int) != (y.toNat : Int)) = !(x == y) := by
  unfold bne
  congr 1
  rw [Bool.eq_iff_iff, beq_iff_eq, beq_iff_eq]
  constructor
  · intro h
    exact UInt8.toNat_inj.1 (by omega)
  · rintro rfl
    rfl
theorem cfl_str (a b : ByteArray) (k : Nat) (ha : k < a.size) (hb : k < b.size) (ga : good a.data.toList = true) (gb : good b.data.toList = true) (p1 p2 p3 : Bool) (n1 : ((a[k].toNat : Int) != 120) = p1) (n2 : ((b[k].toNat : Int) != 120) = p2) (n3 : ((b[k].toNat : Int) != (a[k].toNat : Int)) = p3) :
    cfl a.data.toList b.data.toList k = (p1 && p2 && p3) := by
  have f1 : ((a[k].toNat : Int) != 120) = !(a[k] == 120) := byte_bne a[k] 120 (by decide)
  have f2 : ((b[k].toNat : Int) != 120) = !(b[k] == 120) := byte_bne b[k] 120 (by decide)
  have f3 := byte_bne2 b[k] a[k]
  have f4 : (b[k] == a[k]) = (a[k] == b[k]) := by rw [Bool.eq_iff_iff, beq_iff_eq, beq_iff_eq]; exact eq_comm
  have la : k < a.data.toList.length := by simpa using ha
  have lb : k < b.data.toList.length := by simpa using hb
  rw [cfl_bytes _ _ k la lb (good_tri ga k la) (good_tri gb k lb), byte_at a k ha, byte_at b k hb, ← n1, ← n2, ← n3, f1, f2, f3, f4]
theorem cfl_succ {a b : List UInt8} {k : Nat} (h : ∀ j, j < k → cfl a b j = false) (hk : cfl a b k = false) : ∀ j, j < k + 1 → cfl a b j = false := by
  intro j hj
  by_cases e : j = k
  · subst e; exact hk
  · exact h j (by omega)
theorem ok_succ {p : Nat → Bool} {k : Nat} (h : ∀ j, j < k → p j = true) (hk : p k = true) : ∀ j, j < k + 1 → p j = true := by
  intro j hj
  by_cases e : j = k
  · subst e; exact hk
  · exact h j (by omega)
theorem inK_str (a b : ByteArray) (k : Nat) (ha : k < a.size) (hb : k < b.size) (p2 p3 : Bool) (n2 : ((b[k].toNat : Int) != 120) = p2) (n3 : ((b[k].toNat : Int) != (a[k].toNat : Int)) = p3) :
    (match a.data.toList[k]?, b.data.toList[k]? with | some x, some y => y == 120 || x == y | _, _ => true) = !(p2 && p3) := by
  have f2 : ((b[k].toNat : Int) != 120) = !(b[k] == 120) := byte_bne b[k] 120 (by decide)
  have f3 := byte_bne2 b[k] a[k]
  have f4 : (b[k] == a[k]) = (a[k] == b[k]) := by rw [Bool.eq_iff_iff, beq_iff_eq, beq_iff_eq]; exact eq_comm
  have la : a.data.toList[k]? = some a[k] := by rw [List.getElem?_eq_getElem (by simpa using ha)]; rfl
  have lb : b.data.toList[k]? = some b[k] := by rw [List.getElem?_eq_getElem (by simpa using hb)]; rfl
  simp only [la, lb]
  rw [← n2, ← n3, f2, f3, f4]
  cases (b[k] == 120) <;> cases (a[k] == b[k]) <;> rfl
theorem fit_no {a b : ByteArray} (h : fitB a.data.toList b.data.toList = false) : ((a.size : Int) != (b.size : Int)) = true ∨ (((a.size : Int) != (b.size : Int)) = false ∧ ((a.size : Int) == 0) = true) := by
  by_cases e : a.size = b.size
  · right
    have h0 : a.size = 0 := by
      unfold fitB at h
      simp at h
      by_cases e0 : a.size = 0
      · exact e0
      · exact absurd e (h (by
          intro e1
          exact e0 (by rw [show a.size = a.data.size from rfl, e1]; rfl)))
    exact ⟨by rw [e]; simp, by rw [h0]; rfl⟩
  · left
    rw [bne_iff_ne]
    omega
theorem fit_yes {a b : ByteArray} (h : fitB a.data.toList b.data.toList = true) : ((a.size : Int) != (b.size : Int)) = false ∧ ((a.size : Int) == 0) = false ∧ a.size = b.size := by
  have e : a.size = b.size := by simpa using fitB_len h
  refine ⟨by rw [e]; simp, ?_, e⟩
  rw [beq_eq_false_iff_ne]
  intro h0
  have h1 : a.data.toList = [] := by
    apply List.eq_nil_of_length_eq_zero
    have : a.data.toList.length = a.size := by simp
    omega
  rw [h1] at h
  simp [fitB] at h
set_option maxHeartbeats 400000 in
theorem dinside_no (a b : ByteArray) (w : World) (hf0 : fitB a.data.toList b.data.toList = false) :
    Calls Tryz.prog 89 #[.string a, .string b] w fun e w' => e = .returned (.bool false) ∧ Below w.heap.size w w' := by
  rcases fit_no hf0 with h1 | ⟨h1, h2⟩
  all_goals
    clear hf0
    go_enter Tryz.func89, Tryz.ntmps89
    go_wp2_with fail
    go_ret
    exact ⟨rfl, Below.refl _ _⟩
set_option maxHeartbeats 2000000 in
theorem dinside_loop (a b : ByteArray) (w : World) (ga : good a.data.toList = true) (hf0 : fitB a.data.toList b.data.toList = true) :
    Calls Tryz.prog 89 #[.string a, .string b] w fun e w' => e = .returned (.bool (allTo (fun k => match a.data.toList[k]?, b.data.toList[k]? with | some x, some y => y == 120 || x == y | _, _ => true) a.data.toList.length)) ∧ Below w.heap.size w w' := by
  obtain ⟨z1, z2, hz0⟩ := fit_yes hf0
  have hz : Hid (a.size = b.size) := hz0
  have hl : a.size ≤ 256 := by simpa using good_len ga
  have LA : Hid (a.data.toList.length = a.size) := by simp [Hid]
  clear hf0 hz0
  obtain ⟨f, hf1⟩ : ∃ f : Nat → Bool, (fun k => match a.data.toList[k]?, b.data.toList[k]? with | some x, some y => y == 120 || x == y | _, _ => true) = f := ⟨_, rfl⟩
  rw [hf1]
  have HF : Hid ((fun k => match a.data.toList[k]?, b.data.toList[k]? with | some x, some y => y == 120 || x == y | _, _ => true) = f) := hf1
  clear hf1
  go_enter Tryz.func89, Tryz.ntmps89
  go_wp2_with fail
  clear z1 z2
  go_loopw [5] (fun i wr => ∃ k : Nat, k ≤ a.size ∧ i = .int .i64 k ∧ Hid (∀ j, j < k → f j = true) ∧ Below w.heap.size w wr) (fun i _ => a.size - (intOf i).toNat)
  case atStart => exact ⟨0, Nat.zero_le _, rfl, fun j h => by omega, Below.refl _ _⟩
  case round =>
    obtain ⟨k, hk, rfl, hok, hB⟩ := hrel
    by_cases hlt : k < a.size
    · skip
      have hkb : k < b.size := by rw [← hz.out]; exact hlt
      have i0' : (0 : Int) ≤ (k : Int) := by omega
      have i1 : (k : Int) < (a.size : Int) := by omega
      have i2 : (k : Int) < (b.size : Int) := by omega
      obtain ⟨p2, n2⟩ : ∃ p, ((b[k].toNat : Int) != 120) = p := ⟨_, rfl⟩
      obtain ⟨p3, n3⟩ : ∃ p, ((b[k].toNat : Int) != (a[k].toNat : Int)) = p := ⟨_, rfl⟩
      have hH : Hid (f k = !(p2 && p3)) := by unfold Hid; rw [← HF.out]; exact inK_str a b k hlt hkb p2 p3 n2 n3
      have hlt' : Hid (k < a.data.toList.length) := by unfold Hid; rw [LA.out]; exact hlt
      cases p2 <;> cases p3
      all_goals
        go_wp2
        go_quiet (fail)
        go_wp2
        first
          | (have hF : f k = false := hH.out
             have hF2 := allTo_false k hlt'.out hF
             go_ret
             refine ⟨?_, hB.trans (below_drewN _ _ _)⟩
             rw [hF2]
             rfl)
          | (have hF : f k = true := hH.out
             have hF2 := ok_succ hok.out hF
             go_roundw
             case rel => exact ⟨k + 1, by omega, by go_num, hF2, hB.trans (below_drewN _ _ _)⟩
             case measure => simp [intOf]; omega)
    · have hA : Hid (allTo f a.data.toList.length = true) := (allTo_iff _ _).2 (fun j hj => hok.out j (by rw [LA.out] at hj; omega))
      clear hok
      go_wp2
      go_ret
      exact ⟨by rw [hA.out]; rfl, hB⟩
theorem dinside_any (A B : List UInt8) (w : World) (ga : good A = true) :
    Calls Tryz.prog 89 #[.string ⟨A.toArray⟩, .string ⟨B.toArray⟩] w fun e w' => e = .returned (.bool (wiB A B)) ∧ Below w.heap.size w w' := by
  unfold wiB
  cases hf : fitB A B
  · exact dinside_no ⟨A.toArray⟩ ⟨B.toArray⟩ w hf
  · rw [Bool.true_and]
    exact dinside_loop ⟨A.toArray⟩ ⟨B.toArray⟩ w ga hf
set_option maxHeartbeats 400000 in
theorem dmeet_no (a b : ByteArray) (w : World) (hf0 : fitB a.data.toList b.data.toList = false) :
    Calls Tryz.prog 54 #[.string a, .string b] w fun e w' => e = .returned (.tuple #[.string ⟨#[]⟩, .bool false]) ∧ Below w.heap.size w w' := by
  rcases fit_no hf0 with h1 | ⟨h1, h2⟩
  all_goals
    clear hf0
    go_enter Tryz.func54, Tryz.ntmps54
    go_wp2_with fail
    go_ret2
    exact ⟨rfl, Below.refl _ _⟩
theorem row_snoc {X : World} {B g cap k n : Nat} {T : List UInt8} {x : UInt8} (hk : k < T.length) (hx : T[k] = x) (h : X.ownsRow B 5 1 (.slice (some ⟨g, 0, none⟩) n cap) n ((rowAt T k).set k (.int .u8 (x.toNat : Int)))) : X.ownsRow B 5 1 (.slice (some ⟨g, 0, none⟩) n cap) n (rowAt T (k + 1)) := by
  rw [← rowAt_succ T k hk, hx]
  exact h
set_option maxHeartbeats 2000000 in
theorem dmeet_loop (a b : ByteArray) (w : World) (ga : good a.data.toList = true) (gb : good b.data.toList = true) (hf0 : fitB a.data.toList b.data.toList = true) :
    Calls Tryz.prog 54 #[.string a, .string b] w fun e w' => e = .returned (.tuple #[.string ⟨(mtT a.data.toList b.data.toList).toArray⟩, .bool (agB a.data.toList b.data.toList)]) ∧ Below w.heap.size w w' := by
  have hf : Hid (fitB a.data.toList b.data.toList = true) := hf0
  obtain ⟨z1, z2, hz0⟩ := fit_yes hf0
  have hz : Hid (a.size = b.size) := hz0
  have hl : a.size ≤ 256 := by simpa using good_len ga
  have LA : Hid (a.data.toList.length = a.size) := by simp [Hid]
  obtain ⟨T, hT0⟩ : ∃ T, meetT a.data.toList b.data.toList = T := ⟨_, rfl⟩
  have HT : Hid (meetT a.data.toList b.data.toList = T) := hT0
  have hTl : T.length = a.size := by rw [← hT0, meetT_len _ _ (fitB_len hf0)]; simp
  have HG : Hid (∀ (k : Nat) (ha : k < a.size) (hb : k < b.size) (ht : k < T.length), T[k] = if a[k] == 120 then b[k] else a[k]) := fun k ha hb ht => by
    have h1 := meetT_get _ _ (fitB_len hf0) k (by simpa using ha)
    rw [hT0, List.getElem?_eq_getElem ht] at h1
    exact Option.some.inj h1
  clear hf0 hz0 hT0
  obtain ⟨i0, hi, hz0, hz1, hz2⟩ := info_parts info_u8
  go_enter Tryz.func54, Tryz.ntmps54
  go_wp2_with (at_make; refine wpList_make_full _ rfl _ _ 66 rfl w.heap.size 5 i0 (.int .u8 0) 1 Tryz.underlying66 hi hz0 hz1 .i64 .i64 _ _ a.size rfl rfl rfl rfl (by rw [hz2]; omega) (by unfold maxLen; omega) (by simp) ?_; intro w1 hown hgrow)
  have hB : Below w.heap.size w w1 := (Below.refl _ _).grown hgrow (by simp) (fun k h => by cases h)
  have hown' : w1.ownsRow w.heap.size 5 1 (.slice (some ⟨w.heap.size, 0, none⟩) a.size a.size) a.size (rowAt T 0) := by
    rw [rowAt_zero, hTl]
    have h1 : (madeCells (Value.int IntKind.u8 0).cells (a.size * 1)).toList = List.replicate a.size (.int .u8 0) := by rw [Nat.mul_one]; exact toList_madeCells_one _ _
    rw [h1] at hown
    simpa using hown
  clear hown hgrow z1 z2
  go_loopw [7] (fun i wr => ∃ k : Nat, k ≤ a.size ∧ i = .int .i64 k ∧ wr.ownsRow w.heap.size 5 1 (.slice (some ⟨w.heap.size, 0, none⟩) a.size a.size) a.size (rowAt T k) ∧ Below w.heap.size w wr ∧ Hid (∀ j, j < k → cfl a.data.toList b.data.toList j = false)) (fun i _ => a.size - (intOf i).toNat)
  case atStart => exact ⟨0, Nat.zero_le _, rfl, hown', hB, fun j h => by omega⟩
  case round =>
    clear hB hown'
    obtain ⟨k, hk, rfl, hown, hB, hok⟩ := hrel
    by_cases hlt : k < a.size
    · have hkb : k < b.size := by rw [← hz.out]; exact hlt
      have hkT : k < T.length := by omega
      have i0' : (0 : Int) ≤ (k : Int) := by omega
      have i1 : (k : Int) < (a.size : Int) := by omega
      have i2 : (k : Int) < (b.size : Int) := by omega
      obtain ⟨p1, n1⟩ : ∃ p, ((a[k].toNat : Int) != 120) = p := ⟨_, rfl⟩
      obtain ⟨p2, n2⟩ : ∃ p, ((b[k].toNat : Int) != 120) = p := ⟨_, rfl⟩
      obtain ⟨p3, n3⟩ : ∃ p, ((b[k].toNat : Int) != (a[k].toNat : Int)) = p := ⟨_, rfl⟩
      have hH : Hid (cfl a.data.toList b.data.toList k = (p1 && p2 && p3)) := cfl_str a b k hlt hkb ga gb p1 p2 p3 n1 n2 n3
      have m1 : ((a[k].toNat : Int) == 120) = !p1 := by rw [← n1]; unfold bne; simp
      have hlt' : Hid (k < a.data.toList.length) := by unfold Hid; rw [LA.out]; exact hlt
      have M1 : Hid ((a[k] == 120) = !p1) := by
        unfold Hid
        rw [← n1, show ((a[k].toNat : Int) != 120) = !(a[k] == 120) from byte_bne a[k] 120 (by decide)]; simp
      have GT : Hid (T[k] = if a[k] == 120 then b[k] else a[k]) := HG.out k hlt hkb hkT
      have hc2 := (hown.cellAt k (by omega)).trans (rowAt_get T k hkT)
      have hf2 := hown.frozenAt k
      have hs1 := hown.stored k (.int .u8 (a[k].toNat : Int))
      have hc3 : (wr.setCell ⟨w.heap.size, k, none⟩ (.int .u8 (a[k].toNat : Int))).cell? ⟨w.heap.size, k, none⟩ = some (.int .u8 (a[k].toNat : Int)) := by
        have h1 := hs1.1.cellAt k (by omega)
        rw [h1, List.getElem?_set_self (by rw [rowAt_len T k (by omega)]; exact hkT)]
      have hf3 := hs1.1.frozenAt k
      have OW1 : Hid ((wr.setCell ⟨w.heap.size, k, none⟩ (.int .u8 (a[k].toNat : Int))).ownsRow w.heap.size 5 1 (.slice (some ⟨w.heap.size, 0, none⟩) a.size a.size) a.size ((rowAt T k).set k (.int .u8 (a[k].toNat : Int)))) := hs1.1
      have OW2 : Hid (((wr.setCell ⟨w.heap.size, k, none⟩ (.int .u8 (a[k].toNat : Int))).setCell ⟨w.heap.size, k, none⟩ (.int .u8 (b[k].toNat : Int))).ownsRow w.heap.size 5 1 (.slice (some ⟨w.heap.size, 0, none⟩) a.size a.size) a.size ((rowAt T k).set k (.int .u8 (b[k].toNat : Int)))) := by
        have h1 := (hs1.1.stored k (.int .u8 (b[k].toNat : Int))).1
        rw [List.set_set] at h1
        exact h1
      have HB : Hid (Below w.heap.size w wr) := hB
      clear hs1 hB hown n1
      cases p1
      · skip
        go_wp2
        go_roundw
        case rel => exact ⟨k + 1, by omega, by go_num, row_snoc hkT (by rw [GT.out, M1.out]; rfl) OW2.out, (HB.out.setCell (Nat.le_refl _) _).setCell (Nat.le_refl _) _, cfl_succ hok.out hH.out⟩
        case measure => simp [intOf]; omega
      · cases p2 <;> cases p3
        all_goals
          go_wp2
          go_quiet (fail)
          go_wp2
          first
            | (have hC : agB a.data.toList b.data.toList = false := agB_conf _ _ k hlt'.out hH.out
               have hC' : Hid (agB a.data.toList b.data.toList = false) := hC
               clear hC
               go_ret2
               exact ⟨by unfold mtT; rw [hC'.out]; rfl, (HB.out.setCell (Nat.le_refl _) _).trans (below_drewN _ _ _)⟩)
            | (have hC : cfl a.data.toList b.data.toList k = false := hH.out
               have hC' := cfl_succ hok.out hC
               clear hC
               go_roundw
               case rel => exact ⟨k + 1, by omega, by go_num, row_snoc hkT (by rw [GT.out, M1.out]; rfl) OW1.out, (HB.out.setCell (Nat.le_refl _) _).trans (below_drewN _ _ _), hC'⟩
               case measure => simp [intOf]; omega)
    · have hkn : k = a.size := by omega
      have hA : agB a.data.toList b.data.toList = true := agB_all _ _ hf.out (fun j hj => hok.out j (by rw [LA.out] at hj; omega))
      have hM : Hid (mtT a.data.toList b.data.toList = T) := by unfold Hid mtT; rw [if_pos hA]; exact HT.out
      have hA' : Hid (agB a.data.toList b.data.toList = true) := hA
      have hcv := conv_owned wr w.heap.size w.heap.size a.size T (by rw [hTl]; rw [hkn, ← hTl, rowAt_all, hTl] at hown; exact hown)
      rw [hTl] at hcv
      clear hA hown
      go_wp2
      go_ret2
      exact ⟨by rw [hM.out, hA'.out]; rfl, hB⟩
theorem dmeet_any (A B : List UInt8) (w : World) (ga : good A = true) (gb : good B = true) :
    Calls Tryz.prog 54 #[.string ⟨A.toArray⟩, .string ⟨B.toArray⟩] w fun e w' => e = .returned (.tuple #[.string ⟨(mtT A B).toArray⟩, .bool (agB A B)]) ∧ Below w.heap.size w w' := by
  cases hf : fitB A B
  · have h1 : agB A B = false := agB_nofit A B hf
    have h2 : mtT A B = [] := by unfold mtT; rw [h1]; rfl
    rw [h1, h2]
    exact dmeet_no ⟨A.toArray⟩ ⟨B.toArray⟩ w hf
  · exact dmeet_loop ⟨A.toArray⟩ ⟨B.toArray⟩ w ga gb hf
end Go.Proofs.YtmdnapognaddbaaGreatDoor
namespace Go.Proofs
open Go.Shelf
def Tryz.l169_ren : Go.Shelf.Ren := ⟨fun | 169 => 56 | n => n, fun | 70 => 103 | 9 => 9 | 0 => 0 | 72 => 105 | 37 => 66 | 127 => 129 | 3 => 3 | 5 => 5 | n => n, fun | n => n⟩
theorem Tryz.l169 : Go.Proofs.Lays.n169 Tryz.prog Tryz.l169_ren := {
  mixed := by kernel_rfl
  f169 := Tryz.func56.trans (congrArg some (by kernel_rfl))
  t0 := Tryz.underlying0
  a0 := Tryz.isAgg0
  z0 := Tryz.sizeOf0
  v0 := Tryz.zeroValue0
  t3 := Tryz.underlying3
  a3 := Tryz.isAgg3
  z3 := Tryz.sizeOf3
  v3 := Tryz.zeroValue3
  t9 := Tryz.underlying9
  a9 := Tryz.isAgg9
  z9 := Tryz.sizeOf9
  v9 := Tryz.zeroValue9
  t37 := Tryz.underlying66
  a37 := Tryz.isAgg66
  z37 := Tryz.sizeOf66
  v37 := Tryz.zeroValue66
  t70 := Tryz.underlying103
  a70 := Tryz.isAgg103
  z70 := Tryz.sizeOf103
  v70 := Tryz.zeroValue103
  t72 := Tryz.underlying105
  a72 := Tryz.isAgg105
  z72 := Tryz.sizeOf105
  v72 := Tryz.zeroValue105
  t127 := Tryz.underlying129
  a127 := Tryz.isAgg129
  z127 := Tryz.sizeOf129
  v127 := Tryz.zeroValue129 }
end Go.Proofs
namespace Go.Proofs.YtmdnapognaddbaaGreatDoor
open Go.RowKit Go.Shelf
theorem bextra : Builder.Extra Tryz.prog Tryz.l169_ren where
  sizeBuilder := by kernel_rfl
  liesBuilder := by kernel_rfl
  t5 := Tryz.underlying5
  a5 := Tryz.isAgg5
  z5 := Tryz.sizeOf5
  v5 := Tryz.zeroValue5
  infoByte := by kernel_rfl
  cellsByte := by kernel_rfl
  sizeByte := by kernel_rfl
  neB5 := by decide
theorem sizeBd : (Tryz.prog.info? 105).map (·.size) = some 2 := by kernel_rfl
theorem liesBd : liesAt Tryz.prog Tryz.prog.depth 105 (2 / Tryz.prog.cellsOf 105) 0 105 1 = true := by kernel_rfl
set_option maxHeartbeats 1000000 in
set_option maxRecDepth 100000 in
theorem cc_used (b : Nat) (w : World) (h0 : w.cell? ⟨b, 0, none⟩ = some (.pointer (some ⟨b, 0, none⟩))) :
    Calls Tryz.prog 76 #[.pointer (some ⟨b, 0, none⟩)] w fun e w' => e = .returned (.tuple #[]) ∧ w' = w := by
  obtain ⟨j, hj, _⟩ := Option.map_eq_some_iff.1 sizeBd
  go_enter Tryz.func76, Tryz.ntmps76
  go_wp2
  rw [Lib.run_neq_ptr_same w _ Tryz.underlying103 hj]
  go_wp2
  go_end0
  exact ⟨rfl, rfl⟩
set_option maxHeartbeats 1000000 in
set_option maxRecDepth 100000 in
theorem cc_fresh (b : Nat) (w : World) (h0 : w.cell? ⟨b, 0, none⟩ = some (.pointer none)) (hsh : w.shape? b = some (105, 2)) (hfz : w.frozen? ⟨b, 0, none⟩ = false) :
    Calls Tryz.prog 76 #[.pointer (some ⟨b, 0, none⟩)] w fun e w' => e = .returned (.tuple #[]) ∧ w' = w.setCell ⟨b, 0, none⟩ (.pointer (some ⟨b, 0, none⟩)) := by
  obtain ⟨j, hj, hjs⟩ := Option.map_eq_some_iff.1 sizeBd
  go_enter Tryz.func76, Tryz.ntmps76
  go_wp2
  rw [Lib.run_to_unsafe w ⟨b, 0, none⟩ Tryz.underlying103 Tryz.underlying147 hj (by rw [hjs]; decide) hsh (Nat.zero_lt_succ 1)]
  simp only [Result.andThen]
  rw [Oper.upon_value]
  go_wp2
  rw [run_callFunc_extern Tryz.func91 (by kernel_rfl) (by kernel_rfl) (by kernel_rfl) (e := Extern.AbiNoEscape.same) (by kernel_rfl)]
  rw [Lib.run_noEscape]
  simp only [Result.andThen]
  rw [Oper.upon_value]
  go_wp2
  rw [Lib.run_from_unsafe w ⟨b, 0, none⟩ Tryz.underlying147 Tryz.underlying103 hj hsh liesBd]
  simp only [Result.andThen]
  rw [Oper.upon_value]
  go_wp2
  go_end0
  exact ⟨rfl, rfl⟩
/-- what is neither a builder nor a row of bytes lies as it lay -/
def KT (w w' : World) : Prop := ∀ (k : Nat) (cs : Array Value) (t : TypeId) (fr : Nat × Nat), w.heap[k]? = some (.cells cs t fr) → t ≠ 105 → t ≠ 5 → w'.heap[k]? = some (.cells cs t fr)
theorem KT.refl (w : World) : KT w w := fun _ _ _ _ h _ _ => h
theorem KT.trans {a b c : World} (h1 : KT a b) (h2 : KT b c) : KT a c := fun k cs t fr h n1 n2 => h2 k cs t fr (h1 k cs t fr h n1 n2) n1 n2
theorem KT_below {a b : World} (h : Below a.heap.size a b) : KT a b := fun k _ _ _ hk _ _ => (h.block k (Array.getElem?_eq_some_iff.1 hk).1).trans hk
theorem KT_set {w : World} {b j : Nat} {cs : Array Value} {fr : Nat × Nat} (v : Value) (h : w.heap[b]? = some (.cells cs 105 fr)) : KT w (w.setCell ⟨b, j, none⟩ v) := fun k ds t f hk n1 _ => by
  rw [heap_setCell_other]
  · exact hk
  · rintro rfl
    rw [h] at hk
    injection hk with e
    injection e with _ e _
    exact n1 e.symm
theorem cc_any (B b : Nat) (bs : List Value) (w : World) (h : Lib.IsBuilder 105 5 B b bs w) :
    Calls Tryz.prog 76 #[.pointer (some ⟨b, 0, none⟩)] w fun e w' => e = .returned (.tuple #[]) ∧ (Lib.BuilderAt 105 5 B b (.pointer (some ⟨b, 0, none⟩)) bs w' ∧ Below B w w' ∧ KT w w') := by
  rcases h with h | h
  · refine (cc_fresh b w h.cell0 h.shape h.frozen0).mono ?_
    rintro e w' ⟨rfl, rfl⟩
    obtain ⟨_, v, hb, _⟩ := id h
    exact ⟨rfl, h.used _, (Below.refl B w).setCell (p := ⟨b, 0, none⟩) h.1 _, KT_set _ hb⟩
  · refine (cc_used b w h.cell0).mono ?_
    rintro e w' ⟨rfl, rfl⟩
    exact ⟨rfl, h, Below.refl B _, KT.refl _⟩
set_option maxHeartbeats 2000000 in
set_option maxRecDepth 100000 in
theorem ws_any (B b : Nat) (bs : List Value) (s : ByteArray) (w : World) (h : Lib.IsBuilder 105 5 B b bs w) (hlen : bs.length + s.size ≤ 140737488355328) (hBw : B ≤ w.heap.size) :
    Calls Tryz.prog 55 #[.pointer (some ⟨b, 0, none⟩), .string s] w fun e w' => e = .returned (.tuple #[.int .i64 s.size, .nilIface]) ∧ (Lib.IsBuilder 105 5 B b (bs ++ Lib.strCells s) w' ∧ Below B w w' ∧ KT w w') := by
  obtain ⟨i0, hi, hz0, hz1, hz2⟩ := info_parts info_u8
  go_enter Tryz.func55, Tryz.ntmps55
  go_wp2_with (go_at_call 76; refine (cc_any B b bs _ h).mono ?_)
  rintro e w1 ⟨rfl, h1, hb1, kt1⟩
  obtain ⟨hB, v, hbk, hown, hne⟩ := h1
  have c0 : w1.cell? ⟨b, 0, none⟩ = some (.pointer (some ⟨b, 0, none⟩)) := by rw [Lib.cell_of_heap hbk]; rfl
  have c1 : w1.cell? ⟨b, 1, none⟩ = some v := by rw [Lib.cell_of_heap hbk]; rfl
  go_wp2_with (at_builtin; refine Lib.wpList_append_own_string _ rfl _ _ 66 9 rfl B 5 i0 Tryz.underlying66 Tryz.underlying9 hi hz0 hz1 hz2 _ _ _ rfl hown s rfl ?c3 ?c4 ?c5 ?_)
  case c3 => unfold maxLen; omega
  case c4 => omega
  case c5 => have := hb1.size; omega
  intro v' w2 hown' hgrow _
  have hlt : b < w1.heap.size := by
    rcases Nat.lt_or_ge b w1.heap.size with h' | h'
    · exact h'
    · simp [Array.getElem?_eq_none h'] at hbk
  have hb2 : w2.heap[b]? = some (.cells #[.pointer (some ⟨b, 0, none⟩), v] 105 (0, 0)) := by
    rw [hgrow.block b hlt (fun e => hne e.symm)]
    exact hbk
  have d0 : w2.cell? ⟨b, 0, none⟩ = some (.pointer (some ⟨b, 0, none⟩)) := by rw [Lib.cell_of_heap hb2]; rfl
  have d1 : w2.cell? ⟨b, 1, none⟩ = some v := by rw [Lib.cell_of_heap hb2]; rfl
  have f1 : w2.frozen? ⟨b, 1, none⟩ = false := Lib.frozen_of_heap hb2 1
  obtain ⟨ao, n', cap, rfl⟩ : ∃ ao n' cap, v' = .slice ao n' cap := by
    rcases hown'.2 with ⟨hv, _⟩ | ⟨g, cap, cur, hv, _⟩
    · exact ⟨_, _, _, hv⟩
    · exact ⟨_, _, _, hv⟩
  go_wp2
  go_ret2
  refine ⟨rfl, .inr ?_, ?_, ?_⟩
  · exact Lib.BuilderAt.put (T := 105) (e := 5) hB hb2 (bs' := bs ++ Lib.strCells s) (by simpa [Lib.strCells_length] using hown') (by decide)
  · exact (hb1.grown hgrow (by have := hb1.size; omega) (fun k hk => (hown.lt k hk).1)).setCell (p := ⟨b, 1, none⟩) hB _
  · refine kt1.trans (KT.trans (fun k cs t fr hk n1 n2 => ?_) (KT_set _ hb2))
    rw [hgrow.block k (Array.getElem?_eq_some_iff.1 hk).1 ?_]
    · exact hk
    · intro e
      rcases hown.2 with ⟨rfl, _⟩ | ⟨g, cap, cur, rfl, _, hg, _⟩
      · cases e
      · have : k = g := by injection e
        subst this
        rw [hg] at hk
        injection hk with e2
        injection e2 with _ e2 _
        exact n2 e2.symm
theorem bstr_any (B b : Nat) (l : List UInt8) (w : World) (h : Lib.IsBuilder 105 5 B b (Lib.byteCells l) w) (hBw : B ≤ w.heap.size) :
    Calls Tryz.prog 56 #[.pointer (some ⟨b, 0, none⟩)] w fun e w' => e = .returned (.string ⟨l.toArray⟩) ∧ Below B w w' :=
  Any.Builder_String_any Tryz.l169 bextra B b l w h hBw
end Go.Proofs.YtmdnapognaddbaaGreatDoor
namespace Go.Proofs.YtmdnapognaddbaaGreatDoor
open Go.RowKit Go.Shelf
theorem res_space2 {fn : Func} {p u : Tmp} {m : Nat × Nat} (tmps : Array Value) (W : World) (b : Nat) (v0 v1 v2 : Value) (hr : fn.results = #[.cell p 24, .tmp u]) (hp : tmps.getD p undef = .pointer (some ⟨b, 0, none⟩)) (h : W.heap[b]? = some (.cells #[v0, v1, v2] 24 m)) :
    (results fn tmps).run Tryz.prog W = .ok (.tuple #[.agg #[v0, v1, v2], tmps.getD u undef]) W := by
  have hc : ∀ j, W.cell? ⟨b, j, none⟩ = (#[v0, v1, v2] : Array Value)[j]? := by
    intro j; unfold World.cell?; rw [h]; simp
  rw [results_cell_tmp hr, hp]
  simp [go_sem, hc]
theorem keep3 {W : World} {b t : Nat} {x0 x1 x2 : Value} (h : W.heap[b]? = some (.cells #[x0, x1, x2] t (0, 0))) (v0 : Int) (v1 : Value) (v2 : Bool) : (((W.setCell ⟨b, 0, none⟩ (.int .i64 v0)).setCell ⟨b, 1, none⟩ v1).setCell ⟨b, 2, none⟩ (.bool v2)).heap[b]? = some (.cells #[.int .i64 v0, v1, .bool v2] t (0, 0)) := by
  have h0 := set_get (j := 0) (.int .i64 v0) h
  have h1 := set_get (j := 1) v1 h0
  have h2 := set_get (j := 2) (.bool v2) h1
  rw [h2]
  simp
set_option maxRecDepth 100000 in
theorem inForm_any (b : Int) (p : Option Addr) (n cp : Nat) (w : World) : Calls Tryz.prog 37 #[.agg #[.int .i64 b, .slice p n cp, .bool false]] w fun e w' => e = .returned (.agg #[.int .i64 b, .slice p n cp, .bool false]) ∧ Below w.heap.size w w' := by
  obtain ⟨w2, hw2⟩ : ∃ w2, (w.alloc (.cells #[.int .i64 b, .slice p n cp, .bool false] 24 (0, 0))).alloc (.cells #[.int .i64 0, .slice none 0 0, .bool false] 24 (0, 0)) = w2 := ⟨_, rfl⟩
  have h0 : w2.heap[w.heap.size]? = some (.cells #[.int .i64 b, .slice p n cp, .bool false] 24 (0, 0)) := by rw [← hw2]; exact alw_0 _ _ _
  have h1 : w2.heap[w.heap.size + 1]? = some (.cells #[.int .i64 0, .slice none 0 0, .bool false] 24 (0, 0)) := by rw [← hw2]; exact alw_1 _ _ _
  have hB : Below w.heap.size w w2 := by rw [← hw2]; exact belA (belA (Below.refl _ _) _) _
  obtain ⟨hc0, -⟩ := cells_block h0
  obtain ⟨hc1, hf1⟩ := cells_block h1
  have HF : Hid (_ = _) := keep3 h1 b (.slice p n cp) false
  have HB : Hid (Below w.heap.size w (((w2.setCell ⟨w.heap.size + 1, 0, none⟩ (.int .i64 b)).setCell ⟨w.heap.size + 1, 1, none⟩ (.slice p n cp)).setCell ⟨w.heap.size + 1, 2, none⟩ (.bool false))) := ((hB.setCell (Nat.le_succ _) _).setCell (Nat.le_succ _) _).setCell (Nat.le_succ _) _
  clear h0 h1 hB
  go_enter Tryz.func37, Tryz.ntmps37
  go_wp2_with fail
  refine bodyPost_ret (v := .agg #[.int .i64 b, .slice p n cp, .bool false]) (res_space _ _ (w.heap.size + 1) _ _ _ Tryz.results37 rfl HF.out) rfl ?_
  exact ⟨rfl, HB.out⟩
set_option maxRecDepth 100000 in
theorem fld1 (b : Int) (p : Option Addr) (n cp : Nat) (w : World) : (Instr.field 24 (.agg #[.int .i64 b, .slice p n cp, .bool false]) 1).run Tryz.prog w = .ok (.slice p n cp) w := by
  first | rfl | kernel_rfl | simp [Instr.field, go_sem, Tryz.underlying24]
set_option maxRecDepth 100000 in
theorem bits_any (b : Int) (p : Option Addr) (n cp : Nat) (w : World) : Calls Tryz.prog 28 #[.agg #[.int .i64 b, .slice p n cp, .bool false]] w fun e w' => e = .returned (.int .i64 b) ∧ Below w.heap.size w w' := by
  obtain ⟨w2, hw2⟩ : ∃ w2, w.alloc (.cells #[.int .i64 b, .slice p n cp, .bool false] 24 (0, 0)) = w2 := ⟨_, rfl⟩
  have h0 : w2.heap[w.heap.size]? = some (.cells #[.int .i64 b, .slice p n cp, .bool false] 24 (0, 0)) := by rw [← hw2]; exact alloc_get _ _
  have hB : Below w.heap.size w w2 := by rw [← hw2]; exact belA (Below.refl _ _) _
  obtain ⟨hc0, -⟩ := cells_block h0
  clear h0
  go_enter Tryz.func28, Tryz.ntmps28
  go_wp2_with fail
  go_ret
  exact ⟨rfl, hB⟩
/-- the text of what is taken away -/
def txL (R : List (List UInt8)) : List UInt8 := R.flatMap (fun r => 45 :: r)
theorem txL_step {R : List (List UInt8)} {k : Nat} {t : List UInt8} (h : R[k]? = some t) : txL (R.take (k + 1)) = txL (R.take k) ++ (45 :: t) := by
  unfold txL
  rw [List.take_add_one, h, List.flatMap_append]
  simp
theorem txL_len {R : List (List UInt8)} (hR : ∀ t ∈ R, good t = true) : (txL R).length ≤ 257 * R.length := by
  induction R with
  | nil => simp [txL]
  | cons t r ih =>
    have h1 := ih (fun x hx => hR x (List.mem_cons_of_mem _ hx))
    have h2 := good_len (hR t List.mem_cons_self)
    unfold txL at h1 ⊢
    rw [List.flatMap_cons, List.length_append, List.length_cons, List.length_cons]
    omega
theorem isB_below {W X : World} {B b : Nat} {bs : List Value} (h : Lib.IsBuilder 105 5 B b bs W) (hb : Below W.heap.size W X) : Lib.IsBuilder 105 5 B b bs X := by
  rcases h with ⟨h1, v, h2, h3, h4⟩ | ⟨h1, v, h2, h3, h4⟩
  · exact .inl ⟨h1, v, keepblk3 hb h2, own_belQ h3 hb, h4⟩
  · exact .inr ⟨h1, v, keepblk3 hb h2, own_belQ h3 hb, h4⟩
theorem own_KT {W X : World} {B n : Nat} {e : TypeId} {sz : Nat} {v : Value} {xs : List Value} (h : W.ownsRow B e sz v n xs) (k : KT W X) (n1 : e ≠ 105) (n2 : e ≠ 5) : X.ownsRow B e sz v n xs := by
  refine ⟨h.1, ?_⟩
  rcases h.2 with h2 | ⟨g, cap, cur, h1, h2, h3, h4⟩
  · exact .inl h2
  · exact .inr ⟨g, cap, cur, h1, h2, k _ _ _ _ h3 n1 n2, h4⟩
theorem ws_text (B b : Nat) (l t : List UInt8) (w : World) (h : Lib.IsBuilder 105 5 B b (Lib.byteCells l) w) (hlen : l.length + t.length ≤ 140737488355328) (hBw : B ≤ w.heap.size) :
    Calls Tryz.prog 55 #[.pointer (some ⟨b, 0, none⟩), .string ⟨t.toArray⟩] w fun e w' => e = .returned (.tuple #[.int .i64 (t.length : Int), .nilIface]) ∧ (Lib.IsBuilder 105 5 B b (Lib.byteCells (l ++ t)) w' ∧ Below B w w' ∧ KT w w') := by
  refine (ws_any B b (Lib.byteCells l) ⟨t.toArray⟩ w h (by rw [Lib.byteCells_length]; exact hlen) hBw).mono ?_
  rintro e w' ⟨rfl, h1, h2⟩
  refine ⟨rfl, ?_, h2⟩
  have e1 : Lib.byteCells (l ++ t) = Lib.byteCells l ++ Lib.strCells ⟨t.toArray⟩ := by
    unfold Lib.byteCells Lib.strCells
    rw [List.map_append]
  rw [e1]
  exact h1
/-- what stands while Text writes -/
def TXI (W1 wr : World) (l : List UInt8) : Prop := Lib.IsBuilder 105 5 W1.heap.size W1.heap.size (Lib.byteCells l) wr ∧ KT W1 wr ∧ Below W1.heap.size W1 wr
theorem TXI.below {W1 wr X : World} {l : List UInt8} (h : TXI W1 wr l) (hb : Below wr.heap.size wr X) : TXI W1 X l := ⟨isB_below h.1 hb, h.2.1.trans (KT_below hb), bel0 h.2.2 hb⟩
theorem TXI.write {W1 wr : World} {l : List UInt8} (h : TXI W1 wr l) (t : List UInt8) (hlen : l.length + t.length ≤ 140737488355328) :
    Calls Tryz.prog 55 #[.pointer (some ⟨W1.heap.size, 0, none⟩), .string ⟨t.toArray⟩] wr fun e w' => e = .returned (.tuple #[.int .i64 (t.length : Int), .nilIface]) ∧ TXI W1 w' (l ++ t) ∧ KT wr w' := by
  refine (ws_text W1.heap.size W1.heap.size l t wr h.1 hlen h.2.2.size).mono ?_
  rintro e w' ⟨rfl, h1, h2, h3⟩
  exact ⟨rfl, ⟨h1, h.2.1.trans h3, h.2.2.trans h2⟩, h3⟩
set_option maxRecDepth 100000 in
theorem sText_none (b : Int) (w : World) : Calls Tryz.prog 26 #[.agg #[.int .i64 b, .slice none 0 0, .bool false]] w fun e w' => e = .returned (.string ⟨#[110, 111, 110, 101]⟩) ∧ Below w.heap.size w w' := by
  obtain ⟨w2, hw2⟩ : ∃ w2, w.alloc (.cells #[.int .i64 b, .slice none 0 0, .bool false] 24 (0, 0)) = w2 := ⟨_, rfl⟩
  have h0 : w2.heap[w.heap.size]? = some (.cells #[.int .i64 b, .slice none 0 0, .bool false] 24 (0, 0)) := by rw [← hw2]; exact alloc_get _ _
  have hB : Below w.heap.size w w2 := by rw [← hw2]; exact belA (Below.refl _ _) _
  obtain ⟨hc0, -⟩ := cells_block h0
  have HI : Hid (Calls Tryz.prog 37 #[.agg #[.int .i64 b, .slice none 0 0, .bool false]] w2 fun e w' => e = .returned (.agg #[.int .i64 b, .slice none 0 0, .bool false]) ∧ Below w2.heap.size w2 w') := inForm_any b none 0 0 w2
  clear h0
  have hfl := fld1
  go_enter Tryz.func26, Tryz.ntmps26
  go_wp2_with fail
  refine HI.out.mono ?_
  rintro e W1 ⟨rfl, hb1⟩
  go_wp2_with fail
  go_ret
  exact ⟨rfl, bel0 hB hb1⟩
/-- pieces with a plus between them -/
def jn (L : List (List UInt8)) : List UInt8 := (L.flatMap (fun x => 43 :: x)).drop 1
theorem jn_first (x : List UInt8) : jn [x] = x := by simp [jn]
theorem jn_snoc {L : List (List UInt8)} (h : 0 < L.length) (x : List UInt8) : jn (L ++ [x]) = jn L ++ [43] ++ x := by
  unfold jn
  rw [List.flatMap_append, List.drop_append_of_le_length]
  · simp
  · cases L with
    | nil => exact absurd h (by simp)
    | cons y l => simp
def txZ (z : ZT) : List UInt8 := z.c ++ txL z.L
def txT (t : List UInt8 × List (List UInt8)) : List UInt8 := t.1 ++ txL t.2
/-- a space's text -/
def txC (Ts : List (List UInt8 × List (List UInt8))) : List UInt8 := if Ts = [] then [110, 111, 110, 101] else jn (Ts.map txT)
theorem jnZ_step0 {Z : List ZT} {z : ZT} (h : Z[0]? = some z) : jn ((Z.take 1).map txZ) = txZ z := by
  cases Z with
  | nil => cases h
  | cons y l =>
    obtain rfl : y = z := by simpa using h
    simp [jn]
theorem jnZ_step {Z : List ZT} {k : Nat} {z : ZT} (h : Z[k]? = some z) (hk : 0 < k) : jn ((Z.take (k + 1)).map txZ) = jn ((Z.take k).map txZ) ++ [43] ++ txZ z := by
  have hl := (List.getElem?_eq_some_iff.1 h).1
  rw [List.take_add_one, h, List.map_append]
  exact jn_snoc (by simp; omega) _
theorem jn_len (n m : Nat) (L : List (List UInt8)) (hL : L.length ≤ n) (h : ∀ x ∈ L, x.length ≤ m) : (jn L).length ≤ n * (m + 1) := by
  have h2 : ∀ L : List (List UInt8), (∀ x ∈ L, x.length ≤ m) → (L.flatMap (fun x => (43 : UInt8) :: x)).length ≤ L.length * (m + 1) := by
    intro L
    induction L with
    | nil => intro _; simp
    | cons y l ih =>
      intro h
      have h1 := ih (fun x hx => h x (List.mem_cons_of_mem _ hx))
      have h3 := h y List.mem_cons_self
      rw [List.flatMap_cons, List.length_append, List.length_cons, List.length_cons, Nat.add_mul]
      omega
  have h3 := h2 L h
  have h4 : L.length * (m + 1) ≤ n * (m + 1) := Nat.mul_le_mul_right _ hL
  unfold jn
  rw [List.length_drop]
  omega
end Go.Proofs.YtmdnapognaddbaaGreatDoor

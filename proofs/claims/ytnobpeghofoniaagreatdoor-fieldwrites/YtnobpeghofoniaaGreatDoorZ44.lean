import Derived.Test.YtnobpeghofoniaaGreatDoorZ43
import Derived.Test.YtnobpeghofoniaaGreatDoorZ41
import Derived.Test.YtnobpeghofoniaaGreatDoorZ39
namespace Go.Proofs.YtnobpeghofoniaaGreatDoor
open Go.RowKit Go.Shelf
theorem valF_snoc {Y : List UInt8} {j : Nat} {c : UInt8} (h : Y[j]? = some c) : valF 0 (Y.take (j + 1)) = 2 * valF 0 (Y.take j) + (if c = 49 then 1 else 0) := by
  rw [List.take_add_one, h, Option.toList_some, valF_app]
  rfl
theorem valF_32 {Y : List UInt8} (h : Y.length ≤ 32) : valF 0 Y ≤ 4294967296 :=
  Nat.le_trans (Nat.le_of_lt (valF_lt Y)) (show 2 ^ Y.length ≤ 2 ^ 32 from Nat.pow_le_pow_right (by decide) h)
theorem sub_getK {s : List UInt8} {p b j : Nat} (hj : j < b) : (subL s p (p + b))[j]? = s[p + j]? := by
  unfold subL
  rw [Nat.add_sub_cancel_left, List.getElem?_take_of_lt hj, List.getElem?_drop]
set_option maxRecDepth 100000 in
set_option maxHeartbeats 4000000 in
theorem lvalue_any (L : List IFld) (o : Option Addr) (c k : Nat) (x : List UInt8) (b p : Nat) (s : List UInt8) (w : World) (hL : L.length ≤ 12) (hfk : L[k]? = some (x, (b : Int))) (hp : sumB (L.take k) = (p : Int)) (hb : b ≤ 32) (hpb : p + b ≤ s.length) (hs : s.length ≤ 400) (hd : s.all dg01 = true) (hb0 : ∀ f ∈ L, 0 ≤ f.2 ∧ f.2 ≤ 32) (hr : IRF w o L) :
    Calls Tryz.prog 13 #[.slice o L.length c, .int .i64 k, .string ⟨s.toArray⟩] w fun e w' => e = .returned (.int .i64 (valF 0 (subL s p (p + b)) : Int)) ∧ w' = w := by
  have hkL : k < L.length := (List.getElem?_eq_some_iff.1 hfk).1
  obtain ⟨g, o0, rfl, -, z0⟩ := hr w (Below.refl _ _) k _ hfk
  have XF : Hid (∀ (j : Nat) (f : IFld), L[j]? = some f → w.cell? ⟨g, o0 + j * 2 + 1, none⟩ = some (.int .i64 f.2)) := fun j f hf => by
    obtain ⟨g3, q3, h1, -, h2⟩ := hr w (Below.refl _ _) j f hf
    injection h1 with h1
    injection h1 with h1 h4
    subst h1 h4
    exact h2
  obtain ⟨Y, hY⟩ : ∃ Y, subL s p (p + b) = Y := ⟨_, rfl⟩
  have hYl : Y.length = b := by rw [← hY]; unfold subL; rw [List.length_take, List.length_drop]; omega
  have HYG : Hid (∀ j, j < b → Y[j]? = s[p + j]?) := fun j hj => by rw [← hY]; exact sub_getK hj
  have HB0 : Hid (∀ f ∈ L, 0 ≤ f.2 ∧ f.2 ≤ 32) := hb0
  have HP : Hid (sumB (L.take k) = (p : Int)) := hp
  have HD : Hid (s.all dg01 = true) := hd
  have HYL : Hid (Y.length = b) := hYl
  rw [hY]
  clear hr hfk hY hb0 hp hd hYl
  go_enter Tryz.func13, Tryz.ntmps13
  go_wp2_with fail
  go_loopw [7, 8] (fun v vj wr => ∃ (j q : Nat), vj = .int .i64 j ∧ j ≤ k ∧ v = .int .i64 q ∧ Hid (sumB (L.take j) = (q : Int)) ∧ wr = w) (fun _ vj _ => k - (intOf vj).toNat)
  case atStart => exact ⟨0, 0, rfl, Nat.zero_le _, rfl, rfl, rfl⟩
  case round =>
    obtain ⟨j, q, rfl, hj, rfl, hq, rfl⟩ := hrel
    by_cases hjk : j < k
    · have q1 : (j : Int) < (k : Int) := by omega
      have q0 : (0 : Int) ≤ (j : Int) := by omega
      have q2 : (j : Int) < (L.length : Int) := by omega
      obtain ⟨f, hf⟩ : ∃ f, L[j]? = some f := ⟨_, List.getElem?_eq_getElem (by omega)⟩
      have z1 := XF.out j f hf
      have hfb := HB0.out f (List.mem_of_getElem? hf)
      have hst := sumB_take hf
      rw [hq.out] at hst
      have hle := (sumB_bound (L.take j) (fun f hf => HB0.out f (List.mem_of_mem_take hf))).2
      rw [hq.out, List.length_take] at hle
      obtain ⟨x1, bi⟩ := f
      obtain ⟨b1, rfl⟩ : ∃ b : Nat, bi = (b : Int) := ⟨bi.toNat, by simp only at hfb; omega⟩
      simp only at hfb hst z1
      have HST : Hid (sumB (L.take (j + 1)) = ((q + b1 : Nat) : Int)) := by unfold Hid; rw [hst]; omega
      have e1 : IntKind.i64.wrap ((q : Int) + (b1 : Int)) = ((q + b1 : Nat) : Int) := by rw [IntKind.wrap_i64]; omega
      clear hf hst hq hle
      go_wp2_with fail
      go_roundw
      case rel => exact ⟨j + 1, q + b1, by go_num, by omega, by go_num, HST, by first | rfl | trivial⟩
      case measure => simp [intOf]; omega
    · have q1 : ¬ (j : Int) < (k : Int) := by omega
      obtain rfl : j = k := by omega
      obtain rfl : q = p := by have h1 := hq.out; rw [HP.out] at h1; omega
      have q0 : (0 : Int) ≤ (j : Int) := by omega
      have q2 : (j : Int) < (L.length : Int) := by omega
      clear hq
      go_wp2_with fail
      go_loopw [9, 10] (fun v vj wi => ∃ (i u : Nat), vj = .int .i64 i ∧ i ≤ b ∧ v = .int .i64 u ∧ Hid (valF 0 (Y.take i) = u) ∧ wi = wr) (fun _ vj _ => b - (intOf vj).toNat)
      case atStart => exact ⟨0, 0, rfl, Nat.zero_le _, rfl, rfl, rfl⟩
      case round =>
        obtain ⟨i, u, rfl, hi, rfl, hu, rfl⟩ := hrel
        by_cases hib : i < b
        · have r1 : (i : Int) < (b : Int) := by omega
          have r0 : (0 : Int) ≤ (q : Int) + (i : Int) := by omega
          have r2 : (q : Int) + (i : Int) < (s.length : Int) := by omega
          obtain ⟨m, hm⟩ : ∃ m, q + i = m := ⟨_, rfl⟩
          have e0 : IntKind.i64.wrap ((q : Int) + (i : Int)) = (m : Int) := by rw [IntKind.wrap_i64]; omega
          have r3 : (0 : Int) ≤ (m : Int) := by omega
          have r4 : (m : Int) < (s.length : Int) := by omega
          obtain ⟨d, hdd, hld⟩ := byte_get s m (by omega)
          have hYi : Y[i]? = some d := by rw [HYG.out i hib, hm]; exact hld
          have hsn := valF_snoc hYi
          rw [hu.out] at hsn
          have hd1 : dg01 d = true := List.all_eq_true.1 HD.out d (List.mem_of_getElem? hld)
          have hub : u ≤ 4294967296 := by rw [← hu.out]; exact valF_32 (by rw [List.length_take, HYL.out]; omega)
          have e1 : IntKind.i64.wrap (2 * (u : Int)) = 2 * (u : Int) := by rw [IntKind.wrap_i64]; omega
          have e2 : IntKind.i64.wrap (2 * (u : Int) + 1) = 2 * (u : Int) + 1 := by rw [IntKind.wrap_i64]; omega
          have e3 : IntKind.i64.wrap (2 * (u : Int) + 0) = 2 * (u : Int) + 0 := by rw [IntKind.wrap_i64]; omega
          rcases (show d = 48 ∨ d = 49 by revert hd1; revert d; unfold dg01; simp) with rfl | rfl
          · have HSN : Hid (valF 0 (Y.take (i + 1)) = 2 * u + 0) := hsn
            clear hsn hYi hld hu hd1 hm
            go_wp2_with fail
            go_roundw
            case rel => exact ⟨i + 1, 2 * u + 0, by go_num, by omega, by go_num, HSN, by first | rfl | trivial⟩
            case measure => simp [intOf]; omega
          · have HSN : Hid (valF 0 (Y.take (i + 1)) = 2 * u + 1) := hsn
            clear hsn hYi hld hu hd1 hm
            go_wp2_with fail
            go_roundw
            case rel => exact ⟨i + 1, 2 * u + 1, by go_num, by omega, by go_num, HSN, by first | rfl | trivial⟩
            case measure => simp [intOf]; omega
        · have r1 : ¬ (i : Int) < (b : Int) := by omega
          have hY : valF 0 Y = u := by rw [← hu.out, List.take_of_length_le (by rw [HYL.out]; omega)]
          have HY : Hid (valF 0 Y = u) := hY
          clear hu hY
          go_wp2_with fail
          go_ret
          exact ⟨by rw [HY.out]; rfl, rfl⟩
end Go.Proofs.YtnobpeghofoniaaGreatDoor
namespace Go.Proofs.YtnobpeghofoniaaGreatDoor
open Go.RowKit Go.Shelf
theorem info_set : (Tryz.prog.info? 37).map (fun i => (i.zero, i.size, i.bytes)) = some (some (.agg #[.string ⟨#[]⟩, .int .i64 0]), 2, 24) := by kernel_rfl
theorem IRF_ownS {W : World} {B n : Nat} {o : Option Addr} {c : Nat} {L : List IFld} (h : W.ownsRow B 37 2 (.slice o n c) n (fels L)) (hn : L.length = n) : IRF W o L := fun W' hW k f hf => by
  have hk := (List.getElem?_eq_some_iff.1 hf).1
  obtain ⟨g, rfl⟩ := own_at h (by omega)
  obtain ⟨a0, a1⟩ := fels_at L k f hf
  have h2 := owns_below h hW
  exact ⟨g, 0, rfl, by rw [Nat.zero_add]; exact (h2.cellAt _ (by omega)).trans a0, by rw [Nat.zero_add]; exact (h2.cellAt _ (by omega)).trans a1⟩
end Go.Proofs.YtnobpeghofoniaaGreatDoor

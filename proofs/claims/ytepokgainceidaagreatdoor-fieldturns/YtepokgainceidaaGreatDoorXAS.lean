import Derived.Test.YtepokgainceidaaGreatDoorXAO
import Derived.Test.YtepokgainceidaaGreatDoorXAL
import Derived.Test.YtepokgainceidaaGreatDoorXAR
import Derived.Lib.SlTrimSet
namespace Go.Proofs.YtepokgainceidaaGreatDoor
open Go.RowKit Go.Shelf
theorem res_fault (tmps : Array Value) (W : World) (b : Nat) (x : Int) {m : Nat × Nat} (hp : tmps.getD 4 undef = .pointer (some ⟨b, 0, none⟩)) (h : W.heap[b]? = some (.cells #[.int .i64 x] 29 m)) :
    (results Tryz.f174 tmps).run Tryz.prog W = .ok (.int .i64 x) W := by
  have hc : ∀ j, W.cell? ⟨b, j, none⟩ = (#[.int .i64 x] : Array Value)[j]? := by
    intro j; unfold World.cell?; rw [h]; simp
  have hp' : tmps[4]?.getD undef = .pointer (some ⟨b, 0, none⟩) := by simpa using hp
  simp [results, hp', go_sem, hc]
set_option maxRecDepth 100000 in
set_option maxHeartbeats 1000000 in
theorem fault6 (t : List UInt8) (w : World) : Calls Tryz.prog 174 #[.int .i64 6, .string ⟨t.toArray⟩] w fun e w' => e = .returned (.int .i64 0) ∧ Below w.heap.size w w' := by
  go_enter Tryz.func174, Tryz.ntmps174
  go_wp2_with fail
  exact bodyPost_ret (res_fault _ _ w.heap.size 0 rfl (alloc_get _ _)) rfl ⟨rfl, (Below.refl _ _).alloc (Nat.le_refl _) _⟩
set_option maxRecDepth 100000 in
set_option maxHeartbeats 1000000 in
theorem fault7 (t : List UInt8) (w : World) : Calls Tryz.prog 174 #[.int .i64 7, .string ⟨t.toArray⟩] w fun e w' => e = .returned (.int .i64 (if t = [] then 30 else 0 : Nat)) ∧ Below w.heap.size w w' := by
  cases t with
  | nil =>
    go_enter Tryz.func174, Tryz.ntmps174
    go_wp2_with fail
    exact bodyPost_ret (res_fault _ _ w.heap.size 30 rfl (alloc_get _ _)) rfl ⟨rfl, (Below.refl _ _).alloc (Nat.le_refl _) _⟩
  | cons c t =>
    go_enter Tryz.func174, Tryz.ntmps174
    go_wp2_with fail
    exact bodyPost_ret (res_fault _ _ w.heap.size 0 rfl (alloc_get _ _)) rfl ⟨rfl, (Below.refl _ _).alloc (Nat.le_refl _) _⟩
theorem valE_nat (t : List UInt8) : valE t = ((valE t).toNat : Int) := by
  unfold valE
  repeat' split
  all_goals rfl
set_option maxRecDepth 100000 in
set_option maxHeartbeats 1000000 in
theorem fault4 (t : List UInt8) (w : World) (ht : t.length ≤ 16384) (hv : VW w) : Calls Tryz.prog 174 #[.int .i64 4, .string ⟨t.toArray⟩] w fun e w' => e = .returned (.int .i64 ((valE t).toNat : Int)) ∧ Below w.heap.size w w' := by
  have HV := value_any t (w.alloc (.cells #[.int .i64 0] 29)) (by omega) (hv.below ((Below.refl _ _).alloc (Nat.le_refl _) _))
  rw [← valE_nat t]
  obtain ⟨x, hx⟩ : ∃ x, valV t = x := ⟨_, rfl⟩
  obtain ⟨y, hy⟩ : ∃ y, valE t = y := ⟨_, rfl⟩
  rw [hx, hy] at HV
  rw [hy]
  clear hx hy hv
  go_enter Tryz.func174, Tryz.ntmps174
  go_wp2_with fail
  refine HV.mono ?_
  rintro e w1 ⟨rfl, hb⟩
  have k0 := keepblk hb (alloc_get w (.cells #[.int .i64 0] 29))
  have c0 := cell_of k0
  have f0 := froz_of k0
  go_wp2_with fail
  refine bodyPost_ret (res_fault _ _ w.heap.size y rfl (set_one _ k0)) rfl ⟨rfl, (bel1 hb).setCell (p := ⟨w.heap.size, 0, none⟩) (Nat.le_refl _) _⟩
theorem dropW_nil {α : Type} (p : α → Bool) : ∀ l : List α, l.dropWhile p = [] ↔ ∀ x ∈ l, p x = true
  | [] => by simp
  | a :: l => by
    rw [List.dropWhile_cons]
    cases h : p a with
    | true =>
      simp only [if_true]
      rw [dropW_nil p l]
      simp [h]
    | false =>
      simp [h]
theorem trim_nil (l : List UInt8) : Lib.trimS l [48, 49, 120] = [] ↔ l.all is01x = true := by
  have hc : ∀ b : UInt8, ([48, 49, 120] : List UInt8).contains b = is01x b := fun b => by
    unfold is01x
    simp [List.contains, List.elem]
    cases b == 48 <;> cases b == 49 <;> cases b == 120 <;> rfl
  have hr : Lib.trimRightS l [48, 49, 120] = [] ↔ ∀ x ∈ l, is01x x = true := by
    unfold Lib.trimRightS
    rw [List.reverse_eq_nil_iff, dropW_nil]
    simp only [List.mem_reverse, hc]
  have hpre : ∀ x, x ∈ Lib.trimRightS l [48, 49, 120] → x ∈ l := fun x hx => by
    unfold Lib.trimRightS at hx
    rw [List.mem_reverse] at hx
    exact List.mem_reverse.1 ((List.dropWhile_sublist _).subset hx)
  rw [List.all_eq_true]
  unfold Lib.trimS Lib.trimLeftS
  rw [dropW_nil]
  simp only [hc]
  constructor
  · intro h
    refine hr.1 (Classical.byContradiction (fun hne => ?_))
    have hlast := List.getLast_mem hne
    have h1 := h _ hlast
    have h2 : is01x ((Lib.trimRightS l [48, 49, 120]).getLast hne) = false := by
      have hd : l.reverse.dropWhile (([48, 49, 120] : List UInt8).contains ·) ≠ [] := fun e => hne (by unfold Lib.trimRightS; rw [e]; rfl)
      have hh := List.head_dropWhile_not (([48, 49, 120] : List UInt8).contains ·) hd
      have he : (Lib.trimRightS l [48, 49, 120]).getLast hne = (l.reverse.dropWhile (([48, 49, 120] : List UInt8).contains ·)).head hd := by
        simp only [Lib.trimRightS, List.getLast_reverse]
      rw [he, ← hc]
      simpa using hh
    rw [h1] at h2
    cases h2
  · intro h x hx
    exact h x (hpre x hx)
theorem trim_any (r : List UInt8) (w : World) (hr : r.length ≤ 16384) : Calls Tryz.prog 178 #[.string ⟨r.toArray⟩, .string ⟨#[48, 49, 120]⟩] w fun e w' => e = .returned (.string ⟨(Lib.trimS r [48, 49, 120]).toArray⟩) ∧ Below w.heap.size w w' :=
  Any.strings_Trim_ascii Tryz.l160 (by intro w; kernel_rfl) (by kernel_rfl) ⟨r.toArray⟩ ⟨#[48, 49, 120]⟩ w (by simp [ByteArray.size]; omega) (by decide) (fun j b h => by
    have : b ∈ ([48, 49, 120] : List UInt8) := List.mem_of_getElem? h
    clear h
    revert b
    decide)
set_option maxRecDepth 100000 in
set_option maxHeartbeats 1000000 in
theorem fault5 (c : UInt8) (d : List UInt8) (w : World) (hd : d.length ≤ 16383) : Calls Tryz.prog 174 #[.int .i64 5, .string ⟨(c :: d).toArray⟩] w fun e w' => e = .returned (.int .i64 (if d = [] ∨ 32 < d.length ∨ d.all is01x = false then 44 else 0 : Nat)) ∧ Below w.heap.size w w' := by
  have hE : (ByteArray.mk (c :: d).toArray).extract 1 (d.length + 1) = ⟨d.toArray⟩ := by
    have := ext_drop (c :: d) 1
    simpa using this
  have q1 : (1 : Int) ≤ (d.length : Int) + 1 := by omega
  have q2 : (0 : Int) ≤ (d.length : Int) := by omega
  have HT : Hid (∀ W, Calls Tryz.prog 178 #[.string ⟨d.toArray⟩, .string ⟨#[48, 49, 120]⟩] W fun e w' => e = .returned (.string ⟨(Lib.trimS d [48, 49, 120]).toArray⟩) ∧ Below W.heap.size W w') := fun W => trim_any d W (by omega)
  have hn := trim_nil d
  by_cases d0 : d = []
  · have HR : Hid ((if d = [] ∨ 32 < d.length ∨ d.all is01x = false then 44 else 0 : Nat) = 44) := if_pos (.inl d0)
    rw [HR.out]
    subst d0
    clear hn
    go_enter Tryz.func174, Tryz.ntmps174
    go_wp2_with fail
    exact bodyPost_ret (res_fault _ _ w.heap.size 44 rfl (alloc_get _ _)) rfl ⟨rfl, (Below.refl _ _).alloc (Nat.le_refl _) _⟩
  · have hem : d.isEmpty = false := by cases d with
      | nil => exact absurd rfl d0
      | cons _ _ => rfl
    by_cases d32 : 32 < d.length
    · have HR : Hid ((if d = [] ∨ 32 < d.length ∨ d.all is01x = false then 44 else 0 : Nat) = 44) := if_pos (.inr (.inl d32))
      rw [HR.out]
      have i32 : (32 : Int) < (d.length : Int) := by omega
      clear hn
      go_enter Tryz.func174, Tryz.ntmps174
      go_wp2_with fail
      exact bodyPost_ret (res_fault _ _ w.heap.size 44 rfl (alloc_get _ _)) rfl ⟨rfl, (Below.refl _ _).alloc (Nat.le_refl _) _⟩
    · have i32 : ¬ (32 : Int) < (d.length : Int) := by omega
      obtain ⟨T, hT⟩ : ∃ T, Lib.trimS d [48, 49, 120] = T := ⟨_, rfl⟩
      rw [hT] at HT hn
      cases ha : d.all is01x with
      | true =>
        have HR : Hid ((if d = [] ∨ 32 < d.length ∨ true = false then 44 else 0 : Nat) = 0) := if_neg (by simp [d0]; omega)
        rw [HR.out]
        obtain rfl := hn.2 ha
        clear hn hT ha
        go_enter Tryz.func174, Tryz.ntmps174
        go_wp2_with fail
        refine (HT.out _).mono ?_
        rintro e w1 ⟨rfl, hb⟩
        have k0 := keepblk hb (alloc_get w (.cells #[.int .i64 0] 29))
        have c0 := cell_of k0
        have f0 := froz_of k0
        go_wp2_with fail
        exact bodyPost_ret (res_fault _ _ w.heap.size 0 rfl (set_one _ k0)) rfl ⟨rfl, (bel1 hb).setCell (p := ⟨w.heap.size, 0, none⟩) (Nat.le_refl _) _⟩
      | false =>
        have HR : Hid ((if d = [] ∨ 32 < d.length ∨ false = false then 44 else 0 : Nat) = 44) := if_pos (.inr (.inr rfl))
        rw [HR.out]
        have hT0 : T ≠ [] := fun e => by
          have := hn.1 e
          rw [ha] at this
          cases this
        have hTe : T.isEmpty = false := by cases T with
          | nil => exact absurd rfl hT0
          | cons _ _ => rfl
        clear hn hT ha
        go_enter Tryz.func174, Tryz.ntmps174
        go_wp2_with fail
        refine (HT.out _).mono ?_
        rintro e w1 ⟨rfl, hb⟩
        have k0 := keepblk hb (alloc_get w (.cells #[.int .i64 0] 29))
        have c0 := cell_of k0
        have f0 := froz_of k0
        go_wp2_with fail
        exact bodyPost_ret (res_fault _ _ w.heap.size 44 rfl (set_one _ k0)) rfl ⟨rfl, (bel1 hb).setCell (p := ⟨w.heap.size, 0, none⟩) (Nat.le_refl _) _⟩
end Go.Proofs.YtepokgainceidaaGreatDoor

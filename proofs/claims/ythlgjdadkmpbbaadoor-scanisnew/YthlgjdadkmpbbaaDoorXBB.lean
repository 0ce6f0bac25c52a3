import Derived.Test.YthlgjdadkmpbbaaDoorXBA
import Derived.Shelf.Strings.SlTrimAscii
import Derived.Ground.NamesProg
import Derived.Test.YthlgjdadkmpbbaaDoorProg
import Derived.Test.YthlgjdadkmpbbaaDoorXAW
import Derived.Test.YthlgjdadkmpbbaaDoorXAQ
import Derived.Lib.SlTrimSet
namespace Go.Proofs.YthlgjdadkmpbbaaDoor
open Go.RowKit Go.Shelf
theorem RE.at {l : List UInt8} {j : Nat} (h : RE l j) : AT l (ci l j) j := by
  obtain ⟨k, hk⟩ := h
  rw [← hk.ci]
  exact hk
theorem tok_same {l : List UInt8} {j : Nat} (he : tokE l j = 0) : tokJ l j = (tokC l j).2 := by
  by_cases h7 : kl l j = 7 ∧ quoE l j ≠ 0
  · unfold tokE at he
    rw [if_pos h7] at he
    exact absurd he h7.2
  · unfold tokE at he
    rw [if_neg h7] at he
    unfold tokJ
    rw [if_neg h7, if_pos he]
theorem cls_high (r : Int) (h2 : r ≠ -2) (h : ¬ (0 ≤ r ∧ r < 128)) : cls r = 9 := by
  unfold cls
  rw [if_neg (by omega), if_neg (by omega), if_neg (by omega), if_neg (by omega), if_neg (by omega), if_neg (by omega), if_neg (by omega), if_neg (by omega), if_neg (by omega), if_neg (by omega), if_neg (by omega)]
/-- a byte's class is its character's -/
theorem kl_bt {l : List UInt8} {i : Nat} (h : i < l.length) : kl l i = cls (bt l i : Int) := by
  unfold kl
  by_cases hb : bt l i < 128
  · rw [(chr_asc l i (bt l i) hb).2 ⟨h, rfl⟩]
  · have hn : ∀ x : Nat, x < 128 → chr l i ≠ (x : Int) := fun x hx e => hb (by rw [((chr_asc l i x hx).1 e).2]; exact hx)
    have h2 : chr l i ≠ -2 := by unfold chr; rw [if_pos h]; split <;> omega
    rw [cls_high _ h2 (fun hh => hn (chr l i).toNat (by omega) (by omega)), cls_high _ (by omega) (by omega)]
end Go.Proofs.YthlgjdadkmpbbaaDoor
namespace Go.Proofs
open Go.Shelf
def Tryd.l160_ren : Go.Shelf.Ren := ⟨fun | 160 => 29 | 232 => 36 | 231 => 35 | 227 => 37 | 234 => 39 | 233 => 38 | 236 => 41 | 235 => 40 | 228 => 53 | 271 => 55 | 151 => 54 | 197 => 46 | 120 => 64 | 152 => 63 | 260 => 57 | 137 => 73 | 119 => 44 | 224 => 67 | 225 => 66 | 217 => 65 | 266 => 74 | n => n, fun | 9 => 9 | 4 => 4 | 3 => 3 | 5 => 5 | 117 => 74 | 116 => 73 | 0 => 0 | 124 => 77 | 21 => 21 | 105 => 79 | 46 => 92 | 119 => 103 | 139 => 106 | 138 => 105 | n => n, fun | 3 => 2 | 4 => 3 | n => n⟩
theorem Tryd.l160 : Go.Proofs.Lays.n160 Tryd.prog Tryd.l160_ren := {
  mixed := by kernel_rfl
  f119 := Tryd.func44.trans (congrArg some (by kernel_rfl))
  f120 := Tryd.func64.trans (congrArg some (by kernel_rfl))
  f137 := Tryd.func73.trans (congrArg some (by kernel_rfl))
  f151 := Tryd.func54.trans (congrArg some (by kernel_rfl))
  f152 := Tryd.func63.trans (congrArg some (by kernel_rfl))
  f160 := Tryd.func29.trans (congrArg some (by kernel_rfl))
  f197 := Tryd.func46.trans (congrArg some (by kernel_rfl))
  f217 := Tryd.func65.trans (congrArg some (by kernel_rfl))
  f224 := Tryd.func67.trans (congrArg some (by kernel_rfl))
  f225 := Tryd.func66.trans (congrArg some (by kernel_rfl))
  f227 := Tryd.func37.trans (congrArg some (by kernel_rfl))
  f228 := Tryd.func53.trans (congrArg some (by kernel_rfl))
  f231 := Tryd.func35.trans (congrArg some (by kernel_rfl))
  f232 := Tryd.func36.trans (congrArg some (by kernel_rfl))
  f233 := Tryd.func38.trans (congrArg some (by kernel_rfl))
  f234 := Tryd.func39.trans (congrArg some (by kernel_rfl))
  f235 := Tryd.func40.trans (congrArg some (by kernel_rfl))
  f236 := Tryd.func41.trans (congrArg some (by kernel_rfl))
  f260 := Tryd.func57.trans (congrArg some (by kernel_rfl))
  f266 := Tryd.func74.trans (congrArg some (by kernel_rfl))
  f271 := Tryd.func55.trans (congrArg some (by kernel_rfl))
  t0 := Tryd.underlying0
  a0 := Tryd.isAgg0
  z0 := Tryd.sizeOf0
  v0 := Tryd.zeroValue0
  t3 := Tryd.underlying3
  a3 := Tryd.isAgg3
  z3 := Tryd.sizeOf3
  v3 := Tryd.zeroValue3
  t4 := Tryd.underlying4
  a4 := Tryd.isAgg4
  z4 := Tryd.sizeOf4
  v4 := Tryd.zeroValue4
  t5 := Tryd.underlying5
  a5 := Tryd.isAgg5
  z5 := Tryd.sizeOf5
  v5 := Tryd.zeroValue5
  t9 := Tryd.underlying9
  a9 := Tryd.isAgg9
  z9 := Tryd.sizeOf9
  v9 := Tryd.zeroValue9
  t21 := Tryd.underlying21
  a21 := Tryd.isAgg21
  z21 := Tryd.sizeOf21
  v21 := Tryd.zeroValue21
  t46 := Tryd.underlying92
  a46 := Tryd.isAgg92
  z46 := Tryd.sizeOf92
  v46 := Tryd.zeroValue92
  t105 := Tryd.underlying79
  a105 := Tryd.isAgg79
  z105 := Tryd.sizeOf79
  v105 := Tryd.zeroValue79
  t116 := Tryd.underlying73
  a116 := Tryd.isAgg73
  z116 := Tryd.sizeOf73
  t117 := Tryd.underlying74
  a117 := Tryd.isAgg74
  z117 := Tryd.sizeOf74
  v117 := Tryd.zeroValue74
  t119 := Tryd.underlying103
  a119 := Tryd.isAgg103
  z119 := Tryd.sizeOf103
  t124 := Tryd.underlying77
  a124 := Tryd.isAgg77
  z124 := Tryd.sizeOf77
  v124 := Tryd.zeroValue77
  t138 := Tryd.underlying105
  a138 := Tryd.isAgg105
  z138 := Tryd.sizeOf105
  v138 := Tryd.zeroValue105
  t139 := Tryd.underlying106
  a139 := Tryd.isAgg106
  z139 := Tryd.sizeOf106
  v139 := Tryd.zeroValue106
  g3 := by kernel_rfl
  g4 := by kernel_rfl }
end Go.Proofs
namespace Go.Proofs.YthlgjdadkmpbbaaDoor
open Go.RowKit Go.Shelf
theorem res_fault (tmps : Array Value) (W : World) (b : Nat) (x : Int) {m : Nat × Nat} (hp : tmps.getD 4 undef = .pointer (some ⟨b, 0, none⟩)) (h : W.heap[b]? = some (.cells #[.int .i64 x] 24 m)) :
    (results Tryd.f25 tmps).run Tryd.prog W = .ok (.int .i64 x) W := by
  have hc : ∀ j, W.cell? ⟨b, j, none⟩ = (#[.int .i64 x] : Array Value)[j]? := by
    intro j; unfold World.cell?; rw [h]; simp
  have hp' : tmps[4]?.getD undef = .pointer (some ⟨b, 0, none⟩) := by simpa using hp
  simp [results, hp', go_sem, hc]
set_option maxRecDepth 100000 in
set_option maxHeartbeats 1000000 in
theorem fault6 (t : List UInt8) (w : World) : Calls Tryd.prog 25 #[.int .i64 6, .string ⟨t.toArray⟩] w fun e w' => e = .returned (.int .i64 0) ∧ Below w.heap.size w w' := by
  go_enter Tryd.func25, Tryd.ntmps25
  go_wp2_with fail
  exact bodyPost_ret (res_fault _ _ w.heap.size 0 rfl (alloc_get _ _)) rfl ⟨rfl, (Below.refl _ _).alloc (Nat.le_refl _) _⟩
set_option maxRecDepth 100000 in
set_option maxHeartbeats 1000000 in
theorem fault7 (t : List UInt8) (w : World) : Calls Tryd.prog 25 #[.int .i64 7, .string ⟨t.toArray⟩] w fun e w' => e = .returned (.int .i64 (if t = [] then 30 else 0 : Nat)) ∧ Below w.heap.size w w' := by
  cases t with
  | nil =>
    go_enter Tryd.func25, Tryd.ntmps25
    go_wp2_with fail
    exact bodyPost_ret (res_fault _ _ w.heap.size 30 rfl (alloc_get _ _)) rfl ⟨rfl, (Below.refl _ _).alloc (Nat.le_refl _) _⟩
  | cons c t =>
    go_enter Tryd.func25, Tryd.ntmps25
    go_wp2_with fail
    exact bodyPost_ret (res_fault _ _ w.heap.size 0 rfl (alloc_get _ _)) rfl ⟨rfl, (Below.refl _ _).alloc (Nat.le_refl _) _⟩
theorem valE_nat (t : List UInt8) : valE t = ((valE t).toNat : Int) := by
  unfold valE
  repeat' split
  all_goals rfl
set_option maxRecDepth 100000 in
set_option maxHeartbeats 1000000 in
theorem fault4 (t : List UInt8) (w : World) (ht : t.length ≤ 16384) (hv : VW w) : Calls Tryd.prog 25 #[.int .i64 4, .string ⟨t.toArray⟩] w fun e w' => e = .returned (.int .i64 ((valE t).toNat : Int)) ∧ Below w.heap.size w w' := by
  have HV := value_any t (w.alloc (.cells #[.int .i64 0] 24)) (by omega) (hv.below ((Below.refl _ _).alloc (Nat.le_refl _) _))
  rw [← valE_nat t]
  obtain ⟨x, hx⟩ : ∃ x, valV t = x := ⟨_, rfl⟩
  obtain ⟨y, hy⟩ : ∃ y, valE t = y := ⟨_, rfl⟩
  rw [hx, hy] at HV
  rw [hy]
  clear hx hy hv
  go_enter Tryd.func25, Tryd.ntmps25
  go_wp2_with fail
  refine HV.mono ?_
  rintro e w1 ⟨rfl, hb⟩
  have k0 := keepblk hb (alloc_get w (.cells #[.int .i64 0] 24))
  have c0 := cell_of k0
  have f0 := froz_of k0
  go_wp2_with fail
  refine bodyPost_ret (res_fault _ _ w.heap.size y rfl (set_one _ k0)) rfl ⟨rfl, (bel1 hb).setCell (p := ⟨w.heap.size, 0, none⟩) (Nat.le_refl _) _⟩
theorem dropW_nil {α : Type} (p : α → Bool) : ∀ l : List α, l.dropWhile p = [] ↔ ∀ x ∈ l, p x = true
  | [] => by simp
  | a :: l => by
    rw [List.dropWhile_cons]
    cases h : p a with
    | true =>
      simp only [if_true]
      rw [dropW_nil p l]
      simp [h]
    | false =>
      simp [h]
theorem trim_nil (l : List UInt8) : Lib.trimS l [48, 49, 120] = [] ↔ l.all is01x = true := by
  have hc : ∀ b : UInt8, ([48, 49, 120] : List UInt8).contains b = is01x b := fun b => by
    unfold is01x
    simp [List.contains, List.elem]
    cases b == 48 <;> cases b == 49 <;> cases b == 120 <;> rfl
  have hr : Lib.trimRightS l [48, 49, 120] = [] ↔ ∀ x ∈ l, is01x x = true := by
    unfold Lib.trimRightS
    rw [List.reverse_eq_nil_iff, dropW_nil]
    simp only [List.mem_reverse, hc]
  have hpre : ∀ x, x ∈ Lib.trimRightS l [48, 49, 120] → x ∈ l := fun x hx => by
    unfold Lib.trimRightS at hx
    rw [List.mem_reverse] at hx
    exact List.mem_reverse.1 ((List.dropWhile_sublist _).subset hx)
  rw [List.all_eq_true]
  unfold Lib.trimS Lib.trimLeftS
  rw [dropW_nil]
  simp only [hc]
  constructor
  · intro h
    refine hr.1 (Classical.byContradiction (fun hne => ?_))
    have hlast := List.getLast_mem hne
    have h1 := h _ hlast
    have h2 : is01x ((Lib.trimRightS l [48, 49, 120]).getLast hne) = false := by
      have hd : l.reverse.dropWhile (([48, 49, 120] : List UInt8).contains ·) ≠ [] := fun e => hne (by unfold Lib.trimRightS; rw [e]; rfl)
      have hh := List.head_dropWhile_not (([48, 49, 120] : List UInt8).contains ·) hd
      have he : (Lib.trimRightS l [48, 49, 120]).getLast hne = (l.reverse.dropWhile (([48, 49, 120] : List UInt8).contains ·)).head hd := by
        simp only [Lib.trimRightS, List.getLast_reverse]
      rw [he, ← hc]
      simpa using hh
    rw [h1] at h2
    cases h2
  · intro h x hx
    exact h x (hpre x hx)
theorem trim_any (r : List UInt8) (w : World) (hr : r.length ≤ 16384) : Calls Tryd.prog 29 #[.string ⟨r.toArray⟩, .string ⟨#[48, 49, 120]⟩] w fun e w' => e = .returned (.string ⟨(Lib.trimS r [48, 49, 120]).toArray⟩) ∧ Below w.heap.size w w' :=
  Any.strings_Trim_ascii Tryd.l160 (by intro w; kernel_rfl) (by kernel_rfl) ⟨r.toArray⟩ ⟨#[48, 49, 120]⟩ w (by simp [ByteArray.size]; omega) (by decide) (fun j b h => by
    have : b ∈ ([48, 49, 120] : List UInt8) := List.mem_of_getElem? h
    clear h
    revert b
    decide)
set_option maxRecDepth 100000 in
set_option maxHeartbeats 1000000 in
theorem fault5 (c : UInt8) (d : List UInt8) (w : World) (hd : d.length ≤ 16383) : Calls Tryd.prog 25 #[.int .i64 5, .string ⟨(c :: d).toArray⟩] w fun e w' => e = .returned (.int .i64 (if d = [] ∨ 32 < d.length ∨ d.all is01x = false then 44 else 0 : Nat)) ∧ Below w.heap.size w w' := by
  have hE : (ByteArray.mk (c :: d).toArray).extract 1 (d.length + 1) = ⟨d.toArray⟩ := by
    have := ext_drop (c :: d) 1
    simpa using this
  have q1 : (1 : Int) ≤ (d.length : Int) + 1 := by omega
  have q2 : (0 : Int) ≤ (d.length : Int) := by omega
  have HT : Hid (∀ W, Calls Tryd.prog 29 #[.string ⟨d.toArray⟩, .string ⟨#[48, 49, 120]⟩] W fun e w' => e = .returned (.string ⟨(Lib.trimS d [48, 49, 120]).toArray⟩) ∧ Below W.heap.size W w') := fun W => trim_any d W (by omega)
  have hn := trim_nil d
  by_cases d0 : d = []
  · have HR : Hid ((if d = [] ∨ 32 < d.length ∨ d.all is01x = false then 44 else 0 : Nat) = 44) := if_pos (.inl d0)
    rw [HR.out]
    subst d0
    clear hn
    go_enter Tryd.func25, Tryd.ntmps25
    go_wp2_with fail
    exact bodyPost_ret (res_fault _ _ w.heap.size 44 rfl (alloc_get _ _)) rfl ⟨rfl, (Below.refl _ _).alloc (Nat.le_refl _) _⟩
  · have hem : d.isEmpty = false := by cases d with
      | nil => exact absurd rfl d0
      | cons _ _ => rfl
    by_cases d32 : 32 < d.length
    · have HR : Hid ((if d = [] ∨ 32 < d.length ∨ d.all is01x = false then 44 else 0 : Nat) = 44) := if_pos (.inr (.inl d32))
      rw [HR.out]
      have i32 : (32 : Int) < (d.length : Int) := by omega
      clear hn
      go_enter Tryd.func25, Tryd.ntmps25
      go_wp2_with fail
      exact bodyPost_ret (res_fault _ _ w.heap.size 44 rfl (alloc_get _ _)) rfl ⟨rfl, (Below.refl _ _).alloc (Nat.le_refl _) _⟩
    · have i32 : ¬ (32 : Int) < (d.length : Int) := by omega
      obtain ⟨T, hT⟩ : ∃ T, Lib.trimS d [48, 49, 120] = T := ⟨_, rfl⟩
      rw [hT] at HT hn
      cases ha : d.all is01x with
      | true =>
        have HR : Hid ((if d = [] ∨ 32 < d.length ∨ true = false then 44 else 0 : Nat) = 0) := if_neg (by simp [d0]; omega)
        rw [HR.out]
        obtain rfl := hn.2 ha
        clear hn hT ha
        go_enter Tryd.func25, Tryd.ntmps25
        go_wp2_with fail
        refine (HT.out _).mono ?_
        rintro e w1 ⟨rfl, hb⟩
        have k0 := keepblk hb (alloc_get w (.cells #[.int .i64 0] 24))
        have c0 := cell_of k0
        have f0 := froz_of k0
        go_wp2_with fail
        exact bodyPost_ret (res_fault _ _ w.heap.size 0 rfl (set_one _ k0)) rfl ⟨rfl, (bel1 hb).setCell (p := ⟨w.heap.size, 0, none⟩) (Nat.le_refl _) _⟩
      | false =>
        have HR : Hid ((if d = [] ∨ 32 < d.length ∨ false = false then 44 else 0 : Nat) = 44) := if_pos (.inr (.inr rfl))
        rw [HR.out]
        have hT0 : T ≠ [] := fun e => by
          have := hn.1 e
          rw [ha] at this
          cases this
        have hTe : T.isEmpty = false := by cases T with
          | nil => exact absurd rfl hT0
          | cons _ _ => rfl
        clear hn hT ha
        go_enter Tryd.func25, Tryd.ntmps25
        go_wp2_with fail
        refine (HT.out _).mono ?_
        rintro e w1 ⟨rfl, hb⟩
        have k0 := keepblk hb (alloc_get w (.cells #[.int .i64 0] 24))
        have c0 := cell_of k0
        have f0 := froz_of k0
        go_wp2_with fail
        exact bodyPost_ret (res_fault _ _ w.heap.size 44 rfl (set_one _ k0)) rfl ⟨rfl, (bel1 hb).setCell (p := ⟨w.heap.size, 0, none⟩) (Nat.le_refl _) _⟩
end Go.Proofs.YthlgjdadkmpbbaaDoor

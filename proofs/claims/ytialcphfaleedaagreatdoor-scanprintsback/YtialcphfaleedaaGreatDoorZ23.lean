import Derived.Test.YtialcphfaleedaaGreatDoorZ22
import Derived.Shelf.Strings.SlTrimAscii
import Derived.Ground.NamesProg
import Derived.Test.YtialcphfaleedaaGreatDoorProg
import Derived.Test.YtialcphfaleedaaGreatDoorZ18
import Derived.Test.YtialcphfaleedaaGreatDoorZ14
import Derived.Lib.SlTrimSet
import Derived.RegionIn
import Derived.Deep.QuietTactic
namespace Go.Proofs.YtialcphfaleedaaGreatDoor
open Go.RowKit Go.Shelf
theorem inW_bt {l : List UInt8} {i : Nat} (h : i < l.length) : inW l i = (letX (bt l i) || digX (bt l i)) := by
  unfold inW
  rw [kl_bt h, letX_cls (bt_lt l i), digX_cls (bt_lt l i)]
theorem inW_end {l : List UInt8} {i : Nat} (h : ¬ i < l.length) : inW l i = false := by
  unfold inW
  rw [kl0.2 h]
  rfl
set_option maxRecDepth 100000 in
theorem refRun_any (l : List UInt8) (i : Nat) (w : World) (hi : i ≤ l.length) (hs : l.length ≤ 16384) (I : Int) (hI : I = (i : Int)) :
    Calls Tryz.prog 43 #[.string ⟨l.toArray⟩, .int .i64 I] w fun e w' => e = .returned (.int .i64 (wrun l i : Int)) ∧ w' = w := by
  subst hI
  go_enter Tryz.func43, Tryz.ntmps43
  go_wp2_with fail
  go_loopw [1] (fun v wr => ∃ k : Nat, k ≤ l.length ∧ v = .int .i64 k ∧ wrun l k = wrun l i ∧ wr = w) (fun v _ => l.length - (intOf v).toNat)
  case atStart => exact ⟨i, hi, rfl, rfl, rfl⟩
  case round =>
    obtain ⟨k, hk, rfl, hr, rfl⟩ := hrel
    by_cases hlt : k < l.length
    · have j0 : (0 : Int) ≤ (k : Int) := by omega
      have j1 : (k : Int) < (l.length : Int) := by omega
      obtain ⟨c, hc, hlc⟩ := byte_get l k hlt
      have hb := bt_of hlc
      have hw := inW_bt hlt
      rw [hb] at hw
      have HW := refWord_any c.toNat wr
      cases hq : (letX c.toNat || digX c.toNat) with
      | true =>
        rw [hq] at HW hw
        have HI : Hid (wrun l (k + 1) = wrun l i) := by rw [← wrun_yes hw]; exact hr
        clear hr hw hb hq
        go_wp2_with fail
        refine HW.mono ?_
        rintro e w2 ⟨rfl, rfl⟩
        go_wp2_with fail
        go_roundw
        case rel => exact ⟨k + 1, by omega, by go_num, HI.out, trivial⟩
        case measure => simp [intOf]; omega
      | false =>
        rw [hq] at HW hw
        have HI : Hid (wrun l i = k) := by rw [← hr]; exact wrun_no hw
        clear hr hw hb hq
        go_wp2_with fail
        refine HW.mono ?_
        rintro e w2 ⟨rfl, rfl⟩
        go_wp2_with fail
        go_ret
        exact ⟨by rw [HI.out]; rfl, rfl⟩
    · have j1 : ¬ (k : Int) < (l.length : Int) := by omega
      have HI : Hid (wrun l i = k) := by rw [← hr]; exact wrun_no (inW_end hlt)
      clear hr
      go_wp2_with fail
      go_ret
      exact ⟨by rw [HI.out]; rfl, rfl⟩
set_option maxRecDepth 100000 in
theorem refColumn_any (l : List UInt8) (i : Nat) (w : World) (hi : i ≤ l.length) (hs : l.length ≤ 16384) (hr : RE l i) :
    Calls Tryz.prog 39 #[.string ⟨l.toArray⟩, .int .i64 (i : Int)] w fun e w' => e = .returned (.int .i64 ((ci l i + 1 : Nat) : Int)) ∧ w' = w := by
  have HR : Hid (RE l i) := hr
  clear hr
  go_enter Tryz.func39, Tryz.ntmps39
  go_wp2_with fail
  go_loopw [5, 6] (fun vn va wr => ∃ (n k : Nat), k ≤ i ∧ va = .int .i64 k ∧ vn = .int .i64 n ∧ n = ci l k + 1 ∧ n ≤ k + 1 ∧ Hid (RE l k) ∧ wr = w) (fun _ va _ => i - (intOf va).toNat)
  case atStart => exact ⟨1, 0, Nat.zero_le _, rfl, rfl, by unfold ci; simp, by omega, RE.zero l, rfl⟩
  case round =>
    obtain ⟨n, k, hk, rfl, rfl, hn, hn2, hrk, rfl⟩ := hrel
    by_cases hlt : k < i
    · have j1 : (k : Int) < (i : Int) := by omega
      obtain ⟨s1, s2, s3⟩ := hrk.out.step HR.out hlt hi
      have hp := dc_pos l k
      have HC := refSize_any l k wr (by omega) hs
      obtain ⟨d, hd⟩ : ∃ d, (dc l k).2 = d := ⟨_, rfl⟩
      rw [hd] at HC s1 s2 s3 hp
      have H2 : Hid (ci l (k + d) = ci l k + 1) := s2
      have H3 : Hid (RE l (k + d)) := s3
      have HN : Hid (n = ci l k + 1) := hn
      clear s2 s3 hd hn hrk
      go_wp2_with fail
      refine HC.mono ?_
      rintro e w2 ⟨rfl, rfl⟩
      go_wp2_with fail
      go_roundw
      case rel => exact ⟨n + 1, k + d, by omega, by go_num, by go_num, by rw [H2.out, HN.out], by omega, H3, trivial⟩
      case measure => simp [intOf]; omega
    · have j1 : ¬ (k : Int) < (i : Int) := by omega
      obtain rfl : k = i := by omega
      have HN : Hid (ci l k + 1 = n) := hn.symm
      clear hn hrk
      go_wp2_with fail
      go_ret
      exact ⟨by rw [show ((ci l k : Int) + 1) = (n : Int) by have := HN.out; omega]; rfl, rfl⟩
end Go.Proofs.YtialcphfaleedaaGreatDoor
namespace Go.Proofs
open Go.Shelf
def Tryz.l160_ren : Go.Shelf.Ren := ⟨fun | 160 => 53 | 232 => 67 | 231 => 66 | 227 => 68 | 234 => 70 | 233 => 69 | 236 => 72 | 235 => 71 | 228 => 86 | 271 => 88 | 151 => 87 | 197 => 79 | 120 => 97 | 152 => 96 | 260 => 90 | 137 => 106 | 119 => 75 | 224 => 100 | 225 => 99 | 217 => 98 | 266 => 107 | n => n, fun | 9 => 9 | 4 => 4 | 3 => 3 | 5 => 5 | 117 => 98 | 116 => 97 | 0 => 0 | 124 => 101 | 21 => 21 | 105 => 103 | 46 => 116 | 119 => 126 | 139 => 129 | 138 => 128 | n => n, fun | 3 => 4 | 4 => 5 | n => n⟩
theorem Tryz.l160 : Go.Proofs.Lays.n160 Tryz.prog Tryz.l160_ren := {
  mixed := by kernel_rfl
  f119 := Tryz.func75.trans (congrArg some (by kernel_rfl))
  f120 := Tryz.func97.trans (congrArg some (by kernel_rfl))
  f137 := Tryz.func106.trans (congrArg some (by kernel_rfl))
  f151 := Tryz.func87.trans (congrArg some (by kernel_rfl))
  f152 := Tryz.func96.trans (congrArg some (by kernel_rfl))
  f160 := Tryz.func53.trans (congrArg some (by kernel_rfl))
  f197 := Tryz.func79.trans (congrArg some (by kernel_rfl))
  f217 := Tryz.func98.trans (congrArg some (by kernel_rfl))
  f224 := Tryz.func100.trans (congrArg some (by kernel_rfl))
  f225 := Tryz.func99.trans (congrArg some (by kernel_rfl))
  f227 := Tryz.func68.trans (congrArg some (by kernel_rfl))
  f228 := Tryz.func86.trans (congrArg some (by kernel_rfl))
  f231 := Tryz.func66.trans (congrArg some (by kernel_rfl))
  f232 := Tryz.func67.trans (congrArg some (by kernel_rfl))
  f233 := Tryz.func69.trans (congrArg some (by kernel_rfl))
  f234 := Tryz.func70.trans (congrArg some (by kernel_rfl))
  f235 := Tryz.func71.trans (congrArg some (by kernel_rfl))
  f236 := Tryz.func72.trans (congrArg some (by kernel_rfl))
  f260 := Tryz.func90.trans (congrArg some (by kernel_rfl))
  f266 := Tryz.func107.trans (congrArg some (by kernel_rfl))
  f271 := Tryz.func88.trans (congrArg some (by kernel_rfl))
  t0 := Tryz.underlying0
  a0 := Tryz.isAgg0
  z0 := Tryz.sizeOf0
  v0 := Tryz.zeroValue0
  t3 := Tryz.underlying3
  a3 := Tryz.isAgg3
  z3 := Tryz.sizeOf3
  v3 := Tryz.zeroValue3
  t4 := Tryz.underlying4
  a4 := Tryz.isAgg4
  z4 := Tryz.sizeOf4
  v4 := Tryz.zeroValue4
  t5 := Tryz.underlying5
  a5 := Tryz.isAgg5
  z5 := Tryz.sizeOf5
  v5 := Tryz.zeroValue5
  t9 := Tryz.underlying9
  a9 := Tryz.isAgg9
  z9 := Tryz.sizeOf9
  v9 := Tryz.zeroValue9
  t21 := Tryz.underlying21
  a21 := Tryz.isAgg21
  z21 := Tryz.sizeOf21
  v21 := Tryz.zeroValue21
  t46 := Tryz.underlying116
  a46 := Tryz.isAgg116
  z46 := Tryz.sizeOf116
  v46 := Tryz.zeroValue116
  t105 := Tryz.underlying103
  a105 := Tryz.isAgg103
  z105 := Tryz.sizeOf103
  v105 := Tryz.zeroValue103
  t116 := Tryz.underlying97
  a116 := Tryz.isAgg97
  z116 := Tryz.sizeOf97
  t117 := Tryz.underlying98
  a117 := Tryz.isAgg98
  z117 := Tryz.sizeOf98
  v117 := Tryz.zeroValue98
  t119 := Tryz.underlying126
  a119 := Tryz.isAgg126
  z119 := Tryz.sizeOf126
  t124 := Tryz.underlying101
  a124 := Tryz.isAgg101
  z124 := Tryz.sizeOf101
  v124 := Tryz.zeroValue101
  t138 := Tryz.underlying128
  a138 := Tryz.isAgg128
  z138 := Tryz.sizeOf128
  v138 := Tryz.zeroValue128
  t139 := Tryz.underlying129
  a139 := Tryz.isAgg129
  z139 := Tryz.sizeOf129
  v139 := Tryz.zeroValue129
  g3 := by kernel_rfl
  g4 := by kernel_rfl }
end Go.Proofs
namespace Go.Proofs.YtialcphfaleedaaGreatDoor
open Go.RowKit Go.Shelf
theorem res_fault (tmps : Array Value) (W : World) (b : Nat) (x : Int) {m : Nat × Nat} (hp : tmps.getD 4 undef = .pointer (some ⟨b, 0, none⟩)) (h : W.heap[b]? = some (.cells #[.int .i64 x] 23 m)) :
    (results Tryz.f40 tmps).run Tryz.prog W = .ok (.int .i64 x) W := by
  have hc : ∀ j, W.cell? ⟨b, j, none⟩ = (#[.int .i64 x] : Array Value)[j]? := by
    intro j; unfold World.cell?; rw [h]; simp
  have hp' : tmps[4]?.getD undef = .pointer (some ⟨b, 0, none⟩) := by simpa using hp
  simp [results, hp', go_sem, hc]
set_option maxRecDepth 100000 in
set_option maxHeartbeats 1000000 in
theorem fault6 (t : List UInt8) (w : World) : Calls Tryz.prog 40 #[.int .i64 6, .string ⟨t.toArray⟩] w fun e w' => e = .returned (.int .i64 0) ∧ Below w.heap.size w w' := by
  go_enter Tryz.func40, Tryz.ntmps40
  go_wp2_with fail
  exact bodyPost_ret (res_fault _ _ w.heap.size 0 rfl (alloc_get _ _)) rfl ⟨rfl, (Below.refl _ _).alloc (Nat.le_refl _) _⟩
set_option maxRecDepth 100000 in
set_option maxHeartbeats 1000000 in
theorem fault7 (t : List UInt8) (w : World) : Calls Tryz.prog 40 #[.int .i64 7, .string ⟨t.toArray⟩] w fun e w' => e = .returned (.int .i64 (if t = [] then 30 else 0 : Nat)) ∧ Below w.heap.size w w' := by
  cases t with
  | nil =>
    go_enter Tryz.func40, Tryz.ntmps40
    go_wp2_with fail
    exact bodyPost_ret (res_fault _ _ w.heap.size 30 rfl (alloc_get _ _)) rfl ⟨rfl, (Below.refl _ _).alloc (Nat.le_refl _) _⟩
  | cons c t =>
    go_enter Tryz.func40, Tryz.ntmps40
    go_wp2_with fail
    exact bodyPost_ret (res_fault _ _ w.heap.size 0 rfl (alloc_get _ _)) rfl ⟨rfl, (Below.refl _ _).alloc (Nat.le_refl _) _⟩
theorem valE_nat (t : List UInt8) : valE t = ((valE t).toNat : Int) := by
  unfold valE
  repeat' split
  all_goals rfl
set_option maxRecDepth 100000 in
set_option maxHeartbeats 1000000 in
theorem fault4 (t : List UInt8) (w : World) (ht : t.length ≤ 16384) (hv : VW w) : Calls Tryz.prog 40 #[.int .i64 4, .string ⟨t.toArray⟩] w fun e w' => e = .returned (.int .i64 ((valE t).toNat : Int)) ∧ Below w.heap.size w w' := by
  have HV := value_any t (w.alloc (.cells #[.int .i64 0] 23)) (by omega) (hv.below ((Below.refl _ _).alloc (Nat.le_refl _) _))
  rw [← valE_nat t]
  obtain ⟨x, hx⟩ : ∃ x, valV t = x := ⟨_, rfl⟩
  obtain ⟨y, hy⟩ : ∃ y, valE t = y := ⟨_, rfl⟩
  rw [hx, hy] at HV
  rw [hy]
  clear hx hy hv
  go_enter Tryz.func40, Tryz.ntmps40
  go_wp2_with fail
  refine HV.mono ?_
  rintro e w1 ⟨rfl, hb⟩
  have k0 := keepblk hb (alloc_get w (.cells #[.int .i64 0] 23))
  have c0 := cell_of k0
  have f0 := froz_of k0
  go_wp2_with fail
  refine bodyPost_ret (res_fault _ _ w.heap.size y rfl (set_one _ k0)) rfl ⟨rfl, (bel1 hb).setCell (p := ⟨w.heap.size, 0, none⟩) (Nat.le_refl _) _⟩
theorem dropW_nil {α : Type} (p : α → Bool) : ∀ l : List α, l.dropWhile p = [] ↔ ∀ x ∈ l, p x = true
  | [] => by simp
  | a :: l => by
    rw [List.dropWhile_cons]
    cases h : p a with
    | true =>
      simp only [if_true]
      rw [dropW_nil p l]
      simp [h]
    | false =>
      simp [h]
theorem trim_nil (l : List UInt8) : Lib.trimS l [48, 49, 120] = [] ↔ l.all is01x = true := by
  have hc : ∀ b : UInt8, ([48, 49, 120] : List UInt8).contains b = is01x b := fun b => by
    unfold is01x
    simp [List.contains, List.elem]
    cases b == 48 <;> cases b == 49 <;> cases b == 120 <;> rfl
  have hr : Lib.trimRightS l [48, 49, 120] = [] ↔ ∀ x ∈ l, is01x x = true := by
    unfold Lib.trimRightS
    rw [List.reverse_eq_nil_iff, dropW_nil]
    simp only [List.mem_reverse, hc]
  have hpre : ∀ x, x ∈ Lib.trimRightS l [48, 49, 120] → x ∈ l := fun x hx => by
    unfold Lib.trimRightS at hx
    rw [List.mem_reverse] at hx
    exact List.mem_reverse.1 ((List.dropWhile_sublist _).subset hx)
  rw [List.all_eq_true]
  unfold Lib.trimS Lib.trimLeftS
  rw [dropW_nil]
  simp only [hc]
  constructor
  · intro h
    refine hr.1 (Classical.byContradiction (fun hne => ?_))
    have hlast := List.getLast_mem hne
    have h1 := h _ hlast
    have h2 : is01x ((Lib.trimRightS l [48, 49, 120]).getLast hne) = false := by
      have hd : l.reverse.dropWhile (([48, 49, 120] : List UInt8).contains ·) ≠ [] := fun e => hne (by unfold Lib.trimRightS; rw [e]; rfl)
      have hh := List.head_dropWhile_not (([48, 49, 120] : List UInt8).contains ·) hd
      have he : (Lib.trimRightS l [48, 49, 120]).getLast hne = (l.reverse.dropWhile (([48, 49, 120] : List UInt8).contains ·)).head hd := by
        simp only [Lib.trimRightS, List.getLast_reverse]
      rw [he, ← hc]
      simpa using hh
    rw [h1] at h2
    cases h2
  · intro h x hx
    exact h x (hpre x hx)
theorem trim_any (r : List UInt8) (w : World) (hr : r.length ≤ 16384) : Calls Tryz.prog 53 #[.string ⟨r.toArray⟩, .string ⟨#[48, 49, 120]⟩] w fun e w' => e = .returned (.string ⟨(Lib.trimS r [48, 49, 120]).toArray⟩) ∧ Below w.heap.size w w' :=
  Any.strings_Trim_ascii Tryz.l160 (by intro w; kernel_rfl) (by kernel_rfl) ⟨r.toArray⟩ ⟨#[48, 49, 120]⟩ w (by simp [ByteArray.size]; omega) (by decide) (fun j b h => by
    have : b ∈ ([48, 49, 120] : List UInt8) := List.mem_of_getElem? h
    clear h
    revert b
    decide)
set_option maxRecDepth 100000 in
set_option maxHeartbeats 1000000 in
theorem fault5 (c : UInt8) (d : List UInt8) (w : World) (hd : d.length ≤ 16383) : Calls Tryz.prog 40 #[.int .i64 5, .string ⟨(c :: d).toArray⟩] w fun e w' => e = .returned (.int .i64 (if d = [] ∨ 32 < d.length ∨ d.all is01x = false then 44 else 0 : Nat)) ∧ Below w.heap.size w w' := by
  have hE : (ByteArray.mk (c :: d).toArray).extract 1 (d.length + 1) = ⟨d.toArray⟩ := by
    have := ext_drop (c :: d) 1
    simpa using this
  have q1 : (1 : Int) ≤ (d.length : Int) + 1 := by omega
  have q2 : (0 : Int) ≤ (d.length : Int) := by omega
  have HT : Hid (∀ W, Calls Tryz.prog 53 #[.string ⟨d.toArray⟩, .string ⟨#[48, 49, 120]⟩] W fun e w' => e = .returned (.string ⟨(Lib.trimS d [48, 49, 120]).toArray⟩) ∧ Below W.heap.size W w') := fun W => trim_any d W (by omega)
  have hn := trim_nil d
  by_cases d0 : d = []
  · have HR : Hid ((if d = [] ∨ 32 < d.length ∨ d.all is01x = false then 44 else 0 : Nat) = 44) := if_pos (.inl d0)
    rw [HR.out]
    subst d0
    clear hn
    go_enter Tryz.func40, Tryz.ntmps40
    go_wp2_with fail
    exact bodyPost_ret (res_fault _ _ w.heap.size 44 rfl (alloc_get _ _)) rfl ⟨rfl, (Below.refl _ _).alloc (Nat.le_refl _) _⟩
  · have hem : d.isEmpty = false := by cases d with
      | nil => exact absurd rfl d0
      | cons _ _ => rfl
    by_cases d32 : 32 < d.length
    · have HR : Hid ((if d = [] ∨ 32 < d.length ∨ d.all is01x = false then 44 else 0 : Nat) = 44) := if_pos (.inr (.inl d32))
      rw [HR.out]
      have i32 : (32 : Int) < (d.length : Int) := by omega
      clear hn
      go_enter Tryz.func40, Tryz.ntmps40
      go_wp2_with fail
      exact bodyPost_ret (res_fault _ _ w.heap.size 44 rfl (alloc_get _ _)) rfl ⟨rfl, (Below.refl _ _).alloc (Nat.le_refl _) _⟩
    · have i32 : ¬ (32 : Int) < (d.length : Int) := by omega
      obtain ⟨T, hT⟩ : ∃ T, Lib.trimS d [48, 49, 120] = T := ⟨_, rfl⟩
      rw [hT] at HT hn
      cases ha : d.all is01x with
      | true =>
        have HR : Hid ((if d = [] ∨ 32 < d.length ∨ true = false then 44 else 0 : Nat) = 0) := if_neg (by simp [d0]; omega)
        rw [HR.out]
        obtain rfl := hn.2 ha
        clear hn hT ha
        go_enter Tryz.func40, Tryz.ntmps40
        go_wp2_with fail
        refine (HT.out _).mono ?_
        rintro e w1 ⟨rfl, hb⟩
        have k0 := keepblk hb (alloc_get w (.cells #[.int .i64 0] 23))
        have c0 := cell_of k0
        have f0 := froz_of k0
        go_wp2_with fail
        exact bodyPost_ret (res_fault _ _ w.heap.size 0 rfl (set_one _ k0)) rfl ⟨rfl, (bel1 hb).setCell (p := ⟨w.heap.size, 0, none⟩) (Nat.le_refl _) _⟩
      | false =>
        have HR : Hid ((if d = [] ∨ 32 < d.length ∨ false = false then 44 else 0 : Nat) = 44) := if_pos (.inr (.inr rfl))
        rw [HR.out]
        have hT0 : T ≠ [] := fun e => by
          have := hn.1 e
          rw [ha] at this
          cases this
        have hTe : T.isEmpty = false := by cases T with
          | nil => exact absurd rfl hT0
          | cons _ _ => rfl
        clear hn hT ha
        go_enter Tryz.func40, Tryz.ntmps40
        go_wp2_with fail
        refine (HT.out _).mono ?_
        rintro e w1 ⟨rfl, hb⟩
        have k0 := keepblk hb (alloc_get w (.cells #[.int .i64 0] 23))
        have c0 := cell_of k0
        have f0 := froz_of k0
        go_wp2_with fail
        exact bodyPost_ret (res_fault _ _ w.heap.size 44 rfl (set_one _ k0)) rfl ⟨rfl, (bel1 hb).setCell (p := ⟨w.heap.size, 0, none⟩) (Nat.le_refl _) _⟩
end Go.Proofs.YtialcphfaleedaaGreatDoor
namespace Go.Proofs.YtialcphfaleedaaGreatDoor
open Go.RowKit Go.Shelf
/-- what stands while faultOf goes over a name's parts -/
structure FS (w : World) (S : Nat) (x : Int) (r : List UInt8) (lo : Loop) (W : World) : Prop where
  a0 : W.heap[S]? = some (.cells #[.int .i64 x] 23 (0, 0))
  a4 : W.heap[S + 1]? = some (.cells #[.string ⟨r.toArray⟩] 9 (0, 0))
  a5 : W.heap[S + 1 + 1]? = some (.cells #[.string ⟨#[46]⟩] 9 (0, 0))
  a6 : W.heap[S + 1 + 1 + 1]? = some (.cells #[.int .i64 0] 3 (0, 0))
  a7 : W.heap[S + 1 + 1 + 1 + 1]? = some (.deferred (some []))
  a8 : W.heap[S + 1 + 1 + 1 + 1 + 1]? = some (.loop lo)
  be : Below S w W
  sz : w.heap.size = S
theorem FS.loop {w W : World} {S : Nat} {x : Int} {r : List UInt8} {lo : Loop} (h : FS w S x r lo W) (lo' : Loop) : FS w S x r lo' (W.putObj (S + 1 + 1 + 1 + 1 + 1) (.loop lo')) :=
  ⟨put_other h.a0 (by omega), put_other h.a4 (by omega), put_other h.a5 (by omega), put_other h.a6 (by omega), put_other h.a7 (by omega), World.putObj_heap_same (lt_of_get h.a8), bel_grow h.be (grownBy_putObj' W _ _) (by rw [← h.sz]; exact h.sz ▸ h.be.size) (fun x e => by cases e; omega), h.sz⟩
theorem FS.set0 {w W : World} {S : Nat} {x : Int} {r : List UInt8} {lo : Loop} (h : FS w S x r lo W) (y : Int) : FS w S y r lo (W.setCell ⟨S, 0, none⟩ (.int .i64 y)) :=
  ⟨set_one _ h.a0, set_other h.a4 (by omega), set_other h.a5 (by omega), set_other h.a6 (by omega), set_other h.a7 (by omega), set_other h.a8 (by omega), h.be.setCell (p := ⟨S, 0, none⟩) (Nat.le_refl _) _, h.sz⟩
theorem FS.sets {w W : World} {S : Nat} {x : Int} {r : List UInt8} {lo : Loop} (h : FS w S x r lo W) (y : List UInt8) : FS w S x y lo (W.setCell ⟨S + 1, 0, none⟩ (.string ⟨y.toArray⟩)) :=
  ⟨set_other h.a0 (by omega), set_one _ h.a4, set_other h.a5 (by omega), set_other h.a6 (by omega), set_other h.a7 (by omega), set_other h.a8 (by omega), h.be.setCell (p := ⟨S + 1, 0, none⟩) (by show S ≤ S + 1; omega) _, h.sz⟩
theorem FS_start (w : World) (S : Nat) (l : List UInt8) (R : Loop) (hS : w.heap.size = S) : FS w S 0 l R ((((((w.alloc (.cells #[.int .i64 0] 23)).alloc (.cells #[.string ⟨l.toArray⟩] 9)).alloc (.cells #[.string ⟨#[46]⟩] 9)).alloc (.cells #[.int .i64 0] 3)).alloc (.deferred (some []))).alloc (.loop R)) := by
  subst hS
  obtain ⟨w1, e1⟩ : ∃ w1, w.alloc (.cells #[.int .i64 0] 23) = w1 := ⟨_, rfl⟩
  have z1 : w1.heap.size = w.heap.size + 1 := by rw [← e1]; simp
  obtain ⟨w2, e2⟩ : ∃ w2, w1.alloc (.cells #[.string ⟨l.toArray⟩] 9) = w2 := ⟨_, rfl⟩
  have z2 : w2.heap.size = w.heap.size + 1 + 1 := by rw [← e2]; simp [z1]
  obtain ⟨w3, e3⟩ : ∃ w3, w2.alloc (.cells #[.string ⟨#[46]⟩] 9) = w3 := ⟨_, rfl⟩
  have z3 : w3.heap.size = w.heap.size + 1 + 1 + 1 := by rw [← e3]; simp [z2]
  obtain ⟨w4, e4⟩ : ∃ w4, w3.alloc (.cells #[.int .i64 0] 3) = w4 := ⟨_, rfl⟩
  have z4 : w4.heap.size = w.heap.size + 1 + 1 + 1 + 1 := by rw [← e4]; simp [z3]
  obtain ⟨w5, e5⟩ : ∃ w5, w4.alloc (.deferred (some [])) = w5 := ⟨_, rfl⟩
  have z5 : w5.heap.size = w.heap.size + 1 + 1 + 1 + 1 + 1 := by rw [← e5]; simp [z4]
  rw [e1, e2, e3, e4, e5]
  have k1 : w1.heap[w.heap.size]? = some (.cells #[.int .i64 0] 23 (0, 0)) := by rw [← e1]; exact alloc_get _ _
  have k2 : w2.heap[w.heap.size + 1]? = some (.cells #[.string ⟨l.toArray⟩] 9 (0, 0)) := by rw [← e2, ← z1]; exact alloc_get _ _
  have k3 : w3.heap[w.heap.size + 1 + 1]? = some (.cells #[.string ⟨#[46]⟩] 9 (0, 0)) := by rw [← e3, ← z2]; exact alloc_get _ _
  have k4 : w4.heap[w.heap.size + 1 + 1 + 1]? = some (.cells #[.int .i64 0] 3 (0, 0)) := by rw [← e4, ← z3]; exact alloc_get _ _
  have k5 : w5.heap[w.heap.size + 1 + 1 + 1 + 1]? = some (.deferred (some [])) := by rw [← e5, ← z4]; exact alloc_get _ _
  have k6 : (w5.alloc (.loop R)).heap[w.heap.size + 1 + 1 + 1 + 1 + 1]? = some (.loop R) := by rw [← z5]; exact alloc_get _ _
  have t2 : ∀ b o, w1.heap[b]? = some o → w2.heap[b]? = some o := fun b o h => by rw [← e2]; exact allocblk h _
  have t3 : ∀ b o, w2.heap[b]? = some o → w3.heap[b]? = some o := fun b o h => by rw [← e3]; exact allocblk h _
  have t4 : ∀ b o, w3.heap[b]? = some o → w4.heap[b]? = some o := fun b o h => by rw [← e4]; exact allocblk h _
  have t5 : ∀ b o, w4.heap[b]? = some o → w5.heap[b]? = some o := fun b o h => by rw [← e5]; exact allocblk h _
  have t6 : ∀ b o, w5.heap[b]? = some o → (w5.alloc (.loop R)).heap[b]? = some o := fun b o h => allocblk h _
  refine ⟨t6 _ _ (t5 _ _ (t4 _ _ (t3 _ _ (t2 _ _ (k1))))), t6 _ _ (t5 _ _ (t4 _ _ (t3 _ _ (k2)))), t6 _ _ (t5 _ _ (t4 _ _ (k3))), t6 _ _ (t5 _ _ (k4)), t6 _ _ (k5), k6, ?_, rfl⟩
  have b0 : Below w.heap.size w w := Below.refl _ _
  have b1 := b0.alloc (Nat.le_refl _) (.cells #[.int .i64 0] 23); rw [e1] at b1
  have b2 := b1.alloc (by omega) (.cells #[.string ⟨l.toArray⟩] 9); rw [e2] at b2
  have b3 := b2.alloc (by omega) (.cells #[.string ⟨#[46]⟩] 9); rw [e3] at b3
  have b4 := b3.alloc (by omega) (.cells #[.int .i64 0] 3); rw [e4] at b4
  have b5 := b4.alloc (by omega) (.deferred (some [])); rw [e5] at b5
  exact b5.alloc (by omega) _
/-- a part that is too long -/
def lng (n : List UInt8) : Bool := decide (24 < n.length)
def FJ (w : World) (S : Nat) (l : List UInt8) (R : Loop) (r : List UInt8) (W : World) : Prop := FS w S 0 r R W ∧ r.length ≤ 16384 ∧ (parts r).any lng = (parts l).any lng
def FX (w : World) (S : Nat) (l : List UInt8) (W : World) : Prop := (parts l).any lng = true ∧ ∃ r lo, FS w S 36 r lo W ∧ lo.state = .done ∧ lo.pending = some .ret
def FE (w : World) (S : Nat) (l : List UInt8) (R : Loop) (W : World) : Prop := FX w S l W ∨ ((parts l).any lng = false ∧ ∃ r, FS w S 0 r R W)
theorem FS_done {w W : World} {S : Nat} (hS : w.heap.size = S) (h : Below S w W) (k : Nat) (hk : S ≤ k) : Below w.heap.size w (W.putObj k (.deferred none)) := QS_done_be hS h k hk
attribute [local go_sem] Oper.semAt_some
set_option maxRecDepth 100000 in
set_option maxHeartbeats 2000000 in
theorem fault2 (l : List UInt8) (w : World) (hs : l.length ≤ 16384) :
    Calls Tryz.prog 40 #[.int .i64 2, .string ⟨l.toArray⟩] w fun e w' => e = .returned (.int .i64 ((if (parts l).any lng = true then 36 else 0 : Nat) : Int)) ∧ Below w.heap.size w w' := by
  obtain ⟨Fr, hFr⟩ : ∃ Fr, (if (parts l).any lng = true then 36 else 0 : Nat) = Fr := ⟨_, rfl⟩
  rw [hFr]
  have HFr : Hid ((if (parts l).any lng = true then 36 else 0 : Nat) = Fr) := hFr
  clear hFr
  refine (callsIn_wide (n := 4)).1 ?_
  refine callsIn_of_wp_marks Tryz.func40 rfl trivial ?_ rfl
  simp only [Tryz.ntmps40, List.size_toArray, List.length_cons, List.length_nil, Nat.reduceAdd, Nat.reduceSub, Array.replicate_succ, Array.replicate_zero, List.push_toArray, List.append_toArray, List.nil_append, List.cons_append]
  gi_wp2_with (refine ⟨trivial, ?_⟩; gi_at_call 51; refine (callsIn_wide.2 (splitSeq_in l _)).mono ?_; rintro e w' ⟨rfl, rfl⟩)
  refine range_by rfl (by omega) (gf := 78) (lb := #[.pointer (some ⟨w.heap.size + 1 + 1, 0, none⟩), .pointer (some ⟨w.heap.size + 1, 0, none⟩), .pointer (some ⟨w.heap.size + 1 + 1 + 1, 0, none⟩)]) rfl trivial (enters_of Tryz.func78 (by kernel_rfl) rfl) ?_
  intro fn hfn
  obtain ⟨S, hS⟩ : ∃ S, w.heap.size = S := ⟨_, rfl⟩
  have Hs : Hid (w.heap.size = S) := hS
  simp only [World.size_alloc, hS]
  generalize hR : recOf fn _ _ _ _ _ = R
  have rs : R.state = .ready := by rw [← hR]; rfl
  have rp : R.pending = none := by rw [← hR]; rfl
  have rf : R.fn = fn := by rw [← hR]; rfl
  have rq : R.params = #[15] := by rw [← hR]; rfl
  have q0 := FS_start w S l R hS
  obtain ⟨W0, hW0⟩ : ∃ W0, ((((((w.alloc (.cells #[.int .i64 0] 23)).alloc (.cells #[.string ⟨l.toArray⟩] 9)).alloc (.cells #[.string ⟨#[46]⟩] 9)).alloc (.cells #[.int .i64 0] 3)).alloc (.deferred (some []))).alloc (.loop R)) = W0 := ⟨_, rfl⟩
  rw [hW0] at q0
  have HB : ∀ (p r : List UInt8) (W : World), FS w S 0 r R W → p.length ≤ 16384 → (lng p = true → (parts l).any lng = true) →
      YieldAt Fence.wide (4 - 1 - 1) Tryz.prog (S + 1 + 1 + 1 + 1 + 1) #[.string ⟨p.toArray⟩] W fun e W' => (e = .returned (.bool true) ∧ lng p = false ∧ FS w S 0 r R W') ∨ (e = .returned (.bool false) ∧ FX w S l W') := by
    intro p r W q hp hf
    have qb := q.loop { R with state := .busy }
    refine (round_by (F := Fence.wide) (m := 4 - 1 - 1) (In := fun W' => lng p = false ∧ FS w S 0 r R W') (Out := fun _ W' => FX w S l W') (by rw [rf]; exact hfn) q.a8 rs rp (by rw [rq]; rfl) ?a1 ?has ?hb).mono ?_
    case has =>
      intro K hK
      rw [congrArg Loop.assign hR.symm, rq, congrArg Loop.tmps hR.symm]
      simp only [recOf]
      gi_wp2
      exact hK
    case hb =>
      obtain ⟨V, hV⟩ : ∃ V, W.putObj (S + 1 + 1 + 1 + 1 + 1) (.loop { R with state := .busy }) = V := ⟨_, rfl⟩
      rw [hV] at qb ⊢
      rw [congrArg Loop.body hR.symm]
      simp only [recOf]
      clear hV
      cases hl : lng p with
      | true =>
        have hp24 : 24 < p.length := by unfold lng at hl; simpa using hl
        have i1 : (24 : Int) < (p.length : Int) := by omega
        have HQ : Hid ((parts l).any lng = true) := hf hl
        have c0 := cell_of qb.a0
        have f0 := froz_of qb.a0
        clear hf hl hp24
        gi_wp2
        have q3 := qb.set0 36
        exact ⟨q3.a8, HQ.out, _, _, q3.loop _, rfl, rfl⟩
      | false =>
        have hp24 : ¬ 24 < p.length := by unfold lng at hl; simpa using hl
        have i1 : ¬ (24 : Int) < (p.length : Int) := by omega
        clear hf hl hp24
        gi_wp2
        first | exact ⟨qb.a8, rfl, qb.loop R⟩ | exact ⟨qb.a8, qb.loop R⟩
    rintro e W' h
    rcases h with ⟨he, h⟩ | ⟨he, c, h⟩
    · exact .inl ⟨he, h⟩
    · exact .inr ⟨he, h⟩
  have hgo : CallsIn Fence.wide (4 - 1) Tryz.prog 78 #[.func (.yield (S + 1 + 1 + 1 + 1 + 1)) #[] #[], .pointer (some ⟨S + 1 + 1, 0, none⟩), .pointer (some ⟨S + 1, 0, none⟩), .pointer (some ⟨S + 1 + 1 + 1, 0, none⟩)] W0 fun e W' => (∃ v, e = .returned v) ∧ (FX w S l W' ∨ FE w S l R W') := by
    refine split_in (4 - 1) (by omega) (S + 1 + 1 + 1 + 1 + 1) (S + 1) (FJ w S l R) (FX w S l) (FE w S l R) ?hbox ?hY1 ?hY2 l W0 ⟨q0, hs, rfl⟩
    case hbox =>
      rintro r W ⟨q, hr, _⟩
      exact ⟨q.a4, q.a5, q.a6, hr⟩
    case hY1 =>
      rintro r W i ⟨q, hr, hf⟩ hi
      rw [parts_pos hi, List.any_cons] at hf
      refine (HB (r.take i) r W q (by simp; omega) (fun h => by rw [← hf, h]; rfl)).mono ?_
      rintro e W' (⟨he, hn, q'⟩ | ⟨he, hx⟩)
      · refine .inl ⟨he, q'.a4, q'.a5, q'.sets _, by simp; omega, ?_⟩
        rw [hn, Bool.false_or] at hf
        exact hf
      · exact .inr ⟨he, hx⟩
    case hY2 =>
      rintro r W ⟨q, hr, hf⟩ hi
      rw [parts_neg hi] at hf
      refine (HB r r W q hr (fun h => by rw [← hf]; simp [h])).mono ?_
      rintro e W' (⟨he, hn, q'⟩ | ⟨he, hx⟩)
      · exact ⟨⟨_, he⟩, .inr ⟨by rw [← hf]; simp [hn], r, q'⟩⟩
      · exact ⟨⟨_, he⟩, .inl hx⟩
  rw [hW0]
  refine hgo.mono ?_
  rintro e W ⟨hv1, hJ⟩
  refine ⟨hv1, ?_⟩
  have hJ2 : FX w S l W ∨ ((parts l).any lng = false ∧ ∃ r, FS w S 0 r R W) := by
    rcases hJ with h | h
    · exact .inl h
    · exact h
  rcases hJ2 with ⟨hq, r, lo, q, h1, h2⟩ | ⟨hq, r, q⟩
  · refine ⟨lo, q.a8, (fun e => by rw [h1] at e; cases e), .inr ⟨_, h2, ?_⟩⟩
    have q2 := q.loop { lo with state := .exhausted }
    have HQ : Hid ((parts l).any lng = true) := hq
    obtain ⟨V, hV⟩ : ∃ V, W.putObj (S + 1 + 1 + 1 + 1 + 1) (.loop { lo with state := .exhausted }) = V := ⟨_, rfl⟩
    rw [hV] at q2 ⊢
    clear hV hq
    have c0 := cell_of q2.a0
    gi_wp2
    refine ⟨by simp, .inl ⟨_, _, rfl, run_takeDeferred q2.a7, ?_⟩⟩
    refine ⟨_, res_fault _ _ S 36 rfl (put_other q2.a0 (by omega)), ?_, ?_⟩
    · rw [show Fr = 36 by rw [← HFr.out, HQ.out]; rfl]; rfl
    · have hfin := FS_done Hs.out q2.be (S + 1 + 1 + 1 + 1) (by omega)
      first
        | exact hfin
        | (rw [Hs.out] at hfin; exact hfin)
  · refine ⟨R, q.a8, (fun e => by rw [rs] at e; cases e), .inl ⟨rp, ?_⟩⟩
    have q2 := q.loop { R with state := .exhausted }
    have HQ : Hid ((parts l).any lng = false) := hq
    obtain ⟨V, hV⟩ : ∃ V, W.putObj (S + 1 + 1 + 1 + 1 + 1) (.loop { R with state := .exhausted }) = V := ⟨_, rfl⟩
    rw [hV] at q2 ⊢
    clear hV hq
    have c0 := cell_of q2.a0
    have f0 := froz_of q2.a0
    gi_wp2
    have q3 := q2.set0 0
    refine ⟨by simp, .inl ⟨_, _, rfl, run_takeDeferred q3.a7, ?_⟩⟩
    refine ⟨_, res_fault _ _ S 0 rfl (put_other q3.a0 (by omega)), ?_, ?_⟩
    · rw [show Fr = 0 by rw [← HFr.out, HQ.out]; rfl]; rfl
    · have hfin := FS_done Hs.out q3.be (S + 1 + 1 + 1 + 1) (by omega)
      first
        | exact hfin
        | (rw [Hs.out] at hfin; exact hfin)
set_option maxRecDepth 100000 in
set_option maxHeartbeats 2000000 in
theorem fault3 (l : List UInt8) (w : World) (hs : l.length ≤ 16384) :
    Calls Tryz.prog 40 #[.int .i64 3, .string ⟨l.toArray⟩] w fun e w' => e = .returned (.int .i64 ((if (parts l).any lng = true then 36 else 0 : Nat) : Int)) ∧ Below w.heap.size w w' := by
  obtain ⟨Fr, hFr⟩ : ∃ Fr, (if (parts l).any lng = true then 36 else 0 : Nat) = Fr := ⟨_, rfl⟩
  rw [hFr]
  have HFr : Hid ((if (parts l).any lng = true then 36 else 0 : Nat) = Fr) := hFr
  clear hFr
  refine (callsIn_wide (n := 4)).1 ?_
  refine callsIn_of_wp_marks Tryz.func40 rfl trivial ?_ rfl
  simp only [Tryz.ntmps40, List.size_toArray, List.length_cons, List.length_nil, Nat.reduceAdd, Nat.reduceSub, Array.replicate_succ, Array.replicate_zero, List.push_toArray, List.append_toArray, List.nil_append, List.cons_append]
  gi_wp2_with (refine ⟨trivial, ?_⟩; gi_at_call 51; refine (callsIn_wide.2 (splitSeq_in l _)).mono ?_; rintro e w' ⟨rfl, rfl⟩)
  refine range_by rfl (by omega) (gf := 78) (lb := #[.pointer (some ⟨w.heap.size + 1 + 1, 0, none⟩), .pointer (some ⟨w.heap.size + 1, 0, none⟩), .pointer (some ⟨w.heap.size + 1 + 1 + 1, 0, none⟩)]) rfl trivial (enters_of Tryz.func78 (by kernel_rfl) rfl) ?_
  intro fn hfn
  obtain ⟨S, hS⟩ : ∃ S, w.heap.size = S := ⟨_, rfl⟩
  have Hs : Hid (w.heap.size = S) := hS
  simp only [World.size_alloc, hS]
  generalize hR : recOf fn _ _ _ _ _ = R
  have rs : R.state = .ready := by rw [← hR]; rfl
  have rp : R.pending = none := by rw [← hR]; rfl
  have rf : R.fn = fn := by rw [← hR]; rfl
  have rq : R.params = #[15] := by rw [← hR]; rfl
  have q0 := FS_start w S l R hS
  obtain ⟨W0, hW0⟩ : ∃ W0, ((((((w.alloc (.cells #[.int .i64 0] 23)).alloc (.cells #[.string ⟨l.toArray⟩] 9)).alloc (.cells #[.string ⟨#[46]⟩] 9)).alloc (.cells #[.int .i64 0] 3)).alloc (.deferred (some []))).alloc (.loop R)) = W0 := ⟨_, rfl⟩
  rw [hW0] at q0
  have HB : ∀ (p r : List UInt8) (W : World), FS w S 0 r R W → p.length ≤ 16384 → (lng p = true → (parts l).any lng = true) →
      YieldAt Fence.wide (4 - 1 - 1) Tryz.prog (S + 1 + 1 + 1 + 1 + 1) #[.string ⟨p.toArray⟩] W fun e W' => (e = .returned (.bool true) ∧ lng p = false ∧ FS w S 0 r R W') ∨ (e = .returned (.bool false) ∧ FX w S l W') := by
    intro p r W q hp hf
    have qb := q.loop { R with state := .busy }
    refine (round_by (F := Fence.wide) (m := 4 - 1 - 1) (In := fun W' => lng p = false ∧ FS w S 0 r R W') (Out := fun _ W' => FX w S l W') (by rw [rf]; exact hfn) q.a8 rs rp (by rw [rq]; rfl) ?a1 ?has ?hb).mono ?_
    case has =>
      intro K hK
      rw [congrArg Loop.assign hR.symm, rq, congrArg Loop.tmps hR.symm]
      simp only [recOf]
      gi_wp2
      exact hK
    case hb =>
      obtain ⟨V, hV⟩ : ∃ V, W.putObj (S + 1 + 1 + 1 + 1 + 1) (.loop { R with state := .busy }) = V := ⟨_, rfl⟩
      rw [hV] at qb ⊢
      rw [congrArg Loop.body hR.symm]
      simp only [recOf]
      clear hV
      cases hl : lng p with
      | true =>
        have hp24 : 24 < p.length := by unfold lng at hl; simpa using hl
        have i1 : (24 : Int) < (p.length : Int) := by omega
        have HQ : Hid ((parts l).any lng = true) := hf hl
        have c0 := cell_of qb.a0
        have f0 := froz_of qb.a0
        clear hf hl hp24
        gi_wp2
        have q3 := qb.set0 36
        exact ⟨q3.a8, HQ.out, _, _, q3.loop _, rfl, rfl⟩
      | false =>
        have hp24 : ¬ 24 < p.length := by unfold lng at hl; simpa using hl
        have i1 : ¬ (24 : Int) < (p.length : Int) := by omega
        clear hf hl hp24
        gi_wp2
        first | exact ⟨qb.a8, rfl, qb.loop R⟩ | exact ⟨qb.a8, qb.loop R⟩
    rintro e W' h
    rcases h with ⟨he, h⟩ | ⟨he, c, h⟩
    · exact .inl ⟨he, h⟩
    · exact .inr ⟨he, h⟩
  have hgo : CallsIn Fence.wide (4 - 1) Tryz.prog 78 #[.func (.yield (S + 1 + 1 + 1 + 1 + 1)) #[] #[], .pointer (some ⟨S + 1 + 1, 0, none⟩), .pointer (some ⟨S + 1, 0, none⟩), .pointer (some ⟨S + 1 + 1 + 1, 0, none⟩)] W0 fun e W' => (∃ v, e = .returned v) ∧ (FX w S l W' ∨ FE w S l R W') := by
    refine split_in (4 - 1) (by omega) (S + 1 + 1 + 1 + 1 + 1) (S + 1) (FJ w S l R) (FX w S l) (FE w S l R) ?hbox ?hY1 ?hY2 l W0 ⟨q0, hs, rfl⟩
    case hbox =>
      rintro r W ⟨q, hr, _⟩
      exact ⟨q.a4, q.a5, q.a6, hr⟩
    case hY1 =>
      rintro r W i ⟨q, hr, hf⟩ hi
      rw [parts_pos hi, List.any_cons] at hf
      refine (HB (r.take i) r W q (by simp; omega) (fun h => by rw [← hf, h]; rfl)).mono ?_
      rintro e W' (⟨he, hn, q'⟩ | ⟨he, hx⟩)
      · refine .inl ⟨he, q'.a4, q'.a5, q'.sets _, by simp; omega, ?_⟩
        rw [hn, Bool.false_or] at hf
        exact hf
      · exact .inr ⟨he, hx⟩
    case hY2 =>
      rintro r W ⟨q, hr, hf⟩ hi
      rw [parts_neg hi] at hf
      refine (HB r r W q hr (fun h => by rw [← hf]; simp [h])).mono ?_
      rintro e W' (⟨he, hn, q'⟩ | ⟨he, hx⟩)
      · exact ⟨⟨_, he⟩, .inr ⟨by rw [← hf]; simp [hn], r, q'⟩⟩
      · exact ⟨⟨_, he⟩, .inl hx⟩
  rw [hW0]
  refine hgo.mono ?_
  rintro e W ⟨hv1, hJ⟩
  refine ⟨hv1, ?_⟩
  have hJ2 : FX w S l W ∨ ((parts l).any lng = false ∧ ∃ r, FS w S 0 r R W) := by
    rcases hJ with h | h
    · exact .inl h
    · exact h
  rcases hJ2 with ⟨hq, r, lo, q, h1, h2⟩ | ⟨hq, r, q⟩
  · refine ⟨lo, q.a8, (fun e => by rw [h1] at e; cases e), .inr ⟨_, h2, ?_⟩⟩
    have q2 := q.loop { lo with state := .exhausted }
    have HQ : Hid ((parts l).any lng = true) := hq
    obtain ⟨V, hV⟩ : ∃ V, W.putObj (S + 1 + 1 + 1 + 1 + 1) (.loop { lo with state := .exhausted }) = V := ⟨_, rfl⟩
    rw [hV] at q2 ⊢
    clear hV hq
    have c0 := cell_of q2.a0
    gi_wp2
    refine ⟨by simp, .inl ⟨_, _, rfl, run_takeDeferred q2.a7, ?_⟩⟩
    refine ⟨_, res_fault _ _ S 36 rfl (put_other q2.a0 (by omega)), ?_, ?_⟩
    · rw [show Fr = 36 by rw [← HFr.out, HQ.out]; rfl]; rfl
    · have hfin := FS_done Hs.out q2.be (S + 1 + 1 + 1 + 1) (by omega)
      first
        | exact hfin
        | (rw [Hs.out] at hfin; exact hfin)
  · refine ⟨R, q.a8, (fun e => by rw [rs] at e; cases e), .inl ⟨rp, ?_⟩⟩
    have q2 := q.loop { R with state := .exhausted }
    have HQ : Hid ((parts l).any lng = false) := hq
    obtain ⟨V, hV⟩ : ∃ V, W.putObj (S + 1 + 1 + 1 + 1 + 1) (.loop { R with state := .exhausted }) = V := ⟨_, rfl⟩
    rw [hV] at q2 ⊢
    clear hV hq
    have c0 := cell_of q2.a0
    have f0 := froz_of q2.a0
    gi_wp2
    have q3 := q2.set0 0
    refine ⟨by simp, .inl ⟨_, _, rfl, run_takeDeferred q3.a7, ?_⟩⟩
    refine ⟨_, res_fault _ _ S 0 rfl (put_other q3.a0 (by omega)), ?_, ?_⟩
    · rw [show Fr = 0 by rw [← HFr.out, HQ.out]; rfl]; rfl
    · have hfin := FS_done Hs.out q3.be (S + 1 + 1 + 1 + 1) (by omega)
      first
        | exact hfin
        | (rw [Hs.out] at hfin; exact hfin)
theorem FOK_of {w : World} (hv : VW w) : FOK w := fun kind t W h2 h7 h5 hl hb => by
  have hvW := hv.below hb
  have hcase : kind = 2 ∨ kind = 3 ∨ kind = 4 ∨ kind = 5 ∨ kind = 6 ∨ kind = 7 := by omega
  rcases hcase with rfl | rfl | rfl | rfl | rfl | rfl
  · exact fault2 t W hl
  · exact fault3 t W hl
  · exact fault4 t W hl hvW
  · cases t with
    | nil => exact absurd rfl (h5 rfl)
    | cons c d => exact fault5 c d W (by simp at hl; omega)
  · exact fault6 t W
  · exact fault7 t W
end Go.Proofs.YtialcphfaleedaaGreatDoor
namespace Go.Proofs.YtialcphfaleedaaGreatDoor
open Go.RowKit Go.Shelf
def xdgs : List UInt8 := [48, 49, 120]
theorem xdgs_has (c : UInt8) : xdgs.contains c = is01x c := by
  have h : ∀ n : Fin 256, xdgs.contains (UInt8.ofNat n.val) = is01x (UInt8.ofNat n.val) := by decide +kernel
  have := h ⟨c.toNat, c.toNat_lt⟩
  rw [UInt8.ofNat_toNat] at this
  exact this
theorem xdgs_take (k : Nat) (c d : UInt8) (h : xdgs[k]? = some d) : (xdgs.take (k + 1)).contains c = ((xdgs.take k).contains c || c == d) := by
  rw [List.take_add_one, h, List.contains_append]
  show ((xdgs.take k).contains c || [d].contains c) = _
  rw [List.contains_cons, List.contains_nil, Bool.or_false]
set_option maxRecDepth 100000 in
theorem allx_any (l : List UInt8) (w : World) (hs : l.length ≤ 16384) :
    Calls Tryz.prog 61 #[.string ⟨l.toArray⟩, .string ⟨#[48, 49, 120]⟩] w fun e w' => e = .returned (.bool (l.all is01x)) ∧ Below w.heap.size w w' := by
  go_enter Tryz.func61, Tryz.ntmps61
  go_wp2
  go_loopw [5] (fun i wr => ∃ k : Nat, k ≤ l.length ∧ i = .int .i64 k ∧ (∀ j c, j < k → l[j]? = some c → is01x c = true) ∧ Below w.heap.size w wr) (fun i _ => l.length - (intOf i).toNat)
  case atStart => exact ⟨0, Nat.zero_le _, rfl, fun j c hj => by omega, Below.refl _ _⟩
  case round =>
    obtain ⟨k, hk, rfl, hn, hB⟩ := hrel
    by_cases hlt : k < l.length
    · have i1 : (k : Int) < (l.length : Int) := by omega
      obtain ⟨c, hc, hlc⟩ := byte_get l k hlt
      have HN : Hid (∀ j c, j < k → l[j]? = some c → is01x c = true) := hn
      clear hn
      rename World => wq
      go_wp2_with fail
      go_loopw [6, 7] (fun b j wr => ∃ m : Nat, m ≤ 3 ∧ j = .int .i64 m ∧ b = .bool ((xdgs.take m).contains c) ∧ Below w.heap.size w wr) (fun _ j _ => 3 - (intOf j).toNat)
      case atStart => exact ⟨0, by omega, rfl, rfl, hB⟩
      case round =>
        clear hB
        obtain ⟨m, hm, rfl, rfl, hB⟩ := hrel
        by_cases hlm : m < 3
        · have i2 : (m : Int) < 3 := by omega
          obtain ⟨d, hd0, hld⟩ := byte_get xdgs m hlm
          have hd : ∀ h', (ByteArray.mk #[48, 49, 120])[m]'h' = d := hd0
          have ht := xdgs_take m c d hld
          clear hd0
          obtain ⟨x, hx⟩ : ∃ x, (xdgs.take m).contains c = x := ⟨_, rfl⟩
          obtain ⟨y, hy⟩ : ∃ y, (xdgs.take (m + 1)).contains c = y := ⟨_, rfl⟩
          rw [hx, hy] at ht
          have HY : Hid ((xdgs.take (m + 1)).contains c = y) := hy
          rw [hx]
          clear hx hy
          by_cases hcd : c = d
          · subst hcd
            obtain rfl : y = true := by rw [ht]; simp
            clear ht
            go_wp2_with fail
            go_quiet (fail)
            go_wp2_with fail
            go_roundw
            case rel => exact ⟨m + 1, by omega, by go_num, by rw [HY.out], bel_drewN _ hB⟩
            case measure => simp [intOf]; omega
          · have hne := u8_ne hcd
            obtain rfl : y = x := by rw [ht, beq_eq_false_iff_ne.2 hcd]; simp
            clear ht
            go_wp2_with fail
            go_quiet (fail)
            go_wp2_with fail
            go_roundw
            case rel => exact ⟨m + 1, by omega, by go_num, by rw [HY.out], bel_drewN _ hB⟩
            case measure => simp [intOf]; omega
        · have i2 : ¬ (m : Int) < 3 := by omega
          obtain rfl : m = 3 := by omega
          have hx : (xdgs.take 3).contains c = is01x c := xdgs_has c
          rw [hx]
          by_cases hcd : is01x c = true
          · rw [hcd]
            have HN2 : Hid (∀ j c, j < k + 1 → l[j]? = some c → is01x c = true) := fun j e hj he => by
              rcases Nat.lt_or_ge j k with h | h
              · exact HN.out j e h he
              · obtain rfl : j = k := by omega
                rw [hlc] at he; injection he with he; rw [← he]; exact hcd
            go_wp2_with fail
            go_roundw
            case rel => exact ⟨k + 1, by omega, by go_num, HN2.out, hB⟩
            case measure => simp [intOf]; omega
          · have hr : Hid (l.all is01x = false) := by
              unfold Hid
              cases ha : l.all is01x with
              | false => rfl
              | true =>
                rw [List.all_eq_true] at ha
                exact absurd (ha c (List.mem_of_getElem? hlc)) hcd
            rw [Bool.eq_false_iff.2 hcd]
            go_wp2_with fail
            go_ret
            exact ⟨by rw [hr.out]; rfl, hB⟩
    · have i1 : ¬ (k : Int) < (l.length : Int) := by omega
      have hr : Hid (l.all is01x = true) := by
        unfold Hid
        rw [List.all_eq_true]
        intro x hx
        obtain ⟨j, hj, rfl⟩ := List.mem_iff_getElem.1 hx
        exact hn j _ (by omega) (List.getElem?_eq_getElem hj)
      clear hn
      go_wp2_with fail
      go_ret
      exact ⟨by rw [hr.out]; rfl, hB⟩
/-- is it a pattern -/
def patX (t : List UInt8) : Bool := decide (2 ≤ t.length) && (decide (t.length ≤ 33) && (t.drop 1).all is01x)
set_option maxRecDepth 100000 in
theorem refPattern_any (t : List UInt8) (w : World) (h0 : t[0]? = some 37) (hs : t.length ≤ 16384) :
    Calls Tryz.prog 47 #[.string ⟨t.toArray⟩] w fun e w' => e = .returned (.bool (patX t)) ∧ Below w.heap.size w w' := by
  have hl0 : 0 < t.length := (List.getElem?_eq_some_iff.1 h0).1
  obtain ⟨c, hc, hlc⟩ := byte_get t 0 hl0
  obtain rfl : c = 37 := by rw [h0] at hlc; exact (Option.some.inj hlc).symm
  clear hlc h0
  by_cases a1 : 2 ≤ t.length
  · have i1 : (2 : Int) ≤ (t.length : Int) := by omega
    by_cases a2 : t.length ≤ 33
    · have i2 : (t.length : Int) ≤ 33 := by omega
      have i3 : (1 : Int) ≤ (t.length : Int) := by omega
      have HA := allx_any (t.drop 1) w (by simp; omega)
      obtain ⟨q, hq⟩ : ∃ q, (t.drop 1).all is01x = q := ⟨_, rfl⟩
      have hr : Hid (patX t = q) := by unfold Hid patX; rw [hq]; simp [a1, a2]
      rw [hq] at HA
      have hE : (ByteArray.mk t.toArray).extract 1 t.length = ⟨(t.drop 1).toArray⟩ := ext_drop t 1
      obtain ⟨T, hT⟩ : ∃ T, t.drop 1 = T := ⟨_, rfl⟩
      rw [hT] at HA hE
      clear hq hT
      go_enter Tryz.func47, Tryz.ntmps47
      go_wp2_with fail
      refine HA.mono ?_
      rintro e w1 ⟨rfl, hb1⟩
      go_wp2_with fail
      go_ret
      exact ⟨by rw [hr.out]; rfl, hb1⟩
    · have i2 : ¬ (t.length : Int) ≤ 33 := by omega
      have hr : Hid (patX t = false) := by unfold Hid patX; simp [a2]
      go_enter Tryz.func47, Tryz.ntmps47
      go_wp2_with fail
      go_ret
      exact ⟨by rw [hr.out]; rfl, Below.refl _ _⟩
  · have i1 : ¬ (2 : Int) ≤ (t.length : Int) := by omega
    have hr : Hid (patX t = false) := by unfold Hid patX; simp [a1]
    go_enter Tryz.func47, Tryz.ntmps47
    go_wp2_with fail
    go_ret
    exact ⟨by rw [hr.out]; rfl, Below.refl _ _⟩
abbrev signsD : Array Value := #[.string ⟨#[33, 61]⟩, .string ⟨#[60, 61]⟩, .string ⟨#[62, 61]⟩, .string ⟨#[46, 46]⟩, .string ⟨#[45, 62]⟩, .string ⟨#[40]⟩, .string ⟨#[41]⟩, .string ⟨#[33]⟩, .string ⟨#[61]⟩, .string ⟨#[60]⟩, .string ⟨#[62]⟩, .string ⟨#[38]⟩, .string ⟨#[124]⟩, .string ⟨#[44]⟩, .string ⟨#[58]⟩, .string ⟨#[47]⟩, .string ⟨#[]⟩]
/-- the document's table of the signs lies there -/
def SR (w : World) : Prop := ∃ t fr, w.heap[2]? = some (.cells signsD t fr)
theorem SR.below {w W : World} (h : SR w) (hb : Below w.heap.size w W) : SR W := by
  obtain ⟨t, fr, h⟩ := h
  exact ⟨t, fr, (hb.block _ (lt_of_get h)).trans h⟩
theorem SR.cell {w : World} (h : SR w) (j : Nat) : w.cell? ⟨2, j, none⟩ = signsD[j]? := by
  obtain ⟨t, fr, h⟩ := h
  exact cell_of_row w _ j _ _ _ h
theorem signsD_at (k : Nat) (z : List UInt8) (h : signsL[k]? = some z) : signsD[k]? = some (.string ⟨z.toArray⟩) := by
  match k, h with
  | 0, h => obtain rfl := Option.some.inj h; rfl
  | 1, h => obtain rfl := Option.some.inj h; rfl
  | 2, h => obtain rfl := Option.some.inj h; rfl
  | 3, h => obtain rfl := Option.some.inj h; rfl
  | 4, h => obtain rfl := Option.some.inj h; rfl
  | 5, h => obtain rfl := Option.some.inj h; rfl
  | 6, h => obtain rfl := Option.some.inj h; rfl
  | 7, h => obtain rfl := Option.some.inj h; rfl
  | 8, h => obtain rfl := Option.some.inj h; rfl
  | 9, h => obtain rfl := Option.some.inj h; rfl
  | 10, h => obtain rfl := Option.some.inj h; rfl
  | 11, h => obtain rfl := Option.some.inj h; rfl
  | 12, h => obtain rfl := Option.some.inj h; rfl
  | 13, h => obtain rfl := Option.some.inj h; rfl
  | 14, h => obtain rfl := Option.some.inj h; rfl
  | 15, h => obtain rfl := Option.some.inj h; rfl
  | k + 16, h => simp at h
def isSg (s : List UInt8) : Bool := decide (s ∈ signsL)
set_option maxRecDepth 100000 in
theorem refSign_any (s : List UInt8) (w : World) (hg : SR w) : Calls Tryz.prog 49 #[.string ⟨s.toArray⟩] w fun e w' => e = .returned (.bool (isSg s)) ∧ w' = w := by
  have HG : Hid (SR w) := hg
  clear hg
  go_enter Tryz.func49, Tryz.ntmps49
  go_wp2_with fail
  go_loop [3] (fun vk => ∃ k : Nat, vk = .int .i64 k ∧ k ≤ 16 ∧ Hid (∀ (j : Nat) (z : List UInt8), j < k → signsL[j]? = some z → z ≠ s)) (fun vk => 16 - (intOf vk).toNat)
  case atStart => exact ⟨0, rfl, by omega, fun j z hj => by omega⟩
  case round =>
    obtain ⟨k, rfl, hk, hno⟩ := hrel
    by_cases hk5 : k < 16
    · have hk5' : (k : Int) < 16 := by omega
      have j0 : (0 : Int) ≤ (k : Int) := by omega
      have j17 : (k : Int) < 17 := by omega
      obtain ⟨z, hz⟩ : ∃ z, signsL[k]? = some z := ⟨_, List.getElem?_eq_getElem hk5⟩
      have hcell : w.cell? ⟨2, k, none⟩ = some (.string ⟨z.toArray⟩) := (HG.out.cell k).trans (signsD_at k z hz)
      have HZ : Hid (signsL[k]? = some z) := hz
      clear hz
      by_cases hzs : z = s
      · subst hzs
        have hr : Hid (isSg z = true) := decide_eq_true (List.mem_of_getElem? HZ.out)
        go_wp2_with fail
        go_ret
        exact ⟨by rw [hr.out]; rfl, rfl⟩
      · have hne : (z == s) = false := beq_eq_false_iff_ne.2 hzs
        have HN : Hid (∀ (j : Nat) (z : List UInt8), j < k + 1 → signsL[j]? = some z → z ≠ s) := fun j y hj hy => by
          rcases Nat.lt_or_ge j k with h | h
          · exact hno.out j y h hy
          · obtain rfl : j = k := by omega
            have := HZ.out
            rw [hy] at this
            rw [Option.some.inj this]
            exact hzs
        clear hno
        go_wp2_with fail
        go_round
        case rel => exact ⟨k + 1, by go_num, by omega, HN⟩
        case measure => simp [intOf]; omega
    · have hk5' : ¬ (k : Int) < 16 := by omega
      have hr : Hid (isSg s = false) := by
        refine decide_eq_false (fun hm => ?_)
        obtain ⟨j, hj, e⟩ := List.mem_iff_getElem.1 hm
        have h16 : signsL.length = 16 := rfl
        exact hno.out j s (by omega) (by rw [List.getElem?_eq_getElem hj, e]) rfl
      go_wp2_with fail
      go_ret
      exact ⟨by rw [hr.out]; rfl, rfl⟩
end Go.Proofs.YtialcphfaleedaaGreatDoor

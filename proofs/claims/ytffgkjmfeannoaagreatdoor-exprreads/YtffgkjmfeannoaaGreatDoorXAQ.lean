import Derived.Test.YtffgkjmfeannoaaGreatDoorXAP
import Derived.Shelf.Strings.SlTrimAscii
import Derived.Ground.NamesProg
import Derived.Test.YtffgkjmfeannoaaGreatDoorProg
import Derived.Test.YtffgkjmfeannoaaGreatDoorXAM
import Derived.Test.YtffgkjmfeannoaaGreatDoorXAJ
import Derived.Lib.SlTrimSet
namespace Go.Proofs.YtffgkjmfeannoaaGreatDoor
open Go.RowKit Go.Shelf
theorem RE.at {l : List UInt8} {j : Nat} (h : RE l j) : AT l (ci l j) j := by
  obtain ⟨k, hk⟩ := h
  rw [← hk.ci]
  exact hk
theorem RE.step {l : List UInt8} {p q : Nat} (h1 : RE l p) (h2 : RE l q) (h : p < q) (hq : q ≤ l.length) : p + (dc l p).2 ≤ q ∧ ci l (p + (dc l p).2) = ci l p + 1 ∧ RE l (p + (dc l p).2) := by
  have a1 := h1.at
  have a2 := h2.at
  have a3 := a1.next (show p < l.length by omega)
  have hle := dc_le l p (by omega)
  have hlt := at_mono a1 a2 h hq
  refine ⟨Classical.byContradiction (fun hc => ?_), a3.ci.symm, ⟨_, a3⟩⟩
  have := at_mono a2 a3 (by omega) hle
  omega
theorem sub_get {l : List UInt8} {i j k : Nat} {c : UInt8} (h : (subL l i j)[k]? = some c) : l[i + k]? = some c ∧ i + k < j := by
  unfold subL at h
  rw [List.getElem?_take] at h
  split at h
  · rw [List.getElem?_drop] at h
    exact ⟨h, by omega⟩
  · cases h
theorem tok_same {l : List UInt8} {j : Nat} (he : tokE l j = 0) : tokJ l j = (tokC l j).2 := by
  by_cases h7 : kl l j = 7 ∧ quoE l j ≠ 0
  · unfold tokE at he
    rw [if_pos h7] at he
    exact absurd he h7.2
  · unfold tokE at he
    rw [if_neg h7] at he
    unfold tokJ
    rw [if_neg h7, if_pos he]
theorem cls_high (r : Int) (h2 : r ≠ -2) (h : ¬ (0 ≤ r ∧ r < 128)) : cls r = 9 := by
  unfold cls
  rw [if_neg (by omega), if_neg (by omega), if_neg (by omega), if_neg (by omega), if_neg (by omega), if_neg (by omega), if_neg (by omega), if_neg (by omega), if_neg (by omega), if_neg (by omega), if_neg (by omega)]
theorem kl_bt {l : List UInt8} {i : Nat} (h : i < l.length) : kl l i = cls (bt l i : Int) := by
  unfold kl
  by_cases hb : bt l i < 128
  · rw [(chr_asc l i (bt l i) hb).2 ⟨h, rfl⟩]
  · have hn : ∀ x : Nat, x < 128 → chr l i ≠ (x : Int) := fun x hx e => hb (by rw [((chr_asc l i x hx).1 e).2]; exact hx)
    have h2 : chr l i ≠ -2 := by unfold chr; rw [if_pos h]; split <;> omega
    rw [cls_high _ h2 (fun hh => hn (chr l i).toNat (by omega) (by omega)), cls_high _ (by omega) (by omega)]
def letX (x : Nat) : Bool := decide ((65 ≤ x ∧ x ≤ 90) ∨ (97 ≤ x ∧ x ≤ 122) ∨ x = 95)
def digX (x : Nat) : Bool := decide (48 ≤ x ∧ x ≤ 57)
def blaX (x : Nat) : Bool := decide (x = 32 ∨ x = 9 ∨ x = 13)
theorem cls_tab : ∀ x : Fin 256, letX x.val = decide (cls (x.val : Int) = 3) ∧ digX x.val = decide (cls (x.val : Int) = 4) ∧ blaX x.val = decide (cls (x.val : Int) = 2) ∧ (cls (x.val : Int) = 8 → x.val = 35) := by decide +kernel
theorem letX_cls {x : Nat} (h : x < 256) : letX x = decide (cls (x : Int) = 3) := (cls_tab ⟨x, h⟩).1
theorem digX_cls {x : Nat} (h : x < 256) : digX x = decide (cls (x : Int) = 4) := (cls_tab ⟨x, h⟩).2.1
theorem blaX_cls {x : Nat} (h : x < 256) : blaX x = decide (cls (x : Int) = 2) := (cls_tab ⟨x, h⟩).2.2.1
theorem hashX_cls {x : Nat} (h : x < 256) : cls (x : Int) = 8 → x = 35 := (cls_tab ⟨x, h⟩).2.2.2
theorem hash_bt {l : List UInt8} {j : Nat} (h : kl l j = 8) : j < l.length ∧ bt l j = 35 := by
  have hj := (kl_asc (l := l) (j := j) (by omega) (by omega)).1
  rw [kl_bt hj] at h
  exact ⟨hj, hashX_cls (bt_lt l j) h⟩
end Go.Proofs.YtffgkjmfeannoaaGreatDoor
namespace Go.Proofs
open Go.Shelf
def Tryz.l160_ren : Go.Shelf.Ren := ⟨fun | 160 => 90 | 232 => 100 | 231 => 99 | 227 => 101 | 234 => 103 | 233 => 102 | 236 => 105 | 235 => 104 | 228 => 117 | 271 => 119 | 151 => 118 | 197 => 110 | 120 => 128 | 152 => 127 | 260 => 121 | 137 => 137 | 119 => 108 | 224 => 131 | 225 => 130 | 217 => 129 | 266 => 138 | n => n, fun | 9 => 9 | 4 => 4 | 3 => 3 | 5 => 5 | 117 => 126 | 116 => 125 | 0 => 0 | 124 => 129 | 21 => 21 | 105 => 131 | 46 => 141 | 119 => 151 | 139 => 154 | 138 => 153 | n => n, fun | 3 => 4 | 4 => 5 | n => n⟩
theorem Tryz.l160 : Go.Proofs.Lays.n160 Tryz.prog Tryz.l160_ren := {
  mixed := by kernel_rfl
  f119 := Tryz.func108.trans (congrArg some (by kernel_rfl))
  f120 := Tryz.func128.trans (congrArg some (by kernel_rfl))
  f137 := Tryz.func137.trans (congrArg some (by kernel_rfl))
  f151 := Tryz.func118.trans (congrArg some (by kernel_rfl))
  f152 := Tryz.func127.trans (congrArg some (by kernel_rfl))
  f160 := Tryz.func90.trans (congrArg some (by kernel_rfl))
  f197 := Tryz.func110.trans (congrArg some (by kernel_rfl))
  f217 := Tryz.func129.trans (congrArg some (by kernel_rfl))
  f224 := Tryz.func131.trans (congrArg some (by kernel_rfl))
  f225 := Tryz.func130.trans (congrArg some (by kernel_rfl))
  f227 := Tryz.func101.trans (congrArg some (by kernel_rfl))
  f228 := Tryz.func117.trans (congrArg some (by kernel_rfl))
  f231 := Tryz.func99.trans (congrArg some (by kernel_rfl))
  f232 := Tryz.func100.trans (congrArg some (by kernel_rfl))
  f233 := Tryz.func102.trans (congrArg some (by kernel_rfl))
  f234 := Tryz.func103.trans (congrArg some (by kernel_rfl))
  f235 := Tryz.func104.trans (congrArg some (by kernel_rfl))
  f236 := Tryz.func105.trans (congrArg some (by kernel_rfl))
  f260 := Tryz.func121.trans (congrArg some (by kernel_rfl))
  f266 := Tryz.func138.trans (congrArg some (by kernel_rfl))
  f271 := Tryz.func119.trans (congrArg some (by kernel_rfl))
  t0 := Tryz.underlying0
  a0 := Tryz.isAgg0
  z0 := Tryz.sizeOf0
  v0 := Tryz.zeroValue0
  t3 := Tryz.underlying3
  a3 := Tryz.isAgg3
  z3 := Tryz.sizeOf3
  v3 := Tryz.zeroValue3
  t4 := Tryz.underlying4
  a4 := Tryz.isAgg4
  z4 := Tryz.sizeOf4
  v4 := Tryz.zeroValue4
  t5 := Tryz.underlying5
  a5 := Tryz.isAgg5
  z5 := Tryz.sizeOf5
  v5 := Tryz.zeroValue5
  t9 := Tryz.underlying9
  a9 := Tryz.isAgg9
  z9 := Tryz.sizeOf9
  v9 := Tryz.zeroValue9
  t21 := Tryz.underlying21
  a21 := Tryz.isAgg21
  z21 := Tryz.sizeOf21
  v21 := Tryz.zeroValue21
  t46 := Tryz.underlying141
  a46 := Tryz.isAgg141
  z46 := Tryz.sizeOf141
  v46 := Tryz.zeroValue141
  t105 := Tryz.underlying131
  a105 := Tryz.isAgg131
  z105 := Tryz.sizeOf131
  v105 := Tryz.zeroValue131
  t116 := Tryz.underlying125
  a116 := Tryz.isAgg125
  z116 := Tryz.sizeOf125
  t117 := Tryz.underlying126
  a117 := Tryz.isAgg126
  z117 := Tryz.sizeOf126
  v117 := Tryz.zeroValue126
  t119 := Tryz.underlying151
  a119 := Tryz.isAgg151
  z119 := Tryz.sizeOf151
  t124 := Tryz.underlying129
  a124 := Tryz.isAgg129
  z124 := Tryz.sizeOf129
  v124 := Tryz.zeroValue129
  t138 := Tryz.underlying153
  a138 := Tryz.isAgg153
  z138 := Tryz.sizeOf153
  v138 := Tryz.zeroValue153
  t139 := Tryz.underlying154
  a139 := Tryz.isAgg154
  z139 := Tryz.sizeOf154
  v139 := Tryz.zeroValue154
  g3 := by kernel_rfl
  g4 := by kernel_rfl }
end Go.Proofs
namespace Go.Proofs.YtffgkjmfeannoaaGreatDoor
open Go.RowKit Go.Shelf
theorem res_fault (tmps : Array Value) (W : World) (b : Nat) (x : Int) {m : Nat × Nat} (hp : tmps.getD 4 undef = .pointer (some ⟨b, 0, none⟩)) (h : W.heap[b]? = some (.cells #[.int .i64 x] 26 m)) :
    (results Tryz.f77 tmps).run Tryz.prog W = .ok (.int .i64 x) W := by
  have hc : ∀ j, W.cell? ⟨b, j, none⟩ = (#[.int .i64 x] : Array Value)[j]? := by
    intro j; unfold World.cell?; rw [h]; simp
  have hp' : tmps[4]?.getD undef = .pointer (some ⟨b, 0, none⟩) := by simpa using hp
  simp [results, hp', go_sem, hc]
set_option maxRecDepth 100000 in
set_option maxHeartbeats 1000000 in
theorem fault6 (t : List UInt8) (w : World) : Calls Tryz.prog 77 #[.int .i64 6, .string ⟨t.toArray⟩] w fun e w' => e = .returned (.int .i64 0) ∧ Below w.heap.size w w' := by
  go_enter Tryz.func77, Tryz.ntmps77
  go_wp2_with fail
  exact bodyPost_ret (res_fault _ _ w.heap.size 0 rfl (alloc_get _ _)) rfl ⟨rfl, (Below.refl _ _).alloc (Nat.le_refl _) _⟩
set_option maxRecDepth 100000 in
set_option maxHeartbeats 1000000 in
theorem fault7 (t : List UInt8) (w : World) : Calls Tryz.prog 77 #[.int .i64 7, .string ⟨t.toArray⟩] w fun e w' => e = .returned (.int .i64 (if t = [] then 30 else 0 : Nat)) ∧ Below w.heap.size w w' := by
  cases t with
  | nil =>
    go_enter Tryz.func77, Tryz.ntmps77
    go_wp2_with fail
    exact bodyPost_ret (res_fault _ _ w.heap.size 30 rfl (alloc_get _ _)) rfl ⟨rfl, (Below.refl _ _).alloc (Nat.le_refl _) _⟩
  | cons c t =>
    go_enter Tryz.func77, Tryz.ntmps77
    go_wp2_with fail
    exact bodyPost_ret (res_fault _ _ w.heap.size 0 rfl (alloc_get _ _)) rfl ⟨rfl, (Below.refl _ _).alloc (Nat.le_refl _) _⟩
theorem valE_nat (t : List UInt8) : valE t = ((valE t).toNat : Int) := by
  unfold valE
  repeat' split
  all_goals rfl
set_option maxRecDepth 100000 in
set_option maxHeartbeats 1000000 in
theorem fault4 (t : List UInt8) (w : World) (ht : t.length ≤ 16384) (hv : VW w) : Calls Tryz.prog 77 #[.int .i64 4, .string ⟨t.toArray⟩] w fun e w' => e = .returned (.int .i64 ((valE t).toNat : Int)) ∧ Below w.heap.size w w' := by
  have HV := value_any t (w.alloc (.cells #[.int .i64 0] 26)) (by omega) (hv.below ((Below.refl _ _).alloc (Nat.le_refl _) _))
  rw [← valE_nat t]
  obtain ⟨x, hx⟩ : ∃ x, valV t = x := ⟨_, rfl⟩
  obtain ⟨y, hy⟩ : ∃ y, valE t = y := ⟨_, rfl⟩
  rw [hx, hy] at HV
  rw [hy]
  clear hx hy hv
  go_enter Tryz.func77, Tryz.ntmps77
  go_wp2_with fail
  refine HV.mono ?_
  rintro e w1 ⟨rfl, hb⟩
  have k0 := keepblk hb (alloc_get w (.cells #[.int .i64 0] 26))
  have c0 := cell_of k0
  have f0 := froz_of k0
  go_wp2_with fail
  refine bodyPost_ret (res_fault _ _ w.heap.size y rfl (set_one _ k0)) rfl ⟨rfl, (bel1 hb).setCell (p := ⟨w.heap.size, 0, none⟩) (Nat.le_refl _) _⟩
theorem dropW_nil {α : Type} (p : α → Bool) : ∀ l : List α, l.dropWhile p = [] ↔ ∀ x ∈ l, p x = true
  | [] => by simp
  | a :: l => by
    rw [List.dropWhile_cons]
    cases h : p a with
    | true =>
      simp only [if_true]
      rw [dropW_nil p l]
      simp [h]
    | false =>
      simp [h]
theorem trim_nil (l : List UInt8) : Lib.trimS l [48, 49, 120] = [] ↔ l.all is01x = true := by
  have hc : ∀ b : UInt8, ([48, 49, 120] : List UInt8).contains b = is01x b := fun b => by
    unfold is01x
    simp [List.contains, List.elem]
    cases b == 48 <;> cases b == 49 <;> cases b == 120 <;> rfl
  have hr : Lib.trimRightS l [48, 49, 120] = [] ↔ ∀ x ∈ l, is01x x = true := by
    unfold Lib.trimRightS
    rw [List.reverse_eq_nil_iff, dropW_nil]
    simp only [List.mem_reverse, hc]
  have hpre : ∀ x, x ∈ Lib.trimRightS l [48, 49, 120] → x ∈ l := fun x hx => by
    unfold Lib.trimRightS at hx
    rw [List.mem_reverse] at hx
    exact List.mem_reverse.1 ((List.dropWhile_sublist _).subset hx)
  rw [List.all_eq_true]
  unfold Lib.trimS Lib.trimLeftS
  rw [dropW_nil]
  simp only [hc]
  constructor
  · intro h
    refine hr.1 (Classical.byContradiction (fun hne => ?_))
    have hlast := List.getLast_mem hne
    have h1 := h _ hlast
    have h2 : is01x ((Lib.trimRightS l [48, 49, 120]).getLast hne) = false := by
      have hd : l.reverse.dropWhile (([48, 49, 120] : List UInt8).contains ·) ≠ [] := fun e => hne (by unfold Lib.trimRightS; rw [e]; rfl)
      have hh := List.head_dropWhile_not (([48, 49, 120] : List UInt8).contains ·) hd
      have he : (Lib.trimRightS l [48, 49, 120]).getLast hne = (l.reverse.dropWhile (([48, 49, 120] : List UInt8).contains ·)).head hd := by
        simp only [Lib.trimRightS, List.getLast_reverse]
      rw [he, ← hc]
      simpa using hh
    rw [h1] at h2
    cases h2
  · intro h x hx
    exact h x (hpre x hx)
theorem trim_any (r : List UInt8) (w : World) (hr : r.length ≤ 16384) : Calls Tryz.prog 90 #[.string ⟨r.toArray⟩, .string ⟨#[48, 49, 120]⟩] w fun e w' => e = .returned (.string ⟨(Lib.trimS r [48, 49, 120]).toArray⟩) ∧ Below w.heap.size w w' :=
  Any.strings_Trim_ascii Tryz.l160 (by intro w; kernel_rfl) (by kernel_rfl) ⟨r.toArray⟩ ⟨#[48, 49, 120]⟩ w (by simp [ByteArray.size]; omega) (by decide) (fun j b h => by
    have : b ∈ ([48, 49, 120] : List UInt8) := List.mem_of_getElem? h
    clear h
    revert b
    decide)
set_option maxRecDepth 100000 in
set_option maxHeartbeats 1000000 in
theorem fault5 (c : UInt8) (d : List UInt8) (w : World) (hd : d.length ≤ 16383) : Calls Tryz.prog 77 #[.int .i64 5, .string ⟨(c :: d).toArray⟩] w fun e w' => e = .returned (.int .i64 (if d = [] ∨ 32 < d.length ∨ d.all is01x = false then 44 else 0 : Nat)) ∧ Below w.heap.size w w' := by
  have hE : (ByteArray.mk (c :: d).toArray).extract 1 (d.length + 1) = ⟨d.toArray⟩ := by
    have := ext_drop (c :: d) 1
    simpa using this
  have q1 : (1 : Int) ≤ (d.length : Int) + 1 := by omega
  have q2 : (0 : Int) ≤ (d.length : Int) := by omega
  have HT : Hid (∀ W, Calls Tryz.prog 90 #[.string ⟨d.toArray⟩, .string ⟨#[48, 49, 120]⟩] W fun e w' => e = .returned (.string ⟨(Lib.trimS d [48, 49, 120]).toArray⟩) ∧ Below W.heap.size W w') := fun W => trim_any d W (by omega)
  have hn := trim_nil d
  by_cases d0 : d = []
  · have HR : Hid ((if d = [] ∨ 32 < d.length ∨ d.all is01x = false then 44 else 0 : Nat) = 44) := if_pos (.inl d0)
    rw [HR.out]
    subst d0
    clear hn
    go_enter Tryz.func77, Tryz.ntmps77
    go_wp2_with fail
    exact bodyPost_ret (res_fault _ _ w.heap.size 44 rfl (alloc_get _ _)) rfl ⟨rfl, (Below.refl _ _).alloc (Nat.le_refl _) _⟩
  · have hem : d.isEmpty = false := by cases d with
      | nil => exact absurd rfl d0
      | cons _ _ => rfl
    by_cases d32 : 32 < d.length
    · have HR : Hid ((if d = [] ∨ 32 < d.length ∨ d.all is01x = false then 44 else 0 : Nat) = 44) := if_pos (.inr (.inl d32))
      rw [HR.out]
      have i32 : (32 : Int) < (d.length : Int) := by omega
      clear hn
      go_enter Tryz.func77, Tryz.ntmps77
      go_wp2_with fail
      exact bodyPost_ret (res_fault _ _ w.heap.size 44 rfl (alloc_get _ _)) rfl ⟨rfl, (Below.refl _ _).alloc (Nat.le_refl _) _⟩
    · have i32 : ¬ (32 : Int) < (d.length : Int) := by omega
      obtain ⟨T, hT⟩ : ∃ T, Lib.trimS d [48, 49, 120] = T := ⟨_, rfl⟩
      rw [hT] at HT hn
      cases ha : d.all is01x with
      | true =>
        have HR : Hid ((if d = [] ∨ 32 < d.length ∨ true = false then 44 else 0 : Nat) = 0) := if_neg (by simp [d0]; omega)
        rw [HR.out]
        obtain rfl := hn.2 ha
        clear hn hT ha
        go_enter Tryz.func77, Tryz.ntmps77
        go_wp2_with fail
        refine (HT.out _).mono ?_
        rintro e w1 ⟨rfl, hb⟩
        have k0 := keepblk hb (alloc_get w (.cells #[.int .i64 0] 26))
        have c0 := cell_of k0
        have f0 := froz_of k0
        go_wp2_with fail
        exact bodyPost_ret (res_fault _ _ w.heap.size 0 rfl (set_one _ k0)) rfl ⟨rfl, (bel1 hb).setCell (p := ⟨w.heap.size, 0, none⟩) (Nat.le_refl _) _⟩
      | false =>
        have HR : Hid ((if d = [] ∨ 32 < d.length ∨ false = false then 44 else 0 : Nat) = 44) := if_pos (.inr (.inr rfl))
        rw [HR.out]
        have hT0 : T ≠ [] := fun e => by
          have := hn.1 e
          rw [ha] at this
          cases this
        have hTe : T.isEmpty = false := by cases T with
          | nil => exact absurd rfl hT0
          | cons _ _ => rfl
        clear hn hT ha
        go_enter Tryz.func77, Tryz.ntmps77
        go_wp2_with fail
        refine (HT.out _).mono ?_
        rintro e w1 ⟨rfl, hb⟩
        have k0 := keepblk hb (alloc_get w (.cells #[.int .i64 0] 26))
        have c0 := cell_of k0
        have f0 := froz_of k0
        go_wp2_with fail
        exact bodyPost_ret (res_fault _ _ w.heap.size 44 rfl (set_one _ k0)) rfl ⟨rfl, (bel1 hb).setCell (p := ⟨w.heap.size, 0, none⟩) (Nat.le_refl _) _⟩
end Go.Proofs.YtffgkjmfeannoaaGreatDoor

import Derived.Test.YtekjbpemaohipaaGreatDoorXAO
import Derived.Shelf.SlSortCmp.WholeK
import Derived.Ground.SlsfProg
import Derived.Ground.NamesProg
import Derived.Test.YtekjbpemaohipaaGreatDoorProg
import Derived.Sort.Grow
import Derived.Shelf.SlSortCmp.Whole1
namespace Go.Proofs.YtekjbpemaohipaaGreatDoor
open Go.RowKit Go.Shelf
theorem cmpB_self (a : List UInt8) : Lib.compareBytes a a = 0 := by
  induction a with
  | nil => rfl
  | cons x a ih => simp [Lib.compareBytes, ih]
theorem cmpB_eq : ∀ (a b : List UInt8), Lib.compareBytes a b = 0 → a = b
  | [], [], _ => rfl
  | [], y :: b, h => by simp [Lib.compareBytes] at h
  | x :: a, [], h => by simp [Lib.compareBytes] at h
  | x :: a, y :: b, h => by
    simp only [Lib.compareBytes] at h
    split at h
    · cases h
    · split at h
      · cases h
      · rename_i h1 h2
        have e : x = y := UInt8.le_antisymm (UInt8.not_lt.1 h2) (UInt8.not_lt.1 h1)
        rw [e, cmpB_eq a b h]
theorem cmpB_three : ∀ (a b : List UInt8), (Lib.compareBytes a b = -1 ∧ Lib.compareBytes b a = 1) ∨ (Lib.compareBytes a b = 0 ∧ Lib.compareBytes b a = 0) ∨ (Lib.compareBytes a b = 1 ∧ Lib.compareBytes b a = -1)
  | [], [] => .inr (.inl ⟨rfl, rfl⟩)
  | [], y :: b => .inl ⟨rfl, rfl⟩
  | x :: a, [] => .inr (.inr ⟨rfl, rfl⟩)
  | x :: a, y :: b => by
    simp only [Lib.compareBytes]
    by_cases h1 : x < y
    · have h2 : ¬ y < x := UInt8.not_lt.2 (UInt8.le_of_lt h1)
      simp [h1, h2]
    · by_cases h2 : y < x
      · simp [h1, h2]
      · simp only [h1, h2, if_false]
        exact cmpB_three a b
theorem cmpB_trans : ∀ (a b c : List UInt8), Lib.compareBytes a b < 0 → Lib.compareBytes b c < 0 → Lib.compareBytes a c < 0
  | [], [], c, h, _ => by simp [Lib.compareBytes] at h
  | [], y :: b, [], _, h => by simp [Lib.compareBytes] at h
  | [], y :: b, z :: c, _, _ => by simp [Lib.compareBytes]
  | x :: a, [], c, h, _ => by simp [Lib.compareBytes] at h
  | x :: a, y :: b, [], _, h => by simp [Lib.compareBytes] at h
  | x :: a, y :: b, z :: c, h1, h2 => by
    simp only [Lib.compareBytes] at h1 h2 ⊢
    by_cases hxy : x < y
    · by_cases hyz : y < z
      · rw [if_pos (UInt8.lt_trans hxy hyz)]; decide
      · by_cases hzy : z < y
        · simp [hyz, hzy] at h2
        · have e : y = z := UInt8.le_antisymm (UInt8.not_lt.1 hzy) (UInt8.not_lt.1 hyz)
          rw [← e, if_pos hxy]; decide
    · by_cases hyx : y < x
      · simp [hxy, hyx] at h1
      · have e : x = y := UInt8.le_antisymm (UInt8.not_lt.1 hyx) (UInt8.not_lt.1 hxy)
        subst e
        simp only [hxy, if_false] at h1
        by_cases hyz : x < z
        · rw [if_pos hyz]; decide
        · by_cases hzy : z < x
          · simp [hyz, hzy] at h2
          · simp only [hyz, hzy, if_false] at h2 ⊢
            exact cmpB_trans a b c h1 h2
/-- at most, by bytes -/
def leB (a b : List UInt8) : Bool := decide (Lib.compareBytes a b ≤ 0)
theorem leB_trans (a b c : List UInt8) (h1 : leB a b = true) (h2 : leB b c = true) : leB a c = true := by
  unfold leB at *
  simp only [decide_eq_true_eq] at *
  rcases Int.lt_or_eq_of_le h1 with h1 | h1
  · rcases Int.lt_or_eq_of_le h2 with h2 | h2
    · exact Int.le_of_lt (cmpB_trans a b c h1 h2)
    · rw [← cmpB_eq b c h2]; exact Int.le_of_lt h1
  · rw [cmpB_eq a b h1]; exact h2
theorem leB_total (a b : List UInt8) : (leB a b || leB b a) = true := by
  unfold leB
  rcases cmpB_three a b with ⟨h1, h2⟩ | ⟨h1, h2⟩ | ⟨h1, h2⟩ <;> simp [h1, h2]
theorem leB_anti (a b : List UInt8) (h1 : leB a b = true) (h2 : leB b a = true) : a = b := by
  unfold leB at *
  simp only [decide_eq_true_eq] at *
  rcases cmpB_three a b with ⟨h3, h4⟩ | ⟨h3, h4⟩ | ⟨h3, h4⟩
  · omega
  · exact cmpB_eq a b h3
  · omega
/-- the list in the order of its texts -/
def srtT (L : List (List UInt8)) : List (List UInt8) := L.mergeSort leB
theorem srtT_len (L : List (List UInt8)) : (srtT L).length = L.length := List.length_mergeSort L
theorem srtT_perm (L : List (List UInt8)) : (srtT L).Perm L := List.mergeSort_perm L leB
theorem srtT_sorted (L : List (List UInt8)) : (srtT L).Pairwise (fun a b => leB a b = true) := List.pairwise_mergeSort leB_trans leB_total L
/-- there is but one list in order -/
theorem srt_one {A B : List (List UInt8)} (hp : A.Perm B) (hA : A.Pairwise (fun a b => leB a b = true)) (hB : B.Pairwise (fun a b => leB a b = true)) : A = B :=
  List.Perm.eq_of_pairwise (fun a b _ _ h1 h2 => leB_anti a b h1 h2) hA hB hp
theorem srt_eq {A L : List (List UInt8)} (hp : A.Perm L) (hA : A.Pairwise (fun a b => leB a b = true)) : A = srtT L :=
  srt_one (hp.trans (srtT_perm L).symm) hA (srtT_sorted L)
end Go.Proofs.YtekjbpemaohipaaGreatDoor
namespace Go.Proofs
open Go.Shelf
def Tryz.lsn_ren : Go.Shelf.Ren := ⟨fun | 6 => 78 | 15 => 80 | 14 => 90 | 28 => 99 | 29 => 100 | 20 => 108 | 21 => 109 | 22 => 110 | 23 => 111 | 24 => 112 | 25 => 113 | 26 => 114 | 27 => 115 | 46 => 124 | 47 => 117 | 48 => 118 | 49 => 125 | 50 => 126 | 57 => 128 | n => n, fun | 22 => 102 | 24 => 107 | 25 => 108 | 3 => 3 | 39 => 128 | 0 => 0 | 53 => 143 | 55 => 30 | 4 => 4 | 46 => 136 | 45 => 135 | 50 => 140 | 5 => 5 | 9 => 9 | 66 => 158 | 70 => 162 | 76 => 168 | 77 => 169 | n => n, fun | n => n⟩
theorem Tryz.lsn : Go.Proofs.SlLaysF0.n6 Tryz.prog Tryz.lsn_ren := {
  mixed := by kernel_rfl
  f6 := ⟨Tryz.f78.name, by decide, Tryz.func78.trans (congrArg some (by kernel_rfl))⟩
  f14 := ⟨Tryz.f90.name, by decide, Tryz.func90.trans (congrArg some (by kernel_rfl))⟩
  f15 := Tryz.func80.trans (congrArg some (by kernel_rfl))
  f20 := ⟨Tryz.f108.name, by decide, Tryz.func108.trans (congrArg some (by kernel_rfl))⟩
  f21 := ⟨Tryz.f109.name, by decide, Tryz.func109.trans (congrArg some (by kernel_rfl))⟩
  f22 := ⟨Tryz.f110.name, by decide, Tryz.func110.trans (congrArg some (by kernel_rfl))⟩
  f23 := ⟨Tryz.f111.name, by decide, Tryz.func111.trans (congrArg some (by kernel_rfl))⟩
  f24 := ⟨Tryz.f112.name, by decide, Tryz.func112.trans (congrArg some (by kernel_rfl))⟩
  f25 := ⟨Tryz.f113.name, by decide, Tryz.func113.trans (congrArg some (by kernel_rfl))⟩
  f26 := ⟨Tryz.f114.name, by decide, Tryz.func114.trans (congrArg some (by kernel_rfl))⟩
  f27 := ⟨Tryz.f115.name, by decide, Tryz.func115.trans (congrArg some (by kernel_rfl))⟩
  f28 := Tryz.func99.trans (congrArg some (by kernel_rfl))
  f29 := Tryz.func100.trans (congrArg some (by kernel_rfl))
  f46 := ⟨Tryz.f124.name, by decide, Tryz.func124.trans (congrArg some (by kernel_rfl))⟩
  f47 := Tryz.func117.trans (congrArg some (by kernel_rfl))
  f48 := Tryz.func118.trans (congrArg some (by kernel_rfl))
  f49 := ⟨Tryz.f125.name, by decide, Tryz.func125.trans (congrArg some (by kernel_rfl))⟩
  f50 := ⟨Tryz.f126.name, by decide, Tryz.func126.trans (congrArg some (by kernel_rfl))⟩
  f57 := ⟨Tryz.f128.name, by decide, Tryz.func128.trans (congrArg some (by kernel_rfl))⟩
  t0 := Tryz.underlying0
  a0 := Tryz.isAgg0
  z0 := Tryz.sizeOf0
  v0 := Tryz.zeroValue0
  t3 := Tryz.underlying3
  a3 := Tryz.isAgg3
  z3 := Tryz.sizeOf3
  v3 := Tryz.zeroValue3
  t4 := Tryz.underlying4
  a4 := Tryz.isAgg4
  z4 := Tryz.sizeOf4
  v4 := Tryz.zeroValue4
  t5 := Tryz.underlying5
  a5 := Tryz.isAgg5
  z5 := Tryz.sizeOf5
  v5 := Tryz.zeroValue5
  t9 := Tryz.underlying9
  a9 := Tryz.isAgg9
  z9 := Tryz.sizeOf9
  v9 := Tryz.zeroValue9
  t22 := Tryz.underlying102
  a22 := Tryz.isAgg102
  z22 := Tryz.sizeOf102
  v22 := Tryz.zeroValue102
  t25 := Tryz.underlying108
  a25 := Tryz.isAgg108
  z25 := Tryz.sizeOf108
  v25 := Tryz.zeroValue108
  t39 := Tryz.underlying128
  a39 := Tryz.isAgg128
  z39 := Tryz.sizeOf128
  v39 := Tryz.zeroValue128
  t45 := Tryz.underlying135
  a45 := Tryz.isAgg135
  z45 := Tryz.sizeOf135
  v45 := Tryz.zeroValue135
  t46 := Tryz.underlying136
  a46 := Tryz.isAgg136
  z46 := Tryz.sizeOf136
  v46 := Tryz.zeroValue136
  t50 := Tryz.underlying140
  a50 := Tryz.isAgg140
  z50 := Tryz.sizeOf140
  v50 := Tryz.zeroValue140
  t53 := Tryz.underlying143
  a53 := Tryz.isAgg143
  z53 := Tryz.sizeOf143
  v53 := Tryz.zeroValue143
  t55 := Tryz.underlying30
  a55 := Tryz.isAgg30
  z55 := Tryz.sizeOf30
  v55 := Tryz.zeroValue30
  t66 := Tryz.underlying158
  a66 := Tryz.isAgg158
  z66 := Tryz.sizeOf158
  v66 := Tryz.zeroValue158
  t70 := Tryz.underlying162
  a70 := Tryz.isAgg162
  z70 := Tryz.sizeOf162
  v70 := Tryz.zeroValue162
  t76 := Tryz.underlying168
  a76 := Tryz.isAgg168
  z76 := Tryz.sizeOf168
  v76 := Tryz.zeroValue168
  t77 := Tryz.underlying169
  a77 := Tryz.isAgg169
  z77 := Tryz.sizeOf169
  v77 := Tryz.zeroValue169 }
end Go.Proofs
namespace Go.Proofs.YtekjbpemaohipaaGreatDoor
open Go.RowKit Go.Shelf Go.Sort
theorem flat_get (L : List (List UInt8)) (j : Nat) (hj : j < L.length * 10) : (nms L)[j]? = some ((flatK nm 10 L.toArray)[j]!) := by
  have hq : j / 10 < L.length := by omega
  have hm : j % 10 < 10 := Nat.mod_lt _ (by omega)
  rw [get_flatK nm 10 L.toArray j (by simpa using hj)]
  have e := nms_get L (j / 10) (j % 10) hm
  rw [show j / 10 * 10 + j % 10 = j by omega] at e
  rw [e, List.getElem?_eq_getElem hq]
  simp only [Option.bind_some]
  have hl : (nm L[j / 10]).length = 10 := rfl
  rw [show (L.toArray)[j / 10]! = L[j / 10] by simp [hq], List.getElem?_eq_getElem (by rw [hl]; exact hm), getElem!_pos _ _ (by rw [hl]; exact hm)]
theorem sort_own {W : World} {B g c n q : Nat} {x : List UInt8} {L D : List (List UInt8)} {os : Array Obj} (h : W.ownsRow B 107 10 (.slice (some ⟨g, 0, none⟩) (n + 1) c) (n + 1) (nms (x :: L))) (hD : D.length = n) :
    (sortWorldK nm 10 W g 10 q D.toArray os).ownsRow B 107 10 (.slice (some ⟨g, 0, none⟩) (n + 1) c) (n + 1) (nms (x :: D)) ∧ W.grownBy (sortWorldK nm 10 W g 10 q D.toArray os) (some g) := by
  rcases h.2 with ⟨h', _⟩ | ⟨g', cap', cur, h', hb, hg, hnc, hcm, hcs, htake⟩
  · cases h'
  injection h' with a1 _ a3
  injection a1 with a1
  injection a1 with a1
  subst a1 a3
  have hlt := lt_of_get3 hg
  have hheap : (sortWorldK nm 10 W g 10 q D.toArray os).heap = W.heap.modify g (onCells (putCells id 10 (flatK nm 10 D.toArray))) ++ os := rfl
  refine ⟨⟨by rw [nms_len, List.length_cons, hD], .inr ⟨g, c, putCells id 10 (flatK nm 10 D.toArray) cur, rfl, hb, ?_, hnc, hcm, by simp [putCells, hcs], ?_⟩⟩, rfl, rfl, rfl, ?_, ?_⟩
  · rw [hheap, Array.getElem?_append_left (by simpa using hlt), Array.getElem?_modify, if_pos rfl, hg]
    rfl
  · apply List.ext_getElem?
    intro j
    have hcur : ∀ i, i < (n + 1) * 10 → cur[i]? = (nms (x :: L))[i]? := fun i hi => by
      rw [← htake, List.getElem?_take_of_lt hi, Array.getElem?_toList]
    by_cases hj : j < (n + 1) * 10
    · rw [List.getElem?_take_of_lt hj, Array.getElem?_toList]
      have hjc : j < cur.size := by omega
      unfold putCells
      rw [Array.getElem?_mapIdx, Array.getElem?_eq_getElem hjc]
      simp only [Option.map_some, size_flatK, List.size_toArray, hD]
      by_cases h10 : 10 ≤ j
      · rw [if_pos ⟨h10, by omega⟩]
        have e1 : nms (x :: D) = nm x ++ nms D := rfl
        have e2 : (nm x).length = 10 := rfl
        rw [e1, List.getElem?_append_right (by rw [e2]; exact h10), e2, flat_get D (j - 10) (by omega)]
        rfl
      · rw [if_neg (fun e => h10 e.1)]
        have e3 := hcur j hj
        rw [Array.getElem?_eq_getElem hjc] at e3
        have e1 : nms (x :: D) = nm x ++ nms D := rfl
        have e4 : nms (x :: L) = nm x ++ nms L := rfl
        have e2 : (nm x).length = 10 := rfl
        rw [e3, e1, e4, List.getElem?_append_left (by rw [e2]; omega), List.getElem?_append_left (by rw [e2]; omega)]
    · rw [List.getElem?_eq_none (by rw [List.length_take]; omega), List.getElem?_eq_none (by rw [nms_len, List.length_cons, hD]; omega)]
  · rw [hheap]
    simp
  · intro k hk hne
    rw [hheap, Array.getElem?_append_left (by simpa using hk), Array.getElem?_modify, if_neg (fun e => hne (by rw [e]))]
theorem swoB : SWO (ltOf Lib.compareBytes) where
  irrefl x := by simp [ltOf, cmpB_self]
  trans x y z h1 h2 := by
    simp only [ltOf, decide_eq_true_eq] at *
    exact cmpB_trans x y z h1 h2
  ntrans x y z h1 h2 := by
    have k1 : leB y x = true := by
      unfold leB
      simp only [ltOf, decide_eq_false_iff_not] at h1
      rcases cmpB_three x y with ⟨a, b⟩ | ⟨a, b⟩ | ⟨a, b⟩ <;> simp [b] <;> omega
    have k2 : leB z y = true := by
      unfold leB
      simp only [ltOf, decide_eq_false_iff_not] at h2
      rcases cmpB_three y z with ⟨a, b⟩ | ⟨a, b⟩ | ⟨a, b⟩ <;> simp [b] <;> omega
    have k3 := leB_trans z y x k2 k1
    unfold leB at k3
    simp only [ltOf, decide_eq_false_iff_not, decide_eq_true_eq] at *
    rcases cmpB_three x z with ⟨a, b⟩ | ⟨a, b⟩ | ⟨a, b⟩ <;> omega
theorem grow_own {W : World} {B n q : Nat} {e : TypeId} {sz : Nat} {v : Value} {xs : List Value} {os : Array Obj} (h : W.ownsRow B e sz v n xs) (row : Option Nat) : (grow (Sort.ahead W q) os).ownsRow B e sz v n xs ∧ W.grownBy (grow (Sort.ahead W q) os) row := by
  have hg : ∀ r, W.grownBy (grow (Sort.ahead W q) os) r := fun r => ⟨rfl, rfl, rfl, by simp [grow, Sort.ahead], fun k hk _ => by
    show (W.heap ++ os)[k]? = _
    rw [Array.getElem?_append_left hk]⟩
  refine ⟨h.kept (hg none) ?_, hg row⟩
  generalize v.ownBlock = b
  cases b with
  | none => exact .inl rfl
  | some b => exact .inr (by intro e; cases e)
theorem cmpLays (blk off size : Nat) (w : World) : CmpLays Tryz.prog 62 #[] nm 10 Lib.compareBytes blk off size w := fun _ _ _ _ x y => by
  refine (byText_any x y _).mono ?_
  rintro e w' ⟨rfl, rfl⟩
  exact ⟨rfl, 0, _, by rw [alloc_eq_grow, alloc_eq_grow, grow_grow]; rfl⟩
theorem sort_ok : SortOK srtT := fun L x n g c B ad W hL hn ho had => by
  have eg : ∀ args w, (callFunc 62 args).run Tryz.prog w = .ok (.enter 62 args) w := enters_of Tryz.func62 (by kernel_rfl) rfl
  have h1 : ∀ t : List UInt8, ∀ v ∈ nm t, v.oneCell' = true := fun t v hv => by
    simp only [nm, List.mem_cons, List.not_mem_nil, or_false] at hv
    rcases hv with rfl | rfl | rfl | rfl | rfl | rfl | rfl | rfl | rfl | rfl <;> rfl
  have hgl : g < W.heap.size := (ho.lt g rfl).2
  rcases had with ⟨h0, rfl⟩ | rfl
  · subst h0
    obtain rfl := List.length_eq_zero_iff.1 hL
    have hH : HoldsK nm 10 W g 0 (#[] : Array (List UInt8)) := fun j hj => by simp at hj
    have hcon := AnyQ.slices_SortFunc Tryz.lsn 10 Tryz.isAgg107 Tryz.sizeOf107 nm (fun _ => rfl) h1 Lib.compareBytes swoB 62 #[] g 0 (c - 1) #[] W eg (cmpLays g 0 _ W) hH hgl (by simp)
    refine Calls.mono hcon ?_
    rintro e w' ⟨rfl, d', q, os, hp, -, rfl⟩
    have hd : d' = #[] := Array.eq_empty_of_size_eq_zero (by simpa using hp.1)
    subst hd
    have e1 : sortWorldK nm 10 W g 0 q (#[] : Array (List UInt8)) os = grow (Sort.ahead W q) os := by
      unfold sortWorldK
      rw [putRowK_self nm 10 (Sort.ahead W q) g 0 #[] hH]
    have e6 : srtT [] = [] := List.length_eq_zero_iff.1 (srtT_len [])
    rw [e1, e6]
    exact ⟨rfl, grow_own ho _⟩
  · have hH : HoldsK nm 10 W g 10 L.toArray := fun j hj => by
      rw [size_flatK, List.size_toArray, hL] at hj
      refine ⟨?_, ho.frozenAt _⟩
      rw [ho.cellAt (10 + j) (by omega)]
      have e1 : nms (x :: L) = nm x ++ nms L := rfl
      have e2 : (nm x).length = 10 := rfl
      rw [e1, List.getElem?_append_right (by rw [e2]; omega), e2, Nat.add_sub_cancel_left, flat_get L j (by omega)]
      rfl
    have hcon := AnyQ.slices_SortFunc Tryz.lsn 10 Tryz.isAgg107 Tryz.sizeOf107 nm (fun _ => rfl) h1 Lib.compareBytes swoB 62 #[] g 10 (c - 1) L.toArray W eg (cmpLays g 10 _ W) hH hgl (by rw [List.size_toArray]; omega)
    rw [List.size_toArray, hL] at hcon
    refine Calls.mono hcon ?_
    rintro e w' ⟨rfl, d', q, os, hp, hs, rfl⟩
    have hsz : d'.size = n := by have := hp.1; simp at this; omega
    have hperm : d'.toList.Perm L := by
      have h2 := hp.2.2
      rw [show d'.extract 0 n = d' by rw [← hsz]; simp, show L.toArray.extract 0 n = L.toArray by rw [← hL]; simp] at h2
      simpa using h2
    have hpw : d'.toList.Pairwise (fun a b => leB a b = true) := by
      rw [List.pairwise_iff_getElem]
      intro i j hi hj hij
      have hi' : i < d'.size := by simpa using hi
      have hj' : j < d'.size := by simpa using hj
      have h3 := hs i j (Nat.zero_le _) hij (by omega)
      rw [getElem!_pos d' i hi', getElem!_pos d' j hj'] at h3
      simp only [ltOf, decide_eq_false_iff_not] at h3
      unfold leB
      simp only [Array.getElem_toList, decide_eq_true_eq]
      rcases cmpB_three d'[i] d'[j] with ⟨a, b⟩ | ⟨a, b⟩ | ⟨a, b⟩ <;> omega
    have hsrt := srt_eq hperm hpw
    have hD : (srtT L).length = n := by rw [srtT_len, hL]
    have e5 : d' = (srtT L).toArray := by rw [← hsrt]
    rw [e5]
    exact ⟨rfl, sort_own ho hD⟩
end Go.Proofs.YtekjbpemaohipaaGreatDoor
namespace Go.Proofs.YtekjbpemaohipaaGreatDoor
open Go.RowKit Go.Shelf Go.Sort
/-- a line: where it lies, and its texts -/
structure LNE where
  g : Nat
  c : Nat
  S : List (List UInt8)
def LNE.v (x : LNE) : Value := .slice (some ⟨x.g, 0, none⟩) x.S.length x.c
def NM (W : World) (g o : Nat) (t : List UInt8) : Prop := W.cell? ⟨g, o, none⟩ = some (.string ⟨t.toArray⟩) ∧ W.cell? ⟨g, o + 1, none⟩ = some (.int .i64 (t.length : Int)) ∧ W.cell? ⟨g, o + 2, none⟩ = some (.int .u64 (FW t 0 : Int)) ∧ W.cell? ⟨g, o + 3, none⟩ = some (.int .u64 (FW t 1 : Int)) ∧ W.cell? ⟨g, o + 4, none⟩ = some (.int .u64 (FW t 2 : Int)) ∧ W.cell? ⟨g, o + 5, none⟩ = some (.int .u64 (FW t 3 : Int)) ∧ W.cell? ⟨g, o + 6, none⟩ = some (.int .u64 (OW t 0 : Int)) ∧ W.cell? ⟨g, o + 7, none⟩ = some (.int .u64 (OW t 1 : Int)) ∧ W.cell? ⟨g, o + 8, none⟩ = some (.int .u64 (OW t 2 : Int)) ∧ W.cell? ⟨g, o + 9, none⟩ = some (.int .u64 (OW t 3 : Int))
def LNER (w : World) (x : LNE) : Prop := (∀ W, Below w.heap.size w W → ∀ k t, x.S[k]? = some t → NM W x.g (k * 10) t) ∧ x.S.length ≤ 2000000
theorem nm_all {W : World} {B g n cp j : Nat} {S : List (List UInt8)} {t : List UInt8} (h : W.ownsRow B 107 10 (.slice (some ⟨g, 0, none⟩) n cp) n (nms S)) (ht : S[j]? = some t) : NM W g (j * 10) t := by
  have hg : ∀ m, m < 10 → W.cell? ⟨g, j * 10 + m, none⟩ = (nm t)[m]? := fun m hm => by
    have hc := h.cells (g := g) rfl (j * 10 + m)
    have h1 := nms_get S j m hm
    rw [ht] at h1
    have h2 : (nms S)[j * 10 + m]? = (nm t)[m]? := h1
    obtain ⟨v, hv⟩ : ∃ v, (nm t)[m]? = some v := ⟨_, List.getElem?_eq_getElem (by show m < 10; exact hm)⟩
    rw [hv]
    have h4 := hc v (by rw [h2, hv])
    rw [add_plain, Nat.zero_add] at h4
    exact h4
  exact ⟨hg 0 (by omega), hg 1 (by omega), hg 2 (by omega), hg 3 (by omega), hg 4 (by omega), hg 5 (by omega), hg 6 (by omega), hg 7 (by omega), hg 8 (by omega), hg 9 (by omega)⟩
theorem LNER_own {W : World} {B : Nat} {x : LNE} (h : W.ownsRow B 107 10 x.v x.S.length (nms x.S)) (hl : x.S.length ≤ 2000000) : LNER W x := ⟨fun _ hX _ _ ht => nm_all (own_belQ h hX) ht, hl⟩
theorem LNER.later {w W : World} {x : LNE} (h : LNER w x) (hb : Below w.heap.size w W) : LNER W x := ⟨fun X hX k t ht => h.1 X (bel0 hb hX) k t ht, h.2⟩
theorem grow_below (w : World) (os : Array Obj) : Below w.heap.size w (grow w os) := ⟨rfl, rfl, rfl, by simp, fun k hk => by
  show (w.heap ++ os)[k]? = _
  rw [Array.getElem?_append_left hk]⟩
/-- the order of lines -/
def cmpLn : List (List UInt8) → List (List UInt8) → Int
  | [], [] => 0
  | [], _ :: _ => -1
  | _ :: _, [] => 1
  | a :: A, b :: B => if Lib.compareBytes a b = 0 then cmpLn A B else Lib.compareBytes a b
theorem cmpLn_step {A B : List (List UInt8)} {k : Nat} {a b : List UInt8} (ha : A[k]? = some a) (hb : B[k]? = some b) : cmpLn (A.drop k) (B.drop k) = if Lib.compareBytes a b = 0 then cmpLn (A.drop (k + 1)) (B.drop (k + 1)) else Lib.compareBytes a b := by
  obtain ⟨h1, e1⟩ := List.getElem?_eq_some_iff.1 ha
  obtain ⟨h2, e2⟩ := List.getElem?_eq_some_iff.1 hb
  rw [List.drop_eq_getElem_cons h1, e1, List.drop_eq_getElem_cons h2, e2]
  rfl
set_option maxRecDepth 100000 in
set_option maxHeartbeats 4000000 in
theorem cmpF_any (x y : LNE) (w : World) (hx : LNER w x) (hy : LNER w y) : Calls Tryz.prog 61 #[x.v, y.v, .func (.func 62) #[] #[]] w fun e w' => e = .returned (.int .i64 (cmpLn x.S y.S)) ∧ ∃ os, w' = grow w os := by
  obtain ⟨gx, cx, A⟩ := x
  obtain ⟨gy, cy, B⟩ := y
  obtain ⟨hx1, hx2⟩ := hx
  obtain ⟨hy1, hy2⟩ := hy
  simp only at hx1 hx2 hy1 hy2 ⊢
  have HX : Hid (∀ W, Below w.heap.size w W → ∀ k t, A[k]? = some t → NM W gx (k * 10) t) := hx1
  have HY : Hid (∀ W, Below w.heap.size w W → ∀ k t, B[k]? = some t → NM W gy (k * 10) t) := hy1
  obtain ⟨r, hr⟩ : ∃ r, cmpLn A B = r := ⟨_, rfl⟩
  rw [hr]
  have HR : Hid (cmpLn (A.drop 0) (B.drop 0) = r) := hr
  clear hx1 hy1 hr
  unfold LNE.v
  simp only
  go_enter Tryz.func61, Tryz.ntmps61
  go_wp2_with fail
  go_loopw [13] (fun vi wr => ∃ k : Nat, vi = .int .i64 k ∧ k ≤ A.length ∧ k ≤ B.length ∧ Hid (cmpLn (A.drop k) (B.drop k) = r) ∧ Hid (∃ os, wr = grow w os)) (fun vi _ => A.length - (intOf vi).toNat)
  case atStart => exact ⟨0, rfl, Nat.zero_le _, Nat.zero_le _, HR, ⟨#[], by rw [grow_empty]⟩⟩
  case round =>
    clear HR
    obtain ⟨k, rfl, hk, hkb, hcm, hos⟩ := hrel
    have hBr : Below w.heap.size w wr := by
      obtain ⟨os, e⟩ := hos.out
      rw [e]
      exact grow_below w os
    by_cases hlt : k < A.length
    · have j1 : (k : Int) < (A.length : Int) := by omega
      have j0 : (0 : Int) ≤ (k : Int) := by omega
      obtain ⟨a, ha⟩ : ∃ a, A[k]? = some a := ⟨_, List.getElem?_eq_getElem hlt⟩
      obtain ⟨p0, p1, p2, p3, p4, p5, p6, p7, p8, p9⟩ := HX.out wr hBr k a ha
      by_cases hlb : k < B.length
      · have j2 : (k : Int) < (B.length : Int) := by omega
        have j3 : ¬ (B.length : Int) ≤ (k : Int) := by omega
        obtain ⟨b, hb⟩ : ∃ b, B[k]? = some b := ⟨_, List.getElem?_eq_getElem hlb⟩
        have hst := cmpLn_step ha hb
        rw [hcm.out] at hst
        obtain ⟨wa, hwa⟩ : ∃ wa, wr.alloc (.cells #[.string ⟨a.toArray⟩, .int .i64 (a.length : Int), .int .u64 (FW a 0 : Int), .int .u64 (FW a 1 : Int), .int .u64 (FW a 2 : Int), .int .u64 (FW a 3 : Int), .int .u64 (OW a 0 : Int), .int .u64 (OW a 1 : Int), .int .u64 (OW a 2 : Int), .int .u64 (OW a 3 : Int)] 107 (0, 0)) = wa := ⟨_, rfl⟩
        have hal : Below wr.heap.size wr wa := by rw [← hwa]; exact belA (Below.refl _ _) _
        obtain ⟨q0, q1, q2, q3, q4, q5, q6, q7, q8, q9⟩ := HY.out wa (bel0 hBr hal) k b hb
        have hga : wa.heap[wr.heap.size]? = some (.cells #[.string ⟨a.toArray⟩, .int .i64 (a.length : Int), .int .u64 (FW a 0 : Int), .int .u64 (FW a 1 : Int), .int .u64 (FW a 2 : Int), .int .u64 (FW a 3 : Int), .int .u64 (OW a 0 : Int), .int .u64 (OW a 1 : Int), .int .u64 (OW a 2 : Int), .int .u64 (OW a 3 : Int)] 107 (0, 0)) := by rw [← hwa]; exact alloc_get _ _
        obtain ⟨wb, hwb⟩ : ∃ wb, wa.alloc (.cells #[.string ⟨b.toArray⟩, .int .i64 (b.length : Int), .int .u64 (FW b 0 : Int), .int .u64 (FW b 1 : Int), .int .u64 (FW b 2 : Int), .int .u64 (FW b 3 : Int), .int .u64 (OW b 0 : Int), .int .u64 (OW b 1 : Int), .int .u64 (OW b 2 : Int), .int .u64 (OW b 3 : Int)] 107 (0, 0)) = wb := ⟨_, rfl⟩
        have hbl : Below wa.heap.size wa wb := by rw [← hwb]; exact belA (Below.refl _ _) _
        have hgb : wb.heap[wa.heap.size]? = some (.cells #[.string ⟨b.toArray⟩, .int .i64 (b.length : Int), .int .u64 (FW b 0 : Int), .int .u64 (FW b 1 : Int), .int .u64 (FW b 2 : Int), .int .u64 (FW b 3 : Int), .int .u64 (OW b 0 : Int), .int .u64 (OW b 1 : Int), .int .u64 (OW b 2 : Int), .int .u64 (OW b 3 : Int)] 107 (0, 0)) := by rw [← hwb]; exact alloc_get _ _
        have d0 := (cells_block (keepblk3 hbl hga)).1
        have d1 := (cells_block hgb).1
        have HOS : Hid (∀ o1 o2, ∃ os, ((wb.alloc o1).alloc o2) = grow w os) := fun o1 o2 => by
          obtain ⟨os, e⟩ := hos.out
          exact ⟨os ++ #[.cells #[.string ⟨a.toArray⟩, .int .i64 (a.length : Int), .int .u64 (FW a 0 : Int), .int .u64 (FW a 1 : Int), .int .u64 (FW a 2 : Int), .int .u64 (FW a 3 : Int), .int .u64 (OW a 0 : Int), .int .u64 (OW a 1 : Int), .int .u64 (OW a 2 : Int), .int .u64 (OW a 3 : Int)] 107 (0, 0)] ++ #[.cells #[.string ⟨b.toArray⟩, .int .i64 (b.length : Int), .int .u64 (FW b 0 : Int), .int .u64 (FW b 1 : Int), .int .u64 (FW b 2 : Int), .int .u64 (FW b 3 : Int), .int .u64 (OW b 0 : Int), .int .u64 (OW b 1 : Int), .int .u64 (OW b 2 : Int), .int .u64 (OW b 3 : Int)] 107 (0, 0)] ++ #[o1] ++ #[o2], by rw [← hwb, ← hwa, e, alloc_eq_grow, alloc_eq_grow, alloc_eq_grow, alloc_eq_grow, grow_grow, grow_grow, grow_grow, grow_grow]; simp only [Array.append_assoc]⟩
        have HCM : Hid (Calls Tryz.prog 62 #[.agg #[.string ⟨a.toArray⟩, .int .i64 (a.length : Int), .int .u64 (FW a 0 : Int), .int .u64 (FW a 1 : Int), .int .u64 (FW a 2 : Int), .int .u64 (FW a 3 : Int), .int .u64 (OW a 0 : Int), .int .u64 (OW a 1 : Int), .int .u64 (OW a 2 : Int), .int .u64 (OW a 3 : Int)], .agg #[.string ⟨b.toArray⟩, .int .i64 (b.length : Int), .int .u64 (FW b 0 : Int), .int .u64 (FW b 1 : Int), .int .u64 (FW b 2 : Int), .int .u64 (FW b 3 : Int), .int .u64 (OW b 0 : Int), .int .u64 (OW b 1 : Int), .int .u64 (OW b 2 : Int), .int .u64 (OW b 3 : Int)]] wb fun e w' => e = .returned (.int .i64 (Lib.compareBytes a b)) ∧ ∃ os, w' = grow w os) := by
          refine (byText_any a b wb).mono ?_
          rintro e w' ⟨rfl, rfl⟩
          exact ⟨rfl, HOS.out _ _⟩
        obtain ⟨v, hv⟩ : ∃ v, Lib.compareBytes a b = v := ⟨_, rfl⟩
        rw [hv] at hst HCM
        have HST : Hid (r = if v = 0 then cmpLn (A.drop (k + 1)) (B.drop (k + 1)) else v) := hst
        clear hst hv ha hb hga hgb hal hbl HOS hcm hos
        by_cases hv0 : v = 0
        · subst hv0
          go_wp2_with fail
          refine HCM.out.mono ?_
          rintro e W1 ⟨rfl, hos1⟩
          have HO1 : Hid (∃ os, W1 = grow w os) := hos1
          have HX2 : Hid (cmpLn (A.drop (k + 1)) (B.drop (k + 1)) = r) := by
            have h9 := HST.out
            simp only [if_true] at h9
            exact h9.symm
          clear hos1 hwa hwb p0 p1 p2 p3 p4 p5 p6 p7 p8 p9 q0 q1 q2 q3 q4 q5 q6 q7 q8 q9 d0 d1
          go_wp2_with fail
          go_roundw
          case rel => exact ⟨k + 1, by go_num, by omega, by omega, HX2, HO1⟩
          case measure => simp [intOf]; omega
        · have bv : (v != 0) = true := by rw [bne_iff_ne]; exact hv0
          have HX2 : Hid (v = r) := by
            have := HST.out
            rw [if_neg hv0] at this
            exact this.symm
          go_wp2_with fail
          refine HCM.out.mono ?_
          rintro e W1 ⟨rfl, hos1⟩
          clear hwa hwb p0 p1 p2 p3 p4 p5 p6 p7 p8 p9 q0 q1 q2 q3 q4 q5 q6 q7 q8 q9 d0 d1
          go_wp2_with fail
          go_ret
          exact ⟨by rw [← HX2.out]; rfl, hos1⟩
      · have j3 : (B.length : Int) ≤ (k : Int) := by omega
        have HX2 : Hid (1 = r) := by
          unfold Hid
          rw [← hcm.out, List.drop_eq_nil_of_le (by omega : B.length ≤ k), List.drop_eq_getElem_cons hlt]
          rfl
        have HO1 : Hid (∀ o, ∃ os, (wr.alloc o) = grow w os) := fun o => by
          obtain ⟨os, e⟩ := hos.out
          exact ⟨_, by rw [e, alloc_eq_grow, grow_grow]⟩
        clear hcm ha hos
        go_wp2_with fail
        go_ret
        exact ⟨by rw [← HX2.out]; rfl, HO1.out _⟩
    · have j1 : ¬ (k : Int) < (A.length : Int) := by omega
      have hA : A.drop k = [] := List.drop_eq_nil_of_le (by omega)
      by_cases hlb : A.length < B.length
      · have j2 : (A.length : Int) < (B.length : Int) := by omega
        have HX2 : Hid (-1 = r) := by
          unfold Hid
          rw [← hcm.out, hA, List.drop_eq_getElem_cons (show k < B.length by omega)]
          rfl
        clear hcm hA
        go_wp2_with fail
        go_ret
        exact ⟨by rw [← HX2.out]; rfl, hos.out⟩
      · have j2 : ¬ (A.length : Int) < (B.length : Int) := by omega
        have HX2 : Hid (0 = r) := by
          unfold Hid
          rw [← hcm.out, hA, List.drop_eq_nil_of_le (by omega : B.length ≤ k)]
          rfl
        clear hcm hA
        go_wp2_with fail
        go_ret
        exact ⟨by rw [← HX2.out]; rfl, hos.out⟩
theorem cmp1_any (x y : LNE) (w : World) (hx : LNER w x) (hy : LNER w y) : Calls Tryz.prog 60 #[x.v, y.v] w fun e w' => e = .returned (.int .i64 (cmpLn x.S y.S)) ∧ ∃ os, w' = grow w os := by
  have H := cmpF_any x y w hx hy
  unfold LNE.v at H ⊢
  generalize cmpLn x.S y.S = r at H ⊢
  go_enter Tryz.func60, Tryz.ntmps60
  go_wp2_with fail
  refine H.mono ?_
  rintro e W1 ⟨rfl, ho⟩
  go_wp2_with fail
  go_ret
  exact ⟨rfl, ho⟩
theorem cmpLn_self : ∀ A, cmpLn A A = 0
  | [] => rfl
  | a :: A => by simp [cmpLn, cmpB_self, cmpLn_self A]
theorem cmpLn_eq : ∀ A B, cmpLn A B = 0 → A = B
  | [], [], _ => rfl
  | [], _ :: _, h => by simp [cmpLn] at h
  | _ :: _, [], h => by simp [cmpLn] at h
  | a :: A, b :: B, h => by
    unfold cmpLn at h
    split at h
    · rename_i h0
      rw [cmpB_eq a b h0, cmpLn_eq A B h]
    · rename_i h0
      exact absurd h h0
theorem cmpLn_three : ∀ A B, (cmpLn A B < 0 ∧ 0 < cmpLn B A) ∨ (cmpLn A B = 0 ∧ cmpLn B A = 0) ∨ (0 < cmpLn A B ∧ cmpLn B A < 0)
  | [], [] => .inr (.inl ⟨rfl, rfl⟩)
  | [], _ :: _ => .inl ⟨by simp [cmpLn], by simp [cmpLn]⟩
  | _ :: _, [] => .inr (.inr ⟨by simp [cmpLn], by simp [cmpLn]⟩)
  | a :: A, b :: B => by
    unfold cmpLn
    rcases cmpB_three a b with ⟨h1, h2⟩ | ⟨h1, h2⟩ | ⟨h1, h2⟩
    · rw [if_neg (by omega), if_neg (by omega)]; left; omega
    · rw [if_pos h1, if_pos h2]; exact cmpLn_three A B
    · rw [if_neg (by omega), if_neg (by omega)]; right; right; omega
theorem cmpLn_trans : ∀ A B C, cmpLn A B < 0 → cmpLn B C < 0 → cmpLn A C < 0
  | [], [], C, h1, _ => by simp [cmpLn] at h1
  | [], _ :: _, [], _, h2 => by simp [cmpLn] at h2
  | [], _ :: _, _ :: _, _, _ => by simp [cmpLn]
  | _ :: _, [], _, h1, _ => by simp [cmpLn] at h1
  | _ :: _, _ :: _, [], _, h2 => by simp [cmpLn] at h2
  | a :: A, b :: B, c :: C, h1, h2 => by
    unfold cmpLn at h1 h2 ⊢
    split at h1
    · rename_i e1
      obtain rfl := cmpB_eq a b e1
      split at h2
      · rename_i e2
        rw [if_pos e2]
        exact cmpLn_trans A B C h1 h2
      · rename_i e2
        rw [if_neg e2]
        exact h2
    · rename_i e1
      split at h2
      · rename_i e2
        obtain rfl := cmpB_eq b c e2
        rw [if_neg e1]
        exact h1
      · have h3 := cmpB_trans a b c h1 h2
        rw [if_neg (by omega)]
        exact h3
theorem swoLn : SWO (ltOf cmpLn) where
  irrefl x := by simp [ltOf, cmpLn_self]
  trans x y z h1 h2 := by
    simp only [ltOf, decide_eq_true_eq] at *
    exact cmpLn_trans x y z h1 h2
  ntrans x y z h1 h2 := by
    simp only [ltOf, decide_eq_false_iff_not] at *
    intro h
    rcases cmpLn_three x y with ⟨a, -⟩ | ⟨a, -⟩ | ⟨-, a⟩
    · exact h1 a
    · have := cmpLn_eq x y a
      subst this
      exact h2 h
    · have := cmpLn_trans y x z a h
      exact h2 this
end Go.Proofs.YtekjbpemaohipaaGreatDoor
namespace Go.Proofs
open Go.Shelf
def Tryz.lsl_ren : Go.Shelf.Ren := ⟨fun | 6 => 59 | 15 => 80 | 14 => 79 | 28 => 99 | 29 => 100 | 20 => 91 | 21 => 92 | 22 => 93 | 23 => 94 | 24 => 95 | 25 => 96 | 26 => 97 | 27 => 98 | 46 => 116 | 47 => 117 | 48 => 118 | 49 => 119 | 50 => 120 | 57 => 127 | n => n, fun | 22 => 101 | 24 => 102 | 25 => 109 | 3 => 3 | 39 => 128 | 0 => 0 | 53 => 143 | 55 => 30 | 4 => 4 | 46 => 136 | 45 => 135 | 50 => 140 | 5 => 5 | 9 => 9 | 66 => 158 | 70 => 162 | 76 => 168 | 77 => 169 | n => n, fun | n => n⟩
theorem Tryz.lsl : Go.Proofs.SlLaysF.n6 Tryz.prog Tryz.lsl_ren := {
  mixed := by kernel_rfl
  f6 := ⟨Tryz.f59.name, by decide, Tryz.func59.trans (congrArg some (by kernel_rfl))⟩
  f14 := ⟨Tryz.f79.name, by decide, Tryz.func79.trans (congrArg some (by kernel_rfl))⟩
  f15 := Tryz.func80.trans (congrArg some (by kernel_rfl))
  f20 := ⟨Tryz.f91.name, by decide, Tryz.func91.trans (congrArg some (by kernel_rfl))⟩
  f21 := ⟨Tryz.f92.name, by decide, Tryz.func92.trans (congrArg some (by kernel_rfl))⟩
  f22 := ⟨Tryz.f93.name, by decide, Tryz.func93.trans (congrArg some (by kernel_rfl))⟩
  f23 := ⟨Tryz.f94.name, by decide, Tryz.func94.trans (congrArg some (by kernel_rfl))⟩
  f24 := ⟨Tryz.f95.name, by decide, Tryz.func95.trans (congrArg some (by kernel_rfl))⟩
  f25 := ⟨Tryz.f96.name, by decide, Tryz.func96.trans (congrArg some (by kernel_rfl))⟩
  f26 := ⟨Tryz.f97.name, by decide, Tryz.func97.trans (congrArg some (by kernel_rfl))⟩
  f27 := ⟨Tryz.f98.name, by decide, Tryz.func98.trans (congrArg some (by kernel_rfl))⟩
  f28 := Tryz.func99.trans (congrArg some (by kernel_rfl))
  f29 := Tryz.func100.trans (congrArg some (by kernel_rfl))
  f46 := ⟨Tryz.f116.name, by decide, Tryz.func116.trans (congrArg some (by kernel_rfl))⟩
  f47 := Tryz.func117.trans (congrArg some (by kernel_rfl))
  f48 := Tryz.func118.trans (congrArg some (by kernel_rfl))
  f49 := ⟨Tryz.f119.name, by decide, Tryz.func119.trans (congrArg some (by kernel_rfl))⟩
  f50 := ⟨Tryz.f120.name, by decide, Tryz.func120.trans (congrArg some (by kernel_rfl))⟩
  f57 := ⟨Tryz.f127.name, by decide, Tryz.func127.trans (congrArg some (by kernel_rfl))⟩
  t0 := Tryz.underlying0
  a0 := Tryz.isAgg0
  z0 := Tryz.sizeOf0
  v0 := Tryz.zeroValue0
  t3 := Tryz.underlying3
  a3 := Tryz.isAgg3
  z3 := Tryz.sizeOf3
  v3 := Tryz.zeroValue3
  t4 := Tryz.underlying4
  a4 := Tryz.isAgg4
  z4 := Tryz.sizeOf4
  v4 := Tryz.zeroValue4
  t5 := Tryz.underlying5
  a5 := Tryz.isAgg5
  z5 := Tryz.sizeOf5
  v5 := Tryz.zeroValue5
  t9 := Tryz.underlying9
  a9 := Tryz.isAgg9
  z9 := Tryz.sizeOf9
  v9 := Tryz.zeroValue9
  t22 := Tryz.underlying101
  a22 := Tryz.isAgg101
  z22 := Tryz.sizeOf101
  v22 := Tryz.zeroValue101
  a24 := Tryz.isAgg102
  z24 := Tryz.sizeOf102
  t25 := Tryz.underlying109
  a25 := Tryz.isAgg109
  z25 := Tryz.sizeOf109
  v25 := Tryz.zeroValue109
  t39 := Tryz.underlying128
  a39 := Tryz.isAgg128
  z39 := Tryz.sizeOf128
  v39 := Tryz.zeroValue128
  t45 := Tryz.underlying135
  a45 := Tryz.isAgg135
  z45 := Tryz.sizeOf135
  v45 := Tryz.zeroValue135
  t46 := Tryz.underlying136
  a46 := Tryz.isAgg136
  z46 := Tryz.sizeOf136
  v46 := Tryz.zeroValue136
  t50 := Tryz.underlying140
  a50 := Tryz.isAgg140
  z50 := Tryz.sizeOf140
  v50 := Tryz.zeroValue140
  t53 := Tryz.underlying143
  a53 := Tryz.isAgg143
  z53 := Tryz.sizeOf143
  v53 := Tryz.zeroValue143
  t55 := Tryz.underlying30
  a55 := Tryz.isAgg30
  z55 := Tryz.sizeOf30
  v55 := Tryz.zeroValue30
  t66 := Tryz.underlying158
  a66 := Tryz.isAgg158
  z66 := Tryz.sizeOf158
  v66 := Tryz.zeroValue158
  t70 := Tryz.underlying162
  a70 := Tryz.isAgg162
  z70 := Tryz.sizeOf162
  v70 := Tryz.zeroValue162
  t76 := Tryz.underlying168
  a76 := Tryz.isAgg168
  z76 := Tryz.sizeOf168
  v76 := Tryz.zeroValue168
  t77 := Tryz.underlying169
  a77 := Tryz.isAgg169
  z77 := Tryz.sizeOf169
  v77 := Tryz.zeroValue169 }
end Go.Proofs
namespace Go.Proofs.YtekjbpemaohipaaGreatDoor
open Go.RowKit Go.Shelf Go.Sort
def lvs (X : List LNE) : List Value := X.map LNE.v
theorem sw_grown {α : Type} [Inhabited α] (enc : α → Value) (W : World) (g m : Nat) (dk : Array α) (os : Array Obj) : W.grownBy (sortWorld enc W g 0 m dk os) (some g) := by
  have hheap : (sortWorld enc W g 0 m dk os).heap = W.heap.modify g (onCells (putCells enc 0 dk)) ++ os := rfl
  refine ⟨rfl, rfl, rfl, by rw [hheap]; simp, fun k hk hne => ?_⟩
  rw [hheap, Array.getElem?_append_left (by simpa using hk), Array.getElem?_modify, if_neg (fun e => hne (by rw [e]))]
theorem sw_own {α : Type} [Inhabited α] (enc : α → Value) {W : World} {B g c n m : Nat} {dk : Array α} {os : Array Obj} {xs : List Value} {e : TypeId} (h : W.ownsRow B e 1 (.slice (some ⟨g, 0, none⟩) n c) n xs) (hD : dk.size = n) :
    (sortWorld enc W g 0 m dk os).ownsRow B e 1 (.slice (some ⟨g, 0, none⟩) n c) n (dk.toList.map enc) := by
  rcases h.2 with ⟨h', _⟩ | ⟨g', cap', cur, h', hb, hg, hnc, hcm, hcs, htake⟩
  · cases h'
  injection h' with a1 _ a3
  injection a1 with a1
  injection a1 with a1
  subst a1 a3
  have hlt := lt_of_get3 hg
  have hheap : (sortWorld enc W g 0 m dk os).heap = W.heap.modify g (onCells (putCells enc 0 dk)) ++ os := rfl
  refine ⟨by simp [hD], .inr ⟨g, c, putCells enc 0 dk cur, rfl, hb, ?_, hnc, hcm, by simp [putCells, hcs], ?_⟩⟩
  · rw [hheap, Array.getElem?_append_left (by simpa using hlt), Array.getElem?_modify, if_pos rfl, hg]
    rfl
  · apply List.ext_getElem?
    intro j
    by_cases hj : j < n
    · rw [List.getElem?_take_of_lt (by omega), Array.getElem?_toList]
      have hjc : j < cur.size := by omega
      unfold putCells
      rw [Array.getElem?_mapIdx, Array.getElem?_eq_getElem hjc]
      simp only [Option.map_some]
      rw [if_pos ⟨Nat.zero_le _, by omega⟩, Nat.sub_zero, List.getElem?_map, Array.getElem?_toList, Array.getElem?_eq_getElem (by omega), getElem!_pos dk j (by omega)]
      rfl
    · rw [List.getElem?_eq_none (by rw [List.length_take]; omega), List.getElem?_eq_none (by simp [hD]; omega)]
theorem sort_lines (X : List LNE) (n g c B : Nat) (W : World) (hX : X.length = n) (hn : n ≤ 1000000) (hn0 : 0 < n) (ho : W.ownsRow B 102 1 (.slice (some ⟨g, 0, none⟩) n c) n (lvs X)) (hl : ∀ x ∈ X, W.ownsRow B 107 10 x.v x.S.length (nms x.S) ∧ x.S.length ≤ 2000000) :
    Calls Tryz.prog 59 #[.slice (some ⟨g, 0, none⟩) n c, .func (.func 60) #[] #[]] W fun e w' => e = .returned (.tuple #[]) ∧ ∃ Y, Y.Perm X ∧ Y.Pairwise (fun a b => cmpLn a.S b.S ≤ 0) ∧ w'.ownsRow B 102 1 (.slice (some ⟨g, 0, none⟩) n c) n (lvs Y) ∧ W.grownBy w' (some g) := by
  have eg : ∀ args w, (callFunc 60 args).run Tryz.prog w = .ok (.enter 60 args) w := enters_of Tryz.func60 (by kernel_rfl) rfl
  have hx0 : X[0]'(by omega) ∈ X := List.getElem_mem _
  haveI : Inhabited { x : LNE // x ∈ X } := ⟨⟨_, hx0⟩⟩
  have hgl : g < W.heap.size := (ho.lt g rfl).2
  obtain ⟨d, hd⟩ : ∃ d : Array { x : LNE // x ∈ X }, X.attach.toArray = d := ⟨_, rfl⟩
  have hds : d.size = n := by rw [← hd]; simp [hX]
  have hSWO : SWO (ltOf (fun (x y : { x : LNE // x ∈ X }) => cmpLn x.1.S y.1.S)) := ⟨fun x => swoLn.irrefl x.1.S, fun x y z h1 h2 => swoLn.trans x.1.S y.1.S z.1.S h1 h2, fun x y z h1 h2 => swoLn.ntrans x.1.S y.1.S z.1.S h1 h2⟩
  have hcmp : CmpLays1 Tryz.prog 60 #[] (fun (x : { x : LNE // x ∈ X }) => x.1.v) (fun x y => cmpLn x.1.S y.1.S) g 0 d.size W := fun m os dk _ x y => by
    have hg := sw_grown (fun (x : { x : LNE // x ∈ X }) => x.1.v) W g m dk os
    have hk : ∀ z : { x : LNE // x ∈ X }, LNER (sortWorld (fun (x : { x : LNE // x ∈ X }) => x.1.v) W g 0 m dk os) z.1 := fun z =>
      LNER_own ((hl z.1 z.2).1.kept hg (own_neQ (hl z.1 z.2).1 ho (by decide))) (hl z.1 z.2).2
    refine (cmp1_any x.1 y.1 _ (hk x) (hk y)).mono ?_
    rintro e w' ⟨rfl, os', rfl⟩
    exact ⟨rfl, 0, os', rfl⟩
  have hH : Holds (fun (x : { x : LNE // x ∈ X }) => x.1.v) W g 0 d := fun j hj => by
    refine ⟨?_, ho.frozenAt _⟩
    rw [ho.cellAt (0 + j) (by omega), Nat.zero_add, lvs, List.getElem?_map, getElem!_pos d j hj]
    have hjX : j < X.length := by omega
    rw [List.getElem?_eq_getElem hjX]
    subst hd
    simp
  have hcon := Any.slices_SortFunc Tryz.lsl (fun (x : { x : LNE // x ∈ X }) => x.1.v) (fun _ => rfl) (fun x y => cmpLn x.1.S y.1.S) hSWO 60 #[] g 0 c d W eg hcmp hH hgl (by omega)
  rw [hds] at hcon
  refine Calls.mono hcon ?_
  rintro e w' ⟨rfl, d', q, os, hp, hs, rfl⟩
  have hsz : d'.size = n := by have := hp.1; omega
  have hperm : d'.toList.Perm X.attach := by
    have h2 := hp.2.2
    rw [show d'.extract 0 n = d' by rw [← hsz]; simp, show d.extract 0 n = d by rw [← hds]; simp] at h2
    rw [← hd] at h2
    simpa using h2
  refine ⟨rfl, d'.toList.map (·.1), ?_, ?_, ?_, sw_grown _ _ _ _ _ _⟩
  · have h3 := hperm.map (·.1)
    have e8 : List.map (fun x : { x : LNE // x ∈ X } => x.1) X.attach = X := by simp
    rw [e8] at h3
    exact h3
  · rw [List.pairwise_map, List.pairwise_iff_getElem]
    intro i j hi hj hij
    have hi' : i < d'.size := by simpa using hi
    have hj' : j < d'.size := by simpa using hj
    have h3 := hs i j (Nat.zero_le _) hij (by omega)
    rw [getElem!_pos d' i hi', getElem!_pos d' j hj'] at h3
    simp only [ltOf, decide_eq_false_iff_not] at h3
    simp only [Array.getElem_toList]
    rcases cmpLn_three d'[i].1.S d'[j].1.S with ⟨a, b⟩ | ⟨a, b⟩ | ⟨a, b⟩ <;> omega
  · have h4 := sw_own (fun (x : { x : LNE // x ∈ X }) => x.1.v) (m := q) (os := os) ho hsz
    rw [lvs, List.map_map]
    exact h4
end Go.Proofs.YtekjbpemaohipaaGreatDoor

import Derived.Test.YthodemljgffogaaGreatDoorXAL
import Derived.Shelf.SlSortCmp.WholeK
import Derived.Ground.SlsfProg
import Derived.Ground.NamesProg
import Derived.Test.YthodemljgffogaaGreatDoorProg
import Derived.Test.YthodemljgffogaaGreatDoorXAM
namespace Go.Proofs.YthodemljgffogaaGreatDoor
open Go.RowKit Go.Shelf
theorem cmpB_self (a : List UInt8) : Lib.compareBytes a a = 0 := by
  induction a with
  | nil => rfl
  | cons x a ih => simp [Lib.compareBytes, ih]
theorem cmpB_eq : ∀ (a b : List UInt8), Lib.compareBytes a b = 0 → a = b
  | [], [], _ => rfl
  | [], y :: b, h => by simp [Lib.compareBytes] at h
  | x :: a, [], h => by simp [Lib.compareBytes] at h
  | x :: a, y :: b, h => by
    simp only [Lib.compareBytes] at h
    split at h
    · cases h
    · split at h
      · cases h
      · rename_i h1 h2
        have e : x = y := UInt8.le_antisymm (UInt8.not_lt.1 h2) (UInt8.not_lt.1 h1)
        rw [e, cmpB_eq a b h]
theorem cmpB_three : ∀ (a b : List UInt8), (Lib.compareBytes a b = -1 ∧ Lib.compareBytes b a = 1) ∨ (Lib.compareBytes a b = 0 ∧ Lib.compareBytes b a = 0) ∨ (Lib.compareBytes a b = 1 ∧ Lib.compareBytes b a = -1)
  | [], [] => .inr (.inl ⟨rfl, rfl⟩)
  | [], y :: b => .inl ⟨rfl, rfl⟩
  | x :: a, [] => .inr (.inr ⟨rfl, rfl⟩)
  | x :: a, y :: b => by
    simp only [Lib.compareBytes]
    by_cases h1 : x < y
    · have h2 : ¬ y < x := UInt8.not_lt.2 (UInt8.le_of_lt h1)
      simp [h1, h2]
    · by_cases h2 : y < x
      · simp [h1, h2]
      · simp only [h1, h2, if_false]
        exact cmpB_three a b
theorem cmpB_trans : ∀ (a b c : List UInt8), Lib.compareBytes a b < 0 → Lib.compareBytes b c < 0 → Lib.compareBytes a c < 0
  | [], [], c, h, _ => by simp [Lib.compareBytes] at h
  | [], y :: b, [], _, h => by simp [Lib.compareBytes] at h
  | [], y :: b, z :: c, _, _ => by simp [Lib.compareBytes]
  | x :: a, [], c, h, _ => by simp [Lib.compareBytes] at h
  | x :: a, y :: b, [], _, h => by simp [Lib.compareBytes] at h
  | x :: a, y :: b, z :: c, h1, h2 => by
    simp only [Lib.compareBytes] at h1 h2 ⊢
    by_cases hxy : x < y
    · by_cases hyz : y < z
      · rw [if_pos (UInt8.lt_trans hxy hyz)]; decide
      · by_cases hzy : z < y
        · simp [hyz, hzy] at h2
        · have e : y = z := UInt8.le_antisymm (UInt8.not_lt.1 hzy) (UInt8.not_lt.1 hyz)
          rw [← e, if_pos hxy]; decide
    · by_cases hyx : y < x
      · simp [hxy, hyx] at h1
      · have e : x = y := UInt8.le_antisymm (UInt8.not_lt.1 hyx) (UInt8.not_lt.1 hxy)
        subst e
        simp only [hxy, if_false] at h1
        by_cases hyz : x < z
        · rw [if_pos hyz]; decide
        · by_cases hzy : z < x
          · simp [hyz, hzy] at h2
          · simp only [hyz, hzy, if_false] at h2 ⊢
            exact cmpB_trans a b c h1 h2
/-- at most, by bytes -/
def leB (a b : List UInt8) : Bool := decide (Lib.compareBytes a b ≤ 0)
theorem leB_trans (a b c : List UInt8) (h1 : leB a b = true) (h2 : leB b c = true) : leB a c = true := by
  unfold leB at *
  simp only [decide_eq_true_eq] at *
  rcases Int.lt_or_eq_of_le h1 with h1 | h1
  · rcases Int.lt_or_eq_of_le h2 with h2 | h2
    · exact Int.le_of_lt (cmpB_trans a b c h1 h2)
    · rw [← cmpB_eq b c h2]; exact Int.le_of_lt h1
  · rw [cmpB_eq a b h1]; exact h2
theorem leB_total (a b : List UInt8) : (leB a b || leB b a) = true := by
  unfold leB
  rcases cmpB_three a b with ⟨h1, h2⟩ | ⟨h1, h2⟩ | ⟨h1, h2⟩ <;> simp [h1, h2]
theorem leB_anti (a b : List UInt8) (h1 : leB a b = true) (h2 : leB b a = true) : a = b := by
  unfold leB at *
  simp only [decide_eq_true_eq] at *
  rcases cmpB_three a b with ⟨h3, h4⟩ | ⟨h3, h4⟩ | ⟨h3, h4⟩
  · omega
  · exact cmpB_eq a b h3
  · omega
/-- the list in the order of its texts -/
def srtT (L : List (List UInt8)) : List (List UInt8) := L.mergeSort leB
theorem srtT_len (L : List (List UInt8)) : (srtT L).length = L.length := List.length_mergeSort L
theorem srtT_perm (L : List (List UInt8)) : (srtT L).Perm L := List.mergeSort_perm L leB
theorem srtT_sorted (L : List (List UInt8)) : (srtT L).Pairwise (fun a b => leB a b = true) := List.pairwise_mergeSort leB_trans leB_total L
/-- there is but one list in order -/
theorem srt_one {A B : List (List UInt8)} (hp : A.Perm B) (hA : A.Pairwise (fun a b => leB a b = true)) (hB : B.Pairwise (fun a b => leB a b = true)) : A = B :=
  List.Perm.eq_of_pairwise (fun a b _ _ h1 h2 => leB_anti a b h1 h2) hA hB hp
theorem srt_eq {A L : List (List UInt8)} (hp : A.Perm L) (hA : A.Pairwise (fun a b => leB a b = true)) : A = srtT L :=
  srt_one (hp.trans (srtT_perm L).symm) hA (srtT_sorted L)
end Go.Proofs.YthodemljgffogaaGreatDoor
namespace Go.Proofs
open Go.Shelf
def Tryz.lsn_ren : Go.Shelf.Ren := ⟨fun | 6 => 62 | 15 => 64 | 14 => 84 | 28 => 93 | 29 => 94 | 20 => 106 | 21 => 107 | 22 => 108 | 23 => 109 | 24 => 110 | 25 => 111 | 26 => 112 | 27 => 113 | 46 => 123 | 47 => 115 | 48 => 116 | 49 => 124 | 50 => 125 | 57 => 131 | n => n, fun | 22 => 80 | 24 => 85 | 25 => 86 | 3 => 3 | 39 => 111 | 0 => 0 | 53 => 145 | 55 => 60 | 4 => 4 | 46 => 138 | 45 => 137 | 50 => 142 | 5 => 5 | 9 => 9 | 66 => 159 | 70 => 163 | 76 => 169 | 77 => 170 | n => n, fun | n => n⟩
theorem Tryz.lsn : Go.Proofs.SlLaysF0.n6 Tryz.prog Tryz.lsn_ren := {
  mixed := by kernel_rfl
  f6 := ⟨Tryz.f62.name, by decide, Tryz.func62.trans (congrArg some (by kernel_rfl))⟩
  f14 := ⟨Tryz.f84.name, by decide, Tryz.func84.trans (congrArg some (by kernel_rfl))⟩
  f15 := Tryz.func64.trans (congrArg some (by kernel_rfl))
  f20 := ⟨Tryz.f106.name, by decide, Tryz.func106.trans (congrArg some (by kernel_rfl))⟩
  f21 := ⟨Tryz.f107.name, by decide, Tryz.func107.trans (congrArg some (by kernel_rfl))⟩
  f22 := ⟨Tryz.f108.name, by decide, Tryz.func108.trans (congrArg some (by kernel_rfl))⟩
  f23 := ⟨Tryz.f109.name, by decide, Tryz.func109.trans (congrArg some (by kernel_rfl))⟩
  f24 := ⟨Tryz.f110.name, by decide, Tryz.func110.trans (congrArg some (by kernel_rfl))⟩
  f25 := ⟨Tryz.f111.name, by decide, Tryz.func111.trans (congrArg some (by kernel_rfl))⟩
  f26 := ⟨Tryz.f112.name, by decide, Tryz.func112.trans (congrArg some (by kernel_rfl))⟩
  f27 := ⟨Tryz.f113.name, by decide, Tryz.func113.trans (congrArg some (by kernel_rfl))⟩
  f28 := Tryz.func93.trans (congrArg some (by kernel_rfl))
  f29 := Tryz.func94.trans (congrArg some (by kernel_rfl))
  f46 := ⟨Tryz.f123.name, by decide, Tryz.func123.trans (congrArg some (by kernel_rfl))⟩
  f47 := Tryz.func115.trans (congrArg some (by kernel_rfl))
  f48 := Tryz.func116.trans (congrArg some (by kernel_rfl))
  f49 := ⟨Tryz.f124.name, by decide, Tryz.func124.trans (congrArg some (by kernel_rfl))⟩
  f50 := ⟨Tryz.f125.name, by decide, Tryz.func125.trans (congrArg some (by kernel_rfl))⟩
  f57 := ⟨Tryz.f131.name, by decide, Tryz.func131.trans (congrArg some (by kernel_rfl))⟩
  t0 := Tryz.underlying0
  a0 := Tryz.isAgg0
  z0 := Tryz.sizeOf0
  v0 := Tryz.zeroValue0
  t3 := Tryz.underlying3
  a3 := Tryz.isAgg3
  z3 := Tryz.sizeOf3
  v3 := Tryz.zeroValue3
  t4 := Tryz.underlying4
  a4 := Tryz.isAgg4
  z4 := Tryz.sizeOf4
  v4 := Tryz.zeroValue4
  t5 := Tryz.underlying5
  a5 := Tryz.isAgg5
  z5 := Tryz.sizeOf5
  v5 := Tryz.zeroValue5
  t9 := Tryz.underlying9
  a9 := Tryz.isAgg9
  z9 := Tryz.sizeOf9
  v9 := Tryz.zeroValue9
  t22 := Tryz.underlying80
  a22 := Tryz.isAgg80
  z22 := Tryz.sizeOf80
  v22 := Tryz.zeroValue80
  t25 := Tryz.underlying86
  a25 := Tryz.isAgg86
  z25 := Tryz.sizeOf86
  v25 := Tryz.zeroValue86
  t39 := Tryz.underlying111
  a39 := Tryz.isAgg111
  z39 := Tryz.sizeOf111
  v39 := Tryz.zeroValue111
  t45 := Tryz.underlying137
  a45 := Tryz.isAgg137
  z45 := Tryz.sizeOf137
  v45 := Tryz.zeroValue137
  t46 := Tryz.underlying138
  a46 := Tryz.isAgg138
  z46 := Tryz.sizeOf138
  v46 := Tryz.zeroValue138
  t50 := Tryz.underlying142
  a50 := Tryz.isAgg142
  z50 := Tryz.sizeOf142
  v50 := Tryz.zeroValue142
  t53 := Tryz.underlying145
  a53 := Tryz.isAgg145
  z53 := Tryz.sizeOf145
  v53 := Tryz.zeroValue145
  t55 := Tryz.underlying60
  a55 := Tryz.isAgg60
  z55 := Tryz.sizeOf60
  v55 := Tryz.zeroValue60
  t66 := Tryz.underlying159
  a66 := Tryz.isAgg159
  z66 := Tryz.sizeOf159
  v66 := Tryz.zeroValue159
  t70 := Tryz.underlying163
  a70 := Tryz.isAgg163
  z70 := Tryz.sizeOf163
  v70 := Tryz.zeroValue163
  t76 := Tryz.underlying169
  a76 := Tryz.isAgg169
  z76 := Tryz.sizeOf169
  v76 := Tryz.zeroValue169
  t77 := Tryz.underlying170
  a77 := Tryz.isAgg170
  z77 := Tryz.sizeOf170
  v77 := Tryz.zeroValue170 }
end Go.Proofs
namespace Go.Proofs.YthodemljgffogaaGreatDoor
open Go.RowKit Go.Shelf Go.Sort
theorem flat_get (L : List (List UInt8)) (j : Nat) (hj : j < L.length * 10) : (nms L)[j]? = some ((flatK nm 10 L.toArray)[j]!) := by
  have hq : j / 10 < L.length := by omega
  have hm : j % 10 < 10 := Nat.mod_lt _ (by omega)
  rw [get_flatK nm 10 L.toArray j (by simpa using hj)]
  have e := nms_get L (j / 10) (j % 10) hm
  rw [show j / 10 * 10 + j % 10 = j by omega] at e
  rw [e, List.getElem?_eq_getElem hq]
  simp only [Option.bind_some]
  have hl : (nm L[j / 10]).length = 10 := rfl
  rw [show (L.toArray)[j / 10]! = L[j / 10] by simp [hq], List.getElem?_eq_getElem (by rw [hl]; exact hm), getElem!_pos _ _ (by rw [hl]; exact hm)]
theorem sort_own {W : World} {B g c n q : Nat} {x : List UInt8} {L D : List (List UInt8)} {os : Array Obj} (h : W.ownsRow B 85 10 (.slice (some ⟨g, 0, none⟩) (n + 1) c) (n + 1) (nms (x :: L))) (hD : D.length = n) :
    (sortWorldK nm 10 W g 10 q D.toArray os).ownsRow B 85 10 (.slice (some ⟨g, 0, none⟩) (n + 1) c) (n + 1) (nms (x :: D)) ∧ W.grownBy (sortWorldK nm 10 W g 10 q D.toArray os) (some g) := by
  rcases h.2 with ⟨h', _⟩ | ⟨g', cap', cur, h', hb, hg, hnc, hcm, hcs, htake⟩
  · cases h'
  injection h' with a1 _ a3
  injection a1 with a1
  injection a1 with a1
  subst a1 a3
  have hlt := lt_of_get3 hg
  have hheap : (sortWorldK nm 10 W g 10 q D.toArray os).heap = W.heap.modify g (onCells (putCells id 10 (flatK nm 10 D.toArray))) ++ os := rfl
  refine ⟨⟨by rw [nms_len, List.length_cons, hD], .inr ⟨g, c, putCells id 10 (flatK nm 10 D.toArray) cur, rfl, hb, ?_, hnc, hcm, by simp [putCells, hcs], ?_⟩⟩, rfl, rfl, rfl, ?_, ?_⟩
  · rw [hheap, Array.getElem?_append_left (by simpa using hlt), Array.getElem?_modify, if_pos rfl, hg]
    rfl
  · apply List.ext_getElem?
    intro j
    have hcur : ∀ i, i < (n + 1) * 10 → cur[i]? = (nms (x :: L))[i]? := fun i hi => by
      rw [← htake, List.getElem?_take_of_lt hi, Array.getElem?_toList]
    by_cases hj : j < (n + 1) * 10
    · rw [List.getElem?_take_of_lt hj, Array.getElem?_toList]
      have hjc : j < cur.size := by omega
      unfold putCells
      rw [Array.getElem?_mapIdx, Array.getElem?_eq_getElem hjc]
      simp only [Option.map_some, size_flatK, List.size_toArray, hD]
      by_cases h10 : 10 ≤ j
      · rw [if_pos ⟨h10, by omega⟩]
        have e1 : nms (x :: D) = nm x ++ nms D := rfl
        have e2 : (nm x).length = 10 := rfl
        rw [e1, List.getElem?_append_right (by rw [e2]; exact h10), e2, flat_get D (j - 10) (by omega)]
        rfl
      · rw [if_neg (fun e => h10 e.1)]
        have e3 := hcur j hj
        rw [Array.getElem?_eq_getElem hjc] at e3
        have e1 : nms (x :: D) = nm x ++ nms D := rfl
        have e4 : nms (x :: L) = nm x ++ nms L := rfl
        have e2 : (nm x).length = 10 := rfl
        rw [e3, e1, e4, List.getElem?_append_left (by rw [e2]; omega), List.getElem?_append_left (by rw [e2]; omega)]
    · rw [List.getElem?_eq_none (by rw [List.length_take]; omega), List.getElem?_eq_none (by rw [nms_len, List.length_cons, hD]; omega)]
  · rw [hheap]
    simp
  · intro k hk hne
    rw [hheap, Array.getElem?_append_left (by simpa using hk), Array.getElem?_modify, if_neg (fun e => hne (by rw [e]))]
theorem swoB : SWO (ltOf Lib.compareBytes) where
  irrefl x := by simp [ltOf, cmpB_self]
  trans x y z h1 h2 := by
    simp only [ltOf, decide_eq_true_eq] at *
    exact cmpB_trans x y z h1 h2
  ntrans x y z h1 h2 := by
    have k1 : leB y x = true := by
      unfold leB
      simp only [ltOf, decide_eq_false_iff_not] at h1
      rcases cmpB_three x y with ⟨a, b⟩ | ⟨a, b⟩ | ⟨a, b⟩ <;> simp [b] <;> omega
    have k2 : leB z y = true := by
      unfold leB
      simp only [ltOf, decide_eq_false_iff_not] at h2
      rcases cmpB_three y z with ⟨a, b⟩ | ⟨a, b⟩ | ⟨a, b⟩ <;> simp [b] <;> omega
    have k3 := leB_trans z y x k2 k1
    unfold leB at k3
    simp only [ltOf, decide_eq_false_iff_not, decide_eq_true_eq] at *
    rcases cmpB_three x z with ⟨a, b⟩ | ⟨a, b⟩ | ⟨a, b⟩ <;> omega
theorem grow_own {W : World} {B n q : Nat} {e : TypeId} {sz : Nat} {v : Value} {xs : List Value} {os : Array Obj} (h : W.ownsRow B e sz v n xs) (row : Option Nat) : (grow (Sort.ahead W q) os).ownsRow B e sz v n xs ∧ W.grownBy (grow (Sort.ahead W q) os) row := by
  have hg : ∀ r, W.grownBy (grow (Sort.ahead W q) os) r := fun r => ⟨rfl, rfl, rfl, by simp [grow, Sort.ahead], fun k hk _ => by
    show (W.heap ++ os)[k]? = _
    rw [Array.getElem?_append_left hk]⟩
  refine ⟨h.kept (hg none) ?_, hg row⟩
  generalize v.ownBlock = b
  cases b with
  | none => exact .inl rfl
  | some b => exact .inr (by intro e; cases e)
theorem cmpLays (blk off size : Nat) (w : World) : CmpLays Tryz.prog 45 #[] nm 10 Lib.compareBytes blk off size w := fun _ _ _ _ x y => by
  refine (byText_any x y _).mono ?_
  rintro e w' ⟨rfl, rfl⟩
  exact ⟨rfl, 0, _, by rw [alloc_eq_grow, alloc_eq_grow, grow_grow]; rfl⟩
theorem sort_ok : SortOK srtT := fun L x n g c B ad W hL hn ho had => by
  have eg : ∀ args w, (callFunc 45 args).run Tryz.prog w = .ok (.enter 45 args) w := enters_of Tryz.func45 (by kernel_rfl) rfl
  have h1 : ∀ t : List UInt8, ∀ v ∈ nm t, v.oneCell' = true := fun t v hv => by
    simp only [nm, List.mem_cons, List.not_mem_nil, or_false] at hv
    rcases hv with rfl | rfl | rfl | rfl | rfl | rfl | rfl | rfl | rfl | rfl <;> rfl
  have hgl : g < W.heap.size := (ho.lt g rfl).2
  rcases had with ⟨h0, rfl⟩ | rfl
  · subst h0
    obtain rfl := List.length_eq_zero_iff.1 hL
    have hH : HoldsK nm 10 W g 0 (#[] : Array (List UInt8)) := fun j hj => by simp at hj
    have hcon := AnyQ.slices_SortFunc Tryz.lsn 10 Tryz.isAgg85 Tryz.sizeOf85 nm (fun _ => rfl) h1 Lib.compareBytes swoB 45 #[] g 0 (c - 1) #[] W eg (cmpLays g 0 _ W) hH hgl (by simp)
    refine Calls.mono hcon ?_
    rintro e w' ⟨rfl, d', q, os, hp, -, rfl⟩
    have hd : d' = #[] := Array.eq_empty_of_size_eq_zero (by simpa using hp.1)
    subst hd
    have e1 : sortWorldK nm 10 W g 0 q (#[] : Array (List UInt8)) os = grow (Sort.ahead W q) os := by
      unfold sortWorldK
      rw [putRowK_self nm 10 (Sort.ahead W q) g 0 #[] hH]
    have e6 : srtT [] = [] := List.length_eq_zero_iff.1 (srtT_len [])
    rw [e1, e6]
    exact ⟨rfl, grow_own ho _⟩
  · have hH : HoldsK nm 10 W g 10 L.toArray := fun j hj => by
      rw [size_flatK, List.size_toArray, hL] at hj
      refine ⟨?_, ho.frozenAt _⟩
      rw [ho.cellAt (10 + j) (by omega)]
      have e1 : nms (x :: L) = nm x ++ nms L := rfl
      have e2 : (nm x).length = 10 := rfl
      rw [e1, List.getElem?_append_right (by rw [e2]; omega), e2, Nat.add_sub_cancel_left, flat_get L j (by omega)]
      rfl
    have hcon := AnyQ.slices_SortFunc Tryz.lsn 10 Tryz.isAgg85 Tryz.sizeOf85 nm (fun _ => rfl) h1 Lib.compareBytes swoB 45 #[] g 10 (c - 1) L.toArray W eg (cmpLays g 10 _ W) hH hgl (by rw [List.size_toArray]; omega)
    rw [List.size_toArray, hL] at hcon
    refine Calls.mono hcon ?_
    rintro e w' ⟨rfl, d', q, os, hp, hs, rfl⟩
    have hsz : d'.size = n := by have := hp.1; simp at this; omega
    have hperm : d'.toList.Perm L := by
      have h2 := hp.2.2
      rw [show d'.extract 0 n = d' by rw [← hsz]; simp, show L.toArray.extract 0 n = L.toArray by rw [← hL]; simp] at h2
      simpa using h2
    have hpw : d'.toList.Pairwise (fun a b => leB a b = true) := by
      rw [List.pairwise_iff_getElem]
      intro i j hi hj hij
      have hi' : i < d'.size := by simpa using hi
      have hj' : j < d'.size := by simpa using hj
      have h3 := hs i j (Nat.zero_le _) hij (by omega)
      rw [getElem!_pos d' i hi', getElem!_pos d' j hj'] at h3
      simp only [ltOf, decide_eq_false_iff_not] at h3
      unfold leB
      simp only [Array.getElem_toList, decide_eq_true_eq]
      rcases cmpB_three d'[i] d'[j] with ⟨a, b⟩ | ⟨a, b⟩ | ⟨a, b⟩ <;> omega
    have hsrt := srt_eq hperm hpw
    have hD : (srtT L).length = n := by rw [srtT_len, hL]
    have e5 : d' = (srtT L).toArray := by rw [← hsrt]
    rw [e5]
    exact ⟨rfl, sort_own ho hD⟩
end Go.Proofs.YthodemljgffogaaGreatDoor

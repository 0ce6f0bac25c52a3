import Derived.Test.YtbdnpbiimbeflaaQI
import Derived.Test.YtbdnpbiimbeflaaQN
import Derived.Test.YtbdnpbiimbeflaaSL
import Derived.Shelf.SlSortCmp.WholeK
namespace Go.Proofs.Ytbdnpbiimbeflaa
open Go.RowKit Go.Shelf Go.Sort
theorem flat_get (L : List (List UInt8)) (j : Nat) (hj : j < L.length * 10) : (nms L)[j]? = some ((flatK nm 10 L.toArray)[j]!) := by
  have hq : j / 10 < L.length := by omega
  have hm : j % 10 < 10 := Nat.mod_lt _ (by omega)
  rw [get_flatK nm 10 L.toArray j (by simpa using hj)]
  have e := nms_get L (j / 10) (j % 10) hm
  rw [show j / 10 * 10 + j % 10 = j by omega] at e
  rw [e, List.getElem?_eq_getElem hq]
  simp only [Option.bind_some]
  have hl : (nm L[j / 10]).length = 10 := rfl
  rw [show (L.toArray)[j / 10]! = L[j / 10] by simp [hq], List.getElem?_eq_getElem (by rw [hl]; exact hm), getElem!_pos _ _ (by rw [hl]; exact hm)]
theorem sort_own {W : World} {B g c n q : Nat} {x : List UInt8} {L D : List (List UInt8)} {os : Array Obj} (h : W.ownsRow B 89 10 (.slice (some ⟨g, 0, none⟩) (n + 1) c) (n + 1) (nms (x :: L))) (hD : D.length = n) :
    (sortWorldK nm 10 W g 10 q D.toArray os).ownsRow B 89 10 (.slice (some ⟨g, 0, none⟩) (n + 1) c) (n + 1) (nms (x :: D)) ∧ W.grownBy (sortWorldK nm 10 W g 10 q D.toArray os) (some g) := by
  rcases h.2 with ⟨h', _⟩ | ⟨g', cap', cur, h', hb, hg, hnc, hcm, hcs, htake⟩
  · cases h'
  injection h' with a1 _ a3
  injection a1 with a1
  injection a1 with a1
  subst a1 a3
  have hlt := lt_of_get3 hg
  have hheap : (sortWorldK nm 10 W g 10 q D.toArray os).heap = W.heap.modify g (onCells (putCells id 10 (flatK nm 10 D.toArray))) ++ os := rfl
  refine ⟨⟨by rw [nms_len, List.length_cons, hD], .inr ⟨g, c, putCells id 10 (flatK nm 10 D.toArray) cur, rfl, hb, ?_, hnc, hcm, by simp [putCells, hcs], ?_⟩⟩, rfl, rfl, rfl, ?_, ?_⟩
  · rw [hheap, Array.getElem?_append_left (by simpa using hlt), Array.getElem?_modify, if_pos rfl, hg]
    rfl
  · apply List.ext_getElem?
    intro j
    have hcur : ∀ i, i < (n + 1) * 10 → cur[i]? = (nms (x :: L))[i]? := fun i hi => by
      rw [← htake, List.getElem?_take_of_lt hi, Array.getElem?_toList]
    by_cases hj : j < (n + 1) * 10
    · rw [List.getElem?_take_of_lt hj, Array.getElem?_toList]
      have hjc : j < cur.size := by omega
      unfold putCells
      rw [Array.getElem?_mapIdx, Array.getElem?_eq_getElem hjc]
      simp only [Option.map_some, size_flatK, List.size_toArray, hD]
      by_cases h10 : 10 ≤ j
      · rw [if_pos ⟨h10, by omega⟩]
        have e1 : nms (x :: D) = nm x ++ nms D := rfl
        have e2 : (nm x).length = 10 := rfl
        rw [e1, List.getElem?_append_right (by rw [e2]; exact h10), e2, flat_get D (j - 10) (by omega)]
        rfl
      · rw [if_neg (fun e => h10 e.1)]
        have e3 := hcur j hj
        rw [Array.getElem?_eq_getElem hjc] at e3
        have e1 : nms (x :: D) = nm x ++ nms D := rfl
        have e4 : nms (x :: L) = nm x ++ nms L := rfl
        have e2 : (nm x).length = 10 := rfl
        rw [e3, e1, e4, List.getElem?_append_left (by rw [e2]; omega), List.getElem?_append_left (by rw [e2]; omega)]
    · rw [List.getElem?_eq_none (by rw [List.length_take]; omega), List.getElem?_eq_none (by rw [nms_len, List.length_cons, hD]; omega)]
  · rw [hheap]
    simp
  · intro k hk hne
    rw [hheap, Array.getElem?_append_left (by simpa using hk), Array.getElem?_modify, if_neg (fun e => hne (by rw [e]))]
theorem swoB : SWO (ltOf Lib.compareBytes) where
  irrefl x := by simp [ltOf, cmpB_self]
  trans x y z h1 h2 := by
    simp only [ltOf, decide_eq_true_eq] at *
    exact cmpB_trans x y z h1 h2
  ntrans x y z h1 h2 := by
    have k1 : leB y x = true := by
      unfold leB
      simp only [ltOf, decide_eq_false_iff_not] at h1
      rcases cmpB_three x y with ⟨a, b⟩ | ⟨a, b⟩ | ⟨a, b⟩ <;> simp [b] <;> omega
    have k2 : leB z y = true := by
      unfold leB
      simp only [ltOf, decide_eq_false_iff_not] at h2
      rcases cmpB_three y z with ⟨a, b⟩ | ⟨a, b⟩ | ⟨a, b⟩ <;> simp [b] <;> omega
    have k3 := leB_trans z y x k2 k1
    unfold leB at k3
    simp only [ltOf, decide_eq_false_iff_not, decide_eq_true_eq] at *
    rcases cmpB_three x z with ⟨a, b⟩ | ⟨a, b⟩ | ⟨a, b⟩ <;> omega
theorem grow_own {W : World} {B n q : Nat} {e : TypeId} {sz : Nat} {v : Value} {xs : List Value} {os : Array Obj} (h : W.ownsRow B e sz v n xs) (row : Option Nat) : (grow (Sort.ahead W q) os).ownsRow B e sz v n xs ∧ W.grownBy (grow (Sort.ahead W q) os) row := by
  have hg : ∀ r, W.grownBy (grow (Sort.ahead W q) os) r := fun r => ⟨rfl, rfl, rfl, by simp [grow, Sort.ahead], fun k hk _ => by
    show (W.heap ++ os)[k]? = _
    rw [Array.getElem?_append_left hk]⟩
  refine ⟨h.kept (hg none) ?_, hg row⟩
  generalize v.ownBlock = b
  cases b with
  | none => exact .inl rfl
  | some b => exact .inr (by intro e; cases e)
theorem cmpLays (blk off size : Nat) (w : World) : CmpLays Try.prog 43 #[] nm 10 Lib.compareBytes blk off size w := fun _ _ _ _ x y => by
  refine (byText_any x y _).mono ?_
  rintro e w' ⟨rfl, rfl⟩
  exact ⟨rfl, 0, _, by rw [alloc_eq_grow, alloc_eq_grow, grow_grow]; rfl⟩
theorem sort_ok : SortOK srtT := fun L x n g c B ad W hL hn ho had => by
  have eg : ∀ args w, (callFunc 43 args).run Try.prog w = .ok (.enter 43 args) w := enters_of Try.func43 (by kernel_rfl) rfl
  have h1 : ∀ t : List UInt8, ∀ v ∈ nm t, v.oneCell' = true := fun t v hv => by
    simp only [nm, List.mem_cons, List.not_mem_nil, or_false] at hv
    rcases hv with rfl | rfl | rfl | rfl | rfl | rfl | rfl | rfl | rfl | rfl <;> rfl
  have hgl : g < W.heap.size := (ho.lt g rfl).2
  rcases had with ⟨h0, rfl⟩ | rfl
  · subst h0
    obtain rfl := List.length_eq_zero_iff.1 hL
    have hH : HoldsK nm 10 W g 0 (#[] : Array (List UInt8)) := fun j hj => by simp at hj
    have hcon := AnyQ.slices_SortFunc Try.lsn 10 Try.isAgg89 Try.sizeOf89 nm (fun _ => rfl) h1 Lib.compareBytes swoB 43 #[] g 0 (c - 1) #[] W eg (cmpLays g 0 _ W) hH hgl (by simp)
    refine Calls.mono hcon ?_
    rintro e w' ⟨rfl, d', q, os, hp, -, rfl⟩
    have hd : d' = #[] := Array.eq_empty_of_size_eq_zero (by simpa using hp.1)
    subst hd
    have e1 : sortWorldK nm 10 W g 0 q (#[] : Array (List UInt8)) os = grow (Sort.ahead W q) os := by
      unfold sortWorldK
      rw [putRowK_self nm 10 (Sort.ahead W q) g 0 #[] hH]
    have e6 : srtT [] = [] := List.length_eq_zero_iff.1 (srtT_len [])
    rw [e1, e6]
    exact ⟨rfl, grow_own ho _⟩
  · have hH : HoldsK nm 10 W g 10 L.toArray := fun j hj => by
      rw [size_flatK, List.size_toArray, hL] at hj
      refine ⟨?_, ho.frozenAt _⟩
      rw [ho.cellAt (10 + j) (by omega)]
      have e1 : nms (x :: L) = nm x ++ nms L := rfl
      have e2 : (nm x).length = 10 := rfl
      rw [e1, List.getElem?_append_right (by rw [e2]; omega), e2, Nat.add_sub_cancel_left, flat_get L j (by omega)]
      rfl
    have hcon := AnyQ.slices_SortFunc Try.lsn 10 Try.isAgg89 Try.sizeOf89 nm (fun _ => rfl) h1 Lib.compareBytes swoB 43 #[] g 10 (c - 1) L.toArray W eg (cmpLays g 10 _ W) hH hgl (by rw [List.size_toArray]; omega)
    rw [List.size_toArray, hL] at hcon
    refine Calls.mono hcon ?_
    rintro e w' ⟨rfl, d', q, os, hp, hs, rfl⟩
    have hsz : d'.size = n := by have := hp.1; simp at this; omega
    have hperm : d'.toList.Perm L := by
      have h2 := hp.2.2
      rw [show d'.extract 0 n = d' by rw [← hsz]; simp, show L.toArray.extract 0 n = L.toArray by rw [← hL]; simp] at h2
      simpa using h2
    have hpw : d'.toList.Pairwise (fun a b => leB a b = true) := by
      rw [List.pairwise_iff_getElem]
      intro i j hi hj hij
      have hi' : i < d'.size := by simpa using hi
      have hj' : j < d'.size := by simpa using hj
      have h3 := hs i j (Nat.zero_le _) hij (by omega)
      rw [getElem!_pos d' i hi', getElem!_pos d' j hj'] at h3
      simp only [ltOf, decide_eq_false_iff_not] at h3
      unfold leB
      simp only [Array.getElem_toList, decide_eq_true_eq]
      rcases cmpB_three d'[i] d'[j] with ⟨a, b⟩ | ⟨a, b⟩ | ⟨a, b⟩ <;> omega
    have hsrt := srt_eq hperm hpw
    have hD : (srtT L).length = n := by rw [srtT_len, hL]
    have e5 : d' = (srtT L).toArray := by rw [← hsrt]
    rw [e5]
    exact ⟨rfl, sort_own ho hD⟩
end Go.Proofs.Ytbdnpbiimbeflaa

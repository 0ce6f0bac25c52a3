import Derived.Test.YtfhlgncpleleaaaDoorUE
import Derived.Deep.CutBlock
import Derived.Deep.DeepCutAuto
namespace Go.Proofs.YtfhlgncpleleaaaDoor
open Go.RowKit Go.Shelf
/-- a reply, as it lies -/
structure VR where
  r : RP
  p1 : Option Addr
  c1 : Nat
  p2 : Option Addr
  c2 : Nat
  p3 : Option Addr
  c3 : Nat
def VR.vs (e : VR) : List Value := [.int .i64 e.r.k, .bool e.r.fd, .string ⟨e.r.sp.toArray⟩, .string ⟨e.r.wi.toArray⟩, .slice e.p1 e.r.po.length e.c1, .slice e.p2 e.r.en.length e.c2, .string ⟨e.r.fi.toArray⟩, .slice e.p3 e.r.li.length e.c3, .bool e.r.mo]
structure VOK (W : World) (e : VR) : Prop where
  l1 : LSR W e.p1 e.r.po
  l2 : LSR W e.p2 e.r.en
  l3 : LSR W e.p3 e.r.li
  b1 : e.r.po.length ≤ e.c1
  b2 : e.r.en.length ≤ e.c2
  b3 : e.r.li.length ≤ e.c3
theorem VOK.later {W X : World} {e : VR} (h : VOK W e) (hb : Below W.heap.size W X) : VOK X e := ⟨h.l1.later hb, h.l2.later hb, h.l3.later hb, h.b1, h.b2, h.b3⟩
theorem pW_len {wd : List UInt8} (x : List UInt8) (h : wd.length ≤ 10) : wd.length + x.length + 4 ≤ (pW wd x).length + 16 := by
  unfold pW
  split
  · rename_i h0
    subst h0
    simp
    omega
  · simp [pI]
    omega
theorem pL_len {wd : List UInt8} (L : List (List UInt8)) (sep : List UInt8) (h : wd.length ≤ 10) : wd.length + (Lib.join L sep).length + 4 ≤ (pL wd L sep).length + 16 := by
  unfold pL
  split
  · rename_i h0
    subst h0
    simp [Lib.join]
    omega
  · simp [pI]
    omega
theorem pN_succ {L : List (List UInt8)} {i : Nat} {x : List UInt8} (h : L[i]? = some x) : pN (L.take (i + 1)) = pN (L.take i) ++ pI x := by
  unfold pN
  rw [List.take_add_one, h, Option.toList_some, List.flatMap_append]
  simp
theorem pN_le (L : List (List UInt8)) (i : Nat) : (pN (L.take i)).length ≤ (pN L).length := by
  have : pN L = pN (L.take i) ++ pN (L.drop i) := by
    unfold pN
    rw [← List.flatMap_append, List.take_append_drop]
  rw [this, List.length_append]
  omega
set_option maxRecDepth 100000 in
set_option maxHeartbeats 16000000 in
theorem reply_any (B b : Nat) (l : List UInt8) (e : VR) (w : World) (h : WB B b l w) (hv : ∀ X, Below B w X → VOK X e) (ht : ∀ X, Below B w X → TWD X) (hlen : l.length + (rnR e.r).length + 128 ≤ 140737488355328) (hBw : B ≤ w.heap.size) (hcn : e.r.po.length ≤ 1000000000 ∧ e.r.en.length ≤ 1000000000 ∧ e.r.li.length ≤ 1000000000) :
    Calls Tryd.prog 9 #[.pointer (some ⟨b, 0, none⟩), .agg e.vs.toArray] w fun x w' => QW B b l (rnR e.r) w x w' := by
  obtain ⟨⟨k, fd, sp, wi, po, en, fi, li, mo⟩, p1, c1, p2, c2, p3, c3⟩ := e
  simp only at hlen hcn hv
  obtain ⟨n1, hn1⟩ : ∃ n, po.length = n := ⟨_, rfl⟩
  obtain ⟨n2, hn2⟩ : ∃ n, en.length = n := ⟨_, rfl⟩
  obtain ⟨n3, hn3⟩ : ∃ n, li.length = n := ⟨_, rfl⟩
  rw [hn1, hn2, hn3] at hcn
  obtain ⟨N, hN⟩ : ∃ N, (rnR ⟨k, fd, sp, wi, po, en, fi, li, mo⟩).length = N := ⟨_, rfl⟩
  rw [hN] at hlen
  obtain ⟨bb, hbb⟩ : ∃ bb, w.heap.size = bb := ⟨_, rfl⟩
  obtain ⟨T1, hT1⟩ : ∃ T, l ++ pH k fd = T := ⟨_, rfl⟩
  obtain ⟨T2, hT2⟩ : ∃ T, T1 ++ pW [115, 112, 97, 99, 101] sp = T := ⟨_, rfl⟩
  obtain ⟨T3, hT3⟩ : ∃ T, T2 ++ pW [119, 105, 116, 110, 101, 115, 115] wi = T := ⟨_, rfl⟩
  obtain ⟨T4, hT4⟩ : ∃ T, T3 ++ pL [112, 97, 116, 104] po [32] = T := ⟨_, rfl⟩
  obtain ⟨T5, hT5⟩ : ∃ T, T4 ++ pL [98, 121] en [44, 32] = T := ⟨_, rfl⟩
  obtain ⟨T6, hT6⟩ : ∃ T, T5 ++ pW [102, 105, 110, 97, 108] fi = T := ⟨_, rfl⟩
  have hall : Hid (l ++ rnR ⟨k, fd, sp, wi, po, en, fi, li, mo⟩ = T6 ++ pN li ++ pM mo) := by
    unfold Hid
    rw [← hT6, ← hT5, ← hT4, ← hT3, ← hT2, ← hT1]
    unfold rnR
    simp only [List.append_assoc]
  have hsum : l.length + N = T6.length + (pN li).length + (pM mo).length := by
    rw [← hN, ← List.length_append, hall.out, List.length_append, List.length_append]
  have g1 : T1.length = l.length + (pH k fd).length := by rw [← hT1, List.length_append]
  have g2 : T2.length = T1.length + (pW [115, 112, 97, 99, 101] sp).length := by rw [← hT2, List.length_append]
  have g3 : T3.length = T2.length + (pW [119, 105, 116, 110, 101, 115, 115] wi).length := by rw [← hT3, List.length_append]
  have g4 : T4.length = T3.length + (pL [112, 97, 116, 104] po [32]).length := by rw [← hT4, List.length_append]
  have g5 : T5.length = T4.length + (pL [98, 121] en [44, 32]).length := by rw [← hT5, List.length_append]
  have g6 : T6.length = T5.length + (pW [102, 105, 110, 97, 108] fi).length := by rw [← hT6, List.length_append]
  have q2 := pW_len (wd := [115, 112, 97, 99, 101]) sp (by decide)
  have q3 := pW_len (wd := [119, 105, 116, 110, 101, 115, 115]) wi (by decide)
  have q4 := pL_len (wd := [112, 97, 116, 104]) po [32] (by decide)
  have q5 := pL_len (wd := [98, 121]) en [44, 32] (by decide)
  have q6 := pW_len (wd := [102, 105, 110, 97, 108]) fi (by decide)
  have HL : Hid (l.length + 64 ≤ 140737488355328 ∧ T1.length + 5 + sp.length + 4 ≤ 140737488355328 ∧ T2.length + 7 + wi.length + 4 ≤ 140737488355328 ∧ T3.length + 4 + (Lib.join po [32]).length + 4 ≤ 140737488355328 ∧ T4.length + 2 + (Lib.join en [44, 32]).length + 4 ≤ 140737488355328 ∧ T5.length + 5 + fi.length + 4 ≤ 140737488355328 ∧ T6.length + (pN li).length + 64 ≤ 140737488355328 ∧ T6.length + (pN li).length + (pM mo).length + 64 ≤ 140737488355328) := by
    simp only [List.length_cons, List.length_nil] at q2 q3 q4 q5 q6
    refine ⟨?_, ?_, ?_, ?_, ?_, ?_, ?_, ?_⟩ <;> omega
  have HTT : Hid (l ++ pH k fd = T1 ∧ T1 ++ pW [115, 112, 97, 99, 101] sp = T2 ∧ T2 ++ pW [119, 105, 116, 110, 101, 115, 115] wi = T3 ∧ T3 ++ pL [112, 97, 116, 104] po [32] = T4 ∧ T4 ++ pL [98, 121] en [44, 32] = T5 ∧ T5 ++ pW [102, 105, 110, 97, 108] fi = T6) := ⟨hT1, hT2, hT3, hT4, hT5, hT6⟩
  have HV : Hid ((∀ X, Below B w X → LSR X p1 po ∧ LSR X p2 en ∧ LSR X p3 li) ∧ n1 ≤ c1 ∧ n2 ≤ c2 ∧ n3 ≤ c3 ∧ po.length = n1 ∧ en.length = n2 ∧ li.length = n3 ∧ n1 ≤ 1000000000 ∧ n2 ≤ 1000000000 ∧ n3 ≤ 1000000000) := by
    have v := hv w (Below.refl _ _)
    exact ⟨fun X hX => ⟨(hv X hX).l1, (hv X hX).l2, (hv X hX).l3⟩, by rw [← hn1]; exact v.b1, by rw [← hn2]; exact v.b2, by rw [← hn3]; exact v.b3, hn1, hn2, hn3, hcn⟩
  have HT : Hid (∀ X, Below B w X → TWD X) := ht
  have hA := belAZ (Below.refl w.heap.size w) (.cells #[.int .i64 k, .bool fd, .string ⟨sp.toArray⟩, .string ⟨wi.toArray⟩, .slice p1 n1 c1, .slice p2 n2 c2, .string ⟨fi.toArray⟩, .slice p3 n3 c3, .bool mo] 30 (0, 0))
  have HS : Hid (WB B b l (w.alloc (.cells #[.int .i64 k, .bool fd, .string ⟨sp.toArray⟩, .string ⟨wi.toArray⟩, .slice p1 n1 c1, .slice p2 n2 c2, .string ⟨fi.toArray⟩, .slice p3 n3 c3, .bool mo] 30 (0, 0))) ∧ Below B w (w.alloc (.cells #[.int .i64 k, .bool fd, .string ⟨sp.toArray⟩, .string ⟨wi.toArray⟩, .slice p1 n1 c1, .slice p2 n2 c2, .string ⟨fi.toArray⟩, .slice p3 n3 c3, .bool mo] 30 (0, 0))) ∧ (w.alloc (.cells #[.int .i64 k, .bool fd, .string ⟨sp.toArray⟩, .string ⟨wi.toArray⟩, .slice p1 n1 c1, .slice p2 n2 c2, .string ⟨fi.toArray⟩, .slice p3 n3 c3, .bool mo] 30 (0, 0))).heap[bb]? = some (.cells #[.int .i64 k, .bool fd, .string ⟨sp.toArray⟩, .string ⟨wi.toArray⟩, .slice p1 n1 c1, .slice p2 n2 c2, .string ⟨fi.toArray⟩, .slice p3 n3 c3, .bool mo] 30 (0, 0))) := ⟨h.below hA, hA.mono hBw, by rw [← hbb]; exact alloc_getZ _ _⟩
  have hn3' : n3 ≤ 1000000000 := hcn.2.2
  clear hv ht h hT1 hT2 hT3 hT4 hT5 hT6 hsum g1 g2 g3 g4 g5 g6 q2 q3 q4 q5 q6 hN hlen hcn hA
  have hBw1 : B ≤ (w.alloc (.cells #[.int .i64 k, .bool fd, .string ⟨sp.toArray⟩, .string ⟨wi.toArray⟩, .slice p1 n1 c1, .slice p2 n2 c2, .string ⟨fi.toArray⟩, .slice p3 n3 c3, .bool mo] 30 (0, 0))).heap.size := Nat.le_trans hBw (by simp)
  have HBW : Hid (B ≤ w.heap.size) := hBw
  unfold VR.vs
  simp only [hn1, hn2, hn3]
  clear hn1 hn2 hn3 hBw
  obtain ⟨w0, hw0⟩ : ∃ w0, w.alloc (.cells #[.int .i64 k, .bool fd, .string ⟨sp.toArray⟩, .string ⟨wi.toArray⟩, .slice p1 n1 c1, .slice p2 n2 c2, .string ⟨fi.toArray⟩, .slice p3 n3 c3, .bool mo] 30 (0, 0)) = w0 := ⟨_, rfl⟩
  have HW0 : Hid (w.alloc (.cells #[.int .i64 k, .bool fd, .string ⟨sp.toArray⟩, .string ⟨wi.toArray⟩, .slice p1 n1 c1, .slice p2 n2 c2, .string ⟨fi.toArray⟩, .slice p3 n3 c3, .bool mo] 30 (0, 0)) = w0) := hw0
  rw [hw0] at HS hBw1
  clear hw0
  have cl0 := (cellsZ HS.out.2.2).1
  go_enter Tryd.func9, Tryd.ntmps9
  go_upto_region 1 with fail
  rw [HW0.out]
  have HC1 := head_any B b l k fd w0 HS.out.1 (HT.out _ HS.out.2.1) HL.out.1 hBw1
  go_wp2_with fail
  refine HC1.mono ?_
  rintro e w1 ⟨rfl, a1, b1, d1⟩
  have HS1 : Hid (WB B b T1 w1 ∧ Below B w w1 ∧ w1.heap[bb]? = some (.cells #[.int .i64 k, .bool fd, .string ⟨sp.toArray⟩, .string ⟨wi.toArray⟩, .slice p1 n1 c1, .slice p2 n2 c2, .string ⟨fi.toArray⟩, .slice p3 n3 c3, .bool mo] 30 (0, 0)) ∧ w.heap.size ≤ w1.heap.size) := ⟨by rw [← HTT.out.1]; exact a1, HS.out.2.1.trans b1, d1 bb _ _ _ HS.out.2.2 (by decide) (by decide), Nat.le_trans (by rw [← HW0.out]; simp) b1.size⟩
  clear HC1 a1 b1 cl0
  have KT1 : Hid (KT w0 w1) := d1
  clear d1
  have cl1 := (cellsZ HS1.out.2.2.1).1
  have HC2 := word_any B b T1 [115, 112, 97, 99, 101] sp w1 HS1.out.1 HL.out.2.1 (Nat.le_trans HBW.out HS1.out.2.2.2)
  go_wp2_with fail
  refine HC2.mono ?_
  rintro e w2 ⟨rfl, a2, b2, d2⟩
  have HS2 : Hid (WB B b T2 w2 ∧ Below B w w2 ∧ w2.heap[bb]? = some (.cells #[.int .i64 k, .bool fd, .string ⟨sp.toArray⟩, .string ⟨wi.toArray⟩, .slice p1 n1 c1, .slice p2 n2 c2, .string ⟨fi.toArray⟩, .slice p3 n3 c3, .bool mo] 30 (0, 0)) ∧ w.heap.size ≤ w2.heap.size) := ⟨by rw [← HTT.out.2.1]; exact a2, HS1.out.2.1.trans b2, d2 bb _ _ _ HS1.out.2.2.1 (by decide) (by decide), Nat.le_trans HS1.out.2.2.2 b2.size⟩
  clear HC2 a2 b2 cl1
  have KT2 : Hid (KT w1 w2) := d2
  clear d2
  have cl2 := (cellsZ HS2.out.2.2.1).1
  have HC3 := word_any B b T2 [119, 105, 116, 110, 101, 115, 115] wi w2 HS2.out.1 HL.out.2.2.1 (Nat.le_trans HBW.out HS2.out.2.2.2)
  go_wp2_with fail
  refine HC3.mono ?_
  rintro e w3 ⟨rfl, a3, b3, d3⟩
  have HS3 : Hid (WB B b T3 w3 ∧ Below B w w3 ∧ w3.heap[bb]? = some (.cells #[.int .i64 k, .bool fd, .string ⟨sp.toArray⟩, .string ⟨wi.toArray⟩, .slice p1 n1 c1, .slice p2 n2 c2, .string ⟨fi.toArray⟩, .slice p3 n3 c3, .bool mo] 30 (0, 0)) ∧ w.heap.size ≤ w3.heap.size) := ⟨by rw [← HTT.out.2.2.1]; exact a3, HS2.out.2.1.trans b3, d3 bb _ _ _ HS2.out.2.2.1 (by decide) (by decide), Nat.le_trans HS2.out.2.2.2 b3.size⟩
  clear HC3 a3 b3 cl2
  have KT3 : Hid (KT w2 w3) := d3
  clear d3
  have cl3 := (cellsZ HS3.out.2.2.1).1
  have HC4 := list_any B b T3 [112, 97, 116, 104] [32] po p1 n1 c1 w3 HS3.out.1 HV.out.2.2.2.2.1 (by have := HV.out.2.2.2.2.2.2.2.1; omega) HV.out.2.1 (fun X hX => (HV.out.1 X (HS3.out.2.1.trans hX)).1) HL.out.2.2.2.1 (Nat.le_trans HBW.out HS3.out.2.2.2) (fun X hX => HS3.out.1.below hX)
  go_wp2_with fail
  refine HC4.mono ?_
  rintro e w4 ⟨rfl, a4, b4, d4⟩
  have HS4 : Hid (WB B b T4 w4 ∧ Below B w w4 ∧ w4.heap[bb]? = some (.cells #[.int .i64 k, .bool fd, .string ⟨sp.toArray⟩, .string ⟨wi.toArray⟩, .slice p1 n1 c1, .slice p2 n2 c2, .string ⟨fi.toArray⟩, .slice p3 n3 c3, .bool mo] 30 (0, 0)) ∧ w.heap.size ≤ w4.heap.size) := ⟨by rw [← HTT.out.2.2.2.1]; exact a4, HS3.out.2.1.trans b4, d4 bb _ _ _ HS3.out.2.2.1 (by decide) (by decide), Nat.le_trans HS3.out.2.2.2 b4.size⟩
  clear HC4 a4 b4 cl3
  have KT4 : Hid (KT w3 w4) := d4
  clear d4
  have cl4 := (cellsZ HS4.out.2.2.1).1
  have HC5 := list_any B b T4 [98, 121] [44, 32] en p2 n2 c2 w4 HS4.out.1 HV.out.2.2.2.2.2.1 (by have := HV.out.2.2.2.2.2.2.2.2.1; omega) HV.out.2.2.1 (fun X hX => (HV.out.1 X (HS4.out.2.1.trans hX)).2.1) HL.out.2.2.2.2.1 (Nat.le_trans HBW.out HS4.out.2.2.2) (fun X hX => HS4.out.1.below hX)
  go_wp2_with fail
  refine HC5.mono ?_
  rintro e w5 ⟨rfl, a5, b5, d5⟩
  have HS5 : Hid (WB B b T5 w5 ∧ Below B w w5 ∧ w5.heap[bb]? = some (.cells #[.int .i64 k, .bool fd, .string ⟨sp.toArray⟩, .string ⟨wi.toArray⟩, .slice p1 n1 c1, .slice p2 n2 c2, .string ⟨fi.toArray⟩, .slice p3 n3 c3, .bool mo] 30 (0, 0)) ∧ w.heap.size ≤ w5.heap.size) := ⟨by rw [← HTT.out.2.2.2.2.1]; exact a5, HS4.out.2.1.trans b5, d5 bb _ _ _ HS4.out.2.2.1 (by decide) (by decide), Nat.le_trans HS4.out.2.2.2 b5.size⟩
  clear HC5 a5 b5 cl4
  have KT5 : Hid (KT w4 w5) := d5
  clear d5
  have cl5 := (cellsZ HS5.out.2.2.1).1
  have HC6 := word_any B b T5 [102, 105, 110, 97, 108] fi w5 HS5.out.1 HL.out.2.2.2.2.2.1 (Nat.le_trans HBW.out HS5.out.2.2.2)
  go_wp2_with fail
  refine HC6.mono ?_
  rintro e w6 ⟨rfl, a6, b6, d6⟩
  have HS6 : Hid (WB B b T6 w6 ∧ Below B w w6 ∧ w6.heap[bb]? = some (.cells #[.int .i64 k, .bool fd, .string ⟨sp.toArray⟩, .string ⟨wi.toArray⟩, .slice p1 n1 c1, .slice p2 n2 c2, .string ⟨fi.toArray⟩, .slice p3 n3 c3, .bool mo] 30 (0, 0)) ∧ w.heap.size ≤ w6.heap.size) := ⟨by rw [← HTT.out.2.2.2.2.2]; exact a6, HS5.out.2.1.trans b6, d6 bb _ _ _ HS5.out.2.2.1 (by decide) (by decide), Nat.le_trans HS5.out.2.2.2 b6.size⟩
  clear HC6 a6 b6 cl5
  have KT6 : Hid (KT w5 w6) := d6
  clear d6
  have cl6 := (cellsZ HS6.out.2.2.1).1
  have HK : Hid (KT w0 w6) := KT1.out.trans (KT2.out.trans (KT3.out.trans (KT4.out.trans (KT5.out.trans KT6.out))))
  clear KT1 KT2 KT3 KT4 KT5 KT6 HS HS1 HS2 HS3 HS4 HS5 HT
  have H0 : Hid (WB B b (T6 ++ pN (li.take 0)) w6 ∧ Below B w w6 ∧ w6.heap[bb]? = some (.cells #[.int .i64 k, .bool fd, .string ⟨sp.toArray⟩, .string ⟨wi.toArray⟩, .slice p1 n1 c1, .slice p2 n2 c2, .string ⟨fi.toArray⟩, .slice p3 n3 c3, .bool mo] 30 (0, 0)) ∧ KT w0 w6 ∧ w.heap.size ≤ w6.heap.size) := ⟨by rw [List.take_zero]; show WB B b (T6 ++ []) w6; rw [List.append_nil]; exact HS6.out.1, HS6.out.2.1, HS6.out.2.2.1, HK.out, HS6.out.2.2.2⟩
  clear HS6 HK
  go_wp2_with fail
  clear cl6
  go_loopw [35] (fun v wr => ∃ i : Nat, v = .int .i64 (i : Int) ∧ i ≤ n3 ∧ Hid (WB B b (T6 ++ pN (li.take i)) wr ∧ Below B w wr ∧ wr.heap[bb]? = some (.cells #[.int .i64 k, .bool fd, .string ⟨sp.toArray⟩, .string ⟨wi.toArray⟩, .slice p1 n1 c1, .slice p2 n2 c2, .string ⟨fi.toArray⟩, .slice p3 n3 c3, .bool mo] 30 (0, 0)) ∧ KT w0 wr ∧ w.heap.size ≤ wr.heap.size)) (fun v _ => n3 - (intOf v).toNat)
  case atStart => exact ⟨0, rfl, Nat.zero_le _, H0⟩
  case round =>
    clear H0
    obtain ⟨i, rfl, hi, HR⟩ := hrel
    by_cases hlt : i < n3
    · have i0 : (0 : Int) ≤ (i : Int) := by omega
      have i1 : (i : Int) < (n3 : Int) := by omega
      obtain ⟨x, hx⟩ : ∃ x, li[i]? = some x := ⟨_, List.getElem?_eq_getElem (by rw [HV.out.2.2.2.2.2.2.1]; exact hlt)⟩
      obtain ⟨g, o0, rfl, hcx⟩ := (HV.out.1 wr HR.out.2.1).2.2 wr (Below.refl _ _) i x hx
      have hs := pN_succ hx
      have hle := pN_le li (i + 1)
      rw [hs, List.length_append] at hle
      have HI := indented_any B b (T6 ++ pN (li.take i)) x wr HR.out.1 (by have := HL.out.2.2.2.2.2.2.1; rw [List.length_append]; simp [pI] at hle; omega) (Nat.le_trans HBW.out HR.out.2.2.2.2)
      have HSU : Hid (pN (li.take (i + 1)) = pN (li.take i) ++ pI x) := hs
      clear hx hs hle
      go_wp2_with fail
      refine HI.mono ?_
      rintro e w7 ⟨rfl, a7, b7, d7⟩
      have HX : Hid (WB B b (T6 ++ pN (li.take (i + 1))) w7 ∧ Below B w w7 ∧ w7.heap[bb]? = some (.cells #[.int .i64 k, .bool fd, .string ⟨sp.toArray⟩, .string ⟨wi.toArray⟩, .slice p1 n1 c1, .slice p2 n2 c2, .string ⟨fi.toArray⟩, .slice (some ⟨g, o0, none⟩) n3 c3, .bool mo] 30 (0, 0)) ∧ KT w0 w7 ∧ w.heap.size ≤ w7.heap.size) := ⟨by rw [HSU.out, ← List.append_assoc]; exact a7, HR.out.2.1.trans b7, d7 bb _ _ _ HR.out.2.2.1 (by decide) (by decide), HR.out.2.2.2.1.trans d7, Nat.le_trans HR.out.2.2.2.2 b7.size⟩
      clear HI a7 b7 d7 hcx HSU HR
      go_wp2_with fail
      go_roundw
      case rel => exact ⟨i + 1, by go_num, by omega, HX⟩
      case measure => simp [intOf]; omega
    · have i1 : ¬ (i : Int) < (n3 : Int) := by omega
      have cl7 := (cellsZ HR.out.2.2.1).1
      have HF : Hid (WB B b (T6 ++ pN li) wr) := by
        have := HR.out.1
        rw [List.take_of_length_le (by rw [HV.out.2.2.2.2.2.2.1]; omega)] at this
        exact this
      have HKA : Hid (KT w w0) := by unfold Hid; rw [← HW0.out]; exact KT_below (belAZ (Below.refl _ _) _)
      cases mo
      · have HE : Hid (QW B b l (rnR ⟨k, fd, sp, wi, po, en, fi, li, false⟩) w (.returned (.tuple #[])) wr) := ⟨rfl, by rw [hall.out]; show WB B b (T6 ++ pN li ++ []) wr; rw [List.append_nil]; exact HF.out, HR.out.2.1, HKA.out.trans HR.out.2.2.2.1⟩
        clear HR HF HKA
        go_wp2_with fail
        go_end0
        exact HE.out
      · have HI := indented_any B b (T6 ++ pN li) [109, 111, 114, 101] wr HF.out (by have := HL.out.2.2.2.2.2.2.1; rw [List.length_append]; simp; omega) (Nat.le_trans HBW.out HR.out.2.2.2.2)
        go_wp2_with fail
        refine HI.mono ?_
        rintro e w7 ⟨rfl, a7, b7, d7⟩
        have HE : Hid (QW B b l (rnR ⟨k, fd, sp, wi, po, en, fi, li, true⟩) w (.returned (.tuple #[])) w7) := ⟨rfl, by rw [hall.out]; exact a7, HR.out.2.1.trans b7, HKA.out.trans (HR.out.2.2.2.1.trans d7)⟩
        clear HI a7 b7 d7 HR HF HKA
        go_wp2_with fail
        go_end0
        exact HE.out
end Go.Proofs.YtfhlgncpleleaaaDoor

import Derived.Test.YtcojcfocnemclaaDoorPE
import Derived.Test.YtcojcfocnemclaaDoorPI
import Derived.Test.YtcojcfocnemclaaDoorLK
import Derived.Test.YtcojcfocnemclaaDoorLN
import Derived.Test.YtcojcfocnemclaaDoorLS
import Derived.Test.YtcojcfocnemclaaDoorLR
import Derived.Test.YtcojcfocnemclaaDoorLT
import Derived.Laws.Runes
import Derived.Laws.Cover4
namespace Go.Proofs.YtcojcfocnemclaaDoor
open Go.RowKit Go.Shelf
theorem OB.spoilP {W : World} {B g n c i : Nat} {l : List UInt8} (h : OB W B (.slice (some ⟨g, 0, none⟩) n c) l) (y : UInt8) : OB (W.setCell ⟨g, i, none⟩ (.int .u8 (y.toNat : Int))) B (.slice (some ⟨g, 0, none⟩) n c) (l.set i y) ∧ W.grownBy (W.setCell ⟨g, i, none⟩ (.int .u8 (y.toNat : Int))) (some g) := by
  have hl : l.length = n := by
    obtain ⟨p', c', e, -⟩ := h.shape
    injection e with _ e _
    exact e.symm
  have hh : W.ownsRow B 5 1 (.slice (some ⟨g, 0, none⟩) n c) n (Lib.byteCells l) := by
    have := h
    unfold OB at this
    rw [hl] at this
    exact this
  obtain ⟨s1, s2⟩ := World.ownsRow.stored hh i (.int .u8 (y.toNat : Int))
  refine ⟨?_, s2⟩
  unfold OB
  rw [List.length_set, hl, show Lib.byteCells (l.set i y) = (Lib.byteCells l).set i (.int .u8 (y.toNat : Int)) by simp [Lib.byteCells, List.map_set]]
  exact s1
theorem OS.len {W : World} {B n c : Nat} {p : Option Addr} {l : List (List UInt8)} (h : OS W B (.slice p n c) l) : l.length = n := by
  obtain ⟨q, d, e⟩ := shapeZ h
  injection e with _ e _
  exact e.symm
theorem OS.spoil {W : World} {B g n c i : Nat} {l : List (List UInt8)} (h : OS W B (.slice (some ⟨g, 0, none⟩) n c) l) (y : List UInt8) : OS (W.setCell ⟨g, i, none⟩ (.string ⟨y.toArray⟩)) B (.slice (some ⟨g, 0, none⟩) n c) (l.set i y) ∧ W.grownBy (W.setCell ⟨g, i, none⟩ (.string ⟨y.toArray⟩)) (some g) := by
  have hl := h.len
  have hh : W.ownsRow B 9 1 (.slice (some ⟨g, 0, none⟩) n c) n (stZ l) := by
    have := h
    unfold OS at this
    rw [hl] at this
    exact this
  obtain ⟨s1, s2⟩ := World.ownsRow.stored hh i (.string ⟨y.toArray⟩)
  refine ⟨?_, s2⟩
  unfold OS
  rw [List.length_set, hl, show stZ (l.set i y) = (stZ l).set i (.string ⟨y.toArray⟩) by simp [stZ, List.map_set]]
  exact s1
/-- what stands between the rounds -/
structure PST (w : World) (pd : Option Addr) (nd cd : Nat) (pl : Option Addr) (nl cl : Nat) (D : List UInt8) (L : List (List UInt8)) (W : World) : Prop where
  od : OB W w.heap.size (.slice pd nd cd) D
  ol : OS W w.heap.size (.slice pl nl cl) L
  ld : D.length = nd
  ll : L.length = nl
  lb : LB L
  be : Below w.heap.size w W
  ne : ∀ b, Value.ownBlock (.slice pd nd cd) = some b → Value.ownBlock (.slice pl nl cl) ≠ some b
theorem PST.below {w : World} {pd : Option Addr} {nd cd : Nat} {pl : Option Addr} {nl cl : Nat} {D : List UInt8} {L : List (List UInt8)} {W X : World} (h : PST w pd nd cd pl nl cl D L W) (hb : Below W.heap.size W X) : PST w pd nd cd pl nl cl D L X :=
  ⟨h.od.below hb, h.ol.below hb, h.ld, h.ll, h.lb, bel0Z h.be hb, h.ne⟩
theorem PST.setd {w : World} {g nd cd : Nat} {pl : Option Addr} {nl cl : Nat} {D : List UInt8} {L : List (List UInt8)} {W : World} (h : PST w (some ⟨g, 0, none⟩) nd cd pl nl cl D L W) (i : Nat) (y : UInt8) : PST w (some ⟨g, 0, none⟩) nd cd pl nl cl (D.set i y) L (W.setCell ⟨g, i, none⟩ (.int .u8 (y.toNat : Int))) := by
  obtain ⟨h1, h2⟩ := h.od.spoilP (i := i) y
  refine ⟨h1, World.ownsRow.kept h.ol h2 ?_, by rw [List.length_set]; exact h.ld, h.ll, h.lb, bel_grZ h.be h2 (fun k e => by cases e; exact (World.ownsRow.lt h.od g rfl).1), h.ne⟩
  exact .inr (h.ne g rfl)
theorem LB.set {L : List (List UInt8)} (h : LB L) (i : Nat) {y : List UInt8} (hy : y.length ≤ 281474976710656) : LB (L.set i y) := fun x hx => by
  rcases List.mem_or_eq_of_mem_set hx with h1 | rfl
  · exact h x h1
  · exact hy
theorem PST.setl {w : World} {g nd cd : Nat} {pd : Option Addr} {nl cl : Nat} {D : List UInt8} {L : List (List UInt8)} {W : World} (h : PST w pd nd cd (some ⟨g, 0, none⟩) nl cl D L W) (i : Nat) (y : List UInt8) (hy : y.length ≤ 281474976710656) : PST w pd nd cd (some ⟨g, 0, none⟩) nl cl D (L.set i y) (W.setCell ⟨g, i, none⟩ (.string ⟨y.toArray⟩)) := by
  obtain ⟨h1, h2⟩ := h.ol.spoil (i := i) y
  refine ⟨World.ownsRow.kept h.od h2 ?_, h1, h.ld, by rw [List.length_set]; exact h.ll, h.lb.set i hy, bel_grZ h.be h2 (fun k e => by cases e; exact (World.ownsRow.lt h.ol g rfl).1), h.ne⟩
  exact .inr (fun e => h.ne g e rfl)
theorem ba_self (x : ByteArray) : x = ⟨x.data.toList.toArray⟩ := by
  cases x
  simp
/-- numbers lie there -/
def IRW (w : World) (p : Option Addr) (n : Nat) : Prop := ∀ i, i < n → ∃ (g o : Nat) (z : Int), p = some ⟨g, o, none⟩ ∧ w.cell? ⟨g, o + i, none⟩ = some (.int .i64 z) ∧ -9223372036854775808 ≤ z ∧ z ≤ 9223372036854775807
theorem IRW.below {w w' : World} {p : Option Addr} {n : Nat} (h : IRW w p n) (hb : Below w.heap.size w w') : IRW w' p n := fun i hi => by
  obtain ⟨g, o, z, rfl, c, h1, h2⟩ := h i hi
  exact ⟨g, o, z, rfl, (hb.cell (World.block_lt_of_cell? w _ c)).trans c, h1, h2⟩
set_option maxRecDepth 100000 in
set_option maxHeartbeats 8000000 in
theorem ledgerPlaces_walk (D : List UInt8) (p : Option Addr) (n c : Nat) (L : List (List UInt8)) (pl : Option Addr) (nl cl : Nat) (pa : Option Addr) (na ca : Nat) (w : World) (hn : D.length = n) (_ : n ≤ c) (hr : BR w p D) (hnl : L.length = nl) (hrl : TR w pl L) (hxl : LB L) (hra : IRW w pa na) (_ : na ≤ 281474976710656) (ht : TBL w) :
    Calls Tryd.prog 4 #[.slice p n c, .slice pl nl cl, .slice pa na ca] w fun e w' => e = .returned (.bool true) ∧ Below w.heap.size w w' := by
  have HR : Hid (BR w p D) := hr
  have HN : Hid (D.length = n) := hn
  have HRL : Hid (TR w pl L) := hrl
  have HNL : Hid (L.length = nl) := hnl
  have HX : Hid (LB L) := hxl
  have HA : Hid (∀ W, Below w.heap.size w W → IRW W pa na) := fun W h => hra.below h
  have HT : Hid (∀ W, Below w.heap.size w W → TBL W) := fun W h => ht.below h
  clear hr hn hrl hnl hxl hra ht
  have HFX := fixed_any w
  have hA : ∀ (W : World) (o : Obj), Below w.heap.size w W → Below w.heap.size w (W.alloc o) := fun W o h => belAZ h o
  by_cases h1 : 200000 < n
  · have h1' : (200000 : Int) < (n : Int) := by omega
    go_enter Tryd.func4, Tryd.ntmps4
    go_wp2_with fail
    refine HFX.mono ?_
    rintro e w1 ⟨rfl, b1⟩
    go_wp2_with fail
    go_ret
    exact ⟨rfl, b1⟩
  have h1' : ¬ (200000 : Int) < (n : Int) := by omega
  by_cases h2 : 64 < nl
  · have h2' : (64 : Int) < (nl : Int) := by omega
    go_enter Tryd.func4, Tryd.ntmps4
    go_wp2_with fail
    refine HFX.mono ?_
    rintro e w1 ⟨rfl, b1⟩
    go_wp2_with fail
    go_ret
    exact ⟨rfl, b1⟩
  have h2' : ¬ (64 : Int) < (nl : Int) := by omega
  go_enter Tryd.func4, Tryd.ntmps4
  go_wp2_with fail
  refine HFX.mono ?_
  rintro e w1 ⟨rfl, b1⟩
  have HB1 : Hid (Below w.heap.size w w1) := b1
  clear b1 HFX
  go_wp2_with (at_builtin; refine app_bytes rfl _ _ rfl w1.heap.size _ [] rfl (OB_empty (alloc_getZ _ _) (Nat.le_refl _)) _ _ _ D rfl HN.out (HR.out.below (hA _ _ HB1.out)) (by rw [List.length_nil]; omega) (belAZ (Below.refl _ _) _).size ?_)
  intro v2 W2 o2 g2 _
  have b2 : Below w1.heap.size w1 W2 := bel_grZ (belAZ (Below.refl _ _) _) g2 (fun k e => by cases e; exact Nat.le_refl _)
  obtain ⟨pd, cd, rfl, hcd⟩ := OB.shape o2
  have HO2 : Hid (OB W2 w1.heap.size (.slice pd D.length cd) D) := o2
  have HB2 : Hid (Below w.heap.size w W2) := bel0Z HB1.out b2
  clear o2 g2 b2
  go_wp2_with (at_builtin; refine app_strs rfl _ _ rfl W2.heap.size _ [] rfl (OS_empty (alloc_getZ _ _) (Nat.le_refl _)) _ _ _ L rfl HNL.out (HRL.out.below (hA _ _ HB2.out)) (by rw [List.length_nil]; omega) (belAZ (Below.refl _ _) _).size ?_)
  intro v3 W3 o3 g3 _
  have b3 : Below W2.heap.size W2 W3 := bel_grZ (belAZ (Below.refl _ _) _) g3 (fun k e => by cases e; exact Nat.le_refl _)
  obtain ⟨ql, dl, rfl⟩ := shapeZ o3
  have HP3 : Hid (PST w pd n cd ql nl dl D L W3) := by
    have h5 := HO2.out.below b3
    rw [HN.out] at h5
    have h6 : OS W3 W2.heap.size (.slice ql nl dl) L := by
      have h7 : OS W3 W2.heap.size (.slice ql L.length dl) L := o3
      rw [HNL.out] at h7
      exact h7
    refine ⟨own_baseZ h5 HB1.out.size, own_baseZ h6 HB2.out.size, HN.out, HNL.out, HX.out, bel0Z HB2.out b3, fun b e1 e2 => ?_⟩
    have h8 := (World.ownsRow.lt h6 b e2).1
    have h9 := (World.ownsRow.lt HO2.out b (by rw [HN.out]; exact e1)).2
    omega
  simp only [HN.out, HNL.out]
  clear o3 g3 b3 HO2 HB2 HB1 HR HRL HX
  go_wp2_with fail
  go_loopw [10] (fun vi wr => ∃ i : Nat, vi = .int .i64 i ∧ i ≤ 12 ∧ Hid (∃ D2 L2, PST w pd n cd ql nl dl D2 L2 wr)) (fun vi _ => 12 - (intOf vi).toNat)
  case atStart => exact ⟨0, rfl, by decide, _, _, HP3.out⟩
  case round =>
    clear HP3
    obtain ⟨i, rfl, hi, HI⟩ := hrel
    obtain ⟨D, L, hP⟩ := HI.out
    have HP : Hid (PST w pd n cd ql nl dl D L wr) := hP
    clear hP HI HN HNL
    by_cases hlt : i ≤ na ∧ i < 12
    · obtain ⟨hl1, hl2⟩ := hlt
      have j1 : (i : Int) ≤ (na : Int) := by omega
      have j2 : (i : Int) < 12 := by omega
      clear hl1
      have hcd : n ≤ cd := by obtain ⟨q, d, e, h⟩ := HP.out.od.shape; injection e with _ e1 e2; omega
      have hRD := read_any D pd n cd 0 wr HP.out.ld (by omega) hcd HP.out.od.br
      obtain ⟨RC, hRC⟩ : ∃ RC, rcR D 0 = RC := ⟨_, rfl⟩
      obtain ⟨RN, hRN⟩ : ∃ RN, rcN D 0 = RN := ⟨_, rfl⟩
      obtain ⟨RE, hRE⟩ : ∃ RE, rcE D 0 = RE := ⟨_, rfl⟩
      obtain ⟨rs, rk, rt⟩ := RC
      have HRQ : Hid (∀ w e w', RDQ D 0 w e w' → e = .returned (.tuple #[.agg #[.int .i64 (rs : Int), .int .i64 (rk : Int), .string ⟨rt.toArray⟩], .int .i64 RN, .int .i64 (RE : Int)]) ∧ Below w.heap.size w w') := fun w e w' h => by
        obtain ⟨h3, h4⟩ := h
        rw [hRC, hRN, hRE] at h3
        exact ⟨h3, h4⟩
      clear hRC hRN hRE
      go_wp2_with fail
      refine (hRD.mono (HRQ.out _)).mono ?_
      rintro e W2 ⟨rfl, b2⟩
      have HP2 : Hid (PST w pd n cd ql nl dl D L W2) := HP.out.below b2
      clear b2 hRD HP
      obtain ⟨B1, hB1⟩ : ∃ B1, W2.heap.size = B1 := ⟨_, rfl⟩
      have bA := belAZ (Below.refl W2.heap.size W2) (.cells #[.int .i64 (rs : Int), .int .i64 (rk : Int), .string ⟨rt.toArray⟩] 35 (0, 0))
      have hg1 := alloc_getZ W2 (.cells #[.int .i64 (rs : Int), .int .i64 (rk : Int), .string ⟨rt.toArray⟩] 35 (0, 0))
      go_upto_region 10 with fail
      obtain ⟨W3, hW3⟩ : ∃ W3, W2.alloc (.cells #[.int .i64 (rs : Int), .int .i64 (rk : Int), .string ⟨rt.toArray⟩] 35 (0, 0)) = W3 := ⟨_, rfl⟩
      rw [hW3] at bA hg1 ⊢
      rw [hB1] at hg1
      have HP3 : Hid (PST w pd n cd ql nl dl D L W3) := HP2.out.below bA
      have HG3 : Hid (W3.heap[B1]? = some (.cells #[.int .i64 (rs : Int), .int .i64 (rk : Int), .string ⟨rt.toArray⟩] 35 (0, 0))) := hg1
      clear bA hg1 hW3 hB1 HP2
      go_wp2_with (at_builtin; refine app_bytes rfl _ _ rfl W3.heap.size _ [] rfl (OB_empty (alloc_getZ _ _) (Nat.le_refl _)) _ _ _ D rfl HP3.out.ld ((HP3.out.below (belAZ (Below.refl _ _) _)).od.br) (by rw [List.length_nil]; omega) (belAZ (Below.refl _ _) _).size ?_)
      intro v3c W3c o3 g3 _
      have b3c : Below W3.heap.size W3 W3c := bel_grZ (belAZ (Below.refl _ _) _) g3 (fun k e => by cases e; exact Nat.le_refl _)
      obtain ⟨q3, d3, rfl, hq3⟩ := OB.shape o3
      have HQ3 : Hid (BR W3c q3 D) := OB.br o3
      have HP3c : Hid (PST w pd n cd ql nl dl D L W3c) := HP3.out.below b3c
      have HG3c : Hid (W3c.heap[B1]? = some (.cells #[.int .i64 (rs : Int), .int .i64 (rk : Int), .string ⟨rt.toArray⟩] 35 (0, 0))) := keepZ b3c HG3.out
      rw [HP3.out.ld] at hq3 ⊢
      clear o3 g3 b3c HG3 HP3
      have hDR := dread_any D q3 n d3 0 W3c HP3c.out.ld (by omega) hq3 HQ3.out
      go_wp2_with fail
      refine (hDR.mono (HRQ.out _)).mono ?_
      rintro e W4 ⟨rfl, b4⟩
      have HP4 : Hid (PST w pd n cd ql nl dl D L W4) := HP3c.out.below b4
      have HG4 : Hid (W4.heap[B1]? = some (.cells #[.int .i64 (rs : Int), .int .i64 (rk : Int), .string ⟨rt.toArray⟩] 35 (0, 0))) := keepZ b4 HG3c.out
      clear b4 hDR HP3c HG3c HQ3
      obtain ⟨B2, hB2⟩ : ∃ B2, W4.heap.size = B2 := ⟨_, rfl⟩
      have bA := belAZ (Below.refl W4.heap.size W4) (.cells #[.int .i64 (rs : Int), .int .i64 (rk : Int), .string ⟨rt.toArray⟩] 35 (0, 0))
      have hg1 := alloc_getZ W4 (.cells #[.int .i64 (rs : Int), .int .i64 (rk : Int), .string ⟨rt.toArray⟩] 35 (0, 0))
      go_upto_region 11 with fail
      obtain ⟨W5, hW5⟩ : ∃ W5, W4.alloc (.cells #[.int .i64 (rs : Int), .int .i64 (rk : Int), .string ⟨rt.toArray⟩] 35 (0, 0)) = W5 := ⟨_, rfl⟩
      rw [hW5] at bA hg1 ⊢
      rw [hB2] at hg1
      have HP5 : Hid (PST w pd n cd ql nl dl D L W5) := HP4.out.below bA
      have HG5 : Hid (W5.heap[B1]? = some (.cells #[.int .i64 (rs : Int), .int .i64 (rk : Int), .string ⟨rt.toArray⟩] 35 (0, 0)) ∧ W5.heap[B2]? = some (.cells #[.int .i64 (rs : Int), .int .i64 (rk : Int), .string ⟨rt.toArray⟩] 35 (0, 0))) := ⟨keepZ bA HG4.out, hg1⟩
      clear bA hg1 hW5 hB2 HP4 HG4 HRQ
      have hWH := whole_any D pd n cd W5 HP5.out.ld (by omega) hcd HP5.out.od.br
      obtain ⟨R, hR⟩ : ∃ R, whL 1 D = R := ⟨_, rfl⟩
      obtain ⟨NL, hNL⟩ : ∃ NL, R.length = NL := ⟨_, rfl⟩
      have hlb : NL ≤ 200000 := by
        have h5 := plc_len (D := D) (k := (whL 1 D).length) (Nat.le_refl _)
        have h6 := plc_le (D := D) (k := (whL 1 D).length) (Nat.le_refl _)
        rw [HP5.out.ld] at h6
        rw [hR, hNL] at h5 h6
        omega
      obtain ⟨PE, hPE⟩ : ∃ PE, plc D NL = PE := ⟨_, rfl⟩
      obtain ⟨EE, hEE⟩ : ∃ EE, whE 1 D = EE := ⟨_, rfl⟩
      have HNL : Hid (R.length = NL) := hNL
      have HWQ : Hid (∀ w e w', WHQ D w e w' → ∃ p c, e = .returned (.tuple #[.slice p NL c, .int .i64 (PE : Int), .int .i64 (EE : Int)]) ∧ RR w' p R ∧ Below w.heap.size w w') := fun w e w' h => by
        obtain ⟨v, h1, h2, h3⟩ := h
        rw [hR] at h2
        obtain ⟨p, c, rfl⟩ := h2.shape
        rw [hR, hNL, hPE, hEE] at h1
        exact ⟨p, c, h1, h2.rr, h3⟩
      clear hR hNL hPE hEE
      go_wp2_with fail
      refine (hWH.mono (HWQ.out _)).mono ?_
      rintro e W6 ⟨p6, c6, rfl, r6, b6⟩
      have HP6 : Hid (PST w pd n cd ql nl dl D L W6) := HP5.out.below b6
      have HG6 : Hid (W6.heap[B1]? = some (.cells #[.int .i64 (rs : Int), .int .i64 (rk : Int), .string ⟨rt.toArray⟩] 35 (0, 0)) ∧ W6.heap[B2]? = some (.cells #[.int .i64 (rs : Int), .int .i64 (rk : Int), .string ⟨rt.toArray⟩] 35 (0, 0)) ∧ RR W6 p6 R) := ⟨keepZ b6 HG5.out.1, keepZ b6 HG5.out.2, r6⟩
      clear b6 r6 hWH HP5 HG5
      go_wp2_with (at_builtin; refine app_bytes rfl _ _ rfl W6.heap.size _ [] rfl (OB_empty (alloc_getZ _ _) (Nat.le_refl _)) _ _ _ D rfl HP6.out.ld ((HP6.out.below (belAZ (Below.refl _ _) _)).od.br) (by rw [List.length_nil]; omega) (belAZ (Below.refl _ _) _).size ?_)
      intro v6c W6c o6 g6 _
      have b6c : Below W6.heap.size W6 W6c := bel_grZ (belAZ (Below.refl _ _) _) g6 (fun k e => by cases e; exact Nat.le_refl _)
      obtain ⟨q6, d6, rfl, hq6⟩ := OB.shape o6
      have HQ6 : Hid (BR W6c q6 D) := OB.br o6
      have HP6c : Hid (PST w pd n cd ql nl dl D L W6c) := HP6.out.below b6c
      have HG6c : Hid (W6c.heap[B1]? = some (.cells #[.int .i64 (rs : Int), .int .i64 (rk : Int), .string ⟨rt.toArray⟩] 35 (0, 0)) ∧ W6c.heap[B2]? = some (.cells #[.int .i64 (rs : Int), .int .i64 (rk : Int), .string ⟨rt.toArray⟩] 35 (0, 0)) ∧ RR W6c p6 R) := ⟨keepZ b6c HG6.out.1, keepZ b6c HG6.out.2.1, HG6.out.2.2.below b6c⟩
      rw [HP6.out.ld] at hq6 ⊢
      clear o6 g6 b6c HG6 HP6
      have hDW := dwhole_any D q6 n d6 W6c HP6c.out.ld (by omega) hq6 HQ6.out
      go_wp2_with fail
      refine (hDW.mono (HWQ.out _)).mono ?_
      rintro e W7 ⟨p7, c7, rfl, r7, b7⟩
      have HP7 : Hid (PST w pd n cd ql nl dl D L W7) := HP6c.out.below b7
      have HRC := records_any R p6 p7 c6 c7 NL W7 HNL.out (by omega) (HG6c.out.2.2.below b7) r7
      have k1 := (cellsZ (keepZ b7 HG6c.out.1)).1
      have k2 := (cellsZ (keepZ b7 HG6c.out.2.1)).1
      clear b7 hDW HP6c HG6c HQ6 r7 HWQ
      go_wp2_with fail
      refine HRC.mono ?_
      rintro e W8 ⟨rfl, b8⟩
      have HP8 : Hid (PST w pd n cd ql nl dl D L W8) := HP7.out.below b8
      clear b8 HRC HP7 k1 k2
      have hPK := pack_any L ql nl dl W8 HP8.out.ll (by omega) (HT.out W8 HP8.out.be) HP8.out.ol.tr HP8.out.lb
      obtain ⟨PS, hPS⟩ : ∃ PS, pkS L = PS := ⟨_, rfl⟩
      obtain ⟨PF, hPF⟩ : ∃ PF, pkE L = PF := ⟨_, rfl⟩
      have HPQ : Hid (∀ w e w', PKQ L w e w' → e = .returned (.tuple #[.string ⟨PS.toArray⟩, .int .i64 (PF : Int)]) ∧ Below w.heap.size w w') := fun w e w' h => by rw [← hPS, ← hPF]; exact h
      clear hPS hPF
      go_wp2_with fail
      refine (hPK.mono (HPQ.out _)).mono ?_
      rintro e W9 ⟨rfl, b9⟩
      have HP9 : Hid (PST w pd n cd ql nl dl D L W9) := HP8.out.below b9
      clear b9 hPK HP8
      go_wp2_with (at_builtin; refine app_strs rfl _ _ rfl W9.heap.size _ [] rfl (OS_empty (alloc_getZ _ _) (Nat.le_refl _)) _ _ _ L rfl HP9.out.ll ((HP9.out.below (belAZ (Below.refl _ _) _)).ol.tr) (by rw [List.length_nil]; omega) (belAZ (Below.refl _ _) _).size ?_)
      intro v9c W9c o9 g9 _
      have b9c : Below W9.heap.size W9 W9c := bel_grZ (belAZ (Below.refl _ _) _) g9 (fun k e => by cases e; exact Nat.le_refl _)
      obtain ⟨q9, d9, rfl⟩ := shapeZ o9
      have HQ9 : Hid (TR W9c q9 L) := OS.tr o9
      have HP9c : Hid (PST w pd n cd ql nl dl D L W9c) := HP9.out.below b9c
      rw [HP9.out.ll]
      clear o9 g9 b9c HP9
      have hDP := dpack_any L q9 nl d9 W9c HP9c.out.ll (by omega) (HT.out W9c HP9c.out.be) HQ9.out HP9c.out.lb
      go_wp2_with fail
      refine (hDP.mono (HPQ.out _)).mono ?_
      rintro e W10 ⟨rfl, b10⟩
      have HP10 : Hid (PST w pd n cd ql nl dl D L W10) := HP9c.out.below b10
      clear b10 hDP HP9c HQ9 HPQ
      have hSM := sum_any D pd cd W10 (by rw [HP10.out.ld]; omega) HP10.out.od.br
      obtain ⟨SN, hSN⟩ : ∃ SN, sumN D = SN := ⟨_, rfl⟩
      have HSD : Hid (∀ W, BR W pd D → Calls Tryd.prog 19 #[.slice pd n cd] W fun e w' => e = .returned (.int .i64 SN) ∧ w' = W) := fun W h => by
        have := dsum_any D pd cd W (by rw [HP10.out.ld]; omega) h
        rw [HP10.out.ld, hSN] at this
        exact this
      rw [HP10.out.ld, hSN] at hSM
      clear hSN
      go_wp2_with fail
      refine hSM.mono ?_
      rintro e W11 ⟨rfl, b11⟩
      have HP11 : Hid (PST w pd n cd ql nl dl D L W11) := HP10.out.below b11
      clear b11 hSM HP10
      have hSS := HSD.out W11 HP11.out.od.br
      go_wp2_with fail
      refine hSS.mono ?_
      rintro e W12 ⟨rfl, h12⟩
      obtain rfl := h12.symm
      clear hSS HSD
      by_cases hin : i < na
      · obtain ⟨ga, oa, z, hpa, cz, z0, z1⟩ := (HA.out W11 HP11.out.be) i hin
        subst hpa
        have j5 : (i : Int) < (na : Int) := by omega
        have j6 : (0 : Int) ≤ (i : Int) := by omega
        by_cases hnz : n = 0
        · have y0 : ¬ (0 : Int) < (n : Int) := by omega
          clear hnz
          by_cases hlz : nl = 0
          · have x0 : ¬ (0 : Int) < (nl : Int) := by omega
            clear hlz
            go_wp2_with fail
            exact ⟨⟨i + 1, rfl, by omega, _, _, HP11.out⟩, by simp only [intOf]; omega⟩
          · obtain ⟨gl, hgl⟩ := own_someZ HP11.out.ol (by rw [HP11.out.ll]; omega)
            subst hgl
            have hSL := spot_any z nl W11 z0 z1 (by omega) (by omega)
            have x0 : (0 : Int) < (nl : Int) := by omega
            go_wp2_with fail
            refine hSL.mono ?_
            rintro e WY ⟨⟨sl, rfl, hsl⟩, hWY⟩
            obtain rfl := hWY.symm
            clear hSL
            obtain ⟨xl, hxl⟩ : ∃ x, L[sl]? = some x := ⟨_, List.getElem?_eq_getElem (by rw [HP11.out.ll]; exact hsl)⟩
            have hcl : W11.cell? ⟨gl, sl, none⟩ = some (.string ⟨xl.toArray⟩) := own_atZ HP11.out.ol (stZ_at hxl)
            have hfl : W11.frozen? ⟨gl, sl, none⟩ = false := by
              have h := HP11.out.ol
              unfold OS at h
              rw [HP11.out.ll] at h
              exact World.ownsRow.frozenAt h sl
            have x1 : (0 : Int) ≤ (sl : Int) := by omega
            have x2 : (sl : Int) < (nl : Int) := by omega
            obtain ⟨i97, hi97⟩ : ∃ i97 : Nat, 97 + i = i97 := ⟨_, rfl⟩
            have x3 : (97 : Int) + (i : Int) = (i97 : Int) := by omega
            have x4 : IntKind.i64.wrap (i97 : Int) = (i97 : Int) := by rw [IntKind.wrap_i64]; omega
            have x5 : IntKind.i32.wrap (i97 : Int) = (i97 : Int) := by simp [IntKind.wrap, IntKind.signed, IntKind.bits]; omega
            have x6 := encode_size_le (i97 : Int)
            have x7 : ¬ 9223372036854775807 < 5 + (Utf8.encode (i97 : Int)).size := by omega
            obtain ⟨t, ht⟩ : ∃ t : List UInt8, (⟨#[108, 105, 110, 101, 32]⟩ : ByteArray) ++ Utf8.encode (i97 : Int) = ⟨t.toArray⟩ := ⟨_, ba_self _⟩
            have htl : t.length ≤ 281474976710656 := by
              have h1 := congrArg ByteArray.size ht
              rw [ByteArray.size_append] at h1
              have h2 : (⟨t.toArray⟩ : ByteArray).size = t.length := by simp [ByteArray.size]
              have h3 : (⟨#[108, 105, 110, 101, 32]⟩ : ByteArray).size = 5 := rfl
              omega
            have HPZ : Hid (PST w pd n cd (some ⟨gl, 0, none⟩) nl dl D (L.set sl t) (W11.setCell ⟨gl, sl, none⟩ (.string ⟨t.toArray⟩))) := HP11.out.setl sl t htl
            clear hxl hi97 x6 htl
            go_wp2_with fail
            exact ⟨⟨i + 1, rfl, by omega, _, _, HPZ.out⟩, by simp only [intOf]; omega⟩
        · obtain ⟨gd, hgd⟩ := own_someZ HP11.out.od (by rw [HP11.out.ld]; omega)
          subst hgd
          have hSP := spot_any z n W11 z0 z1 (by omega) (by omega)
          have y0 : (0 : Int) < (n : Int) := by omega
          go_wp2_with fail
          refine hSP.mono ?_
          rintro e WY ⟨⟨sp, rfl, hsp⟩, hWY⟩
          obtain rfl := hWY.symm
          clear hSP
          obtain ⟨x, hx⟩ : ∃ x, D[sp]? = some x := ⟨_, List.getElem?_eq_getElem (by rw [HP11.out.ld]; exact hsp)⟩
          have hcx : W11.cell? ⟨gd, sp, none⟩ = some (.int .u8 (x.toNat : Int)) := own_atZ HP11.out.od (by simp [Lib.byteCells, hx])
          have hfx : W11.frozen? ⟨gd, sp, none⟩ = false := by
            have h := HP11.out.od
            unfold OB at h
            rw [HP11.out.ld] at h
            exact World.ownsRow.frozenAt h sp
          have y1 : (0 : Int) ≤ (sp : Int) := by omega
          have y2 : (sp : Int) < (n : Int) := by omega
          have hxo := u8_xor_nat x.toNat (i + 1) x.toNat_lt (by omega)
          have hxt : (UInt8.ofNat (x.toNat ^^^ (i + 1))).toNat = x.toNat ^^^ (i + 1) := by
            rw [UInt8.toNat_ofNat']
            exact Nat.mod_eq_of_lt (Nat.xor_lt_two_pow (n := 8) x.toNat_lt (by omega))
          rw [← hxt] at hxo
          have y3 : (1 : Int) + (i : Int) = ((i + 1 : Nat) : Int) := by omega
          have y4 : IntKind.u8.wrap ((i + 1 : Nat) : Int) = ((i + 1 : Nat) : Int) := by simp [IntKind.wrap, IntKind.signed, IntKind.bits]; omega
          generalize UInt8.ofNat (x.toNat ^^^ (i + 1)) = y at hxo
          obtain ⟨i1, hi1⟩ : ∃ i1 : Nat, i + 1 = i1 := ⟨_, rfl⟩
          rw [hi1] at hxo y3 y4
          have HPY : Hid (PST w (some ⟨gd, 0, none⟩) n cd ql nl dl (D.set sp y) L (W11.setCell ⟨gd, sp, none⟩ (.int .u8 (y.toNat : Int)))) := HP11.out.setd sp y
          clear hx hxt hi1
          by_cases hlz : nl = 0
          · have x0 : ¬ (0 : Int) < (nl : Int) := by omega
            clear hlz
            go_wp2_with fail
            exact ⟨⟨i + 1, rfl, by omega, _, _, HPY.out⟩, by simp only [intOf]; omega⟩
          · obtain ⟨WZ, hWZ⟩ : ∃ WZ, W11.setCell ⟨gd, sp, none⟩ (.int .u8 (y.toNat : Int)) = WZ := ⟨_, rfl⟩
            rw [hWZ] at HPY
            clear cz z0 z1
            obtain ⟨ga2, oa2, z, hpa, cz, z0, z1⟩ := (HA.out WZ HPY.out.be) i hin
            obtain ⟨rfl, rfl⟩ : ga = ga2 ∧ oa = oa2 := by have h := Option.some.inj hpa; injection h with h1 h2 _; exact ⟨h1, h2⟩
            clear hpa
            obtain ⟨gl, hgl⟩ := own_someZ HPY.out.ol (by rw [HPY.out.ll]; omega)
            subst hgl
            have hSL := spot_any z nl WZ z0 z1 (by omega) (by omega)
            have x0 : (0 : Int) < (nl : Int) := by omega
            go_wp2_with fail
            refine hSL.mono ?_
            rintro e WY ⟨⟨sl, rfl, hsl⟩, hWY⟩
            obtain rfl := hWY.symm
            clear hSL
            obtain ⟨xl, hxl⟩ : ∃ x, L[sl]? = some x := ⟨_, List.getElem?_eq_getElem (by rw [HPY.out.ll]; exact hsl)⟩
            have hcl : WZ.cell? ⟨gl, sl, none⟩ = some (.string ⟨xl.toArray⟩) := own_atZ HPY.out.ol (stZ_at hxl)
            have hfl : WZ.frozen? ⟨gl, sl, none⟩ = false := by
              have h := HPY.out.ol
              unfold OS at h
              rw [HPY.out.ll] at h
              exact World.ownsRow.frozenAt h sl
            have x1 : (0 : Int) ≤ (sl : Int) := by omega
            have x2 : (sl : Int) < (nl : Int) := by omega
            obtain ⟨i97, hi97⟩ : ∃ i97 : Nat, 97 + i = i97 := ⟨_, rfl⟩
            have x3 : (97 : Int) + (i : Int) = (i97 : Int) := by omega
            have x4 : IntKind.i64.wrap (i97 : Int) = (i97 : Int) := by rw [IntKind.wrap_i64]; omega
            have x5 : IntKind.i32.wrap (i97 : Int) = (i97 : Int) := by simp [IntKind.wrap, IntKind.signed, IntKind.bits]; omega
            have x6 := encode_size_le (i97 : Int)
            have x7 : ¬ 9223372036854775807 < 5 + (Utf8.encode (i97 : Int)).size := by omega
            obtain ⟨t, ht⟩ : ∃ t : List UInt8, (⟨#[108, 105, 110, 101, 32]⟩ : ByteArray) ++ Utf8.encode (i97 : Int) = ⟨t.toArray⟩ := ⟨_, ba_self _⟩
            have htl : t.length ≤ 281474976710656 := by
              have h1 := congrArg ByteArray.size ht
              rw [ByteArray.size_append] at h1
              have h2 : (⟨t.toArray⟩ : ByteArray).size = t.length := by simp [ByteArray.size]
              have h3 : (⟨#[108, 105, 110, 101, 32]⟩ : ByteArray).size = 5 := rfl
              omega
            have HPZ : Hid (PST w (some ⟨gd, 0, none⟩) n cd (some ⟨gl, 0, none⟩) nl dl (D.set sp y) (L.set sl t) (WZ.setCell ⟨gl, sl, none⟩ (.string ⟨t.toArray⟩))) := HPY.out.setl sl t htl
            clear hxl hi97 x6 htl
            go_wp2_with fail
            exact ⟨⟨i + 1, rfl, by omega, _, _, HPZ.out⟩, by simp only [intOf]; omega⟩
      · have j5 : ¬ (i : Int) < (na : Int) := by omega
        go_wp2_with fail
        exact ⟨⟨i + 1, rfl, by omega, _, _, HP11.out⟩, by simp only [intOf]; omega⟩
    · have HE : Hid (Below w.heap.size w wr) := HP.out.be
      by_cases hl1 : i ≤ na
      · have j1 : (i : Int) ≤ (na : Int) := by omega
        have j2 : ¬ (i : Int) < 12 := by omega
        clear hlt
        go_wp2_with fail
        go_ret
        exact ⟨rfl, HE.out⟩
      · have j1 : ¬ (i : Int) ≤ (na : Int) := by omega
        clear hlt
        go_wp2_with fail
        go_ret
        exact ⟨rfl, HE.out⟩
end Go.Proofs.YtcojcfocnemclaaDoor

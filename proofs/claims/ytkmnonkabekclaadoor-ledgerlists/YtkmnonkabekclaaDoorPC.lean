import Derived.Test.YtkmnonkabekclaaDoorPB
namespace Go.Proofs.YtkmnonkabekclaaDoor
open Go.RowKit Go.Shelf
theorem wr_inP {n : Int} (h : -9223372036854775808 ≤ n ∧ n ≤ 9223372036854775807) : wrap64 n = n := by unfold wrap64; omega
/-- a line, packed -/
def pk1 (x : List UInt8) : List UInt8 := itL (x.length : Int) ++ [58] ++ x
def pkT (L : List (List UInt8)) : List UInt8 := L.flatMap pk1
theorem pkT_succ {L : List (List UInt8)} {i : Nat} {x : List UInt8} (h : L[i]? = some x) : pkT (L.take (i + 1)) = pkT (L.take i) ++ pk1 x := by
  unfold pkT
  rw [List.take_add_one, h, Option.toList_some, List.flatMap_append]
  simp
theorem pkT_le (L : List (List UInt8)) (i : Nat) : (pkT (L.take i)).length ≤ (pkT L).length := by
  have : pkT L = pkT (L.take i) ++ pkT (L.drop i) := by
    unfold pkT
    rw [← List.flatMap_append, List.take_append_drop]
  rw [this, List.length_append]
  omega
def pkE (L : List (List UInt8)) : Nat := if (pkT L).length ≤ 16384 then 0 else 2
def pkS (L : List (List UInt8)) : List UInt8 := if (pkT L).length ≤ 16384 then pkT L else []
/-- texts lie there -/
def TR (w : World) (p : Option Addr) (L : List (List UInt8)) : Prop := ∀ (k : Nat) (x : List UInt8), L[k]? = some x → ∃ g o, p = some ⟨g, o, none⟩ ∧ w.cell? ⟨g, o + k, none⟩ = some (.string ⟨x.toArray⟩)
theorem TR.below {w w' : World} {p : Option Addr} {L : List (List UInt8)} (h : TR w p L) (hb : Below w.heap.size w w') : TR w' p L := fun k x hx => by
  obtain ⟨g, o, rfl, c⟩ := h k x hx
  exact ⟨g, o, rfl, (hb.cell (World.block_lt_of_cell? w _ c)).trans c⟩
def LB (L : List (List UInt8)) : Prop := ∀ x ∈ L, x.length ≤ 281474976710656
theorem LB.at {L : List (List UInt8)} (h : LB L) {k : Nat} {x : List UInt8} (hx : L[k]? = some x) : x.length ≤ 281474976710656 := h x (List.mem_of_getElem? hx)
/-- what Pack answers -/
def PKQ (L : List (List UInt8)) (w : World) (e : Ending) (w' : World) : Prop := e = .returned (.tuple #[.string ⟨(pkS L).toArray⟩, .int .i64 (pkE L : Int)]) ∧ Below w.heap.size w w'
theorem WB.below {B b : Nat} {l : List UInt8} {w X : World} (h : WB B b l w) (hb : Below w.heap.size w X) : WB B b l X := by
  have at_ : ∀ {p : Value}, Lib.BuilderAt 60 5 B b p (Lib.byteCells l) w → Lib.BuilderAt 60 5 B b p (Lib.byteCells l) X := by
    rintro p ⟨h1, v, h2, h3, h4⟩
    exact ⟨h1, v, keepZ hb h2, own_belZ h3 hb, h4⟩
  rcases h with ⟨h0, h1, h2⟩ | ⟨h0, h⟩
  · exact .inl ⟨h0, h1, keepZ hb h2⟩
  · exact .inr ⟨h0, h.elim (fun x => .inl (at_ x)) (fun x => .inr (at_ x))⟩
theorem ws_wb2 (B b : Nat) (l s : List UInt8) (w : World) (h : WB B b l w) (hs : l ++ s ≠ []) (hlen : l.length + s.length ≤ 140737488355328) (hBw : B ≤ w.heap.size) :
    Calls Tryd.prog 26 #[.pointer (some ⟨b, 0, none⟩), .string ⟨s.toArray⟩] w fun e w' => (∃ v, e = .returned v) ∧ WB B b (l ++ s) w' ∧ Below B w w' := by
  have hz : (⟨s.toArray⟩ : ByteArray).size = s.length := by simp [ByteArray.size]
  have h1 := ws_any B b (Lib.byteCells l) ⟨s.toArray⟩ w h.is (by rw [Lib.byteCells_length, hz]; exact hlen) hBw
  rw [hz] at h1
  refine h1.mono ?_
  rintro e w' ⟨rfl, hb, h2, h3⟩
  refine ⟨⟨_, rfl⟩, .inr ⟨hs, ?_⟩, h2⟩
  rw [Lib.byteCells_append]
  exact hb
theorem res_pk (tmps : Array Value) (W : World) (x y : Value) (h : tmps[2]?.getD undef = x ∧ tmps[3]?.getD undef = y) : (results Tryd.f9 tmps).run Tryd.prog W = .ok (.tuple #[x, y]) W := by
  simp [results, h.1, h.2, go_sem]
set_option maxRecDepth 100000 in
set_option maxHeartbeats 8000000 in
theorem pack_any (L : List (List UInt8)) (p : Option Addr) (n c : Nat) (w : World) (hn : L.length = n) (hL : n ≤ 281474976710656) (ht : TBL w) (hr : TR w p L) (hx : LB L) :
    Calls Tryd.prog 9 #[.slice p n c] w (PKQ L w) := by
  have HT : Hid (TBL w) := ht
  have HR : Hid (TR w p L) := hr
  have HX : Hid (LB L) := hx
  have HN : Hid (L.length = n) := hn
  clear ht hr hx hn
  go_enter Tryd.func9, Tryd.ntmps9
  go_wp2_with fail
  go_loopw [10] (fun vi wr => ∃ i : Nat, vi = .int .i64 i ∧ i ≤ n ∧ Hid (WB w.heap.size w.heap.size (pkT (L.take i)) wr ∧ Below w.heap.size w wr ∧ w.heap.size < wr.heap.size) ∧ (pkT (L.take i)).length ≤ 16384) (fun vi _ => n - (intOf vi).toNat)
  case atStart =>
    exact ⟨0, rfl, Nat.zero_le _, ⟨.inl ⟨by simp [pkT], Nat.le_refl _, alloc_getZ _ _⟩, belAZ (Below.refl _ _) _, by simp⟩, by simp [pkT]⟩
  case round =>
    obtain ⟨i, rfl, hi, HW, hle⟩ := hrel
    by_cases hlt : i < n
    · have j1 : (i : Int) < (n : Int) := by omega
      have j0 : (0 : Int) ≤ (i : Int) := by omega
      obtain ⟨x, hxi⟩ : ∃ x, L[i]? = some x := ⟨_, List.getElem?_eq_getElem (by rw [HN.out]; omega)⟩
      obtain ⟨g, o, rfl, cx⟩ := (HR.out.below HW.out.2.1) i x hxi
      have hxl := HX.out.at hxi
      obtain ⟨A, hA⟩ : ∃ A, pkT (L.take i) = A := ⟨_, rfl⟩
      have HS : Hid (pkT (L.take (i + 1)) = A ++ pk1 x ∧ (pkT (L.take (i + 1))).length ≤ (pkT L).length) := ⟨by rw [pkT_succ hxi, hA], pkT_le _ _⟩
      rw [hA] at HW hle
      have hil := Lib.itoa_length_le (x.length : Int) (by omega) (by omega)
      have HI := itoaU (x.length : Int) (by omega) (by omega) wr (HT.out.below HW.out.2.1)
      obtain ⟨T, hT⟩ : ∃ T, itL (x.length : Int) = T := ⟨_, rfl⟩
      have hil' : T.length ≤ 21 := by rw [← hT]; exact hil
      rw [hT] at HI
      have HPK : Hid (pk1 x = T ++ [58] ++ x) := by rw [← hT]; rfl
      have E1 : Hid ((⟨T.toArray⟩ : ByteArray) ++ ⟨#[58]⟩ = ⟨(T ++ [58]).toArray⟩) := baA' T [58]
      have l1 : ¬ 9223372036854775807 < T.length + 1 := by omega
      clear hil hA hT hxi
      go_wp2_with fail
      refine HI.mono ?_
      rintro e w1 ⟨rfl, b1⟩
      have HW1 : Hid (WB w.heap.size w.heap.size A w1 ∧ Below w.heap.size w w1 ∧ w.heap.size < w1.heap.size) := ⟨HW.out.1.below b1, bel0Z HW.out.2.1 b1, Nat.lt_of_lt_of_le HW.out.2.2 b1.size⟩
      have HLN := len_wb w.heap.size w.heap.size A w1 HW1.out.1
      clear HI b1 HW cx
      go_wp2_with fail
      rw [E1.out]
      obtain ⟨H, hH⟩ : ∃ H, T ++ [58] = H := ⟨_, rfl⟩
      have hHl : H.length = T.length + 1 := by rw [← hH]; simp
      have HPH : Hid (pk1 x = H ++ x ∧ H ≠ []) := ⟨by rw [HPK.out, hH], by rw [← hH]; simp⟩
      rw [hH]
      clear hH HPK E1 l1
      go_wp2_with fail
      refine HLN.mono ?_
      rintro e w2 ⟨rfl, rfl⟩
      clear HLN
      have e1 : wrap64 ((A.length : Int) + (H.length : Int)) = (A.length : Int) + (H.length : Int) := wr_inP (by omega)
      have e2 : wrap64 ((A.length : Int) + (H.length : Int) + (x.length : Int)) = (A.length : Int) + (H.length : Int) + (x.length : Int) := wr_inP (by omega)
      by_cases hbig : 16384 < A.length + H.length + x.length
      · have hb' : (16384 : Int) < (A.length : Int) + (H.length : Int) + (x.length : Int) := by omega
        have HE : Hid (PKQ L w (.returned (.tuple #[.string ⟨#[]⟩, .int .i64 2])) w2) := by
          have h3 : ¬ (pkT L).length ≤ 16384 := by
            have h4 := HS.out.2
            rw [HS.out.1, HPH.out.1] at h4
            simp only [List.length_append] at h4
            omega
          exact ⟨by unfold pkS pkE; rw [if_neg h3, if_neg h3]; rfl, HW1.out.2.1⟩
        go_wp2_with fail
        go_ret2
        exact HE.out
      · have hb' : ¬ (16384 : Int) < (A.length : Int) + (H.length : Int) + (x.length : Int) := by omega
        have H1 := ws_wb2 w.heap.size w.heap.size A H w2 HW1.out.1 (by simp [HPH.out.2]) (by omega) (Nat.le_of_lt HW1.out.2.2)
        go_wp2_with fail
        refine H1.mono ?_
        rintro e w3 ⟨⟨v3, rfl⟩, q3, b3⟩
        have HW3 : Hid (WB w.heap.size w.heap.size (A ++ H) w3 ∧ Below w.heap.size w w3 ∧ w.heap.size < w3.heap.size) := ⟨q3, HW1.out.2.1.trans b3, Nat.lt_of_lt_of_le HW1.out.2.2 b3.size⟩
        have H2 := ws_wb2 w.heap.size w.heap.size (A ++ H) x w3 q3 (by simp [HPH.out.2]) (by rw [List.length_append]; omega) (Nat.le_of_lt HW3.out.2.2)
        clear H1 q3 b3 HW1
        go_wp2_with fail
        refine H2.mono ?_
        rintro e w4 ⟨⟨v4, rfl⟩, q4, b4⟩
        have HW4 : Hid (WB w.heap.size w.heap.size (pkT (L.take (i + 1))) w4 ∧ Below w.heap.size w w4 ∧ w.heap.size < w4.heap.size) := ⟨by rw [HS.out.1, HPH.out.1, ← List.append_assoc]; exact q4, HW3.out.2.1.trans b4, Nat.lt_of_lt_of_le HW3.out.2.2 b4.size⟩
        have hle2 : (pkT (L.take (i + 1))).length ≤ 16384 := by rw [HS.out.1, HPH.out.1]; simp only [List.length_append]; omega
        clear H2 q4 b4 HW3
        go_wp2_with fail
        exact ⟨⟨i + 1, rfl, by omega, HW4, hle2⟩, by simp only [intOf]; omega⟩
    · obtain rfl : i = n := by omega
      have HTL : Hid (L.take i = L) := List.take_of_length_le (by rw [HN.out]; exact Nat.le_refl _)
      rw [HTL.out] at HW hle
      have HB := bstr_any w.heap.size w.heap.size (pkT L) wr HW.out.1
      have HE : Hid (∀ w', Below w.heap.size wr w' → PKQ L w (.returned (.tuple #[.string ⟨(pkT L).toArray⟩, .int .i64 0])) w') := fun w' h => ⟨by unfold pkS pkE; rw [if_pos hle, if_pos hle]; rfl, HW.out.2.1.trans h⟩
      clear hle HTL
      go_wp2_with fail
      refine HB.mono ?_
      rintro e w5 ⟨rfl, b5⟩
      clear HB
      go_wp2_with fail
      go_ret2
      exact HE.out _ b5
end Go.Proofs.YtkmnonkabekclaaDoor

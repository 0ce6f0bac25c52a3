import Derived.Test.YtfhlgncpleleaaaDoorUC
import Derived.Test.YtfhlgncpleleaaaDoorJL
import Derived.Shelf.Strings.OnBuilder
namespace Go.Proofs.YtfhlgncpleleaaaDoor
open Go.RowKit Go.Shelf
theorem baA' (a b : List UInt8) : (⟨a.toArray⟩ : ByteArray) ++ ⟨b.toArray⟩ = ⟨(a ++ b).toArray⟩ := ByteArray.ext (by simp [ByteArray.data_append])
/-- what a method of the writer leaves -/
def QW (B b : Nat) (l x : List UInt8) (w : World) (e : Ending) (w' : World) : Prop := e = .returned (.tuple #[]) ∧ WB B b (l ++ x) w' ∧ Below B w w' ∧ KT w w'
theorem ws_wb (B b : Nat) (l s : List UInt8) (w : World) (h : WB B b l w) (hs : s ≠ []) (hlen : l.length + s.length ≤ 140737488355328) (hBw : B ≤ w.heap.size) :
    Calls Tryd.prog 22 #[.pointer (some ⟨b, 0, none⟩), .string ⟨s.toArray⟩] w fun e w' => e = .returned (.tuple #[.int .i64 (s.length : Int), .nilIface]) ∧ WB B b (l ++ s) w' ∧ Below B w w' ∧ KT w w' := by
  have hz : (⟨s.toArray⟩ : ByteArray).size = s.length := by simp [ByteArray.size]
  have h1 := ws_any B b (Lib.byteCells l) ⟨s.toArray⟩ w h.is (by rw [Lib.byteCells_length, hz]; exact hlen) hBw
  rw [hz] at h1
  refine h1.mono ?_
  rintro e w' ⟨rfl, hb, h2, h3⟩
  refine ⟨rfl, .inr ⟨by simp [hs], ?_⟩, h2, h3⟩
  rw [Lib.byteCells_append]
  exact hb
theorem isq_yes (k : Int) (w : World) (h1 : 0 < k) (h2 : k < 10) : Calls Tryd.prog 21 #[.int .i64 k] w fun e w' => e = .returned (.bool true) ∧ w' = w := by
  have h0 : ¬ k = 0 := by omega
  have h0' : ((k == 0) = false) := by simpa using h0
  have h3 : 0 ≤ k := by omega
  have h9 : (k != 0) = true := by simpa using h0
  clear h1
  go_enter Tryd.func21, Tryd.ntmps21
  go_wp2_with fail
  go_ret
  exact ⟨rfl, rfl⟩
theorem isq_no (k : Int) (w : World) (h : ¬ (0 < k ∧ k < 10)) : Calls Tryd.prog 21 #[.int .i64 k] w fun e w' => e = .returned (.bool false) ∧ w' = w := by
  by_cases h0 : k = 0
  · subst h0
    clear h
    go_enter Tryd.func21, Tryd.ntmps21
    go_wp2_with fail
    go_ret
    exact ⟨rfl, rfl⟩
  · have h0' : ((k == 0) = false) := by simpa using h0
    by_cases h1 : 0 ≤ k
    · have h2 : ¬ k < 10 := by omega
      clear h
      go_enter Tryd.func21, Tryd.ntmps21
      go_wp2_with fail
      go_ret
      exact ⟨rfl, rfl⟩
    · clear h
      go_enter Tryd.func21, Tryd.ntmps21
      go_wp2_with fail
      go_ret
      exact ⟨rfl, rfl⟩
set_option maxRecDepth 100000 in
set_option maxHeartbeats 4000000 in
theorem indented_any (B b : Nat) (l x : List UInt8) (w : World) (h : WB B b l w) (hlen : l.length + x.length + 3 ≤ 140737488355328) (hBw : B ≤ w.heap.size) :
    Calls Tryd.prog 17 #[.pointer (some ⟨b, 0, none⟩), .string ⟨x.toArray⟩] w fun e w' => QW B b l (pI x) w e w' := by
  have HW := ws_wb B b l (pI x) w h (by simp [pI]) (by simp [pI]; omega) hBw
  have l1 : ¬ 9223372036854775807 < 2 + x.length := by omega
  have l2 : ¬ 9223372036854775807 < x.length + 2 + 1 := by omega
  have e1 : (⟨#[32, 32]⟩ : ByteArray) ++ ⟨x.toArray⟩ ++ ⟨#[10]⟩ = ⟨(pI x).toArray⟩ := by
    rw [baA' [32, 32] x, baA' ([32, 32] ++ x) [10]]
    rfl
  have E1 : Hid ((⟨#[32, 32]⟩ : ByteArray) ++ ⟨x.toArray⟩ ++ ⟨#[10]⟩ = ⟨(pI x).toArray⟩) := e1
  clear e1 h
  go_enter Tryd.func17, Tryd.ntmps17
  go_wp2_with fail
  rw [E1.out]
  refine HW.mono ?_
  rintro e w1 ⟨rfl, h1, h2, h3⟩
  go_wp2_with fail
  go_end0
  exact ⟨rfl, h1, h2, h3⟩
set_option maxRecDepth 100000 in
set_option maxHeartbeats 4000000 in
theorem word_any (B b : Nat) (l wd x : List UInt8) (w : World) (h : WB B b l w) (hlen : l.length + wd.length + x.length + 4 ≤ 140737488355328) (hBw : B ≤ w.heap.size) :
    Calls Tryd.prog 15 #[.pointer (some ⟨b, 0, none⟩), .string ⟨wd.toArray⟩, .string ⟨x.toArray⟩] w fun e w' => QW B b l (pW wd x) w e w' := by
  by_cases hx : x = []
  · subst hx
    have hp : pW wd [] = [] := if_pos rfl
    have HE : Hid (QW B b l (pW wd []) w (.returned (.tuple #[])) w) := ⟨rfl, by rw [hp, List.append_nil]; exact h, Below.refl _ _, KT.refl _⟩
    clear h hp
    go_enter Tryd.func15, Tryd.ntmps15
    go_wp2_with fail
    go_end0
    exact HE.out
  · have hx1 : x.isEmpty = false := by simpa using hx
    have HW := indented_any B b l (wd ++ [32] ++ x) w h (by simp; omega) hBw
    have hp : pW wd x = pI (wd ++ [32] ++ x) := if_neg hx
    rw [← hp] at HW
    have l1 : ¬ 9223372036854775807 < wd.length + 1 := by omega
    have l2 : ¬ 9223372036854775807 < wd.length + 1 + x.length := by omega
    have E1 : Hid ((⟨wd.toArray⟩ : ByteArray) ++ ⟨#[32]⟩ ++ ⟨x.toArray⟩ = ⟨(wd ++ [32] ++ x).toArray⟩) := by
      unfold Hid
      rw [baA' wd [32], baA' (wd ++ [32]) x]
    clear h hp hx
    go_enter Tryd.func15, Tryd.ntmps15
    go_wp2_with fail
    rw [E1.out]
    refine HW.mono ?_
    rintro e w1 ⟨rfl, h1, h2, h3⟩
    go_wp2_with fail
    go_end0
    exact ⟨rfl, h1, h2, h3⟩
/-- a list of texts lies there, now and later -/
def LSR (W : World) (p : Option Addr) (L : List (List UInt8)) : Prop := ∀ X, Below W.heap.size W X → ∀ (k : Nat) (x : List UInt8), L[k]? = some x → ∃ g o0, p = some ⟨g, o0, none⟩ ∧ X.cell? ⟨g, o0 + k, none⟩ = some (.string ⟨x.toArray⟩)
theorem LSR.later {W X : World} {p : Option Addr} {L : List (List UInt8)} (h : LSR W p L) (hb : Below W.heap.size W X) : LSR X p L := fun Y hY => h Y (bel0Z hb hY)
theorem bextra : Builder.Extra Tryd.prog Tryd.l156_ren where
  sizeBuilder := by kernel_rfl
  liesBuilder := by kernel_rfl
  t5 := Tryd.underlying5
  a5 := Tryd.isAgg5
  z5 := Tryd.sizeOf5
  v5 := Tryd.zeroValue5
  infoByte := by kernel_rfl
  cellsByte := by kernel_rfl
  sizeByte := by kernel_rfl
  neB5 := by decide
theorem join_any (L : List (List UInt8)) (p : Option Addr) (n c : Nat) (sep : List UInt8) (w : World) (hn : L.length = n) (h0 : L ≠ []) (hN : n ≤ 140737488355328) (hc : n ≤ c) (hr : LSR w p L) (hlen : (Lib.join L sep).length ≤ 140737488355328) :
    Calls Tryd.prog 23 #[.slice p n c, .string ⟨sep.toArray⟩] w fun e w' => e = .returned (.string ⟨(Lib.join L sep).toArray⟩) ∧ Below w.heap.size w w' := by
  subst hn
  obtain ⟨x, r, rfl⟩ : ∃ x r, L = x :: r := by
    cases L with
    | nil => exact absurd rfl h0
    | cons x r => exact ⟨x, r, rfl⟩
  obtain ⟨g, o0, rfl, hc0⟩ := hr w (Below.refl _ _) 0 x rfl
  have hd : ((x :: r).map (fun l => (⟨l.toArray⟩ : ByteArray))).map (·.data.toList) = x :: r := by
    rw [List.map_map]
    conv => rhs; rw [← List.map_id (x :: r)]
    exact List.map_congr_left (fun l _ => by simp)
  have h := Any.strings_Join Tryd.l156 bextra g o0 c ((x :: r).map (fun l => (⟨l.toArray⟩ : ByteArray))) ⟨sep.toArray⟩ w (fun j y hy => by
    rw [List.getElem?_map] at hy
    obtain ⟨z, hz, rfl⟩ := Option.map_eq_some_iff.1 hy
    obtain ⟨g', o', e, hc⟩ := hr w (Below.refl _ _) j z hz
    injection e with e
    injection e with e1 e2
    subst e1 e2
    exact hc) (World.block_lt_of_cell? w _ hc0) (by rw [List.length_map]; exact hN) (by rw [List.length_map]; exact hc) (by rw [hd]; exact hlen)
  rw [hd, List.length_map] at h
  exact h
set_option maxRecDepth 100000 in
set_option maxHeartbeats 4000000 in
theorem list_any (B b : Nat) (l wd sep : List UInt8) (L : List (List UInt8)) (p : Option Addr) (n c : Nat) (w : World) (h : WB B b l w) (hn : L.length = n) (hN : n ≤ 140737488355328) (hc : n ≤ c) (hr : ∀ X, Below B w X → LSR X p L) (hlen : l.length + wd.length + (Lib.join L sep).length + 4 ≤ 140737488355328) (hBw : B ≤ w.heap.size) (hbb : ∀ X, Below w.heap.size w X → WB B b l X) :
    Calls Tryd.prog 16 #[.pointer (some ⟨b, 0, none⟩), .string ⟨wd.toArray⟩, .slice p n c, .string ⟨sep.toArray⟩] w fun e w' => QW B b l (pL wd L sep) w e w' := by
  by_cases h0 : L = []
  · subst h0
    have hp : pL wd [] sep = [] := if_pos rfl
    obtain rfl : n = 0 := hn.symm
    have HE : Hid (QW B b l (pL wd [] sep) w (.returned (.tuple #[])) w) := ⟨rfl, by rw [hp, List.append_nil]; exact h, Below.refl _ _, KT.refl _⟩
    clear h hp hr hbb
    go_enter Tryd.func16, Tryd.ntmps16
    go_wp2_with fail
    go_end0
    exact HE.out
  · have hn0 : 0 < L.length := List.length_pos_iff.2 h0
    have n1 : (n : Int) > 0 := by omega
    have n2 : (0 : Int) < (n : Int) := by omega
    have HJ := join_any L p n c sep w hn h0 hN hc (hr w (Below.refl _ _)) (by omega)
    obtain ⟨J, hJ⟩ : ∃ J, Lib.join L sep = J := ⟨_, rfl⟩
    have hp : pL wd L sep = pI (wd ++ [32] ++ J) := by rw [← hJ]; exact if_neg h0
    rw [hJ] at HJ hlen
    have HP : Hid (pL wd L sep = pI (wd ++ [32] ++ J)) := hp
    have l1 : ¬ 9223372036854775807 < wd.length + 1 := by omega
    have l2 : ¬ 9223372036854775807 < wd.length + 1 + J.length := by omega
    have E1 : Hid ((⟨wd.toArray⟩ : ByteArray) ++ ⟨#[32]⟩ ++ ⟨J.toArray⟩ = ⟨(wd ++ [32] ++ J).toArray⟩) := by
      unfold Hid
      rw [baA' wd [32], baA' (wd ++ [32]) J]
    have HB : Hid (∀ X, Below w.heap.size w X → WB B b l X) := hbb
    clear h hp hr hbb h0 hJ hn0 hn
    go_enter Tryd.func16, Tryd.ntmps16
    go_wp2_with fail
    refine HJ.mono ?_
    rintro e w1 ⟨rfl, hb1⟩
    have HW := indented_any B b l (wd ++ [32] ++ J) w1 (HB.out w1 hb1) (by simp; omega) (Nat.le_trans hBw hb1.size)
    clear HJ
    go_wp2_with fail
    rw [E1.out]
    refine HW.mono ?_
    rintro e w2 ⟨rfl, h1, h2, h3⟩
    have HE : Hid (QW B b l (pL wd L sep) w (.returned (.tuple #[])) w2) := ⟨rfl, by rw [HP.out]; exact h1, (hb1.mono hBw).trans h2, (KT_below hb1).trans h3⟩
    clear HW h1 h2 h3 hb1
    go_wp2_with fail
    go_end0
    exact HE.out
end Go.Proofs.YtfhlgncpleleaaaDoor

import Derived.Test.YthodemljgffogaaGreatDoorXBH
namespace Go.Proofs.YthodemljgffogaaGreatDoor
open Go.RowKit Go.Shelf
theorem bys_byte (l : List UInt8) : Lib.byteCells l = bys l := rfl
theorem bys_app (a b : List UInt8) : bys (a ++ b) = bys a ++ bys b := by unfold bys; rw [List.map_append]
theorem bys_str (l : List UInt8) : Lib.strCells ⟨l.toArray⟩ = bys l := rfl
/-- what stands while the document's Text writes -/
def DXI (w2 wr : World) (v : Value) (l : List UInt8) : Prop := wr.ownsRow w2.heap.size 5 1 v l.length (bys l) ∧ Below w2.heap.size w2 wr
/-- a row of the document's terms lies there -/
def IRR (w : World) (p : Option Addr) (Z : List ZT) : Prop := ∀ W : World, Below w.heap.size w W → ∀ (k : Nat) (z : ZT), Z[k]? = some z → ∃ g o0, p = some ⟨g, o0, none⟩ ∧ W.cell? ⟨g, o0 + k * 2, none⟩ = some (.string ⟨z.c.toArray⟩) ∧ W.cell? ⟨g, o0 + k * 2 + 1, none⟩ = some (.slice z.q z.L.length z.k)
theorem IRR.later {w W : World} {p : Option Addr} {Z : List ZT} (h : IRR w p Z) (hb : Below w.heap.size w W) : IRR W p Z := fun X hX k t ht => h X (bel0 hb hX) k t ht
/-- a space of the document, as it is read -/
def RSR (W : World) (V : Value) (Ts : List (List UInt8 × List (List UInt8))) : Prop := ∃ (Z : List ZT) (p : Option Addr) (c : Nat), V = .slice p Z.length c ∧ Z.map ZT.cont = Ts ∧ IRR W p Z ∧ ∀ z ∈ Z, IRSt W z.q z.L
theorem RSR.later {w W : World} {V : Value} {Ts : List (List UInt8 × List (List UInt8))} (h : RSR w V Ts) (hb : Below w.heap.size w W) : RSR W V Ts := by
  obtain ⟨Z, p, c, h1, h2, h3, h4⟩ := h
  exact ⟨Z, p, c, h1, h2, h3.later hb, fun z hz => (h4 z hz).later hb⟩
theorem RSR_nil (W : World) : RSR W (.slice none 0 0) [] := ⟨[], none, 0, rfl, rfl, (fun _ _ k z h => by cases h), (fun z h => by cases h)⟩
theorem szC_step {Z : List ZT} {k : Nat} {z : ZT} (h : Z[k]? = some z) : szC ((Z.take (k + 1)).map ZT.cont) = szC ((Z.take k).map ZT.cont) + (1 + z.L.length) := by
  rw [List.take_add_one, h, List.map_append, szC_append]
  simp [szC, ZT.cont]
theorem szC_take (Z : List ZT) (k : Nat) : szC ((Z.take k).map ZT.cont) ≤ szC (Z.map ZT.cont) := by
  have e : Z.map ZT.cont = (Z.take k).map ZT.cont ++ (Z.drop k).map ZT.cont := by rw [← List.map_append, List.take_append_drop]
  rw [e, szC_append]
  omega
set_option maxRecDepth 100000 in
set_option maxHeartbeats 2000000 in
theorem dSizeL_any (b : Int) (V : Value) (Ts : List (List UInt8 × List (List UInt8))) (w : World) (h : RSR w V Ts) (ho : szC Ts ≤ 1000000) : Calls Tryz.prog 51 #[.agg #[.int .i64 b, V]] w fun e w' => e = .returned (.int .i64 (szC Ts : Int)) ∧ Below w.heap.size w w' := by
  obtain ⟨Z, p, cp, rfl, rfl, hr, -⟩ := h
  have hl := szC_len (Z.map ZT.cont)
  rw [List.length_map] at hl
  obtain ⟨n, hn⟩ : ∃ n, Z.length = n := ⟨_, rfl⟩
  rw [hn] at hl ⊢
  obtain ⟨w2, hw2⟩ : ∃ w2, w.alloc (.cells #[.int .i64 b, .slice p n cp] 27 (0, 0)) = w2 := ⟨_, rfl⟩
  have h0 : w2.heap[w.heap.size]? = some (.cells #[.int .i64 b, .slice p n cp] 27 (0, 0)) := by rw [← hw2]; exact alloc_get _ _
  have hB : Below w.heap.size w w2 := by rw [← hw2]; exact belA (Below.refl _ _) _
  have HN : Hid (Z.length = n) := hn
  have HR : Hid (IRR w2 p Z) := hr.later hB
  have HB : Hid (Below w.heap.size w w2) := hB
  have HSZ : Hid (∀ k, szC ((Z.take k).map ZT.cont) ≤ szC (Z.map ZT.cont)) := szC_take Z
  obtain ⟨hc0, -⟩ := cells_block h0
  clear h0 hr hB hn
  go_enter Tryz.func51, Tryz.ntmps51
  go_wp2_with fail
  go_loopw [3, 4] (fun v3 v4 wr => ∃ k : Nat, v3 = .int .i64 (szC ((Z.take k).map ZT.cont) : Int) ∧ v4 = .int .i64 k ∧ k ≤ n ∧ w2 = wr) (fun _ v4 _ => n - (intOf v4).toNat)
  case atStart => exact ⟨0, rfl, rfl, Nat.zero_le _, rfl⟩
  case round =>
    obtain ⟨k, rfl, rfl, hk, rfl⟩ := hrel
    by_cases hlt : k < n
    · have j1 : (k : Int) < (n : Int) := by omega
      have j0 : (0 : Int) ≤ (k : Int) := by omega
      obtain ⟨z, hz⟩ : ∃ z, Z[k]? = some z := ⟨_, List.getElem?_eq_getElem (by rw [HN.out]; exact hlt)⟩
      obtain ⟨g, o0, rfl, p0, p1⟩ := HR.out w2 (Below.refl _ _) k z hz
      have HST : Hid (szC ((Z.take (k + 1)).map ZT.cont) = szC ((Z.take k).map ZT.cont) + (1 + z.L.length)) := szC_step hz
      have hb1 := HSZ.out (k + 1)
      have hst := HST.out
      obtain ⟨A, hA⟩ : ∃ A, szC ((Z.take k).map ZT.cont) = A := ⟨_, rfl⟩
      rw [hA] at HST hst ⊢
      clear hz hA
      go_wp2_with fail
      go_roundw
      case rel => exact ⟨k + 1, by rw [HST.out]; go_num, by go_num, by omega, trivial⟩
      case measure => simp [intOf]; omega
    · have j1 : ¬ (k : Int) < (n : Int) := by omega
      have e : Z.take k = Z := List.take_of_length_le (by rw [HN.out]; omega)
      rw [e]
      clear e
      go_wp2_with fail
      go_ret
      exact ⟨rfl, HB.out⟩
theorem res_rs1 {fn : Func} {p : Tmp} {m : Nat × Nat} (tmps : Array Value) (W : World) (b : Nat) (v0 v1 : Value) (hr : fn.results = #[.cell p 27]) (hp : tmps.getD p undef = .pointer (some ⟨b, 0, none⟩)) (h : W.heap[b]? = some (.cells #[v0, v1] 27 m)) : (results fn tmps).run Tryz.prog W = .ok (.agg #[v0, v1]) W := by
  have hc : ∀ j, W.cell? ⟨b, j, none⟩ = (#[v0, v1] : Array Value)[j]? := by
    intro j; unfold World.cell?; rw [h]; simp
  have hp' : tmps[p]?.getD undef = .pointer (some ⟨b, 0, none⟩) := by simpa using hp
  simp [results, hr, hp', go_sem, hc]
theorem bels2 {w w2 : World} {W : World} (hB : Below w.heap.size w w2) (h : Below w2.heap.size w2 W) (v0 v1 : Value) : Below w.heap.size w ((W.setCell ⟨w.heap.size, 0, none⟩ v0).setCell ⟨w.heap.size, 1, none⟩ v1) := ((bel0 hB h).setCell (Nat.le_refl _) _).setCell (Nat.le_refl _) _
end Go.Proofs.YthodemljgffogaaGreatDoor

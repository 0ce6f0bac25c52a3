import Derived.Test.YtialcphfaleedaaGreatDoorZ32
import Derived.Test.YtialcphfaleedaaGreatDoorZ33
import Derived.Test.YtialcphfaleedaaGreatDoorZ43
import Derived.Test.YtialcphfaleedaaGreatDoorZ23
import Derived.Test.YtialcphfaleedaaGreatDoorZ5
import Derived.Test.YtialcphfaleedaaGreatDoorZ8
namespace Go.Proofs.YtialcphfaleedaaGreatDoor
open Go.RowKit Go.Shelf
set_option maxRecDepth 100000 in
theorem refScan_any (T : List UInt8) (w : World) (hm : T.length ≤ 281474976710656) (hg : SR w) :
    Calls Tryz.prog 18 #[.string ⟨T.toArray⟩] w fun e w' =>
      ∃ v, e = .returned (.tuple #[v, .int .i64 ((scanM T).2.1 : Int), .int .i64 ((scanM T).2.2.1 : Int), .int .i64 ((scanM T).2.2.2 : Int)]) ∧ w'.ownsRow w.heap.size 31 4 v (scanM T).1.length (tcels (scanM T).1) ∧ Below w.heap.size w w' := by
  by_cases hs : T.length ≤ 16384
  · have h := refScan_ok T w hs hg
    have e : scanM T = textM T 1 [] := by
      unfold scanM
      rw [if_neg (by omega)]
      rfl
    rw [e]
    exact h
  · have e : Hid (scanM T = ([], 2, 0, 0)) := by
      unfold Hid scanM
      rw [if_pos (by omega)]
    have i1 : (16384 : Int) < (T.length : Int) := by omega
    go_enter Tryz.func18, Tryz.ntmps18
    go_wp2_with fail
    refine bodyPost_ret (results_rs _ _ _ _ _ _ ⟨rfl, rfl, rfl, rfl⟩) rfl ?_
    exact ⟨.slice none 0 0, by rw [e.out]; rfl, by rw [e.out]; exact World.ownsRow_nil _ _ _ _, Below.refl _ _⟩
set_option maxRecDepth 100000 in
set_option maxHeartbeats 2000000 in
theorem scans_any (l : List UInt8) (w : World) (hl : l.length ≤ 281474976710656) (hv1 : SH w) (hv4 : SG w) (hv5 : VW w) (hg : SR w) :
    Calls Tryz.prog 9 #[.string ⟨l.toArray⟩] w fun e w' => e = .returned (.bool true) ∧ Below w.heap.size w w' := by
  have H1 := scan_any l w hl hv1 hv4 (FOK_of hv5)
  have H2 : ∀ W : World, Below w.heap.size w W → _ := fun W hW => refScan_any l W hl (hg.below hW)
  unfold scR at H1
  obtain ⟨r, hr⟩ : ∃ r, scanM l = r := ⟨_, rfl⟩
  rw [hr] at H1
  simp only [hr] at H2
  obtain ⟨D, e0, ln, col⟩ := r
  clear hr hv1 hv4 hv5 hg
  have HS : Hid (∀ (o1 o2 : Option Addr) (c1 c2 B1 B2 : Nat) (W : World), W.ownsRow B1 31 4 (.slice o1 D.length c1) D.length (tcels D) → W.ownsRow B2 31 4 (.slice o2 D.length c2) D.length (tcels D) → Calls Tryz.prog 19 #[.slice o1 D.length c1, .slice o2 D.length c2] W fun e w' => e = .returned (.bool true) ∧ Below W.heap.size W w') := fun o1 o2 c1 c2 B1 B2 W h1 h2 => sameAll_any D o1 o2 c1 c2 B1 B2 W h1 h2
  go_enter Tryz.func9, Tryz.ntmps9
  go_wp2_with fail
  refine H1.mono ?_
  rintro e W1 ⟨v1, rfl, h1, hb1⟩
  obtain ⟨o1, c1, rfl⟩ := shapeP h1
  have h1' : Hid (W1.ownsRow w.heap.size 31 4 (.slice o1 D.length c1) D.length (tcels D)) := h1
  clear h1
  go_wp2_with fail
  refine (H2 _ hb1).mono ?_
  rintro e W2 ⟨v2, rfl, h2, hb2⟩
  obtain ⟨o2, c2, rfl⟩ := shapeP h2
  have h2' : Hid (W2.ownsRow W1.heap.size 31 4 (.slice o2 D.length c2) D.length (tcels D)) := h2
  clear h2
  go_wp2_with fail
  refine (HS.out o1 o2 c1 c2 _ _ _ (owns_below h1'.out hb2) h2'.out).mono ?_
  rintro e W3 ⟨rfl, hb3⟩
  go_wp2_with fail
  go_ret
  exact ⟨rfl, bel0 (bel0 hb1 hb2) hb3⟩
set_option maxRecDepth 100000 in
theorem scanTells_walk (s : ByteArray) (w : World) (hs : s.size ≤ 281474976710656) (hv1 : SH w) (hv4 : SG w) (hv5 : VW w) (hg : SR w) :
    Calls Tryz.prog 4 #[.string s] w fun e w' => e = .returned (.bool true) ∧ Below w.heap.size w w' := by
  obtain ⟨l, rfl⟩ : ∃ l : List UInt8, s = ⟨l.toArray⟩ := ⟨s.data.toList, by simp⟩
  have hl : l.length ≤ 281474976710656 := by
    have e : (ByteArray.mk l.toArray).size = l.length := by simp [ByteArray.size]
    omega
  have H1 := scans_any [114, 117, 108, 101, 32, 55] w (by decide) hv1 hv4 hv5 hg
  have H2 : Hid (∀ W : World, Below w.heap.size w W → Calls Tryz.prog 9 #[.string ⟨l.toArray⟩] W fun e w' => e = .returned (.bool true) ∧ Below W.heap.size W w') := fun W hW => scans_any l W hl (hv1.below hW) (hv4.below hW) (hv5.below hW) (hg.below hW)
  clear hv1 hv4 hv5 hg
  go_enter Tryz.func4, Tryz.ntmps4
  go_wp2_with fail
  refine H1.mono ?_
  rintro e W1 ⟨rfl, hb1⟩
  go_wp2_with fail
  refine (H2.out _ hb1).mono ?_
  rintro e W2 ⟨rfl, hb2⟩
  go_wp2_with fail
  go_ret
  exact ⟨rfl, bel0 hb1 hb2⟩
end Go.Proofs.YtialcphfaleedaaGreatDoor
namespace Go.Proofs.YtialcphfaleedaaGreatDoor
open Go.RowKit
/-- an array of texts, as laid -/
def strData {H : Type} (zs : List (List UInt8)) : DataW H := .agg (zs.map fun z => .lit (.string z))
theorem cells_of_strs {H : Type} {enc : TypeId × Value → H} {P : Program} {w : World} {base : Nat} {sp : Nat → Bool} {held : Bool} {fuel : Nat} {t e : TypeId} {n : Nat} {cs : List Value} {zs : List (List UInt8)} {p : List MemPlace}
    (ht : P.underlying t = some (.array n e)) (he : P.underlying e = some .string) (hce : P.cellsOf e = 1) (hct : P.cellsOf t = n)
    (h : DataW.trod enc P w base sp held fuel t cs = some (strData zs, p)) : cs = zs.map fun z => Value.string ⟨z.toArray⟩ := by
  cases fuel with
  | zero => simp [DataW.trod] at h
  | succ fuel =>
    simp only [DataW.trod, ht, hce, hct, Nat.mul_one] at h
    split at h
    · rename_i hl
      obtain ⟨xs, hm, hx⟩ := Option.map_eq_some_iff.1 h
      have hxs : xs.map (·.1) = zs.map fun z => (DataW.lit (.string z) : DataW H) := by
        have := congrArg Prod.fst hx
        simpa [strData] using this
      have hxl : xs.length = n := by simpa using Lib.mapM_length hm
      have hzl : zs.length = n := by
        have := congrArg List.length hxs
        simp at this
        omega
      apply List.ext_getElem?
      intro i
      by_cases hi : i < n
      · obtain ⟨b, hb, hf⟩ := Lib.mapM_at hm i i (by simp [hi])
        obtain ⟨z, hc, rfl, _⟩ := DataW.trod_string he hf
        have h1 : cs[i]? = some (.string z) := by
          have := congrArg (·[0]?) hc
          simpa [List.getElem?_take, List.getElem?_drop] using this
        have h2 : (xs.map (·.1))[i]? = some (DataW.lit (.string z.data.toList) : DataW H) := by simp [hb]
        rw [hxs] at h2
        simp only [List.getElem?_map, Option.map_eq_some_iff, DataW.lit.injEq, Lit.string.injEq] at h2
        obtain ⟨z', hz', rfl⟩ := h2
        simp [h1, hz']
      · rw [List.getElem?_eq_none (by omega), List.getElem?_eq_none (by simp; omega)]
    · cases h
theorem strs_of_head {P : Program} {W : World} {name : String} {zs : List (List UInt8)} {rest : List (String × DataW Unit)} {g : Nat} {t e : TypeId} {n : Nat}
    (hg : P.globalNamed name = some g) (hty : (P.globals[g]?).map (·.type) = some t) (ht : P.underlying t = some (.array n e)) (he : P.underlying e = some .string) (hce : P.cellsOf e = 1) (hct : P.cellsOf t = n)
    (h : laidMet P ((name, strData zs) :: rest) W) : W.var? P name = some (zs.map fun z => Value.string ⟨z.toArray⟩).toArray := by
  obtain ⟨ps, ⟨g', t', cs, fuel, p, q, hg', ht', hvar, hd, _, _⟩, _⟩ := h
  obtain rfl := Option.some.inj (hg.symm.trans hg')
  obtain rfl := Option.some.inj (hty.symm.trans ht')
  rw [hvar, ← cells_of_strs ht he hce hct hd]
end Go.Proofs.YtialcphfaleedaaGreatDoor

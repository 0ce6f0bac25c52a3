import Derived.Test.YthlgjdadkmpbbaaDoorXBP
namespace Go.Proofs.YthlgjdadkmpbbaaDoor
open Go.RowKit Go.Shelf
set_option maxRecDepth 100000 in
set_option maxHeartbeats 2000000 in
theorem scanIsNew_nil (o : Option Addr) (c : Nat) (w : World) (hv1 : SH w) (hv4 : SG w) (hv5 : VW w) :
    Calls Tryd.prog 3 #[.slice o 0 c] w fun e w' => e = .returned (.bool true) ∧ Below w.heap.size w w' := by
  have HSA : Hid (Calls Tryd.prog 4 #[.string ⟨#[97]⟩] w fun e w' => ∃ p c, e = .returned (.tuple #[.slice p 2 c, .int .i64 0, .int .i64 0, .int .i64 0]) ∧ Below w.heap.size w w') := by
    obtain ⟨p, q, hs⟩ := scan_a
    refine (scan_any [97] w (by decide) hv1 hv4 (FOK_of hv5)).mono ?_
    rintro e w' ⟨v, rfl, ho, hb⟩
    rw [hs] at ho ⊢
    obtain ⟨p2, c2, rfl⟩ := shapeP ho
    exact ⟨p2, c2, rfl, hb⟩
  clear hv1 hv4 hv5
  go_enter Tryd.func3, Tryd.ntmps3
  go_wp2_with fail
  refine HSA.out.mono ?_
  rintro e W0 ⟨pa, ca, rfl, hb0⟩
  clear HSA
  go_wp2_with fail
  go_loopw [11] (fun v wr => v = .int .i64 0 ∧ Below w.heap.size w wr) (fun _ _ => 0)
  case atStart => exact ⟨rfl, hb0⟩
  case round =>
    obtain ⟨rfl, hB⟩ := hrel
    go_wp2_with fail
    go_loopw [18] (fun v wr => v = .int .i64 0 ∧ Below w.heap.size w wr) (fun _ _ => 0)
    case atStart => exact ⟨rfl, hB⟩
    case round =>
      clear hB
      obtain ⟨rfl, hB⟩ := hrel
      go_wp2_with fail
      go_loopw [19] (fun v wr => v = .int .i64 0 ∧ Below w.heap.size w wr) (fun _ _ => 0)
      case atStart => exact ⟨rfl, hB⟩
      case round =>
        clear hB
        obtain ⟨rfl, hB⟩ := hrel
        go_wp2_with fail
        go_loopw [21] (fun v wr => v = .int .i64 0 ∧ Below w.heap.size w wr) (fun _ _ => 0)
        case atStart => exact ⟨rfl, hB⟩
        case round =>
          clear hB
          obtain ⟨rfl, hB⟩ := hrel
          go_wp2_with fail
          go_loopw [24] (fun v wr => v = .int .i64 0 ∧ Below w.heap.size w wr) (fun _ _ => 0)
          case atStart => exact ⟨rfl, hB⟩
          case round =>
            clear hB
            obtain ⟨rfl, hB⟩ := hrel
            go_wp2_with fail
            go_loopw [27] (fun v wr => v = .int .i64 0 ∧ Below w.heap.size w wr) (fun _ _ => 0)
            case atStart => exact ⟨rfl, hB⟩
            case round =>
              clear hB
              obtain ⟨rfl, hB⟩ := hrel
              go_wp2_with fail
              go_ret
              exact ⟨rfl, hB⟩
theorem scanIsNew_walk (L : List (List UInt8)) (n : Nat) (o : Option Addr) (c : Nat) (w : World) (hL : L.length = n) (hnc : n ≤ c) (hl : ∀ t ∈ L, t.length ≤ 281474976710656) (hr : IRS w o L) (hv1 : SH w) (hv4 : SG w) (hv5 : VW w) :
    Calls Tryd.prog 3 #[.slice o n c] w fun e w' => e = .returned (.bool true) ∧ Below w.heap.size w w' := by
  by_cases h0 : n = 0
  · subst h0
    exact scanIsNew_nil o c w hv1 hv4 hv5
  · by_cases h : n ≤ 40
    · exact scanIsNew_part L n n o c w hL (.inl ⟨h, rfl⟩) hnc (by omega) hr hl hv1 hv4 hv5 (fun t _ => scan_most t)
    · refine scanIsNew_part (L.take 40) n 40 o c w (by rw [List.length_take]; omega) (.inr ⟨by omega, rfl⟩) hnc (by omega) (fun W hW k t ht => ?_) (fun t ht => hl t (List.mem_of_mem_take ht)) hv1 hv4 hv5 (fun t _ => scan_most t)
      by_cases hk : k < 40
      · rw [List.getElem?_take_of_lt hk] at ht
        exact hr W hW k t ht
      · rw [List.getElem?_eq_none (by rw [List.length_take]; omega)] at ht
        cases ht
end Go.Proofs.YthlgjdadkmpbbaaDoor

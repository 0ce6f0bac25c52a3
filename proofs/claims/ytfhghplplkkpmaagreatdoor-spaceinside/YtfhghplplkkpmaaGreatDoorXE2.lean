import Derived.Test.YtfhghplplkkpmaaGreatDoorXC3
namespace Go.Proofs.YtfhghplplkkpmaaGreatDoor
open Go.RowKit Go.Shelf
/-- a row of texts lies there -/
def RWD (W : World) (q : Option Addr) (D : List (List UInt8)) : Prop := ∀ X, Below W.heap.size W X → ∀ i x, D[i]? = some x → ∃ ad : Addr, q = some ad ∧ X.cell? (ad.add i) = some (.string ⟨x.toArray⟩) ∧ x.length ≤ maxLen
/-- of a small width: all headers lie in it -/
def EXD (b : Int) (D : List (List UInt8)) : Prop := 1 ≤ b → b ≤ 8 → ∀ x, ihB b x = true → x ∈ D
def alD (b : Int) (l l' : List UInt8) (D : List (List UInt8)) : Bool := D.all (fun x => !(ihB b x && sdB l x && !sdB l' x))
theorem alD_take {b : Int} {l l' x : List UInt8} {D : List (List UInt8)} {i : Nat} (h : D[i]? = some x) : alD b l l' (D.take (i + 1)) = (alD b l l' (D.take i) && !(ihB b x && sdB l x && !sdB l' x)) := by
  unfold alD
  rw [List.take_add_one, h, List.all_append]
  simp
set_option maxRecDepth 100000 in
set_option maxHeartbeats 16000000 in
theorem inside_core (b : Int) (l l' : List UInt8) (q : Option Addr) (len cap : Nat) (QS QT QU QM : World → Option Addr → Nat → Nat → Prop) (B1 B2 E1 E2 g1 mB mE g3 g4 : Int) (i1 i3 i4 : Bool)
    (hAw : ∀ (W : World), Calls Tryz.prog 4 #[] W fun e w' => e = .returned (.bool true) ∧ Below W.heap.size W w')
    (hPa : ∀ (W : World), Calls Tryz.prog 5 #[.int .i64 b, .string ⟨l.toArray⟩] W fun e w' => ∃ p n c, e = .returned (.tuple #[.agg #[.int .i64 B1, .slice p n c, .bool false], .int .i64 E1]) ∧ QS w' p n c ∧ Below W.heap.size W w')
    (hPb : ∀ (W : World), Calls Tryz.prog 5 #[.int .i64 b, .string ⟨l'.toArray⟩] W fun e w' => ∃ p n c, e = .returned (.tuple #[.agg #[.int .i64 B2, .slice p n c, .bool false], .int .i64 E2]) ∧ QT w' p n c ∧ Below W.heap.size W w')
    (hQS : ∀ (W W' : World) (p : Option Addr) (n c : Nat), QS W p n c → Below W.heap.size W W' → QS W' p n c)
    (hQT : ∀ (W W' : World) (p : Option Addr) (n c : Nat), QT W p n c → Below W.heap.size W W' → QT W' p n c)
    (hQU : ∀ (W W' : World) (p : Option Addr) (n c : Nat), QU W p n c → Below W.heap.size W W' → QU W' p n c)
    (hQM : ∀ (W W' : World) (p : Option Addr) (n c : Nat), QM W p n c → Below W.heap.size W W' → QM W' p n c)
    (hB : E1 = 0 → E2 = 0 → B1 = b ∧ B2 = b)
    (hW1 : E1 = 0 → E2 = 0 → ∀ (W : World) (p : Option Addr) (n c : Nat) (p' : Option Addr) (n' c' : Nat), QS W p n c → QT W p' n' c' → Calls Tryz.prog 6 #[.agg #[.int .i64 b, .slice p n c, .bool false], .agg #[.int .i64 b, .slice p' n' c', .bool false], .int .i64 2048] W fun e w' => e = .returned (.tuple #[.bool i1, .int .i64 g1]) ∧ Below W.heap.size W w')
    (hHd : ∀ (W : World), RST W q len → Calls Tryz.prog 7 #[.int .i64 b, .slice q len cap] W fun e w' => ∃ q' n' c' D, e = .returned (.slice q' n' c') ∧ n' ≤ 256 ∧ D.length = n' ∧ RWD w' q' D ∧ EXD b D ∧ Below W.heap.size W w')
    (hIn : E1 = 0 → E2 = 0 → (g1 = 0 ∨ g1 = 3) ∧ (g1 = 3 → i1 = false) ∧ ∀ D, EXD b D → (g1 = 0 → i1 = true → alD b l l' D = true) ∧ (g1 = 0 → b ≤ 8 → i1 = alD b l l' D))
    (hIH : ∀ (W : World) (x : List UInt8), x.length ≤ maxLen → Calls Tryz.prog 8 #[.int .i64 b, .string ⟨x.toArray⟩] W fun e w' => e = .returned (.bool (ihB b x)) ∧ Below W.heap.size W w')
    (hSa : ∀ (W : World) (x : List UInt8), x.length ≤ maxLen → Calls Tryz.prog 9 #[.string ⟨l.toArray⟩, .string ⟨x.toArray⟩] W fun e w' => e = .returned (.bool (sdB l x)) ∧ Below W.heap.size W w')
    (hSb : ∀ (W : World) (x : List UInt8), x.length ≤ maxLen → Calls Tryz.prog 9 #[.string ⟨l'.toArray⟩, .string ⟨x.toArray⟩] W fun e w' => e = .returned (.bool (sdB l' x)) ∧ Below W.heap.size W w')
    (hAl : E1 = 0 → ∀ (W : World), Calls Tryz.prog 11 #[.int .i64 b] W fun e w' => e = .returned (.agg #[.int .i64 b, .int .u64 0, .int .u64 0, .int .u64 0, .int .u64 0, .int .u64 0, .int .u64 0, .int .u64 0, .int .u64 0]) ∧ Below W.heap.size W w')
    (hOf : E1 = 0 → ∀ (W : World), Calls Tryz.prog 10 #[.agg #[.int .i64 b, .int .u64 0, .int .u64 0, .int .u64 0, .int .u64 0, .int .u64 0, .int .u64 0, .int .u64 0, .int .u64 0], .slice none 0 0] W fun e w' => ∃ p n c, e = .returned (.tuple #[.agg #[.int .i64 b, .slice p n c, .bool false], .int .i64 0]) ∧ QU w' p n c ∧ Below W.heap.size W w')
    (hW2 : E1 = 0 → ∀ (W : World) (p : Option Addr) (n c : Nat) (p' : Option Addr) (n' c' : Nat), QS W p n c → QU W p' n' c' → Calls Tryz.prog 6 #[.agg #[.int .i64 b, .slice p n c, .bool false], .agg #[.int .i64 b, .slice p' n' c', .bool false], .int .i64 0] W fun e w' => e = .returned (.tuple #[.bool true, .int .i64 0]) ∧ Below W.heap.size W w')
    (hMe : E1 = 0 → E2 = 0 → ∀ (W : World) (p : Option Addr) (n c : Nat) (p' : Option Addr) (n' c' : Nat), QS W p n c → QT W p' n' c' → Calls Tryz.prog 12 #[.agg #[.int .i64 b, .slice p n c, .bool false], .agg #[.int .i64 b, .slice p' n' c', .bool false]] W fun e w' => ∃ p n c, e = .returned (.tuple #[.agg #[.int .i64 mB, .slice p n c, .bool false], .int .i64 mE]) ∧ QM w' p n c ∧ Below W.heap.size W w')
    (hmE : E1 = 0 → E2 = 0 → mE = 0 ∨ mE = 3)
    (hW3 : E1 = 0 → E2 = 0 → mE = 0 → (g3 = 0 → i3 = true) ∧ ∀ (W : World) (p : Option Addr) (n c : Nat) (p' : Option Addr) (n' c' : Nat), QM W p n c → QS W p' n' c' → Calls Tryz.prog 6 #[.agg #[.int .i64 mB, .slice p n c, .bool false], .agg #[.int .i64 b, .slice p' n' c', .bool false], .int .i64 2048] W fun e w' => e = .returned (.tuple #[.bool i3, .int .i64 g3]) ∧ Below W.heap.size W w')
    (hW4 : E1 = 0 → E2 = 0 → mE = 0 → (g4 = 0 → i4 = true) ∧ ∀ (W : World) (p : Option Addr) (n c : Nat) (p' : Option Addr) (n' c' : Nat), QM W p n c → QT W p' n' c' → Calls Tryz.prog 6 #[.agg #[.int .i64 mB, .slice p n c, .bool false], .agg #[.int .i64 b, .slice p' n' c', .bool false], .int .i64 2048] W fun e w' => e = .returned (.tuple #[.bool i4, .int .i64 g4]) ∧ Below W.heap.size W w')
    (w : World) (hr : RST w q len) : Calls Tryz.prog 3 #[.int .i64 b, .string ⟨l.toArray⟩, .string ⟨l'.toArray⟩, .slice q len cap] w fun e w' => e = .returned (.bool true) ∧ Below w.heap.size w w' := by
  have HAw : Hid _ := hAw
  have HPa : Hid _ := hPa
  have HPb : Hid _ := hPb
  have HQS : Hid _ := hQS
  have HQT : Hid _ := hQT
  have HQU : Hid _ := hQU
  have HQM : Hid _ := hQM
  have HB : Hid _ := hB
  have HW1 : Hid _ := hW1
  have HHd : Hid _ := hHd
  have HIn : Hid _ := hIn
  have HIH : Hid _ := hIH
  have HSa : Hid _ := hSa
  have HSb : Hid _ := hSb
  have HAl : Hid _ := hAl
  have HOf : Hid _ := hOf
  have HW2 : Hid _ := hW2
  have HMe : Hid _ := hMe
  have HmE : Hid _ := hmE
  have HW3 : Hid _ := hW3
  have HW4 : Hid _ := hW4
  have HR : Hid (RST w q len) := hr
  clear hr hAw hPa hPb hQS hQT hQU hQM hB hW1 hHd hIn hIH hSa hSb hAl hOf hW2 hMe hmE hW3 hW4
  go_enter Tryz.func3, Tryz.ntmps3
  go_wp2_with fail
  refine (HAw.out _).mono ?_
  rintro e w1 ⟨rfl, hb1⟩
  go_wp2_with fail
  refine (HPa.out _).mono ?_
  rintro e w2 ⟨p1, n1, c1, rfl, q1, hb2⟩
  go_wp2_with fail
  refine (HPb.out _).mono ?_
  rintro e w3 ⟨p2, n2, c2, rfl, q2, hb3⟩
  have HF : Hid (∀ W, Below (w3.alloc (.cells #[.int .i64 B2, .slice p2 n2 c2, .bool false] 26 (0, 0))).heap.size (w3.alloc (.cells #[.int .i64 B2, .slice p2 n2 c2, .bool false] 26 (0, 0))) W → ((∀ j, W.cell? ⟨w2.heap.size, j, none⟩ = (#[.int .i64 B1, .slice p1 n1 c1, .bool false] : Array Value)[j]?) ∧ (∀ j, W.cell? ⟨w3.heap.size, j, none⟩ = (#[.int .i64 B2, .slice p2 n2 c2, .bool false] : Array Value)[j]?) ∧ QS W p1 n1 c1 ∧ QT W p2 n2 c2 ∧ RST W q len ∧ Below w.heap.size w W)) := fun W hW => by
    have h3 : Below w3.heap.size w3 W := bel0 (belA (Below.refl _ _) _) hW
    have h2a := bel0 hb3 h3
    have h2 : Below w2.heap.size w2 W := bel0 (belA (Below.refl _ _) _) h2a
    have h1 := bel0 hb1 (bel0 hb2 h2)
    exact ⟨(cells_block (keepblk3 h2a (alloc_get _ _))).1, (cells_block (keepblk3 hW (alloc_get _ _))).1, HQS.out _ _ _ _ _ q1 h2, HQT.out _ _ _ _ _ q2 h3, HR.out.later h1, h1⟩
  obtain ⟨f1, f2, -⟩ := HF.out (w3.alloc (.cells #[.int .i64 B2, .slice p2 n2 c2, .bool false] 26 (0, 0))) (Below.refl _ _)
  clear q1 q2 hb1 hb2 hb3 HPa HPb HAw HR
  by_cases hE1 : E1 = 0
  · subst hE1
    by_cases hE2 : E2 = 0
    · subst hE2
      obtain ⟨rfl, rfl⟩ := HB.out rfl rfl
      have H1 := HW1.out rfl rfl
      have HI := HIn.out rfl rfl
      have HW1' : Hid _ := H1
      have HIn' : Hid _ := HI
      clear HW1 HIn H1 HI HB
      have HAl' : Hid _ := HAl.out rfl
      have HOf' : Hid _ := HOf.out rfl
      have HW2' : Hid _ := HW2.out rfl
      have HMe' : Hid _ := HMe.out rfl rfl
      have HmE' : Hid _ := HmE.out rfl rfl
      have HW3' : Hid _ := HW3.out rfl rfl
      have HW4' : Hid _ := HW4.out rfl rfl
      clear HAl HOf HW2 HMe HmE HW3 HW4
      go_wp2_with fail
      refine (HW1'.out _ _ _ _ _ _ _ (HF.out _ (Below.refl _ _)).2.2.1 (HF.out _ (Below.refl _ _)).2.2.2.1).mono ?_
      rintro e w4 ⟨rfl, hb4⟩
      have B4 : Hid (Below (w3.alloc (.cells #[.int .i64 B2, .slice p2 n2 c2, .bool false] 26 (0, 0))).heap.size (w3.alloc (.cells #[.int .i64 B2, .slice p2 n2 c2, .bool false] 26 (0, 0))) w4) := hb4
      clear f1 f2 hb4 HW1'
      go_wp2_with fail
      refine (HHd.out _ (HF.out _ B4.out).2.2.2.2.1).mono ?_
      rintro e w5 ⟨q5, n5, c5, D, rfl, hn5, hD, hrw, hex, hb5⟩
      have B5 : Hid (Below (w3.alloc (.cells #[.int .i64 B2, .slice p2 n2 c2, .bool false] 26 (0, 0))).heap.size (w3.alloc (.cells #[.int .i64 B2, .slice p2 n2 c2, .bool false] 26 (0, 0))) w5) := bel0 B4.out hb5
      have HD : Hid (D.length = n5 ∧ RWD w5 q5 D ∧ EXD B2 D) := ⟨hD, hrw, hex⟩
      clear hb5 hD hrw hex B4 HHd
      go_wp2_with fail
      go_loopw [15, 17] (fun v14 v16 wr => ∃ (i : Nat) (z : Bool), v14 = .bool z ∧ v16 = .int .i64 (i : Int) ∧ i ≤ n5 ∧ Hid (alD B2 l l' (D.take i) = z) ∧ Hid (Below w5.heap.size w5 wr)) (fun _ v16 _ => n5 - (intOf v16).toNat)
      case atStart => exact ⟨0, true, rfl, rfl, Nat.zero_le _, rfl, Below.refl _ _⟩
      case round =>
        obtain ⟨i, z, rfl, rfl, hi, HZ, hBr⟩ := hrel
        by_cases hlt : i < n5
        · have j1 : (i : Int) < (n5 : Int) := by omega
          have j0 : (0 : Int) ≤ (i : Int) := by omega
          obtain ⟨x, hx⟩ : ∃ x, D[i]? = some x := ⟨_, List.getElem?_eq_getElem (by rw [HD.out.1]; exact hlt)⟩
          obtain ⟨ad, rfl, hcx, hxl⟩ := HD.out.2.1 wr hBr.out i x hx
          have HZ2 : Hid (alD B2 l l' (D.take (i + 1)) = (z && !(ihB B2 x && sdB l x && !sdB l' x))) := by
            unfold Hid
            rw [alD_take hx, HZ.out]
          have HI1 : Hid (Calls Tryz.prog 8 #[.int .i64 B2, .string ⟨x.toArray⟩] wr fun e w' => e = .returned (.bool (ihB B2 x)) ∧ Below wr.heap.size wr w') := HIH.out wr x hxl
          have HS1 : Hid (∀ W, Calls Tryz.prog 9 #[.string ⟨l.toArray⟩, .string ⟨x.toArray⟩] W fun e w' => e = .returned (.bool (sdB l x)) ∧ Below W.heap.size W w') := fun W => HSa.out W x hxl
          have HS2 : Hid (∀ W, Calls Tryz.prog 9 #[.string ⟨l'.toArray⟩, .string ⟨x.toArray⟩] W fun e w' => e = .returned (.bool (sdB l' x)) ∧ Below W.heap.size W w') := fun W => HSb.out W x hxl
          obtain ⟨y1, hy1⟩ : ∃ y, ihB B2 x = y := ⟨_, rfl⟩
          obtain ⟨y2, hy2⟩ : ∃ y, sdB l x = y := ⟨_, rfl⟩
          obtain ⟨y3, hy3⟩ : ∃ y, sdB l' x = y := ⟨_, rfl⟩
          rw [hy1] at HI1 HZ2
          rw [hy2] at HS1 HZ2
          rw [hy3] at HS2 HZ2
          clear hx hxl HZ hy1 hy2 hy3
          go_wp2_with fail
          refine HI1.out.mono ?_
          rintro e w6 ⟨rfl, hb6⟩
          have HB6 : Hid (Below w5.heap.size w5 w6) := bel0 hBr.out hb6
          clear hcx HI1 hb6 hBr
          cases y1 with
          | false =>
            go_wp2_with fail
            go_roundw
            case rel => exact ⟨i + 1, z, rfl, by go_num, by omega, by have h := HZ2.out; simp at h; exact h, HB6⟩
            case measure => simp [intOf]; omega
          | true =>
            go_wp2_with fail
            refine (HS1.out _).mono ?_
            rintro e w7 ⟨rfl, hb7⟩
            have HB7 : Hid (Below w5.heap.size w5 w7) := bel0 HB6.out hb7
            clear hb7 HB6
            cases y2 with
            | false =>
              go_wp2_with fail
              go_roundw
              case rel => exact ⟨i + 1, z, rfl, by go_num, by omega, by have h := HZ2.out; simp at h; exact h, HB7⟩
              case measure => simp [intOf]; omega
            | true =>
              go_wp2_with fail
              refine (HS2.out _).mono ?_
              rintro e w8 ⟨rfl, hb8⟩
              have HB8 : Hid (Below w5.heap.size w5 w8) := bel0 HB7.out hb8
              clear hb8 HB7
              cases y3 with
              | false =>
                go_wp2_with fail
                go_roundw
                case rel => exact ⟨i + 1, false, rfl, by go_num, by omega, by have h := HZ2.out; simp at h; exact h, HB8⟩
                case measure => simp [intOf]; omega
              | true =>
                go_wp2_with fail
                go_roundw
                case rel => exact ⟨i + 1, z, rfl, by go_num, by omega, by have h := HZ2.out; simp at h; exact h, HB8⟩
                case measure => simp [intOf]; omega
        · have j1 : ¬ (i : Int) < (n5 : Int) := by omega
          have hal : alD B2 l l' D = z := by
            have h := HZ.out
            rw [List.take_of_length_le (by rw [HD.out.1]; omega)] at h
            exact h
          obtain ⟨hg, hg3, hi1⟩ := HIn'.out
          have hi1 := hi1 D HD.out.2.2
          rw [hal] at hi1
          have B6 : Hid (Below (w3.alloc (.cells #[.int .i64 B2, .slice p2 n2 c2, .bool false] 26 (0, 0))).heap.size (w3.alloc (.cells #[.int .i64 B2, .slice p2 n2 c2, .bool false] 26 (0, 0))) wr) := bel0 B5.out hBr.out
          obtain ⟨wq, rfl⟩ : ∃ wq, wq = wr := ⟨wr, rfl⟩
          clear hal HZ hBr HD HIH HSa HSb
          have hcase : (g1 = 3 ∧ i1 = false) ∨ (g1 = 0 ∧ i1 = true ∧ z = true) ∨ (g1 = 0 ∧ i1 = false ∧ z = false) ∨ (g1 = 0 ∧ i1 = false ∧ ¬ B2 ≤ 8) := by
            rcases hg with rfl | rfl
            · cases hq : i1 with
              | true => exact .inr (.inl ⟨rfl, rfl, hi1.1 rfl hq⟩)
              | false =>
                by_cases h8 : B2 ≤ 8
                · exact .inr (.inr (.inl ⟨rfl, rfl, by rw [← hi1.2 rfl h8]; exact hq⟩))
                · exact .inr (.inr (.inr ⟨rfl, rfl, h8⟩))
            · exact .inl ⟨rfl, hg3 rfl⟩
          clear hg hg3 hi1 HIn'
          obtain ⟨r8, h8⟩ : ∃ r, decide (B2 ≤ 8) = r := ⟨_, rfl⟩
          rcases hcase with ⟨rfl, rfl⟩ | ⟨rfl, rfl, rfl⟩ | ⟨rfl, rfl, rfl⟩ | ⟨rfl, rfl, hn8⟩
          all_goals
            cases r8
            all_goals
              first
              | exact absurd (of_decide_eq_true h8) hn8
              | skip
            all_goals
              go_wp2_with fail
              refine (HAl'.out _).mono ?_
              rintro e w7 ⟨rfl, hb7⟩
              have B7 : Hid (Below (w3.alloc (.cells #[.int .i64 B2, .slice p2 n2 c2, .bool false] 26 (0, 0))).heap.size (w3.alloc (.cells #[.int .i64 B2, .slice p2 n2 c2, .bool false] 26 (0, 0))) w7) := bel0 B6.out hb7
              clear hb7
              go_wp2_with fail
              refine (HOf'.out _).mono ?_
              rintro e w8 ⟨p8, n8, c8, rfl, hu8, hb8⟩
              have B8 : Hid (Below (w3.alloc (.cells #[.int .i64 B2, .slice p2 n2 c2, .bool false] 26 (0, 0))).heap.size (w3.alloc (.cells #[.int .i64 B2, .slice p2 n2 c2, .bool false] 26 (0, 0))) w8) := bel0 B7.out hb8
              have HU : Hid (∀ W, Below (w8.alloc (.cells #[.int .i64 B2, .slice p8 n8 c8, .bool false] 26 (0, 0))).heap.size (w8.alloc (.cells #[.int .i64 B2, .slice p8 n8 c8, .bool false] 26 (0, 0))) W → (∀ j, W.cell? ⟨w8.heap.size, j, none⟩ = (#[.int .i64 B2, .slice p8 n8 c8, .bool false] : Array Value)[j]?) ∧ QU W p8 n8 c8 ∧ Below (w3.alloc (.cells #[.int .i64 B2, .slice p2 n2 c2, .bool false] 26 (0, 0))).heap.size (w3.alloc (.cells #[.int .i64 B2, .slice p2 n2 c2, .bool false] 26 (0, 0))) W) := fun W hW => by
                have h := bel0 (belA (Below.refl w8.heap.size w8) _) hW
                exact ⟨(cells_block (keepblk3 hW (alloc_get _ _))).1, HQU.out _ _ _ _ _ hu8 h, bel0 B8.out h⟩
              obtain ⟨u1, u2, u3⟩ := HU.out _ (Below.refl _ _)
              obtain ⟨f1, f2, f3, -⟩ := HF.out _ u3
              clear hb8 hu8 B7
              go_wp2_with fail
              refine (HW2'.out _ _ _ _ _ _ _ f3 u2).mono ?_
              rintro e w9 ⟨rfl, hb9⟩
              obtain ⟨-, -, u4⟩ := HU.out _ hb9
              have B9 : Hid (Below (w3.alloc (.cells #[.int .i64 B2, .slice p2 n2 c2, .bool false] 26 (0, 0))).heap.size (w3.alloc (.cells #[.int .i64 B2, .slice p2 n2 c2, .bool false] 26 (0, 0))) w9) := u4
              obtain ⟨g1', g2', g3', g4', -⟩ := HF.out _ B9.out
              clear u1 u2 u3 u4 f1 f2 f3 hb9 B8 HU
              go_wp2_with fail
              refine (HMe'.out _ _ _ _ _ _ _ g3' g4').mono ?_
              rintro e w10 ⟨pm, nm, cm, rfl, hm10, hb10⟩
              have B10 : Hid (Below (w3.alloc (.cells #[.int .i64 B2, .slice p2 n2 c2, .bool false] 26 (0, 0))).heap.size (w3.alloc (.cells #[.int .i64 B2, .slice p2 n2 c2, .bool false] 26 (0, 0))) w10) := bel0 B9.out hb10
              have HM : Hid (∀ W, Below (w10.alloc (.cells #[.int .i64 mB, .slice pm nm cm, .bool false] 26 (0, 0))).heap.size (w10.alloc (.cells #[.int .i64 mB, .slice pm nm cm, .bool false] 26 (0, 0))) W → (∀ j, W.cell? ⟨w10.heap.size, j, none⟩ = (#[.int .i64 mB, .slice pm nm cm, .bool false] : Array Value)[j]?) ∧ QM W pm nm cm ∧ Below (w3.alloc (.cells #[.int .i64 B2, .slice p2 n2 c2, .bool false] 26 (0, 0))).heap.size (w3.alloc (.cells #[.int .i64 B2, .slice p2 n2 c2, .bool false] 26 (0, 0))) W) := fun W hW => by
                have h := bel0 (belA (Below.refl w10.heap.size w10) _) hW
                exact ⟨(cells_block (keepblk3 hW (alloc_get _ _))).1, HQM.out _ _ _ _ _ hm10 h, bel0 B10.out h⟩
              obtain ⟨m1, m2, m3⟩ := HM.out _ (Below.refl _ _)
              obtain ⟨f1, f2, f3, f4, -⟩ := HF.out _ m3
              clear g1' g2' g3' g4' hb10 hm10 B9
              rcases HmE'.out with rfl | rfl
              · obtain ⟨hx3, HX3⟩ := HW3'.out rfl
                obtain ⟨hx4, HX4⟩ := HW4'.out rfl
                have HX3' : Hid _ := HX3
                have HX4' : Hid _ := HX4
                clear HX3 HX4
                go_wp2_with fail
                refine (HX3'.out _ _ _ _ _ _ _ m2 f3).mono ?_
                rintro e w11 ⟨rfl, hb11⟩
                obtain ⟨m4, m5, m6⟩ := HM.out _ hb11
                have B11 : Hid (Below (w3.alloc (.cells #[.int .i64 B2, .slice p2 n2 c2, .bool false] 26 (0, 0))).heap.size (w3.alloc (.cells #[.int .i64 B2, .slice p2 n2 c2, .bool false] 26 (0, 0))) w11) := m6
                obtain ⟨k1, k2, k3, k4, -⟩ := HF.out _ B11.out
                clear m1 m2 m3 m6 f1 f2 f3 f4 hb11
                go_wp2_with fail
                refine (HX4'.out _ _ _ _ _ _ _ m5 k4).mono ?_
                rintro e w12 ⟨rfl, hb12⟩
                have HZZ : Hid (Below w.heap.size w w12) := (HF.out _ (bel0 B11.out hb12)).2.2.2.2.2
                clear m4 m5 k1 k2 k3 k4 hb12
                by_cases a3 : g3 = 0
                · obtain rfl := hx3 a3
                  subst a3
                  by_cases a4 : g4 = 0
                  · obtain rfl := hx4 a4
                    subst a4
                    go_wp2_with fail
                    go_ret
                    exact ⟨rfl, HZZ.out⟩
                  · have e4 : (g4 != 0) = true := by simpa using a4
                    go_wp2_with fail
                    go_ret
                    exact ⟨rfl, HZZ.out⟩
                · have e3 : (g3 != 0) = true := by simpa using a3
                  by_cases a4 : g4 = 0
                  · obtain rfl := hx4 a4
                    subst a4
                    go_wp2_with fail
                    go_ret
                    exact ⟨rfl, HZZ.out⟩
                  · have e4 : (g4 != 0) = true := by simpa using a4
                    go_wp2_with fail
                    go_ret
                    exact ⟨rfl, HZZ.out⟩
              · have HZZ : Hid (Below w.heap.size w (w10.alloc (.cells #[.int .i64 mB, .slice pm nm cm, .bool false] 26 (0, 0)))) := (HF.out _ m3).2.2.2.2.2
                go_wp2_with fail
                go_ret
                exact ⟨rfl, HZZ.out⟩
    · have e0 : (E2 != 0) = true := by simpa using hE2
      clear HB HW1 HIn HAl HOf HW2 HMe HmE HW3 HW4 hE2
      go_wp2_with fail
      go_ret
      exact ⟨rfl, (HF.out _ (Below.refl _ _)).2.2.2.2.2⟩
  · have e0 : (E1 != 0) = true := by simpa using hE1
    clear HB HW1 HIn HAl HOf HW2 HMe HmE HW3 HW4 hE1
    go_wp2_with fail
    go_ret
    exact ⟨rfl, (HF.out _ (Below.refl _ _)).2.2.2.2.2⟩
end Go.Proofs.YtfhghplplkkpmaaGreatDoor

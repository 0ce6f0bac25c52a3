import Derived.Test.YtfcdaljhbeogeaaRJ
namespace Go.Proofs.Ytfcdaljhbeogeaa
open Go.RowKit
/-- may the edge be, with so many nodes -/
def eok (N : Int) (e : IRt) : Bool := decide (0 ≤ e.1 ∧ e.1 < N) && decide (0 ≤ e.2.1 ∧ e.2.1 < N) && decide (1 ≤ e.2.2.1) && decide (e.2.2.1 ≤ 9999) && decide (0 ≤ e.2.2.2 ∧ e.2.2.2 < 48)
def dok (N : Int) (d : Int) : Bool := decide (0 ≤ d ∧ d < N)
def gfit (N : Int) (E : List IRt) (D : List Int) : Int := if 48 < E.length ∨ 16 < D.length then 2 else if ¬ (1 ≤ N ∧ N ≤ 16) then 1 else if E.all (eok N) = true then (if D.all (dok N) = true then 0 else 1) else 81
theorem all_takeE {S : List IRt} {p : IRt → Bool} {i : Nat} {x : IRt} (hx : S[i]? = some x) : (S.take (i + 1)).all p = ((S.take i).all p && p x) := by
  rw [List.take_add_one, hx, List.all_append]
  simp
theorem all_takeI {S : List Int} {p : Int → Bool} {i : Nat} {x : Int} (hx : S[i]? = some x) : (S.take (i + 1)).all p = ((S.take i).all p && p x) := by
  rw [List.take_add_one, hx, List.all_append]
  simp
theorem IRI.later {w w' : World} {o : Option Addr} {V : List Int} (h : IRI w o V) (hb : Below w.heap.size w w') : IRI w' o V := fun W hW => h W (bel0 hb hW)
theorem all_noE {S : List IRt} {p : IRt → Bool} {x : IRt} {i : Nat} (hx : S[i]? = some x) (hp : p x = false) : ¬ S.all p = true := fun h => by
  have := List.all_eq_true.1 h x (List.mem_of_getElem? hx)
  rw [hp] at this
  cases this
theorem all_noI {S : List Int} {p : Int → Bool} {x : Int} {i : Nat} (hx : S[i]? = some x) (hp : p x = false) : ¬ S.all p = true := fun h => by
  have := List.all_eq_true.1 h x (List.mem_of_getElem? hx)
  rw [hp] at this
  cases this
set_option maxRecDepth 100000 in
set_option maxHeartbeats 2000000 in
theorem graphRefusal_any (N : Int) (E : List IRt) (D : List Int) (oe od : Option Addr) (ce cd ne nd : Nat) (w : World) (hne : E.length = ne) (hnd : D.length = nd) (hE : IRR w oe E) (hD : IRI w od D) :
    Calls Try.prog 31 #[.int .i64 N, .slice oe ne ce, .slice od nd cd] w fun e w' => e = .returned (.int .i64 (gfit N E D)) ∧ Below w.heap.size w w' := by
  unfold gfit
  rw [hne, hnd]
  by_cases a1 : 48 < ne
  · rw [if_pos (.inl a1)]
    have i1 : (48 : Int) < (ne : Int) := by omega
    clear hE hD
    go_enter Try.func31, Try.ntmps31
    go_wp2_with fail
    go_ret
    exact ⟨rfl, Below.refl _ _⟩
  have i1 : ¬ (48 : Int) < (ne : Int) := by omega
  by_cases a2 : 16 < nd
  · rw [if_pos (.inr a2)]
    have i2 : (16 : Int) < (nd : Int) := by omega
    clear hE hD
    go_enter Try.func31, Try.ntmps31
    go_wp2_with fail
    go_ret
    exact ⟨rfl, Below.refl _ _⟩
  rw [if_neg (fun h => h.elim a1 a2)]
  have i2 : ¬ (16 : Int) < (nd : Int) := by omega
  by_cases a3 : N < 1
  · rw [if_pos (fun h => by omega)]
    clear hE hD
    go_enter Try.func31, Try.ntmps31
    go_wp2_with fail
    go_ret
    exact ⟨rfl, Below.refl _ _⟩
  by_cases a4 : (16 : Int) < N
  · rw [if_pos (fun h => by omega)]
    clear hE hD
    go_enter Try.func31, Try.ntmps31
    go_wp2_with fail
    go_ret
    exact ⟨rfl, Below.refl _ _⟩
  rw [if_neg (fun h => h ⟨by omega, by omega⟩)]
  obtain ⟨R, hR⟩ : ∃ R : Int, (if E.all (eok N) = true then (if D.all (dok N) = true then 0 else 1) else 81) = R := ⟨_, rfl⟩
  rw [hR]
  have HR : Hid ((if E.all (eok N) = true then (if D.all (dok N) = true then 0 else 1) else 81) = R) := hR
  have HE : Hid (IRR w oe E) := hE
  have HD : Hid (IRI w od D) := hD
  have HN : Hid (E.length = ne ∧ D.length = nd) := ⟨hne, hnd⟩
  clear hR hE hD hne hnd
  go_enter Try.func31, Try.ntmps31
  go_wp2_with fail
  go_loopw [27] (fun vi wr => ∃ i : Nat, vi = .int .i64 (i : Int) ∧ i ≤ ne ∧ Hid ((E.take i).all (eok N) = true) ∧ Below w.heap.size w wr) (fun vi _ => ne - (intOf vi).toNat)
  case atStart => exact ⟨0, rfl, Nat.zero_le _, rfl, Below.refl _ _⟩
  case round =>
    obtain ⟨i, rfl, hin, hA, hB⟩ := hrel
    by_cases hlt : i < ne
    · have j1 : (i : Int) < (ne : Int) := by omega
      have j0 : (0 : Int) ≤ (i : Int) := by omega
      obtain ⟨e, hei⟩ : ∃ e, E[i]? = some e := ⟨_, List.getElem?_eq_getElem (by rw [HN.out.1]; omega)⟩
      obtain ⟨ge, oo, rfl, p0, p1, p2, p3⟩ := HE.out wr hB i e hei
      have hst := all_takeE (p := eok N) hei
      rw [hA.out, Bool.true_and] at hst
      have HBD : Hid (eok N e = false → R = 81) := fun h => by rw [← HR.out, if_neg (all_noE hei h)]
      have hBA : Below w.heap.size w (wr.alloc (.cells #[.int .i64 e.1, .int .i64 e.2.1, .int .i64 e.2.2.1, .int .i64 e.2.2.2] 34)) := hB.alloc hB.size _
      obtain ⟨e0, e1, e2, e3⟩ := e
      have HST : Hid ((E.take (i + 1)).all (eok N) = eok N (e0, e1, e2, e3)) := hst
      simp only at p0 p1 p2 p3 hBA
      clear hst hei hA
      have hI := fun (a b : Int) (W : World) => isBelow_any a b W
      by_cases b1 : 0 ≤ e0 ∧ e0 < N
      · have HB1 : Hid (∀ W : World, Calls Try.prog 45 #[.int .i64 e0, .int .i64 N] W fun e w' => e = .returned (.bool true) ∧ w' = W) := fun W => by have := hI e0 N W; rw [decide_eq_true b1] at this; exact this
        by_cases b2 : 0 ≤ e1 ∧ e1 < N
        · have HB2 : Hid (∀ W : World, Calls Try.prog 45 #[.int .i64 e1, .int .i64 N] W fun e w' => e = .returned (.bool true) ∧ w' = W) := fun W => by have := hI e1 N W; rw [decide_eq_true b2] at this; exact this
          by_cases b3 : e2 < 1
          · obtain rfl : R = 81 := HBD.out (by unfold eok; simp only; rw [decide_eq_false (show ¬ 1 ≤ e2 by omega)]; simp)
            clear hI b1 b2
            go_wp2_with fail
            refine (HB1.out _).mono ?_
            rintro e w7 ⟨rfl, rfl⟩
            go_wp2_with fail
            refine (HB2.out _).mono ?_
            rintro e w7 ⟨rfl, rfl⟩
            go_wp2_with fail
            go_ret
            exact ⟨rfl, hBA⟩
          · by_cases b4 : (9999 : Int) < e2
            · obtain rfl : R = 81 := HBD.out (by unfold eok; simp only; rw [decide_eq_false (show ¬ e2 ≤ 9999 by omega)]; simp)
              clear hI b1 b2
              go_wp2_with fail
              refine (HB1.out _).mono ?_
              rintro e w7 ⟨rfl, rfl⟩
              go_wp2_with fail
              refine (HB2.out _).mono ?_
              rintro e w7 ⟨rfl, rfl⟩
              go_wp2_with fail
              go_ret
              exact ⟨rfl, hBA⟩
            · by_cases b5 : 0 ≤ e3 ∧ e3 < 48
              · have HB5 : Hid (∀ W : World, Calls Try.prog 45 #[.int .i64 e3, .int .i64 48] W fun e w' => e = .returned (.bool true) ∧ w' = W) := fun W => by have := hI e3 48 W; rw [decide_eq_true b5] at this; exact this
                have HOK : Hid ((E.take (i + 1)).all (eok N) = true) := by
                  unfold Hid
                  rw [HST.out]
                  unfold eok
                  simp only
                  rw [decide_eq_true b1, decide_eq_true b2, decide_eq_true (show 1 ≤ e2 by omega), decide_eq_true (show e2 ≤ 9999 by omega), decide_eq_true b5]
                  rfl
                clear hI b1 b2 b5
                go_wp2_with fail
                refine (HB1.out _).mono ?_
                rintro e w7 ⟨rfl, rfl⟩
                go_wp2_with fail
                refine (HB2.out _).mono ?_
                rintro e w7 ⟨rfl, rfl⟩
                go_wp2_with fail
                refine (HB5.out _).mono ?_
                rintro e w7 ⟨rfl, rfl⟩
                go_wp2_with fail
                go_roundw
                case rel => exact ⟨i + 1, by go_num, by omega, HOK, hBA⟩
                case measure => simp [intOf]; omega
              · have HB5 : Hid (∀ W : World, Calls Try.prog 45 #[.int .i64 e3, .int .i64 48] W fun e w' => e = .returned (.bool false) ∧ w' = W) := fun W => by have := hI e3 48 W; rw [decide_eq_false b5] at this; exact this
                obtain rfl : R = 81 := HBD.out (by unfold eok; simp only; rw [decide_eq_false b5]; simp)
                clear hI b1 b2 b5
                go_wp2_with fail
                refine (HB1.out _).mono ?_
                rintro e w7 ⟨rfl, rfl⟩
                go_wp2_with fail
                refine (HB2.out _).mono ?_
                rintro e w7 ⟨rfl, rfl⟩
                go_wp2_with fail
                refine (HB5.out _).mono ?_
                rintro e w7 ⟨rfl, rfl⟩
                go_wp2_with fail
                go_ret
                exact ⟨rfl, hBA⟩
        · have HB2 : Hid (∀ W : World, Calls Try.prog 45 #[.int .i64 e1, .int .i64 N] W fun e w' => e = .returned (.bool false) ∧ w' = W) := fun W => by have := hI e1 N W; rw [decide_eq_false b2] at this; exact this
          obtain rfl : R = 81 := HBD.out (by unfold eok; simp only; rw [decide_eq_false b2]; simp)
          clear hI b1 b2
          go_wp2_with fail
          refine (HB1.out _).mono ?_
          rintro e w7 ⟨rfl, rfl⟩
          go_wp2_with fail
          refine (HB2.out _).mono ?_
          rintro e w7 ⟨rfl, rfl⟩
          go_wp2_with fail
          go_ret
          exact ⟨rfl, hBA⟩
      · have HB1 : Hid (∀ W : World, Calls Try.prog 45 #[.int .i64 e0, .int .i64 N] W fun e w' => e = .returned (.bool false) ∧ w' = W) := fun W => by have := hI e0 N W; rw [decide_eq_false b1] at this; exact this
        obtain rfl : R = 81 := HBD.out (by unfold eok; simp only; rw [decide_eq_false b1]; simp)
        clear hI b1
        go_wp2_with fail
        refine (HB1.out _).mono ?_
        rintro e w7 ⟨rfl, rfl⟩
        go_wp2_with fail
        go_ret
        exact ⟨rfl, hBA⟩
    · have j1 : ¬ (i : Int) < (ne : Int) := by omega
      have hEA : E.all (eok N) = true := by have := hA.out; rw [List.take_of_length_le (by rw [HN.out.1]; omega)] at this; exact this
      have HR2 : Hid ((if D.all (dok N) = true then 0 else 1) = R) := by have := HR.out; rw [if_pos hEA] at this; exact this
      clear hEA hA
      go_wp2_with fail
      go_loopw [62] (fun vi wr => ∃ i : Nat, vi = .int .i64 (i : Int) ∧ i ≤ nd ∧ Hid ((D.take i).all (dok N) = true) ∧ Below w.heap.size w wr) (fun vi _ => nd - (intOf vi).toNat)
      case atStart => exact ⟨0, rfl, Nat.zero_le _, rfl, hB⟩
      case round =>
        clear hB
        obtain ⟨x, rfl, hin2, hA, hB⟩ := hrel
        by_cases hlt2 : x < nd
        · have j2 : (x : Int) < (nd : Int) := by omega
          have j3 : (0 : Int) ≤ (x : Int) := by omega
          obtain ⟨d, hdx⟩ : ∃ d, D[x]? = some d := ⟨_, List.getElem?_eq_getElem (by rw [HN.out.2]; omega)⟩
          obtain ⟨gd, ov, rfl, p0⟩ := HD.out wr hB x d hdx
          have hst := all_takeI (p := dok N) hdx
          rw [hA.out, Bool.true_and] at hst
          have hI := fun (W : World) => isBelow_any d N W
          by_cases b1 : 0 ≤ d ∧ d < N
          · have HB1 : Hid (∀ W : World, Calls Try.prog 45 #[.int .i64 d, .int .i64 N] W fun e w' => e = .returned (.bool true) ∧ w' = W) := fun W => by have := hI W; rw [decide_eq_true b1] at this; exact this
            have HOK : Hid ((D.take (x + 1)).all (dok N) = true) := by unfold Hid; rw [hst]; exact decide_eq_true b1
            clear hI b1 hst hdx hA
            go_wp2_with fail
            refine (HB1.out _).mono ?_
            rintro e w7 ⟨rfl, rfl⟩
            go_wp2_with fail
            go_roundw
            case rel => exact ⟨x + 1, by go_num, by omega, HOK, hB⟩
            case measure => simp [intOf]; omega
          · have HB1 : Hid (∀ W : World, Calls Try.prog 45 #[.int .i64 d, .int .i64 N] W fun e w' => e = .returned (.bool false) ∧ w' = W) := fun W => by have := hI W; rw [decide_eq_false b1] at this; exact this
            obtain rfl : R = 1 := by rw [← HR2.out, if_neg (all_noI hdx (decide_eq_false b1))]
            clear hI b1 hst hdx hA
            go_wp2_with fail
            refine (HB1.out _).mono ?_
            rintro e w7 ⟨rfl, rfl⟩
            go_wp2_with fail
            go_ret
            exact ⟨rfl, hB⟩
        · have j2 : ¬ (x : Int) < (nd : Int) := by omega
          have hDA : D.all (dok N) = true := by have := hA.out; rw [List.take_of_length_le (by rw [HN.out.2]; omega)] at this; exact this
          obtain rfl : R = 0 := by rw [← HR2.out, if_pos hDA]
          clear hDA hA
          go_wp2_with fail
          go_ret
          exact ⟨rfl, hB⟩
end Go.Proofs.Ytfcdaljhbeogeaa

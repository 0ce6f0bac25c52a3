import Derived.Test.YtfcdaljhbeogeaaSE
import Derived.Deep.RegionHeld3
import Derived.Laws.OwnMore
namespace Go.Proofs.Ytfcdaljhbeogeaa
open Go.RowKit
/-- the points of one route -/
def pt1 (b : Nat) (r : IRt) : List Int := if r.2.1 + 2 ^ (b - r.2.2.1.toNat) < 2 ^ b then [r.2.1, r.2.1 + 2 ^ (b - r.2.2.1.toNat)] else [r.2.1]
/-- what points answers -/
def pts (b : Nat) (L : List IRt) : List Int := 0 :: L.flatMap (pt1 b)
theorem pt1_len (b : Nat) (r : IRt) : (pt1 b r).length ≤ 2 := by unfold pt1; split <;> simp
theorem pts_len (b : Nat) (L : List IRt) : (pts b L).length ≤ 2 * L.length + 1 := by
  unfold pts
  rw [List.length_cons]
  have : (L.flatMap (pt1 b)).length ≤ 2 * L.length := by
    induction L with
    | nil => simp
    | cons r L ih => rw [List.flatMap_cons, List.length_append, List.length_cons]; have := pt1_len b r; omega
  omega
theorem pts_take {b : Nat} {L : List IRt} {i : Nat} {r : IRt} (h : L[i]? = some r) : pts b (L.take (i + 1)) = pts b (L.take i) ++ pt1 b r := by
  unfold pts
  rw [List.take_add_one, h, List.flatMap_append]
  simp
theorem iv_app2 (V : List Int) (x : Int) : iv V ++ [.int .i64 x] = iv (V ++ [x]) := by simp [iv]
theorem ptf {b l va : Nat} (r0 r3 : Int) (hb : b ≤ 32) (hl : l ≤ b) (hv : va < 2 ^ b) : ∃ ek Pw Pb Sm : Nat, wrap64 ((b : Int) - (l : Int)) = (ek : Int) ∧ (0 : Int) ≤ (ek : Int) ∧ (ek : Int) < 64 ∧ ¬ (32 : Int) < (ek : Int) ∧ wrap64 ((2 : Int) ^ ek) = (Pw : Int) ∧ (0 : Int) ≤ (b : Int) ∧ (b : Int) < 64 ∧ wrap64 ((2 : Int) ^ b) = (Pb : Int) ∧ wrap64 ((va : Int) + (Pw : Int)) = (Sm : Int) ∧ pt1 b (r0, (va : Int), (l : Int), r3) = if Sm < Pb then [(va : Int), (Sm : Int)] else [(va : Int)] := by
  have hp2 : 2 ^ (b - l) ≤ 2 ^ 32 := Nat.pow_le_pow_right (by decide) (by omega)
  have hp3 : 2 ^ b ≤ 2 ^ 32 := Nat.pow_le_pow_right (by decide) (by omega)
  refine ⟨b - l, 2 ^ (b - l), 2 ^ b, va + 2 ^ (b - l), by unfold wrap64; omega, by omega, by omega, by omega, ?_, by omega, by omega, ?_, ?_, ?_⟩
  · rw [pow_cast]
    generalize 2 ^ (b - l) = Q at hp2 ⊢
    exact w64 (by omega) (by omega)
  · rw [pow_cast]
    generalize 2 ^ b = Q at hp3 ⊢
    exact w64 (by omega) (by omega)
  · generalize 2 ^ (b - l) = Q at hp2 ⊢
    generalize 2 ^ b = Q2 at hp3 hv
    unfold wrap64
    omega
  · unfold pt1
    simp only [Int.toNat_natCast]
    rw [pow_cast, pow_cast]
    generalize 2 ^ (b - l) = Q at hp2 ⊢
    generalize 2 ^ b = Q2 at hp3 hv ⊢
    by_cases h : va + Q < Q2
    · rw [if_pos h, if_pos (by omega), Int.natCast_add]
    · rw [if_neg h, if_neg (by omega)]
set_option maxRecDepth 100000 in
set_option maxHeartbeats 2000000 in
theorem points_any (b n : Nat) (L : List IRt) (o : Option Addr) (c : Nat) (w : World) (hb : b ≤ 32) (hL : L.length = n) (hn : n ≤ 60) (hr : IRR w o L) (hm : ∀ r ∈ L, rmay b r = true) :
    Calls Try.prog 25 #[.int .i64 (b : Int), .slice o n c] w fun e w' => ∃ v : Value, e = .returned v ∧ w'.ownsRow w.heap.size 3 1 v (pts b L).length (iv (pts b L)) ∧ Below w.heap.size w w' := by
  obtain ⟨i8, hi8, hy0, hy1, hy2⟩ := info_parts info_int8
  have HI : Hid (IRR w o L) := hr
  have HN : Hid (L.length = n) := hL
  have HM : Hid (∀ r ∈ L, rmay b r = true) := hm
  have HB : Hid (b ≤ 32) := hb
  have HO0 : Hid ((w.alloc (.cells #[.int .i64 0] 3 (0, 0))).ownsRow w.heap.size 3 1 (.slice (some ⟨w.heap.size, 0, none⟩) 1 1) (pts b (L.take 0)).length (iv (pts b (L.take 0)))) := World.ownsRow_lit w #[.int .i64 0] 1 (Nat.le_refl _) (by unfold maxLen; omega) rfl
  clear hr hL hm hb
  go_enter Try.func25, Try.ntmps25
  go_wp2_with fail
  go_loopw [5, 6] (fun v5 vi wr => ∃ i : Nat, vi = .int .i64 (i : Int) ∧ i ≤ n ∧ Hid (wr.ownsRow w.heap.size 3 1 v5 (pts b (L.take i)).length (iv (pts b (L.take i)))) ∧ Below w.heap.size w wr) (fun _ vi _ => n - (intOf vi).toNat)
  case atStart => exact ⟨0, rfl, Nat.zero_le _, HO0, (Below.refl _ _).alloc (Nat.le_refl _) _⟩
  case round =>
    clear HO0
    obtain ⟨i, rfl, hin, hO, hB⟩ := hrel
    by_cases hlt : i < n
    · have j1 : (i : Int) < (n : Int) := by omega
      have j0 : (0 : Int) ≤ (i : Int) := by omega
      obtain ⟨r, hri⟩ : ∃ r, L[i]? = some r := ⟨_, List.getElem?_eq_getElem (by rw [HN.out]; omega)⟩
      have hmr := HM.out r (List.mem_of_getElem? hri)
      obtain ⟨g, o0, rfl, -⟩ := HI.out _ hB i r hri
      have HL : Hid (∀ W, Below w.heap.size w W → W.cell? ⟨g, o0 + i * 4 + 1, none⟩ = some (.int .i64 r.2.1) ∧ W.cell? ⟨g, o0 + i * 4 + 2, none⟩ = some (.int .i64 r.2.2.1)) := fun W hW => by
        have h1 := irr_cells HI.out hri hW
        exact ⟨h1.2.1, h1.2.2.1⟩
      have HPT := pts_take (b := b) hri
      obtain ⟨V, hV⟩ : ∃ V, pts b (L.take i) = V := ⟨_, rfl⟩
      have hVl : V.length ≤ 121 := by
        have := pts_len b (L.take i)
        rw [hV, List.length_take] at this
        omega
      rw [hV] at HPT hO
      have hO' := hO.out
      obtain ⟨r0, r1, r2, r3⟩ := r
      unfold rmay at hmr
      simp only [decide_eq_true_eq] at hmr
      obtain ⟨-, -, m3, m4, -, -, m7, m8, -⟩ := hmr
      obtain ⟨l, rfl⟩ : ∃ z : Nat, r2 = z := ⟨r2.toNat, (Int.toNat_of_nonneg m3).symm⟩
      obtain ⟨va, rfl⟩ : ∃ z : Nat, r1 = z := ⟨r1.toNat, (Int.toNat_of_nonneg m7).symm⟩
      obtain ⟨ek, Pw, Pb, Sm, a1, a2, a3, a5, a4, b2, b3, b4, aw, hpt⟩ := ptf (va := va) (l := l) r0 r3 HB.out (Int.ofNat_le.1 m4) (Int.ofNat_lt.1 m8)
      simp only at HL
      rw [hpt] at HPT
      have HPT2 : Hid (pts b (L.take (i + 1)) = V ++ (if Sm < Pb then [(va : Int), (Sm : Int)] else [(va : Int)])) := HPT
      clear m3 m4 m7 m8 HPT hV hpt
      obtain ⟨p1, p2⟩ := HL.out wr hB
      go_upto_region 8 with (at_builtin; refine wpList_append_own _ rfl _ _ 23 rfl w.heap.size 3 i8 _ 1 8 Try.underlying23 hi8 hy0 hy1 hy2 rfl (by decide) _ _ _ rfl (hO'.alloc _) ⟨_, 0, none⟩ 1 1 [.int .i64 (va : Int)] rfl rfl (World.news_of_block (cs := #[.int .i64 (va : Int)]) (t := 3) (fr := (0, 0)) (alloc_get _ _)) (by simp [Value.oneCell']) (by unfold maxLen; omega) (by omega) (by have := hB.size; simp; omega) ?_; intro v5 W5 o5 g5 _)
      have hB5 : Below w.heap.size w W5 := (hB.alloc hB.size _).grown g5 (by have := hB.size; simp; omega) (fun k e => (hO'.lt k e).1)
      have O5 : Hid (W5.ownsRow w.heap.size 3 1 v5 (V ++ [(va : Int)]).length (iv (V ++ [(va : Int)]))) := by
        unfold Hid
        rw [← iv_app2]
        simpa using o5
      clear o5 g5 p1 p2 hO hO' a1
      obtain ⟨p1, p2⟩ := HL.out W5 hB5
      by_cases hfin : Sm < Pb
      · have f1 : (Sm : Int) < (Pb : Int) := Int.ofNat_lt.2 hfin
        rw [if_pos hfin] at HPT2
        go_quiet (fail)
        go_wp2_with fail
        obtain ⟨W6, hW6⟩ : ∃ W6, W5.drewN nq = W6 := ⟨_, rfl⟩
        have O6 : Hid (W6.ownsRow w.heap.size 3 1 v5 (V ++ [(va : Int)]).length (iv (V ++ [(va : Int)]))) := by rw [← hW6]; exact O5
        have hB6 : Below w.heap.size w W6 := by rw [← hW6]; exact bel_drewN _ hB5
        rw [hW6]
        clear p1 p2 O5 hB5 hW6 b2 b3 b4
        obtain ⟨p1, p2⟩ := HL.out W6 hB6
        have KA : Hid (∀ O : Obj, (W6.alloc O).cell? ⟨g, o0 + i * 4 + 1, none⟩ = some (.int .i64 (va : Int))) := fun O => (HL.out _ (hB6.alloc hB6.size O)).1
        have KG : Hid (∀ (O : Obj) (W : World), (W6.alloc O).drew.grownBy W v5.ownBlock → W.cell? ⟨g, o0 + i * 4 + 1, none⟩ = some (.int .i64 (va : Int))) := fun O W hg => (HL.out _ ((hB6.alloc hB6.size O).drew.grown hg (by have := hB6.size; simp; omega) (fun k e => (O6.out.lt k e).1))).1
        have HX : Hid ((IntKind.i64.wrap ((va : Int) + IntKind.i64.wrap ((2 : Int) ^ ek))) = (Sm : Int)) := by unfold Hid; rw [IntWalk.i64_left, IntWalk.i64_left, a4]; exact aw
        go_region_held3 (fun W => W.cell? ⟨g, o0 + i * 4 + 1, none⟩ = some (.int .i64 (va : Int))) (first | exact p1 | exact KA.out _ | exact KG.out _ _ grow7) (first | (refine step_append_lies _ (by rfl) _ _ _ (by rfl) w.heap.size 3 i8 _ 1 8 Try.underlying23 hi8 hy0 hy1 hy2 rfl (by decide) v5 (V ++ [(va : Int)]).length (iv (V ++ [(va : Int)])) (by rfl) (World.ownsRow.alloc O6.out _) ⟨_, 0, none⟩ 1 1 [.int .i64 (IntKind.i64.wrap ((va : Int) + IntKind.i64.wrap ((2 : Int) ^ ek)))] (by rfl) (by rfl) (World.news_of_block (cs := #[.int .i64 (IntKind.i64.wrap ((va : Int) + IntKind.i64.wrap ((2 : Int) ^ ek)))]) (t := 3) (fr := (0, 0)) (alloc_get W6 _)) (by simp [Value.oneCell']) (by omega) (by unfold maxLen; simp; omega) (by simp; omega) (by have := hB6.size; simp; omega) _ rfl ?_; intro gg cap w7 own7 grow7 hat hlt))
        have O7 : Hid (w7.ownsRow w.heap.size 3 1 (.slice (some ⟨gg, 0, none⟩) (V.length + 1 + 1) cap) (pts b (L.take (i + 1))).length (iv (pts b (L.take (i + 1))))) := by
          unfold Hid
          rw [HPT2.out]
          have h := own7
          rw [HX.out, iv_app2] at h
          simp only [List.append_assoc, List.length_append, List.length_cons, List.length_nil, List.cons_append, List.nil_append] at h ⊢
          exact h
        have hB7 : Below w.heap.size w w7 := (hB6.alloc hB6.size _).drew.grown grow7 (by have := hB6.size; simp; omega) (fun k e => (O6.out.lt k e).1)
        clear own7 grow7 HX KA KG O6 hB6 p1 p2 HPT2
        go_wp2_with fail
        go_roundw
        case rel => exact ⟨i + 1, by go_num, by omega, O7, hB7⟩
        case measure => simp [intOf]; omega
      · have f1 : ¬ (Sm : Int) < (Pb : Int) := fun h => hfin (Int.ofNat_lt.1 h)
        rw [if_neg hfin] at HPT2
        go_quiet (fail)
        clear a4 b4
        go_wp2_with fail
        go_roundw
        case rel => exact ⟨i + 1, by go_num, by omega, by unfold Hid; rw [HPT2.out]; exact O5, bel_drewN _ hB5⟩
        case measure => simp [intOf]; omega
    · have j1 : ¬ (i : Int) < (n : Int) := by omega
      obtain rfl : i = n := by omega
      have e0 : L.take i = L := List.take_of_length_le (by rw [HN.out]; exact Nat.le_refl _)
      rw [e0] at hO
      go_wp2_with fail
      go_ret
      exact ⟨_, rfl, hO.out, hB⟩
end Go.Proofs.Ytfcdaljhbeogeaa

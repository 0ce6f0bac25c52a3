import Derived.Test.YtmblloddhpcdeabYR1
import Derived.Test.YtmblloddhpcdeabY8
import Derived.Test.YtmblloddhpcdeabH1
import Derived.Deep.DeepCutAuto
import Derived.Deep.RegionWith
import Derived.BigQuiet
namespace Go.Proofs.Ytmblloddhpcdeab
open Go.RowKit

theorem mL_lenR (t : List UInt8) (m : Nat) : (mL t m).length = m := by
  induction m with
  | zero => rfl
  | succ m ih => simp [mL, ih]
theorem mL_at (t : List UInt8) (m i : Nat) (h : i < m) : (mL t m)[i]? = some (.string ⟨(ms t i).toArray⟩) := by
  induction m with
  | zero => omega
  | succ m ih =>
    simp only [mL]
    by_cases e : i = m
    · subst e
      rw [List.getElem?_append_right (by rw [mL_lenR]; omega), mL_lenR]
      simp
    · rw [List.getElem?_append_left (by rw [mL_lenR]; omega)]
      exact ih (by omega)
theorem own_baseR {W : World} {B B' : Nat} {e : TypeId} {size : Nat} {v : Value} {n : Nat} {xs : List Value} (h : W.ownsRow B e size v n xs) (hb : B' ≤ B) : W.ownsRow B' e size v n xs := by
  obtain ⟨h1, h2⟩ := h
  refine ⟨h1, ?_⟩
  rcases h2 with h2 | ⟨g, cap, cur, hv, hg, r⟩
  · exact .inl h2
  · exact .inr ⟨g, cap, cur, hv, Nat.le_trans hb hg, r⟩
theorem upTo_lvR (t : List UInt8) (a b : Nat) (h : lv t b) (hab : a ≤ b) : lv t a := by
  induction b with
  | zero =>
    obtain rfl : a = 0 := by omega
    exact h
  | succ b ih =>
    by_cases e : a = b + 1
    · subst e; exact h
    · exact ih h.1 (by omega)
theorem quiet_lit6 {P : Program} {id : Nat} {Q : Exit → Act → World → Prop} {a : Act} {w : World} {l : List Oper} {C : World → Prop} (hm : P.follows .mixedOrders = true) (hB : Region.lexB .any l.toArray = true) (hC : C w.drew)
    (h : wpQuiet P l.toArray C (fun a' => ∀ w', C w' → Q .normal a' w') l a) : (Code.region id l.toArray true).wp P Q a w :=
  wp_region_quiet (C := C) hm hB hC (by simpa using h)
/-- one of the first k headers -/
def amB (t h : List UInt8) (k : Nat) : Bool := (List.range k).any (fun j => ms t j == h)
theorem amB_succ (t h : List UInt8) (k : Nat) : amB t h (k + 1) = (amB t h k || (ms t k == h)) := by
  unfold amB
  rw [List.range_succ, List.any_append]
  simp
/-- the worlds in which the list stands -/
def riC (g c B m : Nat) (xs : List Value) (w W : World) : Prop := W.ownsRow B 9 1 (.slice (some ⟨g, 0, none⟩) m c) m xs ∧ Below w.heap.size w W
theorem riC.keep {g c B m : Nat} {xs : List Value} {w W w' : World} (h : riC g c B m xs w W) (hb : Below W.heap.size W w') : riC g c B m xs w w' := ⟨owns_below h.1 hb, bel0 h.2 hb⟩
theorem riC.at {g c B m k : Nat} {T : List UInt8} {w W : World} (h : riC g c B m (mL T m) w W) (hk : k < m) : W.cell? ⟨g, k, none⟩ = some (.string ⟨(ms T k).toArray⟩) := by
  rw [h.1.cellAt k (by omega)]
  exact mL_at T m k hk
/-- what the last line says -/
theorem rise_end (T h : List UInt8) (N m : Nat) (hu : upTo T N m) (hl : T.length = h.length) (hd : h.all dig = true) (q : Bool) (hq : hoB T h = q) :
    (!q || (!(Op.bytesLess h (ms T (m - 1)) || h == ms T (m - 1)) && decide (N - 1 < m)) || amB T h m) = true := by
  cases q
  · rfl
  · have hi := (ho_in T h hl hd).1 hq
    obtain ⟨u1, u2, u3, u4⟩ := hu
    have hlt := rk_lt T h
    have hml := ms_rk T (m - 1) u3
    by_cases hk : 2 ^ cnt T - 1 - rk T h ≤ m - 1
    · have hlk := upTo_lvR T _ _ u3 hk
      have hmk := ms_rk T _ hlk
      have he := (rk_ord T (ms T (2 ^ cnt T - 1 - rk T h)) h (ms_in T _) hi).1 (by omega)
      have ha : amB T h m = true := by
        unfold amB
        rw [List.any_eq_true]
        exact ⟨2 ^ cnt T - 1 - rk T h, List.mem_range.2 (by omega), by rw [he]; simp⟩
      rw [ha]; simp
    · have hless := (rk_ord T (ms T (m - 1)) h (ms_in T _) hi).2 (by omega)
      obtain ⟨a, b⟩ := less_irr _ _ hless
      have hmN : m = N := by
        rcases u4 with h | h
        · exact h
        · have := ((nx_step T (ms T (m - 1)) (ms_in T _)).2.2 h).1
          omega
      have hdn : decide (N - 1 < m) = true := by simp; omega
      rw [a, b, hdn]; simp

set_option maxRecDepth 100000 in
set_option maxHeartbeats 4000000 in
theorem rising_try (s h : ByteArray) (n : Int) (T : List UInt8) (E : Int) (w : World) (hs : s.size ≤ maxLen) (hh : h.size ≤ maxLen) (hT0 : cubeT s.data.toList = T) (hE0 : refP s.data.toList = E) (q1 q2 : Bool) (hq10 : cubB s.data.toList = q1) (hq20 : (hdB h.data.toList && ((h.size : Int) == (s.size : Int))) = q2) :
    Calls Try.prog 6 #[.string s, .string h, .int .i64 n] w fun e w' => e = .returned (.bool true) ∧ Below w.heap.size w w' := by
  have hT : Hid (cubeT s.data.toList = T) := hT0
  have hE : Hid (refP s.data.toList = E) := hE0
  have hq1 : Hid (cubB s.data.toList = q1) := hq10
  have hq2 : Hid ((hdB h.data.toList && ((h.size : Int) == (s.size : Int))) = q2) := hq20
  clear hT0 hE0 hq10 hq20
  obtain ⟨N0, hN0, hW0⟩ := within_nat n 9999
  have hW : Hid (∀ w, Calls Try.prog 25 #[.int .i64 n, .int .i64 9999] w fun e w' => e = .returned (.int .i64 (N0 : Int)) ∧ w' = w) := hW0
  clear hW0
  unfold maxLen at hs hh
  go_enter Try.func6, Try.ntmps6
  go_wp2_with fail
  refine (parse_D s _ hs T E hT.out hE.out).mono ?_
  rintro e w1 ⟨rfl, hb1⟩
  unfold cubeV cv
  have kX : (w1.alloc (.cells #[.int .i64 (T.length : Int), .int .u64 (FW T 0 : Int), .int .u64 (FW T 1 : Int), .int .u64 (FW T 2 : Int), .int .u64 (FW T 3 : Int), .int .u64 (OW T 0 : Int), .int .u64 (OW T 1 : Int), .int .u64 (OW T 2 : Int), .int .u64 (OW T 3 : Int)] 26)).heap[w1.heap.size]? = some (.cells (#[.int .i64 (T.length : Int), .int .u64 (FW T 0 : Int), .int .u64 (FW T 1 : Int), .int .u64 (FW T 2 : Int), .int .u64 (FW T 3 : Int), .int .u64 (OW T 0 : Int), .int .u64 (OW T 1 : Int), .int .u64 (OW T 2 : Int), .int .u64 (OW T 3 : Int)]) 26 (0, 0)) := alloc_get _ _
  have BB := belA hb1 (.cells #[.int .i64 (T.length : Int), .int .u64 (FW T 0 : Int), .int .u64 (FW T 1 : Int), .int .u64 (FW T 2 : Int), .int .u64 (FW T 3 : Int), .int .u64 (OW T 0 : Int), .int .u64 (OW T 1 : Int), .int .u64 (OW T 2 : Int), .int .u64 (OW T 3 : Int)] 26)
  clear hb1
  go_wp2_with fail
  refine (cube_D s q1 _ hs hq1.out).mono ?_
  rintro e w' ⟨rfl, rfl⟩
  cases q1
  · go_wp2_with fail
    refine (allV 2 _).mono ?_
    rintro e wA ⟨rfl, hbA⟩
    go_wp2_with fail
    refine (text_any (allT 2) _ (good_allT 2)).mono ?_
    rintro e wT ⟨rfl, hbT⟩
    go_wp2_with fail
    go_ret
    exact ⟨rfl, bel0 (bel0 BB hbA) hbT⟩
  · go_wp2_with fail
    refine (header_D h _ q2 _ hh hq2.out).mono ?_
    rintro e w' ⟨rfl, rfl⟩
    cases q2
    · go_wp2_with fail
      refine (allV 2 _).mono ?_
      rintro e wA ⟨rfl, hbA⟩
      go_wp2_with fail
      refine (text_any (allT 2) _ (good_allT 2)).mono ?_
      rintro e wT ⟨rfl, hbT⟩
      go_wp2_with fail
      go_ret
      exact ⟨rfl, bel0 (bel0 BB hbA) hbT⟩
    · obtain ⟨hne, gs⟩ := (cubB_iff _).1 hq1.out
      have hTs : Hid (s.data.toList = T) := by unfold Hid; rw [← hT.out]; exact (cubeT_good _ gs).symm
      have gT : good T = true := by rw [← hTs.out]; exact gs
      have hT1 : 1 ≤ T.length := by
        rw [← hTs.out]
        rcases Nat.lt_or_ge 0 s.data.toList.length with h | h
        · exact h
        · exact absurd (List.eq_nil_of_length_eq_zero (by omega)) hne
      have hsz : Hid (s.size = T.length) := by unfold Hid; rw [← hTs.out]; simp
      have h256 : s.size ≤ 256 := by rw [hsz.out]; exact good_len gT
      have hhd : Hid (h.data.toList.all dig = true ∧ h.size = s.size) := by
        have q := hq2.out
        rw [Bool.and_eq_true, beq_iff_eq] at q
        exact ⟨q.1, by omega⟩
      obtain ⟨N, hN⟩ : ∃ N : Nat, N = N0 + 1 := ⟨_, rfl⟩
      have n1 : (N0 : Int) + 1 = (N : Int) := by omega
      have n2 : IntKind.i64.wrap (N : Int) = (N : Int) := by rw [IntKind.wrap_i64]; omega
      have HN : Hid (N = N0 + 1) := hN
      have hS : Hid (∀ w, Calls Try.prog 24 #[.agg #[.int .i64 (T.length : Int), .int .u64 (FW T 0 : Int), .int .u64 (FW T 1 : Int), .int .u64 (FW T 2 : Int), .int .u64 (FW T 3 : Int), .int .u64 (OW T 0 : Int), .int .u64 (OW T 1 : Int), .int .u64 (OW T 2 : Int), .int .u64 (OW T 3 : Int)], .int .i64 (N : Int)] w fun e w' => ∃ m v, e = .returned v ∧ upTo T N m ∧ w'.ownsRow w.heap.size 9 1 v m (mL T m) ∧ Below w.heap.size w w') := fun w => some_any T N w gT hT1 (by omega) (by omega)
      clear hN hne gs hq1 hq2 hT hE
      have cX := (cells_block kX).1
      go_wp2_with fail
      go_cut [9] (fun v wc => ∃ m, upTo T N m ∧ wc.ownsRow w.heap.size 9 1 v m (mL T m) ∧ Below w.heap.size w wc)
      case first =>
        go_region_with (first | (go_at_call 25; refine (hW.out _).mono ?_; rintro e w' ⟨rfl, rfl⟩) | (go_at_call 24; refine (hS.out _).mono ?_; rintro e w2 ⟨m, v, rfl, hu, ho, hb2⟩))
        all_goals
          go_wp2
          go_meet
          exact ⟨m, hu, own_baseR ho BB.size, bel0 BB.drew hb2⟩
      case rest =>
        clear cX kX BB
        obtain ⟨m, hu0, ho, hB⟩ := hcut
        obtain ⟨hm1, hm2, hml, hmx⟩ := hu0
        have hu : Hid (upTo T N m) := ⟨hm1, hm2, hml, hmx⟩
        have HLV : Hid (lv T (m - 1)) := hml
        clear hmx hml
        obtain ⟨g, c, rfl⟩ : ∃ g c, u9 = .slice (some ⟨g, 0, none⟩) m c := by
          rcases ho.2 with ⟨_, h⟩ | ⟨g, c, _, h, _⟩
          · omega
          · exact ⟨g, c, h⟩
        have m0 : ((m : Int) == 0) = false := beq_false_of_ne (by omega)
        go_wp2
        go_loopw [10, 11] (fun am i wr => ∃ k : Nat, k ≤ m ∧ i = .int .i64 k ∧ am = .bool (amB T h.data.toList k) ∧ riC g c w.heap.size m (mL T m) w wr) (fun _ i _ => m - (intOf i).toNat)
        case atStart => exact ⟨0, Nat.zero_le _, rfl, rfl, ho, hB⟩
        case round =>
          clear ho hB
          obtain ⟨k, hk, rfl, rfl, hC⟩ := hrel
          by_cases hlt : k < m
          · have k0 : (0 : Int) ≤ (k : Int) := by omega
            have k1 : (k : Int) < (m : Int) := by omega
            obtain ⟨x, hx⟩ : ∃ x, ms T k = x := ⟨_, rfl⟩
            obtain ⟨a0, ha0⟩ : ∃ a, amB T h.data.toList k = a := ⟨_, rfl⟩
            obtain ⟨e0, he0⟩ : ∃ e, (x == h.data.toList) = e := ⟨_, rfl⟩
            have Ham : Hid (amB T h.data.toList (k + 1) = (a0 || e0)) := by unfold Hid; rw [amB_succ, ha0, hx, he0]
            have hxl : x.length = T.length := by rw [← hx]; exact ms_len T k
            have hxs : (⟨x.toArray⟩ : ByteArray).size = T.length := by show x.toArray.size = _; rw [← hxl]; simp
            have hxi : inC T x := by rw [← hx]; exact ms_in T k
            have hxd : x.all dig = true := inC_dig T x (by have := gT; simp only [good, Bool.and_eq_true] at this; exact this.2) hxi
            have Hx : Hid (ms T k = x) := hx
            have HH : Hid (∀ W, Calls Try.prog 11 #[.string ⟨x.toArray⟩, .int .i64 (s.size : Int)] W fun e w' => e = .returned (.bool true) ∧ W = w') := fun W => header_D ⟨x.toArray⟩ _ true W (by unfold maxLen; rw [hxs]; have := good_len gT; omega) (by
              rw [hxs, hsz.out]
              have e1 : hdB (⟨x.toArray⟩ : ByteArray).data.toList = true := hxd
              rw [e1]; simp)
            have HO : Hid (∀ W, Calls Try.prog 15 #[.string s, .string ⟨x.toArray⟩] W fun e w' => e = .returned (.bool true) ∧ Below W.heap.size W w') := fun W => holds_D s ⟨x.toArray⟩ true W h256 (by rw [hxs, hsz.out]) (by rw [hTs.out]; exact (ho_in T x (by omega) hxd).2 hxi)
            have HG : Hid (0 < k → ∀ y, ms T (k - 1) = y → Op.bytesLess y x = true) := by
              intro hkp y hy
              have hlk := upTo_lvR T k (m - 1) HLV.out (by omega)
              have hlk1 := upTo_lvR T (k - 1) (m - 1) HLV.out (by omega)
              have r1 := ms_rk T k hlk
              have r2 := ms_rk T (k - 1) hlk1
              have := (rk_ord T (ms T (k - 1)) (ms T k) (ms_in T _) (ms_in T _)).2 (by omega)
              rw [hy, Hx.out] at this
              exact this
            rw [ha0]
            clear hx ha0 hxl hxs hxi hxd
            go_wp2_with fail
            refine quiet_lit6 (C := riC g c w.heap.size m (mL T m) w) (by kernel_rfl) (by kernel_rfl) ⟨hC.1.drew, hC.2.drew⟩ ?_
            clear hC
            go_big_quiet_want
            go_big_quiet_op
            go_big_quiet_on
            go_big_quiet_want
            go_big_quiet_op
            go_big_quiet_on
            go_big_quiet_want
            refine ⟨.pointer (some ⟨g, k, none⟩), fun W hW => ?_, ?_⟩
            · go_simp
            go_big_quiet_on
            simp only [Act.put, List.setIfInBounds_toArray, List.set_cons_zero, List.set_cons_succ]
            go_big_quiet_want
            refine ⟨.string ⟨x.toArray⟩, fun W hW => ?_, ?_⟩
            · have z := hW.at (k := k) (by omega)
              rw [Hx.out] at z
              go_simp
            go_big_quiet_on
            simp only [Act.put, List.setIfInBounds_toArray, List.set_cons_zero, List.set_cons_succ]
            go_big_quiet_want
            go_big_quiet_op
            go_big_quiet_on
            go_big_quiet_want
            refine ⟨.int .i64 (s.size : Int), fun W hW => ?_, ?_⟩
            · go_simp
            go_big_quiet_on
            simp only [Act.put, List.setIfInBounds_toArray, List.set_cons_zero, List.set_cons_succ]
            go_big_quiet_want
            refine ⟨.bool true, fun W hW => ?_, ?_⟩
            · go_simp
              refine (HH.out _).mono ?_
              rintro e w' ⟨rfl, rfl⟩
              exact ⟨rfl, hW⟩
            go_big_quiet_on
            simp only [Act.put, List.setIfInBounds_toArray, List.set_cons_zero, List.set_cons_succ]
            go_big_quiet_want
            refine ⟨.bool false, fun W hW => ?_, ?_⟩
            · go_simp
            go_big_quiet_on
            simp only [Act.put, List.setIfInBounds_toArray, List.set_cons_zero, List.set_cons_succ]
            go_big_quiet_want
            go_big_quiet_op
            go_big_quiet_on
            go_big_quiet_want
            go_big_quiet_op
            go_big_quiet_on
            go_big_quiet_want
            go_big_quiet_op
            go_big_quiet_on
            go_big_quiet_want
            go_big_quiet_op
            go_big_quiet_on
            go_big_quiet_want
            refine ⟨.pointer (some ⟨g, k, none⟩), fun W hW => ?_, ?_⟩
            · go_simp
            go_big_quiet_on
            simp only [Act.put, List.setIfInBounds_toArray, List.set_cons_zero, List.set_cons_succ]
            go_big_quiet_want
            refine ⟨.string ⟨x.toArray⟩, fun W hW => ?_, ?_⟩
            · have z := hW.at (k := k) (by omega)
              rw [Hx.out] at z
              go_simp
            go_big_quiet_on
            simp only [Act.put, List.setIfInBounds_toArray, List.set_cons_zero, List.set_cons_succ]
            go_big_quiet_want
            refine ⟨.bool true, fun W hW => ?_, ?_⟩
            · go_simp
              refine (HO.out _).mono ?_
              rintro e w' ⟨rfl, hb⟩
              exact ⟨rfl, hW.keep hb⟩
            go_big_quiet_on
            simp only [Act.put, List.setIfInBounds_toArray, List.set_cons_zero, List.set_cons_succ]
            go_big_quiet_want
            refine ⟨.bool false, fun W hW => ?_, ?_⟩
            · go_simp
            go_big_quiet_on
            simp only [Act.put, List.setIfInBounds_toArray, List.set_cons_zero, List.set_cons_succ]
            go_big_quiet_want
            refine ⟨.bool false, fun W hW => ?_, ?_⟩
            · go_simp
            go_big_quiet_on
            simp only [Act.put, List.setIfInBounds_toArray, List.set_cons_zero, List.set_cons_succ]
            go_big_quiet_want
            go_big_quiet_op
            go_big_quiet_on
            go_big_quiet_want
            go_big_quiet_op
            go_big_quiet_on
            by_cases hkp : 0 < k
            · have kp : (k : Int) > 0 := by omega
              obtain ⟨j, hj⟩ : ∃ j : Nat, j = k - 1 := ⟨_, rfl⟩
              have j1 : (k : Int) - 1 = (j : Int) := by omega
              have j2 : IntKind.i64.wrap (j : Int) = (j : Int) := by rw [IntKind.wrap_i64]; omega
              have j3 : (0 : Int) ≤ (j : Int) := by omega
              have j4 : (j : Int) < (m : Int) := by omega
              obtain ⟨y, hy⟩ : ∃ y, ms T j = y := ⟨_, rfl⟩
              have Hy : Hid (ms T j = y) := hy
              have hgt := HG.out hkp y (by rw [← hj]; exact hy)
              have hjm : j < m := by omega
              clear hj hy
              go_big_quiet_want
              refine ⟨.bool true, fun W hW => ?_, ?_⟩
              · go_simp
              go_big_quiet_on
              simp only [Act.put, List.setIfInBounds_toArray, List.set_cons_zero, List.set_cons_succ]
              go_big_quiet_want
              go_big_quiet_op
              go_big_quiet_on
              go_big_quiet_want
              go_big_quiet_op
              go_big_quiet_on
              go_big_quiet_want
              go_big_quiet_op
              go_big_quiet_on
              go_big_quiet_want
              refine ⟨.int .i64 (j : Int), fun W hW => ?_, ?_⟩
              · go_simp
              go_big_quiet_on
              simp only [Act.put, List.setIfInBounds_toArray, List.set_cons_zero, List.set_cons_succ]
              go_big_quiet_want
              refine ⟨.pointer (some ⟨g, j, none⟩), fun W hW => ?_, ?_⟩
              · go_simp
              go_big_quiet_on
              simp only [Act.put, List.setIfInBounds_toArray, List.set_cons_zero, List.set_cons_succ]
              go_big_quiet_want
              refine ⟨.string ⟨y.toArray⟩, fun W hW => ?_, ?_⟩
              · have z := hW.at (k := j) hjm
                rw [Hy.out] at z
                go_simp
              go_big_quiet_on
              simp only [Act.put, List.setIfInBounds_toArray, List.set_cons_zero, List.set_cons_succ]
              go_big_quiet_want
              go_big_quiet_op
              go_big_quiet_on
              go_big_quiet_want
              go_big_quiet_op
              go_big_quiet_on
              go_big_quiet_want
              refine ⟨.pointer (some ⟨g, k, none⟩), fun W hW => ?_, ?_⟩
              · go_simp
              go_big_quiet_on
              simp only [Act.put, List.setIfInBounds_toArray, List.set_cons_zero, List.set_cons_succ]
              go_big_quiet_want
              refine ⟨.string ⟨x.toArray⟩, fun W hW => ?_, ?_⟩
              · have z := hW.at (k := k) (by omega)
                rw [Hx.out] at z
                go_simp
              go_big_quiet_on
              simp only [Act.put, List.setIfInBounds_toArray, List.set_cons_zero, List.set_cons_succ]
              go_big_quiet_want
              refine ⟨.bool false, fun W hW => ?_, ?_⟩
              · go_simp
              go_big_quiet_on
              simp only [Act.put, List.setIfInBounds_toArray, List.set_cons_zero, List.set_cons_succ]
              go_big_quiet_want
              refine ⟨.bool false, fun W hW => ?_, ?_⟩
              · go_simp
              go_big_quiet_on
              simp only [Act.put, List.setIfInBounds_toArray, List.set_cons_zero, List.set_cons_succ]
              go_big_quiet_want
              refine ⟨.bool false, fun W hW => ?_, ?_⟩
              · go_simp
              go_big_quiet_on
              simp only [Act.put, List.setIfInBounds_toArray, List.set_cons_zero, List.set_cons_succ]
              refine wpQuiet_nil ?_
              intro W2 hW2
              have z := hW2.at hlt
              rw [Hx.out] at z
              have hst : (x == h.toList) = e0 := by rw [ByteArray.toList_eq]; exact he0
              cases a0
              · go_wp2
                go_roundw
                case rel => exact ⟨k + 1, by omega, by go_num, by rw [Ham.out]; rfl, hW2⟩
                case measure => simp [intOf]; omega
              · go_wp2
                go_roundw
                case rel => exact ⟨k + 1, by omega, by go_num, by rw [Ham.out]; rfl, hW2⟩
                case measure => simp [intOf]; omega
            · have kp : ¬ (k : Int) > 0 := by omega
              go_big_quiet_want
              refine ⟨.bool false, fun W hW => ?_, ?_⟩
              · go_simp
              go_big_quiet_on
              simp only [Act.put, List.setIfInBounds_toArray, List.set_cons_zero, List.set_cons_succ]
              go_big_quiet_want
              go_big_quiet_op
              go_big_quiet_on
              go_big_quiet_skip
              go_big_quiet_skip
              go_big_quiet_skip
              go_big_quiet_skip
              go_big_quiet_skip
              go_big_quiet_skip
              go_big_quiet_skip
              go_big_quiet_skip
              go_big_quiet_skip
              go_big_quiet_skip
              go_big_quiet_want
              refine ⟨.bool false, fun W hW => ?_, ?_⟩
              · go_simp
              go_big_quiet_on
              simp only [Act.put, List.setIfInBounds_toArray, List.set_cons_zero, List.set_cons_succ]
              go_big_quiet_want
              refine ⟨.bool false, fun W hW => ?_, ?_⟩
              · go_simp
              go_big_quiet_on
              simp only [Act.put, List.setIfInBounds_toArray, List.set_cons_zero, List.set_cons_succ]
              refine wpQuiet_nil ?_
              intro W2 hW2
              have z := hW2.at hlt
              rw [Hx.out] at z
              have hst : (x == h.toList) = e0 := by rw [ByteArray.toList_eq]; exact he0
              cases a0
              · go_wp2
                go_roundw
                case rel => exact ⟨k + 1, by omega, by go_num, by rw [Ham.out]; rfl, hW2⟩
                case measure => simp [intOf]; omega
              · go_wp2
                go_roundw
                case rel => exact ⟨k + 1, by omega, by go_num, by rw [Ham.out]; rfl, hW2⟩
                case measure => simp [intOf]; omega
          · have k1 : ¬ (k : Int) < (m : Int) := by omega
            obtain rfl : k = m := by omega
            obtain ⟨a0, ha0⟩ : ∃ a, amB T h.data.toList k = a := ⟨_, rfl⟩
            rw [ha0]
            obtain ⟨q, hq⟩ : ∃ q, hoB T h.data.toList = q := ⟨_, rfl⟩
            obtain ⟨j, hj⟩ : ∃ j : Nat, j = k - 1 := ⟨_, rfl⟩
            have j1 : (k : Int) - 1 = (j : Int) := by omega
            have j2 : IntKind.i64.wrap (j : Int) = (j : Int) := by rw [IntKind.wrap_i64]; omega
            have j3 : (0 : Int) ≤ (j : Int) := by omega
            have j4 : (j : Int) < (k : Int) := by omega
            obtain ⟨y, hy⟩ : ∃ y, ms T j = y := ⟨_, rfl⟩
            have z := hC.at (k := j) (by omega)
            rw [hy] at z
            obtain ⟨b1, hb1⟩ : ∃ b, Op.bytesLess h.toList y = b := ⟨_, rfl⟩
            obtain ⟨b2, hb2⟩ : ∃ b, (h.toList == y) = b := ⟨_, rfl⟩
            have hlT : T.length = h.data.toList.length := by
              have a1 := hhd.out.2
              have a2 := hsz.out
              have a3 : h.data.toList.length = h.size := by simp
              omega
            have hend : Hid ((!q || ((!(b1 || b2)) && decide (N0 < k)) || a0) = true) := by
              have e := rise_end T h.data.toList N k hu.out hlT hhd.out.1 q hq
              rw [← hj, hy, ha0, show N - 1 = N0 by rw [HN.out]; omega] at e
              rw [ByteArray.toList_eq] at hb1 hb2
              rw [hb1, hb2] at e
              exact e
            clear hlT
            have HQ : Hid (∀ W, Calls Try.prog 15 #[.string s, .string h] W fun e w' => e = .returned (.bool q) ∧ Below W.heap.size W w') := fun W => holds_D s h q W h256 hhd.out.2.symm (by rw [hTs.out]; exact hq)
            have hBk := hC.2
            clear hj hq hy ha0 hC
            go_wp2_with fail
            refine (HQ.out _).mono ?_
            rintro e w5 ⟨rfl, hb5⟩
            have B5 := bel0 hBk hb5
            cases q
            · go_wp2_with fail
              go_ret
              exact ⟨rfl, B5⟩
            · cases b1
              · cases b2
                · go_wp2_with fail
                  refine (hW.out _).mono ?_
                  rintro e w' ⟨rfl, rfl⟩
                  by_cases hNk : N0 < k
                  · have hNk' : (k : Int) > (N0 : Int) := by omega
                    go_wp2_with fail
                    go_ret
                    exact ⟨rfl, B5⟩
                  · have hNk' : ¬ (k : Int) > (N0 : Int) := by omega
                    obtain rfl : a0 = true := by have := hend.out; simpa [hNk] using this
                    go_wp2_with fail
                    go_ret
                    exact ⟨rfl, B5⟩
                · obtain rfl : a0 = true := by have := hend.out; simpa using this
                  go_wp2_with fail
                  go_ret
                  exact ⟨rfl, B5⟩
              · obtain rfl : a0 = true := by have := hend.out; simpa using this
                go_wp2_with fail
                go_ret
                exact ⟨rfl, B5⟩

theorem ternRising_walk (s h : ByteArray) (n : Int) (w : World) (hs : s.size ≤ maxLen) (hh : h.size ≤ maxLen) :
    Calls Try.prog 6 #[.string s, .string h, .int .i64 n] w fun e w' => e = .returned (.bool true) ∧ Below w.heap.size w w' :=
  rising_try s h n _ _ w hs hh rfl rfl _ _ rfl rfl
end Go.Proofs.Ytmblloddhpcdeab

import Derived.Test.YtepokgainceidaaGreatDoorYAA
import Derived.Test.YtepokgainceidaaGreatDoorYAV
import Derived.Test.YtepokgainceidaaGreatDoorYAI
import Derived.Test.YtepokgainceidaaGreatDoorYAX
import Derived.Test.YtepokgainceidaaGreatDoorYAB
import Derived.Lib.IndexLaws
import Derived.Test.YtepokgainceidaaGreatDoorYAD
import Derived.Test.YtepokgainceidaaGreatDoorYAG
import Derived.Test.YtepokgainceidaaGreatDoorYAS
import Derived.Deep.Slices
import Derived.SizedLaws
import Derived.ChangeSame
namespace Go.Proofs.YtepokgainceidaaGreatDoor
open Go.RowKit Go.Shelf
def cuB (n : Nat) (s : List UInt8) : Bool := decide (s.length = n) && s.all Tn.tri
theorem cuB_no {n : Nat} {s : List UInt8} {k : Nat} {c : UInt8} (h : s[k]? = some c) (hc : Tn.tri c = false) : cuB n s = false := by
  unfold cuB
  rw [Bool.and_eq_false_iff]
  refine .inr ?_
  rw [List.all_eq_false]
  exact ⟨c, List.mem_of_getElem? h, by rw [hc]; decide⟩
theorem cuB_yes {n : Nat} {s : List UInt8} (hl : s.length = n) (h : ∀ (k : Nat) (c : UInt8), s[k]? = some c → Tn.tri c = true) : cuB n s = true := by
  unfold cuB
  rw [decide_eq_true hl, Bool.true_and, List.all_eq_true]
  intro c hc
  obtain ⟨k, hk⟩ := List.getElem?_of_mem hc
  exact h k c hk
theorem cuB_P {n : Nat} {s : List UInt8} (h1 : 1 ≤ n) (h2 : n ≤ 256) : cuB n s = (decide (Tn.refP s = 0) && decide (s.length = n)) := by
  unfold cuB
  by_cases hl : s.length = n
  · rw [decide_eq_true hl, Bool.true_and, Bool.and_true, Bool.eq_iff_iff, decide_eq_true_eq, Tn.refP_zero]
    unfold Tn.good
    rw [Bool.and_eq_true, decide_eq_true_eq]
    exact ⟨fun h => ⟨fun e => by rw [e] at hl; simp at hl; omega, by omega, h⟩, fun h => h.2.2⟩
  · rw [decide_eq_false hl, Bool.false_and, Bool.and_false]
set_option maxRecDepth 100000 in
set_option maxHeartbeats 4000000 in
theorem isCube_any (n : Nat) (s : List UInt8) (w : World) (h1 : 1 ≤ n) (h2 : n ≤ 256) (hs : s.length ≤ 281474976710656) : Calls Tryz.prog 51 #[.string ⟨s.toArray⟩, .int .i64 (n : Int)] w fun e w' => e = .returned (.bool (cuB n s)) ∧ Below w.heap.size w w' := by
  rw [cuB_P h1 h2]
  have HP := Tn.parse_any ⟨s.toArray⟩ w (by unfold maxLen; simp [ByteArray.size]; omega)
  have HP2 : Calls Tryz.prog 84 #[.string ⟨s.toArray⟩] w fun e w' => e = .returned (.tuple #[Tn.cubeV (Tn.cubeT s), .int .i64 (Tn.refP s)]) ∧ Below w.heap.size w w' := HP
  clear HP
  have HP := HP2
  obtain ⟨c0, c1, c2, c3, c4, c5, c6, c7, c8, hcu⟩ : ∃ c0 c1 c2 c3 c4 c5 c6 c7 c8 : Int, Tn.cubeV (Tn.cubeT s) = .agg #[.int .i64 c0, .int .u64 c1, .int .u64 c2, .int .u64 c3, .int .u64 c4, .int .u64 c5, .int .u64 c6, .int .u64 c7, .int .u64 c8] := ⟨_, _, _, _, _, _, _, _, _, rfl⟩
  clear HP2
  obtain ⟨er, her⟩ : ∃ er, Tn.refP s = er := ⟨_, rfl⟩
  rw [hcu, her] at HP
  rw [her]
  have HH : Hid (Calls Tryz.prog 84 #[.string ⟨s.toArray⟩] w fun e w' => e = .returned (.tuple #[.agg #[.int .i64 c0, .int .u64 c1, .int .u64 c2, .int .u64 c3, .int .u64 c4, .int .u64 c5, .int .u64 c6, .int .u64 c7, .int .u64 c8], .int .i64 er]) ∧ Below w.heap.size w w') := HP
  clear HP hcu her
  go_enter Tryz.func51, Tryz.ntmps51
  by_cases e0 : er = 0
  · by_cases el : s.length = n
    · have a1 : (er == 0) = true := by rw [e0]; rfl
      have a2 : ((s.length : Int) == (n : Int)) = true := by rw [el]; simp
      rw [decide_eq_true e0, decide_eq_true el]
      clear e0 el
      go_wp2_with fail
      refine HH.out.mono ?_
      rintro e W1 ⟨rfl, hb⟩
      go_wp2_with fail
      go_ret
      exact ⟨rfl, by first | exact hb | exact hb.alloc hb.size _ | exact Tn.put9_below _ _ _ _ _ _ _ _ _ (hb.alloc hb.size _) hb.size⟩
    · have a1 : (er == 0) = true := by rw [e0]; rfl
      have a2 : ((s.length : Int) == (n : Int)) = false := by rw [beq_eq_false_iff_ne]; omega
      rw [decide_eq_true e0, decide_eq_false el]
      clear e0 el
      go_wp2_with fail
      refine HH.out.mono ?_
      rintro e W1 ⟨rfl, hb⟩
      go_wp2_with fail
      go_ret
      exact ⟨rfl, by first | exact hb | exact hb.alloc hb.size _ | exact Tn.put9_below _ _ _ _ _ _ _ _ _ (hb.alloc hb.size _) hb.size⟩
  · have a1 : (er == 0) = false := by rw [beq_eq_false_iff_ne]; exact e0
    rw [decide_eq_false e0]
    clear e0
    go_wp2_with fail
    refine HH.out.mono ?_
    rintro e W1 ⟨rfl, hb⟩
    go_wp2_with fail
    go_ret
    exact ⟨rfl, by first | exact hb | exact hb.alloc hb.size _ | exact Tn.put9_below _ _ _ _ _ _ _ _ _ (hb.alloc hb.size _) hb.size⟩
set_option maxRecDepth 100000 in
theorem fnumber_any (v : Nat) (d : Bool) (w : World) (htab : Lib.TabIs Tryz.prog w "internal/strconv.uint64pow10" .u64 Lib.pow10Tab) : Calls Tryz.prog 89 #[.int .i64 (v : Int), .bool d] w fun e w' => e = .returned (.string ⟨(numL v d).toArray⟩) ∧ Below w.heap.size w w' := by
  have HN : Hid (Calls Tryz.prog 117 #[.int .i64 (v : Int), .bool d] w fun e w' => e = .returned (.tuple #[.string ⟨(numL v d).toArray⟩, .int .i64 (numE v)]) ∧ Below w.heap.size w w') := number_any v d w htab
  clear htab
  go_enter Tryz.func89, Tryz.ntmps89
  go_wp2_with fail
  refine HN.out.mono ?_
  rintro e W1 ⟨rfl, hb⟩
  go_wp2_with fail
  go_ret
  exact ⟨rfl, hb⟩
set_option maxRecDepth 100000 in
set_option maxHeartbeats 4000000 in
theorem fvalue3_any (s : List UInt8) (w : World) (hs : s.length ≤ 32) (hd : s.all Tn.tri = true) : Calls Tryz.prog 86 #[.string ⟨s.toArray⟩] w fun e w' => e = .returned (.int .i64 (valF 0 s : Int)) ∧ Below w.heap.size w w' := by
  obtain ⟨q, hq⟩ : ∃ q, valF 0 s = q := ⟨_, rfl⟩
  have HQ : Hid (valF 0 (s.drop 0) = q) := hq
  have HD : Hid (s.all Tn.tri = true) := hd
  rw [hq]
  clear hq hd
  obtain ⟨KB, hKB⟩ : ∃ KB, w.heap.size = KB := ⟨_, rfl⟩
  have Hk0 : (w.iter ⟨s.toArray⟩ 0).heap[KB]? = some (.stringIter ⟨s.toArray⟩ 0) := by rw [← hKB]; exact World.iter_heap _ _ _
  have Hb0 : Below w.heap.size w (w.iter ⟨s.toArray⟩ 0) := (Below.refl _ _).alloc (Nat.le_refl _) _
  have hKw : w.heap.size ≤ KB := Nat.le_of_eq hKB
  go_enter Tryz.func86, Tryz.ntmps86
  go_wp2_with fail
  try simp only [hKB]
  go_loopw [3] (fun vs wr => ∃ (k v : Nat), k ≤ s.length ∧ vs = .int .i64 v ∧ v < 2 ^ k ∧ Hid (valF v (s.drop k) = q) ∧ wr.heap[KB]? = some (.stringIter ⟨s.toArray⟩ k) ∧ Below w.heap.size w wr) (fun _ wr => s.length - wr.iterPos KB)
  case atStart => exact ⟨0, 0, Nat.zero_le _, rfl, by decide, HQ, Hk0, Hb0⟩
  case round =>
    clear HQ Hk0 Hb0
    obtain ⟨k, v, hk, rfl, hv, hrun, hkb, hB⟩ := hrel
    have hp : 2 ^ k ≤ 2 ^ 32 := Nat.pow_le_pow_right (by decide) (by omega)
    have hp1 : 2 ^ (k + 1) = 2 * 2 ^ k := by rw [Nat.pow_succ, Nat.mul_comm]
    by_cases hlt : k < s.length
    · obtain ⟨c, hc, hlc⟩ := byte_get s k hlt
      have hc01 := List.all_eq_true.1 HD.out c (List.mem_of_getElem? hlc)
      have hsz : k < (⟨s.toArray⟩ : ByteArray).size := by simpa [ByteArray.size] using hlt
      have hcl : c.toNat < 128 := by
        unfold Tn.tri at hc01
        rw [Bool.or_eq_true, Bool.or_eq_true, beq_iff_eq, beq_iff_eq, beq_iff_eq] at hc01
        rcases hc01 with (e | e) | e <;> rw [e] <;> decide
      have hnx0 := fun ty => Lib.run_next_ascii_at (P := Tryz.prog) wr KB ⟨s.toArray⟩ k ty hkb hsz (by rw [hc hsz]; exact hcl)
      simp only [hc hsz] at hnx0
      have hk2 := Lib.iterAt_heap wr KB ⟨s.toArray⟩ k (k + 1) hkb
      have hb2 := Lib.below_iterAt hB hKw ⟨s.toArray⟩ (k + 1)
      obtain ⟨W2, hW2⟩ : ∃ W2, wr.iterAt KB ⟨s.toArray⟩ (k + 1) = W2 := ⟨_, rfl⟩
      rw [hW2] at hk2 hb2
      have hnx : ∀ ty, (Instr.next (.pointer (some ⟨KB, 0, none⟩)) true ty).run Tryz.prog wr = .ok (.tuple #[.bool true, .int .i64 (k : Int), .int .i32 (c.toNat : Int)]) W2 := fun ty => by rw [← hW2]; exact hnx0 ty
      have hst := hrun.out
      rw [valF_step hlc] at hst
      have hm5 : W2.iterPos KB = k + 1 := iterPos_of hk2
      have hm0 : wr.iterPos KB = k := iterPos_of hkb
      have HM : Hid (s.length - W2.iterPos KB < s.length - wr.iterPos KB) := by unfold Hid; rw [hm5, hm0]; omega
      clear hnx0 hW2 hm5 hm0 hrun hlc hkb hB
      have e1 : wrap64 ((v : Int) * 2) = 2 * (v : Int) := by rw [w64 (by omega) (by omega)]; omega
      have e2 : IntKind.i64.wrap (2 * (v : Int) + 1) = 2 * (v : Int) + 1 := by rw [IntKind.wrap_i64]; omega
      by_cases c49 : c = 49
      · rw [if_pos c49] at hst
        have HST : Hid (valF (2 * v + 1) (s.drop (k + 1)) = q) := hst
        subst c49
        clear hst
        go_wp2_with fail
        go_roundw
        case rel => exact ⟨k + 1, 2 * v + 1, by omega, by go_num, by omega, HST, hk2, hb2⟩
        case measure => exact HM.out
      · rw [if_neg c49] at hst
        have HST : Hid (valF (2 * v + 0) (s.drop (k + 1)) = q) := hst
        have d49 : ((c.toNat : Int) == 49) = false := u8_ne (d := 49) c49
        clear hst
        go_wp2_with fail
        go_roundw
        case rel => exact ⟨k + 1, 2 * v + 0, by omega, by go_num, by omega, HST, hk2, hb2⟩
        case measure => exact HM.out
    · obtain rfl : v = q := by rw [← hrun.out, List.drop_eq_nil_of_le (by omega)]; rfl
      have hnx := fun ty => Lib.run_next_end_at (P := Tryz.prog) wr KB ⟨s.toArray⟩ k ty hkb (by simpa [ByteArray.size] using hlt)
      clear hrun hkb
      go_wp2_with fail
      go_ret
      exact ⟨rfl, by first | exact hB | (rw [← hKB]; exact hB)⟩
theorem trimx_any (D : List UInt8) (w : World) (hl : D.length ≤ 256) : Calls Tryz.prog 87 #[.string ⟨D.toArray⟩, .string ⟨#[120]⟩] w fun e w' => e = .returned (.string ⟨(Lib.trimRightB D 120).toArray⟩) ∧ w' = w :=
  Any.strings_TrimRight_one Tryz.l162 ⟨D.toArray⟩ 120 (by decide) w (by simp [ByteArray.size]; omega)
theorem hasx_any (D : List UInt8) (w : World) : Calls Tryz.prog 88 #[.string ⟨D.toArray⟩, .string ⟨#[120]⟩] w fun e w' => e = .returned (.bool (decide (120 ∈ D))) ∧ w' = w := by
  have h := Any.strings_Contains_one Tryz.l144 ⟨D.toArray⟩ 120 w
  have e : (0 ≤ Lib.indexByte D 120) ↔ 120 ∈ D := by
    constructor
    · intro h
      obtain ⟨o, ho⟩ : ∃ o : Nat, Lib.indexByte D 120 = o := ⟨(Lib.indexByte D 120).toNat, by omega⟩
      exact List.mem_of_getElem? (Lib.indexByte_some ho).1
    · intro h
      have hge := Lib.indexByte_ge D 120
      by_cases hn : Lib.indexByte D 120 = -1
      · obtain ⟨k, hk⟩ := List.getElem?_of_mem h
        exact absurd hk (Lib.indexByte_none hn k)
      · omega
  simp only [decide_eq_decide.2 e] at h
  exact h
theorem any01_any (D : List UInt8) (w : World) (hl : D.length ≤ 256) (hd : D.all Tn.tri = true) : Calls Tryz.prog 54 #[.string ⟨D.toArray⟩, .string ⟨#[48, 49]⟩] w fun e w' => e = .returned (.bool (D.any dg01)) ∧ Below w.heap.size w w' := by
  have h := Any.strings_ContainsAny_laid Tryz.l150 (by kernel_rfl) ⟨D.toArray⟩ ⟨#[48, 49]⟩ w (by simp [ByteArray.size]; omega) (by decide) (fun j b hb => by
    have h1 := List.all_eq_true.1 hd b (List.mem_of_getElem? (by simpa using hb))
    unfold Tn.tri at h1
    rw [Bool.or_eq_true, Bool.or_eq_true, beq_iff_eq, beq_iff_eq, beq_iff_eq] at h1
    rcases h1 with (e | e) | e <;> rw [e] <;> decide) (fun j b hb => by
    rcases j with _ | _ | j
    · simp at hb; rw [← hb]; decide
    · simp at hb; rw [← hb]; decide
    · simp at hb)
  have e := any_has D
  simp only [e] at h
  exact h
def numW (v : Nat) : List UInt8 := if v < 65536 then Lib.decDigits v else quadL v
def tellM (D : List UInt8) : List UInt8 := if (cntS D 0 true 0).1 = D.length then numW (valF 0 D) else if (cntS D 0 true 0).2 = true then quadL (valF 0 D) ++ [47] ++ Lib.decDigits (cntS D 0 true 0).1 else [37] ++ D
theorem valF_ub : ∀ (s : List UInt8) (v : Nat), valF v s < (v + 1) * 2 ^ s.length
  | [], v => by rw [valF]; simp
  | c :: s, v => by
    rw [valF]
    have h := valF_ub s (2 * v + (if c = 49 then 1 else 0))
    rw [List.length_cons, Nat.pow_succ]
    refine Nat.lt_of_lt_of_le h ?_
    rw [Nat.mul_comm (2 ^ s.length) 2, ← Nat.mul_assoc]
    refine Nat.mul_le_mul_right _ ?_
    split <;> omega
theorem valF_4g {D : List UInt8} (h : D.length ≤ 32) : valF 0 D < 4294967296 := by
  have h1 := valF_ub D 0
  have h2 : 2 ^ D.length ≤ 2 ^ 32 := Nat.pow_le_pow_right (by decide) h
  omega
theorem dec_10 (n : Nat) (h : n < 4294967296) : (Lib.decDigits n).length ≤ 10 := by
  have e : ∀ (k n : Nat), n < 10 ^ (k + 1) → (Lib.decDigits n).length ≤ k + 1 := by
    intro k
    induction k with
    | zero =>
      intro n hn
      rw [Lib.decDigits, dif_pos (by omega)]
      simp
    | succ k ih =>
      intro n hn
      rw [Lib.decDigits]
      split
      · simp
      · have := ih (n / 10) (by rw [Nat.pow_succ] at hn; omega)
        rw [List.length_append, List.length_singleton]
        omega
  have := e 9 n (by omega)
  omega
theorem quad_47 (n : Nat) (h : n < 4294967296) : (quadL n).length ≤ 47 := by
  unfold quadL
  have h1 := dec_10 (n / 16777216) (by omega)
  have h2 := dec_10 (n / 65536 % 256) (by omega)
  have h3 := dec_10 (n / 256 % 256) (by omega)
  have h4 := dec_10 (n % 256) (by omega)
  simp only [List.length_append, List.length_singleton]
  omega
set_option maxRecDepth 100000 in
set_option maxHeartbeats 600000 in
theorem tell_any (D : List UInt8) (w : World) (hl : D.length ≤ 32) (hd : D.all Tn.tri = true) (htab : Lib.TabIs Tryz.prog w "internal/strconv.uint64pow10" .u64 Lib.pow10Tab) : Calls Tryz.prog 55 #[.string ⟨D.toArray⟩] w fun e w' => e = .returned (.string ⟨(tellM D).toArray⟩) ∧ Below w.heap.size w w' := by
  obtain ⟨v, hv⟩ : ∃ v, valF 0 D = v := ⟨_, rfl⟩
  have hv4 := valF_4g hl
  have HV := fvalue3_any D w hl hd
  rw [hv] at HV hv4
  obtain ⟨c1, c2⟩ := cnt_trim D
  obtain ⟨m, hm⟩ := trim_rep D
  have HT : Hid (∀ W, Calls Tryz.prog 87 #[.string ⟨D.toArray⟩, .string ⟨#[120]⟩] W fun e w' => e = .returned (.string ⟨(Lib.trimRightB D 120).toArray⟩) ∧ w' = W) := fun W => trimx_any D W (by omega)
  obtain ⟨A, hA⟩ : ∃ A, Lib.trimRightB D 120 = A := ⟨_, rfl⟩
  rw [hA] at c1 c2 hm HT
  have hAl : A.length ≤ D.length := by rw [hm, List.length_append]; omega
  have HF : Hid (∀ (d : Bool) (W : World), Below w.heap.size w W → Calls Tryz.prog 89 #[.int .i64 (v : Int), .bool d] W fun e w' => e = .returned (.string ⟨(numL v d).toArray⟩) ∧ Below W.heap.size W w') := fun d W hW => fnumber_any v d W (tab_below htab hW)
  have HI : Hid (∀ (W : World), Below w.heap.size w W → Calls Tryz.prog 90 #[.int .i64 (A.length : Int)] W fun e w' => e = .returned (.string ⟨(Lib.decDigits A.length).toArray⟩) ∧ Below W.heap.size W w') := fun W hW => itoa_any A.length (by omega) W (tab_below htab hW)
  have n1 : numL v true = quadL v := by unfold numL; rw [if_neg (by omega), if_pos rfl]; rfl
  have n2 : numL v (decide (65536 ≤ v)) = numW v := by
    unfold numL numW
    rw [if_neg (by omega)]
    by_cases h : v < 65536
    · rw [if_pos h, decide_eq_false (by omega)]; rfl
    · rw [if_neg h, decide_eq_true (by omega)]; rfl
  have hM : tellM D = if 120 ∈ A then [37] ++ D else if A.length < D.length then quadL v ++ [47] ++ Lib.decDigits A.length else numW v := by
    unfold tellM
    rw [hv]
    by_cases h : 120 ∈ A
    · obtain ⟨g1, g2⟩ := c1 h
      rw [if_pos h, if_neg (by omega), g2, if_neg (by decide)]
    · rw [if_neg h, c2 h]
      by_cases h3 : A.length < D.length
      · rw [if_pos h3, if_neg (by simp only; omega), if_pos rfl]
      · rw [if_neg h3, if_pos (by simp only; omega)]
  have HVh : Hid (Calls Tryz.prog 86 #[.string ⟨D.toArray⟩] w fun e w' => e = .returned (.int .i64 (v : Int)) ∧ Below w.heap.size w w') := HV
  have HM : Hid (tellM D = if 120 ∈ A then [37] ++ D else if A.length < D.length then quadL v ++ [47] ++ Lib.decDigits A.length else numW v) := hM
  obtain ⟨R, hR⟩ : ∃ R, tellM D = R := ⟨_, rfl⟩
  rw [hR] at HM
  rw [hR]
  have HX : Hid (∀ W, Calls Tryz.prog 88 #[.string ⟨A.toArray⟩, .string ⟨#[120]⟩] W fun e w' => e = .returned (.bool (decide (120 ∈ A))) ∧ w' = W) := fun W => hasx_any A W
  have N1 : Hid (numL v true = quadL v) := n1
  have N2 : Hid (numL v (decide (65536 ≤ v)) = numW v) := n2
  have hq := quad_47 v hv4
  have hdl := dec_10 A.length (by omega)
  obtain ⟨E, hE⟩ : ∃ E, Lib.decDigits A.length = E := ⟨_, rfl⟩
  obtain ⟨Qd, hQd⟩ : ∃ Q, quadL v = Q := ⟨_, rfl⟩
  rw [hE] at HI hdl
  rw [hE, hQd] at HM
  rw [hQd] at hq
  have HQ1 : Hid (∀ (W : World), Below w.heap.size w W → Calls Tryz.prog 89 #[.int .i64 (v : Int), .bool true] W fun e w' => e = .returned (.string ⟨Qd.toArray⟩) ∧ Below W.heap.size W w') := fun W hW => by
    have := HF.out true W hW
    rw [n1, hQd] at this
    exact this
  have HQ2 : Hid (∀ (d : Bool), decide (65536 ≤ v) = d → R = numW v → ∀ (W : World), Below w.heap.size w W → Calls Tryz.prog 89 #[.int .i64 (v : Int), .bool d] W fun e w' => e = .returned (.string ⟨R.toArray⟩) ∧ Below W.heap.size W w') := fun d hd hRR W hW => by
    have := HF.out d W hW
    rw [← hd, n2, ← hRR] at this
    rw [← hd]
    exact this
  clear HV hM hR hv c1 c2 hm hA htab n1 n2 hd N1 N2 HF hE hQd
  go_enter Tryz.func55, Tryz.ntmps55
  go_wp2_with fail
  refine HVh.out.mono ?_
  rintro e W1 ⟨rfl, hb1⟩
  go_wp2_with fail
  refine (HT.out _).mono ?_
  rintro e W2 ⟨rfl, rfl⟩
  clear HVh HT
  by_cases hx : 120 ∈ A
  · have hR := HM.out
    rw [if_pos hx] at hR
    have HR : Hid (ByteArray.mk #[37] ++ ByteArray.mk D.toArray = ⟨R.toArray⟩) := by unfold Hid; rw [hR]; exact ByteArray.ext (by simp)
    have HX2 : Hid (∀ W, Calls Tryz.prog 88 #[.string ⟨A.toArray⟩, .string ⟨#[120]⟩] W fun e w' => e = .returned (.bool true) ∧ w' = W) := by have := HX.out; rw [decide_eq_true hx] at this; exact this
    clear HX hR HM HQ1 HQ2 HI hx
    go_wp2_with fail
    refine (HX2.out _).mono ?_
    rintro e W3 ⟨rfl, rfl⟩
    go_wp2_with fail
    go_ret
    exact ⟨congrArg (fun z => Ending.returned (.string z)) HR.out, hb1⟩
  · have HX2 : Hid (∀ W, Calls Tryz.prog 88 #[.string ⟨A.toArray⟩, .string ⟨#[120]⟩] W fun e w' => e = .returned (.bool false) ∧ w' = W) := by have := HX.out; rw [decide_eq_false hx] at this; exact this
    have hR := HM.out
    rw [if_neg hx] at hR
    clear HX HM hx
    by_cases hlt : A.length < D.length
    · rw [if_pos hlt] at hR
      have j1 : (A.length : Int) < (D.length : Int) := by omega
      have HR : Hid (ByteArray.mk Qd.toArray ++ ByteArray.mk #[47] ++ ByteArray.mk E.toArray = ⟨R.toArray⟩) := by unfold Hid; rw [hR]; exact ByteArray.ext (by simp)
      clear hR HQ2
      go_wp2_with fail
      refine (HX2.out _).mono ?_
      rintro e W3 ⟨rfl, rfl⟩
      go_wp2_with fail
      refine (HQ1.out _ hb1).mono ?_
      rintro e W4 ⟨rfl, hb4⟩
      have hb4' := bel0 hb1 hb4
      go_wp2_with fail
      refine (HI.out _ hb4').mono ?_
      rintro e W5 ⟨rfl, hb5⟩
      go_wp2_with fail
      go_ret
      exact ⟨congrArg (fun z => Ending.returned (.string z)) HR.out, bel0 hb4' hb5⟩
    · rw [if_neg hlt] at hR
      have j1 : ¬ (A.length : Int) < (D.length : Int) := by omega
      by_cases h6 : 65536 ≤ v
      · have j2 : (65536 : Int) ≤ (v : Int) := by omega
        have HN : Hid (∀ (W : World), Below w.heap.size w W → Calls Tryz.prog 89 #[.int .i64 (v : Int), .bool true] W fun e w' => e = .returned (.string ⟨R.toArray⟩) ∧ Below W.heap.size W w') := HQ2.out true (decide_eq_true h6) hR
        clear hR h6 HQ1 HQ2 HI
        go_wp2_with fail
        refine (HX2.out _).mono ?_
        rintro e W3 ⟨rfl, rfl⟩
        go_wp2_with fail
        refine (HN.out _ hb1).mono ?_
        rintro e W4 ⟨rfl, hb4⟩
        go_wp2_with fail
        go_ret
        exact ⟨rfl, bel0 hb1 hb4⟩
      · have j2 : (v : Int) < 65536 := by omega
        have j3 : decide ((65536 : Int) ≤ (v : Int)) = false := decide_eq_false (by omega)
        have HN : Hid (∀ (W : World), Below w.heap.size w W → Calls Tryz.prog 89 #[.int .i64 (v : Int), .bool false] W fun e w' => e = .returned (.string ⟨R.toArray⟩) ∧ Below W.heap.size W w') := HQ2.out false (decide_eq_false h6) hR
        clear hR h6 HQ1 HQ2 HI
        go_wp2_with fail
        refine (HX2.out _).mono ?_
        rintro e W3 ⟨rfl, rfl⟩
        go_wp2_with fail
        try simp only [j3]
        refine (HN.out _ hb1).mono ?_
        rintro e W4 ⟨rfl, hb4⟩
        go_wp2_with fail
        go_ret
        exact ⟨rfl, bel0 hb1 hb4⟩
end Go.Proofs.YtepokgainceidaaGreatDoor
namespace Go.Proofs.YtepokgainceidaaGreatDoor
open Go.RowKit
def strData {H : Type} (zs : List (List UInt8)) : DataW H := .agg (zs.map fun z => .lit (.string z))
theorem cells_of_strs {H : Type} {enc : TypeId × Value → H} {P : Program} {w : World} {base : Nat} {sp : Nat → Bool} {held : Bool} {fuel : Nat} {t e : TypeId} {n : Nat} {cs : List Value} {zs : List (List UInt8)} {p : List MemPlace}
    (ht : P.underlying t = some (.array n e)) (he : P.underlying e = some .string) (hce : P.cellsOf e = 1) (hct : P.cellsOf t = n)
    (h : DataW.trod enc P w base sp held fuel t cs = some (strData zs, p)) : cs = zs.map fun z => Value.string ⟨z.toArray⟩ := by
  cases fuel with
  | zero => simp [DataW.trod] at h
  | succ fuel =>
    simp only [DataW.trod, ht, hce, hct, Nat.mul_one] at h
    split at h
    · rename_i hl
      obtain ⟨xs, hm, hx⟩ := Option.map_eq_some_iff.1 h
      have hxs : xs.map (·.1) = zs.map fun z => (DataW.lit (.string z) : DataW H) := by
        have := congrArg Prod.fst hx
        simpa [strData] using this
      have hxl : xs.length = n := by simpa using Lib.mapM_length hm
      have hzl : zs.length = n := by
        have := congrArg List.length hxs
        simp at this
        omega
      apply List.ext_getElem?
      intro i
      by_cases hi : i < n
      · obtain ⟨b, hb, hf⟩ := Lib.mapM_at hm i i (by simp [hi])
        obtain ⟨z, hc, rfl, _⟩ := DataW.trod_string he hf
        have h1 : cs[i]? = some (.string z) := by
          have := congrArg (·[0]?) hc
          simpa [List.getElem?_take, List.getElem?_drop] using this
        have h2 : (xs.map (·.1))[i]? = some (DataW.lit (.string z.data.toList) : DataW H) := by simp [hb]
        rw [hxs] at h2
        simp only [List.getElem?_map, Option.map_eq_some_iff, DataW.lit.injEq, Lit.string.injEq] at h2
        obtain ⟨z', hz', rfl⟩ := h2
        simp [h1, hz']
      · rw [List.getElem?_eq_none (by omega), List.getElem?_eq_none (by simp; omega)]
    · cases h
theorem strs_of_head {P : Program} {W : World} {name : String} {zs : List (List UInt8)} {rest : List (String × DataW Unit)} {g : Nat} {t e : TypeId} {n : Nat}
    (hg : P.globalNamed name = some g) (hty : (P.globals[g]?).map (·.type) = some t) (ht : P.underlying t = some (.array n e)) (he : P.underlying e = some .string) (hce : P.cellsOf e = 1) (hct : P.cellsOf t = n)
    (h : laidMet P ((name, strData zs) :: rest) W) : W.var? P name = some (zs.map fun z => Value.string ⟨z.toArray⟩).toArray := by
  obtain ⟨ps, ⟨g', t', cs, fuel, p, q, hg', ht', hvar, hd, _, _⟩, _⟩ := h
  obtain rfl := Option.some.inj (hg.symm.trans hg')
  obtain rfl := Option.some.inj (hty.symm.trans ht')
  rw [hvar, ← cells_of_strs ht he hce hct hd]
def fldData {H : Type} (f : IFld) : DataW H := .agg [.lit (.string f.1), .lit (.int .i64 f.2)]
theorem cF0 : Tryz.prog.cellsOf 3 = 1 := by kernel_rfl
theorem cF1 : Tryz.prog.cellsOf 9 = 1 := by kernel_rfl
theorem cF2 : Tryz.prog.cellsOf 51 = 2 := by kernel_rfl
section
variable {H : Type} {enc : TypeId × Value → H} {w : World} {base : Nat} {sp : Nat → Bool} {held : Bool}
theorem fld_open {fuel : Nat} {cs : List Value} {x : DataW H × List MemPlace} (h : DataW.trod enc Tryz.prog w base sp held fuel 51 cs = some x) : ∃ f : IFld, cs = fcel f ∧ x.1 = fldData f := by
  obtain ⟨y0, y1, m, rfl, hlen, g0, g1⟩ := ChangeShapes.trod_struct2 Tryz.underlying51 h
  obtain ⟨z0, a0, b0, _⟩ := DataW.trod_string Tryz.underlying9 g0
  obtain ⟨z1, a1, b1, _⟩ := DataW.trod_int Tryz.underlying3 g1
  refine ⟨(z0.data.toList, z1), ?_, by rw [b0, b1]; rfl⟩
  rw [cF1] at a0
  rw [cF0] at a1
  rw [cF2] at hlen
  clear g0 g1 h
  match cs, hlen with
  | [c0, c1], _ =>
    have e0 : c0 = .string z0 := by simpa using a0
    have e1 : c1 = .int .i64 z1 := by simpa using a1
    unfold fcel
    rw [e0, e1]
theorem add_spotF {a : Addr} (h : a.spot = none) (m : Nat) : a.add m = ⟨a.block, a.off + m, none⟩ := by
  unfold Addr.add
  split
  · rename_i h0
    subst h0
    obtain ⟨b, o, s⟩ := a
    simp only at h
    subst h
    rfl
  · rfl
theorem cell_spotF {a : Addr} {v : Value} (h : w.cell? a = some v) : a.spot = none := by
  unfold World.cell? at h
  split at h
  · split at h
    · cases h
    · rename_i hs
      cases hh : a.spot with
      | none => rfl
      | some s => rw [hh] at hs; simp at hs
  · cases h
theorem open_flds {fuel : Nat} {cs : List Value} {x : DataW H × List MemPlace} (hf : DataW.trod enc Tryz.prog w 0 sp held fuel 22 cs = some x) :
    (cs = [.slice none 0 0] ∧ x = (.nil, [])) ∨ ∃ (a : Addr) (len cap : Nat) (L : List IFld) (spare : List (DataW H)), cs = [.slice (some a) len cap] ∧ L.length = len ∧ len ≤ cap ∧ x.1 = .slice (L.map fldData) spare ∧
      ∀ (k : Nat) (f : IFld), L[k]? = some f → ∃ g o0, a = ⟨g, o0, none⟩ ∧ w.cell? ⟨g, o0 + k * 2, none⟩ = some (.string ⟨f.1.toArray⟩) ∧ w.cell? ⟨g, o0 + k * 2 + 1, none⟩ = some (.int .i64 f.2) := by
  rcases Deep.open_slice Tryz.underlying22 hf with h | ⟨a, len, cap, m, n, D, Pl, hcs, _, hlc, hcm, hm, hx, hD⟩
  · exact .inl h
  · right
    rw [cF2] at hD
    have hlm : len ≤ m := by rw [hm]; split <;> omega
    have hex : ∀ i, ∃ t : IFld, i < m → w.cells? 0 (a.add (i * 2)) 2 = some (fcel t) ∧ D i = fldData t := fun i => by
      by_cases hi : i < m
      · obtain ⟨cs', h1, h2⟩ := hD i hi
        obtain ⟨t, e1, e2⟩ := fld_open h2
        exact ⟨t, fun _ => ⟨by rw [h1, e1], e2⟩⟩
      · exact ⟨([], 0), fun h => absurd h hi⟩
    obtain ⟨F, hF⟩ := Classical.axiomOfChoice hex
    refine ⟨a, len, cap, (List.range len).map F, (List.range (m - len)).map fun j => D (len + j), hcs, by simp, hlc, ?_, fun k t ht => ?_⟩
    · rw [hx]
      simp only [List.map_map]
      congr 1
      refine List.map_congr_left (fun i hi => ?_)
      exact (hF i (by have := List.mem_range.1 hi; omega)).2
    · rw [List.getElem?_map] at ht
      by_cases hk : k < len
      · rw [List.getElem?_range hk] at ht
        obtain rfl := Option.some.inj ht
        have cell : ∀ i j v, i < m → (fcel (F i))[j]? = some v → j < 2 → w.cell? ((a.add (i * 2)).add j) = some v := fun i j v hi hv hj => by
          have h1 := (hF i hi).1
          unfold World.cells? at h1
          rw [if_pos (Nat.zero_le _)] at h1
          obtain ⟨b, hb, hc⟩ := Lib.mapM_at h1 j j (by simp [hj])
          rw [hv] at hb
          rw [Option.some.inj hb]
          exact hc
        have h00 := cell 0 0 _ (by omega) rfl (by decide)
        have hs : a.spot = none := by
          have e : (a.add (0 * 2)).add 0 = a := rfl
          rw [e] at h00
          exact cell_spotF h00
        obtain ⟨g, o0, s⟩ := a
        simp only at hs
        subst hs
        have ea : ∀ j, ((⟨g, o0, none⟩ : Addr).add (k * 2)).add j = ⟨g, o0 + k * 2 + j, none⟩ := fun j => by
          rw [add_spotF rfl (k * 2), add_spotF rfl j]
        have c0 := cell k 0 _ (by omega) rfl (by decide)
        have c1 := cell k 1 _ (by omega) rfl (by decide)
        rw [ea] at c0 c1
        exact ⟨g, o0, rfl, c0, c1⟩
      · rw [List.getElem?_eq_none (by simp; omega)] at ht
        cases ht
theorem w_fld (f : IFld) : f.1.length ∈ DataW.weights Tryz.prog 51 (fldData f : DataW H) := by
  unfold fldData
  simp [DataW.weights, Tryz.underlying51, DataW.weightsEach]
theorem w_flds {f : IFld} : ∀ {L : List IFld}, f ∈ L → f.1.length ∈ DataW.weightsAll Tryz.prog 51 (L.map (fldData : IFld → DataW H))
  | u :: L, h => by
    rw [List.map_cons, DataW.weightsAll]
    rcases List.mem_cons.1 h with rfl | h
    · exact List.mem_append_left _ (w_fld f)
    · exact List.mem_append_right _ (w_flds h)
theorem sized_flds {ts : List TypeId} {ds : List (DataW H)} (h : (DataW.weightsEach Tryz.prog ts ds).all (· ≤ reachBytes) = true) {L : List IFld} {spare : List (DataW H)} {j : Nat} (ht : ts[j]? = some 22) (hd : ds[j]? = some (.slice (L.map fldData) spare)) : L.length * 24 ≤ reachBytes ∧ ∀ f ∈ L, f.1.length ≤ reachBytes := by
  have hb : Tryz.prog.bytesOf 51 = 24 := by kernel_rfl
  have h1 := sized_slice h ht hd Tryz.underlying22
  rw [hb, List.length_map] at h1
  refine ⟨by omega, fun f hm => ?_⟩
  have := List.all_eq_true.1 h _ (DataW.weights_mem_each ht hd f.1.length (by
    simp only [DataW.weights, Tryz.underlying22]
    exact List.mem_cons_of_mem _ (List.mem_append_left _ (w_flds hm))))
  simpa using this
end
end Go.Proofs.YtepokgainceidaaGreatDoor

import Derived.Test.YtnboehlbcjfndaaGreatDoorYBF
import Derived.Deep.AppendLies
namespace Go.Proofs.YtnboehlbcjfndaaGreatDoor
open Go.RowKit Go.Shelf
theorem valF_lin : ∀ (Y : List UInt8) (v : Nat), valF v Y = v * 2 ^ Y.length + valF 0 Y ∧ valF 0 Y < 2 ^ Y.length
  | [], v => ⟨by simp [valF], by simp [valF]⟩
  | c :: Y, v => by
    obtain ⟨h1, h2⟩ := valF_lin Y (2 * v + (if c = 49 then 1 else 0))
    obtain ⟨h3, -⟩ := valF_lin Y (2 * 0 + (if c = 49 then 1 else 0))
    rw [valF, valF, h1, h3, List.length_cons, Nat.pow_succ]
    obtain ⟨P, hP⟩ : ∃ P, 2 ^ Y.length = P := ⟨_, rfl⟩
    rw [hP] at h2 ⊢
    by_cases hc : c = 49
    · rw [if_pos hc, Nat.add_mul, Nat.mul_comm P 2, ← Nat.mul_assoc, Nat.mul_comm v 2]
      omega
    · rw [if_neg hc, Nat.add_mul, Nat.mul_comm P 2, ← Nat.mul_assoc, Nat.mul_comm v 2]
      omega
theorem valF_lt (Y : List UInt8) : valF 0 Y < 2 ^ Y.length := (valF_lin Y 0).2
theorem chkL_of : ∀ (rest seen : List IFld), (∀ f ∈ rest, sizB f = true ∧ nmB f.1 = true) → (∀ f ∈ rest, ∀ g ∈ seen, g.1 ≠ f.1) → (rest.map (·.1)).Nodup → (∀ k, sumB (seen ++ rest.take k) ≤ 256) → chkL seen rest = (0, 0)
  | [], seen, _, _, _, _ => rfl
  | f :: r, seen, h1, h2, h3, h4 => by
    obtain ⟨s1, s2⟩ := h1 f (by simp)
    have hix : ¬ 0 ≤ idxF seen f.1 := by
      rw [idxF_ge]
      rintro ⟨g, hg, he⟩
      exact h2 f (by simp) g hg he
    have hw := h4 1
    rw [show (f :: r).take 1 = [f] from rfl] at hw
    have hb : badF seen f = false := by
      unfold badF
      rw [s1, s2, decide_eq_false hix, decide_eq_false (show ¬ 256 < sumB (seen ++ [f]) by omega)]
      rfl
    rw [List.map_cons, List.nodup_cons] at h3
    rw [chkL, hb, if_neg (by decide)]
    refine chkL_of r (seen ++ [f]) (fun g hg => h1 g (by simp [hg])) (fun g hg e he => ?_) h3.2 (fun k => ?_)
    · rcases List.mem_append.1 he with h | h
      · exact h2 g (by simp [hg]) e h
      · rw [List.mem_singleton.1 h]
        exact fun heq => h3.1 (by rw [heq]; exact List.mem_map_of_mem hg)
    · have := h4 (k + 1)
      rw [List.take_succ_cons] at this
      rw [List.append_assoc]
      exact this
theorem chk_of {L : List IFld} (h0 : 0 < L.length) (h12 : L.length ≤ 12) (h1 : ∀ f ∈ L, sizB f = true ∧ nmB f.1 = true) (h3 : (L.map (·.1)).Nodup) (h4 : sumB L ≤ 256) : chkM L = (0, 0) := by
  unfold chkM
  rw [if_neg (by omega), if_neg (by omega)]
  refine chkL_of L [] h1 (fun f hf g hg => by cases hg) h3 (fun k => ?_)
  have hb : ∀ f ∈ L, 0 ≤ f.2 ∧ f.2 ≤ 32 := fun f hf => by
    have := (h1 f hf).1
    unfold sizB at this
    simp only [Bool.and_eq_true, decide_eq_true_eq] at this
    omega
  have := sumB_take_le hb k
  rw [List.nil_append]
  omega
def posB (L : List IFld) : Prop := ∀ f ∈ L, 1 ≤ f.2 ∧ f.2 ≤ 32
theorem near_eq {n m : Int} (hm : 0 < m) : (if n.tmod m < 0 then n.tmod m + m else n.tmod m) = n % m := by
  have hd : n = m * n.tdiv m + n.tmod m := (Int.mul_tdiv_add_tmod n m).symm
  have h1 : n.tmod m < m := Int.tmod_lt_of_pos n hm
  have h2 : -m < n.tmod m := by
    rcases Int.lt_or_le n 0 with h | h
    · have := Int.tmod_lt_of_pos (-n) hm
      rw [Int.neg_tmod] at this
      omega
    · have := Int.tmod_nonneg m h
      omega
  obtain ⟨t, ht⟩ : ∃ t, n.tmod m = t := ⟨_, rfl⟩
  obtain ⟨q, hq⟩ : ∃ q, n.tdiv m = q := ⟨_, rfl⟩
  rw [ht] at hd h1 h2 ⊢
  rw [hq] at hd
  have e : n % m = t % m := by rw [hd, Int.add_comm, Int.add_mul_emod_self_left]
  rw [e]
  by_cases h : t < 0
  · rw [if_pos h]
    have : t % m = (t + m) % m := by rw [Int.add_emod_right]
    rw [this, Int.emod_eq_of_lt (by omega) (by omega)]
  · rw [if_neg h, Int.emod_eq_of_lt (by omega) h1]
def lyF : Nat → List Int → List IFld
  | _, [] => []
  | i, x :: r => if i < 8 then ([UInt8.ofNat (97 + i)], 1 + x % 32) :: lyF (i + 1) r else []
def lyL (ws : List Int) : List IFld := if ws = [] then [([97], 5)] else lyF 0 ws
theorem lyF_len : ∀ (ws : List Int) (i : Nat), (lyF i ws).length ≤ 8 - i
  | [], i => Nat.zero_le _
  | x :: r, i => by
    rw [lyF]
    by_cases h : i < 8
    · rw [if_pos h, List.length_cons]
      have := lyF_len r (i + 1)
      omega
    · rw [if_neg h]
      exact Nat.zero_le _
theorem lyF_mem : ∀ (ws : List Int) (i : Nat) (f : IFld), f ∈ lyF i ws → ∃ (j : Nat) (x : Int), i ≤ j ∧ j < 8 ∧ f = ([UInt8.ofNat (97 + j)], 1 + x % 32)
  | [], i, f, h => by cases h
  | x :: r, i, f, h => by
    rw [lyF] at h
    by_cases h8 : i < 8
    · rw [if_pos h8] at h
      rcases List.mem_cons.1 h with e | e
      · exact ⟨i, x, Nat.le_refl _, h8, e⟩
      · obtain ⟨j, y, h1, h2, h3⟩ := lyF_mem r (i + 1) f e
        exact ⟨j, y, by omega, h2, h3⟩
    · rw [if_neg h8] at h
      cases h
theorem name_ne : ∀ i j : Fin 8, i < j → ([UInt8.ofNat (97 + i.val)] : List UInt8) ≠ [UInt8.ofNat (97 + j.val)] := by decide
theorem name_nm : ∀ i : Fin 8, nmB [UInt8.ofNat (97 + i.val)] = true := by decide
theorem lyF_nodup : ∀ (ws : List Int) (i : Nat), ((lyF i ws).map (·.1)).Nodup
  | [], i => List.nodup_nil
  | x :: r, i => by
    rw [lyF]
    by_cases h8 : i < 8
    · rw [if_pos h8, List.map_cons, List.nodup_cons]
      refine ⟨fun hm => ?_, lyF_nodup r (i + 1)⟩
      obtain ⟨f, hf, he⟩ := List.mem_map.1 hm
      obtain ⟨j, y, h1, h2, rfl⟩ := lyF_mem r (i + 1) f hf
      exact name_ne ⟨i, h8⟩ ⟨j, h2⟩ (by show i < j; omega) he.symm
    · rw [if_neg h8]
      exact List.nodup_nil
theorem ly_fld {ws : List Int} {f : IFld} (h : f ∈ lyL ws) : sizB f = true ∧ nmB f.1 = true := by
  unfold lyL at h
  by_cases h0 : ws = []
  · rw [if_pos h0] at h
    rw [List.mem_singleton.1 h]
    decide
  · rw [if_neg h0] at h
    obtain ⟨j, x, -, h2, rfl⟩ := lyF_mem ws 0 f h
    refine ⟨?_, name_nm ⟨j, h2⟩⟩
    unfold sizB
    simp only [Bool.and_eq_true, decide_eq_true_eq]
    omega
theorem ly_len (ws : List Int) : 0 < (lyL ws).length ∧ (lyL ws).length ≤ 8 := by
  unfold lyL
  by_cases h0 : ws = []
  · rw [if_pos h0]
    decide
  · rw [if_neg h0]
    have := lyF_len ws 0
    refine ⟨?_, by omega⟩
    cases ws with
    | nil => exact absurd rfl h0
    | cons x r => rw [lyF, if_pos (by decide)]; simp
theorem ly_chk (ws : List Int) : chkM (lyL ws) = (0, 0) := by
  obtain ⟨l1, l2⟩ := ly_len ws
  have hb : ∀ f ∈ lyL ws, 0 ≤ f.2 ∧ f.2 ≤ 32 := fun f hf => by
    have := (ly_fld hf).1
    unfold sizB at this
    simp only [Bool.and_eq_true, decide_eq_true_eq] at this
    omega
  refine chk_of l1 (by omega) (fun f hf => ly_fld hf) ?_ ?_
  · unfold lyL
    split
    · decide
    · exact lyF_nodup ws 0
  · have := (sumB_bound (lyL ws) hb).2
    omega
def hdG (n : Nat) (s : List UInt8) : List UInt8 := (List.range n).map fun j => if j < s.length ∧ (s.getD j 0).toNat % 2 = 1 then 49 else 48
theorem hdG_len (n : Nat) (s : List UInt8) : (hdG n s).length = n := by simp [hdG]
theorem hdG_succ (n : Nat) (s : List UInt8) : hdG (n + 1) s = hdG n s ++ [if n < s.length ∧ (s.getD n 0).toNat % 2 = 1 then 49 else 48] := by
  unfold hdG
  rw [List.range_succ, List.map_append]
  rfl
theorem hdG_01 (n : Nat) (s : List UInt8) : (hdG n s).all dg01 = true := by
  rw [List.all_eq_true]
  intro c hc
  obtain ⟨j, -, rfl⟩ := List.mem_map.1 hc
  split <;> rfl
set_option maxRecDepth 100000 in
theorem near_any (n m : Int) (w : World) (hm : 0 < m) (hm2 : m ≤ 4294967296) : Calls Tryz.prog 7 #[.int .i64 n, .int .i64 m] w fun e w' => e = .returned (.int .i64 (n % m)) ∧ w' = w := by
  have he := near_eq (n := n) hm
  have h1 : n.tmod m < m := Int.tmod_lt_of_pos n hm
  have h2 : -m < n.tmod m := by
    rcases Int.lt_or_le n 0 with h | h
    · have := Int.tmod_lt_of_pos (-n) hm
      rw [Int.neg_tmod] at this
      omega
    · have := Int.tmod_nonneg m h
      omega
  have m0 : ¬ m = 0 := by omega
  have m1 : (m == 0) = false := beq_eq_false_iff_ne.2 m0
  have m2 : (m == -1) = false := beq_eq_false_iff_ne.2 (by omega)
  have m3 : ¬ m = -1 := by omega
  have hw : IntKind.i64.wrap (n.tmod m) = n.tmod m := by rw [IntKind.wrap_i64]; omega
  have hw2 : IntKind.i64.wrap (n.tmod m + m) = n.tmod m + m := by rw [IntKind.wrap_i64]; omega
  by_cases ht : n.tmod m < 0
  · rw [if_pos ht] at he
    have HE : Hid (n.tmod m + m = n % m) := he
    clear he
    go_enter Tryz.func7, Tryz.ntmps7
    go_wp2_with fail
    go_ret
    exact ⟨by rw [← HE.out]; rfl, rfl⟩
  · rw [if_neg ht] at he
    have HE : Hid (n.tmod m = n % m) := he
    clear he
    go_enter Tryz.func7, Tryz.ntmps7
    go_wp2_with fail
    go_ret
    exact ⟨by rw [← HE.out]; rfl, rfl⟩
theorem lyF_at : ∀ (ws : List Int) (i k : Nat) (x : Int), ws[k]? = some x → i + k < 8 → (lyF i ws)[k]? = some ([UInt8.ofNat (97 + (i + k))], 1 + x % 32)
  | y :: r, i, 0, x, h, h8 => by
    simp at h
    subst h
    rw [lyF, if_pos (by omega)]
    rfl
  | y :: r, i, k + 1, x, h, h8 => by
    rw [lyF, if_pos (by omega), List.getElem?_cons_succ, lyF_at r (i + 1) k x (by simpa using h) (by omega), show i + 1 + k = i + (k + 1) by omega]
theorem lyF_full : ∀ (ws : List Int) (i : Nat), (lyF i ws).length ≤ ws.length
  | [], i => Nat.zero_le _
  | y :: r, i => by
    rw [lyF]
    split
    · rw [List.length_cons, List.length_cons]
      have := lyF_full r (i + 1)
      omega
    · exact Nat.zero_le _
theorem sub_abc : ∀ k : Fin 8, subL [97, 98, 99, 100, 101, 102, 103, 104, 105, 106, 107, 108] k.val (k.val + 1) = [UInt8.ofNat (97 + k.val)] := by decide
set_option maxRecDepth 100000 in
set_option maxHeartbeats 8000000 in
theorem layout_any (ws : List Int) (o : Option Addr) (c : Nat) (w : World) (hL : ws.length ≤ 281474976710656) (hr : IRV w o ws) :
    Calls Tryz.prog 6 #[.slice o ws.length c] w fun e w' => ∃ v, e = .returned v ∧ w'.ownsRow w.heap.size 39 2 v (lyL ws).length (fels (lyL ws)) ∧ Below w.heap.size w w' := by
  obtain ⟨i0, hi, hz0, hz1, hz2⟩ := info_parts info_fld
  have HR : Hid (IRV w o ws) := hr
  clear hr
  go_enter Tryz.func6, Tryz.ntmps6
  go_wp2_with fail
  go_loopw [3, 4] (fun v vk wr => ∃ k : Nat, vk = .int .i64 k ∧ k ≤ ws.length ∧ k ≤ 8 ∧ wr.ownsRow w.heap.size 39 2 v k (fels ((lyF 0 ws).take k)) ∧ Below w.heap.size w wr) (fun _ vk _ => 8 - (intOf vk).toNat)
  case atStart => exact ⟨0, rfl, Nat.zero_le _, by omega, World.ownsRow_nil _ _ _ _, Below.refl _ _⟩
  case round =>
    obtain ⟨k, rfl, hk, hk8, hown, hB⟩ := hrel
    have hBs := hB.size
    by_cases hlt : k < ws.length
    · have j1 : (k : Int) < (ws.length : Int) := by omega
      have j0 : (0 : Int) ≤ (k : Int) := by omega
      by_cases h8 : k < 8
      · have j8 : (k : Int) < 8 := by omega
        have j9 : (k : Int) ≤ (k : Int) + 1 := by omega
        have j10 : (k : Int) + 1 ≤ 12 := by omega
        obtain ⟨x, hx⟩ : ∃ x, ws[k]? = some x := ⟨_, List.getElem?_eq_getElem hlt⟩
        obtain ⟨g, o0, rfl, p0⟩ := HR.out wr hB k x hx
        have hat := lyF_at ws 0 k x hx (by omega)
        rw [Nat.zero_add] at hat
        have HTK : Hid (fels ((lyF 0 ws).take (k + 1)) = fels ((lyF 0 ws).take k) ++ fcel ([UInt8.ofNat (97 + k)], 1 + x % 32)) := by unfold Hid; rw [← fels_snoc, take_snoc hat]
        have hE : (ByteArray.mk #[97, 98, 99, 100, 101, 102, 103, 104, 105, 106, 107, 108]).extract k (k + 1) = ⟨[UInt8.ofNat (97 + k)].toArray⟩ := by
          have := ext_sub [97, 98, 99, 100, 101, 102, 103, 104, 105, 106, 107, 108] k (k + 1)
          rw [sub_abc ⟨k, h8⟩] at this
          exact this
        have hx0 := Int.emod_nonneg x (show (32 : Int) ≠ 0 by decide)
        have hx1 := Int.emod_lt_of_pos x (show (0 : Int) < 32 by decide)
        have HN : ∀ W : World, Calls Tryz.prog 7 #[.int .i64 x, .int .i64 32] W fun e w' => e = .returned (.int .i64 (x % 32)) ∧ w' = W := fun W => near_any x 32 W (by decide) (by decide)
        obtain ⟨y, hy⟩ : ∃ y, x % 32 = y := ⟨_, rfl⟩
        rw [hy] at HTK hx0 hx1
        simp only [hy] at HN
        obtain ⟨Nm, hNm⟩ : ∃ N : List UInt8, [UInt8.ofNat (97 + k)] = N := ⟨_, rfl⟩
        rw [hNm] at HTK hE
        have e0 : IntKind.i64.wrap ((k : Int) + 1) = (k : Int) + 1 := by rw [IntKind.wrap_i64]; omega
        have e1 : IntKind.i64.wrap (1 + y) = 1 + y := by rw [IntKind.wrap_i64]; omega
        have t9 : ((k : Int) + 1).toNat = k + 1 := by omega
        obtain ⟨pv, cv, rfl⟩ := shapeP hown
        have hownd : wr.drew.ownsRow w.heap.size 39 2 (.slice pv k cv) k (fels ((lyF 0 ws).take k)) := owns_below hown (Below.refl _ _).drew
        clear hat hy hNm hx
        go_wp2_with fail
        go_region_law ((first | (refine step_append_lies _ (by rfl) _ _ 23 (by rfl) w.heap.size 39 i0 _ 2 24 Tryz.underlying23 hi hz0 hz1 hz2 rfl (by decide) _ k (fels ((lyF 0 ws).take k)) (by rfl) (by first | exact hownd.alloc _ | exact hown.alloc _) ⟨wr.heap.size, 0, none⟩ 1 1 (fcel (Nm, 1 + y)) (by rfl) rfl (World.news_of_block (cs := #[.string ⟨Nm.toArray⟩, .int .i64 (1 + y)]) (t := 39) (fr := (0, 0)) (heap_alloc_new _ _)) (by simp [fcel, Value.oneCell']) (by decide) (by unfold maxLen; omega) (by omega) (by simp; omega) _ rfl ?_; intro g5 c5 w5 oB hg5 _ _) | (go_simp; go_at_call 7; refine (HN _).mono ?_; rintro e w1 ⟨rfl, rfl⟩)))
        all_goals
          go_wp2_with fail
          go_roundw
          case rel => exact ⟨k + 1, by go_num, by omega, by omega, by rw [HTK.out]; exact oB, (by first | exact Below.grown ((hB.alloc hBs _).drew) hg5 (by simp; omega) (fun k e => (hown.lt k e).1) | exact Below.grown ((hB.drew).alloc hBs _) hg5 (by simp; omega) (fun k e => (hown.lt k e).1))⟩
          case measure => simp [intOf]; omega
      · have j8 : ¬ (k : Int) < 8 := by omega
        obtain rfl : k = 8 := by omega
        have hlen : (lyF 0 ws).take 8 = lyF 0 ws := List.take_of_length_le (by have := lyF_len ws 0; omega)
        rw [hlen] at hown
        have hly : lyL ws = lyF 0 ws := if_neg (fun e => by rw [e] at hlt; simp at hlt)
        have hl8 : (lyF 0 ws).length = 8 := by
          have := hown.1
          have h3 : (fels (lyF 0 ws)).length = (lyF 0 ws).length * 2 := by
            unfold fels
            induction lyF 0 ws with
            | nil => rfl
            | cons t L ih => rw [List.flatMap_cons, List.length_append, ih, List.length_cons]; show 2 + _ = _; omega
          omega
        have HO : Hid (wr.ownsRow w.heap.size 39 2 u3 (lyL ws).length (fels (lyL ws))) := by unfold Hid; rw [hly, hl8]; exact hown
        obtain ⟨pv, cv, rfl⟩ := shapeP hown
        clear hown hlen hly hl8
        go_wp2_with fail
        go_ret
        exact ⟨_, rfl, HO.out, hB⟩
    · have j1 : ¬ (k : Int) < (ws.length : Int) := by omega
      obtain rfl : k = ws.length := by omega
      have hlen : (lyF 0 ws).take ws.length = lyF 0 ws := List.take_of_length_le (lyF_full ws 0)
      rw [hlen] at hown
      by_cases h0 : ws = []
      · have z0 : (ws.length : Int) = 0 := by rw [h0]; rfl
        have hly : lyL ws = [([97], 5)] := if_pos h0
        have hf0 : fels (lyF 0 ws) = [] := by rw [h0]; rfl
        rw [hf0] at hown
        have HLY : Hid (lyL ws = [([97], 5)]) := hly
        have HWL : Hid (ws.length = 0) := by unfold Hid; rw [h0]; rfl
        obtain ⟨pv, cv, rfl⟩ := shapeP hown
        clear hlen hf0 hly h0
        go_wp2_with (at_builtin; refine wpList_append_own _ rfl _ _ 23 rfl w.heap.size 39 i0 _ 2 24 Tryz.underlying23 hi hz0 hz1 hz2 rfl (by decide) _ _ _ rfl (hown.alloc _) ⟨wr.heap.size, 0, none⟩ 1 1 [.string ⟨#[97]⟩, .int .i64 5] rfl rfl (World.news_of_block (cs := #[.string ⟨#[97]⟩, .int .i64 5]) (t := 39) (fr := (0, 0)) (alloc_get _ _)) (by simp [Value.oneCell']) (by unfold maxLen; omega) (by have := HWL.out; omega) (by simp; omega) ?_; intro v5 w5 oB hg5 _)
        go_ret
        refine ⟨_, rfl, ?_, (hB.alloc hBs _).grown hg5 (by simp; omega) (fun k e => (hown.lt k e).1)⟩
        rw [HLY.out]
        rw [HWL.out] at oB
        exact oB
      · have z0 : ((ws.length : Int) == 0) = false := beq_eq_false_iff_ne.2 (by have := List.length_pos_iff.2 h0; omega)
        have hly : lyL ws = lyF 0 ws := if_neg h0
        have h3 : (fels (lyF 0 ws)).length = (lyF 0 ws).length * 2 := by
          unfold fels
          induction lyF 0 ws with
          | nil => rfl
          | cons t L ih => rw [List.flatMap_cons, List.length_append, ih, List.length_cons]; show 2 + _ = _; omega
        have hll : (lyF 0 ws).length = ws.length := by
          have := hown.1
          omega
        have HO : Hid (wr.ownsRow w.heap.size 39 2 u3 (lyL ws).length (fels (lyL ws))) := by unfold Hid; rw [hly, hll]; exact hown
        obtain ⟨pv, cv, rfl⟩ := shapeP hown
        clear hown hlen hly h3 hll
        go_wp2_with fail
        go_ret
        exact ⟨_, rfl, HO.out, hB⟩
theorem and1b (c : UInt8) : bits .and .u8 (c.toNat : Int) 1 = ((c.toNat % 2 : Nat) : Int) := by
  have h : ∀ x : Fin 256, bits .and .u8 (x.val : Int) 1 = ((x.val % 2 : Nat) : Int) := by decide +kernel
  exact h ⟨c.toNat, c.toNat_lt⟩
set_option maxRecDepth 100000 in
set_option maxHeartbeats 8000000 in
theorem header_any (L : List IFld) (o : Option Addr) (c : Nat) (s : List UInt8) (n : Nat) (w : World) (hL : L.length ≤ 12) (hf : posB L) (hn : sumB L = (n : Int)) (hr : IRF w o L) (_hs : s.length ≤ 281474976710656) :
    Calls Tryz.prog 9 #[.slice o L.length c, .string ⟨s.toArray⟩] w fun e w' => e = .returned (.string ⟨(hdG n s).toArray⟩) ∧ Below w.heap.size w w' := by
  obtain ⟨i0, hi, hz0, hz1, hz2⟩ := info_parts info_u8
  have hb0 : ∀ f ∈ L, 0 ≤ f.2 ∧ f.2 ≤ 32 := fun f hf' => by have := hf f hf'; omega
  have hn2 := (sumB_bound L hb0).2
  have hn400 : n ≤ 400 := by omega
  have HR : Hid (IRF w o L) := hr
  have HF : Hid (posB L) := hf
  have HB0 : Hid (∀ f ∈ L, 0 ≤ f.2 ∧ f.2 ≤ 32) := hb0
  have HN : Hid (sumB L = (n : Int)) := hn
  clear hr hf hb0 hn hn2
  go_enter Tryz.func9, Tryz.ntmps9
  go_wp2_with fail
  go_loopw [5, 6] (fun v vk wr => ∃ (k p : Nat), vk = .int .i64 k ∧ k ≤ L.length ∧ Hid (sumB (L.take k) = (p : Int)) ∧ wr.ownsRow w.heap.size 5 1 v p (Lib.byteCells (hdG p s)) ∧ Below w.heap.size w wr) (fun _ vk _ => L.length - (intOf vk).toNat)
  case atStart => exact ⟨0, 0, rfl, Nat.zero_le _, rfl, World.ownsRow_nil _ _ _ _, Below.refl _ _⟩
  case round =>
    obtain ⟨k, p, rfl, hk, hp, hown, hB⟩ := hrel
    by_cases hlt : k < L.length
    · have j1 : (k : Int) < (L.length : Int) := by omega
      have j0 : (0 : Int) ≤ (k : Int) := by omega
      obtain ⟨f, hfk⟩ : ∃ f, L[k]? = some f := ⟨_, List.getElem?_eq_getElem hlt⟩
      obtain ⟨g, o0, rfl, -⟩ := HR.out wr hB k f hfk
      have hbits := HF.out f (List.mem_of_getElem? hfk)
      have hst := sumB_take hfk
      have hle := sumB_take_le HB0.out (k + 1)
      rw [hst, HN.out, hp.out] at hle
      rw [hp.out] at hst
      have XF : Hid (∀ W : World, Below w.heap.size w W → W.cell? ⟨g, o0 + k * 2 + 1, none⟩ = some (.int .i64 f.2)) := fun W hW => by
        obtain ⟨g3, q3, h1, -, h2⟩ := HR.out W hW k f hfk
        injection h1 with h1
        injection h1 with h1 h4
        subst h1 h4
        exact h2
      obtain ⟨x, bi⟩ := f
      obtain ⟨b, rfl⟩ : ∃ b : Nat, bi = (b : Int) := ⟨bi.toNat, by simp only at hbits; omega⟩
      simp only at hbits hle hst XF
      have HST : Hid (sumB (L.take (k + 1)) = ((p + b : Nat) : Int)) := by unfold Hid; rw [hst]; omega
      clear hfk hst hp
      go_wp2_with fail
      go_loopw [5, 7] (fun v vj wi => ∃ j : Nat, vj = .int .i64 j ∧ j ≤ b ∧ wi.ownsRow w.heap.size 5 1 v (p + j) (Lib.byteCells (hdG (p + j) s)) ∧ Below w.heap.size w wi) (fun _ vj _ => b - (intOf vj).toNat)
      case atStart => exact ⟨0, rfl, Nat.zero_le _, hown, hB⟩
      case round =>
        clear hown hB
        obtain ⟨j, rfl, hj, hown, hB⟩ := hrel
        have z0 := XF.out _ hB
        have hBs := hB.size
        by_cases hjb : j < b
        · have q1 : (j : Int) < (b : Int) := by omega
          have hsc := hdG_succ (p + j) s
          obtain ⟨m, hm⟩ : ∃ m, p + j = m := ⟨_, rfl⟩
          rw [hm] at hown hsc
          have hm400 : m ≤ 400 := by omega
          have HM : Hid (p + (j + 1) = m + 1) := by unfold Hid; omega
          have hBC : Hid (∀ d : UInt8, hdG (m + 1) s = hdG m s ++ [d] → Lib.byteCells (hdG (p + (j + 1)) s) = Lib.byteCells (hdG m s) ++ [.int .u8 (d.toNat : Int)]) := fun d hd => by rw [HM.out, hd, byteCells_append]; rfl
          obtain ⟨pv, cv, rfl⟩ := shapeP hown
          by_cases hms : m < s.length
          · have q2 : (m : Int) < (s.length : Int) := by omega
            have q3 : (0 : Int) ≤ (m : Int) := by omega
            obtain ⟨d, hd, hld⟩ := byte_get s m hms
            have hgd : s.getD m 0 = d := by simp [List.getD, hld]
            rw [hgd] at hsc
            have ha := and1b d
            rcases (show d.toNat % 2 = 1 ∨ d.toNat % 2 = 0 by omega) with h1 | h0
            · rw [h1] at ha
              rw [if_pos ⟨hms, h1⟩] at hsc
              have ho := hBC.out 49 hsc
              have a1 : (bits .and .u8 (d.toNat : Int) 1 == 1) = true := by rw [ha]; rfl
              have HO : Hid (Lib.byteCells (hdG (p + (j + 1)) s) = Lib.byteCells (hdG m s) ++ [.int .u8 49]) := ho
              clear hsc hgd hld ha ho h1 hm
              go_wp2_with (at_builtin; refine wpList_append_own _ rfl _ _ 60 rfl w.heap.size 5 i0 _ 1 1 Tryz.underlying60 hi hz0 hz1 hz2 rfl (by decide) _ _ _ rfl (hown.alloc _) ⟨_, 0, none⟩ 1 1 [.int .u8 49] rfl rfl (World.news_of_block (cs := #[.int .u8 49]) (t := 5) (fr := (0, 0)) (alloc_get _ _)) (by simp [Value.oneCell']) (by unfold maxLen; omega) (by omega) (by simp; omega) ?_; intro v5 w5 oB hg5 _; have hB5 := (hB.alloc hBs _).grown hg5 (by simp; omega) (fun k e => (hown.lt k e).1))
              go_roundw
              case rel => exact ⟨j + 1, by go_num, by omega, by rw [HO.out, HM.out]; exact oB, hB5⟩
              case measure => simp [intOf]; omega
            · rw [h0] at ha
              rw [if_neg (fun h => by omega)] at hsc
              have ho := hBC.out 48 hsc
              have a1 : (bits .and .u8 (d.toNat : Int) 1 == 1) = false := by rw [ha]; rfl
              have HO : Hid (Lib.byteCells (hdG (p + (j + 1)) s) = Lib.byteCells (hdG m s) ++ [.int .u8 48]) := ho
              clear hsc hgd hld ha ho h0 hm
              go_wp2_with (at_builtin; refine wpList_append_own _ rfl _ _ 60 rfl w.heap.size 5 i0 _ 1 1 Tryz.underlying60 hi hz0 hz1 hz2 rfl (by decide) _ _ _ rfl (hown.alloc _) ⟨_, 0, none⟩ 1 1 [.int .u8 48] rfl rfl (World.news_of_block (cs := #[.int .u8 48]) (t := 5) (fr := (0, 0)) (alloc_get _ _)) (by simp [Value.oneCell']) (by unfold maxLen; omega) (by omega) (by simp; omega) ?_; intro v5 w5 oB hg5 _; have hB5 := (hB.alloc hBs _).grown hg5 (by simp; omega) (fun k e => (hown.lt k e).1))
              go_roundw
              case rel => exact ⟨j + 1, by go_num, by omega, by rw [HO.out, HM.out]; exact oB, hB5⟩
              case measure => simp [intOf]; omega
          · have q2 : ¬ (m : Int) < (s.length : Int) := by omega
            rw [if_neg (fun h => hms h.1)] at hsc
            have ho := hBC.out 48 hsc
            have HO : Hid (Lib.byteCells (hdG (p + (j + 1)) s) = Lib.byteCells (hdG m s) ++ [.int .u8 48]) := ho
            clear hsc ho hm
            go_wp2_with (at_builtin; refine wpList_append_own _ rfl _ _ 60 rfl w.heap.size 5 i0 _ 1 1 Tryz.underlying60 hi hz0 hz1 hz2 rfl (by decide) _ _ _ rfl (hown.alloc _) ⟨_, 0, none⟩ 1 1 [.int .u8 48] rfl rfl (World.news_of_block (cs := #[.int .u8 48]) (t := 5) (fr := (0, 0)) (alloc_get _ _)) (by simp [Value.oneCell']) (by unfold maxLen; omega) (by omega) (by simp; omega) ?_; intro v5 w5 oB hg5 _; have hB5 := (hB.alloc hBs _).grown hg5 (by simp; omega) (fun k e => (hown.lt k e).1))
            go_roundw
            case rel => exact ⟨j + 1, by go_num, by omega, by rw [HO.out, HM.out]; exact oB, hB5⟩
            case measure => simp [intOf]; omega
        · have q1 : ¬ (j : Int) < (b : Int) := by omega
          obtain rfl : j = b := by omega
          go_wp2_with fail
          go_roundw
          case rel => exact ⟨k + 1, p + j, by go_num, by omega, HST, hown, hB⟩
          case measure => simp [intOf]; omega
    · have j1 : ¬ (k : Int) < (L.length : Int) := by omega
      have hpn : p = n := by
        have h1 := hp.out
        rw [List.take_of_length_le (by omega), HN.out] at h1
        omega
      subst hpn
      have hcv := conv_own (hdG p s) (by rw [hdG_len]; exact hown)
      obtain ⟨Y, hY⟩ : ∃ Y, hdG p s = Y := ⟨_, rfl⟩
      rw [hY] at hcv
      have HY : Hid (hdG p s = Y) := hY
      obtain ⟨pv, cv, rfl⟩ := shapeP hown
      clear hown hp hY
      go_wp2_with fail
      go_ret
      exact ⟨by rw [HY.out]; rfl, hB⟩
def blk (f : IFld) : Option Int → List UInt8
  | some v => digL f.2.toNat v.toNat 0
  | none => List.replicate f.2.toNat 120
theorem idxG_at : ∀ (L : List IFld) (i k : Nat) (f : IFld), (L.map (·.1)).Nodup → L[k]? = some f → idxG i L f.1 = ((i + k : Nat) : Int)
  | [], i, k, f, _, h => by simp at h
  | g :: L, i, 0, f, _, h => by
    simp at h
    subst h
    rw [idxG, if_pos rfl]
    rfl
  | g :: L, i, k + 1, f, hn, h => by
    rw [List.map_cons, List.nodup_cons] at hn
    have h' : L[k]? = some f := by simpa using h
    rw [idxG, if_neg (fun e => hn.1 (by rw [e]; exact List.mem_map_of_mem (List.mem_of_getElem? h'))), idxG_at L (i + 1) k f hn.2 h']
    congr 1
    omega
theorem idxF_at {L : List IFld} {k : Nat} {f : IFld} (hn : (L.map (·.1)).Nodup) (h : L[k]? = some f) : idxF L f.1 = (k : Int) := by
  unfold idxF
  rw [idxG_at L 0 k f hn h, Nat.zero_add]
end Go.Proofs.YtnboehlbcjfndaaGreatDoor

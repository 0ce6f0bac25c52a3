import Derived.Test.YtecgjlpmmailjaaGreatDoorXAG
namespace Go.Proofs.YtecgjlpmmailjaaGreatDoor
open Go.RowKit
theorem IRT_one {W : World} {B c : Nat} {p : Option Addr} {t : TRM} (h : W.ownsRow B 67 10 (.slice p 1 c) 1 ([.int .i64 (t.c.length : Int), .int .u64 (FW t.c 0 : Int), .int .u64 (FW t.c 1 : Int), .int .u64 (FW t.c 2 : Int), .int .u64 (FW t.c 3 : Int), .int .u64 (OW t.c 0 : Int), .int .u64 (OW t.c 1 : Int), .int .u64 (OW t.c 2 : Int), .int .u64 (OW t.c 3 : Int), .slice t.q t.m t.k])) : IRT W p [t] := fun X hX k u hu => by
  cases k with
  | succ k => simp at hu
  | zero =>
    obtain rfl : t = u := by simpa using hu
    rcases h.2 with ⟨e, h0⟩ | ⟨g, cap, cur, e, _⟩
    · omega
    · injection e with e1 _ _
      subst e1
      have cc : ∀ j, j < 10 → W.cell? ⟨g, j, none⟩ = ([.int .i64 (t.c.length : Int), .int .u64 (FW t.c 0 : Int), .int .u64 (FW t.c 1 : Int), .int .u64 (FW t.c 2 : Int), .int .u64 (FW t.c 3 : Int), .int .u64 (OW t.c 0 : Int), .int .u64 (OW t.c 1 : Int), .int .u64 (OW t.c 2 : Int), .int .u64 (OW t.c 3 : Int), .slice t.q t.m t.k] : List Value)[j]? := fun j hj => h.cellAt j (by omega)
      have hk : ∀ {p : Addr} {v : Value}, W.cell? p = some v → X.cell? p = some v := fun h => (hX.cell (World.block_lt_of_cell? W _ h)).trans h
      refine ⟨g, 0, rfl, ⟨hk (cc 0 (by omega)), hk (cc 1 (by omega)), hk (cc 2 (by omega)), hk (cc 3 (by omega)), hk (cc 4 (by omega)), hk (cc 5 (by omega)), hk (cc 6 (by omega)), hk (cc 7 (by omega)), hk (cc 8 (by omega))⟩, hk (cc 9 (by omega))⟩
set_option maxRecDepth 100000 in
theorem greatT_nil (w : World) : Calls Tryz.prog 49 #[.slice none 0 0, .func (.func 50) #[] #[]] w fun e w' => e = .returned (.slice none 0 0) ∧ Below w.heap.size w w' := by
  go_enter Tryz.func49, Tryz.ntmps49
  go_wp2_with fail
  go_loopw [5, 10] (fun v5 v10 wr => v5 = .slice none 0 0 ∧ v10 = .int .i64 0 ∧ Below w.heap.size w wr) (fun _ _ _ => 0)
  case atStart => exact ⟨rfl, rfl, belA (Below.refl _ _) _⟩
  case round =>
    obtain ⟨rfl, rfl, hB⟩ := hrel
    go_wp2_with fail
    go_ret
    exact ⟨rfl, hB⟩
set_option maxRecDepth 100000 in
set_option maxHeartbeats 1000000 in
theorem topmost_nil (w : World) : Calls Tryz.prog 32 #[.slice none 0 0] w fun e w' => e = .returned (.slice none 0 0) ∧ Below w.heap.size w w' := by
  have H1 := greatT_nil w
  go_enter Tryz.func32, Tryz.ntmps32
  go_wp2_with fail
  refine H1.mono ?_
  rintro e W1 ⟨rfl, hb1⟩
  clear H1
  have H2 := size_any [] 0 none 0 W1 rfl (by omega) (by simp [szT]) (fun W hW k t ht => by simp at ht)
  go_wp2_with fail
  refine H2.mono ?_
  rintro e W2 ⟨rfl, hb2⟩
  clear H2
  go_wp2_with fail
  refine (spend_ok (szT [] : Int) 128 W2 (by simp [szT])).mono ?_
  rintro e W3 ⟨rfl, rfl⟩
  go_wp2_with fail
  go_ret
  exact ⟨rfl, bel0 hb1 hb2⟩
set_option maxRecDepth 100000 in
set_option maxHeartbeats 1000000 in
theorem topmost_one (t : TRM) (p : Option Addr) (c : Nat) (w : World) (hr : IRT w p [t]) (hm : t.m ≤ 1000000) :
    Calls Tryz.prog 32 #[.slice p 1 c] w fun e w' => Below w.heap.size w w' ∧ ((1 + t.m ≤ 128 ∧ ∃ v, e = .returned v ∧ w'.ownsRow w.heap.size 67 10 v 1 ([.int .i64 (t.c.length : Int), .int .u64 (FW t.c 0 : Int), .int .u64 (FW t.c 1 : Int), .int .u64 (FW t.c 2 : Int), .int .u64 (FW t.c 3 : Int), .int .u64 (OW t.c 0 : Int), .int .u64 (OW t.c 1 : Int), .int .u64 (OW t.c 2 : Int), .int .u64 (OW t.c 3 : Int), .slice t.q t.m t.k])) ∨ (128 < 1 + t.m ∧ e = .panicked [{ v := .iface 81 (.agg #[]), recovered := false }])) := by
  have H1 := greatT_one t p c w hr
  have HM : Hid (t.m ≤ 1000000) := hm
  clear hr hm
  go_enter Tryz.func32, Tryz.ntmps32
  go_wp2_with fail
  refine H1.mono ?_
  rintro e W1 ⟨v, rfl, ho, hb1⟩
  clear H1
  obtain ⟨p1, c1, rfl⟩ := shapeQ1 ho
  have hz : szT [t] = 1 + t.m := by simp [szT]
  have H2 := size_any [t] 1 p1 c1 W1 rfl (by omega) (by rw [hz]; have := HM.out; omega) (IRT_one ho)
  rw [hz] at H2
  have HO : Hid (W1.ownsRow w.heap.size 67 10 (.slice p1 1 c1) 1 ([.int .i64 (t.c.length : Int), .int .u64 (FW t.c 0 : Int), .int .u64 (FW t.c 1 : Int), .int .u64 (FW t.c 2 : Int), .int .u64 (FW t.c 3 : Int), .int .u64 (OW t.c 0 : Int), .int .u64 (OW t.c 1 : Int), .int .u64 (OW t.c 2 : Int), .int .u64 (OW t.c 3 : Int), .slice t.q t.m t.k])) := ho
  clear ho hz
  go_wp2_with fail
  refine H2.mono ?_
  rintro e W2 ⟨rfl, hb2⟩
  clear H2
  go_wp2_with fail
  by_cases hle : 1 + t.m ≤ 128
  · refine (spend_ok ((1 + t.m : Nat) : Int) 128 W2 (by omega)).mono ?_
    rintro e W3 ⟨rfl, rfl⟩
    go_wp2_with fail
    go_ret
    exact ⟨bel0 hb1 hb2, .inl ⟨hle, _, rfl, own_belQ HO.out hb2⟩⟩
  · refine (spend_over ((1 + t.m : Nat) : Int) 128 W2 (by omega)).mono ?_
    rintro e W3 ⟨rfl, rfl⟩
    have HB : Hid (Below w.heap.size w W3) := bel0 hb1 hb2
    go_wp2_with fail
    exact ⟨rfl, HB.out, .inr ⟨by omega, rfl⟩⟩
end Go.Proofs.YtecgjlpmmailjaaGreatDoor
namespace Go.Proofs.YtecgjlpmmailjaaGreatDoor
open Go.RowKit
set_option maxRecDepth 100000 in
set_option maxHeartbeats 2000000 in
theorem idxw_any (L : List (List UInt8)) (n : Nat) (o : Option Addr) (c : Nat) (x : List UInt8) (p : List UInt8 → Bool) (w : World) (hn : L.length = n) (hL : n ≤ 281474976710656) (hr : IRC w o L) (hp : ∀ W, Below w.heap.size w W → ∀ t ∈ L, Calls Tryz.prog 43 #[.agg #[.int .i64 (x.length : Int), .int .u64 (FW x 0 : Int), .int .u64 (FW x 1 : Int), .int .u64 (FW x 2 : Int), .int .u64 (FW x 3 : Int), .int .u64 (OW x 0 : Int), .int .u64 (OW x 1 : Int), .int .u64 (OW x 2 : Int), .int .u64 (OW x 3 : Int)], cubeV t] W fun e w' => e = .returned (.bool (p t)) ∧ Below W.heap.size W w') :
    Calls Tryz.prog 76 #[.slice o n c, .func (.func 43) #[.agg #[.int .i64 (x.length : Int), .int .u64 (FW x 0 : Int), .int .u64 (FW x 1 : Int), .int .u64 (FW x 2 : Int), .int .u64 (FW x 3 : Int), .int .u64 (OW x 0 : Int), .int .u64 (OW x 1 : Int), .int .u64 (OW x 2 : Int), .int .u64 (OW x 3 : Int)]] #[]] w fun e w' => e = .returned (.int .i64 (ixP p 0 L)) ∧ Below w.heap.size w w' := by
  have HR : Hid (IRC w o L) := hr
  have HPP : Hid (∀ W, Below w.heap.size w W → ∀ t ∈ L, Calls Tryz.prog 43 #[.agg #[.int .i64 (x.length : Int), .int .u64 (FW x 0 : Int), .int .u64 (FW x 1 : Int), .int .u64 (FW x 2 : Int), .int .u64 (FW x 3 : Int), .int .u64 (OW x 0 : Int), .int .u64 (OW x 1 : Int), .int .u64 (OW x 2 : Int), .int .u64 (OW x 3 : Int)], cubeV t] W fun e w' => e = .returned (.bool (p t)) ∧ Below W.heap.size W w') := hp
  have HN : Hid (L.length = n) := hn
  obtain ⟨q, hq⟩ : ∃ q, ixP p 0 L = q := ⟨_, rfl⟩
  rw [hq]
  have HQ : Hid (ixP p 0 (L.drop 0) = q) := hq
  clear hr hp hq hn
  go_enter Tryz.func76, Tryz.ntmps76
  go_wp2_with fail
  go_loopw [8] (fun vk wr => ∃ k : Nat, vk = .int .i64 k ∧ k ≤ n ∧ Hid (ixP p k (L.drop k) = q) ∧ Below w.heap.size w wr) (fun vk _ => n - (intOf vk).toNat)
  case atStart => exact ⟨0, rfl, Nat.zero_le _, HQ, Below.refl _ _⟩
  case round =>
    clear HQ
    obtain ⟨k, rfl, hk, hidx, hB⟩ := hrel
    by_cases hlt : k < n
    · have j1 : (k : Int) < (n : Int) := by omega
      have j0 : (0 : Int) ≤ (k : Int) := by omega
      obtain ⟨t, ht⟩ : ∃ t, L[k]? = some t := ⟨_, List.getElem?_eq_getElem (by rw [HN.out]; exact hlt)⟩
      obtain ⟨g, o0, rfl, p0, p1, p2, p3, p4, p5, p6, p7, p8⟩ := HR.out wr hB k t ht
      have hx2 := hidx.out
      rw [ixP_step ht] at hx2
      have H1 := HPP.out wr hB t (List.mem_of_getElem? ht)
      have HH : Hid (Calls Tryz.prog 43 #[.agg #[.int .i64 (x.length : Int), .int .u64 (FW x 0 : Int), .int .u64 (FW x 1 : Int), .int .u64 (FW x 2 : Int), .int .u64 (FW x 3 : Int), .int .u64 (OW x 0 : Int), .int .u64 (OW x 1 : Int), .int .u64 (OW x 2 : Int), .int .u64 (OW x 3 : Int)], cubeV t] wr fun e w' => e = .returned (.bool (p t)) ∧ Below wr.heap.size wr w') := H1
      clear ht hidx H1
      cases hy : p t with
      | true =>
        rw [hy, if_pos rfl] at hx2
        have HX2 : Hid ((k : Int) = q) := hx2
        have HY : Hid (p t = true) := hy
        clear hx2 hy
        go_wp2_with fail
        refine HH.out.mono ?_
        rintro e W1 ⟨rfl, hb1⟩
        rw [HY.out]
        go_wp2_with fail
        go_ret
        exact ⟨by rw [← HX2.out]; rfl, bel0 hB hb1⟩
      | false =>
        rw [hy, if_neg (by simp)] at hx2
        have HX : Hid (ixP p (k + 1) (L.drop (k + 1)) = q) := hx2
        have HY : Hid (p t = false) := hy
        clear hx2 hy
        go_wp2_with fail
        refine HH.out.mono ?_
        rintro e W1 ⟨rfl, hb1⟩
        rw [HY.out]
        go_wp2_with fail
        go_roundw
        case rel => exact ⟨k + 1, by go_num, by omega, HX, bel0 hB hb1⟩
        case measure => simp [intOf]; omega
    · have j1 : ¬ (k : Int) < (n : Int) := by omega
      have HX2 : Hid (-1 = q) := by
        unfold Hid
        rw [← hidx.out, List.drop_eq_nil_of_le (by rw [HN.out]; omega)]
        rfl
      clear hidx
      go_wp2_with fail
      go_ret
      exact ⟨by rw [← HX2.out]; rfl, hB⟩
set_option maxRecDepth 100000 in
set_option maxHeartbeats 1000000 in
theorem contw_any (L : List (List UInt8)) (n : Nat) (o : Option Addr) (c : Nat) (x : List UInt8) (p : List UInt8 → Bool) (w : World) (hn : L.length = n) (hL : n ≤ 281474976710656) (hr : IRC w o L) (hp : ∀ W, Below w.heap.size w W → ∀ t ∈ L, Calls Tryz.prog 43 #[.agg #[.int .i64 (x.length : Int), .int .u64 (FW x 0 : Int), .int .u64 (FW x 1 : Int), .int .u64 (FW x 2 : Int), .int .u64 (FW x 3 : Int), .int .u64 (OW x 0 : Int), .int .u64 (OW x 1 : Int), .int .u64 (OW x 2 : Int), .int .u64 (OW x 3 : Int)], cubeV t] W fun e w' => e = .returned (.bool (p t)) ∧ Below W.heap.size W w') :
    Calls Tryz.prog 60 #[.slice o n c, .func (.func 43) #[.agg #[.int .i64 (x.length : Int), .int .u64 (FW x 0 : Int), .int .u64 (FW x 1 : Int), .int .u64 (FW x 2 : Int), .int .u64 (FW x 3 : Int), .int .u64 (OW x 0 : Int), .int .u64 (OW x 1 : Int), .int .u64 (OW x 2 : Int), .int .u64 (OW x 3 : Int)]] #[]] w fun e w' => e = .returned (.bool (L.any p)) ∧ Below w.heap.size w w' := by
  have H1 := idxw_any L n o c x p w hn hL hr hp
  obtain ⟨b, hb⟩ : ∃ b, L.any p = b := ⟨_, rfl⟩
  obtain ⟨i, hi⟩ : ∃ i, ixP p 0 L = i := ⟨_, rfl⟩
  have HD : Hid (decide ((0 : Int) ≤ i) = b) := by
    unfold Hid
    rw [← hb, ← hi, ixP_any]
  rw [hi] at H1
  rw [hb]
  clear hr hp hb hi hn
  go_enter Tryz.func60, Tryz.ntmps60
  go_wp2_with fail
  refine H1.mono ?_
  rintro e W1 ⟨rfl, hb1⟩
  go_wp2_with fail
  go_ret
  exact ⟨by rw [← HD.out]; rfl, hb1⟩
/-- what is a row of cubes lies as it lay -/
def KC (w w' : World) : Prop := ∀ (k : Nat) (cs : Array Value) (fr : Nat × Nat), w.heap[k]? = some (.cells cs 58 fr) → w'.heap[k]? = some (.cells cs 58 fr)
theorem KC.refl (w : World) : KC w w := fun _ _ _ h => h
theorem KC.trans {a b c : World} (h1 : KC a b) (h2 : KC b c) : KC a c := fun k cs fr h => h2 k cs fr (h1 k cs fr h)
theorem KC_below {a b : World} (h : Below a.heap.size a b) : KC a b := fun k _ _ hk => (h.block k (lt_of_get3 hk)).trans hk
theorem KC_grown {a b : World} {g : Nat} {cs : Array Value} {t : TypeId} {fr : Nat × Nat} (h : a.grownBy b (some g)) (hg : a.heap[g]? = some (.cells cs t fr)) (ht : t ≠ 58) : KC a b := fun k ds f hk => by
  refine (h.block k (lt_of_get3 hk) (fun e => ?_)).trans hk
  have e2 : k = g := by injection e
  subst e2
  rw [hg] at hk
  injection hk with e3
  injection e3 with _ e3 _
  exact ht e3
/-- a row of cubes lies there as long as no row of cubes is written -/
def IRK (w : World) (p : Option Addr) (L : List (List UInt8)) : Prop := ∀ W : World, KC w W → ∀ k t, L[k]? = some t → ∃ g o0, p = some ⟨g, o0, none⟩ ∧ CB W g (o0 + k * 9) t
theorem IRK.later {w W : World} {p : Option Addr} {L : List (List UInt8)} (h : IRK w p L) (hb : KC w W) : IRK W p L := fun X hX k t ht => h X (hb.trans hX) k t ht
theorem IRK.irc {w : World} {p : Option Addr} {L : List (List UInt8)} (h : IRK w p L) : IRC w p L := fun X hX k t ht => h X (KC_below hX) k t ht
theorem own_KC {W X : World} {B n : Nat} {v : Value} {xs : List Value} (h : W.ownsRow B 58 9 v n xs) (k : KC W X) : X.ownsRow B 58 9 v n xs := by
  refine ⟨h.1, ?_⟩
  rcases h.2 with h2 | ⟨g, cap, cur, h1, h2, h3, h4⟩
  · exact .inl h2
  · exact .inr ⟨g, cap, cur, h1, h2, k _ _ _ h3, h4⟩
theorem IRK_own {W : World} {B n c : Nat} {p : Option Addr} {L : List (List UInt8)} (h : W.ownsRow B 58 9 (.slice p n c) n (ces L)) (hn : L.length = n) : IRK W p L := fun X hX k t ht => IRC_own (own_KC h hX) hn X (Below.refl _ _) k t ht
/-- a term: its cube, where its list lies, and the list -/
structure ZT where
  c : List UInt8
  q : Option Addr
  k : Nat
  L : List (List UInt8)
def ZT.cells (z : ZT) : List Value := [.int .i64 (z.c.length : Int), .int .u64 (FW z.c 0 : Int), .int .u64 (FW z.c 1 : Int), .int .u64 (FW z.c 2 : Int), .int .u64 (FW z.c 3 : Int), .int .u64 (OW z.c 0 : Int), .int .u64 (OW z.c 1 : Int), .int .u64 (OW z.c 2 : Int), .int .u64 (OW z.c 3 : Int), .slice z.q z.L.length z.k]
def ZOK (w : World) (z : ZT) : Prop := IRK w z.q z.L ∧ z.L.length ≤ 1000000 ∧ good z.c = true ∧ ∀ x ∈ z.L, good x = true
theorem ZOK.later {w W : World} {z : ZT} (h : ZOK w z) (hb : KC w W) : ZOK W z := ⟨h.1.later hb, h.2⟩
/-- one term covers another -/
def cvB (z u : ZT) : Bool := wiB z.c u.c && u.L.all (fun n => !(agB n z.c && !z.L.any (fun y => wiB (mtT n z.c) y)))
theorem all_step {p : List UInt8 → Bool} {L : List (List UInt8)} {k : Nat} (h : ∀ j t, j < k → L[j]? = some t → p t = true) (hk : L.length ≤ k) : L.all p = true := by
  rw [List.all_eq_true]
  intro t ht
  obtain ⟨j, hj, he⟩ := List.getElem_of_mem ht
  exact h j t (by omega) (by rw [List.getElem?_eq_getElem hj, he])
theorem all_fail {p : List UInt8 → Bool} {L : List (List UInt8)} {k : Nat} {t : List UInt8} (h : L[k]? = some t) (hp : p t = false) : L.all p = false := by
  rw [List.all_eq_false]
  exact ⟨t, List.mem_of_getElem? h, by rw [hp]; simp⟩
set_option maxRecDepth 100000 in
set_option maxHeartbeats 4000000 in
theorem covered_any (z u : ZT) (w : World) (hz : ZOK w z) (hu : ZOK w u) : Calls Tryz.prog 50 #[.agg #[.int .i64 (z.c.length : Int), .int .u64 (FW z.c 0 : Int), .int .u64 (FW z.c 1 : Int), .int .u64 (FW z.c 2 : Int), .int .u64 (FW z.c 3 : Int), .int .u64 (OW z.c 0 : Int), .int .u64 (OW z.c 1 : Int), .int .u64 (OW z.c 2 : Int), .int .u64 (OW z.c 3 : Int), .slice z.q z.L.length z.k], .agg #[.int .i64 (u.c.length : Int), .int .u64 (FW u.c 0 : Int), .int .u64 (FW u.c 1 : Int), .int .u64 (FW u.c 2 : Int), .int .u64 (FW u.c 3 : Int), .int .u64 (OW u.c 0 : Int), .int .u64 (OW u.c 1 : Int), .int .u64 (OW u.c 2 : Int), .int .u64 (OW u.c 3 : Int), .slice u.q u.L.length u.k]] w fun e w' => e = .returned (.bool (cvB z u)) ∧ Below w.heap.size w w' := by
  obtain ⟨zc, zq, zk, zL⟩ := z
  obtain ⟨uc, uq, uk, uL⟩ := u
  obtain ⟨hz1, hz2, hz3, hz4⟩ := hz
  obtain ⟨hu1, hu2, hu3, hu4⟩ := hu
  simp only at hz1 hz2 hz3 hz4 hu1 hu2 hu3 hu4 ⊢
  obtain ⟨w2, hw2⟩ : ∃ w2, (w.alloc (.cells #[.int .i64 (zc.length : Int), .int .u64 (FW zc 0 : Int), .int .u64 (FW zc 1 : Int), .int .u64 (FW zc 2 : Int), .int .u64 (FW zc 3 : Int), .int .u64 (OW zc 0 : Int), .int .u64 (OW zc 1 : Int), .int .u64 (OW zc 2 : Int), .int .u64 (OW zc 3 : Int), .slice zq zL.length zk] 67 (0, 0))).alloc (.cells #[.int .i64 (uc.length : Int), .int .u64 (FW uc 0 : Int), .int .u64 (FW uc 1 : Int), .int .u64 (FW uc 2 : Int), .int .u64 (FW uc 3 : Int), .int .u64 (OW uc 0 : Int), .int .u64 (OW uc 1 : Int), .int .u64 (OW uc 2 : Int), .int .u64 (OW uc 3 : Int), .slice uq uL.length uk] 67 (0, 0)) = w2 := ⟨_, rfl⟩
  have ha : w2.heap[w.heap.size]? = some (.cells #[.int .i64 (zc.length : Int), .int .u64 (FW zc 0 : Int), .int .u64 (FW zc 1 : Int), .int .u64 (FW zc 2 : Int), .int .u64 (FW zc 3 : Int), .int .u64 (OW zc 0 : Int), .int .u64 (OW zc 1 : Int), .int .u64 (OW zc 2 : Int), .int .u64 (OW zc 3 : Int), .slice zq zL.length zk] 67 (0, 0)) := by rw [← hw2]; exact alw_0 _ _ _
  have hb : w2.heap[w.heap.size + 1]? = some (.cells #[.int .i64 (uc.length : Int), .int .u64 (FW uc 0 : Int), .int .u64 (FW uc 1 : Int), .int .u64 (FW uc 2 : Int), .int .u64 (FW uc 3 : Int), .int .u64 (OW uc 0 : Int), .int .u64 (OW uc 1 : Int), .int .u64 (OW uc 2 : Int), .int .u64 (OW uc 3 : Int), .slice uq uL.length uk] 67 (0, 0)) := by rw [← hw2]; exact alw_1 _ _ _
  have hB : Below w.heap.size w w2 := by rw [← hw2]; exact belA (belA (Below.refl _ _) _) _
  have HA : Hid (w2.heap[w.heap.size]? = some (.cells #[.int .i64 (zc.length : Int), .int .u64 (FW zc 0 : Int), .int .u64 (FW zc 1 : Int), .int .u64 (FW zc 2 : Int), .int .u64 (FW zc 3 : Int), .int .u64 (OW zc 0 : Int), .int .u64 (OW zc 1 : Int), .int .u64 (OW zc 2 : Int), .int .u64 (OW zc 3 : Int), .slice zq zL.length zk] 67 (0, 0)) ∧ w2.heap[w.heap.size + 1]? = some (.cells #[.int .i64 (uc.length : Int), .int .u64 (FW uc 0 : Int), .int .u64 (FW uc 1 : Int), .int .u64 (FW uc 2 : Int), .int .u64 (FW uc 3 : Int), .int .u64 (OW uc 0 : Int), .int .u64 (OW uc 1 : Int), .int .u64 (OW uc 2 : Int), .int .u64 (OW uc 3 : Int), .slice uq uL.length uk] 67 (0, 0)) ∧ Below w.heap.size w w2) := ⟨ha, hb, hB⟩
  have HZ : Hid (IRC w zq zL ∧ zL.length ≤ 1000000 ∧ good zc = true ∧ ∀ x ∈ zL, good x = true) := ⟨hz1.irc, hz2, hz3, hz4⟩
  have HU : Hid (IRC w uq uL ∧ good uc = true ∧ ∀ x ∈ uL, good x = true) := ⟨hu1.irc, hu3, hu4⟩
  obtain ⟨hca, -⟩ := cells_block ha
  obtain ⟨hcb, -⟩ := cells_block hb
  obtain ⟨P, hP⟩ : ∃ P : List UInt8 → Bool, (fun n => !(agB n zc && !zL.any (fun y => wiB (mtT n zc) y))) = P := ⟨_, rfl⟩
  have HP : Hid (∀ n, P n = !(agB n zc && !zL.any (fun y => wiB (mtT n zc) y))) := fun n => by rw [← hP]
  have HCV : Hid (cvB ⟨zc, zq, zk, zL⟩ ⟨uc, uq, uk, uL⟩ = (wiB zc uc && uL.all P)) := by unfold Hid cvB; simp only; rw [hP]
  have H1 : Hid (Calls Tryz.prog 43 #[.agg #[.int .i64 (zc.length : Int), .int .u64 (FW zc 0 : Int), .int .u64 (FW zc 1 : Int), .int .u64 (FW zc 2 : Int), .int .u64 (FW zc 3 : Int), .int .u64 (OW zc 0 : Int), .int .u64 (OW zc 1 : Int), .int .u64 (OW zc 2 : Int), .int .u64 (OW zc 3 : Int)], .agg #[.int .i64 (uc.length : Int), .int .u64 (FW uc 0 : Int), .int .u64 (FW uc 1 : Int), .int .u64 (FW uc 2 : Int), .int .u64 (FW uc 3 : Int), .int .u64 (OW uc 0 : Int), .int .u64 (OW uc 1 : Int), .int .u64 (OW uc 2 : Int), .int .u64 (OW uc 3 : Int)]] w2 fun e w' => e = .returned (.bool (wiB zc uc)) ∧ Below w2.heap.size w2 w') := within_any zc uc w2 hz3 hu3
  clear ha hb hB hz1 hz2 hz3 hz4 hu1 hu3 hu4 hP
  cases hw : wiB zc uc with
  | false =>
    rw [hw] at H1 HCV
    clear hw
    go_enter Tryz.func50, Tryz.ntmps50
    go_wp2_with fail
    refine H1.out.mono ?_
    rintro e W1 ⟨rfl, hb1⟩
    go_wp2_with fail
    go_ret
    exact ⟨by rw [HCV.out]; rfl, bel0 HA.out.2.2 hb1⟩
  | true =>
    rw [hw] at H1 HCV
    clear hw
    go_enter Tryz.func50, Tryz.ntmps50
    go_wp2_with fail
    refine H1.out.mono ?_
    rintro e W1 ⟨rfl, hb1⟩
    obtain ⟨hcb1, -⟩ := cells_block (keepblk3 hb1 HA.out.2.1)
    have HB1 : Hid (Below w2.heap.size w2 W1) := hb1
    clear hca hcb hw2 hb1
    go_wp2_with fail
    clear hcb1
    go_loopw [18] (fun vi wr => ∃ j : Nat, vi = .int .i64 j ∧ j ≤ uL.length ∧ Hid (∀ i t, i < j → uL[i]? = some t → P t = true) ∧ Below w2.heap.size w2 wr) (fun vi _ => uL.length - (intOf vi).toNat)
    case atStart => exact ⟨0, rfl, Nat.zero_le _, fun i t hi => by omega, HB1.out⟩
    case round =>
      clear HB1
      obtain ⟨j, rfl, hj, hok, hBj⟩ := hrel
      by_cases hlt : j < uL.length
      · have j1 : (j : Int) < (uL.length : Int) := by omega
        have j0 : (0 : Int) ≤ (j : Int) := by omega
        obtain ⟨t, ht⟩ : ∃ t, uL[j]? = some t := ⟨_, List.getElem?_eq_getElem hlt⟩
        obtain ⟨g, o0, rfl, p0, p1, p2, p3, p4, p5, p6, p7, p8⟩ := HU.out.1 wr (bel0 HA.out.2.2 hBj) j t ht
        have gt := HU.out.2.2 t (List.mem_of_getElem? ht)
        obtain ⟨wa, hwa⟩ : ∃ wa, wr.alloc (.cells #[.int .i64 (t.length : Int), .int .u64 (FW t 0 : Int), .int .u64 (FW t 1 : Int), .int .u64 (FW t 2 : Int), .int .u64 (FW t 3 : Int), .int .u64 (OW t 0 : Int), .int .u64 (OW t 1 : Int), .int .u64 (OW t 2 : Int), .int .u64 (OW t 3 : Int)] 58 (0, 0)) = wa := ⟨_, rfl⟩
        have hal : Below wr.heap.size wr wa := by rw [← hwa]; exact belA (Below.refl _ _) _
        have hgt : wa.heap[wr.heap.size]? = some (.cells #[.int .i64 (t.length : Int), .int .u64 (FW t 0 : Int), .int .u64 (FW t 1 : Int), .int .u64 (FW t 2 : Int), .int .u64 (FW t 3 : Int), .int .u64 (OW t 0 : Int), .int .u64 (OW t 1 : Int), .int .u64 (OW t 2 : Int), .int .u64 (OW t 3 : Int)] 58 (0, 0)) := by rw [← hwa]; exact alloc_get _ _
        obtain ⟨hct, -⟩ := cells_block hgt
        obtain ⟨hza, -⟩ := cells_block (keepblk3 (bel0 hBj hal) HA.out.1)
        obtain ⟨M, hM⟩ : ∃ M, mtT t zc = M := ⟨_, rfl⟩
        obtain ⟨q, hq⟩ : ∃ q, agB t zc = q := ⟨_, rfl⟩
        have gM : Hid (good M = true) := by unfold Hid; rw [← hM]; exact good_mtT t zc gt HZ.out.2.2.1
        have HMt : Hid (Calls Tryz.prog 41 #[.agg #[.int .i64 (t.length : Int), .int .u64 (FW t 0 : Int), .int .u64 (FW t 1 : Int), .int .u64 (FW t 2 : Int), .int .u64 (FW t 3 : Int), .int .u64 (OW t 0 : Int), .int .u64 (OW t 1 : Int), .int .u64 (OW t 2 : Int), .int .u64 (OW t 3 : Int)], .agg #[.int .i64 (zc.length : Int), .int .u64 (FW zc 0 : Int), .int .u64 (FW zc 1 : Int), .int .u64 (FW zc 2 : Int), .int .u64 (FW zc 3 : Int), .int .u64 (OW zc 0 : Int), .int .u64 (OW zc 1 : Int), .int .u64 (OW zc 2 : Int), .int .u64 (OW zc 3 : Int)]] wa fun e w' => e = .returned (.tuple #[.agg #[.int .i64 (M.length : Int), .int .u64 (FW M 0 : Int), .int .u64 (FW M 1 : Int), .int .u64 (FW M 2 : Int), .int .u64 (FW M 3 : Int), .int .u64 (OW M 0 : Int), .int .u64 (OW M 1 : Int), .int .u64 (OW M 2 : Int), .int .u64 (OW M 3 : Int)], .bool q]) ∧ Below wa.heap.size wa w') := meet_D t zc M q wa gt hM hq
        have HPt : Hid (P t = !(q && !zL.any (fun y => wiB M y))) := by unfold Hid; rw [HP.out, hM, hq]
        have HT : Hid (uL[j]? = some t) := ht
        have hBa : Below w2.heap.size w2 wa := bel0 hBj hal
        clear ht gt hgt hal hM hq
        cases q with
        | false =>
          have HX : Hid (∀ i t, i < j + 1 → uL[i]? = some t → P t = true) := fun i v hi hv => by
            by_cases e : i = j
            · subst e
              rw [HT.out] at hv
              obtain rfl := Option.some.inj hv
              rw [HPt.out]; rfl
            · exact hok.out i v (by omega) hv
          go_wp2_with fail
          refine HMt.out.mono ?_
          rintro e W3 ⟨rfl, hb3⟩
          have hB3 := bel0 hBa hb3
          clear hct hza hwa p0 p1 p2 p3 p4 p5 p6 p7 p8 hBa hBj hb3
          go_wp2_with fail
          go_roundw
          case rel => exact ⟨j + 1, by go_num, by omega, HX, belA hB3 _⟩
          case measure => simp [intOf]; omega
        | true =>
          go_wp2_with fail
          refine HMt.out.mono ?_
          rintro e W3 ⟨rfl, hb3⟩
          have hB3 := bel0 hBa hb3
          obtain ⟨W4, hW4⟩ : ∃ W4, W3.alloc (.cells #[.int .i64 (M.length : Int), .int .u64 (FW M 0 : Int), .int .u64 (FW M 1 : Int), .int .u64 (FW M 2 : Int), .int .u64 (FW M 3 : Int), .int .u64 (OW M 0 : Int), .int .u64 (OW M 1 : Int), .int .u64 (OW M 2 : Int), .int .u64 (OW M 3 : Int)] 58 (0, 0)) = W4 := ⟨_, rfl⟩
          have hal4 : Below W3.heap.size W3 W4 := by rw [← hW4]; exact belA (Below.refl _ _) _
          have hB4 := bel0 hB3 hal4
          obtain ⟨hz4, -⟩ := cells_block (keepblk3 hB4 HA.out.1)
          have hk4 : W4.heap[W3.heap.size]? = some (.cells #[.int .i64 (M.length : Int), .int .u64 (FW M 0 : Int), .int .u64 (FW M 1 : Int), .int .u64 (FW M 2 : Int), .int .u64 (FW M 3 : Int), .int .u64 (OW M 0 : Int), .int .u64 (OW M 1 : Int), .int .u64 (OW M 2 : Int), .int .u64 (OW M 3 : Int)] 58 (0, 0)) := by rw [← hW4]; exact alloc_get _ _
          obtain ⟨hm4, -⟩ := cells_block hk4
          obtain ⟨qa, hqa⟩ : ∃ qa, zL.any (fun y => wiB M y) = qa := ⟨_, rfl⟩
          rw [hqa] at HPt
          have HCn : Hid (Calls Tryz.prog 60 #[.slice zq zL.length zk, .func (.func 43) #[.agg #[.int .i64 (M.length : Int), .int .u64 (FW M 0 : Int), .int .u64 (FW M 1 : Int), .int .u64 (FW M 2 : Int), .int .u64 (FW M 3 : Int), .int .u64 (OW M 0 : Int), .int .u64 (OW M 1 : Int), .int .u64 (OW M 2 : Int), .int .u64 (OW M 3 : Int)]] #[]] W4 fun e w' => e = .returned (.bool qa) ∧ Below W4.heap.size W4 w') := by
            unfold Hid
            rw [← hqa]
            exact contw_any zL zL.length zq zk M (fun y => wiB M y) W4 rfl (by have := HZ.out.2.1; omega) (HZ.out.1.later (bel0 HA.out.2.2 hB4)) (fun W _ y hy => within_any M y W gM.out (HZ.out.2.2.2 y hy))
          have hmf : ∀ (fn : Fn) (first cap : Array Value) (w : World), (Instr.makeFunc fn first cap).run Tryz.prog w = .ok (.func fn first cap) w := fun _ _ _ _ => rfl
          clear hct hza hwa p0 p1 p2 p3 p4 p5 p6 p7 p8 hBa hBj hb3 hal4 hk4 hqa hB3
          cases qa with
          | true =>
            have HX : Hid (∀ i t, i < j + 1 → uL[i]? = some t → P t = true) := fun i v hi hv => by
              by_cases e : i = j
              · subst e
                rw [HT.out] at hv
                obtain rfl := Option.some.inj hv
                rw [HPt.out]; rfl
              · exact hok.out i v (by omega) hv
            go_wp2_with fail
            refine HCn.out.mono ?_
            rintro e W5 ⟨rfl, hb5⟩
            clear hz4 hm4 hW4
            go_wp2_with fail
            go_roundw
            case rel => exact ⟨j + 1, by go_num, by omega, HX, bel0 hB4 hb5⟩
            case measure => simp [intOf]; omega
          | false =>
            have HX : Hid (uL.all P = false) := all_fail HT.out (by rw [HPt.out]; rfl)
            go_wp2_with fail
            refine HCn.out.mono ?_
            rintro e W5 ⟨rfl, hb5⟩
            clear hz4 hm4 hW4
            go_wp2_with fail
            go_ret
            exact ⟨by rw [HCV.out, HX.out]; rfl, bel0 HA.out.2.2 (bel0 hB4 hb5)⟩
      · have j1 : ¬ (j : Int) < (uL.length : Int) := by omega
        have HX : Hid (uL.all P = true) := all_step hok.out (by omega)
        clear hok
        go_wp2_with fail
        go_ret
        exact ⟨by rw [HCV.out, HX.out]; rfl, bel0 HA.out.2.2 hBj⟩
end Go.Proofs.YtecgjlpmmailjaaGreatDoor
namespace Go.Proofs.YtecgjlpmmailjaaGreatDoor
open Go.RowKit
def termV (z : ZT) : Value := .agg #[.int .i64 (z.c.length : Int), .int .u64 (FW z.c 0 : Int), .int .u64 (FW z.c 1 : Int), .int .u64 (FW z.c 2 : Int), .int .u64 (FW z.c 3 : Int), .int .u64 (OW z.c 0 : Int), .int .u64 (OW z.c 1 : Int), .int .u64 (OW z.c 2 : Int), .int .u64 (OW z.c 3 : Int), .slice z.q z.L.length z.k]
/-- a term's ten cells lie at a place -/
def CZ (W : World) (g o : Nat) (z : ZT) : Prop := W.cell? ⟨g, o, none⟩ = some (.int .i64 (z.c.length : Int)) ∧ W.cell? ⟨g, o + 1, none⟩ = some (.int .u64 (FW z.c 0 : Int)) ∧ W.cell? ⟨g, o + 2, none⟩ = some (.int .u64 (FW z.c 1 : Int)) ∧ W.cell? ⟨g, o + 3, none⟩ = some (.int .u64 (FW z.c 2 : Int)) ∧ W.cell? ⟨g, o + 4, none⟩ = some (.int .u64 (FW z.c 3 : Int)) ∧ W.cell? ⟨g, o + 5, none⟩ = some (.int .u64 (OW z.c 0 : Int)) ∧ W.cell? ⟨g, o + 6, none⟩ = some (.int .u64 (OW z.c 1 : Int)) ∧ W.cell? ⟨g, o + 7, none⟩ = some (.int .u64 (OW z.c 2 : Int)) ∧ W.cell? ⟨g, o + 8, none⟩ = some (.int .u64 (OW z.c 3 : Int)) ∧ W.cell? ⟨g, o + 9, none⟩ = some (.slice z.q z.L.length z.k)
/-- a row of terms lies there -/
def IRZ (w : World) (p : Option Addr) (L : List ZT) : Prop := ∀ W : World, Below w.heap.size w W → ∀ k t, L[k]? = some t → ∃ g o0, p = some ⟨g, o0, none⟩ ∧ CZ W g (o0 + k * 10) t
theorem IRZ.later {w W : World} {p : Option Addr} {L : List ZT} (h : IRZ w p L) (hb : Below w.heap.size w W) : IRZ W p L := fun X hX k t ht => h X (bel0 hb hX) k t ht
def tes (l : List ZT) : List Value := l.flatMap ZT.cells
theorem tes_snoc (l : List ZT) (t : ZT) : tes (l ++ [t]) = tes l ++ t.cells := by simp [tes]
theorem tes_len (l : List ZT) : (tes l).length = l.length * 10 := by
  induction l with
  | nil => rfl
  | cons x l ih => simp only [tes, List.flatMap_cons, List.length_append, List.length_cons] at ih ⊢; rw [ih]; simp [ZT.cells]; omega
theorem tes_get (L : List ZT) (k m : Nat) (hm : m < 10) : (tes L)[k * 10 + m]? = (L[k]?).bind (fun t => t.cells[m]?) := by
  induction L generalizing k with
  | nil => simp [tes]
  | cons t l ih =>
    have hc : tes (t :: l) = t.cells ++ tes l := rfl
    have hl : t.cells.length = 10 := rfl
    cases k with
    | zero =>
      rw [hc, List.getElem?_append_left (by rw [hl]; omega), Nat.zero_mul, Nat.zero_add]
      rfl
    | succ k =>
      rw [hc, List.getElem?_append_right (by rw [hl]; omega), hl, show (k + 1) * 10 + m - 10 = k * 10 + m by omega, ih k]
      rfl
theorem tz_at {W : World} {B g cap k n : Nat} {L : List ZT} {z : ZT} (hown : W.ownsRow B 67 10 (.slice (some ⟨g, 0, none⟩) n cap) n (tes L)) (hz : L[k]? = some z) : CZ W g (k * 10) z := by
  have hg : ∀ m, m < 10 → W.cell? ⟨g, k * 10 + m, none⟩ = z.cells[m]? := fun m hm => by
    have hc := hown.cells (g := g) rfl (k * 10 + m)
    have h1 := tes_get L k m hm
    rw [hz] at h1
    have h2 : (tes L)[k * 10 + m]? = z.cells[m]? := h1
    have h3 : ∃ v, z.cells[m]? = some v := ⟨_, List.getElem?_eq_getElem (by show m < 10; exact hm)⟩
    obtain ⟨v, hv⟩ := h3
    rw [hv]
    have h4 := hc v (by rw [h2, hv])
    rw [add_plain, Nat.zero_add] at h4
    exact h4
  refine ⟨hg 0 (by omega), hg 1 (by omega), hg 2 (by omega), hg 3 (by omega), hg 4 (by omega), hg 5 (by omega), hg 6 (by omega), hg 7 (by omega), hg 8 (by omega), hg 9 (by omega)⟩
theorem IRZ_own {W : World} {B n c : Nat} {p : Option Addr} {L : List ZT} (h : W.ownsRow B 67 10 (.slice p n c) n (tes L)) (hn : L.length = n) : IRZ W p L := fun X hX k t ht => by
  obtain ⟨hk, he⟩ := List.getElem?_eq_some_iff.1 ht
  have h2 := own_belQ h hX
  rcases h2.2 with ⟨e, h0⟩ | ⟨g, cap, cur, e, _⟩
  · omega
  · injection e with e1 _ _
    subst e1
    refine ⟨g, 0, rfl, ?_⟩
    rw [Nat.zero_add]
    exact tz_at h2 ht
/-- the first place, from k on, at which p holds -/
def ixG {α : Type} (p : α → Bool) (k : Nat) : List α → Int
  | [] => -1
  | t :: r => if p t = true then (k : Int) else ixG p (k + 1) r
theorem ixG_step {α : Type} {p : α → Bool} {L : List α} {k : Nat} {t : α} (h : L[k]? = some t) : ixG p k (L.drop k) = if p t = true then (k : Int) else ixG p (k + 1) (L.drop (k + 1)) := by
  obtain ⟨hk, he⟩ := List.getElem?_eq_some_iff.1 h
  rw [List.drop_eq_getElem_cons hk, he]
  rfl
theorem ixG_any {α : Type} (p : α → Bool) : ∀ (L : List α) (k : Nat), decide ((0 : Int) ≤ ixG p k L) = L.any p
  | [], k => by simp [ixG]
  | t :: r, k => by
    unfold ixG
    cases h : p t with
    | true => simp [h]
    | false => rw [if_neg (by simp), ixG_any p r (k + 1)]; simp [h]
/-- where p holds first -/
theorem ixG_at {α : Type} (p : α → Bool) : ∀ (L : List α) (k : Nat), (ixG p k L = -1 ∧ ∀ t ∈ L, p t = false) ∨ ∃ A t R, L = A ++ t :: R ∧ (∀ x ∈ A, p x = false) ∧ p t = true ∧ ixG p k L = ((k + A.length : Nat) : Int)
  | [], k => .inl ⟨rfl, fun t h => by cases h⟩
  | t :: r, k => by
    unfold ixG
    cases h : p t with
    | true => exact .inr ⟨[], t, r, rfl, fun x hx => (by cases hx), h, by simp⟩
    | false =>
      rw [if_neg (by simp)]
      rcases ixG_at p r (k + 1) with ⟨e, ha⟩ | ⟨A, u, R, e1, e2, e3, e4⟩
      · refine .inl ⟨e, fun x hx => ?_⟩
        rcases List.mem_cons.1 hx with rfl | hx
        · exact h
        · exact ha x hx
      · refine .inr ⟨t :: A, u, R, by rw [e1]; rfl, fun x hx => ?_, e3, by rw [e4, List.length_cons]; congr 1; omega⟩
        rcases List.mem_cons.1 hx with rfl | hx
        · exact h
        · exact e2 x hx
def WZ (W : World) (bw bx : Nat) (x : ZT) : Prop := W.heap[bw]? = some (.cells #[.func (.func 50) #[] #[]] 107 (0, 0)) ∧ W.heap[bx]? = some (.cells #[.int .i64 (x.c.length : Int), .int .u64 (FW x.c 0 : Int), .int .u64 (FW x.c 1 : Int), .int .u64 (FW x.c 2 : Int), .int .u64 (FW x.c 3 : Int), .int .u64 (OW x.c 0 : Int), .int .u64 (OW x.c 1 : Int), .int .u64 (OW x.c 2 : Int), .int .u64 (OW x.c 3 : Int), .slice x.q x.L.length x.k] 67 (0, 0))
theorem WZ.below {W X : World} {bw bx : Nat} {x : ZT} (h : WZ W bw bx x) (hb : Below W.heap.size W X) : WZ X bw bx x := ⟨keepblk3 hb h.1, keepblk3 hb h.2⟩
set_option maxRecDepth 100000 in
set_option maxHeartbeats 1000000 in
theorem greatt1_any (x y : ZT) (bw bx : Nat) (w : World) (gx : ZOK w x) (gy : ZOK w y) (h : WZ w bw bx x) : Calls Tryz.prog 69 #[termV y, .pointer (some ⟨bw, 0, none⟩), .pointer (some ⟨bx, 0, none⟩)] w fun e w' => e = .returned (.bool (cvB x y)) ∧ Below w.heap.size w w' := by
  obtain ⟨hw, hx⟩ := h
  obtain ⟨V, hV⟩ : ∃ V : World, w.alloc (.cells #[.int .i64 (y.c.length : Int), .int .u64 (FW y.c 0 : Int), .int .u64 (FW y.c 1 : Int), .int .u64 (FW y.c 2 : Int), .int .u64 (FW y.c 3 : Int), .int .u64 (OW y.c 0 : Int), .int .u64 (OW y.c 1 : Int), .int .u64 (OW y.c 2 : Int), .int .u64 (OW y.c 3 : Int), .slice y.q y.L.length y.k] 67 (0, 0)) = V := ⟨_, rfl⟩
  have vB : Below w.heap.size w V := by rw [← hV]; exact belA (Below.refl _ _) _
  have w0 := (cells_block (keepblk3 vB hw)).1
  have x0 := (cells_block (keepblk3 vB hx)).1
  have y0 := (cells_block (show V.heap[w.heap.size]? = some (.cells #[.int .i64 (y.c.length : Int), .int .u64 (FW y.c 0 : Int), .int .u64 (FW y.c 1 : Int), .int .u64 (FW y.c 2 : Int), .int .u64 (FW y.c 3 : Int), .int .u64 (OW y.c 0 : Int), .int .u64 (OW y.c 1 : Int), .int .u64 (OW y.c 2 : Int), .int .u64 (OW y.c 3 : Int), .slice y.q y.L.length y.k] 67 (0, 0)) by rw [← hV]; exact alloc_get _ _)).1
  have HC : Hid (Calls Tryz.prog 50 #[.agg #[.int .i64 (x.c.length : Int), .int .u64 (FW x.c 0 : Int), .int .u64 (FW x.c 1 : Int), .int .u64 (FW x.c 2 : Int), .int .u64 (FW x.c 3 : Int), .int .u64 (OW x.c 0 : Int), .int .u64 (OW x.c 1 : Int), .int .u64 (OW x.c 2 : Int), .int .u64 (OW x.c 3 : Int), .slice x.q x.L.length x.k], .agg #[.int .i64 (y.c.length : Int), .int .u64 (FW y.c 0 : Int), .int .u64 (FW y.c 1 : Int), .int .u64 (FW y.c 2 : Int), .int .u64 (FW y.c 3 : Int), .int .u64 (OW y.c 0 : Int), .int .u64 (OW y.c 1 : Int), .int .u64 (OW y.c 2 : Int), .int .u64 (OW y.c 3 : Int), .slice y.q y.L.length y.k]] V fun e w' => e = .returned (.bool (cvB x y)) ∧ Below V.heap.size V w') := covered_any x y V (gx.later (KC_below vB)) (gy.later (KC_below vB))
  clear hw hx gx gy
  unfold termV
  go_enter Tryz.func69, Tryz.ntmps69
  go_wp2_with fail
  refine HC.out.mono ?_
  rintro e W1 ⟨rfl, hb1⟩
  go_wp2_with fail
  go_ret
  exact ⟨rfl, bel0 vB hb1⟩
set_option maxRecDepth 100000 in
set_option maxHeartbeats 1000000 in
theorem greatt2_any (x y : ZT) (bw bx : Nat) (w : World) (gx : ZOK w x) (gy : ZOK w y) (h : WZ w bw bx x) : Calls Tryz.prog 71 #[termV y, .pointer (some ⟨bw, 0, none⟩), .pointer (some ⟨bx, 0, none⟩)] w fun e w' => e = .returned (.bool (cvB y x)) ∧ Below w.heap.size w w' := by
  obtain ⟨hw, hx⟩ := h
  obtain ⟨V, hV⟩ : ∃ V : World, w.alloc (.cells #[.int .i64 (y.c.length : Int), .int .u64 (FW y.c 0 : Int), .int .u64 (FW y.c 1 : Int), .int .u64 (FW y.c 2 : Int), .int .u64 (FW y.c 3 : Int), .int .u64 (OW y.c 0 : Int), .int .u64 (OW y.c 1 : Int), .int .u64 (OW y.c 2 : Int), .int .u64 (OW y.c 3 : Int), .slice y.q y.L.length y.k] 67 (0, 0)) = V := ⟨_, rfl⟩
  have vB : Below w.heap.size w V := by rw [← hV]; exact belA (Below.refl _ _) _
  have w0 := (cells_block (keepblk3 vB hw)).1
  have x0 := (cells_block (keepblk3 vB hx)).1
  have y0 := (cells_block (show V.heap[w.heap.size]? = some (.cells #[.int .i64 (y.c.length : Int), .int .u64 (FW y.c 0 : Int), .int .u64 (FW y.c 1 : Int), .int .u64 (FW y.c 2 : Int), .int .u64 (FW y.c 3 : Int), .int .u64 (OW y.c 0 : Int), .int .u64 (OW y.c 1 : Int), .int .u64 (OW y.c 2 : Int), .int .u64 (OW y.c 3 : Int), .slice y.q y.L.length y.k] 67 (0, 0)) by rw [← hV]; exact alloc_get _ _)).1
  have HC : Hid (Calls Tryz.prog 50 #[.agg #[.int .i64 (y.c.length : Int), .int .u64 (FW y.c 0 : Int), .int .u64 (FW y.c 1 : Int), .int .u64 (FW y.c 2 : Int), .int .u64 (FW y.c 3 : Int), .int .u64 (OW y.c 0 : Int), .int .u64 (OW y.c 1 : Int), .int .u64 (OW y.c 2 : Int), .int .u64 (OW y.c 3 : Int), .slice y.q y.L.length y.k], .agg #[.int .i64 (x.c.length : Int), .int .u64 (FW x.c 0 : Int), .int .u64 (FW x.c 1 : Int), .int .u64 (FW x.c 2 : Int), .int .u64 (FW x.c 3 : Int), .int .u64 (OW x.c 0 : Int), .int .u64 (OW x.c 1 : Int), .int .u64 (OW x.c 2 : Int), .int .u64 (OW x.c 3 : Int), .slice x.q x.L.length x.k]] V fun e w' => e = .returned (.bool (cvB y x)) ∧ Below V.heap.size V w') := covered_any y x V (gy.later (KC_below vB)) (gx.later (KC_below vB))
  clear hw hx gx gy
  unfold termV
  go_enter Tryz.func71, Tryz.ntmps71
  go_wp2_with fail
  refine HC.out.mono ?_
  rintro e W1 ⟨rfl, hb1⟩
  go_wp2_with fail
  go_ret
  exact ⟨rfl, bel0 vB hb1⟩
set_option maxRecDepth 100000 in
set_option maxHeartbeats 2000000 in
theorem idxt1_any (L : List ZT) (n : Nat) (o : Option Addr) (c : Nat) (b1 b2 : Nat) (p : ZT → Bool) (w : World) (hn : L.length = n) (hL : n ≤ 281474976710656) (hr : IRZ w o L) (hp : ∀ W, Below w.heap.size w W → ∀ t ∈ L, Calls Tryz.prog 69 #[termV t, .pointer (some ⟨b1, 0, none⟩), .pointer (some ⟨b2, 0, none⟩)] W fun e w' => e = .returned (.bool (p t)) ∧ Below W.heap.size W w') :
    Calls Tryz.prog 89 #[.slice o n c, .func (.func 69) #[] #[.pointer (some ⟨b1, 0, none⟩), .pointer (some ⟨b2, 0, none⟩)]] w fun e w' => e = .returned (.int .i64 (ixG p 0 L)) ∧ Below w.heap.size w w' := by
  have HR : Hid (IRZ w o L) := hr
  have HPP : Hid (∀ W, Below w.heap.size w W → ∀ t ∈ L, Calls Tryz.prog 69 #[termV t, .pointer (some ⟨b1, 0, none⟩), .pointer (some ⟨b2, 0, none⟩)] W fun e w' => e = .returned (.bool (p t)) ∧ Below W.heap.size W w') := hp
  have HN : Hid (L.length = n) := hn
  obtain ⟨q, hq⟩ : ∃ q, ixG p 0 L = q := ⟨_, rfl⟩
  rw [hq]
  have HQ : Hid (ixG p 0 (L.drop 0) = q) := hq
  clear hr hp hq hn
  go_enter Tryz.func89, Tryz.ntmps89
  go_wp2_with fail
  go_loopw [8] (fun vk wr => ∃ k : Nat, vk = .int .i64 k ∧ k ≤ n ∧ Hid (ixG p k (L.drop k) = q) ∧ Below w.heap.size w wr) (fun vk _ => n - (intOf vk).toNat)
  case atStart => exact ⟨0, rfl, Nat.zero_le _, HQ, Below.refl _ _⟩
  case round =>
    clear HQ
    obtain ⟨k, rfl, hk, hidx, hB⟩ := hrel
    by_cases hlt : k < n
    · have j1 : (k : Int) < (n : Int) := by omega
      have j0 : (0 : Int) ≤ (k : Int) := by omega
      obtain ⟨t, ht⟩ : ∃ t, L[k]? = some t := ⟨_, List.getElem?_eq_getElem (by rw [HN.out]; exact hlt)⟩
      obtain ⟨g, o0, rfl, p0, p1, p2, p3, p4, p5, p6, p7, p8, p9⟩ := HR.out wr hB k t ht
      have hx2 := hidx.out
      rw [ixG_step ht] at hx2
      have H1 := HPP.out wr hB t (List.mem_of_getElem? ht)
      have HH : Hid (Calls Tryz.prog 69 #[termV t, .pointer (some ⟨b1, 0, none⟩), .pointer (some ⟨b2, 0, none⟩)] wr fun e w' => e = .returned (.bool (p t)) ∧ Below wr.heap.size wr w') := H1
      clear ht hidx H1
      cases hy : p t with
      | true =>
        rw [hy, if_pos rfl] at hx2
        have HX2 : Hid ((k : Int) = q) := hx2
        have HY : Hid (p t = true) := hy
        clear hx2 hy
        go_wp2_with fail
        refine HH.out.mono ?_
        rintro e W1 ⟨rfl, hb1⟩
        rw [HY.out]
        go_wp2_with fail
        go_ret
        exact ⟨by rw [← HX2.out]; rfl, bel0 hB hb1⟩
      | false =>
        rw [hy, if_neg (by simp)] at hx2
        have HX : Hid (ixG p (k + 1) (L.drop (k + 1)) = q) := hx2
        have HY : Hid (p t = false) := hy
        clear hx2 hy
        go_wp2_with fail
        refine HH.out.mono ?_
        rintro e W1 ⟨rfl, hb1⟩
        rw [HY.out]
        go_wp2_with fail
        go_roundw
        case rel => exact ⟨k + 1, by go_num, by omega, HX, bel0 hB hb1⟩
        case measure => simp [intOf]; omega
    · have j1 : ¬ (k : Int) < (n : Int) := by omega
      have HX2 : Hid (-1 = q) := by
        unfold Hid
        rw [← hidx.out, List.drop_eq_nil_of_le (by rw [HN.out]; omega)]
        rfl
      clear hidx
      go_wp2_with fail
      go_ret
      exact ⟨by rw [← HX2.out]; rfl, hB⟩
set_option maxRecDepth 100000 in
set_option maxHeartbeats 2000000 in
theorem idxt2_any (L : List ZT) (n : Nat) (o : Option Addr) (c : Nat) (b1 b2 : Nat) (p : ZT → Bool) (w : World) (hn : L.length = n) (hL : n ≤ 281474976710656) (hr : IRZ w o L) (hp : ∀ W, Below w.heap.size w W → ∀ t ∈ L, Calls Tryz.prog 71 #[termV t, .pointer (some ⟨b1, 0, none⟩), .pointer (some ⟨b2, 0, none⟩)] W fun e w' => e = .returned (.bool (p t)) ∧ Below W.heap.size W w') :
    Calls Tryz.prog 89 #[.slice o n c, .func (.func 71) #[] #[.pointer (some ⟨b1, 0, none⟩), .pointer (some ⟨b2, 0, none⟩)]] w fun e w' => e = .returned (.int .i64 (ixG p 0 L)) ∧ Below w.heap.size w w' := by
  have HR : Hid (IRZ w o L) := hr
  have HPP : Hid (∀ W, Below w.heap.size w W → ∀ t ∈ L, Calls Tryz.prog 71 #[termV t, .pointer (some ⟨b1, 0, none⟩), .pointer (some ⟨b2, 0, none⟩)] W fun e w' => e = .returned (.bool (p t)) ∧ Below W.heap.size W w') := hp
  have HN : Hid (L.length = n) := hn
  obtain ⟨q, hq⟩ : ∃ q, ixG p 0 L = q := ⟨_, rfl⟩
  rw [hq]
  have HQ : Hid (ixG p 0 (L.drop 0) = q) := hq
  clear hr hp hq hn
  go_enter Tryz.func89, Tryz.ntmps89
  go_wp2_with fail
  go_loopw [8] (fun vk wr => ∃ k : Nat, vk = .int .i64 k ∧ k ≤ n ∧ Hid (ixG p k (L.drop k) = q) ∧ Below w.heap.size w wr) (fun vk _ => n - (intOf vk).toNat)
  case atStart => exact ⟨0, rfl, Nat.zero_le _, HQ, Below.refl _ _⟩
  case round =>
    clear HQ
    obtain ⟨k, rfl, hk, hidx, hB⟩ := hrel
    by_cases hlt : k < n
    · have j1 : (k : Int) < (n : Int) := by omega
      have j0 : (0 : Int) ≤ (k : Int) := by omega
      obtain ⟨t, ht⟩ : ∃ t, L[k]? = some t := ⟨_, List.getElem?_eq_getElem (by rw [HN.out]; exact hlt)⟩
      obtain ⟨g, o0, rfl, p0, p1, p2, p3, p4, p5, p6, p7, p8, p9⟩ := HR.out wr hB k t ht
      have hx2 := hidx.out
      rw [ixG_step ht] at hx2
      have H1 := HPP.out wr hB t (List.mem_of_getElem? ht)
      have HH : Hid (Calls Tryz.prog 71 #[termV t, .pointer (some ⟨b1, 0, none⟩), .pointer (some ⟨b2, 0, none⟩)] wr fun e w' => e = .returned (.bool (p t)) ∧ Below wr.heap.size wr w') := H1
      clear ht hidx H1
      cases hy : p t with
      | true =>
        rw [hy, if_pos rfl] at hx2
        have HX2 : Hid ((k : Int) = q) := hx2
        have HY : Hid (p t = true) := hy
        clear hx2 hy
        go_wp2_with fail
        refine HH.out.mono ?_
        rintro e W1 ⟨rfl, hb1⟩
        rw [HY.out]
        go_wp2_with fail
        go_ret
        exact ⟨by rw [← HX2.out]; rfl, bel0 hB hb1⟩
      | false =>
        rw [hy, if_neg (by simp)] at hx2
        have HX : Hid (ixG p (k + 1) (L.drop (k + 1)) = q) := hx2
        have HY : Hid (p t = false) := hy
        clear hx2 hy
        go_wp2_with fail
        refine HH.out.mono ?_
        rintro e W1 ⟨rfl, hb1⟩
        rw [HY.out]
        go_wp2_with fail
        go_roundw
        case rel => exact ⟨k + 1, by go_num, by omega, HX, bel0 hB hb1⟩
        case measure => simp [intOf]; omega
    · have j1 : ¬ (k : Int) < (n : Int) := by omega
      have HX2 : Hid (-1 = q) := by
        unfold Hid
        rw [← hidx.out, List.drop_eq_nil_of_le (by rw [HN.out]; omega)]
        rfl
      clear hidx
      go_wp2_with fail
      go_ret
      exact ⟨by rw [← HX2.out]; rfl, hB⟩
set_option maxRecDepth 100000 in
set_option maxHeartbeats 1000000 in
theorem contt_any (L : List ZT) (n : Nat) (o : Option Addr) (c : Nat) (b1 b2 : Nat) (p : ZT → Bool) (w : World) (hn : L.length = n) (hL : n ≤ 281474976710656) (hr : IRZ w o L) (hp : ∀ W, Below w.heap.size w W → ∀ t ∈ L, Calls Tryz.prog 69 #[termV t, .pointer (some ⟨b1, 0, none⟩), .pointer (some ⟨b2, 0, none⟩)] W fun e w' => e = .returned (.bool (p t)) ∧ Below W.heap.size W w') :
    Calls Tryz.prog 68 #[.slice o n c, .func (.func 69) #[] #[.pointer (some ⟨b1, 0, none⟩), .pointer (some ⟨b2, 0, none⟩)]] w fun e w' => e = .returned (.bool (L.any p)) ∧ Below w.heap.size w w' := by
  have H1 := idxt1_any L n o c b1 b2 p w hn hL hr hp
  obtain ⟨b, hb⟩ : ∃ b, L.any p = b := ⟨_, rfl⟩
  obtain ⟨i, hi⟩ : ∃ i, ixG p 0 L = i := ⟨_, rfl⟩
  have HD : Hid (decide ((0 : Int) ≤ i) = b) := by
    unfold Hid
    rw [← hb, ← hi, ixG_any]
  rw [hi] at H1
  rw [hb]
  clear hr hp hb hi hn
  go_enter Tryz.func68, Tryz.ntmps68
  go_wp2_with fail
  refine H1.mono ?_
  rintro e W1 ⟨rfl, hb1⟩
  go_wp2_with fail
  go_ret
  exact ⟨by rw [← HD.out]; rfl, hb1⟩
end Go.Proofs.YtecgjlpmmailjaaGreatDoor

import Derived.Test.YtkmnonkabekclaaDoorSB
namespace Go.Proofs.YtkmnonkabekclaaDoor
open Go.RowKit
set_option maxRecDepth 100000 in
set_option maxHeartbeats 2000000 in
theorem lists_any (L : List (List UInt8)) (p1 p2 : Option Addr) (c1 c2 n : Nat) (w : World) (hn : L.length = n) (hL : n ≤ 281474976710656) (h1 : TR w p1 L) (h2 : TR w p2 L) :
    Calls Tryd.prog 23 #[.slice p1 n c1, .slice p2 n c2] w fun e w' => e = .returned (.bool true) ∧ Below w.heap.size w w' := by
  have H1 : Hid (TR w p1 L) := h1
  have H2 : Hid (TR w p2 L) := h2
  have HN : Hid (L.length = n) := hn
  clear h1 h2 hn
  go_enter Tryd.func23, Tryd.ntmps23
  go_wp2_with fail
  go_loopw [5] (fun vi wr => ∃ i : Nat, vi = .int .i64 i ∧ i ≤ n ∧ Below w.heap.size w wr) (fun vi _ => n - (intOf vi).toNat)
  case atStart => exact ⟨0, rfl, Nat.zero_le _, Below.refl _ _⟩
  case round =>
    obtain ⟨i, rfl, hi, hB⟩ := hrel
    by_cases hlt : i < n
    · have j1 : (i : Int) < (n : Int) := by omega
      have j0 : (0 : Int) ≤ (i : Int) := by omega
      obtain ⟨r, hri⟩ : ∃ r, L[i]? = some r := ⟨_, List.getElem?_eq_getElem (by rw [HN.out]; omega)⟩
      obtain ⟨g, o0, rfl, x0⟩ := (H1.out.below hB) i r hri
      obtain ⟨k, q0, rfl, y0⟩ := (H2.out.below hB) i r hri
      clear hri
      go_wp2_with fail
      go_quiet (fail)
      go_wp2_with fail
      exact ⟨⟨i + 1, rfl, by omega, bel_drewZ nq hB⟩, by simp only [intOf]; omega⟩
    · go_wp2_with fail
      go_ret
      exact ⟨rfl, hB⟩
def eS : Value := .string ⟨#[]⟩
def mk3 (i k : Nat) : List Value := [.int .i64 ((100 * i : Nat) : Int), .int .i64 (k : Int), eS]
def mkR (i k : Nat) : List Value := (List.range k).flatMap (mk3 i)
theorem mkR_succ (i k : Nat) : mkR i (k + 1) = mkR i k ++ mk3 i k := by simp [mkR, List.range_succ]
theorem mkR_len (i k : Nat) : (mkR i k).length = k * 3 := by
  induction k with
  | zero => rfl
  | succ k ih => rw [mkR_succ, List.length_append, ih, show (mk3 i k).length = 3 from rfl]; omega
theorem mkR_at (i : Nat) : ∀ (n k m : Nat), k < n → m < 3 → (mkR i n)[k * 3 + m]? = (mk3 i k)[m]?
  | n + 1, k, m, hk, hm => by
    rw [mkR_succ]
    by_cases h : k < n
    · rw [List.getElem?_append_left (by rw [mkR_len]; omega)]
      exact mkR_at i n k m h hm
    · obtain rfl : k = n := by omega
      rw [List.getElem?_append_right (by rw [mkR_len]; omega), mkR_len, show k * 3 + m - k * 3 = m by omega]
def aS (i : Nat) : Value := .string (Utf8.encode ((97 + i : Nat) : Int))
def bS (i : Nat) : Value := .string (Utf8.encode ((65 + i : Nat) : Int))
def g3 (i : Nat) : List Value := [.int .i64 (-1 - (i : Int)), .int .i64 0, eS]
def gkR (i m : Nat) : List Value := (List.replicate m (g3 i)).flatten
theorem gkR_succ (i m : Nat) : gkR i (m + 1) = gkR i m ++ g3 i := by simp [gkR, List.replicate_succ']
theorem gkR_len (i m : Nat) : (gkR i m).length = m * 3 := by
  induction m with
  | zero => rfl
  | succ m ih => rw [gkR_succ, List.length_append, ih, show (g3 i).length = 3 from rfl]; omega
theorem gkR_at (i : Nat) : ∀ (n k m : Nat), k < n → m < 3 → (gkR i n)[k * 3 + m]? = (g3 i)[m]?
  | n + 1, k, m, hk, hm => by
    rw [gkR_succ]
    by_cases h : k < n
    · rw [List.getElem?_append_left (by rw [gkR_len]; omega)]
      exact gkR_at i n k m h hm
    · obtain rfl : k = n := by omega
      rw [List.getElem?_append_right (by rw [gkR_len]; omega), gkR_len, show k * 3 + m - k * 3 = m by omega]
def gkS (i m : Nat) : List Value := List.replicate m (bS i)
def mkS (n i : Nat) : List Value := List.replicate n (aS i)
def mkRn (n i : Nat) : List Value := mkR i n
def CR (X : List Value) (n i k j : Nat) : List Value := if j < i then mkR j n else if j = i then mkR i k ++ X.drop (k * 3) else X
def CT (X : List Value) (n i k j : Nat) : List Value := if j < i then List.replicate n (aS j) else if j = i then List.replicate k (aS i) ++ X.drop k else X
theorem CR_start (X : List Value) (n j : Nat) : X = CR X n 0 0 j := by
  unfold CR
  rw [if_neg (by omega)]
  split
  · simp [mkR]
  · rfl
theorem CT_start (X : List Value) (n j : Nat) : X = CT X n 0 0 j := by
  unfold CT
  rw [if_neg (by omega)]
  split
  · simp
  · rfl
theorem CR_next {X : List Value} {n : Nat} (hX : X.length = n * 3) (i j : Nat) : CR X n i n j = CR X n (i + 1) 0 j := by
  unfold CR
  by_cases h1 : j < i
  · rw [if_pos h1, if_pos (by omega)]
  · by_cases h2 : j = i
    · subst h2
      rw [if_neg h1, if_pos rfl, if_pos (by omega), List.drop_of_length_le (by omega), List.append_nil]
    · rw [if_neg h1, if_neg h2, if_neg (by omega)]
      split
      · simp [mkR]
      · rfl
theorem CT_next {X : List Value} {n : Nat} (hX : X.length = n * 1) (i j : Nat) : CT X n i n j = CT X n (i + 1) 0 j := by
  unfold CT
  by_cases h1 : j < i
  · rw [if_pos h1, if_pos (by omega)]
  · by_cases h2 : j = i
    · subst h2
      rw [if_neg h1, if_pos rfl, if_pos (by omega), List.drop_of_length_le (by omega), List.append_nil]
    · rw [if_neg h1, if_neg h2, if_neg (by omega)]
      split
      · simp
      · rfl
theorem set_midL (xs : List Value) (a : Value) (k : Nat) (hk : k < xs.length) : (List.replicate k a ++ xs.drop k).set k a = List.replicate (k + 1) a ++ xs.drop (k + 1) := by
  rw [List.set_append_right _ _ (by simp), List.length_replicate, Nat.sub_self, List.drop_eq_getElem_cons hk, List.set_cons_zero, List.replicate_succ', List.append_assoc]
  rfl
theorem set3 (A xs : List Value) (a b c : Value) (k : Nat) (hA : A.length = k * 3) (hk : k * 3 + 3 ≤ xs.length) : (((A ++ xs.drop (k * 3)).set (k * 3) a).set (k * 3 + 1) b).set (k * 3 + 2) c = (A ++ [a, b, c]) ++ xs.drop ((k + 1) * 3) := by
  rw [List.set_append_right _ _ (by omega), List.set_append_right _ _ (by omega), List.set_append_right _ _ (by omega), hA, Nat.sub_self, show k * 3 + 1 - k * 3 = 1 by omega, show k * 3 + 2 - k * 3 = 2 by omega,
    List.drop_eq_getElem_cons (i := k * 3) (by omega), List.drop_eq_getElem_cons (i := k * 3 + 1) (by omega), List.drop_eq_getElem_cons (i := k * 3 + 1 + 1) (by omega), show k * 3 + 1 + 1 + 1 = (k + 1) * 3 by omega]
  simp
variable {f : Nat × Nat → Reg} {va vr : Value} {n : Nat} {X : List Value} {K : List (Option Addr × Nat)} {W : World} {B : Nat}
theorem HC.storeR {TE : TypeId} {i k g : Nat} {e : Option Addr × Nat} (hs : SEP W B f) (h : HC f 0 35 TE 3 va vr n X K (CR X n i k)) (hX : X.length = n * 3) (he : K[i]? = some e) (hk : k < n) (hp : e.1 = some ⟨g, 0, none⟩) :
    ∃ f', SEP (((W.setCell ⟨g, k * 3, none⟩ (.int .i64 ((100 * i : Nat) : Int))).setCell ⟨g, k * 3 + 1, none⟩ (.int .i64 (k : Int))).setCell ⟨g, k * 3 + 2, none⟩ eS) B f' ∧ HC f' 0 35 TE 3 va vr n X K (CR X n i (k + 1)) ∧ (∀ key, ¬ keyZ 0 key → f' key = f key) ∧ B ≤ g := by
  have hv : f (1 + 0, i) = ⟨35, 3, .slice (some ⟨g, 0, none⟩) n e.2, n, CR X n i k i⟩ := by
    have := h.v i e he
    unfold vv at this
    rw [hp] at this
    exact this
  obtain ⟨s1, hg⟩ := hs.store (1 + 0, i) hv (k * 3) (.int .i64 ((100 * i : Nat) : Int))
  obtain ⟨s2, -⟩ := s1.store (1 + 0, i) (updS_self _ _ _) (k * 3 + 1) (.int .i64 (k : Int))
  obtain ⟨s3, -⟩ := s2.store (1 + 0, i) (updS_self _ _ _) (k * 3 + 2) eS
  have ev : vv n e = .slice (some ⟨g, 0, none⟩) n e.2 := by unfold vv; rw [hp]
  have c1 := h.set he ((CR X n i k i).set (k * 3) (.int .i64 ((100 * i : Nat) : Int)))
  have c2 := c1.set he (((CR X n i k i).set (k * 3) (.int .i64 ((100 * i : Nat) : Int))).set (k * 3 + 1) (.int .i64 (k : Int)))
  have c3 := c2.set he ((((CR X n i k i).set (k * 3) (.int .i64 ((100 * i : Nat) : Int))).set (k * 3 + 1) (.int .i64 (k : Int))).set (k * 3 + 2) eS)
  rw [ev] at c3
  refine ⟨_, s3, c3.congr (fun j _ => ?_), fun key hkey => ?_, hg⟩
  · by_cases hj : j = i
    · subst hj
      rw [if_pos rfl]
      unfold CR
      rw [if_neg (by omega), if_pos rfl, if_neg (by omega), if_pos rfl, set3 _ _ _ _ _ _ (mkR_len _ _) (by omega), mkR_succ]
      rfl
    · rw [if_neg hj, if_neg hj, if_neg hj]
      unfold CR
      rw [if_neg hj, if_neg hj]
  · rw [updS_keep hkey, updS_keep hkey, updS_keep hkey]
theorem HC.storeS {TE : TypeId} {i k g : Nat} {e : Option Addr × Nat} (hs : SEP W B f) (h : HC f 1 9 TE 1 va vr n X K (CT X n i k)) (hX : X.length = n * 1) (he : K[i]? = some e) (hk : k < n) (hp : e.1 = some ⟨g, 0, none⟩) :
    ∃ f', SEP (W.setCell ⟨g, k, none⟩ (aS i)) B f' ∧ HC f' 1 9 TE 1 va vr n X K (CT X n i (k + 1)) ∧ (∀ key, ¬ keyZ 1 key → f' key = f key) ∧ B ≤ g := by
  have hv : f (1 + 1, i) = ⟨9, 1, .slice (some ⟨g, 0, none⟩) n e.2, n, CT X n i k i⟩ := by
    have := h.v i e he
    unfold vv at this
    rw [hp] at this
    exact this
  obtain ⟨s1, hg⟩ := hs.store (1 + 1, i) hv k (aS i)
  have ev : vv n e = .slice (some ⟨g, 0, none⟩) n e.2 := by unfold vv; rw [hp]
  have c1 := h.set he ((CT X n i k i).set k (aS i))
  rw [ev] at c1
  refine ⟨_, s1, c1.congr (fun j _ => ?_), fun key hkey => updS_keep hkey, hg⟩
  by_cases hj : j = i
  · subst hj
    rw [if_pos rfl]
    unfold CT
    rw [if_neg (by omega), if_pos rfl, if_neg (by omega), if_pos rfl, set_midL _ _ _ (by omega)]
  · rw [if_neg hj]
    unfold CT
    rw [if_neg hj, if_neg hj]
theorem row_someL {T s n c m : Nat} {p : Option Addr} {xs : List Value} {k : Nat × Nat} (hs : SEP W B f) (hk : f k = ⟨T, s, .slice p n c, m, xs⟩) (hm : m ≠ 0) : ∃ g, p = some ⟨g, 0, none⟩ := by
  have o := hs.own k
  rw [hk] at o
  exact own_someZ o hm
theorem row_atL {T s n c m g : Nat} {xs : List Value} {k : Nat × Nat} (hs : SEP W B f) (hk : f k = ⟨T, s, .slice (some ⟨g, 0, none⟩) n c, m, xs⟩) {j : Nat} {u : Value} (hu : xs[j]? = some u) : W.cell? ⟨g, j, none⟩ = some u := by
  have o := hs.own k
  rw [hk] at o
  exact own_atZ o hu
/-- a list while it is marked -/
theorem HC.at {z T TE s i ln ca : Nat} {c : Nat → List Value} {pa : Option Addr} {e : Option Addr × Nat} (hs : SEP W B f) (h : HC f z T TE s (.slice pa ln ca) vr n X K c) (he : K[i]? = some e) :
    ∃ ga, pa = some ⟨ga, 0, none⟩ ∧ W.cell? ⟨ga, i, none⟩ = some (vv n e) ∧ (0 < n → ∃ g, e.1 = some ⟨g, 0, none⟩ ∧ (∀ m, W.frozen? ⟨g, m, none⟩ = false) ∧ ∀ m, m < n * s → ∃ u, W.cell? ⟨g, m, none⟩ = some u) := by
  have hl : K.length ≠ 0 := by have := (List.getElem?_eq_some_iff.1 he).1; omega
  obtain ⟨ga, rfl⟩ := row_someL hs h.a hl
  refine ⟨ga, rfl, row_atL hs h.a (by rw [List.getElem?_map, he]; rfl), fun h0 => ?_⟩
  have hv := h.v i e he
  unfold vv at hv
  obtain ⟨g, hg⟩ := row_someL hs hv (by omega)
  rw [hg] at hv
  have o := hs.own (1 + z, i)
  rw [hv] at o
  have hlen : (c i).length = n * s := o.1
  exact ⟨g, hg, fun m => World.ownsRow.frozenAt o m, fun m hm => ⟨_, row_atL hs hv (List.getElem?_eq_getElem (i := m) (by omega))⟩⟩
theorem HD.at {z T TE s i ln ca : Nat} {mk : Nat → List Value} {gk : Nat → Nat → List Value} {Gs : List Value} {vm : Value} {pa : Option Addr} {e : Option Addr × Nat} (hs : SEP W B f) (h : HD f z T TE s (.slice pa ln ca) vr vm n X K mk gk Gs) (he : K[i]? = some e) :
    ∃ ga, pa = some ⟨ga, 0, none⟩ ∧ W.cell? ⟨ga, i, none⟩ = some (vv n e) := by
  have hl : K.length ≠ 0 := by have := (List.getElem?_eq_some_iff.1 he).1; omega
  obtain ⟨ga, rfl⟩ := row_someL hs h.a hl
  exact ⟨ga, rfl, row_atL hs h.a (by rw [List.getElem?_map, he]; rfl)⟩
/-- all is read in the end -/
theorem HD.fin {z T TE s i ln lm ca cm : Nat} {mk : Nat → List Value} {gk : Nat → Nat → List Value} {Gs : List Value} {pa pm : Option Addr} {e : Option Addr × Nat} (hs : SEP W B f) (h : HD f z T TE s (.slice pa ln ca) vr (.slice pm lm cm) n X K mk gk Gs) (hG : Gs.length = K.length) (he : K[i]? = some e) (hmk : (mk i).length = n * s) :
    ∃ ga gm gg cg, pa = some ⟨ga, 0, none⟩ ∧ pm = some ⟨gm, 0, none⟩ ∧ ∀ U, Below W.heap.size W U → (U.cell? ⟨ga, i, none⟩ = some (vv n e) ∧ U.cell? ⟨gm, i, none⟩ = some (.slice (some ⟨gg, 0, none⟩) (n + 64) cg) ∧ U.ownsRow B T s (vv n e) n (mk i) ∧ U.ownsRow B T s (.slice (some ⟨gg, 0, none⟩) (n + 64) cg) (n + 64) (mk i ++ gk i 64)) := by
  have hi := (List.getElem?_eq_some_iff.1 he).1
  obtain ⟨ga, rfl⟩ := row_someL hs h.a (by omega)
  obtain ⟨gm, rfl⟩ := row_someL hs h.m (by omega)
  obtain ⟨G, hGi⟩ : ∃ G, Gs[i]? = some G := ⟨_, List.getElem?_eq_getElem (by omega)⟩
  obtain ⟨o1, o2⟩ := GST.own hs (h.lo i e G he hGi) hmk
  obtain ⟨pg, cg, rfl⟩ := shapeZ o2
  obtain ⟨gg, rfl⟩ := own_someZ o2 (by omega)
  refine ⟨ga, gm, gg, cg, rfl, rfl, fun U hU => ?_⟩
  have hsU := hs.below hU
  exact ⟨row_atL hsU h.a (by rw [List.getElem?_map, he]; rfl), row_atL hsU h.m hGi, own_belZ o1 hU, own_belZ o2 hU⟩
end Go.Proofs.YtkmnonkabekclaaDoor

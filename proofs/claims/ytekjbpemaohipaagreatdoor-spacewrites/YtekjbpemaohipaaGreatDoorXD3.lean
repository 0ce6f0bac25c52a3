import Derived.Test.YtekjbpemaohipaaGreatDoorXD1
import Derived.Test.YtekjbpemaohipaaGreatDoorXBB
import Derived.Test.YtekjbpemaohipaaGreatDoorXBC
import Derived.Test.YtekjbpemaohipaaGreatDoorXBH
import Derived.Test.YtekjbpemaohipaaGreatDoorXBF
import Derived.Test.YtekjbpemaohipaaGreatDoorXBI
namespace Go.Proofs.YtekjbpemaohipaaGreatDoor
open Go.RowKit Go.Shelf
/-- what is in Before: what is written into the space -/
theorem Dn_bfK {n : Nat} {S : List (List UInt8 × List (List UInt8))} {x r : List UInt8} (hn : 1 ≤ n) (hx : x.length = n) (hr : r.length = n) (gr : good r = true) (hS : ∀ t ∈ S, t.1.length = n ∧ good t.1 = true ∧ gdW n t.2) : Dn x (bfN r S) = Dn (wrT x r) S := by
  have hnx : x ≠ [] := fun e => by rw [e] at hx; simp at hx; omega
  rw [Bool.eq_iff_iff, Dn_iff, Dn_iff]
  constructor
  · rintro ⟨t', ht', h1, h2⟩
    obtain ⟨t, ht, he⟩ := List.mem_filterMap.1 ht'
    split at he
    · rename_i hag
      obtain rfl := Option.some.inj he
      obtain ⟨l1, g1, g2⟩ := hS t ht
      refine ⟨t, ht, (beK hnx (by omega) (by omega) g1 gr hag).1 h1, fun m hm hw => ?_⟩
      obtain ⟨gm, lm⟩ := g2 m hm
      by_cases ha : agB m r = true
      · exact h2 (beT m r) (List.mem_filterMap.2 ⟨m, hm, by rw [if_pos ha]⟩) ((beK hnx (by omega) (by omega) gm gr ha).2 hw)
      · exact beK_no hnx (by omega) (by omega) gm gr ha hw
    · cases he
  · rintro ⟨t, ht, h1, h2⟩
    obtain ⟨l1, g1, g2⟩ := hS t ht
    have hag : agB t.1 r = true := by
      by_cases h : agB t.1 r = true
      · exact h
      · exact absurd h1 (beK_no hnx (by omega) (by omega) g1 gr h)
    refine ⟨(beT t.1 r, bfL r t.2), List.mem_filterMap.2 ⟨t, ht, by rw [if_pos hag]⟩, (beK hnx (by omega) (by omega) g1 gr hag).2 h1, fun m' hm' hw => ?_⟩
    obtain ⟨m, hm, he⟩ := List.mem_filterMap.1 hm'
    obtain ⟨gm, lm⟩ := g2 m hm
    split at he
    · rename_i ha
      obtain rfl := Option.some.inj he
      exact h2 m hm ((beK hnx (by omega) (by omega) gm gr ha).1 hw)
    · cases he
theorem exE_gdK {n lim : Nat} : ∀ (Ts : List (List UInt8 × List (List UInt8))) (out R : List (List UInt8)), gdS Ts → (∀ t ∈ Ts, t.1.length = n) → (∀ x ∈ out, good x = true ∧ x.length = n) → exE splT lim out Ts = some R → ∀ x ∈ R, good x = true ∧ x.length = n
  | [], out, R, _, _, g, e => by
    injection e with e
    subst e
    exact g
  | t :: r, out, R, gt, hw, g, e => by
    unfold exE at e
    split at e
    · obtain ⟨t1, t3⟩ := gt t List.mem_cons_self
      refine exE_gdK r _ R (fun x hx => gt x (List.mem_cons_of_mem _ hx)) (fun x hx => hw x (List.mem_cons_of_mem _ hx)) (fun x hx => ?_) e
      rcases List.mem_append.1 hx with hx | hx
      · exact g x hx
      · have h := gdW_exT t.2 [t.1] (fun y hy => by rw [List.mem_singleton] at hy; subst hy; exact ⟨t1, rfl⟩) t3 x hx
        exact ⟨h.1, h.2.trans (hw t List.mem_cons_self)⟩
    · cases e
theorem xpL_gdK {n : Nat} {b : Int} {Ts : List (List UInt8 × List (List UInt8))} (hb : ¬ b = 0) (h : xpE b 2048 Ts = 0) (g : gdS Ts) (hw : ∀ t ∈ Ts, t.1.length = n) : ∀ x ∈ xpL b 2048 Ts, good x = true ∧ x.length = n := by
  unfold xpE at h
  unfold xpL
  rw [if_neg hb, if_neg (by omega)] at h ⊢
  cases hx : exE splT (2048 : Int).toNat [] Ts with
  | none => rw [hx] at h; simp at h
  | some R => exact exE_gdK Ts [] R g hw (fun x hx => by cases hx) hx
theorem afE_cases {b : Int} {S : List (List UInt8 × List (List UInt8))} {r : List UInt8} (hb : ¬ b = 0) (hr : b = (r.length : Int)) : (afE b 2048 S r = 0 ∨ afE b 2048 S r = 3) ∧ (afE b 2048 S r = 0 → xpE b 2048 S = 0) := by
  have h0 : ¬ (!(b == 0) && (b == (r.length : Int))) = false := by
    have e1 : (b == 0) = false := by simpa using hb
    have e2 : (b == (r.length : Int)) = true := by simpa using hr
    rw [e1, e2]
    decide
  have hx : xpE b 2048 S = 0 ∨ xpE b 2048 S = 3 := by
    unfold xpE
    rw [if_neg hb, if_neg (by omega)]
    split
    · exact .inr rfl
    · exact .inl rfl
  unfold afE
  rw [if_neg h0]
  rcases hx with hx | hx
  · rw [if_pos hx]
    refine ⟨?_, fun _ => hx⟩
    split
    · exact .inl rfl
    · exact .inr rfl
  · rw [if_neg (by rw [hx]; decide), hx]
    exact ⟨.inr rfl, fun h => by cases h⟩
/-- what is in After -/
theorem Dn_afK {n : Nat} {b : Int} {S : List (List UInt8 × List (List UInt8))} {x r : List UInt8} (hn : 1 ≤ n) (hb : ¬ b = 0) (hr : r.length = n) (gr : good r = true) (g : gdS S) (hw : ∀ t ∈ S, t.1.length = n) (h0 : afE b 2048 S r = 0) (hx0 : xpE b 2048 S = 0) : Dn x (afT b 2048 S r) = true ↔ ∃ c ∈ xpL b 2048 S, wiB x (wtT c r) = true := by
  have hL := xpL_gdK hb hx0 g hw
  have gX : gdC (afX r (xpL b 2048 S)) := fun t ht => by
    obtain ⟨c, hc, rfl⟩ := List.mem_map.1 ht
    exact ⟨good_wtT c r (hL c hc).1 gr, fun x hx => by cases hx⟩
  have nX : ∀ t ∈ afX r (xpL b 2048 S), t.1 ≠ [] := fun t ht => by
    obtain ⟨c, hc, rfl⟩ := List.mem_map.1 ht
    have hlc := (hL c hc).2
    have hnc : c ≠ [] := fun e => by rw [e] at hlc; simp at hlc; omega
    show wtT c r ≠ []
    unfold wtT
    rw [if_pos (fitK hnc (by omega))]
    exact ne_of_len hnc (wrK_len c r (by omega)).symm
  unfold afT
  rw [if_pos h0, Dn_form gX nX, Dn_iff]
  constructor
  · rintro ⟨t, ht, h1, -⟩
    obtain ⟨c, hc, rfl⟩ := List.mem_map.1 ht
    exact ⟨c, hc, h1⟩
  · rintro ⟨c, hc, h1⟩
    exact ⟨(wtT c r, []), List.mem_map.2 ⟨c, hc, rfl⟩, h1, fun m hm => by cases hm⟩
/-- the number of a row's header is its place -/
theorem nmK_bits (b i : Nat) (hi : i < 2 ^ b) : ∀ k, k ≤ b → nmK ((List.range k).map (bitc b i)) = i / 2 ^ (b - k)
  | 0, _ => by
    rw [Nat.sub_zero, Nat.div_eq_of_lt hi]
    rfl
  | k + 1, hk => by
    rw [List.range_succ, List.map_append, List.map_singleton, nmK_snoc, nmK_bits b i hi k (by omega)]
    have e : b - k = (b - (k + 1)) + 1 := by omega
    have e2 : b - 1 - k = b - (k + 1) := by omega
    unfold bitc
    rw [e, Nat.pow_succ, ← Nat.div_div_eq_div_mul, e2]
    obtain ⟨q, hq⟩ : ∃ q, i / 2 ^ (b - (k + 1)) = q := ⟨_, rfl⟩
    rw [hq]
    split
    · show 2 * (q / 2) + 1 = q
      omega
    · show 2 * (q / 2) + 0 = q
      omega
theorem nmK_hd (b i : Nat) (hi : i < 2 ^ b) : nmK (hdT b i) = i := by
  have h := nmK_bits b i hi b (Nat.le_refl _)
  rw [Nat.sub_self, Nat.pow_zero, Nat.div_one] at h
  exact h
theorem ihK {b : Int} {x : List UInt8} (h : ihB b x = true) : (x.length : Int) = b ∧ x.all digB = true := by
  unfold ihB at h
  rw [Bool.and_eq_true, beq_iff_eq] at h
  exact h
theorem ihK_mk {b : Int} {x : List UInt8} (h1 : (x.length : Int) = b) (h2 : x.all digB = true) : ihB b x = true := by
  unfold ihB
  rw [Bool.and_eq_true, beq_iff_eq]
  exact ⟨h1, h2⟩
theorem hdT_dig (b i : Nat) : (hdT b i).all digB = true := by
  rw [List.all_eq_true]
  intro x hx
  obtain ⟨j, -, rfl⟩ := List.mem_map.1 hx
  unfold bitc
  split <;> decide
/-- what the law asks of the three answers, for headers -/
structure WPK (n : Nat) (b : Int) (S : List (List UInt8 × List (List UInt8))) (r : List UInt8) : Prop where
  q0 : ∀ x, ihB b x = true → ihB b (wrT x r) = true
  q1 : ∀ x, ihB b x = true → Dn x (bfN r S) = Dn (wrT x r) S
  q2 : afE b 2048 S r = 0 → ∀ x, ihB b x = true → Dn x S = true → Dn (wrT x r) (afT b 2048 S r) = true
  q3 : afE b 2048 S r = 0 → ∀ x, ihB b x = true → Dn x (afT b 2048 S r) = true → wrT x r = x
  q4 : afE b 2048 S r = 0 → ∀ x, ihB b x = true → Dn x (afT b 2048 S r) = true → ∃ y, ihB b y = true ∧ Dn y S = true ∧ wrT y r = x
theorem wpK {n : Nat} {b : Int} {S : List (List UInt8 × List (List UInt8))} {r : List UInt8} (hn : 1 ≤ n) (hbn : b = (n : Int)) (hr : r.length = n) (gr : good r = true) (g : gdS S) (hw : ∀ t ∈ S, t.1.length = n) : WPK n b S r := by
  have hb : ¬ b = 0 := by omega
  have hS : ∀ t ∈ S, t.1.length = n ∧ good t.1 = true ∧ gdW n t.2 := fun t ht => by
    obtain ⟨g1, g2⟩ := g t ht
    rw [hw t ht] at g2
    exact ⟨hw t ht, g1, g2⟩
  have hx0 := (afE_cases (S := S) (r := r) hb (by omega)).2
  have hne : ∀ x : List UInt8, x.length = n → x ≠ [] := fun x h e => by rw [e] at h; simp at h; omega
  have hDn : afE b 2048 S r = 0 → ∀ x : List UInt8, x.length = n → x.all digB = true → ((∃ c ∈ xpL b 2048 S, wiB x c = true) ↔ Dn x S = true) := fun h0 x hx hd => xpL_wi hn hx hd g hw (hx0 h0)
  have dg : ∀ x : List UInt8, x.all digB = true → x.all dgK = true := fun x h => h
  refine ⟨fun x hx => ?_, fun x hx => ?_, fun h0 x hx hd => ?_, fun h0 x hx hd => ?_, fun h0 x hx hd => ?_⟩
  · obtain ⟨h1, h2⟩ := ihK hx
    have hl := wrK_len x r (by omega)
    exact ihK_mk (by omega) (wrK_dig (by omega) (dg x h2) gr)
  · obtain ⟨h1, h2⟩ := ihK hx
    exact Dn_bfK hn (by omega) hr gr hS
  · obtain ⟨h1, h2⟩ := ihK hx
    obtain ⟨c, hc, hwi⟩ := (hDn h0 x (by omega) h2).2 hd
    have hlc := (xpL_gdK hb (hx0 h0) g hw c hc).2
    exact (Dn_afK hn hb hr gr g hw h0 (hx0 h0)).2 ⟨c, hc, afK_in (hne x (by omega)) (by omega) (by omega) hwi⟩
  · obtain ⟨h1, h2⟩ := ihK hx
    obtain ⟨c, hc, hwi⟩ := (Dn_afK hn hb hr gr g hw h0 (hx0 h0)).1 hd
    have hlc := (xpL_gdK hb (hx0 h0) g hw c hc).2
    exact afK_fix (hne x (by omega)) (by omega) (by omega) gr hwi
  · obtain ⟨h1, h2⟩ := ihK hx
    obtain ⟨c, hc, hwi⟩ := (Dn_afK hn hb hr gr g hw h0 (hx0 h0)).1 hd
    have hgc := xpL_gdK hb (hx0 h0) g hw c hc
    obtain ⟨y, y1, y2, y3, y4⟩ := afK_out (hne x (by omega)) (by omega) (by omega) hgc.1 gr (dg x h2) hwi
    exact ⟨y, ihK_mk (by omega) y2, (hDn h0 y (by omega) y2).1 ⟨c, hc, y3⟩, y4⟩
end Go.Proofs.YtekjbpemaohipaaGreatDoor

import Derived.Test.YthlgjdadkmpbbaaDoorXAE
import Derived.Lib.MapLaws
import Derived.Lib.TrimUEq
import Derived.Test.YthlgjdadkmpbbaaDoorXAA
import Derived.Lib.LaidTab
import Derived.ChangeSame
namespace Go.Proofs.YthlgjdadkmpbbaaDoor
open Go.RowKit
theorem dc_asc {l : List UInt8} {i : Nat} (h : bt l i < 128) : dc l i = (bt l i, 1) := by
  unfold dc Lib.decodeN
  rw [if_pos h]
theorem dc_big {l : List UInt8} {i : Nat} (h : ¬ bt l i < 128) : 128 ≤ (dc l i).1 ∧ (dc l i).1 ≤ 1114111 := by
  unfold dc
  have := bt_lt l i
  have := bt_lt l (i + 1)
  have := bt_lt l (i + 2)
  have := bt_lt l (i + 3)
  rcases Lib.decodeN_shape (l.length - i) (bt l i) (bt l (i + 1)) (bt l (i + 2)) (bt l (i + 3)) with ⟨a1, e⟩ | ⟨a1, a2, a3, a4, e⟩ | ⟨a1, a2, a3, a4, a5, a6, e⟩ | ⟨a1, a2, a3, a4, a5, a6, a7, e⟩ | e
  all_goals rw [e]
  all_goals simp only
  all_goals omega
theorem lo1_asc {l : List UInt8} {i : Nat} (h : bt l i < 128) : lo1 l i = false := by
  unfold lo1
  rw [dc_asc h]
  refine decide_eq_false (fun e => ?_)
  injection e with e1 _
  omega
/-- the number of the character at a place; -2 behind the end -/
def chr (l : List UInt8) (i : Nat) : Int := if i < l.length then (if lo1 l i then -1 else ((dc l i).1 : Int)) else -2
theorem chars_head (l : List UInt8) (i : Nat) : ∃ r, chars l i = (chr l i, (if i < l.length then i else l.length)) :: r := by
  unfold chr
  by_cases h : i < l.length
  · rw [chars_lt h, if_pos h, if_pos h]; exact ⟨_, rfl⟩
  · rw [chars_end h, if_neg h, if_neg h]; exact ⟨_, rfl⟩
theorem chars_asc {l : List UInt8} {i : Nat} (h : i < l.length) (hb : bt l i < 128) : chars l i = ((bt l i : Int), i) :: chars l (i + 1) := by
  rw [chars_lt h, lo1_asc hb, dc_asc hb]
  rfl
/-- a character below 128 is the byte that stands there -/
theorem chr_asc (l : List UInt8) (i k : Nat) (hk : k < 128) : chr l i = (k : Int) ↔ i < l.length ∧ bt l i = k := by
  unfold chr
  by_cases h : i < l.length
  · rw [if_pos h]
    by_cases hb : bt l i < 128
    · rw [lo1_asc hb, dc_asc hb]
      simp only [Bool.false_eq_true, if_false]
      omega
    · have := dc_big hb
      split <;> omega
  · rw [if_neg h]
    omega
theorem chr_range (l : List UInt8) (i : Nat) : -2 ≤ chr l i ∧ chr l i ≤ 1114111 := by
  unfold chr
  split
  · split
    · omega
    · by_cases hb : bt l i < 128
      · rw [dc_asc hb]; simp only; omega
      · have := dc_big hb; omega
  · omega
/-- the hexadecimal digits, as characters and as bytes -/
theorem hexI_chr (l : List UInt8) (i : Nat) (h : i < l.length) : (hexD (l.getD i 0) = none ∧ ¬ 0 ≤ hexI (chr l i)) ∨ ∃ d : Nat, hexD (l.getD i 0) = some d ∧ hexI (chr l i) = d ∧ bt l i < 128 := by
  have hc : bt l i = (l.getD i 0).toNat := rfl
  by_cases hb : bt l i < 128
  · have he : chr l i = (bt l i : Int) := (chr_asc l i (bt l i) hb).2 ⟨h, rfl⟩
    rw [he]
    unfold hexD hexI
    rw [← hc]
    by_cases a1 : 48 ≤ bt l i ∧ bt l i ≤ 57
    · exact .inr ⟨bt l i - 48, by rw [if_pos a1], by rw [if_pos (by omega)]; omega, hb⟩
    · by_cases a2 : 97 ≤ bt l i ∧ bt l i ≤ 102
      · exact .inr ⟨bt l i - 87, by rw [if_neg a1, if_pos a2], by rw [if_neg (by omega), if_pos (by omega)]; omega, hb⟩
      · by_cases a3 : 65 ≤ bt l i ∧ bt l i ≤ 70
        · exact .inr ⟨bt l i - 55, by rw [if_neg a1, if_neg a2, if_pos a3], by rw [if_neg (by omega), if_neg (by omega), if_pos (by omega)]; omega, hb⟩
        · exact .inl ⟨by rw [if_neg a1, if_neg a2, if_neg a3], by rw [if_neg (by omega), if_neg (by omega), if_neg (by omega)]; omega⟩
  · refine .inl ⟨?_, ?_⟩
    · unfold hexD
      rw [← hc, if_neg (by omega), if_neg (by omega), if_neg (by omega)]
    · have hr : chr l i = -1 ∨ 128 ≤ chr l i := by
        unfold chr
        rw [if_pos h]
        have := dc_big hb
        split
        · exact .inl rfl
        · exact .inr (by omega)
      unfold hexI
      repeat' split
      all_goals omega
theorem getD_drop {l : List UInt8} {i : Nat} (h : i < l.length) : l.drop i = l.getD i 0 :: l.drop (i + 1) := by
  rw [List.drop_eq_getElem_cons h]
  simp [List.getD, List.getElem?_eq_getElem h]
/-- a run of digits, as characters and as bytes -/
theorem hexC_chars (f : Nat) : ∀ (l : List UInt8) (i n : Nat), hexC f (chars l i) n = hexRun f (l.drop i) n := by
  induction f with
  | zero => intro l i n; rfl
  | succ f ih =>
    intro l i n
    by_cases h : i < l.length
    · rw [getD_drop h]
      rcases hexI_chr l i h with ⟨h1, h2⟩ | ⟨d, h1, h2, h3⟩
      · obtain ⟨r, hr⟩ := chars_head l i
        rw [hr, hexC, if_neg h2, hexRun, h1]
      · rw [chars_asc h h3, hexC]
        have he : chr l i = (bt l i : Int) := (chr_asc l i (bt l i) h3).2 ⟨h, rfl⟩
        rw [he] at h2
        simp only [h2]
        rw [if_pos (by omega), hexRun, h1, show ((d : Int)).toNat = d from Int.toNat_natCast d, ih]
    · rw [chars_end h, List.drop_eq_nil_of_le (by omega), hexRun, hexC, if_neg (show ¬ 0 ≤ hexI (-2) by decide)]
end Go.Proofs.YthlgjdadkmpbbaaDoor
namespace Go.Proofs.YthlgjdadkmpbbaaDoor
open Go.RowKit
/-- a character that is no loose byte is its own bytes -/
theorem take_own (l : List UInt8) (i : Nat) (h : i < l.length) (hlo : lo1 l i = false) : Lib.runeCells ((dc l i).1 : Int) = Lib.byteCells ((l.drop i).take (dc l i).2) := by
  have hd : Lib.decodeL (l.drop i) = dc l i := by
    have := Lib.decodeL_drop ⟨l.toArray⟩ i
    rw [← dc_decode]
    simpa using this
  have hn : l.drop i ≠ [] := fun e => by
    have := congrArg List.length e
    simp at this
    omega
  have hne : ¬ (dc l i = (65533, 1)) := of_decide_eq_false hlo
  have he := Lib.encode_decode (l.drop i) hn (by rw [hd]; exact fun hh => hne (Prod.ext hh.1 hh.2))
  rw [hd] at he
  rw [← Lib.byteCells_encodeRune, he]
theorem hv8 (a : Int) (b : Nat) (hb : b < 256) (e : a = (b : Int)) : Value.int .u8 a = Value.int .u8 ((UInt8.ofNat b).toNat : Int) := by rw [ofN b hb, e]
/-- the bytes of a character by its number -/
theorem utf_cells (n : Nat) (h : n ≤ 1114111) (hs : ¬ (55296 ≤ n ∧ n ≤ 57343)) : Lib.runeCells (n : Int) = Lib.byteCells (utfL n) := by
  unfold utfL Lib.runeCells Lib.byteCells
  by_cases h1 : n < 128
  · rw [if_pos h1, Lib.encodeRuneZ_one (by omega) (by omega)]
    exact congrArg (fun x => [x]) (hv8 _ _ (by omega) rfl)
  · rw [if_neg h1]
    by_cases h2 : n < 2048
    · rw [if_pos h2, Lib.encodeRuneZ_two (by omega) (by omega)]
      simp only [List.map]
      rw [hv8 (192 + (n : Int) / 64) (192 + n / 64) (by omega) (by omega), hv8 (128 + (n : Int) % 64) (128 + n % 64) (by omega) (by omega)]
    · rw [if_neg h2]
      by_cases h3 : n < 65536
      · rw [if_pos h3, Lib.encodeRuneZ_three (by omega)]
        simp only [List.map]
        rw [hv8 (224 + (n : Int) / 4096) (224 + n / 4096) (by omega) (by omega), hv8 (128 + (n : Int) / 64 % 64) (128 + n / 64 % 64) (by omega) (by omega), hv8 (128 + (n : Int) % 64) (128 + n % 64) (by omega) (by omega)]
      · rw [if_neg h3, Lib.encodeRuneZ_four (by omega) (by omega)]
        simp only [List.map]
        rw [hv8 (240 + (n : Int) / 262144) (240 + n / 262144) (by omega) (by omega), hv8 (128 + (n : Int) / 4096 % 64) (128 + n / 4096 % 64) (by omega) (by omega), hv8 (128 + (n : Int) / 64 % 64) (128 + n / 64 % 64) (by omega) (by omega), hv8 (128 + (n : Int) % 64) (128 + n % 64) (by omega) (by omega)]
/-- a part of a run -/
theorem add_add (a : Addr) (i j : Nat) : (a.add i).add j = a.add (i + j) := by simp [Addr.add]; split <;> split <;> simp_all <;> omega
theorem CH.drop {W : World} {ad : Addr} {C : List (Int × Nat)} (h : CH W ad C) (k : Nat) : CH W (ad.add (k * 2)) (C.drop k) := fun j c hc => by
  rw [List.getElem?_drop] at hc
  have := h (k + j) c hc
  rw [add_add, add_add]
  rw [show k * 2 + j * 2 = (k + j) * 2 by omega, show k * 2 + (j * 2 + 1) = (k + j) * 2 + 1 by omega]
  exact this
/-- the last of the characters is the end -/
theorem chars_no (l : List UInt8) : ∀ (m i : Nat), l.length - i ≤ m → ∃ (k : Nat) (c : Int × Nat), (chars l i)[k]? = some c ∧ ¬ 0 ≤ hexI c.1
  | m, i, hm => by
    by_cases h : i < l.length
    · have hp := dc_pos l i
      match m, hm with
      | 0, hm => omega
      | m + 1, hm =>
        obtain ⟨k, c, h1, h2⟩ := chars_no l m (i + (dc l i).2) (by omega)
        exact ⟨k + 1, c, by rw [chars_lt h]; exact h1, h2⟩
    · exact ⟨0, (-2, l.length), by rw [chars_end h]; rfl, (by decide : ¬ 0 ≤ hexI (-2))⟩
theorem chars_range (l : List UInt8) : ∀ (m i : Nat), l.length - i ≤ m → ∀ c ∈ chars l i, -2 ≤ c.1 ∧ c.1 ≤ 1114111
  | m, i, hm => by
    intro c hc
    by_cases h : i < l.length
    · have hp := dc_pos l i
      match m, hm with
      | 0, hm => omega
      | m + 1, hm =>
        obtain ⟨r, hr⟩ := chars_head l i
        have hr2 := hr
        rw [chars_lt h] at hr2
        rw [hr] at hc
        rcases List.mem_cons.1 hc with e | e
        · rw [e]; exact chr_range l i
        · have := (List.cons.inj hr2).2
          rw [← this] at e
          exact chars_range l m (i + (dc l i).2) (by omega) c e
    · rw [chars_end h] at hc
      rw [List.mem_singleton.1 hc]
      exact (by decide : (-2 : Int) ≤ -2 ∧ (-2 : Int) ≤ 1114111)
theorem chars_len (l : List UInt8) : ∀ (m i : Nat), l.length - i ≤ m → (chars l i).length ≤ m + 1
  | m, i, hm => by
    by_cases h : i < l.length
    · have hp := dc_pos l i
      match m, hm with
      | 0, hm => omega
      | m + 1, hm =>
        rw [chars_lt h]
        have := chars_len l m (i + (dc l i).2) (by omega)
        simp only [List.length_cons]
        omega
    · rw [chars_end h]; simp
/-- behind the digits -/
theorem drop_hex (f : Nat) : ∀ (l : List UInt8) (i n : Nat), (chars l i).drop (hexRun f (l.drop i) n).1 = chars l (i + (hexRun f (l.drop i) n).1) := by
  induction f with
  | zero => intro l i n; rfl
  | succ f ih =>
    intro l i n
    by_cases h : i < l.length
    · rw [getD_drop h]
      rcases hexI_chr l i h with ⟨h1, h2⟩ | ⟨d, h1, h2, h3⟩
      · rw [hexRun, h1]; rfl
      · rw [hexRun, h1]
        show (chars l i).drop ((hexRun f (l.drop (i + 1)) (16 * n + d)).1 + 1) = chars l (i + ((hexRun f (l.drop (i + 1)) (16 * n + d)).1 + 1))
        rw [chars_asc h h3, List.drop_succ_cons, ih]
        exact congrArg (chars l) (by rw [Nat.add_assoc, Nat.add_comm 1])
    · have hd : l.drop i = [] := List.drop_eq_nil_of_le (by omega)
      rw [hd, hexRun]; rfl
theorem hexRun_le (f : Nat) : ∀ (r : List UInt8) (n : Nat), (hexRun f r n).1 ≤ r.length ∧ (hexRun f r n).1 ≤ f := by
  induction f with
  | zero => intro r n; exact ⟨Nat.zero_le _, Nat.le_refl _⟩
  | succ f ih =>
    intro r n
    cases r with
    | nil => exact ⟨Nat.le_refl _, Nat.zero_le _⟩
    | cons c r =>
      rw [hexRun]
      cases hexD c with
      | none => exact ⟨Nat.zero_le _, Nat.zero_le _⟩
      | some d =>
        have := ih r (16 * n + d)
        show (hexRun f r (16 * n + d)).1 + 1 ≤ (c :: r).length ∧ (hexRun f r (16 * n + d)).1 + 1 ≤ f + 1
        simp only [List.length_cons]
        omega
end Go.Proofs.YthlgjdadkmpbbaaDoor
namespace Go.Proofs.YthlgjdadkmpbbaaDoor
open Go.RowKit
/-- an array of pairs of numbers, as laid -/
def pairData {H : Type} (k : IntKind) (zs : List (Int × Int)) : DataW H := .agg (zs.map fun z => .agg [.lit (.int k z.1), .lit (.int k z.2)])
def pairCells (k : IntKind) (zs : List (Int × Int)) : List Value := zs.flatMap fun z => [.int k z.1, .int k z.2]
theorem pairCells_at (k : IntKind) (zs : List (Int × Int)) : ∀ (i : Nat) (z : Int × Int), zs[i]? = some z → (pairCells k zs)[i * 2]? = some (.int k z.1) ∧ (pairCells k zs)[i * 2 + 1]? = some (.int k z.2) := by
  induction zs with
  | nil => intro i z h; simp at h
  | cons y zs ih =>
    intro i z h
    cases i with
    | zero =>
      simp at h
      subst h
      exact ⟨rfl, rfl⟩
    | succ i =>
      have := ih i z (by simpa using h)
      rw [show (i + 1) * 2 = i * 2 + 1 + 1 by omega, show i * 2 + 1 + 1 + 1 = i * 2 + 1 + 1 + 1 by omega]
      exact this
theorem pairCells_len (k : IntKind) (zs : List (Int × Int)) : (pairCells k zs).length = zs.length * 2 := by
  induction zs with
  | nil => rfl
  | cons y zs ih =>
    show ([_, _] ++ pairCells k zs).length = _
    simp [ih]
    omega
theorem cells_of_pairs {H : Type} {enc : TypeId × Value → H} {P : Program} {w : World} {base : Nat} {sp : Nat → Bool} {held : Bool} {fuel : Nat} {t e i : TypeId} {n : Nat} {k : IntKind} {f0 f1 : Field} {cs : List Value} {zs : List (Int × Int)} {p : List MemPlace}
    (ht : P.underlying t = some (.array n e)) (he : P.underlying e = some (.struct #[f0, f1])) (h0 : f0.offset = 0) (h1 : f1.offset = 1) (h2 : f0.type = i) (h3 : f1.type = i) (hi : P.underlying i = some (.int k)) (hci : P.cellsOf i = 1) (hce : P.cellsOf e = 2) (hct : P.cellsOf t = n * 2)
    (h : DataW.trod enc P w base sp held fuel t cs = some (pairData k zs, p)) : cs = pairCells k zs := by
  cases fuel with
  | zero => simp [DataW.trod] at h
  | succ fuel =>
    simp only [DataW.trod, ht, hce, hct] at h
    split at h
    · rename_i hl
      obtain ⟨xs, hm, hx⟩ := Option.map_eq_some_iff.1 h
      have hxs : xs.map (·.1) = zs.map fun z => (DataW.agg [.lit (.int k z.1), .lit (.int k z.2)] : DataW H) := by
        have := congrArg Prod.fst hx
        simpa [pairData] using this
      have hxl : xs.length = n := by simpa using Lib.mapM_length hm
      have hzl : zs.length = n := by
        have := congrArg List.length hxs
        simp at this
        omega
      have key : ∀ j z, zs[j]? = some z → cs[j * 2]? = some (.int k z.1) ∧ cs[j * 2 + 1]? = some (.int k z.2) := by
        intro j z hz
        have hj : j < n := by rw [← hzl]; exact (List.getElem?_eq_some_iff.1 hz).1
        obtain ⟨b, hb, hf⟩ := Lib.mapM_at hm j j (by simp [hj])
        obtain ⟨y0, y1, m, hb2, hlen, g0, g1⟩ := ChangeShapes.trod_struct2 he hf
        rw [h0, h2, hci] at g0
        rw [h1, h3, hci] at g1
        obtain ⟨z0, hc0, hy0, _⟩ := DataW.trod_int hi g0
        obtain ⟨z1, hc1, hy1, _⟩ := DataW.trod_int hi g1
        have e2 : (xs.map (·.1))[j]? = some b.1 := by simp [hb]
        rw [hxs, List.getElem?_map, hz] at e2
        rw [hb2] at e2
        have e3 : (DataW.agg [.lit (.int k z.1), .lit (.int k z.2)] : DataW H) = .agg [y0.1, y1.1] := Option.some.inj e2
        rw [hy0, hy1] at e3
        have e4 : z.1 = z0 ∧ z.2 = z1 := by simpa using e3
        have c0 := congrArg (·[0]?) hc0
        have c1 := congrArg (·[0]?) hc1
        simp [List.getElem?_drop] at c0 c1
        exact ⟨by rw [e4.1]; exact c0, by rw [e4.2]; exact c1⟩
      apply List.ext_getElem?
      intro j
      by_cases hj : j < n * 2
      · obtain ⟨z, hz⟩ : ∃ z, zs[j / 2]? = some z := ⟨_, List.getElem?_eq_getElem (by omega)⟩
        obtain ⟨a0, a1⟩ := key _ z hz
        obtain ⟨b0, b1⟩ := pairCells_at k zs _ z hz
        rcases Nat.mod_two_eq_zero_or_one j with hm2 | hm2
        · rw [show j / 2 * 2 = j by omega] at a0 b0
          rw [a0, b0]
        · rw [show j / 2 * 2 + 1 = j by omega] at a1 b1
          rw [a1, b1]
      · rw [List.getElem?_eq_none (by omega), List.getElem?_eq_none (by rw [pairCells_len]; omega)]
    · cases h
def PairIs (P : Program) (w : World) (name : String) (k : IntKind) (zs : List (Int × Int)) : Prop := w.var? P name = some (pairCells k zs).toArray
theorem pairIs_of_head {P : Program} {W : World} {name : String} {k : IntKind} {zs : List (Int × Int)} {rest : List (String × DataW Unit)} {g : Nat} {t e i : TypeId} {n : Nat} {f0 f1 : Field}
    (hg : P.globalNamed name = some g) (hty : (P.globals[g]?).map (·.type) = some t) (ht : P.underlying t = some (.array n e)) (he : P.underlying e = some (.struct #[f0, f1])) (h0 : f0.offset = 0) (h1 : f1.offset = 1) (h2 : f0.type = i) (h3 : f1.type = i) (hi : P.underlying i = some (.int k)) (hci : P.cellsOf i = 1) (hce : P.cellsOf e = 2) (hct : P.cellsOf t = n * 2)
    (h : laidMet P ((name, pairData k zs) :: rest) W) : PairIs P W name k zs := by
  obtain ⟨ps, ⟨g', t', cs, fuel, p, q, hg', ht', hvar, hd, _, _⟩, _⟩ := h
  obtain rfl := Option.some.inj (hg.symm.trans hg')
  obtain rfl := Option.some.inj (hty.symm.trans ht')
  unfold PairIs
  rw [hvar, ← cells_of_pairs ht he h0 h1 h2 h3 hi hci hce hct hd]
theorem PairIs.cell {P : Program} {W : World} {name : String} {k : IntKind} {zs : List (Int × Int)} {g : Nat} (h : PairIs P W name k zs) (hg : P.globalNamed name = some g) (i : Nat) (z : Int × Int) (hz : zs[i]? = some z) :
    W.cell? ⟨g, i * 2, none⟩ = some (.int k z.1) ∧ W.cell? ⟨g, i * 2 + 1, none⟩ = some (.int k z.2) := by
  obtain ⟨a, b⟩ := pairCells_at k zs i z hz
  have c := World.var?_cell hg h (i * 2)
  have d := World.var?_cell hg h (i * 2 + 1)
  rw [List.getElem?_toArray] at c d
  exact ⟨c.trans a, d.trans b⟩
end Go.Proofs.YthlgjdadkmpbbaaDoor

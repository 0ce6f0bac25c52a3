import Derived.Test.YtppmncmhokkfdaaDoorZ34
import Derived.Test.YtppmncmhokkfdaaDoorZ35
import Derived.Test.YtppmncmhokkfdaaDoorZ16
import Derived.Test.YtppmncmhokkfdaaDoorZ10
namespace Go.Proofs.YtppmncmhokkfdaaDoor
open Go.RowKit Go.Shelf
theorem idx_neg {x : List UInt8} (h : ∀ c ∈ x, c ≠ 46) : Lib.indexByte x 46 < 0 := by
  refine Classical.byContradiction (fun hn => ?_)
  obtain ⟨o, ho⟩ : ∃ o : Nat, Lib.indexByte x 46 = o := ⟨(Lib.indexByte x 46).toNat, by omega⟩
  have := (Lib.indexByte_some ho).1
  exact h 46 (List.mem_of_getElem? this) rfl
theorem idx_dot {x y : List UInt8} (h : ∀ c ∈ x, c ≠ 46) : Lib.indexByte (x ++ 46 :: y) 46 = (x.length : Int) := by
  have hx : (x ++ 46 :: y)[x.length]? = some 46 := by simp
  by_cases hn : Lib.indexByte (x ++ 46 :: y) 46 = -1
  · exact absurd hx (Lib.indexByte_none hn _)
  · have hge := Lib.indexByte_ge (x ++ 46 :: y) 46
    obtain ⟨o, ho⟩ : ∃ o : Nat, Lib.indexByte (x ++ 46 :: y) 46 = o := ⟨(Lib.indexByte (x ++ 46 :: y) 46).toNat, by omega⟩
    obtain ⟨h1, h2⟩ := Lib.indexByte_some ho
    rw [ho]
    have : o = x.length := by
      rcases Nat.lt_trichotomy o x.length with hlt | he | hgt
      · rw [List.getElem?_append_left hlt] at h1
        exact absurd rfl (h 46 (List.mem_of_getElem? h1))
      · exact he
      · exact absurd hx (h2 _ hgt)
    rw [this]
theorem dec_dig (n : Nat) : ∀ c ∈ Lib.decDigits n, isDig c = true := List.all_eq_true.1 (of_dec n).1.2.1
theorem dig_ne {c : UInt8} (h : isDig c = true) : c ≠ 46 ∧ c ≠ 120 ∧ c ≠ 98 := by
  refine ⟨fun e => ?_, fun e => ?_, fun e => ?_⟩
  all_goals
    subst e
    revert h
    decide
theorem numN_dec (n : Nat) (h : n ≤ 4294967295) : numN (Lib.decDigits n) = some n := by
  have hd := dec_dig n
  have hi := idx_neg (x := Lib.decDigits n) (fun c hc => (dig_ne (hd c hc)).1)
  have hx : ∀ k : UInt8, isDig k = false → (Lib.decDigits n).take 2 ≠ [48, k] := fun k hk e => by
    have : k ∈ Lib.decDigits n := List.mem_of_mem_take (i := 2) (by rw [e]; simp)
    rw [hd k this] at hk
    cases hk
  unfold numN
  rw [if_neg (by omega), if_neg (fun e => hx 120 (by decide) e.2), if_neg (fun e => hx 98 (by decide) e.2)]
  exact (decN_iff _ _ _ (by decide)).2 ⟨rfl, h⟩
theorem quadK_step {k m v : Nat} {y : List UInt8} (hv : v ≤ 255) : quadK (k + 1) m (Lib.decDigits v ++ 46 :: y) = quadK k (256 * m + v) y := by
  have hi := idx_dot (x := Lib.decDigits v) (y := y) (fun c hc => (dig_ne (dec_dig v c hc)).1)
  rw [quadK, hi, if_neg (by omega), Int.toNat_natCast, List.take_left', (decN_iff _ 255 v (by decide)).2 ⟨rfl, hv⟩]
  · show quadK k (256 * m + v) ((Lib.decDigits v ++ 46 :: y).drop ((Lib.decDigits v).length + 1)) = _
    rw [← List.drop_drop, List.drop_left]
    rfl
  · rfl
theorem numN_quad (n : Nat) (h : n ≤ 4294967295) : numN (quadL n) = some n := by
  have e : quadL n = Lib.decDigits (n / 16777216) ++ 46 :: (Lib.decDigits (n / 65536 % 256) ++ 46 :: (Lib.decDigits (n / 256 % 256) ++ 46 :: Lib.decDigits (n % 256))) := by unfold quadL; simp
  unfold numN
  rw [e, if_pos (by rw [idx_dot (fun c hc => (dig_ne (dec_dig _ c hc)).1)]; omega), quadK_step (by omega), quadK_step (by omega), quadK_step (by omega), quadK, (decN_iff _ 255 _ (by decide)).2 ⟨rfl, by omega⟩]
  show some (256 * (256 * (256 * (256 * 0 + n / 16777216) + n / 65536 % 256) + n / 256 % 256) + n % 256) = some n
  exact congrArg some (by omega)
/-- digits, and dots ahead of digits -/
def okN (X : List UInt8) : Prop := ∀ k c, X[k]? = some c → isDig c = true ∨ (c = 46 ∧ ∃ c', X[k + 1]? = some c' ∧ isDig c' = true)
theorem okN_dec (n : Nat) : okN (Lib.decDigits n) := fun _ c h => .inl (dec_dig n c (List.mem_of_getElem? h))
theorem dec_head (n : Nat) : ∃ c, (Lib.decDigits n)[0]? = some c ∧ isDig c = true := by
  have hne := (of_dec n).1.1
  cases h : Lib.decDigits n with
  | nil => exact absurd h hne
  | cons c l => exact ⟨c, rfl, dec_dig n c (by rw [h]; simp)⟩
theorem okN_app {x y : List UInt8} (hx : okN x) (hy : okN y) (h0 : ∃ c, y[0]? = some c ∧ isDig c = true) : okN (x ++ 46 :: y) := by
  intro k c hk
  rcases Nat.lt_trichotomy k x.length with hlt | rfl | hgt
  · rw [List.getElem?_append_left hlt] at hk
    rcases hx k c hk with h | ⟨h, c', h1, h2⟩
    · exact .inl h
    · refine .inr ⟨h, c', ?_, h2⟩
      rw [List.getElem?_append_left (List.getElem?_eq_some_iff.1 h1).1]
      exact h1
  · obtain ⟨c0, h1, h2⟩ := h0
    have e : c = 46 := by simpa using hk.symm
    refine .inr ⟨e, c0, ?_, h2⟩
    rw [List.getElem?_append_right (by omega)]
    simpa using h1
  · obtain ⟨m, rfl⟩ : ∃ m, k = x.length + 1 + m := ⟨k - x.length - 1, by omega⟩
    have e : ∀ i, (x ++ 46 :: y)[x.length + 1 + i]? = y[i]? := fun i => by
      rw [List.getElem?_append_right (by omega), show x.length + 1 + i - x.length = i + 1 by omega]
      rfl
    rw [e] at hk
    rw [show x.length + 1 + m + 1 = x.length + 1 + (m + 1) by omega, e]
    exact hy m c hk
theorem quad_app (n : Nat) : quadL n = Lib.decDigits (n / 16777216) ++ 46 :: (Lib.decDigits (n / 65536 % 256) ++ 46 :: (Lib.decDigits (n / 256 % 256) ++ 46 :: Lib.decDigits (n % 256))) := by unfold quadL; simp
theorem app_head {x y : List UInt8} (h : ∃ c, x[0]? = some c ∧ isDig c = true) : ∃ c, (x ++ y)[0]? = some c ∧ isDig c = true := by
  obtain ⟨c, h1, h2⟩ := h
  exact ⟨c, by rw [List.getElem?_append_left (List.getElem?_eq_some_iff.1 h1).1]; exact h1, h2⟩
theorem okN_quad (n : Nat) : okN (quadL n) ∧ ∃ c, (quadL n)[0]? = some c ∧ isDig c = true := by
  rw [quad_app]
  exact ⟨okN_app (okN_dec _) (okN_app (okN_dec _) (okN_app (okN_dec _) (okN_dec _) (dec_head _)) (app_head (dec_head _))) (app_head (dec_head _)), app_head (dec_head _)⟩
theorem kl_byte {l : List UInt8} {j b : Nat} (hj : j < l.length) (hb : bt l j = b) (h : b < 128) : kl l j = cls (b : Int) := by
  unfold kl
  rw [(chr_asc l j b h).2 ⟨hj, hb⟩]
theorem cls_dig {c : UInt8} (h : isDig c = true) : cls (c.toNat : Int) = 4 := by
  have : 48 ≤ c.toNat ∧ c.toNat ≤ 57 := by unfold isDig at h; simpa using h
  unfold cls
  rw [if_neg (by omega), if_neg (by omega), if_neg (by omega), if_neg (by omega), if_neg (by omega), if_neg (by omega), if_neg (by omega), if_neg (by omega), if_neg (by omega), if_neg (by omega), if_pos (by omega)]
theorem bt_mid (P X S : List UInt8) {i : Nat} {c : UInt8} (h : X[i]? = some c) : bt (P ++ (X ++ S)) (P.length + i) = c.toNat ∧ P.length + i < (P ++ (X ++ S)).length := by
  have hi := (List.getElem?_eq_some_iff.1 h).1
  refine ⟨?_, by simp; omega⟩
  rw [bt_shift]
  exact bt_of (by rw [List.getElem?_append_left hi]; exact h)
/-- what stands behind a number -/
def stopN (S : List UInt8) : Prop := S = [] ∨ ∃ S', S = 32 :: S'
theorem nrun_tok (P X S : List UInt8) (hX : okN X) (hS : stopN S) : ∀ (m i : Nat), X.length - i ≤ m → i ≤ X.length → nrun (P ++ (X ++ S)) (P.length + i) = P.length + X.length
  | m, i, hm, hi => by
    by_cases hlt : i < X.length
    · match m, hm with
      | 0, hm => omega
      | m + 1, hm =>
        obtain ⟨c, hc⟩ : ∃ c, X[i]? = some c := ⟨_, List.getElem?_eq_getElem hlt⟩
        obtain ⟨hb, hl⟩ := bt_mid P X S hc
        have hyes : (inW (P ++ (X ++ S)) (P.length + i) || dotA (P ++ (X ++ S)) (P.length + i) 4) = true := by
          rcases hX i c hc with h | ⟨rfl, c', h1, h2⟩
          · have hk := kl_byte hl hb (by unfold isDig at h; simp at h; omega)
            rw [cls_dig h] at hk
            unfold inW
            rw [hk]
            rfl
          · have hk := kl_byte hl hb (by decide)
            obtain ⟨hb1, hl1⟩ := bt_mid P X S h1
            have hk1 := kl_byte hl1 hb1 (by unfold isDig at h2; simp at h2; omega)
            rw [cls_dig h2] at hk1
            unfold dotA
            rw [hk, show P.length + i + 1 = P.length + (i + 1) by omega, hk1]
            have h5 : cls ((46 : UInt8).toNat : Int) = 5 := by decide
            rw [h5]
            simp
        rw [nrun_yes hyes, show P.length + i + 1 = P.length + (i + 1) by omega]
        exact nrun_tok P X S hX hS m (i + 1) (by omega) (by omega)
    · obtain rfl : i = X.length := by omega
      refine nrun_no ?_
      rcases hS with rfl | ⟨S', rfl⟩
      · have hk : kl (P ++ (X ++ [])) (P.length + X.length) = 0 := kl0.2 (by simp)
        unfold inW dotA
        rw [hk]
        rfl
      · have hb : bt (P ++ (X ++ 32 :: S')) (P.length + X.length) = 32 := by
          rw [bt_shift]
          exact bt_of (l := X ++ 32 :: S') (c := 32) (by simp)
        have hk := kl_byte (l := P ++ (X ++ 32 :: S')) (j := P.length + X.length) (by simp) hb (by decide)
        have hk2 : kl (P ++ (X ++ 32 :: S')) (P.length + X.length) = 2 := hk
        unfold inW dotA
        rw [hk2]
        rfl
/-- a number's token -/
theorem tok_num (P X S : List UInt8) (n : Nat) (hX : okN X) (h0 : ∃ c, X[0]? = some c ∧ isDig c = true) (hS : stopN S) (hn : numN X = some n) (hl : X.length ≤ 16384) :
    kl (P ++ (X ++ S)) P.length = 4 ∧ tokC (P ++ (X ++ S)) P.length = (4, P.length + X.length) ∧ subL (P ++ (X ++ S)) P.length (P.length + X.length) = X ∧ tokE (P ++ (X ++ S)) P.length = 0 ∧ tokJ (P ++ (X ++ S)) P.length = P.length + X.length := by
  obtain ⟨c, hc, hd⟩ := h0
  obtain ⟨hb, hlt⟩ := bt_mid P X S hc
  rw [Nat.add_zero] at hb hlt
  have hk := kl_byte hlt hb (by unfold isDig at hd; simp at hd; omega)
  rw [cls_dig hd] at hk
  have hpos : 1 ≤ X.length := (List.getElem?_eq_some_iff.1 hc).1
  have hrun := nrun_tok P X S hX hS _ 1 (Nat.le_refl _) hpos
  have htc : tokC (P ++ (X ++ S)) P.length = (4, P.length + X.length) := by
    unfold tokC
    rw [if_neg (by omega), if_pos hk]
    show ((4 : Nat), nrun (P ++ (X ++ S)) (P.length + 1)) = _
    rw [hrun]
  have hsub : subL (P ++ (X ++ S)) P.length (P.length + X.length) = X := by unfold subL; simp
  have hf : faultE 4 X = 0 := by
    show (valE X).toNat = 0
    unfold valE
    rw [if_neg (by omega), hn]
    rfl
  have h7 : ¬ (kl (P ++ (X ++ S)) P.length = 7 ∧ quoE (P ++ (X ++ S)) P.length ≠ 0) := fun h => by omega
  refine ⟨hk, htc, hsub, ?_, ?_⟩
  · unfold tokE
    rw [if_neg h7, htc]
    show faultE 4 (subL _ _ _) = 0
    rw [hsub, hf]
  · unfold tokJ
    rw [if_neg h7, htc]
    show (if faultE 4 (subL _ _ _) = 0 then _ else _) = _
    rw [hsub, hf, if_pos rfl]
/-- two numbers with a blank between are two tokens -/
theorem scan_two (a b : List UInt8) (n m : Nat) (ha : okN a) (ha0 : ∃ c, a[0]? = some c ∧ isDig c = true) (hb : okN b) (hb0 : ∃ c, b[0]? = some c ∧ isDig c = true) (hna : numN a = some n) (hnb : numN b = some m) (hl : a.length + b.length + 1 ≤ 16384) :
    ∃ p q r, scanM (a ++ [32] ++ b) = ([(4, a, p), (4, b, q), (1, [10], r)], 0, 0, 0) := by
  obtain ⟨k1, c1, s1, e1, j1⟩ := tok_num [] a (32 :: b) n ha ha0 (.inr ⟨b, rfl⟩) hna (by omega)
  obtain ⟨k2, c2, s2, e2, j2⟩ := tok_num (a ++ [32]) b [] m hb hb0 (.inl rfl) hnb (by omega)
  have t1 : [] ++ (a ++ 32 :: b) = a ++ [32] ++ b := by simp
  have t2 : (a ++ [32]) ++ (b ++ []) = a ++ [32] ++ b := by simp
  rw [t1] at k1 c1 s1 e1 j1
  rw [t2] at k2 c2 s2 e2 j2
  have hP : (a ++ [32]).length = a.length + 1 := by simp
  rw [hP] at k2 c2 s2 e2 j2
  simp only [List.length_nil, Nat.zero_add] at k1 c1 s1 e1 j1
  have hT : (a ++ [32] ++ b).length = a.length + 1 + b.length := by simp; omega
  have hblank : kl (a ++ [32] ++ b) a.length = 2 := by
    have hbb : bt (a ++ [32] ++ b) a.length = 32 := bt_of (l := a ++ [32] ++ b) (c := 32) (by simp)
    exact kl_byte (by omega) hbb (by decide)
  have hend : kl (a ++ [32] ++ b) (a.length + 1 + b.length) = 0 := kl0.2 (by omega)
  unfold scanM
  rw [if_neg (by omega)]
  have hpa : 1 ≤ a.length := by obtain ⟨c, hc, _⟩ := ha0; exact (List.getElem?_eq_some_iff.1 hc).1
  have hpb : 1 ≤ b.length := by obtain ⟨c, hc, _⟩ := hb0; exact (List.getElem?_eq_some_iff.1 hc).1
  obtain ⟨f, hf⟩ : ∃ f, (a ++ [32] ++ b).length + 1 = f + 1 + 1 + 1 + 1 := ⟨a.length + b.length - 2, by omega⟩
  rw [hf, runM_tok (by omega) (by omega) (by omega) (by omega) e1, j1, c1]
  show ∃ p q r, runM (f + 1 + 1 + 1) (a ++ [32] ++ b) a.length 1 0 ([] ++ [(4, subL (a ++ [32] ++ b) 0 a.length, 1, _)]) = _
  rw [s1, runM_blank hblank, runM_tok (by omega) (by omega) (by omega) (by omega) e2, j2, c2]
  show ∃ p q r, runM (f + 1) (a ++ [32] ++ b) (a.length + 1 + b.length) 1 0 ([] ++ [(4, a, 1, _)] ++ [(4, subL (a ++ [32] ++ b) (a.length + 1) (a.length + 1 + b.length), 1, _)]) = _
  rw [s2, runM_end (.inr hend)]
  unfold lendM
  rw [if_pos hend]
  exact ⟨_, _, _, rfl⟩
end Go.Proofs.YtppmncmhokkfdaaDoor
namespace Go.Proofs.YtppmncmhokkfdaaDoor
open Go.RowKit Go.Shelf
theorem cat3 (a b : List UInt8) : ByteArray.mk a.toArray ++ ByteArray.mk #[32] ++ ByteArray.mk b.toArray = ⟨(a ++ [32] ++ b).toArray⟩ := ByteArray.ext (by simp)
theorem dec_l10 (n : Nat) (h : n ≤ 4294967295) : (Lib.decDigits n).length ≤ 10 := dec_short 9 n (by omega)
theorem quad_l (n : Nat) (h : n ≤ 4294967295) : (quadL n).length ≤ 43 := by
  have h1 := dec_l10 (n / 16777216) (by omega)
  have h2 := dec_l10 (n / 65536 % 256) (by omega)
  have h3 := dec_l10 (n / 256 % 256) (by omega)
  have h4 := dec_l10 (n % 256) (by omega)
  unfold quadL
  simp only [List.length_append, List.length_singleton]
  omega
set_option maxRecDepth 100000 in
set_option maxHeartbeats 2000000 in
theorem scanCounts_walk (v : Int) (w : World) (hv1 : SH w) (_ : DB w) (hv4 : SG w) (hv5 : VW w) :
    Calls Tryd.prog 6 #[.int .i64 v] w fun e w' => e = .returned (.bool true) ∧ Below w.heap.size w w' := by
  have C1 : Hid (∀ (d : Bool) (W : World), Below w.heap.size w W → Calls Tryd.prog 13 #[.int .i64 v, .bool d] W fun e w' => e = .returned (.tuple #[.string ⟨(numL v d).toArray⟩, .int .i64 (numE v)]) ∧ Below w.heap.size w w') := fun d W hW => (number_any v d W (hv5.below hW).pow).mono (fun e w' h => ⟨h.1, bel0 hW h.2⟩)
  by_cases hv : v < 0 ∨ 4294967295 < v
  · have e1 : ∀ d, numL v d = [] := fun d => if_pos hv
    have e2 : numE v = 31 := if_pos hv
    rw [e2] at C1
    have C2 : Hid (∀ (d : Bool) (W : World), Below w.heap.size w W → Calls Tryd.prog 13 #[.int .i64 v, .bool d] W fun e w' => e = .returned (.tuple #[.string ⟨#[]⟩, .int .i64 31]) ∧ Below w.heap.size w w') := fun d W hW => by
      have := C1.out d W hW
      rw [e1] at this
      exact this
    clear C1 e1 e2 hv1 hv4 hv5
    rcases hv with h | h
    · go_enter Tryd.func6, Tryd.ntmps6
      go_wp2_with fail
      refine (C2.out _ _ (Below.refl _ _)).mono ?_
      rintro e W1 ⟨rfl, hb1⟩
      go_wp2_with fail
      refine (C2.out _ _ hb1).mono ?_
      rintro e W2 ⟨rfl, hb2⟩
      go_wp2_with fail
      go_ret
      exact ⟨rfl, hb2⟩
    · have h0 : ¬ v < 0 := by omega
      go_enter Tryd.func6, Tryd.ntmps6
      go_wp2_with fail
      refine (C2.out _ _ (Below.refl _ _)).mono ?_
      rintro e W1 ⟨rfl, hb1⟩
      go_wp2_with fail
      refine (C2.out _ _ hb1).mono ?_
      rintro e W2 ⟨rfl, hb2⟩
      go_wp2_with fail
      go_ret
      exact ⟨rfl, hb2⟩
  · obtain ⟨n, rfl⟩ : ∃ n : Nat, v = n := ⟨v.toNat, by omega⟩
    have hn : n ≤ 4294967295 := by omega
    have e1 : numL (n : Int) false = Lib.decDigits n := by unfold numL; rw [if_neg hv]; rfl
    have e2 : numL (n : Int) true = quadL n := by unfold numL; rw [if_neg hv]; rfl
    have e3 : numE (n : Int) = 0 := if_neg hv
    have hla := dec_l10 n hn
    have hlb := quad_l n hn
    have hna := numN_dec n hn
    have hnb := numN_quad n hn
    obtain ⟨p, q, r, hsc⟩ := scan_two _ _ n n (okN_dec n) (dec_head n) (okN_quad n).1 (okN_quad n).2 hna hnb (by omega)
    have hval : ∀ X : List UInt8, X.length ≤ 16384 → numN X = some n → valV X = (n : Int) ∧ valE X = 0 := fun X hX hN => by
      unfold valV valE
      rw [if_neg (by omega), if_neg (by omega), hN]
      exact ⟨rfl, rfl⟩
    obtain ⟨va, ea⟩ := hval _ (by omega) hna
    obtain ⟨vb, eb⟩ := hval _ (by omega) hnb
    have A1 : Hid (∀ W : World, Below w.heap.size w W → Calls Tryd.prog 13 #[.int .i64 (n : Int), .bool false] W fun e w' => e = .returned (.tuple #[.string ⟨(Lib.decDigits n).toArray⟩, .int .i64 0]) ∧ Below w.heap.size w w') := fun W hW => by
      have := C1.out false W hW
      rw [e1, e3] at this
      exact this
    have A2 : Hid (∀ W : World, Below w.heap.size w W → Calls Tryd.prog 13 #[.int .i64 (n : Int), .bool true] W fun e w' => e = .returned (.tuple #[.string ⟨(quadL n).toArray⟩, .int .i64 0]) ∧ Below w.heap.size w w') := fun W hW => by
      have := C1.out true W hW
      rw [e2, e3] at this
      exact this
    have A3 : Hid (∀ W : World, Below w.heap.size w W → Calls Tryd.prog 14 #[.string ⟨(Lib.decDigits n).toArray⟩] W fun e w' => e = .returned (.tuple #[.int .i64 (n : Int), .int .i64 0]) ∧ Below w.heap.size w w') := fun W hW => by
      have := value_any (Lib.decDigits n) W (by omega) (hv5.below hW)
      rw [va, ea] at this
      exact this.mono (fun e w' h => ⟨h.1, bel0 hW h.2⟩)
    have A4 : Hid (∀ W : World, Below w.heap.size w W → Calls Tryd.prog 14 #[.string ⟨(quadL n).toArray⟩] W fun e w' => e = .returned (.tuple #[.int .i64 (n : Int), .int .i64 0]) ∧ Below w.heap.size w w') := fun W hW => by
      have := value_any (quadL n) W (by omega) (hv5.below hW)
      rw [vb, eb] at this
      exact this.mono (fun e w' h => ⟨h.1, bel0 hW h.2⟩)
    have A5 : Hid (∀ W : World, Below w.heap.size w W → Calls Tryd.prog 7 #[.string ⟨(Lib.decDigits n ++ [32] ++ quadL n).toArray⟩] W fun e w' => ∃ v, e = .returned (.tuple #[v, .int .i64 0, .int .i64 0, .int .i64 0]) ∧ w'.ownsRow W.heap.size 29 4 v 3 (tcels [(4, Lib.decDigits n, p), (4, quadL n, q), (1, [10], r)]) ∧ Below w.heap.size w w') := fun W hW => by
      have h := scan_any (Lib.decDigits n ++ [32] ++ quadL n) W (by simp; omega) (hv1.below hW) (hv4.below hW) (FOK_of (hv5.below hW))
      unfold scR at h
      rw [hsc] at h
      exact h.mono (fun e w' ⟨v, h1, h2, h3⟩ => ⟨v, h1, h2, bel0 hW h3⟩)
    obtain ⟨a, ha⟩ : ∃ a, Lib.decDigits n = a := ⟨_, rfl⟩
    obtain ⟨b, hb⟩ : ∃ b, quadL n = b := ⟨_, rfl⟩
    rw [ha] at A1 A3 A5
    rw [hb] at A2 A4 A5
    rw [ha] at hla
    rw [hb] at hlb
    have h0 : ¬ (n : Int) < 0 := by omega
    have h1 : ¬ (4294967295 : Int) < (n : Int) := by omega
    obtain ⟨T, hT⟩ : ∃ T : ByteArray, (ByteArray.mk a.toArray ++ ByteArray.mk #[32] ++ ByteArray.mk b.toArray) = T := ⟨_, rfl⟩
    rw [← cat3, hT] at A5
    clear C1 e1 e2 e3 hna hnb hsc hval va ea vb eb ha hb hv hn hv1 hv4 hv5
    go_enter Tryd.func6, Tryd.ntmps6
    go_wp2_with fail
    refine (A1.out _ (Below.refl _ _)).mono ?_
    rintro e W1 ⟨rfl, hb1⟩
    go_wp2_with fail
    refine (A2.out _ hb1).mono ?_
    rintro e W2 ⟨rfl, hb2⟩
    go_wp2_with fail
    refine (A3.out _ hb2).mono ?_
    rintro e W3 ⟨rfl, hb3⟩
    go_wp2_with fail
    refine (A4.out _ hb3).mono ?_
    rintro e W4 ⟨rfl, hb4⟩
    go_wp2_with fail
    refine (A5.out _ hb4).mono ?_
    rintro e W5 ⟨v, rfl, ho, hb5⟩
    obtain ⟨g, cap, rfl⟩ := own_form ho (by decide)
    obtain ⟨x0, x1, -, -⟩ := tok_cell (D := [(4, a, p), (4, b, q), (1, [10], r)]) (k := 0) ho rfl
    obtain ⟨y0, y1, -, -⟩ := tok_cell (D := [(4, a, p), (4, b, q), (1, [10], r)]) (k := 1) ho rfl
    simp only [Nat.zero_mul, Nat.zero_add, Nat.one_mul, Nat.reduceAdd] at x0 x1 y0 y1
    clear ho
    go_wp2_with fail
    go_ret
    exact ⟨rfl, hb5⟩
end Go.Proofs.YtppmncmhokkfdaaDoor

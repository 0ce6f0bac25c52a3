import Derived.Test.YtnboehlbcjfndaaGreatDoorZZA
namespace Go.Proofs.YtnboehlbcjfndaaGreatDoor
open Go.RowKit
set_option maxRecDepth 100000 in
set_option maxHeartbeats 4000000 in
theorem full_any (bt : List UInt8) (mk : Int) (p1 p2 : Option Addr) (n1 c1 n2 c2 B1 B2 mark : Nat) (w : World) (h1 : OWZ 9 w B1 (.slice p1 n1 c1) (List.replicate n1 (.string ⟨bt.toArray⟩))) (h2 : OWZ 3 w B2 (.slice p2 n2 c2) (List.replicate n2 (.int .i64 mk))) (hN1 : n1 ≤ 8600000000) (hN2 : n2 ≤ 8600000000) (hm : mark ≤ 100000) (hmk : mk = -1 - (mark : Int))
    (hB : ∀ W, Calls Tryz.prog 37 #[.int .i64 (mark : Int), .int .i64 12] W fun e w' => e = .returned (.string ⟨bt.toArray⟩) ∧ Below W.heap.size W w') :
    Calls Tryz.prog 38 #[.slice p1 n1 c1, .slice p2 n2 c2, .int .i64 (mark : Int)] w fun e w' => e = .returned (.bool true) ∧ Below w.heap.size w w' := by
  have hmk1 : IntKind.i64.wrap (-1 - (mark : Int)) = mk := by rw [IntKind.wrap_i64]; omega
  have HB := hB w
  have HH : Hid (OWZ 9 w B1 (.slice p1 n1 c1) (List.replicate n1 (.string ⟨bt.toArray⟩)) ∧ OWZ 3 w B2 (.slice p2 n2 c2) (List.replicate n2 (.int .i64 mk))) := ⟨h1, h2⟩
  clear h1 h2 hB hmk
  go_enter Tryz.func38, Tryz.ntmps38
  go_wp2_with fail
  refine HB.mono ?_
  rintro e w1 ⟨rfl, hb1⟩
  have H0 : Hid (Below w.heap.size w w1) := hb1
  clear HB hb1
  go_wp2_with fail
  go_loopw [8] (fun v8 wr => ∃ i : Nat, v8 = .int .i64 (i : Int) ∧ i ≤ n1 ∧ Hid (Below w.heap.size w wr)) (fun v8 _ => n1 - (intOf v8).toNat)
  case atStart => exact ⟨0, rfl, Nat.zero_le _, H0⟩
  case round =>
    clear H0
    rename World => wr
    obtain ⟨i, rfl, hi, HR⟩ := hrel
    by_cases hlt : i < n1
    · have i0 : (0 : Int) ≤ (i : Int) := by omega
      have i1 : (i : Int) < (n1 : Int) := by omega
      obtain ⟨g, rfl, hc, -⟩ := (HH.out.1.below HR.out).cell (j := i) (u := .string ⟨bt.toArray⟩) (by rw [List.getElem?_replicate, if_pos hlt])
      go_wp2_with fail
      go_roundw
      case rel => exact ⟨i + 1, by go_num, by omega, HR⟩
      case measure => simp [intOf]; omega
    · have i1 : ¬ (i : Int) < (n1 : Int) := by omega
      have H0 := HR
      clear HR hi hlt
      go_wp2_with fail
      go_loopw [9] (fun v9 wr => ∃ i : Nat, v9 = .int .i64 (i : Int) ∧ i ≤ n2 ∧ Hid (Below w.heap.size w wr)) (fun v9 _ => n2 - (intOf v9).toNat)
      case atStart => exact ⟨0, rfl, Nat.zero_le _, H0⟩
      case round =>
        clear H0
        rename World => wr
        obtain ⟨i, rfl, hi, HR⟩ := hrel
        by_cases hlt : i < n2
        · have i0 : (0 : Int) ≤ (i : Int) := by omega
          have i1 : (i : Int) < (n2 : Int) := by omega
          obtain ⟨g, rfl, hc, -⟩ := (HH.out.2.below HR.out).cell (j := i) (u := .int .i64 mk) (by rw [List.getElem?_replicate, if_pos hlt])
          go_wp2_with fail
          go_roundw
          case rel => exact ⟨i + 1, by go_num, by omega, HR⟩
          case measure => simp [intOf]; omega
        · have i1 : ¬ (i : Int) < (n2 : Int) := by omega
          have H0 := HR
          clear HR hi hlt
          go_wp2_with fail
          go_ret
          exact ⟨rfl, H0.out⟩
/-- an entry of the book -/
structure KB where
  p1 : Option Addr
  c1 : Nat
  n1 : Nat
  q1 : Option Addr
  d1 : Nat
  p2 : Option Addr
  c2 : Nat
  n2 : Nat
  q2 : Option Addr
  d2 : Nat
def KB.vs (e : KB) (j : Nat) : List Value := [.slice e.p1 e.n1 e.c1, .slice e.q1 (e.n1 + 64) e.d1, .slice e.p2 e.n2 e.c2, .slice e.q2 (e.n2 + 64) e.d2, .int .i64 (j : Int)]
def mkZ (j : Nat) : Int := -1 - (j : Int)
/-- what an entry's lists hold -/
structure KP (bt : Nat → List UInt8) (W : World) (B : Nat) (e : KB) (j : Nat) : Prop where
  l1 : OWZ 9 W B (.slice e.p1 e.n1 e.c1) (List.replicate e.n1 (.string ⟨(bt j).toArray⟩))
  g1 : OWZ 9 W B (.slice e.q1 (e.n1 + 64) e.d1) (List.replicate (e.n1 + 64) (.string ⟨(bt j).toArray⟩))
  l2 : OWZ 3 W B (.slice e.p2 e.n2 e.c2) (List.replicate e.n2 (.int .i64 (mkZ j)))
  g2 : OWZ 3 W B (.slice e.q2 (e.n2 + 64) e.d2) (List.replicate (e.n2 + 64) (.int .i64 (mkZ j)))
  s1 : e.n1 ≤ 8589934592
  s2 : e.n2 ≤ 8589934592
theorem KP.below {bt : Nat → List UInt8} {W X : World} {B : Nat} {e : KB} {j : Nat} (h : KP bt W B e j) (hb : Below W.heap.size W X) : KP bt X B e j := ⟨h.l1.below hb, h.g1.below hb, h.l2.below hb, h.g2.below hb, h.s1, h.s2⟩
/-- the book's cells -/
def BKZ (xs : List Value) (K : List KB) : Prop := ∀ (j : Nat) (e : KB), K[j]? = some e → xs[5 * j]? = some (.slice e.p1 e.n1 e.c1) ∧ xs[5 * j + 1]? = some (.slice e.q1 (e.n1 + 64) e.d1) ∧ xs[5 * j + 2]? = some (.slice e.p2 e.n2 e.c2) ∧ xs[5 * j + 3]? = some (.slice e.q2 (e.n2 + 64) e.d2) ∧ xs[5 * j + 4]? = some (.int .i64 (j : Int))
theorem own_atZ {W : World} {B : Nat} {e : TypeId} {s g n c m : Nat} {xs : List Value} {j : Nat} {u : Value} (h : W.ownsRow B e s (.slice (some ⟨g, 0, none⟩) n c) m xs) (hu : xs[j]? = some u) : W.cell? ⟨g, j, none⟩ = some u := by
  have := World.ownsRow.cells h (g := g) rfl j u hu
  have hadd : (⟨g, 0, none⟩ : Addr).add j = ⟨g, j, none⟩ := by unfold Addr.add; split <;> simp_all
  rw [hadd] at this
  exact this
theorem own_someZ {W : World} {B : Nat} {e : TypeId} {s n c : Nat} {p : Option Addr} {m : Nat} {xs : List Value} (h : W.ownsRow B e s (.slice p n c) m xs) (hm : m ≠ 0) : ∃ g, p = some ⟨g, 0, none⟩ := by
  rcases h.2 with ⟨e, h2⟩ | ⟨g, c2, cur, e, _⟩
  · exact absurd h2 hm
  · injection e with e _ _
    exact ⟨g, e⟩
theorem bkz_at {W : World} {B : Nat} {g n c m : Nat} {xs : List Value} {K : List KB} {k : Nat} {e : KB} (h : W.ownsRow B 49 5 (.slice (some ⟨g, 0, none⟩) n c) m xs) (hx : BKZ xs K) (he : K[k]? = some e) : W.cell? ⟨g, k * 5, none⟩ = some (.slice e.p1 e.n1 e.c1) ∧ W.cell? ⟨g, k * 5 + 1, none⟩ = some (.slice e.q1 (e.n1 + 64) e.d1) ∧ W.cell? ⟨g, k * 5 + 2, none⟩ = some (.slice e.p2 e.n2 e.c2) ∧ W.cell? ⟨g, k * 5 + 3, none⟩ = some (.slice e.q2 (e.n2 + 64) e.d2) ∧ W.cell? ⟨g, k * 5 + 4, none⟩ = some (.int .i64 (k : Int)) := by
  obtain ⟨h1, h2, h3, h4, h5⟩ := hx k e he
  rw [Nat.mul_comm k 5]
  exact ⟨own_atZ h h1, own_atZ h h2, own_atZ h h3, own_atZ h h4, own_atZ h h5⟩
set_option maxRecDepth 100000 in
set_option maxHeartbeats 4000000 in
theorem seen_any (bt : Nat → List UInt8) (K : List KB) (xs : List Value) (p : Option Addr) (nb c B B2 : Nat) (w : World) (hn : K.length = nb) (hN : nb ≤ 100000) (ho : w.ownsRow B2 49 5 (.slice p nb c) nb xs) (hx : BKZ xs K) (hk : ∀ (j : Nat) (e : KB), K[j]? = some e → KP bt w B e j)
    (hB : ∀ (j : Nat) (W : World), j ≤ 100000 → Calls Tryz.prog 37 #[.int .i64 (j : Int), .int .i64 12] W fun e w' => e = .returned (.string ⟨(bt j).toArray⟩) ∧ Below W.heap.size W w') :
    Calls Tryz.prog 21 #[.slice p nb c] w fun e w' => e = .returned (.bool true) ∧ Below w.heap.size w w' := by
  have HH : Hid (K.length = nb ∧ w.ownsRow B2 49 5 (.slice p nb c) nb xs ∧ BKZ xs K ∧ (∀ (j : Nat) (e : KB), K[j]? = some e → KP bt w B e j) ∧ (∀ (j : Nat) (W : World), j ≤ 100000 → Calls Tryz.prog 37 #[.int .i64 (j : Int), .int .i64 12] W fun e w' => e = .returned (.string ⟨(bt j).toArray⟩) ∧ Below W.heap.size W w')) := ⟨hn, ho, hx, hk, hB⟩
  clear hn ho hx hk hB
  go_enter Tryz.func21, Tryz.ntmps21
  go_wp2_with fail
  go_loopw [3] (fun v3 wr => ∃ i : Nat, v3 = .int .i64 (i : Int) ∧ i ≤ nb ∧ Hid (Below w.heap.size w wr)) (fun v3 _ => nb - (intOf v3).toNat)
  case atStart => exact ⟨0, rfl, Nat.zero_le _, Below.refl _ _⟩
  case round =>
    obtain ⟨i, rfl, hi, HR⟩ := hrel
    by_cases hlt : i < nb
    · have i0 : (0 : Int) ≤ (i : Int) := by omega
      have i1 : (i : Int) < (nb : Int) := by omega
      obtain ⟨e, he⟩ : ∃ e, K[i]? = some e := ⟨_, List.getElem?_eq_getElem (by rw [HH.out.1]; exact hlt)⟩
      obtain ⟨g, rfl⟩ := own_someZ HH.out.2.1 (by omega)
      obtain ⟨s0, s1, s2, s3, s4⟩ := bkz_at (own_belZ HH.out.2.1 HR.out) HH.out.2.2.1 he
      have hkp := (HH.out.2.2.2.1 i e he).below HR.out
      obtain ⟨p1, c1, n1, q1, d1, p2, c2, n2, q2, d2⟩ := e
      simp only at s0 s1 s2 s3 s4
      have HF : Hid (∀ W, Below wr.heap.size wr W → Calls Tryz.prog 38 #[.slice p1 n1 c1, .slice p2 n2 c2, .int .i64 (i : Int)] W fun e w' => e = .returned (.bool true) ∧ Below W.heap.size W w') := fun W hW => full_any (bt i) (mkZ i) p1 p2 n1 c1 n2 c2 B B i W (hkp.below hW).l1 (hkp.below hW).l2 (Nat.le_trans hkp.s1 (by omega)) (Nat.le_trans hkp.s2 (by omega)) (by omega) rfl (fun W => HH.out.2.2.2.2 i W (by omega))
      have HG : Hid (∀ W, Below wr.heap.size wr W → Calls Tryz.prog 38 #[.slice q1 (n1 + 64) d1, .slice q2 (n2 + 64) d2, .int .i64 (i : Int)] W fun e w' => e = .returned (.bool true) ∧ Below W.heap.size W w') := fun W hW => full_any (bt i) (mkZ i) q1 q2 (n1 + 64) d1 (n2 + 64) d2 B B i W (hkp.below hW).g1 (hkp.below hW).g2 (by have : n1 ≤ 8589934592 := hkp.s1; omega) (by have : n2 ≤ 8589934592 := hkp.s2; omega) (by omega) rfl (fun W => HH.out.2.2.2.2 i W (by omega))
      clear he hkp
      go_wp2_with fail
      refine (HF.out _ (belAZ (Below.refl _ _) _)).mono ?_
      rintro e y1 ⟨rfl, hb1⟩
      have k1 := (cellsZ (keepZ hb1 (alloc_getZ _ _))).1
      have HB1 : Hid (Below wr.heap.size wr y1) := bel0Z (belAZ (Below.refl _ _) _) hb1
      clear hb1 s0 s1 s2 s3 s4
      go_wp2_with fail
      refine (HG.out _ HB1.out).mono ?_
      rintro e y2 ⟨rfl, hb2⟩
      have HX : Hid (Below w.heap.size w y2) := bel0Z HR.out (bel0Z HB1.out hb2)
      clear hb2 k1 HF HG HB1
      go_wp2_with fail
      go_roundw
      case rel => exact ⟨i + 1, by go_num, by omega, HX⟩
      case measure => simp [intOf]; omega
    · have i1 : ¬ (i : Int) < (nb : Int) := by omega
      go_wp2_with fail
      go_ret
      exact ⟨rfl, HR.out⟩
end Go.Proofs.YtnboehlbcjfndaaGreatDoor
namespace Go.Proofs.YtnboehlbcjfndaaGreatDoor
open Go.RowKit
/-- one more at the end of a row of one's own: in its block, or in a new one -/
theorem appZ {T TS : TypeId} {i0 : TypeInfo} {z : Value} {s by_ : Nat} {W : World} {B nb : Nat} {v : Value} {n : Nat} {xs news : List Value} (ty : TypeId) (hu : Tryz.prog.underlying TS = some (.slice T)) (hi : Tryz.prog.info? T = some i0) (hz0 : i0.zero = some z) (hz1 : i0.size = s) (hz2 : i0.bytes = by_) (hzc : z.cells.size = s) (hs : 0 < s) (h : W.ownsRow B T s v n xs) (hB : B ≤ W.heap.size) (hl : news.length = 1 * s) (hnews : ∀ (j : Nat) (u : Value), news[j]? = some u → W.cell? ((⟨nb, 0, none⟩ : Addr).add j) = some u) (hone : ∀ u ∈ news, u.oneCell' = true) (hlen : n ≤ 100000) (hby : by_ ≤ 1000) :
    ∃ v' W', (Builtin.append_ #[TS, TS] ty #[v, .slice (some ⟨nb, 0, none⟩) 1 1]).run Tryz.prog W = .ok v' W' ∧ W'.ownsRow B T s v' (n + 1) (xs ++ news) ∧ W.grownBy W' v.ownBlock ∧ (v'.ownBlock = v.ownBlock ∨ ∀ b, v'.ownBlock = some b → W.heap.size ≤ b) := by
  have hb1 : (n + 1) * by_ ≤ 140737488355328 := Nat.le_trans (Nat.mul_le_mul (show _ ≤ 100001 by omega) hby) (by decide)
  have hml : n + 1 ≤ maxLen := by unfold maxLen; omega
  have h0 := h
  rcases h0.2 with ⟨rfl, rfl⟩ | ⟨g, c, cur, rfl, _⟩
  · have hx : xs = [] := List.eq_nil_of_length_eq_zero (by rw [h.1]; omega)
    subst hx
    obtain ⟨v', W', hr, o2, g2, -⟩ := run_append_own_at (P := Tryz.prog) W W.heap.size TS ty T i0 z s by_ hu hi hz0 hz1 hz2 hzc hs (.slice none 0 0) 0 [] (World.ownsRow_nil _ _ _ _) ⟨nb, 0, none⟩ 1 1 news hl hnews hone hml hb1 (Nat.le_refl _)
    exact ⟨v', W', hr, own_baseZ o2 hB, g2, .inr (fun b e => (World.ownsRow.lt o2 b e).1)⟩
  · by_cases room : n + 1 ≤ c
    · obtain ⟨W', hr, o2, g2⟩ := run_append_fits (P := Tryz.prog) W B TS ty T i0 s hu hi hz1 g _ c _ h ⟨nb, 0, none⟩ 1 1 news hl hnews hone room
      exact ⟨_, W', hr, o2, g2, .inl rfl⟩
    · obtain ⟨v', W', hr, o2, g2⟩ := run_append_arg_grows (P := Tryz.prog) W TS ty T i0 z s by_ hu hi hz0 hz1 hz2 hzc hs ⟨g, 0, none⟩ n c xs h.1 (World.ownsRow.cells h rfl) ⟨nb, 0, none⟩ 1 1 news hl hnews (by omega) hml hb1
      exact ⟨v', W', hr, own_baseZ o2 hB, ⟨g2.1, g2.2, g2.3, g2.4, fun k hk _ => g2.5 k hk (by simp)⟩, .inr (fun b e => (World.ownsRow.lt o2 b e).1)⟩
/-- an answer that is held, and its copy -/
structure HZ where
  p1 : Option Addr
  c1 : Nat
  p2 : Option Addr
  c2 : Nat
  L : List (List UInt8)
  V : List Int
def HZ.vs (e : HZ) : List Value := [.slice e.p1 e.L.length e.c1, .slice none 0 0, .slice e.p2 e.V.length e.c2, .slice none 0 0, .int .i64 0]
def hvs (H : List HZ) : List Value := H.flatMap HZ.vs
theorem hvs_snoc (H : List HZ) (e : HZ) : hvs (H ++ [e]) = hvs H ++ e.vs := by simp [hvs, List.flatMap_append]
theorem hvs_at : ∀ (H : List HZ) (i : Nat) (e : HZ), H[i]? = some e → (hvs H)[i * 5]? = some (.slice e.p1 e.L.length e.c1) ∧ (hvs H)[i * 5 + 1]? = some (.slice none 0 0) ∧ (hvs H)[i * 5 + 2]? = some (.slice e.p2 e.V.length e.c2) ∧ (hvs H)[i * 5 + 3]? = some (.slice none 0 0) ∧ (hvs H)[i * 5 + 4]? = some (.int .i64 0)
  | [], i, e, h => by simp at h
  | Y :: r, 0, e, h => by
    have e1 : Y = e := by simpa using h
    subst e1
    exact ⟨rfl, rfl, rfl, rfl, rfl⟩
  | Y :: r, i + 1, e, h => by
    have ih := hvs_at r i e (by simpa using h)
    have e1 : hvs (Y :: r) = Y.vs ++ hvs r := rfl
    have l : Y.vs.length = 5 := rfl
    rw [e1, show (i + 1) * 5 = i * 5 + 5 by omega]
    refine ⟨?_, ?_, ?_, ?_, ?_⟩
    · rw [List.getElem?_append_right (by omega), l, show i * 5 + 5 - 5 = i * 5 by omega]; exact ih.1
    · rw [List.getElem?_append_right (by omega), l, show i * 5 + 5 + 1 - 5 = i * 5 + 1 by omega]; exact ih.2.1
    · rw [List.getElem?_append_right (by omega), l, show i * 5 + 5 + 2 - 5 = i * 5 + 2 by omega]; exact ih.2.2.1
    · rw [List.getElem?_append_right (by omega), l, show i * 5 + 5 + 3 - 5 = i * 5 + 3 by omega]; exact ih.2.2.2.1
    · rw [List.getElem?_append_right (by omega), l, show i * 5 + 5 + 4 - 5 = i * 5 + 4 by omega]; exact ih.2.2.2.2
/-- its lists -/
structure HO (W : World) (B : Nat) (e : HZ) : Prop where
  l : OWZ 9 W B (.slice e.p1 e.L.length e.c1) (stZ e.L)
  v : OWZ 3 W B (.slice e.p2 e.V.length e.c2) (inZ e.V)
  s1 : e.L.length ≤ 8589934592
  s2 : e.V.length ≤ 8589934592
theorem HO.below {W X : World} {B : Nat} {e : HZ} (h : HO W B e) (hb : Below W.heap.size W X) : HO X B e := ⟨h.l.below hb, h.v.below hb, h.s1, h.s2⟩
/-- a book's row that grows touches no list -/
theorem HO.grow {W X : World} {B B2 : Nat} {e : HZ} {v : Value} {n : Nat} {xs : List Value} (h : HO W B e) (ho : W.ownsRow B2 49 5 v n xs) (hg : W.grownBy X v.ownBlock) : HO X B e := ⟨h.l.kept hg (own_neZ h.l ho (by decide)), h.v.kept hg (own_neZ h.v ho (by decide)), h.s1, h.s2⟩
theorem KP.grow {bt : Nat → List UInt8} {W X : World} {B B2 : Nat} {e : KB} {j : Nat} {v : Value} {n : Nat} {xs : List Value} (h : KP bt W B e j) (ho : W.ownsRow B2 49 5 v n xs) (hg : W.grownBy X v.ownBlock) : KP bt X B e j := ⟨h.l1.kept hg (own_neZ h.l1 ho (by decide)), h.g1.kept hg (own_neZ h.g1 ho (by decide)), h.l2.kept hg (own_neZ h.l2 ho (by decide)), h.g2.kept hg (own_neZ h.g2 ho (by decide)), h.s1, h.s2⟩
/-- what kept leaves is an entry of the book -/
theorem KPZ.kp {bt : Nat → List UInt8} {j B n1 n2 c1 c2 d1 d2 : Nat} {p1 p2 q1 q2 : Option Addr} {w X : World} (h : KPZ (bt j) (mkZ j) B n1 n2 (.slice p1 n1 c1) (.slice q1 (n1 + 64) d1) (.slice p2 n2 c2) (.slice q2 (n2 + 64) d2) w X) (hB : B ≤ w.heap.size) (s1 : n1 ≤ 8589934592) (s2 : n2 ≤ 8589934592) : KP bt X B ⟨p1, c1, n1, q1, d1, p2, c2, n2, q2, d2⟩ j := by
  obtain ⟨a, b, -⟩ := h
  obtain ⟨a1, a2⟩ := a.own hB
  obtain ⟨b1, b2⟩ := b.own hB
  rw [List.replicate_append_replicate] at a2 b2
  exact ⟨a1, a2, b1, b2, s1, s2⟩
end Go.Proofs.YtnboehlbcjfndaaGreatDoor
namespace Go.Proofs.YtnboehlbcjfndaaGreatDoor
open Go.RowKit
/-- two values have no block in common -/
def disR (x y : Value) : Prop := ∀ b, x.ownBlock = some b → y.ownBlock ≠ some b
theorem disR.off {x y : Value} (h : disR x y) : offZ x.ownBlock y := by
  cases hx : x.ownBlock with
  | none => cases hy : y.ownBlock with
    | none => exact .inl hy
    | some b => exact .inr (by rw [hy]; intro e; cases e)
  | some b => exact .inr (h b hx)
theorem disR.symm {x y : Value} (h : disR x y) : disR y x := fun b h1 h2 => h b h2 h1
theorem disR.fresh {x y : Value} {N : Nat} (h1 : ∀ b, x.ownBlock = some b → b < N) (h2 : ∀ b, y.ownBlock = some b → N ≤ b) : disR x y := fun b e1 e2 => by
  have := h1 b e1
  have := h2 b e2
  omega
def HZ.a (e : HZ) : Value := .slice e.p1 e.L.length e.c1
def HZ.b (e : HZ) : Value := .slice e.p2 e.V.length e.c2
/-- no list of a book's entry is one of these -/
def KDR (k : KB) (x y : Value) : Prop := disR x (.slice k.p1 k.n1 k.c1) ∧ disR x (.slice k.q1 (k.n1 + 64) k.d1) ∧ disR y (.slice k.p2 k.n2 k.c2) ∧ disR y (.slice k.q2 (k.n2 + 64) k.d2)
theorem at_snoc {α : Type} {K : List α} {e f : α} {j : Nat} (h : (K ++ [e])[j]? = some f) : K[j]? = some f ∨ (j = K.length ∧ f = e) := by
  by_cases hj : j < K.length
  · rw [List.getElem?_append_left hj] at h
    exact .inl h
  · rw [List.getElem?_append_right (by omega)] at h
    have hj0 : j - K.length = 0 := by
      have := (List.getElem?_eq_some_iff.1 h).1
      simp at this
      omega
    rw [hj0] at h
    exact .inr ⟨by omega, by simpa using h.symm⟩
/-- what stands while the answers are gathered: held, their copies, and the book -/
structure PS (bt : Nat → List UInt8) (wP W : World) (H S : List HZ) (K : List KB) (hv sv bv : Value) : Prop where
  oh : W.ownsRow wP.heap.size 49 5 hv H.length (hvs H)
  osx : W.ownsRow wP.heap.size 49 5 sv S.length (hvs S)
  ob : ∃ xs, W.ownsRow wP.heap.size 49 5 bv K.length xs ∧ BKZ xs K
  hh : ∀ (j : Nat) (e : HZ), H[j]? = some e → HO W wP.heap.size e
  ss : ∀ (j : Nat) (e : HZ), S[j]? = some e → HO W wP.heap.size e
  kk : ∀ (j : Nat) (e : KB), K[j]? = some e → KP bt W wP.heap.size e j
  r1 : disR hv sv
  r2 : disR hv bv
  r3 : disR sv bv
  hp : ∀ (i j : Nat) (e f : HZ), i ≠ j → H[i]? = some e → H[j]? = some f → disR e.a f.a ∧ disR e.b f.b
  hk : ∀ (i j : Nat) (e : HZ) (k : KB), H[i]? = some e → K[j]? = some k → KDR k e.a e.b
  be : Below wP.heap.size wP W
theorem PS.start (bt : Nat → List UInt8) (wP : World) : PS bt wP wP [] [] [] (.slice none 0 0) (.slice none 0 0) (.slice none 0 0) :=
  ⟨World.ownsRow_nil _ _ _ _, World.ownsRow_nil _ _ _ _, ⟨[], World.ownsRow_nil _ _ _ _, fun j e h => by simp at h⟩, fun j e h => by simp at h, fun j e h => by simp at h, fun j e h => by simp at h, (fun b h => by cases h), (fun b h => by cases h), (fun b h => by cases h), (fun i j e f _ h _ => by simp at h), (fun i j e k h _ => by simp at h), Below.refl _ _⟩
theorem PS.below {bt : Nat → List UInt8} {wP W X : World} {H S : List HZ} {K : List KB} {hv sv bv : Value} (h : PS bt wP W H S K hv sv bv) (hb : Below W.heap.size W X) : PS bt wP X H S K hv sv bv := by
  obtain ⟨a1, a2, ⟨xs, a3, a4⟩, a5, a6, a7, a8, a9, a10, a11, a12, a13⟩ := h
  exact ⟨own_belZ a1 hb, own_belZ a2 hb, ⟨xs, own_belZ a3 hb, a4⟩, fun j e he => (a5 j e he).below hb, fun j e he => (a6 j e he).below hb, fun j e he => (a7 j e he).below hb, a8, a9, a10, a11, a12, bel0Z a13 hb⟩
theorem HO.lta {W : World} {B : Nat} {e : HZ} (h : HO W B e) : (∀ b, e.a.ownBlock = some b → B ≤ b ∧ b < W.heap.size) ∧ (∀ b, e.b.ownBlock = some b → B ≤ b ∧ b < W.heap.size) := ⟨h.l.lt, h.v.lt⟩
/-- one more is held -/
theorem PS.held {bt : Nat → List UInt8} {wP W0 W X : World} {H S : List HZ} {K : List KB} {hv sv bv hv2 : Value} {e : HZ} (h0 : PS bt wP W0 H S K hv sv bv) (hb : Below W0.heap.size W0 W) (he : HO W W0.heap.size e) (ho : X.ownsRow wP.heap.size 49 5 hv2 (H.length + 1) (hvs H ++ e.vs)) (hg : W.grownBy X hv.ownBlock) (hn : hv2.ownBlock = hv.ownBlock ∨ ∀ b, hv2.ownBlock = some b → W.heap.size ≤ b) : PS bt wP X (H ++ [e]) S K hv2 sv bv := by
  have h := h0.below hb
  obtain ⟨xs, b1, b2⟩ := h.ob
  have fr : ∀ {v : Value}, disR hv v → (∀ b, v.ownBlock = some b → b < W.heap.size) → disR hv2 v := fun hd hl b e1 e2 => by
    rcases hn with hn | hn
    · exact hd b (by rw [← hn]; exact e1) e2
    · have := hn b e1
      have := hl b e2
      omega
  have hwP : wP.heap.size ≤ W0.heap.size := h0.be.size
  have he' : HO W wP.heap.size e := ⟨he.l.base hwP, he.v.base hwP, he.s1, he.s2⟩
  refine ⟨by rw [List.length_append, hvs_snoc]; exact ho, h.osx.kept hg h.r1.off, ⟨xs, b1.kept hg h.r2.off, b2⟩, fun j f hf => ?_, fun j f hf => (h.ss j f hf).grow h.oh hg, fun j k hk => (h.kk j k hk).grow h.oh hg, fr h.r1 (fun b e => (h.osx.lt b e).2), fr h.r2 (fun b e => (b1.lt b e).2), h.r3, fun i j f g hij hf hg2 => ?_, fun i j f k hf hk => ?_, bel_grZ h.be hg (fun k e => (h.oh.lt k e).1)⟩
  · rcases at_snoc hf with hf | ⟨-, rfl⟩
    · exact (h.hh j f hf).grow h.oh hg
    · exact he'.grow h.oh hg
  · rcases at_snoc hf with hf1 | ⟨i1, i2⟩
    · rcases at_snoc hg2 with hg1 | ⟨j1, j2⟩
      · exact h.hp i j f g hij hf1 hg1
      · subst j2
        have o := (h0.hh i f hf1).lta
        exact ⟨disR.fresh (fun b e => (o.1 b e).2) (fun b e => (he.lta.1 b e).1), disR.fresh (fun b e => (o.2 b e).2) (fun b e => (he.lta.2 b e).1)⟩
    · rcases at_snoc hg2 with hg1 | ⟨j1, j2⟩
      · subst i2
        have o := (h0.hh j g hg1).lta
        exact ⟨(disR.fresh (fun b e => (o.1 b e).2) (fun b e => (he.lta.1 b e).1)).symm, (disR.fresh (fun b e => (o.2 b e).2) (fun b e => (he.lta.2 b e).1)).symm⟩
      · omega
  · rcases at_snoc hf with hf1 | ⟨i1, i2⟩
    · exact h.hk i j f k hf1 hk
    · subst i2
      have o := h0.kk j k hk
      exact ⟨(disR.fresh (fun b e => (o.l1.lt b e).2) (fun b e => (he.lta.1 b e).1)).symm, (disR.fresh (fun b e => (o.g1.lt b e).2) (fun b e => (he.lta.1 b e).1)).symm, (disR.fresh (fun b e => (o.l2.lt b e).2) (fun b e => (he.lta.2 b e).1)).symm, (disR.fresh (fun b e => (o.g2.lt b e).2) (fun b e => (he.lta.2 b e).1)).symm⟩
/-- one copy more -/
theorem PS.was {bt : Nat → List UInt8} {wP W X : World} {H S : List HZ} {K : List KB} {hv sv bv sv2 : Value} {e : HZ} {B : Nat} (h : PS bt wP W H S K hv sv bv) (he : HO W B e) (hB : wP.heap.size ≤ B) (ho : X.ownsRow wP.heap.size 49 5 sv2 (S.length + 1) (hvs S ++ e.vs)) (hg : W.grownBy X sv.ownBlock) (hn : sv2.ownBlock = sv.ownBlock ∨ ∀ b, sv2.ownBlock = some b → W.heap.size ≤ b) : PS bt wP X H (S ++ [e]) K hv sv2 bv := by
  obtain ⟨xs, b1, b2⟩ := h.ob
  have fr : ∀ {v : Value}, disR sv v → (∀ b, v.ownBlock = some b → b < W.heap.size) → disR sv2 v := fun hd hl b e1 e2 => by
    rcases hn with hn | hn
    · exact hd b (by rw [← hn]; exact e1) e2
    · have := hn b e1
      have := hl b e2
      omega
  have he' : HO W wP.heap.size e := ⟨he.l.base hB, he.v.base hB, he.s1, he.s2⟩
  refine ⟨h.oh.kept hg h.r1.symm.off, by rw [List.length_append, hvs_snoc]; exact ho, ⟨xs, b1.kept hg h.r3.off, b2⟩, fun j f hf => (h.hh j f hf).grow h.osx hg, fun j f hf => ?_, fun j k hk => (h.kk j k hk).grow h.osx hg, (fr h.r1.symm (fun b e => (h.oh.lt b e).2)).symm, h.r2, fr h.r3 (fun b e => (b1.lt b e).2), h.hp, h.hk, bel_grZ h.be hg (fun k e => (h.osx.lt k e).1)⟩
  rcases at_snoc hf with hf | ⟨-, rfl⟩
  · exact (h.ss j f hf).grow h.osx hg
  · exact he'.grow h.osx hg
/-- one more in the book, of lists that were made since W0 -/
theorem PS.book {bt : Nat → List UInt8} {wP W0 W X : World} {H S : List HZ} {K : List KB} {hv sv bv bv2 : Value} {k : KB} (h0 : PS bt wP W0 H S K hv sv bv) (hb : Below W0.heap.size W0 W) (hkp : KP bt W W0.heap.size k K.length) (ho : ∀ xs, W.ownsRow wP.heap.size 49 5 bv K.length xs → BKZ xs K → ∃ ys, X.ownsRow wP.heap.size 49 5 bv2 (K.length + 1) ys ∧ BKZ ys (K ++ [k])) (hg : W.grownBy X bv.ownBlock) (hn : bv2.ownBlock = bv.ownBlock ∨ ∀ b, bv2.ownBlock = some b → W.heap.size ≤ b) : PS bt wP X H S (K ++ [k]) hv sv bv2 := by
  have h := h0.below hb
  obtain ⟨xs, b1, b2⟩ := h.ob
  obtain ⟨ys, c1, c2⟩ := ho xs b1 b2
  have fr : ∀ {v : Value}, disR bv v → (∀ b, v.ownBlock = some b → b < W.heap.size) → disR bv2 v := fun hd hl b e1 e2 => by
    rcases hn with hn | hn
    · exact hd b (by rw [← hn]; exact e1) e2
    · have := hn b e1
      have := hl b e2
      omega
  have hwP : wP.heap.size ≤ W0.heap.size := h0.be.size
  have hkp' : KP bt W wP.heap.size k K.length := ⟨hkp.l1.base hwP, hkp.g1.base hwP, hkp.l2.base hwP, hkp.g2.base hwP, hkp.s1, hkp.s2⟩
  refine ⟨h.oh.kept hg h.r2.symm.off, h.osx.kept hg h.r3.symm.off, ⟨ys, by rw [List.length_append]; exact c1, c2⟩, fun j f hf => (h.hh j f hf).grow b1 hg, fun j f hf => (h.ss j f hf).grow b1 hg, fun j f hf => ?_, h.r1, (fr h.r2.symm (fun b e => (h.oh.lt b e).2)).symm, (fr h.r3.symm (fun b e => (h.osx.lt b e).2)).symm, h.hp, fun i j f m hf hm => ?_, bel_grZ h.be hg (fun k e => (b1.lt k e).1)⟩
  · rcases at_snoc hf with hf | ⟨rfl, rfl⟩
    · exact (h.kk j f hf).grow b1 hg
    · exact hkp'.grow b1 hg
  · rcases at_snoc hm with hm1 | ⟨m1, m2⟩
    · exact h.hk i j f m hf hm1
    · subst m2
      have o := (h0.hh i f hf).lta
      exact ⟨disR.fresh (fun b e => (o.1 b e).2) (fun b e => (hkp.l1.lt b e).1), disR.fresh (fun b e => (o.1 b e).2) (fun b e => (hkp.g1.lt b e).1), disR.fresh (fun b e => (o.2 b e).2) (fun b e => (hkp.l2.lt b e).1), disR.fresh (fun b e => (o.2 b e).2) (fun b e => (hkp.g2.lt b e).1)⟩
end Go.Proofs.YtnboehlbcjfndaaGreatDoor
namespace Go.Proofs.YtnboehlbcjfndaaGreatDoor
open Go.RowKit
/-- what stands while what is held is marked, one behind the other -/
structure P3 (bt : Nat → List UInt8) (wP W : World) (H : List HZ) (i : Nat) (K : List KB) (hv bv : Value) : Prop where
  oh : W.ownsRow wP.heap.size 49 5 hv H.length (hvs H)
  ob : ∃ xs, W.ownsRow wP.heap.size 49 5 bv K.length xs ∧ BKZ xs K
  hh : ∀ (j : Nat) (e : HZ), i ≤ j → H[j]? = some e → HO W wP.heap.size e
  kk : ∀ (j : Nat) (e : KB), K[j]? = some e → KP bt W wP.heap.size e j
  r2 : disR hv bv
  hp : ∀ (a b : Nat) (e f : HZ), i ≤ a → i ≤ b → a ≠ b → H[a]? = some e → H[b]? = some f → disR e.a f.a ∧ disR e.b f.b
  hk : ∀ (a j : Nat) (e : HZ) (k : KB), i ≤ a → H[a]? = some e → K[j]? = some k → KDR k e.a e.b
  be : Below wP.heap.size wP W
theorem PS.to3 {bt : Nat → List UInt8} {wP W : World} {H S : List HZ} {K : List KB} {hv sv bv : Value} (h : PS bt wP W H S K hv sv bv) : P3 bt wP W H 0 K hv bv :=
  ⟨h.oh, h.ob, fun j e _ he => h.hh j e he, h.kk, h.r2, fun a b e f _ _ hab he hf => h.hp a b e f hab he hf, fun a j e k _ he hk => h.hk a j e k he hk, h.be⟩
theorem P3.below {bt : Nat → List UInt8} {wP W X : World} {H : List HZ} {i : Nat} {K : List KB} {hv bv : Value} (h : P3 bt wP W H i K hv bv) (hb : Below W.heap.size W X) : P3 bt wP X H i K hv bv := by
  obtain ⟨a1, ⟨xs, a3, a4⟩, a5, a7, a9, a11, a12, a13⟩ := h
  exact ⟨own_belZ a1 hb, ⟨xs, own_belZ a3 hb, a4⟩, fun j e hj he => (a5 j e hj he).below hb, fun j e he => (a7 j e he).below hb, a9, a11, a12, bel0Z a13 hb⟩
theorem own_g2 {w X : World} {r1 r2 : Option Nat} {B n : Nat} {T : TypeId} {sz : Nat} {v : Value} {xs : List Value} (h : w.ownsRow B T sz v n xs) (g : G2 w X r1 r2) (h1 : offZ r1 v) (h2 : offZ r2 v) : X.ownsRow B T sz v n xs :=
  own_keep2 h (fun k hk => g.block k (h.lt k hk).2 (offZ_ne h1 hk) (offZ_ne h2 hk))
/-- one more is marked and gone on from, and stands in the book -/
theorem P3.kept {bt : Nat → List UInt8} {wP W X Y : World} {H : List HZ} {i : Nat} {K : List KB} {hv bv bv2 : Value} {e : HZ} {q1 q2 : Option Addr} {d1 d2 : Nat} (h : P3 bt wP W H i K hv bv) (he : H[i]? = some e) (hz : KPZ (bt K.length) (mkZ K.length) wP.heap.size e.L.length e.V.length e.a (.slice q1 (e.L.length + 64) d1) e.b (.slice q2 (e.V.length + 64) d2) W X)
    (ho : ∀ xs, X.ownsRow wP.heap.size 49 5 bv K.length xs → BKZ xs K → ∃ ys, Y.ownsRow wP.heap.size 49 5 bv2 (K.length + 1) ys ∧ BKZ ys (K ++ [⟨e.p1, e.c1, e.L.length, q1, d1, e.p2, e.c2, e.V.length, q2, d2⟩])) (hg : X.grownBy Y bv.ownBlock) (hn : bv2.ownBlock = bv.ownBlock ∨ ∀ b, bv2.ownBlock = some b → X.heap.size ≤ b) : P3 bt wP Y H (i + 1) (K ++ [⟨e.p1, e.c1, e.L.length, q1, d1, e.p2, e.c2, e.V.length, q2, d2⟩]) hv bv2 := by
  have hi := h.hh i e (Nat.le_refl _) he
  have hkp := hz.kp h.be.size hi.s1 hi.s2
  obtain ⟨z1, z2, g⟩ := hz
  obtain ⟨xs, b1, b2⟩ := h.ob
  have b1X := own_g2 b1 g (own_neZ b1 hi.l (by decide)) (own_neZ b1 hi.v (by decide))
  have ohX := own_g2 h.oh g (own_neZ h.oh hi.l (by decide)) (own_neZ h.oh hi.v (by decide))
  have hhX : ∀ (j : Nat) (f : HZ), i + 1 ≤ j → H[j]? = some f → HO X wP.heap.size f := fun j f hj hf => by
    have o := h.hh j f (by omega) hf
    obtain ⟨d1, d2⟩ := h.hp i j e f (Nat.le_refl _) (by omega) (by omega) he hf
    exact ⟨o.l.keep2 g d1.off (own_neZ o.l hi.v (by decide)), o.v.keep2 g (own_neZ o.v hi.l (by decide)) d2.off, o.s1, o.s2⟩
  have kkX : ∀ (j : Nat) (k : KB), K[j]? = some k → KP bt X wP.heap.size k j := fun j k hk => by
    have o := h.kk j k hk
    obtain ⟨d1, d2, d3, d4⟩ := h.hk i j e k (Nat.le_refl _) he hk
    exact ⟨o.l1.keep2 g d1.off (own_neZ o.l1 hi.v (by decide)), o.g1.keep2 g d2.off (own_neZ o.g1 hi.v (by decide)), o.l2.keep2 g (own_neZ o.l2 hi.l (by decide)) d3.off, o.g2.keep2 g (own_neZ o.g2 hi.l (by decide)) d4.off, o.s1, o.s2⟩
  obtain ⟨ys, c1, c2⟩ := ho xs b1X b2
  have hbX : Below wP.heap.size wP X := g.belowTo h.be (fun k e => (hi.lta.1 k e).1) (fun k e => (hi.lta.2 k e).1)
  refine ⟨ohX.kept hg h.r2.symm.off, ⟨ys, by rw [List.length_append]; exact c1, c2⟩, fun j f hj hf => (hhX j f hj hf).grow b1X hg, fun j f hf => ?_, ?_, fun a b f f2 ha hb hab hf hf2 => h.hp a b f f2 (by omega) (by omega) hab hf hf2, fun a j f k ha hf hk => ?_, bel_grZ hbX hg (fun k e => (b1X.lt k e).1)⟩
  · rcases at_snoc hf with hf | ⟨rfl, rfl⟩
    · exact (kkX j f hf).grow b1X hg
    · exact hkp.grow b1X hg
  · intro b e1 e2
    rcases hn with hn | hn
    · exact h.r2 b e1 (by rw [← hn]; exact e2)
    · have := hn b e2
      have := (ohX.lt b e1).2
      omega
  · rcases at_snoc hk with hk1 | ⟨m1, m2⟩
    · exact h.hk a j f k (by omega) hf hk1
    · subst m2
      have o := (h.hh a f (by omega) hf).lta
      obtain ⟨d1, d2⟩ := h.hp a i f e (by omega) (Nat.le_refl _) (by omega) hf he
      have fresh : ∀ {x v G : Value}, disR x v → (∀ b, x.ownBlock = some b → b < W.heap.size) → (G.ownBlock = v.ownBlock ∨ ∀ b, G.ownBlock = some b → W.heap.size ≤ b) → disR x G := fun hd hl hG b e1 e2 => by
        rcases hG with hG | hG
        · exact hd b e1 (by rw [← hG]; exact e2)
        · have := hl b e1
          have := hG b e2
          omega
      exact ⟨d1, fresh d1 (fun b e => (o.1 b e).2) z1.blk, d2, fresh d2 (fun b e => (o.2 b e).2) z2.blk⟩
/-- a book's cells, one entry more -/
theorem BKZ.snoc {xs : List Value} {K : List KB} {e : KB} (h : BKZ xs K) (hl : xs.length = K.length * 5) : BKZ (xs ++ e.vs K.length) (K ++ [e]) := fun j f hf => by
  rcases at_snoc hf with hf | ⟨rfl, rfl⟩
  · have hj := (List.getElem?_eq_some_iff.1 hf).1
    obtain ⟨h1, h2, h3, h4, h5⟩ := h j f hf
    exact ⟨by rw [List.getElem?_append_left (by omega)]; exact h1, by rw [List.getElem?_append_left (by omega)]; exact h2, by rw [List.getElem?_append_left (by omega)]; exact h3, by rw [List.getElem?_append_left (by omega)]; exact h4, by rw [List.getElem?_append_left (by omega)]; exact h5⟩
  · refine ⟨?_, ?_, ?_, ?_, ?_⟩
    · rw [List.getElem?_append_right (by omega), hl, show 5 * K.length - K.length * 5 = 0 by omega]; rfl
    · rw [List.getElem?_append_right (by omega), hl, show 5 * K.length + 1 - K.length * 5 = 1 by omega]; rfl
    · rw [List.getElem?_append_right (by omega), hl, show 5 * K.length + 2 - K.length * 5 = 2 by omega]; rfl
    · rw [List.getElem?_append_right (by omega), hl, show 5 * K.length + 3 - K.length * 5 = 3 by omega]; rfl
    · rw [List.getElem?_append_right (by omega), hl, show 5 * K.length + 4 - K.length * 5 = 4 by omega]; rfl
end Go.Proofs.YtnboehlbcjfndaaGreatDoor

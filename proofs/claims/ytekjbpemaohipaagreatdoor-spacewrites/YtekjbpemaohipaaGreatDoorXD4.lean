import Derived.Test.YtekjbpemaohipaaGreatDoorXBJ
import Derived.Test.YtekjbpemaohipaaGreatDoorXD2
import Derived.Test.YtekjbpemaohipaaGreatDoorXD3
import Derived.Test.YtekjbpemaohipaaGreatDoorXBE
import Derived.Test.YtekjbpemaohipaaGreatDoorXBG
import Derived.Test.YtekjbpemaohipaaGreatDoorXBF
import Derived.Test.YtekjbpemaohipaaGreatDoorXAX
import Derived.Test.YtekjbpemaohipaaGreatDoorXBA
namespace Go.Proofs.YtekjbpemaohipaaGreatDoor
open Go.RowKit Go.Shelf
theorem rst_ofK {w : World} {q : Option Addr} {len : Nat} {SL : List ByteArray} (hlen : SL.length = len) (hcell0 : ∀ i, i < len → ∃ ad, q = some ad ∧ w.cell? (ad.add i) = some (.string (SL.getD i ByteArray.empty))) (hsz0 : ∀ s ∈ SL, s.size ≤ maxLen) : RST w q len := fun X hX i hi => by
  obtain ⟨ad, e1, e2⟩ := hcell0 i hi
  have hi' : i < SL.length := by omega
  rw [List.getD_eq_getElem?_getD, List.getElem?_eq_getElem hi', Option.getD_some] at e2
  exact ⟨ad, SL[i].data.toList, e1, (hX.cell (World.block_lt_of_cell? w _ e2)).trans e2, hsz0 _ (List.getElem_mem hi')⟩
/-- a row of texts, as one list -/
theorem rst_lst {w : World} {q : Option Addr} {n : Nat} (h : RST w q n) : ∃ L : List (List UInt8), L.length = n ∧ LST w q L ∧ ∀ x ∈ L, x.length ≤ maxLen := by
  have h0 : ∀ i : Fin n, ∃ x : List UInt8, ∃ ad, q = some ad ∧ w.cell? (ad.add i.1) = some (.string ⟨x.toArray⟩) ∧ x.length ≤ maxLen := fun i => by
    obtain ⟨ad, x, h1, h2, h3⟩ := h w (Below.refl _ _) i.1 i.2
    exact ⟨x, ad, h1, h2, h3⟩
  obtain ⟨f, hf⟩ := Classical.axiomOfChoice h0
  refine ⟨List.ofFn f, List.length_ofFn, fun W hW i x hx => ?_, fun x hx => ?_⟩
  · obtain ⟨hi, he⟩ := List.getElem?_eq_some_iff.1 hx
    rw [List.getElem_ofFn] at he
    obtain ⟨ad, h1, h2, -⟩ := hf ⟨i, by simpa using hi⟩
    subst he
    exact ⟨ad, h1, (hW.cell (World.block_lt_of_cell? w _ h2)).trans h2⟩
  · obtain ⟨i, hi, rfl⟩ := List.getElem_of_mem hx
    rw [List.getElem_ofFn]
    obtain ⟨ad, -, -, h3⟩ := hf ⟨i, by simpa using hi⟩
    exact h3
theorem wrK_all {x : List UInt8} {n : Nat} (h : x.length = n) : wrT x (List.replicate n 120) = x := by
  have hl := wrK_len x (List.replicate n 120) (by simp [h])
  apply List.ext_getElem hl
  intro k h1 h2
  rw [wrK_get x _ k h1 h2 (by simp; omega)]
  simp
theorem afT_okK {n : Nat} {b : Int} {S : List (List UInt8 × List (List UInt8))} {r : List UInt8} (hb : ¬ b = 0) (hr : b = (r.length : Int)) (gr : good r = true) (g : gdS S) (hw : ∀ t ∈ S, t.1.length = n) (h0 : afE b 2048 S r = 0) : gdC (afT b 2048 S r) ∧ szC (afT b 2048 S r) ≤ 128 := by
  have hx0 := (afE_cases (S := S) hb hr).2 h0
  have hL := xpL_gdK hb hx0 g hw
  have gX : gdC (afX r (xpL b 2048 S)) := fun t ht => by
    obtain ⟨c, hc, rfl⟩ := List.mem_map.1 ht
    exact ⟨good_wtT c r (hL c hc).1 gr, fun x hx => by cases hx⟩
  have hz : szC (topC (stl (afX r (xpL b 2048 S)))) ≤ 128 := by
    unfold afE at h0
    split at h0
    · cases h0
    · split at h0
      · assumption
      · cases h0
  unfold afT
  rw [if_pos h0, szC_ord]
  exact ⟨gdC_ord (gdC_top (gdC_stl gX)), hz⟩
theorem hasK (b : Int) (lo : Bool) (V : Value) (Ts : List (List UInt8 × List (List UInt8))) (x : List UInt8) (z : Bool) (W : World) (h : LSP W V Ts) (hg : gdC Ts) (hs : Ts.length ≤ 1000000) (hl : ∀ t ∈ Ts, t.2.length ≤ 1000000) (hd : x.all digB = true) (hx : x.length ≤ maxLen) (hz : Dn x Ts = z) : Calls Tryz.prog 13 #[.agg #[.int .i64 b, V, .bool lo], .string ⟨x.toArray⟩] W fun e w' => e = .returned (.bool z) ∧ Below W.heap.size W w' := by
  have h := hasL_any b lo V Ts ⟨x.toArray⟩ W h hg hs hl (by simpa [ByteArray.size] using hx)
  have e : (⟨x.toArray⟩ : ByteArray).data.toList = x := rfl
  rw [e, hs_dn hd, hz] at h
  exact h
theorem exact_hd {n : Nat} {b : Int} {S : List (List UInt8 × List (List UInt8))} {r : List UInt8} (hbn : b = (n : Int)) (hr : r.length = n) (K : WPK n b S r) (h0 : afE b 2048 S r = 0) (i : Nat) (x : List UInt8) (hx : (hdL n (2 ^ n))[i]? = some x) : ihB b x = true ∧ (Dn x (afT b 2048 S r) = true ↔ ∃ i' y, i' < 2 ^ n ∧ (hdL n (2 ^ n))[i']? = some y ∧ ihB b y = true ∧ Dn y S = true ∧ nmK (wrT y r) = i) := by
  have hi := (List.getElem?_eq_some_iff.1 hx).1
  rw [hdL_len] at hi
  have hxe : x = hdT n i := by
    have h := hx
    unfold hdL at h
    rw [List.getElem?_map, List.getElem?_range hi] at h
    exact (Option.some.inj h).symm
  have hih : ihB b x = true := by
    rw [hxe]
    exact ihK_mk (by rw [hdT_len]; exact hbn.symm) (hdT_dig n i)
  refine ⟨hih, fun hv => ?_, ?_⟩
  · obtain ⟨y, y1, y2, y3⟩ := K.q4 h0 x hih hv
    obtain ⟨a1, a2⟩ := ihK y1
    have hy := hdL_mem (b := n) (x := y) (by omega) a2
    refine ⟨valT y, y, (hdT_all (b := n) (x := y) (by omega) a2).1, hy, y1, y2, ?_⟩
    rw [y3, hxe]
    exact nmK_hd n i hi
  · rintro ⟨i', y, -, -, y1, y2, y3⟩
    have hg := K.q0 y y1
    obtain ⟨a1, a2⟩ := ihK hg
    obtain ⟨b1, b2⟩ := hdT_all (b := n) (x := wrT y r) (by omega) a2
    have e : valT (wrT y r) = i := by
      rw [← y3]
      conv => rhs; rw [b2]
      exact (nmK_hd n _ b1).symm
    have hw : wrT y r = x := by rw [b2, e, hxe]
    rw [← hw]
    exact K.q2 h0 y y1 y2
theorem writes_walk (b : Int) (l word : List UInt8) (q : Option Addr) (len cap : Nat) (SL : List ByteArray) (w : World) (hl0 : l.length ≤ 281474976710656) (hl1 : word.length ≤ 281474976710656) (hlen : SL.length = len) (hcell0 : ∀ i, i < len → ∃ ad, q = some ad ∧ w.cell? (ad.add i) = some (.string (SL.getD i ByteArray.empty))) (hsz0 : ∀ s ∈ SL, s.size ≤ maxLen) (hcap : len ≤ cap) : Calls Tryz.prog 3 #[.int .i64 b, .string ⟨l.toArray⟩, .string ⟨word.toArray⟩, .slice q len cap] w fun e w' => e = .returned (.bool true) ∧ Below w.heap.size w w' := by
  have hla : l.length ≤ maxLen := by unfold maxLen; omega
  have hlw : word.length ≤ maxLen := by unfold maxLen; omega
  have HR := rst_ofK hlen hcell0 hsz0
  have ok1 := prT_ok b l
  have gt1 := gdS_pr b l
  have hsl := szC_len (prT b l)
  have hsm := @szC_mem (prT b l)
  refine writes_core b (prB b l) (prE b l) (refP word) (afE b 2048 (prT b l) (cubeT word)) l word (cubeT word) (icK b word) (fun x => sdB l (wrT x word)) (sdB l) (fun x => Dn x (afT b 2048 (prT b l) (cubeT word))) (ihB b) (fun x => wrT x word) nmK (fun W p n c => SPL W 0 (.slice p n c) (prT b l)) (fun W p n c _ => (cubeT word = alT b ∧ LSP W (.slice p n c) (prT b l)) ∨ LSP W (.slice p n c) (bfN (cubeT word) (prT b l))) (fun W p n c => SPL W 0 (.slice p n c) (afT b 2048 (prT b l) (cubeT word))) q len cap w (fun W W' p n c h hb => h.below hb) (fun W W' p n c lo h hb => h.imp (fun h => ⟨h.1, h.2.below hb⟩) (fun h => h.below hb)) (fun W W' p n c h hb => h.below hb) awake_any (fun W => ?_) (fun W => ?_) (fun W => ?_) (fun h1 hcb hE => ?_)
  · refine (sParse_any b l W hla).mono ?_
    rintro e w' ⟨V, rfl, sv, hb⟩
    obtain ⟨p, c, rfl⟩ := sv.shape
    exact ⟨p, _, c, rfl, sv.base (Nat.zero_le _), hb⟩
  · exact parse_D ⟨word.toArray⟩ W (by simpa [ByteArray.size] using hlw) (cubeT word) (refP word) rfl rfl
  · exact isCubeK b ⟨word.toArray⟩ W (by simpa [ByteArray.size] using hlw)
  · obtain ⟨e1, e2⟩ : (word.length : Int) = b ∧ word.all tri = true := by
      unfold icK at hcb
      rw [Bool.and_eq_true, beq_iff_eq] at hcb
      exact hcb
    obtain ⟨b1, b2, -⟩ := prE_zero hE
    have hr0 : refP word = 0 := by
      unfold refP
      rw [if_neg (by omega), if_neg (fun e => by rw [e] at e1; simp at e1; omega), if_pos e2]
    have hr : cubeT word = word := cubeT_self word hr0
    have gr : good word = true := by rw [← hr]; exact good_cubeT _
    rw [hr]
    obtain ⟨n, hn⟩ : ∃ n : Nat, b = (n : Int) := ⟨b.toNat, by omega⟩
    have hwn : word.length = n := by omega
    have hb0 : ¬ b = 0 := by omega
    have hwd : ∀ t ∈ prT b l, t.1.length = n := fun t ht => by
      have := (prT_ft b l t ht).2.1
      omega
    have K := wpK (n := n) (b := b) (S := prT b l) (r := word) (by omega) hn hwn gr gt1 hwd
    have hs : ∀ x, sdB l x = Dn x (prT b l) := fun x => sd_pr x hE
    have hxl : ∀ x, ihB b x = true → x.length = n ∧ x.all digB = true ∧ x.length ≤ maxLen := fun x hx => by
      obtain ⟨a1, a2⟩ := ihK hx
      refine ⟨by omega, a2, ?_⟩
      unfold maxLen
      omega
    have hdg : ∀ x, ihB b x = true → ∀ y ∈ x, y = 48 ∨ y = 49 := fun x hx y hy => dig_tri (List.all_eq_true.1 (hxl x hx).2.1 y hy)
    refine { f1 := hr0, b1 := by unfold prB; rw [if_pos hE], e2 := (afE_cases hb0 (by omega)).1, bf := fun W p m c hp => ?_, af := fun W p m c hp => ?_, hd := fun W hW => ?_, ov := fun W x hx => overK x word W (by have := (hxl x hx).1; omega) (by have := (hxl x hx).1; omega), uh := fun W pu nu cu lo x hu hx => ?_, vh := fun h0 W Bv pv nv cv x hv hx => ?_, sd := fun W x hx => said_any l x W hl0 (hxl x hx).2.2, nm := fun h8 W x hx => numberK x W (by have := (hxl x hx).1; omega) (hdg x hx), p0 := K.q0, p1 := fun x hx => rfl, p2 := fun h0 x hx h => K.q2 h0 x hx (by rw [← hs]; exact h), p3 := K.q3 }
    · refine (sBefore_any b (prT b l) word 0 _ W hp ok1.2 ok1.1 gr).mono ?_
      rintro e w' ⟨hb, ⟨h0, -⟩ | ⟨-, ha, rfl⟩ | ⟨-, V, rfl, hV⟩⟩
      · unfold bvE at h0
        rw [if_neg (by
          have x1 : (b == 0) = false := by simpa using hb0
          have x2 : (b == (word.length : Int)) = true := by simpa using e1.symm
          rw [x1, x2]
          decide)] at h0
        cases h0
      · exact ⟨p, m, c, false, rfl, .inl ⟨ha, (hp.below hb).loose ok1.1 (fun t ht => by have := hsm t ht; omega)⟩, hb⟩
      · obtain ⟨p', c', rfl⟩ := hV.shape
        exact ⟨p', _, c', true, rfl, .inr hV, hb⟩
    · refine (sAfter_any b 2048 (prT b l) word _ W hp ok1.2 gt1 gr).mono ?_
      rintro e w' ⟨V, rfl, sv, hb⟩
      obtain ⟨p', c', rfl⟩ := sv.shape
      exact ⟨_, p', _, c', rfl, sv, hb⟩
    · by_cases h8 : b ≤ 8
      · have hX := headersX n (by omega) (by omega) q len cap W
        rw [← hn] at hX
        refine hX.mono ?_
        rintro e w' ⟨p, c, rfl, ho, hb⟩
        have h256 : 2 ^ n ≤ 2 ^ 8 := Nat.pow_le_pow_right (by omega) (by omega)
        refine ⟨hdL n (2 ^ n), p, _, c, rfl, hdL_len _ _, Nat.le_trans h256 (by decide), fun X hX i x hx => ?_, hb, fun W x hx => isHeader_any b ⟨x.toArray⟩ W ?_, fun _ => ⟨fun x hx => ?_, fun h0 i x hx => ?_⟩⟩
        · obtain ⟨g, o0, rfl, hc⟩ := IRSt_own ho (hdL_len _ _) X hX i x hx
          exact ⟨⟨g, o0, none⟩, rfl, by rw [add_plain]; exact hc⟩
        · obtain ⟨i, -, rfl⟩ := List.mem_map.1 hx
          have := hdT_len n i
          unfold maxLen
          simp [ByteArray.size, this]
          omega
        · have hg := K.q0 x hx
          exact nmK_lt n (wrT x word) (hxl _ hg).1 (hdg _ hg)
        · have h := exact_hd hn hwn K h0 i x hx
          refine ⟨h.1, h.2.trans ?_⟩
          simp only [hs]
      · refine (hdr_low b q len cap W (.inr (by omega)) hcap (HR.later hW)).mono ?_
        rintro e w' ⟨q', n', c', rfl, hn', hr', hb⟩
        obtain ⟨L, h1, h2, h3⟩ := rst_lst hr'
        exact ⟨L, q', n', c', rfl, h1, by omega, h2, hb, fun W x hx => isHeader_any b ⟨x.toArray⟩ W (by simpa [ByteArray.size] using h3 x hx), fun h => absurd h h8⟩
    · obtain ⟨x1, x2, x3⟩ := hxl x hx
      rcases hu with ⟨ha, hL⟩ | hL
      · refine hasK b lo _ (prT b l) x _ W hL ok1.1 (by omega) (fun t ht => by have := hsm t ht; omega) x2 x3 ?_
        have e3 : wrT x word = x := by
          rw [ha]
          unfold alT
          rw [if_pos ⟨b1, b2⟩]
          exact wrK_all (by omega)
        rw [e3, hs]
      · refine hasK b lo _ (bfN word (prT b l)) x _ W hL (bfN_gd gr ok1.1) (by have := bfN_len word (prT b l); omega) (fun t ht => ?_) x2 x3 (by rw [K.q1 x hx, hs])
        have h5 := szC_mem t ht
        have h6 := bfN_sz word (prT b l)
        omega
    · obtain ⟨x1, x2, x3⟩ := hxl x hx
      have hok := afT_okK hb0 (by omega) gr gt1 hwd h0
      have h5 := szC_len (afT b 2048 (prT b l) word)
      have h := sHas_any Bv _ (afT b 2048 (prT b l) word) 0 ⟨x.toArray⟩ W hv hok.1 (by omega) (fun t ht => by have := szC_mem t ht; omega) (by simpa [ByteArray.size] using x3)
      have e : (⟨x.toArray⟩ : ByteArray).data.toList = x := rfl
      rw [e, hs_dn x2] at h
      exact h
end Go.Proofs.YtekjbpemaohipaaGreatDoor

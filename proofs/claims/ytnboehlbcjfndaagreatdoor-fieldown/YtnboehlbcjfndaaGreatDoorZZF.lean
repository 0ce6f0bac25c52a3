import Derived.Test.YtnboehlbcjfndaaGreatDoorZZE
import Derived.Test.YtnboehlbcjfndaaGreatDoorYBG
import Derived.Test.YtnboehlbcjfndaaGreatDoorYAD
import Derived.Test.YtnboehlbcjfndaaGreatDoorYBP
import Derived.Test.YtnboehlbcjfndaaGreatDoorYBS
import Derived.Test.YtnboehlbcjfndaaGreatDoorYBF
import Derived.Test.YtnboehlbcjfndaaGreatDoorYBB
import Derived.Test.YtnboehlbcjfndaaGreatDoorYBA
import Derived.Test.YtnboehlbcjfndaaGreatDoorYAZ
import Derived.Test.YtnboehlbcjfndaaGreatDoorYBC
import Derived.Test.YtnboehlbcjfndaaGreatDoorZZD
namespace Go.Proofs.YtnboehlbcjfndaaGreatDoor
open Go.RowKit
theorem flt_ofZ {b : Nat} {t : TS} (h : TOK b t) : fltM b t = 0 := by
  obtain ⟨k1, k2, k3, k4, k5, k6, k7, k8, k9, k10⟩ := h
  unfold fltM
  rw [if_neg (by rw [k1]; decide), if_neg (fun hn => hn ⟨k2, k3, k4, k5, k6, k7⟩), if_neg (fun hn => hn.2 (k8 hn.1)), if_neg (fun hn => by have := k9 hn.1; omega), if_neg (fun hn => by rw [k10 hn.1] at hn; exact absurd hn.2 (by decide))]
theorem nm_lenZ {x : List UInt8} (h : nmB x = true) : x.length ≤ 24 := by
  unfold nmB nameB at h
  simp only [Bool.and_eq_true, decide_eq_true_eq] at h
  exact h.1.2.1
theorem ly_nodupZ (ws : List Int) : ((lyL ws).map (·.1)).Nodup := by
  unfold lyL
  split
  · decide
  · exact lyF_nodup ws 0
/-- what Cubes answers of a right test -/
theorem cb_okZ {L : List IFld} {t : TS} {k b : Nat} (hc : chkM L = (0, 0)) (hn : (L.map (·.1)).Nodup) (hf : L[k]? = some (t.f, (b : Int))) (hb : b ≤ 32) (h : TOK b t) : ∃ C : List (List UInt8), cbM L t = (C, 0) ∧ C.length ≤ 8589934592 := by
  have hi := idxF_at hn hf
  simp only at hi
  have hgd : L.getD k ([], 0) = (t.f, (b : Int)) := by simp [List.getD, hf]
  refine ⟨(pieM b t).map (putL (List.replicate (sumB L).toNat 120) (sumB (L.take k)).toNat), ?_, ?_⟩
  · unfold cbM
    rw [if_neg (by rw [hc]; exact fun h => h rfl), hi, if_neg (by omega), Int.toNat_natCast, hgd, if_neg (by simp only [Int.toNat_natCast]; rw [flt_ofZ h]; exact fun h => h rfl)]
    rfl
  · rw [List.length_map]
    exact pie_len hb h
theorem cov_okZ {b l h : Nat} (h1 : 1 ≤ b) (h2 : b ≤ 32) (h3 : l ≤ h) (h4 : h < 2 ^ b) : covE (b : Int) (l : Int) (h : Int) = 0 ∧ (covL (b : Int) (l : Int) (h : Int)).length ≤ 8589934592 := by
  have hE : covE (b : Int) (l : Int) (h : Int) = 0 := by
    unfold covE
    rw [if_neg (by omega), if_neg (by simp only [Int.toNat_natCast]; omega), if_neg (by omega)]
  refine ⟨hE, ?_⟩
  have hl : covL (b : Int) (l : Int) (h : Int) = covI b (l : Int) (h : Int) := by
    unfold covL covI
    rw [if_pos hE, if_neg (by omega), Int.toNat_natCast]
  rw [hl]
  have := covI_len (b := b) (lo := (l : Int)) (hi := (h : Int)) h2 (by omega) (by omega)
  omega
theorem pk_zeroZ : ∀ (L : List IFld) (acc : List UInt8), (pkF L (List.replicate L.length 0) acc).2 = 0
  | [], acc => rfl
  | f :: r, acc => by
    rw [List.length_cons, List.replicate_succ, pkF, if_pos ⟨Int.le_refl _, Int.natCast_nonneg _⟩]
    exact pk_zeroZ r _
theorem pkM_zeroZ {L : List IFld} (hc : (chkM L).1 = 0) : (pkM L (List.replicate L.length 0)).2 = 0 := by
  unfold pkM
  rw [if_neg (fun h => h hc), if_neg (by rw [List.length_replicate]; exact fun h => h rfl)]
  exact pk_zeroZ L []
theorem wd_roomyZ {L : List IFld} {n0 n1 : List UInt8} {f0 f1 x y : Int} (hc : (chkM L).1 = 0) (hn : (L.map (·.1)).Nodup) (h0 : L[0]? = some (n0, f0)) (h1 : L[L.length - 1]? = some (n1, f1)) (hb : ∀ f ∈ L, 1 ≤ f.2 ∧ f.2 ≤ 32) (hx : x = 0 ∨ x = 1) (hy : y = 0 ∨ y = 1) : (L.length = 1 → ((wdM L [(n1, x), (n0, y)]).2 == 0) = false) ∧ (¬ L.length = 1 → (wdM L [(n1, x), (n0, y)]).2 = 0) := by
  have i1 : idxF L n1 = ((L.length - 1 : Nat) : Int) := idxF_at hn h1
  have i0 : idxF L n0 = ((0 : Nat) : Int) := idxF_at hn h0
  have g1 : L.getD (L.length - 1) ([], 0) = (n1, f1) := by simp [List.getD, h1]
  have g0 : L.getD 0 ([], 0) = (n0, f0) := by simp [List.getD, h0]
  have b1 := hb _ (List.mem_of_getElem? h1)
  have b0 := hb _ (List.mem_of_getElem? h0)
  have hpos : 0 < L.length := (List.getElem?_eq_some_iff.1 h0).1
  have pw : ∀ k : Nat, 1 ≤ k → 1 ≤ 2 ^ k - 1 := fun k hk => by
    have : 2 ^ 1 ≤ 2 ^ k := Nat.pow_le_pow_right (by decide) hk
    omega
  simp only at b1 b0
  have p1 := pw f1.toNat (by omega)
  have p0 := pw f0.toNat (by omega)
  have r1 : 0 ≤ x ∧ x ≤ ((2 ^ f1.toNat - 1 : Nat) : Int) := by omega
  have r0 : 0 ≤ y ∧ y ≤ ((2 ^ f0.toNat - 1 : Nat) : Int) := by omega
  obtain ⟨acc, e⟩ : ∃ acc, wdM L [(n1, x), (n0, y)] = wdF L [(n1, x)] [(n0, y)] acc := by
    unfold wdM
    rw [if_neg (by simp), if_neg (fun h => h hc), wdF]
    simp only
    rw [i1, if_neg (by omega), if_neg (by show ¬ (0 : Int) ≤ -1; decide), Int.toNat_natCast, g1, if_pos r1]
    exact ⟨_, rfl⟩
  rw [e, wdF]
  simp only
  rw [i0, if_neg (by omega)]
  have hs : idxF [(n1, x)] n0 = if n1 = n0 then 0 else -1 := rfl
  refine ⟨fun hl => ?_, fun hl => ?_⟩
  · have e1 : n1 = n0 := by
      rw [hl] at h1
      rw [h0] at h1
      injection h1 with h1
      injection h1 with h1 _
      exact h1.symm
    rw [hs, if_pos e1, if_pos (by decide)]
    rfl
  · have e1 : ¬ n1 = n0 := fun h => by
      rw [h, i0] at i1
      omega
    rw [hs, if_neg e1, if_neg (by decide), Int.toNat_natCast, g0, if_pos r0, wdF]
theorem FRZ.irf {W : World} {p : Option Addr} {L : List IFld} (h : FRZ W p L) : IRF W p L := fun X hX k f hf => by
  obtain ⟨g, rfl, a, b⟩ := h X hX k f hf
  exact ⟨g, 0, rfl, by rw [Nat.zero_add]; exact a, by rw [Nat.zero_add]; exact b⟩
theorem OWZ.irv {W : World} {B n c : Nat} {p : Option Addr} {V : List Int} (h : OWZ 3 W B (.slice p n c) (inZ V)) : IRV W p V := fun X hX k v hv => by
  obtain ⟨g, rfl, a, -⟩ := (h.below hX).cell (inZ_get hv)
  exact ⟨g, 0, rfl, by rw [Nat.zero_add]; exact a⟩
theorem irf_setZ {W : World} {B c2 : Nat} {q : Option Addr} {n0 n1 : List UInt8} {x y : Int} {u v : Value} (h : W.ownsRow B 75 2 (.slice q 3 c2) 3 [.string ⟨n1.toArray⟩, .int .i64 x, .string ⟨n0.toArray⟩, .int .i64 y, u, v]) : IRF W q [(n1, x), (n0, y)] := fun X hX k f hf => by
  have o := own_belZ h hX
  obtain ⟨g, rfl⟩ := own_someZ o (by omega)
  match k, hf with
  | 0, hf =>
    injection hf with hf
    subst hf
    exact ⟨g, 0, rfl, own_atZ o (j := 0) rfl, own_atZ o (j := 1) rfl⟩
  | 1, hf =>
    injection hf with hf
    subst hf
    exact ⟨g, 0, rfl, own_atZ o (j := 2) rfl, own_atZ o (j := 3) rfl⟩
theorem irv_zeroZ {W : World} {B c2 nf : Nat} {q : Option Addr} (h : W.ownsRow B 3 1 (.slice q (nf + 1) c2) (nf + 1) (inZ (List.replicate nf 0) ++ [.int .i64 77])) : IRV W q (List.replicate nf 0) := fun X hX k v hv => by
  have o := own_belZ h hX
  obtain ⟨g, rfl⟩ := own_someZ o (by omega)
  have hk : k < nf := by
    have := (List.getElem?_eq_some_iff.1 hv).1
    rw [List.length_replicate] at this
    exact this
  rw [List.getElem?_replicate, if_pos hk] at hv
  injection hv with hv
  subst hv
  exact ⟨g, 0, rfl, by rw [Nat.zero_add]; exact own_atZ o (rep_at hk)⟩
end Go.Proofs.YtnboehlbcjfndaaGreatDoor
namespace Go.Proofs.YtnboehlbcjfndaaGreatDoor
open Go.RowKit
theorem own_cap3Z {W : World} {B n c e sz : Nat} {o : Option Addr} {xs : List Value} (h : W.ownsRow B e sz (.slice o n c) n xs) : n ≤ c := by
  rcases h.2 with ⟨e, h2⟩ | ⟨g2, c2, cur, e, _, _, h3, _⟩
  · injection e with _ e2 e3
    omega
  · injection e with _ _ e3
    omega
set_option maxHeartbeats 4000000 in
theorem fieldOwn_walk (ws : List Int) (m1 : Nat) (ad1 : Option Addr) (cap1 : Nat) (ns : Nat) (q : Option Addr) (cs : Nat) (w : World) (hw : ws.length = m1) (hwb : m1 * 8 ≤ 140737488355328) (hwc : IRV w ad1 ws) (hsc : ISZ w q ns) (hv1 : SH w) (hdb : DB w) (hv4 : SG w) (hv5 : VW w) (hu : US w) :
    Calls Tryz.prog 4 #[.slice ad1 m1 cap1, .slice q ns cs] w fun e w' => e = .returned (.bool true) ∧ Below w.heap.size w w' := by
  have hck := ly_chk ws
  have hl8 := ly_len ws
  have hnd := ly_nodupZ ws
  have hxs : ∀ f ∈ lyL ws, f.1.length ≤ 281474976710656 := fun f hf => by have := nm_lenZ (ly_fld hf).2; omega
  have hLay : ∀ W, Below w.heap.size w W → Calls Tryz.prog 6 #[.slice ad1 m1 cap1] W fun e w' => ∃ v, e = .returned v ∧ w'.ownsRow W.heap.size 39 2 v (lyL ws).length (felZ (lyL ws)) ∧ Below W.heap.size W w' := fun W hW => by
    rw [← hw]
    exact layout_any ws ad1 cap1 W (by omega) (hwc.later hW)
  obtain ⟨L, hLL⟩ : ∃ L, lyL ws = L := ⟨_, rfl⟩
  rw [hLL] at hck hl8 hxs hLay hnd
  have h0 : (chkM L).1 = 0 := by rw [hck]
  obtain ⟨k1, k2, k3, k4⟩ := chk_ok h0
  have hb0 : ∀ f ∈ L, 0 ≤ f.2 ∧ f.2 ≤ 32 := fun f hf => by have := k3 f hf; omega
  obtain ⟨n, hn⟩ : ∃ n : Nat, sumB L = (n : Int) := ⟨(sumB L).toNat, by have := (sumB_bound L hb0).1; omega⟩
  obtain ⟨nf, hnf⟩ : ∃ nf, L.length = nf := ⟨_, rfl⟩
  have hLl : L.length ≤ 281474976710656 := by omega
  rw [hnf] at hl8 hLay
  obtain ⟨⟨n0, f0⟩, e0⟩ : ∃ f, L[0]? = some f := ⟨_, List.getElem?_eq_getElem (by omega)⟩
  obtain ⟨⟨n1, f1⟩, e1⟩ : ∃ f, L[nf - 1]? = some f := ⟨_, List.getElem?_eq_getElem (by omega)⟩
  have T1 : ∀ W, Below w.heap.size w W → SH W ∧ SG W ∧ VW W ∧ US W ∧ DB W := fun W hW => ⟨hv1.below hW, hv4.below hW, hv5.below hW, hu.below hW, hdb.below hW⟩
  refine own_core (fun j => btR j 12) L nf ad1 q m1 cap1 ns cs w hnf hl8.1 hl8.2 hLay ?_ ?_ (fun j W hj => bitsOf_any j W hj) (fun W p1 c1 p2 c2 L B1 B2 o1 o2 hN => sameZ_any L p1 p2 L.length c1 c2 B1 B2 W rfl hN o1 o2) (fun W p1 c1 p2 c2 V B1 B2 o1 o2 hN => alike_any V p1 p2 c1 c2 W (by omega) o1.irv o2.irv) (fun W hW => known_any W (T1 W hW).2.2.2.2) hsc
  · intro W p c kd sa sb sc ss hW hfr hc hss
    refine called_core nf c p kd sa sb sc ss W (fun tv => ∃ (t : TS) (k b : Nat), tv = t.v ∧ L[k]? = some (t.f, (b : Int)) ∧ b ≤ 32 ∧ TOK b t ∧ t.pat.length ≤ 32) (fun G => G = hdG n ss) hl8.1 hl8.2 hc (fun n m W h1 h2 => near_any n m W h1 h2) ?_ ?_ ?_ ?_ ?_
    · intro b l h X hX hb1 hb2 hlh hhb
      obtain ⟨c1, c2⟩ := cov_okZ hb1 hb2 hlh hhb
      refine (cover_any (b : Int) (l : Int) (h : Int) X (T1 X (bel0Z hW hX)).2.2.2.2).mono ?_
      rintro e w' ⟨v, rfl, o, hb⟩
      obtain ⟨p1, cc, rfl⟩ := shapeZ o
      refine ⟨p1, cc, covL (b : Int) (l : Int) (h : Int), by rw [c1]; rfl, ?_, c2, hb⟩
      unfold OWZ
      rw [stZ_len]
      exact o
    · intro k op lo hi nn X hX hk
      have hk' : k < L.length := by omega
      obtain ⟨f, hf⟩ : ∃ f, L[k]? = some f := ⟨_, List.getElem?_eq_getElem hk'⟩
      have hbits := k3 f (List.mem_of_getElem? hf)
      obtain ⟨x, bi⟩ := f
      simp only at hbits
      obtain ⟨b, rfl⟩ : ∃ b : Nat, bi = (b : Int) := ⟨bi.toNat, by omega⟩
      have h := test_any L p c k b x op 0 lo hi nn ss X (by omega) (by omega) (by omega) hf hss (hfr.later hX).irf
      rw [hnf] at h
      refine h.mono ?_
      rintro e w' ⟨t, rfl, rfl, ht, hp, hb⟩
      exact ⟨t.v, rfl, ⟨t, k, b, rfl, hf, by omega, ht, hp⟩, hb⟩
    · rintro tv X hX ⟨t, k, b, rfl, hf, hb, ht, hp⟩
      obtain ⟨g1, g2, g3, g4, g5⟩ := T1 X (bel0Z hW hX)
      obtain ⟨C, hC, hCl⟩ := cb_okZ hck hnd hf hb ht
      have h := fcubes_any L p c t X hLl (by omega) hxs (by omega) (hfr.later hX).irf g1 g2 g3 g4 g5
      rw [hC, hnf] at h
      refine h.mono ?_
      rintro e w' ⟨v, rfl, o, hb⟩
      obtain ⟨p1, cc, rfl⟩ := shapeZ o
      refine ⟨p1, cc, C, rfl, ?_, hCl, hb⟩
      unfold OWZ
      rw [stZ_len]
      exact o
    · intro X hX
      have h := header_any L p c ss n X (by omega) k3 hn (hfr.later hX).irf hss
      rw [hnf] at h
      refine h.mono ?_
      rintro e w' ⟨rfl, hb⟩
      exact ⟨hdG n ss, rfl, rfl, hb⟩
    · rintro G X hX rfl
      obtain ⟨g1, g2, g3, g4, g5⟩ := T1 X (bel0Z hW hX)
      have hun : unM L (hdG n ss) = (uvL L (hdG n ss), 0) := by
        unfold unM
        rw [if_neg (fun h => h h0), hn, Int.toNat_natCast, if_neg (by unfold hdB; rw [hdG_len, hdG_01]; simp)]
      have h := unpack_any L p c (hdG n ss) X hLl (by omega) hxs (hfr.later hX).irf g1 g2 g3
      rw [hun, hnf] at h
      refine h.mono ?_
      rintro e w' ⟨v, rfl, o, hb⟩
      have hul : (uvL L (hdG n ss)).length = nf := by rw [uvL_len, hnf]
      have o' : w'.ownsRow X.heap.size 3 1 v nf (ivs (uvL L (hdG n ss))) := by rw [← hul]; exact o
      obtain ⟨p1, cc, rfl⟩ := shapeZ o'
      refine ⟨p1, cc, uvL L (hdG n ss), rfl, hul, ?_, hb⟩
      unfold OWZ
      rw [inZ_len, hul]
      exact o'
  · intro W p c kd sa sb sc ss hW hfr hc hss
    refine roomy_core L nf c p n0 n1 f0 f1 kd sa sb sc (bits .and .i64 sa 1) (bits .and .i64 sb 1) ss W hl8.1 hl8.2 hc e0 e1 hfr rfl rfl ?_ ?_
    · intro X q' c2 B hX ho
      obtain ⟨g1, g2, g3, g4, g5⟩ := T1 X (bel0Z hW hX)
      have hc2 := own_cap3Z ho
      obtain ⟨d1, d2⟩ := wd_roomyZ h0 hnd e0 (by rw [hnf]; exact e1) k3 (and01 sa) (and01 sb)
      have h := word_any L p c [(n1, bits .and .i64 sa 1), (n0, bits .and .i64 sb 1)] q' c2 X hLl (by omega) (by show 2 ≤ c2; omega) hxs (hfr.later hX).irf (irf_setZ ho) g1 g2 g3
      rw [hnf] at h d1 d2
      refine h.mono ?_
      rintro e w' ⟨rfl, hb⟩
      exact ⟨_, _, rfl, d1, d2, hb⟩
    · intro X q' c2 B hX ho
      obtain ⟨g1, g2, g3, g4, g5⟩ := T1 X (bel0Z hW hX)
      have hp := pkM_zeroZ h0
      have h := pack_any L p c (List.replicate nf 0) q' c2 X hLl (by omega) hxs (hfr.later hX).irf (irv_zeroZ ho) g1 g2 g3
      rw [hnf] at hp h
      rw [List.length_replicate, hp] at h
      refine h.mono ?_
      rintro e w' ⟨rfl, hb⟩
      exact ⟨_, rfl, hb⟩
end Go.Proofs.YtnboehlbcjfndaaGreatDoor

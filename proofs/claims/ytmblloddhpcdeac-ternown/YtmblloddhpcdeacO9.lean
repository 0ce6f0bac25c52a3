import Derived.Test.YtmblloddhpcdeacO8
namespace Go.Proofs.Ytmblloddhpcdeac
open Go.RowKit

theorem splO_good (A B : List UInt8) (gA : good A = true) (gB : good B = true) : (∀ x ∈ splT A B, good x = true) ∧ (splT A B).length ≤ 256 := by
  refine ⟨?_, spl_len _ _ (good_len gA)⟩
  cases h : agB A B
  · unfold splT
    rw [h]
    intro x hx
    simp at hx
    subst hx
    exact gA
  · exact good_spl _ _ (fitB_len (agB_fit h)) gA gB

/-- a pair of the list, in a world behind the first -/
theorem pair_at (p : Option Addr) (len n c k : Nat) (SL : List ByteArray) (w : World) (hlen : SL.length = len) (hcell : ∀ i, i < len → ∃ ad, p = some ad ∧ w.cell? (ad.add i) = some (.string (SL.getD i ByteArray.empty))) (hsz : ∀ s ∈ SL, s.size ≤ maxLen) (hn : n ≤ 200) (hnl : n ≤ len) (hk : k + 1 < n) :
    ∃ L : List (List UInt8), (∀ x ∈ L, good x = true) ∧ L.length ≤ 256 ∧ ∀ W, Below w.heap.size w W → Calls Try.prog 34 #[.slice p n c, .int .i64 (k : Int)] W fun e w' => ∃ V, e = .returned (.tuple #[V, .bool true]) ∧ w'.ownsRow W.heap.size 26 9 V L.length (cels L) ∧ Below W.heap.size W w' := by
  obtain ⟨ad, rfl, ha⟩ := hcell k (by omega)
  obtain ⟨ad2, e, hb⟩ := hcell (k + 1) (by omega)
  injection e with e
  subst e
  have sz : ∀ i, i < len → (SL.getD i ByteArray.empty).size ≤ maxLen := by
    intro i hi
    refine hsz _ ?_
    rw [List.getD_eq_getElem?_getD, List.getElem?_eq_getElem (by omega)]
    exact List.getElem_mem _
  have gA := good_cubeT (SL.getD k ByteArray.empty).data.toList
  have gB := good_cubeT (SL.getD (k + 1) ByteArray.empty).data.toList
  obtain ⟨g1, g2⟩ := splO_good _ _ gA gB
  refine ⟨_, g1, g2, fun W hW => ?_⟩
  exact pair_raw ad n c k (k + 1) _ _ _ _ _ W (sz k (by omega)) (sz (k + 1) (by omega)) gA gB rfl rfl rfl g1 g2 (by omega) hk hn ((hW.cell (World.block_lt_of_cell? w _ ha)).trans ha) ((hW.cell (World.block_lt_of_cell? w _ hb)).trans hb)

/-- a value's block was not there at the first -/
def newer (w : World) (v : Value) : Prop := ∀ k, v.ownBlock = some k → w.heap.size ≤ k
theorem newer_own {w X : World} {B n s : Nat} {e : TypeId} {v : Value} {xs : List Value} (h : X.ownsRow B e s v n xs) (hB : w.heap.size ≤ B) : newer w v := fun k hk => Nat.le_trans hB (h.lt k hk).1

/-- what stands at the head of TernOwn's loops -/
def ST (w W : World) (E : List (Value × Value × List UInt8)) (H Q : List (Value × List (List UInt8))) (bv hv wv : Value) : Prop :=
  IOw w W E H Q (H.map (·.1)) (Q.map (·.1)) bv hv wv ∧ H.map (·.2) = Q.map (·.2) ∧ ∀ x ∈ H, newer w x.1
theorem info_row : (Try.prog.info? 51).map (fun i => (i.zero, i.size, i.bytes)) = some (some (.slice none 0 0), 1, 24) := by kernel_rfl
theorem info_kept : (Try.prog.info? 65).map (fun i => (i.zero, i.size, i.bytes)) = some (some (.agg #[.slice none 0 0, .slice none 0 0, .int .i64 0, .int .u64 0, .int .u64 0, .int .u64 0, .int .u64 0, .int .u64 0, .int .u64 0, .int .u64 0, .int .u64 0]), 11, 120) := by kernel_rfl
theorem dis_symm {x y : Value} (h : dis x y) : dis y x := fun b hb e => h b e hb
theorem IOw.fresh {w W X : World} {E : List (Value × Value × List UInt8)} {H Q : List (Value × List (List UInt8))} {HV QV : List Value} {bv hv wv V : Value} {B n : Nat} {xs : List Value} (h : IOw w W E H Q HV QV bv hv wv)
    (oV : X.ownsRow B 26 9 V n xs) (hB : W.heap.size ≤ B) : (∀ x ∈ H, dis x.1 V) ∧ (∀ e ∈ E, dis V e.1 ∧ dis V e.2.1) := by
  refine ⟨fun x hx => ?_, fun e he => ?_⟩
  · obtain ⟨⟨_, o⟩, _⟩ := h.hk x hx
    exact dis_new oV o hB
  · obtain ⟨⟨_, _, o1⟩, ⟨_, _, o2⟩⟩ := EOK_rows (V := e.1) (G := e.2.1) (M := e.2.2) (h.eo e he)
    exact ⟨dis_symm (dis_new oV o1 hB), dis_symm (dis_new oV o2 hB)⟩
theorem ST_add {w W : World} {E : List (Value × Value × List UInt8)} {H Q N N' : List (Value × List (List UInt8))} {bv hv wv : Value} (h : IOw w W E (H ++ N) (Q ++ N') (H.map (·.1) ++ N.map (·.1)) (Q.map (·.1) ++ N'.map (·.1)) bv hv wv) (e : H.map (·.2) = Q.map (·.2)) (e2 : N.map (·.2) = N'.map (·.2)) (nH : ∀ x ∈ H, newer w x.1) (nN : ∀ x ∈ N, newer w x.1) : ST w W E (H ++ N) (Q ++ N') bv hv wv :=
  ⟨by rw [List.map_append, List.map_append]; exact h, by rw [List.map_append, List.map_append, e, e2], fun x hx => (List.mem_append.1 hx).elim (nH x) (nN x)⟩
theorem KG_fresh {W : World} {p : Option Addr} {c k j B b2 N0 : Nat} {M : List UInt8} {G : Value} (h : KG W p c k j B b2 M G) (h1 : N0 ≤ B) (h2 : N0 ≤ b2) : ∃ B' n xs, N0 ≤ B' ∧ W.ownsRow B' 26 9 G n xs := by
  rcases h with ⟨g, _, _, o⟩ | ⟨o, _⟩
  · exact ⟨_, _, _, h1, o⟩
  · exact ⟨_, _, _, h2, o⟩
/-- the lists that kept wrote and went on to are others than those behind -/
theorem KG_dis {W X : World} {p : Option Addr} {c k j B : Nat} {M : List UInt8} {G : Value} {H : List (Value × List (List UInt8))} (h : KG X p c k j B W.heap.size M G) (hk : ∀ x ∈ H, LOK W x) (hd : ∀ x ∈ H, dis x.1 (.slice p k c)) : ∀ x ∈ H, dis x.1 G := by
  intro x hx
  rcases h with ⟨g, rfl, rfl, o⟩ | ⟨o, _⟩
  · exact hd x hx
  · obtain ⟨⟨_, ox⟩, _⟩ := hk x hx
    exact dis_new o ox (Nat.le_refl _)
end Go.Proofs.Ytmblloddhpcdeac

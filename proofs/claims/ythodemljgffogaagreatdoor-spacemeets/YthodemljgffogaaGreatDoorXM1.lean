import Derived.Test.YthodemljgffogaaGreatDoorXBS
namespace Go.Proofs.YthodemljgffogaaGreatDoor
open Go.RowKit Go.Shelf
theorem info_strY : (Tryz.prog.info? 9).map (fun i => (i.zero, i.size, i.bytes)) = some (some (.string ⟨#[]⟩), 1, 16) := by kernel_rfl
theorem stx_one (L : List (List UInt8)) : ∀ v ∈ stx L, v.oneCell' = true := fun v hv => by
  obtain ⟨z, _, rfl⟩ := List.mem_map.1 hv
  rfl
theorem stx_news {W : World} {ad : Addr} {L : List (List UInt8)} (h : IRSt W (some ad) L) : ∀ j u, (stx L)[j]? = some u → W.cell? (ad.add j) = some u := fun j u hu => by
  unfold stx at hu
  rw [List.getElem?_map] at hu
  cases hz : L[j]? with
  | none => rw [hz] at hu; cases hu
  | some t =>
    rw [hz] at hu
    obtain ⟨g, o0, e1, c0⟩ := h W (Below.refl _ _) j t hz
    injection e1 with e1
    subst e1
    have ea : (⟨g, o0, none⟩ : Addr).add j = ⟨g, o0 + j, none⟩ := by simp [Addr.add]
    rw [ea, c0]
    exact hu
theorem app_st {ops : Array Oper} {rest : List Oper} {o : Oper} {a : Act} {Q : Exit → Act → World → Prop} {w : World} (hgd : o.guard = none) (s x : Operand)
    (ho : o.op = .call { callee := .builtin .append, args := #[s, x], argTypes := #[50, 50] }) (base : Nat) (v : Value) (m : Nat) (xs : List Value) (hs : a.eval s = v) (hown : w.ownsRow base 9 1 v m xs)
    (p : Option Addr) (n k : Nat) (L : List (List UInt8)) (hx : a.eval x = .slice p n k) (hL : L.length = n) (hr : IRSt w p L) (hm : m + n ≤ 10000000) (hbase : base ≤ w.heap.size)
    (h : ∀ v' w', w'.ownsRow base 9 1 v' (m + n) (xs ++ stx L) → w.grownBy w' v.ownBlock → wpList Tryz.prog ops Q rest (a.put o.dst v') w') : wpList Tryz.prog ops Q (o :: rest) a w := by
  obtain ⟨iT, hiT, hzT0, hzT1, hzT2⟩ := info_parts info_strY
  cases p with
  | none =>
    have hz : L = [] := by
      cases hc : L with
      | nil => rfl
      | cons z l =>
        obtain ⟨g, o0, e, -⟩ := hr w (Below.refl _ _) 0 z (by rw [hc]; rfl)
        cases e
    subst hz
    have hn : n = 0 := hL.symm
    subst hn
    refine app_none0 hgd s x 50 ho base 9 iT 1 Tryz.underlying50 hiT v m k xs hs hown hx (h v w ?_ ⟨rfl, rfl, rfl, Nat.le_refl _, fun _ _ _ => rfl⟩)
    have e : xs ++ stx [] = xs := by simp [stx]
    rw [e]
    exact hown
  | some ad =>
    exact wpList_append_own _ hgd s x 50 ho base 9 iT _ 1 16 Tryz.underlying50 hiT hzT0 hzT1 hzT2 rfl (by decide) v m xs hs hown ad n k (stx L) hx (by simp [stx, hL]) (stx_news hr) (stx_one L) (by unfold maxLen; omega) (by omega) hbase (fun v' w' h1 h2 _ => h v' w' h1 h2)
theorem dboth_any (L1 L2 : List (List UInt8)) (p1 p2 : Option Addr) (n1 n2 k1 k2 : Nat) (w : World) (h1 : L1.length = n1) (h2 : L2.length = n2) (hN1 : n1 ≤ 1000000) (hN2 : n2 ≤ 1000000) (r1 : IRSt w p1 L1) (r2 : IRSt w p2 L2) :
    Calls Tryz.prog 25 #[.slice p1 n1 k1, .slice p2 n2 k2] w fun e w' => ∃ v, e = .returned v ∧ w'.ownsRow w.heap.size 9 1 v (n1 + n2) (stx (L1 ++ L2)) ∧ Below w.heap.size w w' := by
  have HR : Hid (IRSt w p1 L1 ∧ IRSt w p2 L2 ∧ L1.length = n1 ∧ L2.length = n2) := ⟨r1, r2, h1, h2⟩
  clear r1 r2 h1 h2
  go_enter Tryz.func25, Tryz.ntmps25
  go_wp2_with (at_builtin; refine app_st rfl _ _ rfl w.heap.size (.slice none 0 0) 0 [] rfl (World.ownsRow_nil _ _ _ _) p1 n1 k1 L1 rfl HR.out.2.2.1 HR.out.1 (by omega) (Nat.le_refl _) ?_)
  intro v8 w8 o8 g8
  have hB8 : Below w.heap.size w w8 := app_belC (Below.refl _ _) (World.ownsRow_nil _ w.heap.size 9 1) g8
  obtain ⟨pv, cv, rfl⟩ := shapeQ1 o8
  have O8 : Hid (w8.ownsRow w.heap.size 9 1 (.slice pv n1 cv) n1 (stx L1)) := o8
  have hbs8 := hB8.size
  have HB8 : Hid (Below w.heap.size w w8) := hB8
  clear o8 g8 hB8
  go_wp2_with (at_builtin; refine app_st rfl _ _ rfl w.heap.size (.slice pv n1 cv) n1 (stx L1) rfl O8.out p2 n2 k2 L2 rfl HR.out.2.2.2 (HR.out.2.1.later HB8.out) (by omega) hbs8 ?_)
  intro v9 w9 o9 g9
  have hB9 : Below w.heap.size w w9 := app_belC HB8.out O8.out g9
  obtain ⟨pw, cw, rfl⟩ := shapeQ1 o9
  have O9 : Hid (w9.ownsRow w.heap.size 9 1 (.slice pw (n1 + n2) cw) (n1 + n2) (stx (L1 ++ L2)) ∧ Below w.heap.size w w9) := by
    have e : stx (L1 ++ L2) = stx L1 ++ stx L2 := by simp [stx]
    unfold Hid
    rw [e]
    exact ⟨o9, hB9⟩
  clear o9 g9 hB9
  go_wp2_with fail
  go_ret
  exact ⟨_, rfl, O9.out⟩
end Go.Proofs.YthodemljgffogaaGreatDoor
namespace Go.Proofs.YthodemljgffogaaGreatDoor
open Go.RowKit Go.Shelf
def mnE (b b2 : Int) (A C : List (List UInt8 × List (List UInt8))) : Int := if (!(b == 0) && (b == b2)) = false then 11 else if 2048 < A.length * C.length then 3 else if szC (topC (stl (cmN A C))) ≤ 128 then 0 else 3
def mnB (b b2 : Int) (A C : List (List UInt8 × List (List UInt8))) : Int := if mnE b b2 A C = 0 then b else 0
def mnT (b b2 : Int) (A C : List (List UInt8 × List (List UInt8))) : List (List UInt8 × List (List UInt8)) := if mnE b b2 A C = 0 then ordT (topC (stl (cmN A C))) else []
theorem stD_app (X Y : List (List UInt8 × List (List UInt8))) : stD (X ++ Y) = stD X ++ stD Y := by unfold stD; rw [List.filterMap_append]
theorem stD_sing (c : List UInt8) (L : List (List UInt8)) : stD [(c, L)] = match setO c L with | none => [] | some R => [(c, srtT R)] := by
  unfold stD
  cases h : setO c L <;> simp [h]
theorem stD_len (X : List (List UInt8 × List (List UInt8))) : (stD X).length ≤ X.length := List.length_filterMap_le _ _
theorem cmN_len2 (A C : List (List UInt8 × List (List UInt8))) : (cmN A C).length ≤ A.length * C.length := by
  induction A with
  | nil => simp [cmN]
  | cons a l ih =>
    have e : cmN (a :: l) C = cmN [a] C ++ cmN l C := by
      unfold cmN
      simp only [List.flatMap_cons, List.flatMap_nil, List.append_nil]
    have h1 : (cmN [a] C).length ≤ C.length := by rw [cmN_sing]; exact List.length_filterMap_le _ _
    rw [e, List.length_append, List.length_cons, Nat.succ_mul]
    omega
theorem cm_most (Z1 Z2 : List ZT) (k j : Nat) (x : List UInt8 × List (List UInt8)) (h1 : Z1.length ≤ 128) (h2 : Z2.length ≤ 128) : (stD (cmN ((Z1.take k).map ZT.cont) (Z2.map ZT.cont) ++ cmN [x] ((Z2.take j).map ZT.cont))).length ≤ 16512 := by
  have h3 := stD_len (cmN ((Z1.take k).map ZT.cont) (Z2.map ZT.cont) ++ cmN [x] ((Z2.take j).map ZT.cont))
  rw [List.length_append] at h3
  have h4 := cmN_len2 ((Z1.take k).map ZT.cont) (Z2.map ZT.cont)
  have h5 := cmN_len2 [x] ((Z2.take j).map ZT.cont)
  rw [List.length_map, List.length_take, List.length_map] at h4
  rw [List.length_map, List.length_take, List.length_singleton] at h5
  have h6 : min k Z1.length * Z2.length ≤ 128 * 128 := Nat.mul_le_mul (by omega) h2
  omega
end Go.Proofs.YthodemljgffogaaGreatDoor

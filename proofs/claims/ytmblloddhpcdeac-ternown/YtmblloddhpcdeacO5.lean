import Derived.Test.YtmblloddhpcdeacO3
import Derived.Deep.RegionWith
import Derived.Deep.Onto
import Derived.ArgAppend
namespace Go.Proofs.Ytmblloddhpcdeac
open Go.RowKit

theorem shapeP {W : World} {B n : Nat} {e : TypeId} {v : Value} {xs : List Value} {sz : Nat} (h : W.ownsRow B e sz v n xs) : ∃ p c, v = .slice p n c := by
  rcases h.2 with ⟨rfl, rfl⟩ | ⟨g, c, _, rfl, _⟩
  · exact ⟨_, _, rfl⟩
  · exact ⟨_, _, rfl⟩
theorem own_preO {W : World} {B g c n m : Nat} {xs ys : List Value} (h : W.ownsRow B 26 9 (.slice (some ⟨g, 0, none⟩) (n + m) c) (n + m) (xs ++ ys)) (hx : xs.length = n * 9) : W.ownsRow B 26 9 (.slice (some ⟨g, 0, none⟩) n c) n xs := by
  rcases h.2 with ⟨e, _⟩ | ⟨g2, c2, cur, e, h1, h2, h3, h4, h5, h6⟩
  · cases e
  · injection e with e1 e2 e3
    injection e1 with e1
    injection e1 with e1
    subst e1 e3
    refine ⟨hx, .inr ⟨g, c, cur, rfl, h1, h2, by omega, h4, h5, ?_⟩⟩
    have h7 : (cur.toList.take ((n + m) * 9)).take (n * 9) = (xs ++ ys).take (n * 9) := by rw [h6]
    rw [List.take_take, Nat.min_eq_left (by omega)] at h7
    rw [h7, ← hx]
    simp
theorem grown_trans {a b c : World} {row : Option Nat} (h1 : a.grownBy b row) (h2 : b.grownBy c row) : a.grownBy c row :=
  ⟨h2.os.trans h1.os, h2.tape.trans h1.tape, h2.output.trans h1.output, Nat.le_trans h1.size h2.size, fun k hk hne => (h2.block k (Nat.lt_of_lt_of_le hk h1.size) hne).trans (h1.block k hk hne)⟩
theorem grown_new {a b c : World} {row r2 : Option Nat} (h1 : a.grownBy b row) (h2 : b.grownBy c r2) (hr : ∀ k, r2 = some k → a.heap.size ≤ k) : a.grownBy c row :=
  ⟨h2.os.trans h1.os, h2.tape.trans h1.tape, h2.output.trans h1.output, Nat.le_trans h1.size h2.size, fun k hk hne => (h2.block k (Nat.lt_of_lt_of_le hk h1.size) (fun e => by have := hr k e.symm; omega)).trans (h1.block k hk hne)⟩
theorem celsO_len (L : List (List UInt8)) : (cels L).length = L.length * 9 := by
  induction L with
  | nil => rfl
  | cons x l ih => simp only [cels, List.flatMap_cons, List.length_append, List.length_cons] at ih ⊢; rw [ih]; simp [cel]; omega
theorem cels_set (K : List (List UInt8)) (k : Nat) (M : List UInt8) (hk : k < K.length) :
    (((((((((cels K).set (k * 9) (.int .i64 (M.length : Int))).set (k * 9 + 1) (.int .u64 (FW M 0 : Int))).set (k * 9 + 2) (.int .u64 (FW M 1 : Int))).set (k * 9 + 3) (.int .u64 (FW M 2 : Int))).set (k * 9 + 4) (.int .u64 (FW M 3 : Int))).set (k * 9 + 5) (.int .u64 (OW M 0 : Int))).set (k * 9 + 6) (.int .u64 (OW M 1 : Int))).set (k * 9 + 7) (.int .u64 (OW M 2 : Int))).set (k * 9 + 8) (.int .u64 (OW M 3 : Int)) = cels (K.set k M) := by
  have hl := celsO_len K
  apply List.ext_getElem?
  intro j
  obtain ⟨q, m, hm, rfl⟩ : ∃ q m, m < 9 ∧ j = q * 9 + m := ⟨j / 9, j % 9, by omega, by omega⟩
  rw [cels_get (K.set k M) q m hm]
  by_cases hq : q = k
  · subst hq
    rw [List.getElem?_set_self hk]
    have hc : m = 0 ∨ m = 1 ∨ m = 2 ∨ m = 3 ∨ m = 4 ∨ m = 5 ∨ m = 6 ∨ m = 7 ∨ m = 8 := by omega
    rcases hc with rfl | rfl | rfl | rfl | rfl | rfl | rfl | rfl | rfl <;>
      (repeat rw [List.getElem?_set_ne (by omega)]) <;>
      (first | (rw [List.getElem?_set_self (by simp only [List.length_set]; omega)]; rfl) | (show (((cels K).set (q * 9) _))[q * 9]? = _; rw [List.getElem?_set_self (by omega)]; rfl))
  · rw [List.getElem?_set_ne (by omega), List.getElem?_set_ne (by omega), List.getElem?_set_ne (by omega), List.getElem?_set_ne (by omega), List.getElem?_set_ne (by omega), List.getElem?_set_ne (by omega), List.getElem?_set_ne (by omega), List.getElem?_set_ne (by omega), List.getElem?_set_ne (by omega), cels_get K q m hm, List.getElem?_set_ne (fun e => hq e.symm)]
theorem rep_set (L : List (List UInt8)) (M : List UInt8) (k : Nat) (hk : k < L.length) : (List.replicate k M ++ L.drop k).set k M = List.replicate (k + 1) M ++ L.drop (k + 1) := by
  rw [List.set_append_right _ _ (by simp), List.replicate_succ', List.append_assoc]
  congr 1
  rw [List.length_replicate, Nat.sub_self, List.drop_eq_getElem_cons hk]
  rfl
theorem cels_rep_succ (n : Nat) (M : List UInt8) : cels (List.replicate (n + 1) M) = cels (List.replicate n M) ++ cel M := by
  rw [List.replicate_succ', cels_snoc]
def put9k (W : World) (g k : Nat) (M : List UInt8) : World :=
  ((((((((W.setCell ⟨g, k * 9, none⟩ (.int .i64 (M.length : Int))).setCell ⟨g, k * 9 + 1, none⟩ (.int .u64 (FW M 0 : Int))).setCell ⟨g, k * 9 + 2, none⟩ (.int .u64 (FW M 1 : Int))).setCell ⟨g, k * 9 + 3, none⟩ (.int .u64 (FW M 2 : Int))).setCell ⟨g, k * 9 + 4, none⟩ (.int .u64 (FW M 3 : Int))).setCell ⟨g, k * 9 + 5, none⟩ (.int .u64 (OW M 0 : Int))).setCell ⟨g, k * 9 + 6, none⟩ (.int .u64 (OW M 1 : Int))).setCell ⟨g, k * 9 + 7, none⟩ (.int .u64 (OW M 2 : Int))).setCell ⟨g, k * 9 + 8, none⟩ (.int .u64 (OW M 3 : Int))
theorem put9k_own {W : World} {B g n c k : Nat} {K : List (List UInt8)} (M : List UInt8) (h : W.ownsRow B 26 9 (.slice (some ⟨g, 0, none⟩) n c) n (cels K)) (hk : k < K.length) :
    (put9k W g k M).ownsRow B 26 9 (.slice (some ⟨g, 0, none⟩) n c) n (cels (K.set k M)) ∧ W.grownBy (put9k W g k M) (some g) := by
  have s0 := h.stored (k * 9) (.int .i64 (M.length : Int))
  have s1 := s0.1.stored (k * 9 + 1) (.int .u64 (FW M 0 : Int))
  have s2 := s1.1.stored (k * 9 + 2) (.int .u64 (FW M 1 : Int))
  have s3 := s2.1.stored (k * 9 + 3) (.int .u64 (FW M 2 : Int))
  have s4 := s3.1.stored (k * 9 + 4) (.int .u64 (FW M 3 : Int))
  have s5 := s4.1.stored (k * 9 + 5) (.int .u64 (OW M 0 : Int))
  have s6 := s5.1.stored (k * 9 + 6) (.int .u64 (OW M 1 : Int))
  have s7 := s6.1.stored (k * 9 + 7) (.int .u64 (OW M 2 : Int))
  have s8 := s7.1.stored (k * 9 + 8) (.int .u64 (OW M 3 : Int))
  rw [← cels_set K k M hk]
  exact ⟨s8.1, grown_trans s0.2 (grown_trans s1.2 (grown_trans s2.2 (grown_trans s3.2 (grown_trans s4.2 (grown_trans s5.2 (grown_trans s6.2 (grown_trans s7.2 s8.2)))))))⟩
end Go.Proofs.Ytmblloddhpcdeac

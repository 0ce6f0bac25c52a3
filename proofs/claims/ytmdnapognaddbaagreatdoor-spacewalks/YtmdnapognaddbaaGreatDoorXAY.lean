import Derived.Test.YtmdnapognaddbaaGreatDoorXAW
namespace Go.Proofs.YtmdnapognaddbaaGreatDoor
open Go.RowKit Go.Shelf
/-- a term with its list in order -/
def sof (t : List UInt8 × List (List UInt8)) : List UInt8 × List (List UInt8) := (t.1, srtT t.2)
/-- the document's terms, each in its form -/
def stD (Ts : List (List UInt8 × List (List UInt8))) : List (List UInt8 × List (List UInt8)) := Ts.filterMap (fun t => (setO t.1 t.2).map (fun R => (t.1, srtT R)))
theorem stD_eq (Ts : List (List UInt8 × List (List UInt8))) : stD Ts = (stl Ts).map sof := by
  unfold stD stl
  rw [List.map_filterMap]
  congr 1
  funext t
  cases setO t.1 t.2 <;> rfl
theorem all_permL {T U : List (List UInt8)} (hp : T.Perm U) (p : List UInt8 → Bool) : T.all p = U.all p := by
  rw [Bool.eq_iff_iff, List.all_eq_true, List.all_eq_true]
  exact ⟨fun h x hx => h x (hp.mem_iff.2 hx), fun h x hx => h x (hp.mem_iff.1 hx)⟩
theorem cvC_sof (a b : List UInt8 × List (List UInt8)) : cvC (sof a) (sof b) = cvC a b := by
  unfold cvC sof
  simp only
  rw [all_permL (srtT_perm b.2)]
  congr 2
  funext n
  rw [any_perm (srtT_perm a.2)]
theorem topCS_sof (T : List (List UInt8 × List (List UInt8))) (x : List UInt8 × List (List UInt8)) : topCS (T.map sof) (sof x) = (topCS T x).map sof := by
  unfold topCS
  have h1 : (T.map sof).any (fun y => cvC (sof x) y) = T.any (fun y => cvC x y) := by
    rw [List.any_map]
    congr 1
    funext y
    exact cvC_sof x y
  rw [h1]
  split
  · rfl
  · rw [List.map_append, List.filter_map]
    congr 2
    congr 1
    funext y
    show (!cvC (sof y) (sof x)) = !cvC y x
    rw [cvC_sof]
theorem topF_sof (L : List (List UInt8 × List (List UInt8))) : ∀ T : List (List UInt8 × List (List UInt8)), (L.map sof).foldl topCS (T.map sof) = (L.foldl topCS T).map sof := by
  induction L with
  | nil => intro T; rfl
  | cons x l ih =>
    intro T
    rw [List.map_cons, List.foldl_cons, List.foldl_cons, topCS_sof, ih]
theorem topC_sof (L : List (List UInt8 × List (List UInt8))) : topC (L.map sof) = (topC L).map sof := topF_sof L []
/-- the document's form is the program's -/
theorem frm_eq (Ts : List (List UInt8 × List (List UInt8))) : (srtLn ((topC (stD Ts)).map (fun t => t.1 :: t.2))).map (fun S => (S.headD [], S.tail)) = ordT (topC (stl Ts)) := by
  rw [stD_eq, topC_sof, List.map_map]
  rfl
end Go.Proofs.YtmdnapognaddbaaGreatDoor

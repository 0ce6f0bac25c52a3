import Derived.Test.YtfhlgncpleleaaaDoorUA
import Derived.Lib.Join
import Derived.Test.YtfhlgncpleleaaaDoorNL
import Derived.Shelf.Strconv.Itoa3
namespace Go.Proofs.YtfhlgncpleleaaaDoor
open Go.RowKit
/-- a reply -/
structure RP where
  k : Int
  fd : Bool
  sp : List UInt8
  wi : List UInt8
  po : List (List UInt8)
  en : List (List UInt8)
  fi : List UInt8
  li : List (List UInt8)
  mo : Bool
def wdT : List (List UInt8) := [[114, 101, 112, 108, 121], [114, 101, 97, 99, 104], [109, 105, 115, 115, 101, 100], [108, 111, 111, 112], [108, 111, 115, 116], [105, 115, 111, 108, 97, 116, 101], [112, 97, 116, 104], [97, 118, 111, 105, 100], [99, 111, 118, 101, 114], [116, 114, 97, 99, 101]]
def wdK (k : Int) : List UInt8 := if 0 < k ∧ k < 10 then wdT.getD k.toNat [] else [114, 101, 112, 108, 121]
def fdT (b : Bool) : List UInt8 := if b = true then [58, 32, 102, 111, 117, 110, 100] else [58, 32, 110, 111, 110, 101]
def pH (k : Int) (fd : Bool) : List UInt8 := wdK k ++ (fdT fd ++ [10])
def pI (l : List UInt8) : List UInt8 := [32, 32] ++ l ++ [10]
def pW (wd what : List UInt8) : List UInt8 := if what = [] then [] else pI (wd ++ [32] ++ what)
def pL (wd : List UInt8) (L : List (List UInt8)) (sep : List UInt8) : List UInt8 := if L = [] then [] else pI (wd ++ [32] ++ Lib.join L sep)
def pN (L : List (List UInt8)) : List UInt8 := L.flatMap pI
def pM (b : Bool) : List UInt8 := if b = true then pI [109, 111, 114, 101] else []
/-- the text of a reply -/
def rnR (r : RP) : List UInt8 := pH r.k r.fd ++ pW [115, 112, 97, 99, 101] r.sp ++ pW [119, 105, 116, 110, 101, 115, 115] r.wi ++ pL [112, 97, 116, 104] r.po [32] ++ pL [98, 121] r.en [44, 32] ++ pW [102, 105, 110, 97, 108] r.fi ++ pN r.li ++ pM r.mo
/-- the document's lines -/
def renL (ls : List (List UInt8)) : List UInt8 := ls.flatMap (fun l => l ++ [10])
def oW (pre what : List UInt8) : List (List UInt8) := if what = [] then [] else [pre ++ what]
def oL (pre : List UInt8) (L : List (List UInt8)) (sep : List UInt8) : List (List UInt8) := if L = [] then [] else [pre ++ Lib.join L sep]
def tdL (r : RP) : List (List UInt8) := [wdK r.k ++ fdT r.fd] ++ oW [32, 32, 115, 112, 97, 99, 101, 32] r.sp ++ oW [32, 32, 119, 105, 116, 110, 101, 115, 115, 32] r.wi ++ oL [32, 32, 112, 97, 116, 104, 32] r.po [32] ++ oL [32, 32, 98, 121, 32] r.en [44, 32] ++ oW [32, 32, 102, 105, 110, 97, 108, 32] r.fi ++ r.li.map (fun l => [32, 32] ++ l) ++ (if r.mo = true then [[32, 32, 109, 111, 114, 101]] else [])
theorem renL_app (a b : List (List UInt8)) : renL (a ++ b) = renL a ++ renL b := by simp [renL]
theorem renL_oW (a _b what : List UInt8) : renL (oW ([32, 32] ++ a ++ [32]) what) = pW a what := by
  unfold oW pW pI
  split <;> simp [renL]
theorem renL_oL (a : List UInt8) (L : List (List UInt8)) (sep : List UInt8) : renL (oL ([32, 32] ++ a ++ [32]) L sep) = pL a L sep := by
  unfold oL pL pI
  split <;> simp [renL]
theorem renL_li (L : List (List UInt8)) : renL (L.map (fun l => [32, 32] ++ l)) = pN L := by
  unfold renL pN pI
  rw [List.flatMap_map]
theorem ren_told (r : RP) : renL (tdL r) = rnR r := by
  unfold tdL rnR
  rw [renL_app, renL_app, renL_app, renL_app, renL_app, renL_app, renL_app]
  rw [show renL [wdK r.k ++ fdT r.fd] = pH r.k r.fd by simp [renL, pH]]
  rw [show renL (oW [32, 32, 115, 112, 97, 99, 101, 32] r.sp) = pW [115, 112, 97, 99, 101] r.sp from renL_oW [115, 112, 97, 99, 101] [] r.sp]
  rw [show renL (oW [32, 32, 119, 105, 116, 110, 101, 115, 115, 32] r.wi) = pW [119, 105, 116, 110, 101, 115, 115] r.wi from renL_oW [119, 105, 116, 110, 101, 115, 115] [] r.wi]
  rw [show renL (oW [32, 32, 102, 105, 110, 97, 108, 32] r.fi) = pW [102, 105, 110, 97, 108] r.fi from renL_oW [102, 105, 110, 97, 108] [] r.fi]
  rw [show renL (oL [32, 32, 112, 97, 116, 104, 32] r.po [32]) = pL [112, 97, 116, 104] r.po [32] from renL_oL [112, 97, 116, 104] r.po [32]]
  rw [show renL (oL [32, 32, 98, 121, 32] r.en [44, 32]) = pL [98, 121] r.en [44, 32] from renL_oL [98, 121] r.en [44, 32]]
  rw [renL_li]
  congr 1
  unfold pM pI
  split <;> simp [renL]
theorem pH_ne (k : Int) (b : Bool) : pH k b ≠ [] := by
  unfold pH
  simp
/-- the outcome, but for its replies -/
structure RS where
  k : Int
  c : Int
  t : Int
  l : Int
def itL (n : Int) : List UInt8 := Lib.itoa n
/-- the whole text -/
def rnS (s : RS) (R : List RP) : List UInt8 :=
  if s.k = 2 then (if s.t = 1 then [112, 97, 114, 115, 101, 32, 101, 114, 114, 111, 114, 32] ++ itL s.c ++ [32, 105, 110, 32, 116, 104, 101, 32, 99, 111, 110, 102, 105, 103, 117, 114, 97, 116, 105, 111, 110, 44, 32, 108, 105, 110, 101, 32] ++ itL s.l ++ [10] else [112, 97, 114, 115, 101, 32, 101, 114, 114, 111, 114, 32] ++ itL s.c ++ [32, 105, 110, 32, 116, 104, 101, 32, 113, 117, 101, 114, 121, 44, 32, 108, 105, 110, 101, 32] ++ itL s.l ++ [10])
  else if s.k = 3 then (if s.t = 1 then [105, 108, 108, 45, 102, 111, 114, 109, 101, 100, 32] ++ itL s.c ++ [32, 105, 110, 32, 116, 104, 101, 32, 99, 111, 110, 102, 105, 103, 117, 114, 97, 116, 105, 111, 110, 10] else [105, 108, 108, 45, 102, 111, 114, 109, 101, 100, 32] ++ itL s.c ++ [32, 105, 110, 32, 113, 117, 101, 114, 121, 32] ++ itL s.l ++ [10])
  else if s.k = 4 then [98, 117, 100, 103, 101, 116, 32, 101, 120, 99, 101, 101, 100, 101, 100, 10]
  else if s.k = 1 then R.flatMap rnR else []
/-- the document's lines of the whole -/
def tdS (s : RS) (R : List RP) : List (List UInt8) :=
  if s.k = 1 then R.flatMap tdL
  else if s.k = 2 then (if s.t = 1 then [[112, 97, 114, 115, 101, 32, 101, 114, 114, 111, 114, 32] ++ itL s.c ++ [32, 105, 110, 32, 116, 104, 101, 32, 99, 111, 110, 102, 105, 103, 117, 114, 97, 116, 105, 111, 110, 44, 32, 108, 105, 110, 101, 32] ++ itL s.l] else [[112, 97, 114, 115, 101, 32, 101, 114, 114, 111, 114, 32] ++ itL s.c ++ [32, 105, 110, 32, 116, 104, 101, 32, 113, 117, 101, 114, 121, 44, 32, 108, 105, 110, 101, 32] ++ itL s.l])
  else if s.k = 3 then (if s.t = 1 then [[105, 108, 108, 45, 102, 111, 114, 109, 101, 100, 32] ++ itL s.c ++ [32, 105, 110, 32, 116, 104, 101, 32, 99, 111, 110, 102, 105, 103, 117, 114, 97, 116, 105, 111, 110]] else [[105, 108, 108, 45, 102, 111, 114, 109, 101, 100, 32] ++ itL s.c ++ [32, 105, 110, 32, 113, 117, 101, 114, 121, 32] ++ itL s.l])
  else if s.k = 4 then [[98, 117, 100, 103, 101, 116, 32, 101, 120, 99, 101, 101, 100, 101, 100]] else []
theorem renL_flat (R : List RP) : renL (R.flatMap tdL) = R.flatMap rnR := by
  induction R with
  | nil => rfl
  | cons r R ih => rw [List.flatMap_cons, renL_app, ren_told, ih, List.flatMap_cons]
theorem ren_all (s : RS) (R : List RP) : renL (tdS s R) = rnS s R := by
  unfold tdS rnS
  by_cases h1 : s.k = 1
  · rw [if_pos h1, if_neg (by omega), if_neg (by omega), if_neg (by omega), if_pos h1]
    exact renL_flat R
  · rw [if_neg h1]
    by_cases h2 : s.k = 2
    · rw [if_pos h2, if_pos h2]
      split <;> simp [renL]
    · rw [if_neg h2, if_neg h2]
      by_cases h3 : s.k = 3
      · rw [if_pos h3, if_pos h3]
        split <;> simp [renL]
      · rw [if_neg h3, if_neg h3]
        by_cases h4 : s.k = 4
        · rw [if_pos h4, if_pos h4]
          simp [renL]
        · rw [if_neg h4, if_neg h4, if_neg h1]
          rfl
end Go.Proofs.YtfhlgncpleleaaaDoor

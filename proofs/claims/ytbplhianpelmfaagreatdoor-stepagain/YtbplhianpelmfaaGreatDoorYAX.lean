import Derived.Test.YtbplhianpelmfaaGreatDoorYAW
namespace Go.Proofs.YtbplhianpelmfaaGreatDoor.Nt
open Go.RowKit Go.Shelf
section
variable {W W':World} {p:Option Addr}
theorem rowL_lp {L:List NP} (h:RowL 4 npC W p L):LP W p L:=fun k x hx=>by
 obtain ⟨g,o,e,hc⟩:=h k x hx
 exact ⟨g,o,e,hc 0 _ rfl,hc 1 _ rfl,hc 2 _ rfl,hc 3 _ rfl⟩
end
theorem lp_rowL {W:World} {p:Option Addr} {L:List NP} (h:LP W p L):RowL 4 npC W p L:=fun k x hx=>by
 obtain ⟨g,o,e,c0,c1,c2,c3⟩:=h k x hx
 refine ⟨g,o,e,fun j v hv=>?_⟩
 match j,hv with
 | 0,hv=>obtain rfl:=Option.some.inj hv;exact c0
 | 1,hv=>obtain rfl:=Option.some.inj hv;exact c1
 | 2,hv=>obtain rfl:=Option.some.inj hv;exact c2
 | 3,hv=>obtain rfl:=Option.some.inj hv;exact c3
 | n+4,hv=>simp [npC] at hv
theorem ne_ty {W:World} {a b:Nat} {c1 c2:Array Value} {T1 T2:TypeId} {f1 f2:Nat×Nat} (h1:W.heap[a]?=some (.cells c1 T1 f1)) (h2:W.heap[b]?=some (.cells c2 T2 f2)) (hT:T1≠T2):a≠b:=fun e=>by
 subst e
 rw [h1] at h2
 injection h2 with h2
 injection h2 with _ e2 _
 exact hT e2
end Go.Proofs.YtbplhianpelmfaaGreatDoor.Nt

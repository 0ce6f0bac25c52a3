import Derived.Test.YtbplhianpelmfaaGreatDoorYAT
namespace Go.Proofs.YtbplhianpelmfaaGreatDoor.Nt
open Go.RowKit Go.Shelf
def RRL {α:Type} (sz:Nat) (f:α→List Value) (W:World) (p:Option Addr) (tb:List (List α)):Prop:=∀ (k:Nat) (t:List α),tb[k]?=some t→∃ g o q c,p=some ⟨g,o,none⟩∧W.cell? ⟨g,o+k,none⟩=some (.slice q t.length c)∧RowL sz f W q t∧t.length≤c
theorem npC_one (x:NP):∀ u∈(npC x).toArray.toList,u.oneCell'=true:=by
 intro u hu
 simp only [npC,List.mem_cons,List.not_mem_nil,or_false] at hu
 rcases hu with rfl | rfl | rfl | rfl <;> rfl
theorem sl_one (q:Option Addr) (m c:Nat):∀ u∈(#[Value.slice q m c]:Array Value).toList,u.oneCell'=true:=by
 intro u hu
 have hu:u=.slice q m c:=by simpa using hu
 rw [hu]
 rfl
theorem own_blk {W:World} {B:Nat} {T:TypeId} {s n g:Nat} {v:Value} {xs:List Value} (h:W.ownsRow B T s v n xs) (e:v.ownBlock=some g):∃ cur,W.heap[g]?=some (Obj.cells cur T (0,0)):=by
 obtain ⟨_,⟨rfl,_⟩ | ⟨g2,c,cur,rfl,_,hg,_⟩⟩:=h
 ·cases e
 ·obtain rfl:g2=g:=by simpa [Value.ownBlock] using e
  exact ⟨cur,hg⟩
theorem own_keep {W W':World} {B:Nat} {T:TypeId} {s n:Nat} {v:Value} {xs:List Value} (h:W.ownsRow B T s v n xs) (hw:∀ (b:Nat) (cur:Array Value),W.heap[b]?=some (Obj.cells cur T (0,0))→W'.heap[b]?=some (Obj.cells cur T (0,0))):W'.ownsRow B T s v n xs:=by
 obtain ⟨hx,h0 | ⟨g,c,cur,e,hB,hg,r⟩⟩:=h
 ·exact ⟨hx,.inl h0⟩
 ·exact ⟨hx,.inr ⟨g,c,cur,e,hB,hw g cur hg,r⟩⟩
end Go.Proofs.YtbplhianpelmfaaGreatDoor.Nt

import Derived.Test.YtbplhianpelmfaaGreatDoorYAU
namespace Go.Proofs.YtbplhianpelmfaaGreatDoor.Nt
open Go.RowKit Go.Shelf
theorem tok_rrl {α:Type} {W:World} {B n c:Nat} {T TS:TypeId} {sz:Nat} {f:α→List Value} (hf:∀ x,(f x).length=sz) {p:Option Addr} {vs:List Value} {tb:List (List α)} (h:W.ownsRow B TS 1 (.slice p n c) n vs) (hn:tb.length=n) (hk:TOK W B T sz f vs tb):RRL sz f W p tb:=fun k t ht=>by
 have hlt:=(List.getElem?_eq_some_iff.1 ht).1
 obtain ⟨g,rfl⟩:=own_someZ h (by omega)
 obtain ⟨v,hv⟩:∃ v,vs[k]?=some v:=⟨_,List.getElem?_eq_getElem (by rw [hk.1];exact hlt)⟩
 have ho:=hk.2 k v t hv ht
 obtain ⟨q,c9,rfl⟩:=shapeZ ho
 refine ⟨g,0,q,c9,rfl,?_,own_rowL hf ho rfl,?_⟩
 ·rw [Nat.zero_add];exact own_atZ h hv
 ·rcases ho.2 with ⟨e,h0⟩ | ⟨g2,c2,cur,e,_,_,h3,_⟩
  ·omega
  ·injection e with _ _ e3
   omega
end Go.Proofs.YtbplhianpelmfaaGreatDoor.Nt

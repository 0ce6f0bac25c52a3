import Derived.Test.YtciffggmobblpaaGreatDoorXBV
namespace Go.Proofs.YtciffggmobblpaaGreatDoor.Nt
open Go.RowKit Go.Shelf
theorem info_intN:(Tryz.prog.info? 3).map (fun i=>(i.zero,i.size,i.bytes))=some (some (.int .i64 0),1,8):=by kernel_rfl
theorem pushI {W:World} {B:Nat} {p:Option Addr} {n n9 c:Nat} {L:List Int} (h:W.ownsRow B 3 1 (.slice p n c) n (inZ L)) (hB:B≤W.heap.size) (x:Int) (hn:n+1=n9) (hO:n9*8≤140737488355328) :
  ∃ q c9 W9,(Builtin.append_ #[38,38] 38 #[.slice p n c,.slice (some ⟨W.heap.size,0,none⟩) 1 1]).run Tryz.prog (W.alloc (.cells #[.int .i64 x] 3 (0,0)))=.ok (.slice q n9 c9) W9∧W9.ownsRow B 3 1 (.slice q n9 c9) n9 (inZ (L++[x]))∧Below B W W9∧(∀ b o,W.heap[b]?=some o→(Value.slice p n c).ownBlock≠some b→W9.heap[b]?=some o):=by
 subst hn
 obtain ⟨i0,hi,hz0,hz1,hz2⟩:=info_parts info_intN
 obtain ⟨q,c9,W9,hr,o9,b9,kp,-⟩:=pushR (W:=W) (TS:=38) (cs:=#[.int .i64 x]) Tryz.underlying38 hi hz0 hz1 hz2 rfl (by decide) h hB rfl (fun u hu=>by
  have hu:u=.int .i64 x:=by simpa using hu
  rw [hu]
  rfl) hO (by omega)
 refine ⟨q,c9,W9,hr,?_,b9,kp⟩
 have e:inZ (L++[x])=inZ L++[.int .i64 x]:=by simp [inZ]
 rw [e]
 simpa using o9
theorem own_li {W:World} {B n c:Nat} {p:Option Addr} {L:List Int} (h:W.ownsRow B 3 1 (.slice p n c) n (inZ L)) (hn:L.length=n):LI W p L:=fun k x hx=>by
 have hk:=(List.getElem?_eq_some_iff.1 hx).1
 obtain ⟨g,rfl⟩:=own_someZ h (by omega)
 exact ⟨g,0,rfl,by rw [Nat.zero_add];exact own_atZ h (by simp [inZ,hx])⟩
end Go.Proofs.YtciffggmobblpaaGreatDoor.Nt

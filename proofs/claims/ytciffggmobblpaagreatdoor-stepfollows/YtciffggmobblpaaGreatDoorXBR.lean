import Derived.Test.YtciffggmobblpaaGreatDoorXBQ
import Derived.Test.YtciffggmobblpaaGreatDoorXBI
import Derived.Test.YtciffggmobblpaaGreatDoorXBH
namespace Go.Proofs.YtciffggmobblpaaGreatDoor.Nt
open Go.RowKit Go.Shelf
theorem num_any (R:Int) (w:World):Calls Tryz.prog 7 #[.int .i64 R] w fun e w'=>e=.returned (.int .i64 R)∧w'=w:=by
 go_enter Tryz.func7,Tryz.ntmps7
 go_wp2_with fail
 go_ret
 exact ⟨rfl,rfl⟩
def nnT:NN:=⟨1,[⟨[82,46,97],0,true,-1⟩,⟨[82,46,98],0,false,0⟩],[[⟨[101],[0],[[120]],[48],[1]⟩]],[[],[]]⟩
theorem full_ra:fullN [82,46,97]=true:=by decide +kernel
theorem full_rb:fullN [82,46,98]=true:=by decide +kernel
theorem netP_T:NetP nnT:=by
 refine ⟨⟨by decide,by decide,by decide,by decide,rfl⟩,by decide,by decide,⟨fun p hp=>?_,by decide⟩,fun g hg=>?_,fun k t ht=>?_⟩
 ·have hp:p=⟨[82,46,97],0,true,-1⟩∨p=⟨[82,46,98],0,false,0⟩:=by simpa [nnT] using hp
  rcases hp with rfl | rfl
  ·exact ⟨full_ra,by decide,by decide,.inl rfl⟩
  ·exact ⟨full_rb,by decide,by decide,.inr ⟨rfl,by decide,by decide,rfl⟩⟩
 ·have hg:g=[]:=by simpa [nnT] using hg
  subst hg
  exact ⟨fun l hl=>by simp at hl,by decide⟩
 ·have hk:k < 1:=(List.getElem?_eq_some_iff.1 ht).1
  obtain rfl:k=0:=by omega
  have ht:t=[⟨[101],[0],[[120]],[48],[1]⟩]:=(Option.some.inj ht).symm
  subst ht
  refine ⟨fun e he=>?_,by decide⟩
  have he:e=⟨[101],[0],[[120]],[48],[1]⟩:=by simpa using he
  subst he
  refine ⟨by decide,⟨fun q hq=>?_,by decide⟩,⟨by decide,fun c hc=>?_⟩,⟨rfl,rfl⟩,⟨by decide,fun q hq=>?_,by decide⟩⟩
  ·have hq:q=0:=by simpa using hq
   subst hq
   exact ⟨by decide,by decide,rfl,rfl⟩
  ·have hc:c=[120]:=by simpa using hc
   subst hc
   exact ⟨rfl,rfl⟩
  ·have hq:q=1:=by simpa using hq
   subst hq
   exact ⟨by decide,by decide,rfl,rfl⟩
theorem okT:okN nnT:=by
 refine ⟨by decide,fun p hp=>?_,by decide,fun t ht=>?_,by decide,fun t ht=>?_⟩
 ·have hp:p=⟨[82,46,97],0,true,-1⟩∨p=⟨[82,46,98],0,false,0⟩:=by simpa [nnT] using hp
  rcases hp with rfl | rfl
  ·exact (by decide:(3:Nat)≤140737488351232)
  ·exact (by decide:(3:Nat)≤140737488351232)
 ·have ht:t=[⟨[101],[0],[[120]],[48],[1]⟩]:=by simpa [nnT] using ht
  subst ht
  refine ⟨by decide,fun e he=>?_⟩
  have he:e=⟨[101],[0],[[120]],[48],[1]⟩:=by simpa using he
  subst he
  refine ⟨(by decide:(1:Nat)≤140737488351232),(by decide:(8:Nat)≤140737488351232),⟨by decide,fun x hx=>?_⟩,(by decide:(1:Nat)≤140737488351232),(by decide:(8:Nat)≤140737488351232)⟩
  have hx:x=[120]:=by simpa using hx
  subst hx
  exact (by decide:(1:Nat)≤140737488351232)
 ·have ht:t=[]:=by simpa [nnT] using ht
  subst ht
  exact ⟨by decide,fun l hl=>by simp at hl⟩
theorem stT:StP nnT (0,[49]):=⟨by decide,by decide,rfl,rfl⟩
theorem nxT:nxtM nnT (0,[49])=(0,[(1,[48]),(0,[48])]):=by decide +kernel
theorem chkT:chkM nnT (0,[49])=0:=chk_yes netP_T stT
theorem lnT {w:World} {a1 a2 a3 a4 a5 a6 a7:Nat} (h1:w.heap[a1]?=some (.cells #[.string ⟨#[82,46,97]⟩,.int .i64 0,.bool true,.int .i64 (-1),.string ⟨#[82,46,98]⟩,.int .i64 0,.bool false,.int .i64 0] 36 (0,0))) (h2:w.heap[a2]?=some (.cells #[.int .i64 0] 3 (0,0))) (h3:w.heap[a3]?=some (.cells #[.string ⟨#[120]⟩] 9 (0,0))) (h4:w.heap[a4]?=some (.cells #[.int .i64 1] 3 (0,0))) (h5:w.heap[a5]?=some (.cells #[.string ⟨#[101]⟩,.slice (some ⟨a2,0,none⟩) 1 1,.slice (some ⟨a3,0,none⟩) 1 1,.string ⟨#[48]⟩,.slice (some ⟨a4,0,none⟩) 1 1] 41 (0,0))) (h6:w.heap[a6]?=some (.cells #[.slice (some ⟨a5,0,none⟩) 1 1] 37 (0,0))) (h7:w.heap[a7]?=some (.cells #[.slice none 0 0,.slice none 0 0] 43 (0,0))) :
  LN w nnT ⟨some ⟨a1,0,none⟩,2,some ⟨a6,0,none⟩,1,some ⟨a7,0,none⟩,2⟩:=by
 have c1:=(cellsZ h1).1
 have c2:=(cellsZ h2).1
 have c3:=(cellsZ h3).1
 have c4:=(cellsZ h4).1
 have c5:=(cellsZ h5).1
 have c6:=(cellsZ h6).1
 have c7:=(cellsZ h7).1
 have li:∀ (a:Nat) (x:Int),(∀ j,w.cell? ⟨a,j,none⟩=(#[Value.int .i64 x])[j]?)→LI w (some ⟨a,0,none⟩) [x]:=fun a x hc k y hy=>by
  have hk:k < 1:=(List.getElem?_eq_some_iff.1 hy).1
  obtain rfl:k=0:=by omega
  obtain rfl:x=y:=Option.some.inj hy
  exact ⟨a,0,rfl,by rw [hc];rfl⟩
 refine ⟨fun k x hx=>?_,Nat.le_refl 2,fun k x hx=>?_,Nat.le_refl 1,fun k x hx=>?_,Nat.le_refl 2⟩
 ·have hk:k < 2:=(List.getElem?_eq_some_iff.1 hx).1
  rcases (show k=0∨k=1 by omega) with rfl | rfl
  ·have hx:x=⟨[82,46,97],0,true,-1⟩:=(Option.some.inj hx).symm
   subst hx
   exact ⟨a1,0,rfl,by rw [c1];rfl,by rw [c1];rfl,by rw [c1];rfl,by rw [c1];rfl⟩
  ·have hx:x=⟨[82,46,98],0,false,0⟩:=(Option.some.inj hx).symm
   subst hx
   exact ⟨a1,0,rfl,by rw [c1];rfl,by rw [c1];rfl,by rw [c1];rfl,by rw [c1];rfl⟩
 ·have hk:k < 1:=(List.getElem?_eq_some_iff.1 hx).1
  obtain rfl:k=0:=by omega
  have hx:x=[⟨[101],[0],[[120]],[48],[1]⟩]:=(Option.some.inj hx).symm
  subst hx
  refine ⟨a6,0,some ⟨a5,0,none⟩,1,rfl,by rw [c6];rfl,fun k x hx=>?_,Nat.le_refl 1⟩
  have hk:k < 1:=(List.getElem?_eq_some_iff.1 hx).1
  obtain rfl:k=0:=by omega
  have hx:x=⟨[101],[0],[[120]],[48],[1]⟩:=(Option.some.inj hx).symm
  subst hx
  refine ⟨a5,0,some ⟨a2,0,none⟩,1,some ⟨a3,0,none⟩,1,some ⟨a4,0,none⟩,1,rfl,by rw [c5];rfl,by rw [c5];rfl,by rw [c5];rfl,by rw [c5];rfl,by rw [c5];rfl,li a2 0 c2,Nat.le_refl 1,fun k y hy=>?_,Nat.le_refl 1,li a4 1 c4,Nat.le_refl 1⟩
  have hk:k < 1:=(List.getElem?_eq_some_iff.1 hy).1
  obtain rfl:k=0:=by omega
  obtain rfl:[120]=y:=Option.some.inj hy
  exact ⟨a3,0,rfl,by rw [c3];rfl⟩
 ·have hk:k < 2:=(List.getElem?_eq_some_iff.1 hx).1
  rcases (show k=0∨k=1 by omega) with rfl | rfl
  ·have hx:x=[]:=(Option.some.inj hx).symm
   subst hx
   exact ⟨a7,0,none,0,rfl,by rw [c7];rfl,fun k x hx=>by simp at hx,by decide⟩
  ·have hx:x=[]:=(Option.some.inj hx).symm
   subst hx
   exact ⟨a7,0,none,0,rfl,by rw [c7];rfl,fun k x hx=>by simp at hx,by decide⟩
theorem res_netT (fn:Func) (tmps:Array Value) (W:World) (b:Nat) (v0 v1 v2 v3:Value) (hfn:fn.results=#[.cell 0 26]) (h:tmps[0]?.getD undef=.pointer (some ⟨b,0,none⟩)) (hb:W.heap[b]?=some (.cells #[v0,v1,v2,v3] 26 (0,0))) :
  (results fn tmps).run Tryz.prog W=.ok (.agg #[v0,v1,v2,v3]) W:=by
 have h1:=(cellsZ hb).1
 have c0:=h1 0
 have c1:=h1 1
 have c2:=h1 2
 have c3:=h1 3
 simp at c0 c1 c2 c3
 simp [results,hfn,h,c0,c1,c2,c3,go_sem]
set_option maxRecDepth 100000 in
set_option maxHeartbeats 16000000 in
theorem tiny_any (w:World):Calls Tryz.prog 26 #[] w fun e w'=>∃ a1 a2 a3,e=.returned (.agg #[.int .i64 1,.slice (some a1) 2 2,.slice (some a2) 1 1,.slice (some a3) 2 2])∧LN w' nnT ⟨some a1,2,some a2,1,some a3,2⟩∧Below w.heap.size w w':=by
 obtain ⟨B,hB⟩:∃ B,w.heap.size=B:=⟨_,rfl⟩
 obtain ⟨W0,hW0⟩:∃ W0,w.alloc (.cells #[.int .i64 0,.slice none 0 0,.slice none 0 0,.slice none 0 0] 26)=W0:=⟨_,rfl⟩
 have b0:Below w.heap.size w W0:=by rw [←hW0];exact belAZ (Below.refl _ _) _
 have k0:W0.heap[B]?=some (.cells #[.int .i64 0,.slice none 0 0,.slice none 0 0,.slice none 0 0] 26 (0,0)):=by rw [←hW0,←hB];exact alloc_getZ _ _
 obtain ⟨y1,hy1⟩:∃ y,W0.heap.size=y:=⟨_,rfl⟩
 obtain ⟨y2,hy2⟩:∃ y,W0.heap.size+1=y:=⟨_,rfl⟩
 obtain ⟨y3,hy3⟩:∃ y,W0.heap.size+1+1=y:=⟨_,rfl⟩
 obtain ⟨y4,hy4⟩:∃ y,W0.heap.size+1+1+1=y:=⟨_,rfl⟩
 obtain ⟨y5,hy5⟩:∃ y,W0.heap.size+1+1+1+1=y:=⟨_,rfl⟩
 obtain ⟨y6,hy6⟩:∃ y,W0.heap.size+1+1+1+1+1=y:=⟨_,rfl⟩
 obtain ⟨y7,hy7⟩:∃ y,W0.heap.size+1+1+1+1+1+1=y:=⟨_,rfl⟩
 obtain ⟨X1,hX1⟩:∃ X,W0.alloc (.cells #[.string ⟨#[82,46,97]⟩,.int .i64 0,.bool true,.int .i64 (-1),.string ⟨#[82,46,98]⟩,.int .i64 0,.bool false,.int .i64 0] 36)=X:=⟨_,rfl⟩
 have c1:Below W0.heap.size W0 X1:=by rw [←hX1];exact belAZ (Below.refl _ _) _
 have s1:W0.heap.size=y1:=by exact hy1
 have s12:W0.heap.size=W0.heap.size:=by rw [s1,←hy1]
 have g1:X1.heap[y1]?=some (.cells #[.string ⟨#[82,46,97]⟩,.int .i64 0,.bool true,.int .i64 (-1),.string ⟨#[82,46,98]⟩,.int .i64 0,.bool false,.int .i64 0] 36 (0,0)):=by rw [←hX1,←s1];exact alloc_getZ _ _
 obtain ⟨X2,hX2⟩:∃ X,X1.alloc (.cells #[.int .i64 0] 3)=X:=⟨_,rfl⟩
 have c2:Below X1.heap.size X1 X2:=by rw [←hX2];exact belAZ (Below.refl _ _) _
 have s2:X1.heap.size=y2:=by rw [←hX1,←hy2,←s12];exact Array.size_push _
 have s22:X1.heap.size=W0.heap.size+1:=by rw [s2,←hy2]
 have g2:X2.heap[y2]?=some (.cells #[.int .i64 0] 3 (0,0)):=by rw [←hX2,←s2];exact alloc_getZ _ _
 obtain ⟨X3,hX3⟩:∃ X,X2.alloc (.cells #[.string ⟨#[120]⟩] 9)=X:=⟨_,rfl⟩
 have c3:Below X2.heap.size X2 X3:=by rw [←hX3];exact belAZ (Below.refl _ _) _
 have s3:X2.heap.size=y3:=by rw [←hX2,←hy3,←s22];exact Array.size_push _
 have s32:X2.heap.size=W0.heap.size+1+1:=by rw [s3,←hy3]
 have g3:X3.heap[y3]?=some (.cells #[.string ⟨#[120]⟩] 9 (0,0)):=by rw [←hX3,←s3];exact alloc_getZ _ _
 obtain ⟨X4,hX4⟩:∃ X,X3.alloc (.cells #[.int .i64 1] 3)=X:=⟨_,rfl⟩
 have c4:Below X3.heap.size X3 X4:=by rw [←hX4];exact belAZ (Below.refl _ _) _
 have s4:X3.heap.size=y4:=by rw [←hX3,←hy4,←s32];exact Array.size_push _
 have s42:X3.heap.size=W0.heap.size+1+1+1:=by rw [s4,←hy4]
 have g4:X4.heap[y4]?=some (.cells #[.int .i64 1] 3 (0,0)):=by rw [←hX4,←s4];exact alloc_getZ _ _
 obtain ⟨X5,hX5⟩:∃ X,X4.alloc (.cells #[.string ⟨#[101]⟩,.slice (some ⟨y2,0,none⟩) 1 1,.slice (some ⟨y3,0,none⟩) 1 1,.string ⟨#[48]⟩,.slice (some ⟨y4,0,none⟩) 1 1] 41)=X:=⟨_,rfl⟩
 have c5:Below X4.heap.size X4 X5:=by rw [←hX5];exact belAZ (Below.refl _ _) _
 have s5:X4.heap.size=y5:=by rw [←hX4,←hy5,←s42];exact Array.size_push _
 have s52:X4.heap.size=W0.heap.size+1+1+1+1:=by rw [s5,←hy5]
 have g5:X5.heap[y5]?=some (.cells #[.string ⟨#[101]⟩,.slice (some ⟨y2,0,none⟩) 1 1,.slice (some ⟨y3,0,none⟩) 1 1,.string ⟨#[48]⟩,.slice (some ⟨y4,0,none⟩) 1 1] 41 (0,0)):=by rw [←hX5,←s5];exact alloc_getZ _ _
 obtain ⟨X6,hX6⟩:∃ X,X5.alloc (.cells #[.slice (some ⟨y5,0,none⟩) 1 1] 37)=X:=⟨_,rfl⟩
 have c6:Below X5.heap.size X5 X6:=by rw [←hX6];exact belAZ (Below.refl _ _) _
 have s6:X5.heap.size=y6:=by rw [←hX5,←hy6,←s52];exact Array.size_push _
 have s62:X5.heap.size=W0.heap.size+1+1+1+1+1:=by rw [s6,←hy6]
 have g6:X6.heap[y6]?=some (.cells #[.slice (some ⟨y5,0,none⟩) 1 1] 37 (0,0)):=by rw [←hX6,←s6];exact alloc_getZ _ _
 obtain ⟨X7,hX7⟩:∃ X,X6.alloc (.cells #[.slice none 0 0,.slice none 0 0] 43)=X:=⟨_,rfl⟩
 have c7:Below X6.heap.size X6 X7:=by rw [←hX7];exact belAZ (Below.refl _ _) _
 have s7:X6.heap.size=y7:=by rw [←hX6,←hy7,←s62];exact Array.size_push _
 have s72:X6.heap.size=W0.heap.size+1+1+1+1+1+1:=by rw [s7,←hy7]
 have g7:X7.heap[y7]?=some (.cells #[.slice none 0 0,.slice none 0 0] 43 (0,0)):=by rw [←hX7,←s7];exact alloc_getZ _ _
 have bb:Below w.heap.size w X7:=bel0Z (bel0Z (bel0Z (bel0Z (bel0Z (bel0Z (bel0Z b0 c1) c2) c3) c4) c5) c6) c7
 have hle:w.heap.size≤B:=by omega
 have kB:X7.heap[B]?=some (.cells #[.int .i64 0,.slice none 0 0,.slice none 0 0,.slice none 0 0] 26 (0,0)):=keepZ c7 (keepZ c6 (keepZ c5 (keepZ c4 (keepZ c3 (keepZ c2 (keepZ c1 k0))))))
 have hyb:∀ y,y∈[y1,y2,y3,y4,y5,y6,y7]→B < y:=fun y hy=>by
  have h9:W0.heap.size=B+1:=by rw [←hW0,←hB];exact Array.size_push _
  simp only [List.mem_cons,List.not_mem_nil,or_false] at hy
  omega
 obtain ⟨X9,hX9⟩:∃ X9,((((X7.setCell ⟨B,0,none⟩ (.int .i64 1)).setCell ⟨B,1,none⟩ (.slice (some ⟨y1,0,none⟩) 2 2)).setCell ⟨B,2,none⟩ (.slice (some ⟨y6,0,none⟩) 1 1)).setCell ⟨B,3,none⟩ (.slice (some ⟨y7,0,none⟩) 2 2))=X9:=⟨_,rfl⟩
 have hRES:X9.heap[B]?=some (.cells #[.int .i64 1,.slice (some ⟨y1,0,none⟩) 2 2,.slice (some ⟨y6,0,none⟩) 1 1,.slice (some ⟨y7,0,none⟩) 2 2] 26 (0,0)):=by
  rw [←hX9]
  exact ((set_getZ _ (set_getZ _ (set_getZ _ (set_getZ _ kB))))).trans (by simp)
 have hbw:Below w.heap.size w X9:=by
  rw [←hX9]
  exact ((((bb.setCell hle _).setCell hle _).setCell hle _).setCell hle _)
 have hoth:∀ b,b≠B→X9.heap[b]?=X7.heap[b]?:=fun b hb=>by rw [←hX9,far1 _ _ _ _ _ hb,far1 _ _ _ _ _ hb,far1 _ _ _ _ _ hb,far1 _ _ _ _ _ hb]
 have hln:LN X9 nnT ⟨some ⟨y1,0,none⟩,2,some ⟨y6,0,none⟩,1,some ⟨y7,0,none⟩,2⟩:=by
  have hq:∀ y,y∈[y1,y2,y3,y4,y5,y6,y7]→X9.heap[y]?=X7.heap[y]?:=fun y hy=>hoth y (by have:=hyb y hy;omega)
  exact lnT ((hq y1 (by simp)).trans (keepZ c7 (keepZ c6 (keepZ c5 (keepZ c4 (keepZ c3 (keepZ c2 g1))))))) ((hq y2 (by simp)).trans (keepZ c7 (keepZ c6 (keepZ c5 (keepZ c4 (keepZ c3 g2)))))) ((hq y3 (by simp)).trans (keepZ c7 (keepZ c6 (keepZ c5 (keepZ c4 g3))))) ((hq y4 (by simp)).trans (keepZ c7 (keepZ c6 (keepZ c5 g4)))) ((hq y5 (by simp)).trans (keepZ c7 (keepZ c6 g5))) ((hq y6 (by simp)).trans (keepZ c7 g6)) ((hq y7 (by simp)).trans g7)
 have hn:(((((((W0.alloc (.cells #[.string ⟨#[82,46,97]⟩,.int .i64 0,.bool true,.int .i64 (-1),.string ⟨#[82,46,98]⟩,.int .i64 0,.bool false,.int .i64 0] 36)).alloc (.cells #[.int .i64 0] 3)).alloc (.cells #[.string ⟨#[120]⟩] 9)).alloc (.cells #[.int .i64 1] 3)).alloc (.cells #[.string ⟨#[101]⟩,.slice (some ⟨W0.heap.size+1,0,none⟩) 1 1,.slice (some ⟨W0.heap.size+1+1,0,none⟩) 1 1,.string ⟨#[48]⟩,.slice (some ⟨W0.heap.size+1+1+1,0,none⟩) 1 1] 41)).alloc (.cells #[.slice (some ⟨W0.heap.size+1+1+1+1,0,none⟩) 1 1] 37)).alloc (.cells #[.slice none 0 0,.slice none 0 0] 43))=X7:=by rw [hX1,hX2,hX3,hX4,hy5,hy4,hy3,hy2,hX5,hX6,hX7]
 have hzz:=cellsZ kB
 have z0:(((((((W0.alloc (.cells #[.string ⟨#[82,46,97]⟩,.int .i64 0,.bool true,.int .i64 (-1),.string ⟨#[82,46,98]⟩,.int .i64 0,.bool false,.int .i64 0] 36)).alloc (.cells #[.int .i64 0] 3)).alloc (.cells #[.string ⟨#[120]⟩] 9)).alloc (.cells #[.int .i64 1] 3)).alloc (.cells #[.string ⟨#[101]⟩,.slice (some ⟨W0.heap.size+1,0,none⟩) 1 1,.slice (some ⟨W0.heap.size+1+1,0,none⟩) 1 1,.string ⟨#[48]⟩,.slice (some ⟨W0.heap.size+1+1+1,0,none⟩) 1 1] 41)).alloc (.cells #[.slice (some ⟨W0.heap.size+1+1+1+1,0,none⟩) 1 1] 37)).alloc (.cells #[.slice none 0 0,.slice none 0 0] 43)).cell? ⟨B,0,none⟩=some (.int .i64 0):=by rw [hn,hzz.1];rfl
 have f0:(((((((W0.alloc (.cells #[.string ⟨#[82,46,97]⟩,.int .i64 0,.bool true,.int .i64 (-1),.string ⟨#[82,46,98]⟩,.int .i64 0,.bool false,.int .i64 0] 36)).alloc (.cells #[.int .i64 0] 3)).alloc (.cells #[.string ⟨#[120]⟩] 9)).alloc (.cells #[.int .i64 1] 3)).alloc (.cells #[.string ⟨#[101]⟩,.slice (some ⟨W0.heap.size+1,0,none⟩) 1 1,.slice (some ⟨W0.heap.size+1+1,0,none⟩) 1 1,.string ⟨#[48]⟩,.slice (some ⟨W0.heap.size+1+1+1,0,none⟩) 1 1] 41)).alloc (.cells #[.slice (some ⟨W0.heap.size+1+1+1+1,0,none⟩) 1 1] 37)).alloc (.cells #[.slice none 0 0,.slice none 0 0] 43)).frozen? ⟨B,0,none⟩=false:=by rw [hn];exact hzz.2 0
 have z1:(((((((W0.alloc (.cells #[.string ⟨#[82,46,97]⟩,.int .i64 0,.bool true,.int .i64 (-1),.string ⟨#[82,46,98]⟩,.int .i64 0,.bool false,.int .i64 0] 36)).alloc (.cells #[.int .i64 0] 3)).alloc (.cells #[.string ⟨#[120]⟩] 9)).alloc (.cells #[.int .i64 1] 3)).alloc (.cells #[.string ⟨#[101]⟩,.slice (some ⟨W0.heap.size+1,0,none⟩) 1 1,.slice (some ⟨W0.heap.size+1+1,0,none⟩) 1 1,.string ⟨#[48]⟩,.slice (some ⟨W0.heap.size+1+1+1,0,none⟩) 1 1] 41)).alloc (.cells #[.slice (some ⟨W0.heap.size+1+1+1+1,0,none⟩) 1 1] 37)).alloc (.cells #[.slice none 0 0,.slice none 0 0] 43)).cell? ⟨B,1,none⟩=some (.slice none 0 0):=by rw [hn,hzz.1];rfl
 have f1:(((((((W0.alloc (.cells #[.string ⟨#[82,46,97]⟩,.int .i64 0,.bool true,.int .i64 (-1),.string ⟨#[82,46,98]⟩,.int .i64 0,.bool false,.int .i64 0] 36)).alloc (.cells #[.int .i64 0] 3)).alloc (.cells #[.string ⟨#[120]⟩] 9)).alloc (.cells #[.int .i64 1] 3)).alloc (.cells #[.string ⟨#[101]⟩,.slice (some ⟨W0.heap.size+1,0,none⟩) 1 1,.slice (some ⟨W0.heap.size+1+1,0,none⟩) 1 1,.string ⟨#[48]⟩,.slice (some ⟨W0.heap.size+1+1+1,0,none⟩) 1 1] 41)).alloc (.cells #[.slice (some ⟨W0.heap.size+1+1+1+1,0,none⟩) 1 1] 37)).alloc (.cells #[.slice none 0 0,.slice none 0 0] 43)).frozen? ⟨B,1,none⟩=false:=by rw [hn];exact hzz.2 1
 have z2:(((((((W0.alloc (.cells #[.string ⟨#[82,46,97]⟩,.int .i64 0,.bool true,.int .i64 (-1),.string ⟨#[82,46,98]⟩,.int .i64 0,.bool false,.int .i64 0] 36)).alloc (.cells #[.int .i64 0] 3)).alloc (.cells #[.string ⟨#[120]⟩] 9)).alloc (.cells #[.int .i64 1] 3)).alloc (.cells #[.string ⟨#[101]⟩,.slice (some ⟨W0.heap.size+1,0,none⟩) 1 1,.slice (some ⟨W0.heap.size+1+1,0,none⟩) 1 1,.string ⟨#[48]⟩,.slice (some ⟨W0.heap.size+1+1+1,0,none⟩) 1 1] 41)).alloc (.cells #[.slice (some ⟨W0.heap.size+1+1+1+1,0,none⟩) 1 1] 37)).alloc (.cells #[.slice none 0 0,.slice none 0 0] 43)).cell? ⟨B,2,none⟩=some (.slice none 0 0):=by rw [hn,hzz.1];rfl
 have f2:(((((((W0.alloc (.cells #[.string ⟨#[82,46,97]⟩,.int .i64 0,.bool true,.int .i64 (-1),.string ⟨#[82,46,98]⟩,.int .i64 0,.bool false,.int .i64 0] 36)).alloc (.cells #[.int .i64 0] 3)).alloc (.cells #[.string ⟨#[120]⟩] 9)).alloc (.cells #[.int .i64 1] 3)).alloc (.cells #[.string ⟨#[101]⟩,.slice (some ⟨W0.heap.size+1,0,none⟩) 1 1,.slice (some ⟨W0.heap.size+1+1,0,none⟩) 1 1,.string ⟨#[48]⟩,.slice (some ⟨W0.heap.size+1+1+1,0,none⟩) 1 1] 41)).alloc (.cells #[.slice (some ⟨W0.heap.size+1+1+1+1,0,none⟩) 1 1] 37)).alloc (.cells #[.slice none 0 0,.slice none 0 0] 43)).frozen? ⟨B,2,none⟩=false:=by rw [hn];exact hzz.2 2
 have z3:(((((((W0.alloc (.cells #[.string ⟨#[82,46,97]⟩,.int .i64 0,.bool true,.int .i64 (-1),.string ⟨#[82,46,98]⟩,.int .i64 0,.bool false,.int .i64 0] 36)).alloc (.cells #[.int .i64 0] 3)).alloc (.cells #[.string ⟨#[120]⟩] 9)).alloc (.cells #[.int .i64 1] 3)).alloc (.cells #[.string ⟨#[101]⟩,.slice (some ⟨W0.heap.size+1,0,none⟩) 1 1,.slice (some ⟨W0.heap.size+1+1,0,none⟩) 1 1,.string ⟨#[48]⟩,.slice (some ⟨W0.heap.size+1+1+1,0,none⟩) 1 1] 41)).alloc (.cells #[.slice (some ⟨W0.heap.size+1+1+1+1,0,none⟩) 1 1] 37)).alloc (.cells #[.slice none 0 0,.slice none 0 0] 43)).cell? ⟨B,3,none⟩=some (.slice none 0 0):=by rw [hn,hzz.1];rfl
 have f3:(((((((W0.alloc (.cells #[.string ⟨#[82,46,97]⟩,.int .i64 0,.bool true,.int .i64 (-1),.string ⟨#[82,46,98]⟩,.int .i64 0,.bool false,.int .i64 0] 36)).alloc (.cells #[.int .i64 0] 3)).alloc (.cells #[.string ⟨#[120]⟩] 9)).alloc (.cells #[.int .i64 1] 3)).alloc (.cells #[.string ⟨#[101]⟩,.slice (some ⟨W0.heap.size+1,0,none⟩) 1 1,.slice (some ⟨W0.heap.size+1+1,0,none⟩) 1 1,.string ⟨#[48]⟩,.slice (some ⟨W0.heap.size+1+1+1,0,none⟩) 1 1] 41)).alloc (.cells #[.slice (some ⟨W0.heap.size+1+1+1+1,0,none⟩) 1 1] 37)).alloc (.cells #[.slice none 0 0,.slice none 0 0] 43)).frozen? ⟨B,3,none⟩=false:=by rw [hn];exact hzz.2 3
 have HN9:Hid ((((((((((((W0.alloc (.cells #[.string ⟨#[82,46,97]⟩,.int .i64 0,.bool true,.int .i64 (-1),.string ⟨#[82,46,98]⟩,.int .i64 0,.bool false,.int .i64 0] 36)).alloc (.cells #[.int .i64 0] 3)).alloc (.cells #[.string ⟨#[120]⟩] 9)).alloc (.cells #[.int .i64 1] 3)).alloc (.cells #[.string ⟨#[101]⟩,.slice (some ⟨W0.heap.size+1,0,none⟩) 1 1,.slice (some ⟨W0.heap.size+1+1,0,none⟩) 1 1,.string ⟨#[48]⟩,.slice (some ⟨W0.heap.size+1+1+1,0,none⟩) 1 1] 41)).alloc (.cells #[.slice (some ⟨W0.heap.size+1+1+1+1,0,none⟩) 1 1] 37)).alloc (.cells #[.slice none 0 0,.slice none 0 0] 43)).setCell ⟨B,0,none⟩ (.int .i64 1)).setCell ⟨B,1,none⟩ (.slice (some ⟨W0.heap.size,0,none⟩) 2 2)).setCell ⟨B,2,none⟩ (.slice (some ⟨W0.heap.size+1+1+1+1+1,0,none⟩) 1 1)).setCell ⟨B,3,none⟩ (.slice (some ⟨W0.heap.size+1+1+1+1+1+1,0,none⟩) 2 2))=X9):=by
  show _=_
  rw [hn,hy7,hy6,hy1]
  exact hX9
 have HRES:=hideL hRES
 have HFIN:Hid (LN X9 nnT ⟨some ⟨y1,0,none⟩,2,some ⟨y6,0,none⟩,1,some ⟨y7,0,none⟩,2⟩∧Below w.heap.size w X9):=⟨hln,hbw⟩
 have HB:=hideL hB
 have HW0:=hideL hW0
 clear hB hW0 b0 k0 hy1 hy2 hy3 hy4 hy5 hy6 hy7 hX1 hX2 hX3 hX4 hX5 hX6 hX7 c1 c2 c3 c4 c5 c6 c7 s1 s2 s3 s4 s5 s6 s7 s12 s22 s32 s42 s52 s62 s72 g1 g2 g3 g4 g5 g6 g7 bb hle kB hyb hX9 hRES hbw hoth hln hn hzz
 go_enter Tryz.func26,Tryz.ntmps26
 go_upto_region 1 with fail
 rw [HW0.out,HB.out]
 go_wp2_with fail
 rw [HN9.out]
 refine bodyPost_ret (res_netT _ _ _ B _ _ _ _ rfl rfl HRES.out) rfl ?_
 exact ⟨_,_,_,rfl,HFIN.out.1,HFIN.out.2⟩
set_option maxRecDepth 100000 in
set_option maxHeartbeats 16000000 in
theorem known_any (w:World) (hT:TAB w):Calls Tryz.prog 8 #[] w fun e w'=>e=.returned (.bool true)∧Below w.heap.size w w':=by
 have HT:Hid (Calls Tryz.prog 26 #[] w fun e w'=>∃ a1 a2 a3,e=.returned (.agg #[.int .i64 1,.slice (some a1) 2 2,.slice (some a2) 1 1,.slice (some a3) 2 2])∧LN w' nnT ⟨some a1,2,some a2,1,some a3,2⟩∧Below w.heap.size w w'):=tiny_any w
 have HN:Hid (∀ (a1 a2 a3:Addr) (U:World),Below w.heap.size w U→LN U nnT ⟨some a1,2,some a2,1,some a3,2⟩→Calls Tryz.prog 6 #[.agg #[.int .i64 1,.slice (some a1) 2 2,.slice (some a2) 1 1,.slice (some a3) 2 2],.agg #[.int .i64 0,.string ⟨#[49]⟩]] U fun e w'=>∃ q c,e=.returned (.tuple #[.int .i64 0,.slice q 2 c,.int .i64 0])∧RowL 2 asC w' q [((1:Int),([48]:List UInt8)),(0,[48])]∧Below U.heap.size U w'):=fun a1 a2 a3 U hU hl=>by
  have h9:=snext_any nnT ⟨some a1,2,some a2,1,some a3,2⟩ 0 [49] U hl okT (hT.at hU) (by unfold okS;decide)
  refine Calls.mono h9 ?_
  rintro e w' ⟨q,c,he,ho,hb⟩
  have e1:nxE nnT (0,[49])=0:=by unfold nxE;rw [if_pos chkT,nxT]
  have e2:nxL nnT (0,[49])=[((1:Int),([48]:List UInt8)),(0,[48])]:=by unfold nxL;rw [if_pos chkT,nxT]
  rw [e1,e2,chkT] at he
  rw [e2] at ho
  exact ⟨q,c,he,own_rowL asC_len ho rfl,hb⟩
 clear hT
 go_enter Tryz.func8,Tryz.ntmps8
 go_wp2_with fail
 refine (HT.out).mono ?_
 rintro e W2 ⟨a1,a2,a3,rfl,hl,b2⟩
 have HL:=hideL hl
 have HB:=hideL b2
 clear hl b2
 go_wp2_with fail
 refine (HN.out a1 a2 a3 W2 HB.out HL.out).mono ?_
 rintro e W3 ⟨q,c,rfl,hr,b3⟩
 obtain ⟨g,o,e9,hcx⟩:=hr 0 _ rfl
 subst e9
 have x0:=hcx 0 _ rfl
 have x1:=hcx 1 _ rfl
 obtain ⟨g9,o9,e9,hcy⟩:=hr 1 _ rfl
 simp only [Option.some.injEq,Addr.mk.injEq] at e9
 obtain ⟨rfl,rfl,-⟩:=e9
 have y0:=hcy 0 _ rfl
 have y1:=hcy 1 _ rfl
 simp only [Nat.zero_mul,Nat.one_mul,Nat.add_zero] at x0 x1 y0 y1
 have y2:W3.cell? ⟨g,o+3,none⟩=some (.string ⟨#[48]⟩):=y1
 have HFF:=hideL (bel0Z HB.out b3)
 clear hr hcx hcy b3
 go_wp2_with fail
 refine (num_any 0 W3).mono ?_
 rintro e W4 ⟨rfl,hw⟩
 obtain rfl:W3=W4:=hw.symm
 clear hw
 go_wp2_with fail
 go_ret
 exact ⟨rfl,HFF.out⟩
end Go.Proofs.YtciffggmobblpaaGreatDoor.Nt
namespace Go.Proofs.YtciffggmobblpaaGreatDoor.Tn
open Go.RowKit

theorem empty_str (c:ByteArray):c.toList.isEmpty=c.data.toList.isEmpty:=by rw [ByteArray.toList_eq]

set_option maxHeartbeats 400000 in
theorem rFit_any (a b:ByteArray) (w:World):Calls Tryz.prog 69 #[.string a,.string b] w fun e w'=>e=.returned (.bool (fitB a.data.toList b.data.toList))∧w'=w:=by
 have hfin:Hid (fitB a.data.toList b.data.toList=((!a.toList.isEmpty)&&((a.size:Int)==(b.size:Int)))):=by
  unfold Hid fitB
  rw [empty_str]
  congr 1
  rw [Bool.eq_iff_iff]
  simp
  omega
 cases h0:a.toList.isEmpty
 all_goals
  go_enter Tryz.func69,Tryz.ntmps69
  go_wp2
  go_ret
  exact ⟨by rw [hfin.out,h0];rfl,rfl⟩
theorem rFit_D (a b:ByteArray) (q:Bool) (w:World) (h:fitB a.data.toList b.data.toList=q):Calls Tryz.prog 69 #[.string a,.string b] w fun e w'=>e=.returned (.bool q)∧w=w':=by
 subst h;exact (rFit_any a b w).mono (fun _ _ h=>⟨h.1,h.2.symm⟩)

theorem own_snoc {W:World} {B k:Nat} {v':Value} {f:UInt8→UInt8→UInt8} {a b:ByteArray} {x:UInt8} (hl:a.size=b.size) (hk:k < a.size) (hx:f a[k] (b[k]'(by omega))=x)
  (h:W.ownsRow B 5 1 v' (k+1) (bys ((List.zipWith f a.data.toList b.data.toList).take k)++[.int .u8 (x.toNat:Int)])):W.ownsRow B 5 1 v' (k+1) (bys ((List.zipWith f a.data.toList b.data.toList).take (k+1))):=by
 have la:a.data.toList.length=b.data.toList.length:=by simp;exact hl
 have lk:k < a.data.toList.length:=by simpa using hk
 rw [take_zip f _ _ la k lk,byte_at a k hk,byte_at b k (by omega),hx,←bys_snoc]
 exact h
end Go.Proofs.YtciffggmobblpaaGreatDoor.Tn
namespace Go.Proofs.YtciffggmobblpaaGreatDoor.Tn
open Go.RowKit

set_option maxHeartbeats 400000 in
theorem rWrite_no (a b:ByteArray) (w:World) (hf0:fitB a.data.toList b.data.toList=false) :
  Calls Tryz.prog 52 #[.string a,.string b] w fun e w'=>e=.returned (.string ⟨#[]⟩)∧Below w.heap.size w w':=by
 have hf:Hid (fitB a.data.toList b.data.toList=false):=hf0
 clear hf0
 go_enter Tryz.func52,Tryz.ntmps52
 go_wp2_with (go_at_call 69;refine (rFit_D a b false _ hf.out).mono ?_;rintro e w' ⟨rfl,rfl⟩)
 go_ret
 exact ⟨rfl,Below.refl _ _⟩

set_option maxHeartbeats 2000000 in
theorem rWrite_loop (a b:ByteArray) (w:World) (ga:good a.data.toList=true) (_gb:good b.data.toList=true) (hf0:fitB a.data.toList b.data.toList=true) :
  Calls Tryz.prog 52 #[.string a,.string b] w fun e w'=>e=.returned (.string ⟨(wrT a.data.toList b.data.toList).toArray⟩)∧Below w.heap.size w w':=by
 have hf:Hid (fitB a.data.toList b.data.toList=true):=hf0
 have hz0:a.size=b.size:=by simpa using fitB_len hf0
 have hz:Hid (a.size=b.size):=hz0
 have hl:a.size≤256:=by simpa using good_len ga
 have LA:Hid (a.data.toList.length=a.size):=by simp [Hid]
 clear hf0 hz0
 obtain ⟨i0,hi,hz0,hz1,hz2⟩:=info_parts info_u8
 go_enter Tryz.func52,Tryz.ntmps52
 go_wp2_with (go_at_call 69;refine (rFit_D a b true _ hf.out).mono ?_;rintro e w' ⟨rfl,rfl⟩)
 go_loopw [6,7] (fun v i wr=>∃ k:Nat,k≤a.size∧i=.int .i64 k∧wr.ownsRow w.heap.size 5 1 v k (bys ((wrT a.data.toList b.data.toList).take k))∧Below w.heap.size w wr) (fun _ i _=>a.size - (intOf i).toNat)
 case atStart=>exact ⟨0,Nat.zero_le _,rfl,World.ownsRow_nil _ _ _ _,Below.refl _ _⟩
 case round=>
  obtain ⟨k,hk,rfl,hown,hB⟩:=hrel
  by_cases hlt:k < a.size
  ·skip
   have hkb:k < b.size:=by rw [←hz.out];exact hlt
   have i0':(0:Int)≤(k:Int):=by omega
   have i1:(k:Int) < (a.size:Int):=by omega
   have i2:(k:Int) < (b.size:Int):=by omega
   obtain ⟨p2,n2⟩:∃ p,((b[k].toNat:Int)==120)=p:=⟨_,rfl⟩
   have M2:Hid ((b[k]==120)=p2):=by
    unfold Hid
    have:=byte_bne b[k] 120 (by decide)
    unfold bne at this
    rw [←n2]
    exact (Bool.not_inj this).symm
   cases p2
   ·go_wp2_with (at_builtin;refine wpList_append_own _ rfl _ _ 82 rfl w.heap.size 5 i0 (.int .u8 0) 1 1 Tryz.underlying82 hi hz0 hz1 hz2 rfl (by decide) _ _ _ rfl (hown.alloc _) ⟨wr.heap.size,0,none⟩ 1 1 [.int .u8 (b[k].toNat:Int)] rfl rfl (cell_one_new _ _ _) (by simp [Value.oneCell']) (by unfold maxLen;omega) (by omega) (by have:=hB.size;simp;omega) ?_;intro v' w1 hown' hgrow _)
    go_roundw
    case rel=>exact ⟨k+1,by omega,by go_num,own_snoc (f:=fun x y=>if y==120 then x else y) hz.out hlt (by show (if (b[k]==120)=true then a[k] else b[k])=b[k];rw [M2.out];rfl) hown',bel_app hB hown hgrow⟩
    case measure=>simp [intOf];omega
   ·go_wp2_with (at_builtin;refine wpList_append_own _ rfl _ _ 82 rfl w.heap.size 5 i0 (.int .u8 0) 1 1 Tryz.underlying82 hi hz0 hz1 hz2 rfl (by decide) _ _ _ rfl (hown.alloc _) ⟨wr.heap.size,0,none⟩ 1 1 [.int .u8 (a[k].toNat:Int)] rfl rfl (cell_one_new _ _ _) (by simp [Value.oneCell']) (by unfold maxLen;omega) (by omega) (by have:=hB.size;simp;omega) ?_;intro v' w1 hown' hgrow _)
    go_roundw
    case rel=>exact ⟨k+1,by omega,by go_num,own_snoc (f:=fun x y=>if y==120 then x else y) hz.out hlt (by show (if (b[k]==120)=true then a[k] else b[k])=a[k];rw [M2.out];rfl) hown',bel_app hB hown hgrow⟩
    case measure=>simp [intOf];omega
  ·have hkn:k=a.size:=by omega
   have hT:(wrT a.data.toList b.data.toList).take k=wrT a.data.toList b.data.toList:=by rw [hkn,←LA.out];exact take_all _ _ _ (fitB_len hf.out)
   have hL:(wrT a.data.toList b.data.toList).length=k:=by unfold wrT;rw [zip_len _ _ _ (fitB_len hf.out),LA.out,hkn]
   have hcv:=conv_any wr w.heap.size _ (wrT a.data.toList b.data.toList) (by rw [hL];rw [hT] at hown;exact hown)
   clear hT hL
   go_wp2
   go_ret
   exact ⟨rfl,hB⟩

theorem rWrite_D (A B M:List UInt8) (w:World) (ga:good A=true) (gb:good B=true) (hM:wtT A B=M) :
  Calls Tryz.prog 52 #[.string ⟨A.toArray⟩,.string ⟨B.toArray⟩] w fun e w'=>e=.returned (.string ⟨M.toArray⟩)∧Below w.heap.size w w':=by
 subst hM
 unfold wtT
 cases hf:fitB A B
 ·exact rWrite_no ⟨A.toArray⟩ ⟨B.toArray⟩ w hf
 ·exact rWrite_loop ⟨A.toArray⟩ ⟨B.toArray⟩ w ga gb hf

end Go.Proofs.YtciffggmobblpaaGreatDoor.Tn
namespace Go.Proofs.YtciffggmobblpaaGreatDoor.Tn
open Go.RowKit

set_option maxHeartbeats 400000 in
theorem rHas_off (c s:ByteArray) (w:World) (hc:c.size≤maxLen) (_hs:s.size≤maxLen) (h:c.size=0∨c.size≠s.size) :
    Calls Tryz.prog 81 #[.string c,.string s] w fun e w'=>e=.returned (.bool false)∧∃ n,w'=w.drewN n:=by
  unfold maxLen at _hs hc
  by_cases h0:c.size=0
  · have hz:c=⟨#[]⟩:=by
      obtain ⟨⟨l⟩⟩:=c
      have:l=[]:=List.eq_nil_of_length_eq_zero (by simpa [ByteArray.size] using h0)
      subst this;rfl
    subst hz
    clear h h0
    go_enter Tryz.func81,Tryz.ntmps81
    go_wp2
    go_ret
    exact ⟨rfl,0,rfl⟩
  · have b0:c.toList.isEmpty=false:=by
      rw [ByteArray.toList_eq]
      obtain ⟨⟨l⟩⟩:=c
      cases l with
      | nil=>exact absurd rfl h0
      | cons x l=>rfl
    have b1:((c.size:Int) != (s.size:Int))=true:=by simp;omega
    clear h h0
    go_enter Tryz.func81,Tryz.ntmps81
    go_wp2
    go_ret
    exact ⟨rfl,0,rfl⟩

theorem okH_str (c s:ByteArray) (k:Nat) (hk:k < c.size) (hks:k < s.size) (p1 p2 p3 p4:Bool) (n1:((s[k].toNat:Int) != 48)=p1) (n2:((s[k].toNat:Int) != 49)=p2) (n3:((c[k].toNat:Int) != 120)=p3) (n4:((c[k].toNat:Int) != (s[k].toNat:Int))=p4) :
    okH c.data.toList s.data.toList k=!((p1&&p2) || (p3&&p4)):=
  okH_eq c.data.toList s k (by simpa using hk) hks p1 p2 p3 p4 n1 n2 n3 n4

theorem drewN2 (w:World) (a b:Nat):∃ n,(w.drewN a).drewN b=w.drewN n:=⟨a+b,by simp [World.drewN,Nat.add_assoc]⟩

set_option maxHeartbeats 2000000 in
theorem rHas_loop (c s:ByteArray) (w:World) (hc:c.size≤256) (h0:1≤c.size) (hsz:s.size=c.size) :
    Calls Tryz.prog 81 #[.string c,.string s] w fun e w'=>e=.returned (.bool (allTo (okH c.data.toList s.data.toList) c.data.toList.length))∧∃ n,w'=w.drewN n:=by
  have HS:Hid (s.size=c.size):=hsz
  have HL:Hid (c.data.toList.length=c.size):=by simp [Hid]
  have b0:c.toList.isEmpty=false:=by
    rw [ByteArray.toList_eq]
    obtain ⟨⟨l⟩⟩:=c
    cases l with
    | nil=>simp [ByteArray.size] at h0
    | cons x l=>rfl
  have b1:((c.size:Int) != (s.size:Int))=false:=by simp [hsz]
  clear hsz
  go_enter Tryz.func81,Tryz.ntmps81
  go_wp2
  clear b0 b1
  go_loopw [5] (fun i wr=>∃ k:Nat,k≤c.size∧i=.int .i64 k∧Hid (∀ j,j < k→okH c.data.toList s.data.toList j=true)∧∃ n,wr=w.drewN n) (fun i _=>c.size - (intOf i).toNat)
  case atStart=>exact ⟨0,Nat.zero_le _,rfl,fun j h=>by omega,0,rfl⟩
  case round=>
    obtain ⟨k,hk,rfl,hok,nd,rfl⟩:=hrel
    by_cases hlt:k < c.size
    · have hks:k < s.size:=by rw [HS.out];exact hlt
      have i0:(0:Int)≤(k:Int):=by omega
      have i1:(k:Int) < (s.size:Int):=by omega
      have i2:(k:Int) < (c.size:Int):=by omega
      obtain ⟨p1,n1⟩:∃ p,((s[k].toNat:Int) != 48)=p:=⟨_,rfl⟩
      obtain ⟨p2,n2⟩:∃ p,((s[k].toNat:Int) != 49)=p:=⟨_,rfl⟩
      obtain ⟨p3,n3⟩:∃ p,((c[k].toNat:Int) != 120)=p:=⟨_,rfl⟩
      obtain ⟨p4,n4⟩:∃ p,((c[k].toNat:Int) != (s[k].toNat:Int))=p:=⟨_,rfl⟩
      have hH:Hid (okH c.data.toList s.data.toList k=!((p1&&p2) || (p3&&p4))):=okH_str c s k hlt hks p1 p2 p3 p4 n1 n2 n3 n4
      have hlt':Hid (k < c.data.toList.length):=by unfold Hid;rw [HL.out];exact hlt
      by_cases hp:(p1&&p2)=true
      · obtain ⟨rfl,rfl⟩:p1=true∧p2=true:=by simpa using hp
        clear hp
        have hF:Hid (okH c.data.toList s.data.toList k=false):=hH.out
        go_wp2
        go_ret
        exact ⟨by rw [allTo_false k hlt'.out hF.out];rfl,_,rfl⟩
      · have hp':(p1&&p2)=false:=by simpa using hp
        clear hp
        cases p1 <;> cases p2 <;> cases p3 <;> cases p4
        all_goals first | (exact absurd hp' (by decide)) | skip
        all_goals
          clear hp'
          go_wp2
          go_quiet (fail)
          go_wp2
          first
            | (have hF : okH c.data.toList s.data.toList k = false := hH.out
               have hF2 := allTo_false k hlt'.out hF
               go_ret
               refine ⟨?_, drewN2 _ _ _⟩
               rw [hF2]
               rfl)
            | (have hF : okH c.data.toList s.data.toList k = true := hH.out
               have hF2 := ok_succ hok.out hF
               go_roundw
               case rel => exact ⟨k + 1, by omega, by go_num, hF2, _, rfl⟩
               case measure => simp [intOf]; omega)
    · have hA:Hid (allTo (okH c.data.toList s.data.toList) c.data.toList.length=true):=(allTo_iff _ _).2 (fun j hj=>hok.out j (by rw [HL.out] at hj;omega))
      clear hok
      go_wp2
      go_ret
      exact ⟨by rw [hA.out];rfl,_,rfl⟩

theorem rHas_any (c s:ByteArray) (w:World) (hc:c.size≤256) (hs:s.size≤maxLen) :
    Calls Tryz.prog 81 #[.string c,.string s] w fun e w'=>e=.returned (.bool (hasB c.data.toList s.data.toList))∧∃ n,w'=w.drewN n:=by
  have hl1:c.data.toList.length=c.size:=by simp
  have hl2:s.data.toList.length=s.size:=by simp
  unfold hasB
  by_cases h:c.size=0∨c.size≠s.size
  · have e:(!c.data.toList.isEmpty&&(c.data.toList.length==s.data.toList.length))=false:=by
      rcases h with h | h
      · have:c.data.toList=[]:=List.eq_nil_of_length_eq_zero (by omega)
        rw [this];rfl
      · have:(c.data.toList.length==s.data.toList.length)=false:=by rw [hl1,hl2];simpa using h
        rw [this];simp
    rw [e]
    exact rHas_off c s w (by unfold maxLen;omega) hs h
  · have e:(!c.data.toList.isEmpty&&(c.data.toList.length==s.data.toList.length))=true:=by
      have h1:(c.data.toList.length==s.data.toList.length)=true:=by rw [hl1,hl2];simp;omega
      have h2:c.data.toList.isEmpty=false:=by
        cases hh:c.data.toList with
        | nil=>rw [hh] at hl1;simp at hl1;omega
        | cons x l=>rfl
      rw [h1,h2];rfl
    rw [e,Bool.true_and]
    exact rHas_loop c s w hc (by omega) (by omega)

end Go.Proofs.YtciffggmobblpaaGreatDoor.Tn

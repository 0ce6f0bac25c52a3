import Derived.Test.YtbplhianpelmfaaGreatDoorXBF
import Derived.Test.YtbplhianpelmfaaGreatDoorXBG
import Derived.Test.YtbplhianpelmfaaGreatDoorXBI
namespace Go.Proofs.YtbplhianpelmfaaGreatDoor.Nt
open Go.RowKit Go.Shelf
theorem num_any (R:Int) (w:World):Calls Tryz.prog 9 #[.int .i64 R] w fun e w'=>e=.returned (.int .i64 R)∧w'=w:=by
 go_enter Tryz.func9,Tryz.ntmps9
 go_wp2_with fail
 go_ret
 exact ⟨rfl,rfl⟩
def nnT:NN:=⟨1,[⟨[82,46,97],0,true,-1⟩,⟨[82,46,98],0,false,0⟩],[[⟨[101],[0],[[120]],[48],[1]⟩]],[[],[]]⟩
theorem full_ra:fullN [82,46,97]=true:=by decide +kernel
theorem full_rb:fullN [82,46,98]=true:=by decide +kernel
theorem netP_T:NetP nnT:=by
 refine ⟨⟨by decide,by decide,by decide,by decide,rfl⟩,by decide,by decide,⟨fun p hp=>?_,by decide⟩,fun g hg=>?_,fun k t ht=>?_⟩
 ·have hp:p=⟨[82,46,97],0,true,-1⟩∨p=⟨[82,46,98],0,false,0⟩:=by simpa [nnT] using hp
  rcases hp with rfl | rfl
  ·exact ⟨full_ra,by decide,by decide,.inl rfl⟩
  ·exact ⟨full_rb,by decide,by decide,.inr ⟨rfl,by decide,by decide,rfl⟩⟩
 ·have hg:g=[]:=by simpa [nnT] using hg
  subst hg
  exact ⟨fun l hl=>by simp at hl,by decide⟩
 ·have hk:k < 1:=(List.getElem?_eq_some_iff.1 ht).1
  obtain rfl:k=0:=by omega
  have ht:t=[⟨[101],[0],[[120]],[48],[1]⟩]:=(Option.some.inj ht).symm
  subst ht
  refine ⟨fun e he=>?_,by decide⟩
  have he:e=⟨[101],[0],[[120]],[48],[1]⟩:=by simpa using he
  subst he
  refine ⟨by decide,⟨fun q hq=>?_,by decide⟩,⟨by decide,fun c hc=>?_⟩,⟨rfl,rfl⟩,⟨by decide,fun q hq=>?_,by decide⟩⟩
  ·have hq:q=0:=by simpa using hq
   subst hq
   exact ⟨by decide,by decide,rfl,rfl⟩
  ·have hc:c=[120]:=by simpa using hc
   subst hc
   exact ⟨rfl,rfl⟩
  ·have hq:q=1:=by simpa using hq
   subst hq
   exact ⟨by decide,by decide,rfl,rfl⟩
theorem okT:okN nnT:=by
 refine ⟨by decide,fun p hp=>?_,by decide,fun t ht=>?_,by decide,fun t ht=>?_⟩
 ·have hp:p=⟨[82,46,97],0,true,-1⟩∨p=⟨[82,46,98],0,false,0⟩:=by simpa [nnT] using hp
  rcases hp with rfl | rfl
  ·exact (by decide:(3:Nat)≤140737488351232)
  ·exact (by decide:(3:Nat)≤140737488351232)
 ·have ht:t=[⟨[101],[0],[[120]],[48],[1]⟩]:=by simpa [nnT] using ht
  subst ht
  refine ⟨by decide,fun e he=>?_⟩
  have he:e=⟨[101],[0],[[120]],[48],[1]⟩:=by simpa using he
  subst he
  refine ⟨(by decide:(1:Nat)≤140737488351232),(by decide:(8:Nat)≤140737488351232),⟨by decide,fun x hx=>?_⟩,(by decide:(1:Nat)≤140737488351232),(by decide:(8:Nat)≤140737488351232)⟩
  have hx:x=[120]:=by simpa using hx
  subst hx
  exact (by decide:(1:Nat)≤140737488351232)
 ·have ht:t=[]:=by simpa [nnT] using ht
  subst ht
  exact ⟨by decide,fun l hl=>by simp at hl⟩
theorem stT:StP nnT (0,[49]):=⟨by decide,by decide,rfl,rfl⟩
theorem nxT:nxtM nnT (0,[49])=(0,[(1,[48]),(0,[48])]):=by decide +kernel
theorem chkT:chkM nnT (0,[49])=0:=chk_yes netP_T stT
theorem lnT {w:World} {a1 a2 a3 a4 a5 a6 a7:Nat} (h1:w.heap[a1]?=some (.cells #[.string ⟨#[82,46,97]⟩,.int .i64 0,.bool true,.int .i64 (-1),.string ⟨#[82,46,98]⟩,.int .i64 0,.bool false,.int .i64 0] 36 (0,0))) (h2:w.heap[a2]?=some (.cells #[.int .i64 0] 3 (0,0))) (h3:w.heap[a3]?=some (.cells #[.string ⟨#[120]⟩] 9 (0,0))) (h4:w.heap[a4]?=some (.cells #[.int .i64 1] 3 (0,0))) (h5:w.heap[a5]?=some (.cells #[.string ⟨#[101]⟩,.slice (some ⟨a2,0,none⟩) 1 1,.slice (some ⟨a3,0,none⟩) 1 1,.string ⟨#[48]⟩,.slice (some ⟨a4,0,none⟩) 1 1] 41 (0,0))) (h6:w.heap[a6]?=some (.cells #[.slice (some ⟨a5,0,none⟩) 1 1] 37 (0,0))) (h7:w.heap[a7]?=some (.cells #[.slice none 0 0,.slice none 0 0] 43 (0,0))) :
  LN w nnT ⟨some ⟨a1,0,none⟩,2,some ⟨a6,0,none⟩,1,some ⟨a7,0,none⟩,2⟩:=by
 have c1:=(cellsZ h1).1
 have c2:=(cellsZ h2).1
 have c3:=(cellsZ h3).1
 have c4:=(cellsZ h4).1
 have c5:=(cellsZ h5).1
 have c6:=(cellsZ h6).1
 have c7:=(cellsZ h7).1
 have li:∀ (a:Nat) (x:Int),(∀ j,w.cell? ⟨a,j,none⟩=(#[Value.int .i64 x])[j]?)→LI w (some ⟨a,0,none⟩) [x]:=fun a x hc k y hy=>by
  have hk:k < 1:=(List.getElem?_eq_some_iff.1 hy).1
  obtain rfl:k=0:=by omega
  obtain rfl:x=y:=Option.some.inj hy
  exact ⟨a,0,rfl,by rw [hc];rfl⟩
 refine ⟨fun k x hx=>?_,Nat.le_refl 2,fun k x hx=>?_,Nat.le_refl 1,fun k x hx=>?_,Nat.le_refl 2⟩
 ·have hk:k < 2:=(List.getElem?_eq_some_iff.1 hx).1
  rcases (show k=0∨k=1 by omega) with rfl | rfl
  ·have hx:x=⟨[82,46,97],0,true,-1⟩:=(Option.some.inj hx).symm
   subst hx
   exact ⟨a1,0,rfl,by rw [c1];rfl,by rw [c1];rfl,by rw [c1];rfl,by rw [c1];rfl⟩
  ·have hx:x=⟨[82,46,98],0,false,0⟩:=(Option.some.inj hx).symm
   subst hx
   exact ⟨a1,0,rfl,by rw [c1];rfl,by rw [c1];rfl,by rw [c1];rfl,by rw [c1];rfl⟩
 ·have hk:k < 1:=(List.getElem?_eq_some_iff.1 hx).1
  obtain rfl:k=0:=by omega
  have hx:x=[⟨[101],[0],[[120]],[48],[1]⟩]:=(Option.some.inj hx).symm
  subst hx
  refine ⟨a6,0,some ⟨a5,0,none⟩,1,rfl,by rw [c6];rfl,fun k x hx=>?_,Nat.le_refl 1⟩
  have hk:k < 1:=(List.getElem?_eq_some_iff.1 hx).1
  obtain rfl:k=0:=by omega
  have hx:x=⟨[101],[0],[[120]],[48],[1]⟩:=(Option.some.inj hx).symm
  subst hx
  refine ⟨a5,0,some ⟨a2,0,none⟩,1,some ⟨a3,0,none⟩,1,some ⟨a4,0,none⟩,1,rfl,by rw [c5];rfl,by rw [c5];rfl,by rw [c5];rfl,by rw [c5];rfl,by rw [c5];rfl,li a2 0 c2,Nat.le_refl 1,fun k y hy=>?_,Nat.le_refl 1,li a4 1 c4,Nat.le_refl 1⟩
  have hk:k < 1:=(List.getElem?_eq_some_iff.1 hy).1
  obtain rfl:k=0:=by omega
  obtain rfl:[120]=y:=Option.some.inj hy
  exact ⟨a3,0,rfl,by rw [c3];rfl⟩
 ·have hk:k < 2:=(List.getElem?_eq_some_iff.1 hx).1
  rcases (show k=0∨k=1 by omega) with rfl | rfl
  ·have hx:x=[]:=(Option.some.inj hx).symm
   subst hx
   exact ⟨a7,0,none,0,rfl,by rw [c7];rfl,fun k x hx=>by simp at hx,by decide⟩
  ·have hx:x=[]:=(Option.some.inj hx).symm
   subst hx
   exact ⟨a7,0,none,0,rfl,by rw [c7];rfl,fun k x hx=>by simp at hx,by decide⟩
theorem res_netT (fn:Func) (tmps:Array Value) (W:World) (b:Nat) (v0 v1 v2 v3:Value) (hfn:fn.results=#[.cell 0 26]) (h:tmps[0]?.getD undef=.pointer (some ⟨b,0,none⟩)) (hb:W.heap[b]?=some (.cells #[v0,v1,v2,v3] 26 (0,0))) :
  (results fn tmps).run Tryz.prog W=.ok (.agg #[v0,v1,v2,v3]) W:=by
 have h1:=(cellsZ hb).1
 have c0:=h1 0
 have c1:=h1 1
 have c2:=h1 2
 have c3:=h1 3
 simp at c0 c1 c2 c3
 simp [results,hfn,h,c0,c1,c2,c3,go_sem]
set_option maxRecDepth 100000 in
set_option maxHeartbeats 16000000 in
theorem tiny_any (w:World):Calls Tryz.prog 30 #[] w fun e w'=>∃ a1 a2 a3,e=.returned (.agg #[.int .i64 1,.slice (some a1) 2 2,.slice (some a2) 1 1,.slice (some a3) 2 2])∧LN w' nnT ⟨some a1,2,some a2,1,some a3,2⟩∧Below w.heap.size w w':=by
 obtain ⟨B,hB⟩:∃ B,w.heap.size=B:=⟨_,rfl⟩
 obtain ⟨W0,hW0⟩:∃ W0,w.alloc (.cells #[.int .i64 0,.slice none 0 0,.slice none 0 0,.slice none 0 0] 26)=W0:=⟨_,rfl⟩
 have b0:Below w.heap.size w W0:=by rw [←hW0];exact belAZ (Below.refl _ _) _
 have k0:W0.heap[B]?=some (.cells #[.int .i64 0,.slice none 0 0,.slice none 0 0,.slice none 0 0] 26 (0,0)):=by rw [←hW0,←hB];exact alloc_getZ _ _
 obtain ⟨y1,hy1⟩:∃ y,W0.heap.size=y:=⟨_,rfl⟩
 obtain ⟨y2,hy2⟩:∃ y,W0.heap.size+1=y:=⟨_,rfl⟩
 obtain ⟨y3,hy3⟩:∃ y,W0.heap.size+1+1=y:=⟨_,rfl⟩
 obtain ⟨y4,hy4⟩:∃ y,W0.heap.size+1+1+1=y:=⟨_,rfl⟩
 obtain ⟨y5,hy5⟩:∃ y,W0.heap.size+1+1+1+1=y:=⟨_,rfl⟩
 obtain ⟨y6,hy6⟩:∃ y,W0.heap.size+1+1+1+1+1=y:=⟨_,rfl⟩
 obtain ⟨y7,hy7⟩:∃ y,W0.heap.size+1+1+1+1+1+1=y:=⟨_,rfl⟩
 obtain ⟨X1,hX1⟩:∃ X,W0.alloc (.cells #[.string ⟨#[82,46,97]⟩,.int .i64 0,.bool true,.int .i64 (-1),.string ⟨#[82,46,98]⟩,.int .i64 0,.bool false,.int .i64 0] 36)=X:=⟨_,rfl⟩
 have c1:Below W0.heap.size W0 X1:=by rw [←hX1];exact belAZ (Below.refl _ _) _
 have s1:W0.heap.size=y1:=by exact hy1
 have s12:W0.heap.size=W0.heap.size:=by rw [s1,←hy1]
 have g1:X1.heap[y1]?=some (.cells #[.string ⟨#[82,46,97]⟩,.int .i64 0,.bool true,.int .i64 (-1),.string ⟨#[82,46,98]⟩,.int .i64 0,.bool false,.int .i64 0] 36 (0,0)):=by rw [←hX1,←s1];exact alloc_getZ _ _
 obtain ⟨X2,hX2⟩:∃ X,X1.alloc (.cells #[.int .i64 0] 3)=X:=⟨_,rfl⟩
 have c2:Below X1.heap.size X1 X2:=by rw [←hX2];exact belAZ (Below.refl _ _) _
 have s2:X1.heap.size=y2:=by rw [←hX1,←hy2,←s12];exact Array.size_push _
 have s22:X1.heap.size=W0.heap.size+1:=by rw [s2,←hy2]
 have g2:X2.heap[y2]?=some (.cells #[.int .i64 0] 3 (0,0)):=by rw [←hX2,←s2];exact alloc_getZ _ _
 obtain ⟨X3,hX3⟩:∃ X,X2.alloc (.cells #[.string ⟨#[120]⟩] 9)=X:=⟨_,rfl⟩
 have c3:Below X2.heap.size X2 X3:=by rw [←hX3];exact belAZ (Below.refl _ _) _
 have s3:X2.heap.size=y3:=by rw [←hX2,←hy3,←s22];exact Array.size_push _
 have s32:X2.heap.size=W0.heap.size+1+1:=by rw [s3,←hy3]
 have g3:X3.heap[y3]?=some (.cells #[.string ⟨#[120]⟩] 9 (0,0)):=by rw [←hX3,←s3];exact alloc_getZ _ _
 obtain ⟨X4,hX4⟩:∃ X,X3.alloc (.cells #[.int .i64 1] 3)=X:=⟨_,rfl⟩
 have c4:Below X3.heap.size X3 X4:=by rw [←hX4];exact belAZ (Below.refl _ _) _
 have s4:X3.heap.size=y4:=by rw [←hX3,←hy4,←s32];exact Array.size_push _
 have s42:X3.heap.size=W0.heap.size+1+1+1:=by rw [s4,←hy4]
 have g4:X4.heap[y4]?=some (.cells #[.int .i64 1] 3 (0,0)):=by rw [←hX4,←s4];exact alloc_getZ _ _
 obtain ⟨X5,hX5⟩:∃ X,X4.alloc (.cells #[.string ⟨#[101]⟩,.slice (some ⟨y2,0,none⟩) 1 1,.slice (some ⟨y3,0,none⟩) 1 1,.string ⟨#[48]⟩,.slice (some ⟨y4,0,none⟩) 1 1] 41)=X:=⟨_,rfl⟩
 have c5:Below X4.heap.size X4 X5:=by rw [←hX5];exact belAZ (Below.refl _ _) _
 have s5:X4.heap.size=y5:=by rw [←hX4,←hy5,←s42];exact Array.size_push _
 have s52:X4.heap.size=W0.heap.size+1+1+1+1:=by rw [s5,←hy5]
 have g5:X5.heap[y5]?=some (.cells #[.string ⟨#[101]⟩,.slice (some ⟨y2,0,none⟩) 1 1,.slice (some ⟨y3,0,none⟩) 1 1,.string ⟨#[48]⟩,.slice (some ⟨y4,0,none⟩) 1 1] 41 (0,0)):=by rw [←hX5,←s5];exact alloc_getZ _ _
 obtain ⟨X6,hX6⟩:∃ X,X5.alloc (.cells #[.slice (some ⟨y5,0,none⟩) 1 1] 37)=X:=⟨_,rfl⟩
 have c6:Below X5.heap.size X5 X6:=by rw [←hX6];exact belAZ (Below.refl _ _) _
 have s6:X5.heap.size=y6:=by rw [←hX5,←hy6,←s52];exact Array.size_push _
 have s62:X5.heap.size=W0.heap.size+1+1+1+1+1:=by rw [s6,←hy6]
 have g6:X6.heap[y6]?=some (.cells #[.slice (some ⟨y5,0,none⟩) 1 1] 37 (0,0)):=by rw [←hX6,←s6];exact alloc_getZ _ _
 obtain ⟨X7,hX7⟩:∃ X,X6.alloc (.cells #[.slice none 0 0,.slice none 0 0] 43)=X:=⟨_,rfl⟩
 have c7:Below X6.heap.size X6 X7:=by rw [←hX7];exact belAZ (Below.refl _ _) _
 have s7:X6.heap.size=y7:=by rw [←hX6,←hy7,←s62];exact Array.size_push _
 have s72:X6.heap.size=W0.heap.size+1+1+1+1+1+1:=by rw [s7,←hy7]
 have g7:X7.heap[y7]?=some (.cells #[.slice none 0 0,.slice none 0 0] 43 (0,0)):=by rw [←hX7,←s7];exact alloc_getZ _ _
 have bb:Below w.heap.size w X7:=bel0Z (bel0Z (bel0Z (bel0Z (bel0Z (bel0Z (bel0Z b0 c1) c2) c3) c4) c5) c6) c7
 have hle:w.heap.size≤B:=by omega
 have kB:X7.heap[B]?=some (.cells #[.int .i64 0,.slice none 0 0,.slice none 0 0,.slice none 0 0] 26 (0,0)):=keepZ c7 (keepZ c6 (keepZ c5 (keepZ c4 (keepZ c3 (keepZ c2 (keepZ c1 k0))))))
 have hyb:∀ y,y∈[y1,y2,y3,y4,y5,y6,y7]→B < y:=fun y hy=>by
  have h9:W0.heap.size=B+1:=by rw [←hW0,←hB];exact Array.size_push _
  simp only [List.mem_cons,List.not_mem_nil,or_false] at hy
  omega
 obtain ⟨X9,hX9⟩:∃ X9,((((X7.setCell ⟨B,0,none⟩ (.int .i64 1)).setCell ⟨B,1,none⟩ (.slice (some ⟨y1,0,none⟩) 2 2)).setCell ⟨B,2,none⟩ (.slice (some ⟨y6,0,none⟩) 1 1)).setCell ⟨B,3,none⟩ (.slice (some ⟨y7,0,none⟩) 2 2))=X9:=⟨_,rfl⟩
 have hRES:X9.heap[B]?=some (.cells #[.int .i64 1,.slice (some ⟨y1,0,none⟩) 2 2,.slice (some ⟨y6,0,none⟩) 1 1,.slice (some ⟨y7,0,none⟩) 2 2] 26 (0,0)):=by
  rw [←hX9]
  exact ((set_getZ _ (set_getZ _ (set_getZ _ (set_getZ _ kB))))).trans (by simp)
 have hbw:Below w.heap.size w X9:=by
  rw [←hX9]
  exact ((((bb.setCell hle _).setCell hle _).setCell hle _).setCell hle _)
 have hoth:∀ b,b≠B→X9.heap[b]?=X7.heap[b]?:=fun b hb=>by rw [←hX9,far1 _ _ _ _ _ hb,far1 _ _ _ _ _ hb,far1 _ _ _ _ _ hb,far1 _ _ _ _ _ hb]
 have hln:LN X9 nnT ⟨some ⟨y1,0,none⟩,2,some ⟨y6,0,none⟩,1,some ⟨y7,0,none⟩,2⟩:=by
  have hq:∀ y,y∈[y1,y2,y3,y4,y5,y6,y7]→X9.heap[y]?=X7.heap[y]?:=fun y hy=>hoth y (by have:=hyb y hy;omega)
  exact lnT ((hq y1 (by simp)).trans (keepZ c7 (keepZ c6 (keepZ c5 (keepZ c4 (keepZ c3 (keepZ c2 g1))))))) ((hq y2 (by simp)).trans (keepZ c7 (keepZ c6 (keepZ c5 (keepZ c4 (keepZ c3 g2)))))) ((hq y3 (by simp)).trans (keepZ c7 (keepZ c6 (keepZ c5 (keepZ c4 g3))))) ((hq y4 (by simp)).trans (keepZ c7 (keepZ c6 (keepZ c5 g4)))) ((hq y5 (by simp)).trans (keepZ c7 (keepZ c6 g5))) ((hq y6 (by simp)).trans (keepZ c7 g6)) ((hq y7 (by simp)).trans g7)
 have hn:(((((((W0.alloc (.cells #[.string ⟨#[82,46,97]⟩,.int .i64 0,.bool true,.int .i64 (-1),.string ⟨#[82,46,98]⟩,.int .i64 0,.bool false,.int .i64 0] 36)).alloc (.cells #[.int .i64 0] 3)).alloc (.cells #[.string ⟨#[120]⟩] 9)).alloc (.cells #[.int .i64 1] 3)).alloc (.cells #[.string ⟨#[101]⟩,.slice (some ⟨W0.heap.size+1,0,none⟩) 1 1,.slice (some ⟨W0.heap.size+1+1,0,none⟩) 1 1,.string ⟨#[48]⟩,.slice (some ⟨W0.heap.size+1+1+1,0,none⟩) 1 1] 41)).alloc (.cells #[.slice (some ⟨W0.heap.size+1+1+1+1,0,none⟩) 1 1] 37)).alloc (.cells #[.slice none 0 0,.slice none 0 0] 43))=X7:=by rw [hX1,hX2,hX3,hX4,hy5,hy4,hy3,hy2,hX5,hX6,hX7]
 have hzz:=cellsZ kB
 have z0:(((((((W0.alloc (.cells #[.string ⟨#[82,46,97]⟩,.int .i64 0,.bool true,.int .i64 (-1),.string ⟨#[82,46,98]⟩,.int .i64 0,.bool false,.int .i64 0] 36)).alloc (.cells #[.int .i64 0] 3)).alloc (.cells #[.string ⟨#[120]⟩] 9)).alloc (.cells #[.int .i64 1] 3)).alloc (.cells #[.string ⟨#[101]⟩,.slice (some ⟨W0.heap.size+1,0,none⟩) 1 1,.slice (some ⟨W0.heap.size+1+1,0,none⟩) 1 1,.string ⟨#[48]⟩,.slice (some ⟨W0.heap.size+1+1+1,0,none⟩) 1 1] 41)).alloc (.cells #[.slice (some ⟨W0.heap.size+1+1+1+1,0,none⟩) 1 1] 37)).alloc (.cells #[.slice none 0 0,.slice none 0 0] 43)).cell? ⟨B,0,none⟩=some (.int .i64 0):=by rw [hn,hzz.1];rfl
 have f0:(((((((W0.alloc (.cells #[.string ⟨#[82,46,97]⟩,.int .i64 0,.bool true,.int .i64 (-1),.string ⟨#[82,46,98]⟩,.int .i64 0,.bool false,.int .i64 0] 36)).alloc (.cells #[.int .i64 0] 3)).alloc (.cells #[.string ⟨#[120]⟩] 9)).alloc (.cells #[.int .i64 1] 3)).alloc (.cells #[.string ⟨#[101]⟩,.slice (some ⟨W0.heap.size+1,0,none⟩) 1 1,.slice (some ⟨W0.heap.size+1+1,0,none⟩) 1 1,.string ⟨#[48]⟩,.slice (some ⟨W0.heap.size+1+1+1,0,none⟩) 1 1] 41)).alloc (.cells #[.slice (some ⟨W0.heap.size+1+1+1+1,0,none⟩) 1 1] 37)).alloc (.cells #[.slice none 0 0,.slice none 0 0] 43)).frozen? ⟨B,0,none⟩=false:=by rw [hn];exact hzz.2 0
 have z1:(((((((W0.alloc (.cells #[.string ⟨#[82,46,97]⟩,.int .i64 0,.bool true,.int .i64 (-1),.string ⟨#[82,46,98]⟩,.int .i64 0,.bool false,.int .i64 0] 36)).alloc (.cells #[.int .i64 0] 3)).alloc (.cells #[.string ⟨#[120]⟩] 9)).alloc (.cells #[.int .i64 1] 3)).alloc (.cells #[.string ⟨#[101]⟩,.slice (some ⟨W0.heap.size+1,0,none⟩) 1 1,.slice (some ⟨W0.heap.size+1+1,0,none⟩) 1 1,.string ⟨#[48]⟩,.slice (some ⟨W0.heap.size+1+1+1,0,none⟩) 1 1] 41)).alloc (.cells #[.slice (some ⟨W0.heap.size+1+1+1+1,0,none⟩) 1 1] 37)).alloc (.cells #[.slice none 0 0,.slice none 0 0] 43)).cell? ⟨B,1,none⟩=some (.slice none 0 0):=by rw [hn,hzz.1];rfl
 have f1:(((((((W0.alloc (.cells #[.string ⟨#[82,46,97]⟩,.int .i64 0,.bool true,.int .i64 (-1),.string ⟨#[82,46,98]⟩,.int .i64 0,.bool false,.int .i64 0] 36)).alloc (.cells #[.int .i64 0] 3)).alloc (.cells #[.string ⟨#[120]⟩] 9)).alloc (.cells #[.int .i64 1] 3)).alloc (.cells #[.string ⟨#[101]⟩,.slice (some ⟨W0.heap.size+1,0,none⟩) 1 1,.slice (some ⟨W0.heap.size+1+1,0,none⟩) 1 1,.string ⟨#[48]⟩,.slice (some ⟨W0.heap.size+1+1+1,0,none⟩) 1 1] 41)).alloc (.cells #[.slice (some ⟨W0.heap.size+1+1+1+1,0,none⟩) 1 1] 37)).alloc (.cells #[.slice none 0 0,.slice none 0 0] 43)).frozen? ⟨B,1,none⟩=false:=by rw [hn];exact hzz.2 1
 have z2:(((((((W0.alloc (.cells #[.string ⟨#[82,46,97]⟩,.int .i64 0,.bool true,.int .i64 (-1),.string ⟨#[82,46,98]⟩,.int .i64 0,.bool false,.int .i64 0] 36)).alloc (.cells #[.int .i64 0] 3)).alloc (.cells #[.string ⟨#[120]⟩] 9)).alloc (.cells #[.int .i64 1] 3)).alloc (.cells #[.string ⟨#[101]⟩,.slice (some ⟨W0.heap.size+1,0,none⟩) 1 1,.slice (some ⟨W0.heap.size+1+1,0,none⟩) 1 1,.string ⟨#[48]⟩,.slice (some ⟨W0.heap.size+1+1+1,0,none⟩) 1 1] 41)).alloc (.cells #[.slice (some ⟨W0.heap.size+1+1+1+1,0,none⟩) 1 1] 37)).alloc (.cells #[.slice none 0 0,.slice none 0 0] 43)).cell? ⟨B,2,none⟩=some (.slice none 0 0):=by rw [hn,hzz.1];rfl
 have f2:(((((((W0.alloc (.cells #[.string ⟨#[82,46,97]⟩,.int .i64 0,.bool true,.int .i64 (-1),.string ⟨#[82,46,98]⟩,.int .i64 0,.bool false,.int .i64 0] 36)).alloc (.cells #[.int .i64 0] 3)).alloc (.cells #[.string ⟨#[120]⟩] 9)).alloc (.cells #[.int .i64 1] 3)).alloc (.cells #[.string ⟨#[101]⟩,.slice (some ⟨W0.heap.size+1,0,none⟩) 1 1,.slice (some ⟨W0.heap.size+1+1,0,none⟩) 1 1,.string ⟨#[48]⟩,.slice (some ⟨W0.heap.size+1+1+1,0,none⟩) 1 1] 41)).alloc (.cells #[.slice (some ⟨W0.heap.size+1+1+1+1,0,none⟩) 1 1] 37)).alloc (.cells #[.slice none 0 0,.slice none 0 0] 43)).frozen? ⟨B,2,none⟩=false:=by rw [hn];exact hzz.2 2
 have z3:(((((((W0.alloc (.cells #[.string ⟨#[82,46,97]⟩,.int .i64 0,.bool true,.int .i64 (-1),.string ⟨#[82,46,98]⟩,.int .i64 0,.bool false,.int .i64 0] 36)).alloc (.cells #[.int .i64 0] 3)).alloc (.cells #[.string ⟨#[120]⟩] 9)).alloc (.cells #[.int .i64 1] 3)).alloc (.cells #[.string ⟨#[101]⟩,.slice (some ⟨W0.heap.size+1,0,none⟩) 1 1,.slice (some ⟨W0.heap.size+1+1,0,none⟩) 1 1,.string ⟨#[48]⟩,.slice (some ⟨W0.heap.size+1+1+1,0,none⟩) 1 1] 41)).alloc (.cells #[.slice (some ⟨W0.heap.size+1+1+1+1,0,none⟩) 1 1] 37)).alloc (.cells #[.slice none 0 0,.slice none 0 0] 43)).cell? ⟨B,3,none⟩=some (.slice none 0 0):=by rw [hn,hzz.1];rfl
 have f3:(((((((W0.alloc (.cells #[.string ⟨#[82,46,97]⟩,.int .i64 0,.bool true,.int .i64 (-1),.string ⟨#[82,46,98]⟩,.int .i64 0,.bool false,.int .i64 0] 36)).alloc (.cells #[.int .i64 0] 3)).alloc (.cells #[.string ⟨#[120]⟩] 9)).alloc (.cells #[.int .i64 1] 3)).alloc (.cells #[.string ⟨#[101]⟩,.slice (some ⟨W0.heap.size+1,0,none⟩) 1 1,.slice (some ⟨W0.heap.size+1+1,0,none⟩) 1 1,.string ⟨#[48]⟩,.slice (some ⟨W0.heap.size+1+1+1,0,none⟩) 1 1] 41)).alloc (.cells #[.slice (some ⟨W0.heap.size+1+1+1+1,0,none⟩) 1 1] 37)).alloc (.cells #[.slice none 0 0,.slice none 0 0] 43)).frozen? ⟨B,3,none⟩=false:=by rw [hn];exact hzz.2 3
 have HN9:Hid ((((((((((((W0.alloc (.cells #[.string ⟨#[82,46,97]⟩,.int .i64 0,.bool true,.int .i64 (-1),.string ⟨#[82,46,98]⟩,.int .i64 0,.bool false,.int .i64 0] 36)).alloc (.cells #[.int .i64 0] 3)).alloc (.cells #[.string ⟨#[120]⟩] 9)).alloc (.cells #[.int .i64 1] 3)).alloc (.cells #[.string ⟨#[101]⟩,.slice (some ⟨W0.heap.size+1,0,none⟩) 1 1,.slice (some ⟨W0.heap.size+1+1,0,none⟩) 1 1,.string ⟨#[48]⟩,.slice (some ⟨W0.heap.size+1+1+1,0,none⟩) 1 1] 41)).alloc (.cells #[.slice (some ⟨W0.heap.size+1+1+1+1,0,none⟩) 1 1] 37)).alloc (.cells #[.slice none 0 0,.slice none 0 0] 43)).setCell ⟨B,0,none⟩ (.int .i64 1)).setCell ⟨B,1,none⟩ (.slice (some ⟨W0.heap.size,0,none⟩) 2 2)).setCell ⟨B,2,none⟩ (.slice (some ⟨W0.heap.size+1+1+1+1+1,0,none⟩) 1 1)).setCell ⟨B,3,none⟩ (.slice (some ⟨W0.heap.size+1+1+1+1+1+1,0,none⟩) 2 2))=X9):=by
  show _=_
  rw [hn,hy7,hy6,hy1]
  exact hX9
 have HRES:=hideL hRES
 have HFIN:Hid (LN X9 nnT ⟨some ⟨y1,0,none⟩,2,some ⟨y6,0,none⟩,1,some ⟨y7,0,none⟩,2⟩∧Below w.heap.size w X9):=⟨hln,hbw⟩
 have HB:=hideL hB
 have HW0:=hideL hW0
 clear hB hW0 b0 k0 hy1 hy2 hy3 hy4 hy5 hy6 hy7 hX1 hX2 hX3 hX4 hX5 hX6 hX7 c1 c2 c3 c4 c5 c6 c7 s1 s2 s3 s4 s5 s6 s7 s12 s22 s32 s42 s52 s62 s72 g1 g2 g3 g4 g5 g6 g7 bb hle kB hyb hX9 hRES hbw hoth hln hn hzz
 go_enter Tryz.func30,Tryz.ntmps30
 go_upto_region 1 with fail
 rw [HW0.out,HB.out]
 go_wp2_with fail
 rw [HN9.out]
 refine bodyPost_ret (res_netT _ _ _ B _ _ _ _ rfl rfl HRES.out) rfl ?_
 exact ⟨_,_,_,rfl,HFIN.out.1,HFIN.out.2⟩
set_option maxRecDepth 100000 in
set_option maxHeartbeats 16000000 in
theorem known_any (w:World) (hT:TAB w):Calls Tryz.prog 10 #[] w fun e w'=>e=.returned (.bool true)∧Below w.heap.size w w':=by
 have HT:Hid (Calls Tryz.prog 30 #[] w fun e w'=>∃ a1 a2 a3,e=.returned (.agg #[.int .i64 1,.slice (some a1) 2 2,.slice (some a2) 1 1,.slice (some a3) 2 2])∧LN w' nnT ⟨some a1,2,some a2,1,some a3,2⟩∧Below w.heap.size w w'):=tiny_any w
 have HN:Hid (∀ (a1 a2 a3:Addr) (U:World),Below w.heap.size w U→LN U nnT ⟨some a1,2,some a2,1,some a3,2⟩→Calls Tryz.prog 8 #[.agg #[.int .i64 1,.slice (some a1) 2 2,.slice (some a2) 1 1,.slice (some a3) 2 2],.agg #[.int .i64 0,.string ⟨#[49]⟩]] U fun e w'=>∃ q c,e=.returned (.tuple #[.int .i64 0,.slice q 2 c,.int .i64 0])∧RowL 2 asC w' q [((1:Int),([48]:List UInt8)),(0,[48])]∧Below U.heap.size U w'):=fun a1 a2 a3 U hU hl=>by
  have h9:=snext_any nnT ⟨some a1,2,some a2,1,some a3,2⟩ 0 [49] U hl okT (hT.at hU) (by unfold okS;decide)
  refine Calls.mono h9 ?_
  rintro e w' ⟨q,c,he,ho,hb⟩
  have e1:nxE nnT (0,[49])=0:=by unfold nxE;rw [if_pos chkT,nxT]
  have e2:nxL nnT (0,[49])=[((1:Int),([48]:List UInt8)),(0,[48])]:=by unfold nxL;rw [if_pos chkT,nxT]
  rw [e1,e2,chkT] at he
  rw [e2] at ho
  exact ⟨q,c,he,own_rowL asC_len ho rfl,hb⟩
 clear hT
 go_enter Tryz.func10,Tryz.ntmps10
 go_wp2_with fail
 refine (HT.out).mono ?_
 rintro e W2 ⟨a1,a2,a3,rfl,hl,b2⟩
 have HL:=hideL hl
 have HB:=hideL b2
 clear hl b2
 go_wp2_with fail
 refine (HN.out a1 a2 a3 W2 HB.out HL.out).mono ?_
 rintro e W3 ⟨q,c,rfl,hr,b3⟩
 obtain ⟨g,o,e9,hcx⟩:=hr 0 _ rfl
 subst e9
 have x0:=hcx 0 _ rfl
 have x1:=hcx 1 _ rfl
 obtain ⟨g9,o9,e9,hcy⟩:=hr 1 _ rfl
 simp only [Option.some.injEq,Addr.mk.injEq] at e9
 obtain ⟨rfl,rfl,-⟩:=e9
 have y0:=hcy 0 _ rfl
 have y1:=hcy 1 _ rfl
 simp only [Nat.zero_mul,Nat.one_mul,Nat.add_zero] at x0 x1 y0 y1
 have y2:W3.cell? ⟨g,o+3,none⟩=some (.string ⟨#[48]⟩):=y1
 have HFF:=hideL (bel0Z HB.out b3)
 clear hr hcx hcy b3
 go_wp2_with fail
 refine (num_any 0 W3).mono ?_
 rintro e W4 ⟨rfl,hw⟩
 obtain rfl:W3=W4:=hw.symm
 clear hw
 go_wp2_with fail
 go_ret
 exact ⟨rfl,HFF.out⟩
end Go.Proofs.YtbplhianpelmfaaGreatDoor.Nt
namespace Go.Proofs.YtbplhianpelmfaaGreatDoor.Nt
open Go.RowKit Go.Shelf
theorem flw_fol {n:NN} {s:Int×List UInt8} {hops:Int} {x:WY} (hx:x∈pthM n s hops) {Q:List Int} (hQ:Q.length≤130):flwM n s Q=folM n s Q:=by
 obtain ⟨hV,hS,-⟩:=pth_mem hx
 unfold flwM
 rw [if_neg (by omega),if_pos (chk_yes hV hS)]
theorem off_pure {n:NN} {s:Int×List UInt8} {hops:Int} {x:WY} (hx:x∈pthM n s hops) {k:Nat} (hk:k < x.ps.length) (p:Int) :
  ((flwM n s ((x.ps.set k p).take (k+1))).2.2=0∧((flwM n s (x.ps.set k p)).2.2=0∨((flwM n s (x.ps.set k p)).2.2=101∧(k:Int) < (flwM n s (x.ps.set k p)).2.1)))∨((flwM n s ((x.ps.set k p).take (k+1))).2.2=101∧(flwM n s (x.ps.set k p)).2.2=101∧(flwM n s (x.ps.set k p)).2.1=(k:Int)∧(flwM n s (x.ps.set k p)).1=[]):=by
 obtain ⟨h1,h2,-⟩:=pth_len hx
 have hf:FLD n s x:=(pth_mem hx).2.2.2.2.2.2.1
 rw [flw_fol hx (by rw [List.length_take,List.length_set];omega),flw_fol hx (by rw [List.length_set];omega)]
 have e1:x.ps.set k p=x.ps.take k++(p :: x.ps.drop (k+1)):=by rw [List.set_eq_take_append_cons_drop,if_pos hk]
 have e2:(x.ps.set k p).take (k+1)=x.ps.take k++[p]:=by
  rw [e1,List.take_append,List.length_take,Nat.min_eq_left (by omega),List.take_of_length_le (by rw [List.length_take];omega),show k+1 - k=1 by omega]
  rfl
 rw [e2,e1]
 unfold FLD at hf
 by_cases hk0:k=0
 ·subst hk0
  simp only [List.take_zero,List.nil_append]
  unfold folM
  simp only
  by_cases hp:p=s.1
  ·rw [if_pos hp,if_pos hp]
   left
   refine ⟨rfl,?_⟩
   rcases folR_ok (n:=n) (x.ps.drop (0+1)) 1 s 0 with ⟨h,c,e,-⟩ | ⟨c,hc,e⟩
   ·rw [e];exact .inl rfl
   ·rw [e];exact .inr ⟨rfl,by simp only;omega⟩
  ·rw [if_neg hp,if_neg hp]
   right
   exact ⟨rfl,rfl,rfl,rfl⟩
 ·have hA:x.ps.take k≠[]:=by
   intro e
   have:=congrArg List.length e
   rw [List.length_take,List.length_nil] at this
   omega
  have hlA:(x.ps.take k).length=k:=by rw [List.length_take];omega
  obtain ⟨h9,k9,e9,-⟩:=folM_pre (n:=n) (s:=s) (A:=x.ps.take k) (B:=x.ps.drop k) (h:=x.hd) (k:=x.es.length) hA (by rw [List.take_append_drop];exact hf)
  rw [folM_app e9,folM_app e9,hlA,folR_cons,folR_cons]
  cases hq:(stpS n ((x.ps.take k).getLastD 0,h9)).find? (fun o=>o.1==p) with
  | none=>exact .inr ⟨rfl,rfl,rfl,rfl⟩
  | some o=>
   left
   simp only
   refine ⟨rfl,?_⟩
   rcases folR_ok (n:=n) (x.ps.drop (k+1)) (k+1) o (if (portAt n ((x.ps.take k).getLastD 0)).inn=true then k9+1 else k9) with ⟨h,c,e,-⟩ | ⟨c,hc,e⟩
   ·rw [e];exact .inl rfl
   ·rw [e];exact .inr ⟨rfl,by simp only;omega⟩
theorem pth_flw {n:NN} {s:Int×List UInt8} {hops:Int} {x:WY} (hx:x∈pthM n s hops):flwM n s x.ps=(x.hd,(x.es.length:Int),0):=by
 rw [flw_fol hx (pth_len hx).2.1]
 exact (pth_mem hx).2.2.2.2.2.2.1
theorem pth_pre {n:NN} {s:Int×List UInt8} {hops:Int} {x:WY} (hx:x∈pthM n s hops) {k:Nat} (hk:1≤k):∃ h1 k1,flwM n s (x.ps.take k)=(h1,((k1:Nat):Int),0)∧k1≤x.es.length:=by
 rw [flw_fol hx (by have:=(pth_len hx).2.1;rw [List.length_take];omega)]
 refine folM_pre (B:=x.ps.drop k) (h:=x.hd) ?_ (by rw [List.take_append_drop];exact (pth_mem hx).2.2.2.2.2.2.1)
 intro e
 have:=congrArg List.length e
 have h1:=(pth_len hx).1
 rw [List.length_take,List.length_nil] at this
 omega
theorem pth_more {n:NN} {s:Int×List UInt8} {hops:Int} {x:WY} (hx:x∈pthM n s hops):chkM n x.last=0∧((nxtM n x.last).2=[]∨((portAt n x.last.1).inn=true∧(x.es.length:Int)=hops)):=by
 obtain ⟨hV,hS,h0,h1,h2,h3,h4,y,hy,rfl⟩:=pth_mem hx
 have hst:=h2.st
 refine ⟨chk_yes hV hst,?_⟩
 by_cases hi:(portAt n (endM n y).last.1).inn=true
 ·by_cases hh:((endM n y).es.length:Int)=hops
  ·exact .inr ⟨hi,hh⟩
  ·left
   unfold onwM at h3
   rw [if_pos ⟨hi,hh⟩] at h3
   have h5:(aplM n (endM n y).last).2=[]:=List.map_eq_nil_iff.1 h3
   rw [nx_in hi (k:=(aplM n (endM n y).last).1) (L:=[]) (by rw [←h5])]
   rfl
 ·left
  rw [nx_out (by simpa using hi)]
  simp only
  unfold endM at hi ⊢
  split at hi
  ·rename_i hl
   exfalso
   rw [to_last] at hi
   have hs:=hy.st
   obtain ⟨-,hp⟩:=hV.port hs.1 hs.2.1
   rcases hp.2.2.2 with h9 | h9
   ·omega
   ·exact hi h9.2.2.2
  ·rename_i hl
   rw [if_neg hl]
   unfold ovS
   rw [if_neg hl]
theorem end_pre (n:NN) (w:WY):w.ps <+: (endM n w).ps:=by
 unfold endM
 split
 ·exact ⟨_,rfl⟩
 ·exact List.prefix_refl _
theorem wlk_pre {n:NN} {hops:Int}:∀ (f:Nat) (w x:WY),x∈wlkM n hops f w→w.ps <+: x.ps
 | 0,w,x,hx=>by
  have:x=endM n w:=by simpa [wlkM] using hx
  subst this
  exact end_pre n w
 | f+1,w,x,hx=>by
  unfold wlkM at hx
  split at hx
  ·have:x=endM n w:=by simpa using hx
   subst this
   exact end_pre n w
  ·obtain ⟨y,hy,hxy⟩:=List.mem_flatMap.1 hx
   have h1:=wlk_pre f y x hxy
   have h2:(endM n w).ps <+: y.ps:=by
    unfold onwM at hy
    split at hy
    ·obtain ⟨s,-,rfl⟩:=List.mem_map.1 hy
     exact ⟨_,rfl⟩
    ·cases hy
   exact ((end_pre n w).trans h2).trans h1
theorem apl_nd {n:NN} (hV:NetP n) {s:Int×List UInt8} (hs:StP n s):(aplM n s).2.Pairwise (fun a b=>a.1≠b.1):=by
 unfold aplM
 cases he:appE n s.1 s.2 with
 | none=>exact List.Pairwise.nil
 | some ke=>
  obtain ⟨k,e⟩:=ke
  simp only [outS]
  unfold appE at he
  split at he
  ·obtain ⟨i,-,hi,-⟩:=ffst_some he
   obtain ⟨hx1,hx2⟩:=hV.port hs.1 hs.2.1
   obtain ⟨-,ht2⟩:=hV.tab hx2.2.1 hx2.2.2.1
   have h9:=(ht2.1 e (List.mem_of_getElem? hi)).2.2.2.2.2.2
   rw [List.pairwise_map]
   exact List.Pairwise.filter _ h9
  ·cases he
theorem wlk_nd {n:NN} {hops:Int} (hV:NetP n):∀ (f:Nat) (w:WY),WYP n hops 0 w→(wlkM n hops f w).Pairwise (fun a b=>a.ps≠b.ps)
 | 0,w,_=>by simp [wlkM]
 | f+1,w,hw=>by
  unfold wlkM
  split
  ·simp
  ·obtain ⟨h1,-⟩:=wyp_end hV hw
   rw [List.pairwise_flatMap]
   refine ⟨fun a ha=>wlk_nd hV f a (wyp_onw hV h1 ha).1,?_⟩
   unfold onwM
   split
   ·rw [List.pairwise_map]
    refine (apl_nd hV h1.st).imp ?_
    intro a b hab x hx y hy e
    obtain ⟨t1,ht1⟩:=wlk_pre f _ x hx
    obtain ⟨t2,ht2⟩:=wlk_pre f _ y hy
    rw [←ht1,←ht2] at e
    simp only [WY.to,List.append_assoc] at e
    have e2:=List.append_cancel_left e
    simp only [List.cons_append,List.nil_append,List.cons.injEq] at e2
    exact hab e2.1
   ·exact List.Pairwise.nil
theorem pth_nd (n:NN) (s:Int×List UInt8) (hops:Int):(pthM n s hops).Pairwise (fun a b=>a.ps≠b.ps):=by
 unfold pthM
 split
 ·rename_i hc
  obtain ⟨hV,hS⟩:=pb_iff.1 hc.1
  exact wlk_nd hV _ _ (wyp_aln hS hc.2.1)
 ·exact List.Pairwise.nil
theorem pth_some {n:NN} {s:Int×List UInt8} {hops:Int} (h1:NetP n) (h2:StP n s) (h3:0≤hops) (h4:hops≤64):pthM n s hops≠[]:=by
 unfold pthM
 rw [if_pos ⟨pb_iff.2 ⟨h1,h2⟩,h3,h4⟩]
 exact wlk_ne n hops _ _
end Go.Proofs.YtbplhianpelmfaaGreatDoor.Nt

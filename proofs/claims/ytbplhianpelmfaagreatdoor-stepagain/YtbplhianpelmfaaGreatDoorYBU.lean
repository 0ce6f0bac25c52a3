import Derived.Test.YtbplhianpelmfaaGreatDoorYBT
namespace Go.Proofs.YtbplhianpelmfaaGreatDoor.Nt
open Go.RowKit Go.Shelf
theorem num_any (R:Int) (w:World):Calls Tryz.prog 9 #[.int .i64 R] w fun e w'=>e=.returned (.int .i64 R)∧w'=w:=by
 go_enter Tryz.func9,Tryz.ntmps9
 go_wp2_with fail
 go_ret
 exact ⟨rfl,rfl⟩
def nnT:NN:=⟨1,[⟨[82,46,97],0,true,-1⟩,⟨[82,46,98],0,false,0⟩],[[⟨[101],[0],[[120]],[48],[1]⟩]],[[],[]]⟩
theorem full_ra:fullN [82,46,97]=true:=by decide +kernel
theorem full_rb:fullN [82,46,98]=true:=by decide +kernel
theorem netP_T:NetP nnT:=by
 refine ⟨⟨by decide,by decide,by decide,by decide,rfl⟩,by decide,by decide,⟨fun p hp=>?_,by decide⟩,fun g hg=>?_,fun k t ht=>?_⟩
 ·have hp:p=⟨[82,46,97],0,true,-1⟩∨p=⟨[82,46,98],0,false,0⟩:=by simpa [nnT] using hp
  rcases hp with rfl | rfl
  ·exact ⟨full_ra,by decide,by decide,.inl rfl⟩
  ·exact ⟨full_rb,by decide,by decide,.inr ⟨rfl,by decide,by decide,rfl⟩⟩
 ·have hg:g=[]:=by simpa [nnT] using hg
  subst hg
  exact ⟨fun l hl=>by simp at hl,by decide⟩
 ·have hk:k < 1:=(List.getElem?_eq_some_iff.1 ht).1
  obtain rfl:k=0:=by omega
  have ht:t=[⟨[101],[0],[[120]],[48],[1]⟩]:=(Option.some.inj ht).symm
  subst ht
  refine ⟨fun e he=>?_,by decide⟩
  have he:e=⟨[101],[0],[[120]],[48],[1]⟩:=by simpa using he
  subst he
  refine ⟨by decide,⟨fun q hq=>?_,by decide⟩,⟨by decide,fun c hc=>?_⟩,⟨rfl,rfl⟩,⟨by decide,fun q hq=>?_,by decide⟩⟩
  ·have hq:q=0:=by simpa using hq
   subst hq
   exact ⟨by decide,by decide,rfl,rfl⟩
  ·have hc:c=[120]:=by simpa using hc
   subst hc
   exact ⟨rfl,rfl⟩
  ·have hq:q=1:=by simpa using hq
   subst hq
   exact ⟨by decide,by decide,rfl,rfl⟩
theorem okT:okN nnT:=by
 refine ⟨by decide,fun p hp=>?_,by decide,fun t ht=>?_,by decide,fun t ht=>?_⟩
 ·have hp:p=⟨[82,46,97],0,true,-1⟩∨p=⟨[82,46,98],0,false,0⟩:=by simpa [nnT] using hp
  rcases hp with rfl | rfl
  ·exact (by decide:(3:Nat)≤140737488351232)
  ·exact (by decide:(3:Nat)≤140737488351232)
 ·have ht:t=[⟨[101],[0],[[120]],[48],[1]⟩]:=by simpa [nnT] using ht
  subst ht
  refine ⟨by decide,fun e he=>?_⟩
  have he:e=⟨[101],[0],[[120]],[48],[1]⟩:=by simpa using he
  subst he
  refine ⟨(by decide:(1:Nat)≤140737488351232),(by decide:(8:Nat)≤140737488351232),⟨by decide,fun x hx=>?_⟩,(by decide:(1:Nat)≤140737488351232),(by decide:(8:Nat)≤140737488351232)⟩
  have hx:x=[120]:=by simpa using hx
  subst hx
  exact (by decide:(1:Nat)≤140737488351232)
 ·have ht:t=[]:=by simpa [nnT] using ht
  subst ht
  exact ⟨by decide,fun l hl=>by simp at hl⟩
theorem stT:StP nnT (0,[49]):=⟨by decide,by decide,rfl,rfl⟩
theorem nxT:nxtM nnT (0,[49])=(0,[(1,[48]),(0,[48])]):=by decide +kernel
theorem chkT:chkM nnT (0,[49])=0:=chk_yes netP_T stT
theorem lnT {w:World} {a1 a2 a3 a4 a5 a6 a7:Nat} (h1:w.heap[a1]?=some (.cells #[.string ⟨#[82,46,97]⟩,.int .i64 0,.bool true,.int .i64 (-1),.string ⟨#[82,46,98]⟩,.int .i64 0,.bool false,.int .i64 0] 36 (0,0))) (h2:w.heap[a2]?=some (.cells #[.int .i64 0] 3 (0,0))) (h3:w.heap[a3]?=some (.cells #[.string ⟨#[120]⟩] 9 (0,0))) (h4:w.heap[a4]?=some (.cells #[.int .i64 1] 3 (0,0))) (h5:w.heap[a5]?=some (.cells #[.string ⟨#[101]⟩,.slice (some ⟨a2,0,none⟩) 1 1,.slice (some ⟨a3,0,none⟩) 1 1,.string ⟨#[48]⟩,.slice (some ⟨a4,0,none⟩) 1 1] 41 (0,0))) (h6:w.heap[a6]?=some (.cells #[.slice (some ⟨a5,0,none⟩) 1 1] 37 (0,0))) (h7:w.heap[a7]?=some (.cells #[.slice none 0 0,.slice none 0 0] 43 (0,0))) :
  LN w nnT ⟨some ⟨a1,0,none⟩,2,some ⟨a6,0,none⟩,1,some ⟨a7,0,none⟩,2⟩:=by
 have c1:=(cellsZ h1).1
 have c2:=(cellsZ h2).1
 have c3:=(cellsZ h3).1
 have c4:=(cellsZ h4).1
 have c5:=(cellsZ h5).1
 have c6:=(cellsZ h6).1
 have c7:=(cellsZ h7).1
 have li:∀ (a:Nat) (x:Int),(∀ j,w.cell? ⟨a,j,none⟩=(#[Value.int .i64 x])[j]?)→LI w (some ⟨a,0,none⟩) [x]:=fun a x hc k y hy=>by
  have hk:k < 1:=(List.getElem?_eq_some_iff.1 hy).1
  obtain rfl:k=0:=by omega
  obtain rfl:x=y:=Option.some.inj hy
  exact ⟨a,0,rfl,by rw [hc];rfl⟩
 refine ⟨fun k x hx=>?_,Nat.le_refl 2,fun k x hx=>?_,Nat.le_refl 1,fun k x hx=>?_,Nat.le_refl 2⟩
 ·have hk:k < 2:=(List.getElem?_eq_some_iff.1 hx).1
  rcases (show k=0∨k=1 by omega) with rfl | rfl
  ·have hx:x=⟨[82,46,97],0,true,-1⟩:=(Option.some.inj hx).symm
   subst hx
   exact ⟨a1,0,rfl,by rw [c1];rfl,by rw [c1];rfl,by rw [c1];rfl,by rw [c1];rfl⟩
  ·have hx:x=⟨[82,46,98],0,false,0⟩:=(Option.some.inj hx).symm
   subst hx
   exact ⟨a1,0,rfl,by rw [c1];rfl,by rw [c1];rfl,by rw [c1];rfl,by rw [c1];rfl⟩
 ·have hk:k < 1:=(List.getElem?_eq_some_iff.1 hx).1
  obtain rfl:k=0:=by omega
  have hx:x=[⟨[101],[0],[[120]],[48],[1]⟩]:=(Option.some.inj hx).symm
  subst hx
  refine ⟨a6,0,some ⟨a5,0,none⟩,1,rfl,by rw [c6];rfl,fun k x hx=>?_,Nat.le_refl 1⟩
  have hk:k < 1:=(List.getElem?_eq_some_iff.1 hx).1
  obtain rfl:k=0:=by omega
  have hx:x=⟨[101],[0],[[120]],[48],[1]⟩:=(Option.some.inj hx).symm
  subst hx
  refine ⟨a5,0,some ⟨a2,0,none⟩,1,some ⟨a3,0,none⟩,1,some ⟨a4,0,none⟩,1,rfl,by rw [c5];rfl,by rw [c5];rfl,by rw [c5];rfl,by rw [c5];rfl,by rw [c5];rfl,li a2 0 c2,Nat.le_refl 1,fun k y hy=>?_,Nat.le_refl 1,li a4 1 c4,Nat.le_refl 1⟩
  have hk:k < 1:=(List.getElem?_eq_some_iff.1 hy).1
  obtain rfl:k=0:=by omega
  obtain rfl:[120]=y:=Option.some.inj hy
  exact ⟨a3,0,rfl,by rw [c3];rfl⟩
 ·have hk:k < 2:=(List.getElem?_eq_some_iff.1 hx).1
  rcases (show k=0∨k=1 by omega) with rfl | rfl
  ·have hx:x=[]:=(Option.some.inj hx).symm
   subst hx
   exact ⟨a7,0,none,0,rfl,by rw [c7];rfl,fun k x hx=>by simp at hx,by decide⟩
  ·have hx:x=[]:=(Option.some.inj hx).symm
   subst hx
   exact ⟨a7,0,none,0,rfl,by rw [c7];rfl,fun k x hx=>by simp at hx,by decide⟩
theorem res_netT (fn:Func) (tmps:Array Value) (W:World) (b:Nat) (v0 v1 v2 v3:Value) (hfn:fn.results=#[.cell 0 26]) (h:tmps[0]?.getD undef=.pointer (some ⟨b,0,none⟩)) (hb:W.heap[b]?=some (.cells #[v0,v1,v2,v3] 26 (0,0))) :
  (results fn tmps).run Tryz.prog W=.ok (.agg #[v0,v1,v2,v3]) W:=by
 have h1:=(cellsZ hb).1
 have c0:=h1 0
 have c1:=h1 1
 have c2:=h1 2
 have c3:=h1 3
 simp at c0 c1 c2 c3
 simp [results,hfn,h,c0,c1,c2,c3,go_sem]
set_option maxRecDepth 100000 in
set_option maxHeartbeats 16000000 in
theorem tiny_any (w:World):Calls Tryz.prog 30 #[] w fun e w'=>∃ a1 a2 a3,e=.returned (.agg #[.int .i64 1,.slice (some a1) 2 2,.slice (some a2) 1 1,.slice (some a3) 2 2])∧LN w' nnT ⟨some a1,2,some a2,1,some a3,2⟩∧Below w.heap.size w w':=by
 obtain ⟨B,hB⟩:∃ B,w.heap.size=B:=⟨_,rfl⟩
 obtain ⟨W0,hW0⟩:∃ W0,w.alloc (.cells #[.int .i64 0,.slice none 0 0,.slice none 0 0,.slice none 0 0] 26)=W0:=⟨_,rfl⟩
 have b0:Below w.heap.size w W0:=by rw [←hW0];exact belAZ (Below.refl _ _) _
 have k0:W0.heap[B]?=some (.cells #[.int .i64 0,.slice none 0 0,.slice none 0 0,.slice none 0 0] 26 (0,0)):=by rw [←hW0,←hB];exact alloc_getZ _ _
 obtain ⟨y1,hy1⟩:∃ y,W0.heap.size=y:=⟨_,rfl⟩
 obtain ⟨y2,hy2⟩:∃ y,W0.heap.size+1=y:=⟨_,rfl⟩
 obtain ⟨y3,hy3⟩:∃ y,W0.heap.size+1+1=y:=⟨_,rfl⟩
 obtain ⟨y4,hy4⟩:∃ y,W0.heap.size+1+1+1=y:=⟨_,rfl⟩
 obtain ⟨y5,hy5⟩:∃ y,W0.heap.size+1+1+1+1=y:=⟨_,rfl⟩
 obtain ⟨y6,hy6⟩:∃ y,W0.heap.size+1+1+1+1+1=y:=⟨_,rfl⟩
 obtain ⟨y7,hy7⟩:∃ y,W0.heap.size+1+1+1+1+1+1=y:=⟨_,rfl⟩
 obtain ⟨X1,hX1⟩:∃ X,W0.alloc (.cells #[.string ⟨#[82,46,97]⟩,.int .i64 0,.bool true,.int .i64 (-1),.string ⟨#[82,46,98]⟩,.int .i64 0,.bool false,.int .i64 0] 36)=X:=⟨_,rfl⟩
 have c1:Below W0.heap.size W0 X1:=by rw [←hX1];exact belAZ (Below.refl _ _) _
 have s1:W0.heap.size=y1:=by exact hy1
 have s12:W0.heap.size=W0.heap.size:=by rw [s1,←hy1]
 have g1:X1.heap[y1]?=some (.cells #[.string ⟨#[82,46,97]⟩,.int .i64 0,.bool true,.int .i64 (-1),.string ⟨#[82,46,98]⟩,.int .i64 0,.bool false,.int .i64 0] 36 (0,0)):=by rw [←hX1,←s1];exact alloc_getZ _ _
 obtain ⟨X2,hX2⟩:∃ X,X1.alloc (.cells #[.int .i64 0] 3)=X:=⟨_,rfl⟩
 have c2:Below X1.heap.size X1 X2:=by rw [←hX2];exact belAZ (Below.refl _ _) _
 have s2:X1.heap.size=y2:=by rw [←hX1,←hy2,←s12];exact Array.size_push _
 have s22:X1.heap.size=W0.heap.size+1:=by rw [s2,←hy2]
 have g2:X2.heap[y2]?=some (.cells #[.int .i64 0] 3 (0,0)):=by rw [←hX2,←s2];exact alloc_getZ _ _
 obtain ⟨X3,hX3⟩:∃ X,X2.alloc (.cells #[.string ⟨#[120]⟩] 9)=X:=⟨_,rfl⟩
 have c3:Below X2.heap.size X2 X3:=by rw [←hX3];exact belAZ (Below.refl _ _) _
 have s3:X2.heap.size=y3:=by rw [←hX2,←hy3,←s22];exact Array.size_push _
 have s32:X2.heap.size=W0.heap.size+1+1:=by rw [s3,←hy3]
 have g3:X3.heap[y3]?=some (.cells #[.string ⟨#[120]⟩] 9 (0,0)):=by rw [←hX3,←s3];exact alloc_getZ _ _
 obtain ⟨X4,hX4⟩:∃ X,X3.alloc (.cells #[.int .i64 1] 3)=X:=⟨_,rfl⟩
 have c4:Below X3.heap.size X3 X4:=by rw [←hX4];exact belAZ (Below.refl _ _) _
 have s4:X3.heap.size=y4:=by rw [←hX3,←hy4,←s32];exact Array.size_push _
 have s42:X3.heap.size=W0.heap.size+1+1+1:=by rw [s4,←hy4]
 have g4:X4.heap[y4]?=some (.cells #[.int .i64 1] 3 (0,0)):=by rw [←hX4,←s4];exact alloc_getZ _ _
 obtain ⟨X5,hX5⟩:∃ X,X4.alloc (.cells #[.string ⟨#[101]⟩,.slice (some ⟨y2,0,none⟩) 1 1,.slice (some ⟨y3,0,none⟩) 1 1,.string ⟨#[48]⟩,.slice (some ⟨y4,0,none⟩) 1 1] 41)=X:=⟨_,rfl⟩
 have c5:Below X4.heap.size X4 X5:=by rw [←hX5];exact belAZ (Below.refl _ _) _
 have s5:X4.heap.size=y5:=by rw [←hX4,←hy5,←s42];exact Array.size_push _
 have s52:X4.heap.size=W0.heap.size+1+1+1+1:=by rw [s5,←hy5]
 have g5:X5.heap[y5]?=some (.cells #[.string ⟨#[101]⟩,.slice (some ⟨y2,0,none⟩) 1 1,.slice (some ⟨y3,0,none⟩) 1 1,.string ⟨#[48]⟩,.slice (some ⟨y4,0,none⟩) 1 1] 41 (0,0)):=by rw [←hX5,←s5];exact alloc_getZ _ _
 obtain ⟨X6,hX6⟩:∃ X,X5.alloc (.cells #[.slice (some ⟨y5,0,none⟩) 1 1] 37)=X:=⟨_,rfl⟩
 have c6:Below X5.heap.size X5 X6:=by rw [←hX6];exact belAZ (Below.refl _ _) _
 have s6:X5.heap.size=y6:=by rw [←hX5,←hy6,←s52];exact Array.size_push _
 have s62:X5.heap.size=W0.heap.size+1+1+1+1+1:=by rw [s6,←hy6]
 have g6:X6.heap[y6]?=some (.cells #[.slice (some ⟨y5,0,none⟩) 1 1] 37 (0,0)):=by rw [←hX6,←s6];exact alloc_getZ _ _
 obtain ⟨X7,hX7⟩:∃ X,X6.alloc (.cells #[.slice none 0 0,.slice none 0 0] 43)=X:=⟨_,rfl⟩
 have c7:Below X6.heap.size X6 X7:=by rw [←hX7];exact belAZ (Below.refl _ _) _
 have s7:X6.heap.size=y7:=by rw [←hX6,←hy7,←s62];exact Array.size_push _
 have s72:X6.heap.size=W0.heap.size+1+1+1+1+1+1:=by rw [s7,←hy7]
 have g7:X7.heap[y7]?=some (.cells #[.slice none 0 0,.slice none 0 0] 43 (0,0)):=by rw [←hX7,←s7];exact alloc_getZ _ _
 have bb:Below w.heap.size w X7:=bel0Z (bel0Z (bel0Z (bel0Z (bel0Z (bel0Z (bel0Z b0 c1) c2) c3) c4) c5) c6) c7
 have hle:w.heap.size≤B:=by omega
 have kB:X7.heap[B]?=some (.cells #[.int .i64 0,.slice none 0 0,.slice none 0 0,.slice none 0 0] 26 (0,0)):=keepZ c7 (keepZ c6 (keepZ c5 (keepZ c4 (keepZ c3 (keepZ c2 (keepZ c1 k0))))))
 have hyb:∀ y,y∈[y1,y2,y3,y4,y5,y6,y7]→B < y:=fun y hy=>by
  have h9:W0.heap.size=B+1:=by rw [←hW0,←hB];exact Array.size_push _
  simp only [List.mem_cons,List.not_mem_nil,or_false] at hy
  omega
 obtain ⟨X9,hX9⟩:∃ X9,((((X7.setCell ⟨B,0,none⟩ (.int .i64 1)).setCell ⟨B,1,none⟩ (.slice (some ⟨y1,0,none⟩) 2 2)).setCell ⟨B,2,none⟩ (.slice (some ⟨y6,0,none⟩) 1 1)).setCell ⟨B,3,none⟩ (.slice (some ⟨y7,0,none⟩) 2 2))=X9:=⟨_,rfl⟩
 have hRES:X9.heap[B]?=some (.cells #[.int .i64 1,.slice (some ⟨y1,0,none⟩) 2 2,.slice (some ⟨y6,0,none⟩) 1 1,.slice (some ⟨y7,0,none⟩) 2 2] 26 (0,0)):=by
  rw [←hX9]
  exact ((set_getZ _ (set_getZ _ (set_getZ _ (set_getZ _ kB))))).trans (by simp)
 have hbw:Below w.heap.size w X9:=by
  rw [←hX9]
  exact ((((bb.setCell hle _).setCell hle _).setCell hle _).setCell hle _)
 have hoth:∀ b,b≠B→X9.heap[b]?=X7.heap[b]?:=fun b hb=>by rw [←hX9,far1 _ _ _ _ _ hb,far1 _ _ _ _ _ hb,far1 _ _ _ _ _ hb,far1 _ _ _ _ _ hb]
 have hln:LN X9 nnT ⟨some ⟨y1,0,none⟩,2,some ⟨y6,0,none⟩,1,some ⟨y7,0,none⟩,2⟩:=by
  have hq:∀ y,y∈[y1,y2,y3,y4,y5,y6,y7]→X9.heap[y]?=X7.heap[y]?:=fun y hy=>hoth y (by have:=hyb y hy;omega)
  exact lnT ((hq y1 (by simp)).trans (keepZ c7 (keepZ c6 (keepZ c5 (keepZ c4 (keepZ c3 (keepZ c2 g1))))))) ((hq y2 (by simp)).trans (keepZ c7 (keepZ c6 (keepZ c5 (keepZ c4 (keepZ c3 g2)))))) ((hq y3 (by simp)).trans (keepZ c7 (keepZ c6 (keepZ c5 (keepZ c4 g3))))) ((hq y4 (by simp)).trans (keepZ c7 (keepZ c6 (keepZ c5 g4)))) ((hq y5 (by simp)).trans (keepZ c7 (keepZ c6 g5))) ((hq y6 (by simp)).trans (keepZ c7 g6)) ((hq y7 (by simp)).trans g7)
 have hn:(((((((W0.alloc (.cells #[.string ⟨#[82,46,97]⟩,.int .i64 0,.bool true,.int .i64 (-1),.string ⟨#[82,46,98]⟩,.int .i64 0,.bool false,.int .i64 0] 36)).alloc (.cells #[.int .i64 0] 3)).alloc (.cells #[.string ⟨#[120]⟩] 9)).alloc (.cells #[.int .i64 1] 3)).alloc (.cells #[.string ⟨#[101]⟩,.slice (some ⟨W0.heap.size+1,0,none⟩) 1 1,.slice (some ⟨W0.heap.size+1+1,0,none⟩) 1 1,.string ⟨#[48]⟩,.slice (some ⟨W0.heap.size+1+1+1,0,none⟩) 1 1] 41)).alloc (.cells #[.slice (some ⟨W0.heap.size+1+1+1+1,0,none⟩) 1 1] 37)).alloc (.cells #[.slice none 0 0,.slice none 0 0] 43))=X7:=by rw [hX1,hX2,hX3,hX4,hy5,hy4,hy3,hy2,hX5,hX6,hX7]
 have hzz:=cellsZ kB
 have z0:(((((((W0.alloc (.cells #[.string ⟨#[82,46,97]⟩,.int .i64 0,.bool true,.int .i64 (-1),.string ⟨#[82,46,98]⟩,.int .i64 0,.bool false,.int .i64 0] 36)).alloc (.cells #[.int .i64 0] 3)).alloc (.cells #[.string ⟨#[120]⟩] 9)).alloc (.cells #[.int .i64 1] 3)).alloc (.cells #[.string ⟨#[101]⟩,.slice (some ⟨W0.heap.size+1,0,none⟩) 1 1,.slice (some ⟨W0.heap.size+1+1,0,none⟩) 1 1,.string ⟨#[48]⟩,.slice (some ⟨W0.heap.size+1+1+1,0,none⟩) 1 1] 41)).alloc (.cells #[.slice (some ⟨W0.heap.size+1+1+1+1,0,none⟩) 1 1] 37)).alloc (.cells #[.slice none 0 0,.slice none 0 0] 43)).cell? ⟨B,0,none⟩=some (.int .i64 0):=by rw [hn,hzz.1];rfl
 have f0:(((((((W0.alloc (.cells #[.string ⟨#[82,46,97]⟩,.int .i64 0,.bool true,.int .i64 (-1),.string ⟨#[82,46,98]⟩,.int .i64 0,.bool false,.int .i64 0] 36)).alloc (.cells #[.int .i64 0] 3)).alloc (.cells #[.string ⟨#[120]⟩] 9)).alloc (.cells #[.int .i64 1] 3)).alloc (.cells #[.string ⟨#[101]⟩,.slice (some ⟨W0.heap.size+1,0,none⟩) 1 1,.slice (some ⟨W0.heap.size+1+1,0,none⟩) 1 1,.string ⟨#[48]⟩,.slice (some ⟨W0.heap.size+1+1+1,0,none⟩) 1 1] 41)).alloc (.cells #[.slice (some ⟨W0.heap.size+1+1+1+1,0,none⟩) 1 1] 37)).alloc (.cells #[.slice none 0 0,.slice none 0 0] 43)).frozen? ⟨B,0,none⟩=false:=by rw [hn];exact hzz.2 0
 have z1:(((((((W0.alloc (.cells #[.string ⟨#[82,46,97]⟩,.int .i64 0,.bool true,.int .i64 (-1),.string ⟨#[82,46,98]⟩,.int .i64 0,.bool false,.int .i64 0] 36)).alloc (.cells #[.int .i64 0] 3)).alloc (.cells #[.string ⟨#[120]⟩] 9)).alloc (.cells #[.int .i64 1] 3)).alloc (.cells #[.string ⟨#[101]⟩,.slice (some ⟨W0.heap.size+1,0,none⟩) 1 1,.slice (some ⟨W0.heap.size+1+1,0,none⟩) 1 1,.string ⟨#[48]⟩,.slice (some ⟨W0.heap.size+1+1+1,0,none⟩) 1 1] 41)).alloc (.cells #[.slice (some ⟨W0.heap.size+1+1+1+1,0,none⟩) 1 1] 37)).alloc (.cells #[.slice none 0 0,.slice none 0 0] 43)).cell? ⟨B,1,none⟩=some (.slice none 0 0):=by rw [hn,hzz.1];rfl
 have f1:(((((((W0.alloc (.cells #[.string ⟨#[82,46,97]⟩,.int .i64 0,.bool true,.int .i64 (-1),.string ⟨#[82,46,98]⟩,.int .i64 0,.bool false,.int .i64 0] 36)).alloc (.cells #[.int .i64 0] 3)).alloc (.cells #[.string ⟨#[120]⟩] 9)).alloc (.cells #[.int .i64 1] 3)).alloc (.cells #[.string ⟨#[101]⟩,.slice (some ⟨W0.heap.size+1,0,none⟩) 1 1,.slice (some ⟨W0.heap.size+1+1,0,none⟩) 1 1,.string ⟨#[48]⟩,.slice (some ⟨W0.heap.size+1+1+1,0,none⟩) 1 1] 41)).alloc (.cells #[.slice (some ⟨W0.heap.size+1+1+1+1,0,none⟩) 1 1] 37)).alloc (.cells #[.slice none 0 0,.slice none 0 0] 43)).frozen? ⟨B,1,none⟩=false:=by rw [hn];exact hzz.2 1
 have z2:(((((((W0.alloc (.cells #[.string ⟨#[82,46,97]⟩,.int .i64 0,.bool true,.int .i64 (-1),.string ⟨#[82,46,98]⟩,.int .i64 0,.bool false,.int .i64 0] 36)).alloc (.cells #[.int .i64 0] 3)).alloc (.cells #[.string ⟨#[120]⟩] 9)).alloc (.cells #[.int .i64 1] 3)).alloc (.cells #[.string ⟨#[101]⟩,.slice (some ⟨W0.heap.size+1,0,none⟩) 1 1,.slice (some ⟨W0.heap.size+1+1,0,none⟩) 1 1,.string ⟨#[48]⟩,.slice (some ⟨W0.heap.size+1+1+1,0,none⟩) 1 1] 41)).alloc (.cells #[.slice (some ⟨W0.heap.size+1+1+1+1,0,none⟩) 1 1] 37)).alloc (.cells #[.slice none 0 0,.slice none 0 0] 43)).cell? ⟨B,2,none⟩=some (.slice none 0 0):=by rw [hn,hzz.1];rfl
 have f2:(((((((W0.alloc (.cells #[.string ⟨#[82,46,97]⟩,.int .i64 0,.bool true,.int .i64 (-1),.string ⟨#[82,46,98]⟩,.int .i64 0,.bool false,.int .i64 0] 36)).alloc (.cells #[.int .i64 0] 3)).alloc (.cells #[.string ⟨#[120]⟩] 9)).alloc (.cells #[.int .i64 1] 3)).alloc (.cells #[.string ⟨#[101]⟩,.slice (some ⟨W0.heap.size+1,0,none⟩) 1 1,.slice (some ⟨W0.heap.size+1+1,0,none⟩) 1 1,.string ⟨#[48]⟩,.slice (some ⟨W0.heap.size+1+1+1,0,none⟩) 1 1] 41)).alloc (.cells #[.slice (some ⟨W0.heap.size+1+1+1+1,0,none⟩) 1 1] 37)).alloc (.cells #[.slice none 0 0,.slice none 0 0] 43)).frozen? ⟨B,2,none⟩=false:=by rw [hn];exact hzz.2 2
 have z3:(((((((W0.alloc (.cells #[.string ⟨#[82,46,97]⟩,.int .i64 0,.bool true,.int .i64 (-1),.string ⟨#[82,46,98]⟩,.int .i64 0,.bool false,.int .i64 0] 36)).alloc (.cells #[.int .i64 0] 3)).alloc (.cells #[.string ⟨#[120]⟩] 9)).alloc (.cells #[.int .i64 1] 3)).alloc (.cells #[.string ⟨#[101]⟩,.slice (some ⟨W0.heap.size+1,0,none⟩) 1 1,.slice (some ⟨W0.heap.size+1+1,0,none⟩) 1 1,.string ⟨#[48]⟩,.slice (some ⟨W0.heap.size+1+1+1,0,none⟩) 1 1] 41)).alloc (.cells #[.slice (some ⟨W0.heap.size+1+1+1+1,0,none⟩) 1 1] 37)).alloc (.cells #[.slice none 0 0,.slice none 0 0] 43)).cell? ⟨B,3,none⟩=some (.slice none 0 0):=by rw [hn,hzz.1];rfl
 have f3:(((((((W0.alloc (.cells #[.string ⟨#[82,46,97]⟩,.int .i64 0,.bool true,.int .i64 (-1),.string ⟨#[82,46,98]⟩,.int .i64 0,.bool false,.int .i64 0] 36)).alloc (.cells #[.int .i64 0] 3)).alloc (.cells #[.string ⟨#[120]⟩] 9)).alloc (.cells #[.int .i64 1] 3)).alloc (.cells #[.string ⟨#[101]⟩,.slice (some ⟨W0.heap.size+1,0,none⟩) 1 1,.slice (some ⟨W0.heap.size+1+1,0,none⟩) 1 1,.string ⟨#[48]⟩,.slice (some ⟨W0.heap.size+1+1+1,0,none⟩) 1 1] 41)).alloc (.cells #[.slice (some ⟨W0.heap.size+1+1+1+1,0,none⟩) 1 1] 37)).alloc (.cells #[.slice none 0 0,.slice none 0 0] 43)).frozen? ⟨B,3,none⟩=false:=by rw [hn];exact hzz.2 3
 have HN9:Hid ((((((((((((W0.alloc (.cells #[.string ⟨#[82,46,97]⟩,.int .i64 0,.bool true,.int .i64 (-1),.string ⟨#[82,46,98]⟩,.int .i64 0,.bool false,.int .i64 0] 36)).alloc (.cells #[.int .i64 0] 3)).alloc (.cells #[.string ⟨#[120]⟩] 9)).alloc (.cells #[.int .i64 1] 3)).alloc (.cells #[.string ⟨#[101]⟩,.slice (some ⟨W0.heap.size+1,0,none⟩) 1 1,.slice (some ⟨W0.heap.size+1+1,0,none⟩) 1 1,.string ⟨#[48]⟩,.slice (some ⟨W0.heap.size+1+1+1,0,none⟩) 1 1] 41)).alloc (.cells #[.slice (some ⟨W0.heap.size+1+1+1+1,0,none⟩) 1 1] 37)).alloc (.cells #[.slice none 0 0,.slice none 0 0] 43)).setCell ⟨B,0,none⟩ (.int .i64 1)).setCell ⟨B,1,none⟩ (.slice (some ⟨W0.heap.size,0,none⟩) 2 2)).setCell ⟨B,2,none⟩ (.slice (some ⟨W0.heap.size+1+1+1+1+1,0,none⟩) 1 1)).setCell ⟨B,3,none⟩ (.slice (some ⟨W0.heap.size+1+1+1+1+1+1,0,none⟩) 2 2))=X9):=by
  show _=_
  rw [hn,hy7,hy6,hy1]
  exact hX9
 have HRES:=hideL hRES
 have HFIN:Hid (LN X9 nnT ⟨some ⟨y1,0,none⟩,2,some ⟨y6,0,none⟩,1,some ⟨y7,0,none⟩,2⟩∧Below w.heap.size w X9):=⟨hln,hbw⟩
 have HB:=hideL hB
 have HW0:=hideL hW0
 clear hB hW0 b0 k0 hy1 hy2 hy3 hy4 hy5 hy6 hy7 hX1 hX2 hX3 hX4 hX5 hX6 hX7 c1 c2 c3 c4 c5 c6 c7 s1 s2 s3 s4 s5 s6 s7 s12 s22 s32 s42 s52 s62 s72 g1 g2 g3 g4 g5 g6 g7 bb hle kB hyb hX9 hRES hbw hoth hln hn hzz
 go_enter Tryz.func30,Tryz.ntmps30
 go_upto_region 1 with fail
 rw [HW0.out,HB.out]
 go_wp2_with fail
 rw [HN9.out]
 refine bodyPost_ret (res_netT _ _ _ B _ _ _ _ rfl rfl HRES.out) rfl ?_
 exact ⟨_,_,_,rfl,HFIN.out.1,HFIN.out.2⟩
set_option maxRecDepth 100000 in
set_option maxHeartbeats 16000000 in
theorem known_any (w:World) (hT:TAB w):Calls Tryz.prog 10 #[] w fun e w'=>e=.returned (.bool true)∧Below w.heap.size w w':=by
 have HT:Hid (Calls Tryz.prog 30 #[] w fun e w'=>∃ a1 a2 a3,e=.returned (.agg #[.int .i64 1,.slice (some a1) 2 2,.slice (some a2) 1 1,.slice (some a3) 2 2])∧LN w' nnT ⟨some a1,2,some a2,1,some a3,2⟩∧Below w.heap.size w w'):=tiny_any w
 have HN:Hid (∀ (a1 a2 a3:Addr) (U:World),Below w.heap.size w U→LN U nnT ⟨some a1,2,some a2,1,some a3,2⟩→Calls Tryz.prog 8 #[.agg #[.int .i64 1,.slice (some a1) 2 2,.slice (some a2) 1 1,.slice (some a3) 2 2],.agg #[.int .i64 0,.string ⟨#[49]⟩]] U fun e w'=>∃ q c,e=.returned (.tuple #[.int .i64 0,.slice q 2 c,.int .i64 0])∧RowL 2 asC w' q [((1:Int),([48]:List UInt8)),(0,[48])]∧Below U.heap.size U w'):=fun a1 a2 a3 U hU hl=>by
  have h9:=snext_any nnT ⟨some a1,2,some a2,1,some a3,2⟩ 0 [49] U hl okT (hT.at hU) (by unfold okS;decide)
  refine Calls.mono h9 ?_
  rintro e w' ⟨q,c,he,ho,hb⟩
  have e1:nxE nnT (0,[49])=0:=by unfold nxE;rw [if_pos chkT,nxT]
  have e2:nxL nnT (0,[49])=[((1:Int),([48]:List UInt8)),(0,[48])]:=by unfold nxL;rw [if_pos chkT,nxT]
  rw [e1,e2,chkT] at he
  rw [e2] at ho
  exact ⟨q,c,he,own_rowL asC_len ho rfl,hb⟩
 clear hT
 go_enter Tryz.func10,Tryz.ntmps10
 go_wp2_with fail
 refine (HT.out).mono ?_
 rintro e W2 ⟨a1,a2,a3,rfl,hl,b2⟩
 have HL:=hideL hl
 have HB:=hideL b2
 clear hl b2
 go_wp2_with fail
 refine (HN.out a1 a2 a3 W2 HB.out HL.out).mono ?_
 rintro e W3 ⟨q,c,rfl,hr,b3⟩
 obtain ⟨g,o,e9,hcx⟩:=hr 0 _ rfl
 subst e9
 have x0:=hcx 0 _ rfl
 have x1:=hcx 1 _ rfl
 obtain ⟨g9,o9,e9,hcy⟩:=hr 1 _ rfl
 simp only [Option.some.injEq,Addr.mk.injEq] at e9
 obtain ⟨rfl,rfl,-⟩:=e9
 have y0:=hcy 0 _ rfl
 have y1:=hcy 1 _ rfl
 simp only [Nat.zero_mul,Nat.one_mul,Nat.add_zero] at x0 x1 y0 y1
 have y2:W3.cell? ⟨g,o+3,none⟩=some (.string ⟨#[48]⟩):=y1
 have HFF:=hideL (bel0Z HB.out b3)
 clear hr hcx hcy b3
 go_wp2_with fail
 refine (num_any 0 W3).mono ?_
 rintro e W4 ⟨rfl,hw⟩
 obtain rfl:W3=W4:=hw.symm
 clear hw
 go_wp2_with fail
 go_ret
 exact ⟨rfl,HFF.out⟩
theorem LI.take {W:World} {p:Option Addr} {L:List Int} (h:LI W p L) (k:Nat):LI W p (L.take k):=fun j y hy=>h j y (by
 rw [List.getElem?_take] at hy
 split at hy
 ·exact hy
 ·cases hy)
def wiM (k most:Int):Int:=if k < 0 then 0 else if k > most then most else k
theorem within_any (k most:Int) (w:World):Calls Tryz.prog 17 #[.int .i64 k,.int .i64 most] w fun e w'=>e=.returned (.int .i64 (wiM k most))∧w'=w:=by
 unfold wiM
 by_cases j1:k < 0
 ·rw [if_pos j1]
  go_enter Tryz.func17,Tryz.ntmps17
  go_wp2_with fail
  go_ret
  exact ⟨rfl,rfl⟩
 ·rw [if_neg j1]
  by_cases j2:k > most
  ·rw [if_pos j2]
   go_enter Tryz.func17,Tryz.ntmps17
   go_wp2_with fail
   go_ret
   exact ⟨rfl,rfl⟩
  ·rw [if_neg j2]
   go_enter Tryz.func17,Tryz.ntmps17
   go_wp2_with fail
   go_ret
   exact ⟨rfl,rfl⟩
set_option maxRecDepth 100000 in
set_option maxHeartbeats 16000000 in
theorem closed_any (y:WY×WV) (w:World) (hL:WL w y) (hne:y.1.ps≠[]) (hN:y.1.ps.length≤1000) :
  Calls Tryz.prog 58 #[.agg (wyC y).toArray] w fun e w'=>e=.returned (.bool (cls y.1))∧Below w.heap.size w w':=by
 have hc:=hL.2.2
 obtain ⟨⟨ps,es,hd⟩,⟨yp,yc,ye,yd⟩⟩:=y
 obtain ⟨a0,a1,a2,a3,a4,a5,a6,a7,a8,h9⟩:=c9_ex hd
 obtain ⟨mp,hmp⟩:∃ k,ps.length=k:=⟨_,rfl⟩
 obtain ⟨me,hme⟩:∃ k,es.length=k:=⟨_,rfl⟩
 rw [wyC_arr h9 hmp hme]
 simp only at hL hne hN hc ⊢
 obtain ⟨m1,hm1⟩:∃ m1,mp=m1+1:=by
  cases hq:ps with
  | nil=>exact absurd hq hne
  | cons a l=>exact ⟨l.length,by rw [←hmp,hq];rfl⟩
 have hlast:=last_get (by rw [hmp,hm1]:ps.length=m1+1)
 obtain ⟨x,hx⟩:∃ x,ps.getLastD 0=x:=⟨_,rfl⟩
 rw [hx] at hlast
 obtain ⟨g,o,e0,hcl⟩:=hL.1.2.1 m1 x hlast
 simp only at e0
 subst e0
 have hdl:ps.dropLast=ps.take m1:=by rw [List.dropLast_eq_take,hmp,hm1,Nat.add_sub_cancel]
 have hcls:cls ⟨ps,es,hd⟩=pb (x∈ps.take m1):=by
  unfold cls
  rw [show (WY.last ⟨ps,es,hd⟩).1=x from hx]
  simp only [hdl]
  by_cases h:x∈ps.take m1
  ·rw [pb_yes h];simpa using h
  ·rw [pb_no h];simpa using h
 rw [hcls]
 obtain ⟨b,hb⟩:∃ b,w.heap.size=b:=⟨_,rfl⟩
 obtain ⟨W1,hW1⟩:∃ W1,w.alloc (.cells #[.slice (some ⟨g,o,none⟩) mp yc,.slice ye me yd,.int .i64 a0,.int .u64 a1,.int .u64 a2,.int .u64 a3,.int .u64 a4,.int .u64 a5,.int .u64 a6,.int .u64 a7,.int .u64 a8] 114)=W1:=⟨_,rfl⟩
 have b1:Below w.heap.size w W1:=by rw [←hW1];exact belAZ (Below.refl _ _) _
 have kb:W1.heap[b]?=some (.cells #[.slice (some ⟨g,o,none⟩) mp yc,.slice ye me yd,.int .i64 a0,.int .u64 a1,.int .u64 a2,.int .u64 a3,.int .u64 a4,.int .u64 a5,.int .u64 a6,.int .u64 a7,.int .u64 a8] 114 (0,0)):=by rw [←hW1,←hb];exact alloc_getZ _ _
 have HC:Hid (∀ U,Below W1.heap.size W1 U→(U.cell? ⟨b,0,none⟩=some (.slice (some ⟨g,o,none⟩) mp yc)∧U.cell? ⟨b,1,none⟩=some (.slice ye me yd)∧U.cell? ⟨b,2,none⟩=some (.int .i64 a0)∧U.cell? ⟨b,3,none⟩=some (.int .u64 a1)∧U.cell? ⟨b,4,none⟩=some (.int .u64 a2)∧U.cell? ⟨b,5,none⟩=some (.int .u64 a3)∧U.cell? ⟨b,6,none⟩=some (.int .u64 a4)∧U.cell? ⟨b,7,none⟩=some (.int .u64 a5)∧U.cell? ⟨b,8,none⟩=some (.int .u64 a6)∧U.cell? ⟨b,9,none⟩=some (.int .u64 a7)∧U.cell? ⟨b,10,none⟩=some (.int .u64 a8))∧U.cell? ⟨g,o+m1,none⟩=some (.int .i64 x)):=fun U hU=>by
  have e1:=(cellsZ (keepZ hU kb)).1
  exact ⟨⟨by rw [e1];rfl,by rw [e1];rfl,by rw [e1];rfl,by rw [e1];rfl,by rw [e1];rfl,by rw [e1];rfl,by rw [e1];rfl,by rw [e1];rfl,by rw [e1];rfl,by rw [e1];rfl,by rw [e1];rfl⟩,keepC (bel0Z b1 hU) hcl⟩
 have HCT:Hid (∀ U,Below W1.heap.size W1 U→Calls Tryz.prog 69 #[.slice (some ⟨g,o,none⟩) m1 yc,.int .i64 x] U fun e w'=>e=.returned (.bool (pb (x∈ps.take m1)))∧w'=U):=fun U hU=>xhas_any (ps.take m1) x (some ⟨g,o,none⟩) m1 yc U (by rw [List.length_take,hmp];omega) (by omega) ((hL.1.2.1.below (bel0Z b1 hU)).take m1)
 have HBW:Hid (∀ U,Below W1.heap.size W1 U→Below w.heap.size w U):=fun U hU=>bel0Z b1 hU
 have j0:(0:Int)≤(m1:Int):=by omega
 have j1:(m1:Int) < (mp:Int):=by omega
 have j2:(mp:Int) - 1=(m1:Int):=by omega
 have j3:(m1:Int)≤(yc:Int):=by omega
 have j4:mp≤1000:=by omega
 have HB:=hideL hb
 have HW1:=hideL hW1
 obtain ⟨⟨r0,r1,r2,r3,r4,r5,r6,r7,r8,r9,r10⟩,a0c⟩:(W1.cell? ⟨b,0,none⟩=some (.slice (some ⟨g,o,none⟩) mp yc)∧W1.cell? ⟨b,1,none⟩=some (.slice ye me yd)∧W1.cell? ⟨b,2,none⟩=some (.int .i64 a0)∧W1.cell? ⟨b,3,none⟩=some (.int .u64 a1)∧W1.cell? ⟨b,4,none⟩=some (.int .u64 a2)∧W1.cell? ⟨b,5,none⟩=some (.int .u64 a3)∧W1.cell? ⟨b,6,none⟩=some (.int .u64 a4)∧W1.cell? ⟨b,7,none⟩=some (.int .u64 a5)∧W1.cell? ⟨b,8,none⟩=some (.int .u64 a6)∧W1.cell? ⟨b,9,none⟩=some (.int .u64 a7)∧W1.cell? ⟨b,10,none⟩=some (.int .u64 a8))∧W1.cell? ⟨g,o+m1,none⟩=some (.int .i64 x):=by
  obtain ⟨h1,h2⟩:=HC.out W1 (Below.refl _ _)
  exact ⟨h1,h2⟩
 clear hL hne hN hc h9 hmp hme hm1 hlast hx hcl hdl hcls hb hW1 b1 kb
 go_enter Tryz.func58,Tryz.ntmps58
 go_upto_region 1 with fail
 rw [HW1.out,HB.out]
 go_upto_region 2 with fail
 clear r0 r1 r2 r3 r4 r5 r6 r7 r8 r9 r10 a0c
 have hs0:=HC.out W1.drew (Below.refl _ _).drew
 refine wp_region_held_drew (S:=fun U=>(U.cell? ⟨b,0,none⟩=some (.slice (some ⟨g,o,none⟩) mp yc)∧U.cell? ⟨b,1,none⟩=some (.slice ye me yd)∧U.cell? ⟨b,2,none⟩=some (.int .i64 a0)∧U.cell? ⟨b,3,none⟩=some (.int .u64 a1)∧U.cell? ⟨b,4,none⟩=some (.int .u64 a2)∧U.cell? ⟨b,5,none⟩=some (.int .u64 a3)∧U.cell? ⟨b,6,none⟩=some (.int .u64 a4)∧U.cell? ⟨b,7,none⟩=some (.int .u64 a5)∧U.cell? ⟨b,8,none⟩=some (.int .u64 a6)∧U.cell? ⟨b,9,none⟩=some (.int .u64 a7)∧U.cell? ⟨b,10,none⟩=some (.int .u64 a8))∧U.cell? ⟨g,o+m1,none⟩=some (.int .i64 x)) (by kernel_rfl) hs0 (fun _=>?_)
 refine tk 0 (.pointer (some ⟨b,0,none⟩)) rfl hs0 ?_ ?_
 ·rintro w ⟨⟨r0,r1,r2,r3,r4,r5,r6,r7,r8,r9,r10⟩,a0c⟩;go_simp
 refine tk 1 (.slice (some ⟨g,o,none⟩) mp yc) rfl hs0 ?_ ?_
 ·rintro w ⟨⟨r0,r1,r2,r3,r4,r5,r6,r7,r8,r9,r10⟩,a0c⟩;go_simp
 refine tk 2 (.int .i64 (m1:Int)) rfl hs0 ?_ ?_
 ·rintro w ⟨⟨r0,r1,r2,r3,r4,r5,r6,r7,r8,r9,r10⟩,a0c⟩;go_simp
 refine tk 3 (.slice (some ⟨g,o,none⟩) m1 yc) rfl hs0 ?_ ?_
 ·rintro w ⟨⟨r0,r1,r2,r3,r4,r5,r6,r7,r8,r9,r10⟩,a0c⟩;go_simp
 refine tk 4 (.pointer (some ⟨b,0,none⟩)) rfl hs0 ?_ ?_
 ·rintro w ⟨⟨r0,r1,r2,r3,r4,r5,r6,r7,r8,r9,r10⟩,a0c⟩;go_simp
 refine tk 5 (.slice (some ⟨g,o,none⟩) mp yc) rfl hs0 ?_ ?_
 ·rintro w ⟨⟨r0,r1,r2,r3,r4,r5,r6,r7,r8,r9,r10⟩,a0c⟩;go_simp
 refine tk 6 (.int .i64 (m1:Int)) rfl hs0 ?_ ?_
 ·rintro w ⟨⟨r0,r1,r2,r3,r4,r5,r6,r7,r8,r9,r10⟩,a0c⟩;go_simp
 refine tk 7 (.pointer (some ⟨g,o+m1,none⟩)) rfl hs0 ?_ ?_
 ·rintro w ⟨⟨r0,r1,r2,r3,r4,r5,r6,r7,r8,r9,r10⟩,a0c⟩;go_simp
 refine tk 8 (.int .i64 x) rfl hs0 ?_ ?_
 ·rintro w ⟨⟨r0,r1,r2,r3,r4,r5,r6,r7,r8,r9,r10⟩,a0c⟩;go_simp
 refine rd 9 rfl fun KK hKK=>?_
 go_simp
 refine (HCT.out _ (Below.refl _ _).drew).mono ?_
 rintro en D2 ⟨rfl,hw⟩
 obtain rfl:=hw
 go_simp
 refine hKK.out _ _ hs0 (fun _=>?_)
 clear hKK KK
 refine tk 10 (.bool (pb (x∈ps.take m1))) rfl hs0 ?_ ?_
 ·rintro w ⟨⟨r0,r1,r2,r3,r4,r5,r6,r7,r8,r9,r10⟩,a0c⟩;go_simp
 refine wpAnyH_done (by kernel_rfl) ?_ _
 try simp only [List.getElem_toArray,List.getElem_cons_succ,List.getElem_cons_zero,Act.put,List.setIfInBounds_toArray,List.set_cons_zero,List.set_cons_succ]
 clear hs0
 go_wp2_with fail
 go_ret
 exact ⟨rfl,HBW.out _ (Below.refl _ _).drew⟩
def GAT (W:World) (S:Nat) (q:Option Addr) (m c:Nat) (G:List WY):Prop:=∃ V:List (WY×WV),V.map Prod.fst=G∧G.length=m∧W.ownsRow S 114 11 (.slice q m c) m (V.flatMap wyC)∧∀ x∈V,WL W x
def OTH (W:World) (gv:Value) (q:Option Addr) (m c:Nat) (X:List WY):Prop:=∃ (V:List (WY×WV)) (B:Nat),V.map Prod.fst=X∧X.length=m∧W.ownsRow B 114 11 (.slice q m c) m (V.flatMap wyC)∧(∀ x∈V,WL W x)∧∀ b,(Value.slice q m c).ownBlock=some b→gv.ownBlock≠some b
theorem GAT.below {W U:World} {S m c:Nat} {q:Option Addr} {G:List WY} (h:GAT W S q m c G) (hb:Below W.heap.size W U):GAT U S q m c G:=by
 obtain ⟨V,h1,h2,h3,h4⟩:=h
 exact ⟨V,h1,h2,own_belZ h3 hb,fun x hx=>(h4 x hx).below hb⟩
theorem OTH.below {W U:World} {gv:Value} {m c:Nat} {q:Option Addr} {X:List WY} (h:OTH W gv q m c X) (hb:Below W.heap.size W U):OTH U gv q m c X:=by
 obtain ⟨V,B,h1,h2,h3,h4,h5⟩:=h
 exact ⟨V,B,h1,h2,own_belZ h3 hb,fun x hx=>(h4 x hx).below hb,h5⟩
theorem OTH.at {W:World} {gv:Value} {m c k:Nat} {q:Option Addr} {X:List WY} {x:WY} (h:OTH W gv q m c X) (hx:X[k]?=some x):∃ (g o:Nat) (v:WV),q=some ⟨g,o,none⟩∧WL W (x,v)∧∀ (i:Nat) (u:Value),(wyC (x,v))[i]?=some u→W.cell? ⟨g,o+k*11+i,none⟩=some u:=by
 obtain ⟨V,B,h1,h2,h3,h4,h5⟩:=h
 obtain ⟨y,hy⟩:∃ y,V[k]?=some y:=by
  have:k < V.length:=by
   have:=(List.getElem?_eq_some_iff.1 hx).1
   rw [←h1,List.length_map] at this
   exact this
  exact ⟨_,List.getElem?_eq_getElem this⟩
 obtain ⟨y1,y2⟩:=y
 have e:y1=x:=by
  rw [←h1,List.getElem?_map,hy] at hx
  exact Option.some.inj hx
 subst e
 obtain ⟨g,o,e9,hc⟩:=own_rowL wyC_len h3 (by rw [←h2,←h1,List.length_map]) k _ hy
 exact ⟨g,o,y2,e9,h4 _ (List.mem_of_getElem? hy),hc⟩
theorem GAT.at {W:World} {S m c k:Nat} {q:Option Addr} {G:List WY} {x:WY} (h:GAT W S q m c G) (hx:G[k]?=some x):∃ (g o:Nat) (v:WV),q=some ⟨g,o,none⟩∧WL W (x,v)∧∀ (i:Nat) (u:Value),(wyC (x,v))[i]?=some u→W.cell? ⟨g,o+k*11+i,none⟩=some u:=by
 obtain ⟨V,h1,h2,h3,h4⟩:=h
 exact OTH.at (gv:=.nilFunc) ⟨V,S,h1,h2,h3,h4,fun b _ e=>by cases e⟩ hx
theorem GAT.push {W W7:World} {S m m9 c:Nat} {q:Option Addr} {G:List WY} {x:WY} {v:WV} {cs:Array Value} (h:GAT W S q m c G) (h9:(wyC (x,v)).toArray=cs) (hS:S≤W.heap.size) (hm:m+1=m9) (hO:m9*120≤140737488355328) (hx:WL W (x,v)) (hW7:W.alloc (.cells cs 114 (0,0))=W7) :
  ∃ q9 c9 W9,(Builtin.append_ #[132,132] 132 #[.slice q m c,.slice (some ⟨W.heap.size,0,none⟩) 1 1]).run Tryz.prog W7=.ok (.slice q9 m9 c9) W9∧GAT W9 S q9 m9 c9 (G++[x])∧Below S W W9∧(∀ q1 n1 c1 X,OTH W (.slice q m c) q1 n1 c1 X→OTH W9 (.slice q9 m9 c9) q1 n1 c1 X)∧∀ (b:Nat) (cs:Array Value) (T:TypeId) (fr:Nat×Nat),T≠114→W.heap[b]?=some (.cells cs T fr)→W9.heap[b]?=some (.cells cs T fr):=by
 obtain ⟨V,h1,h2,h3,h4⟩:=h
 obtain ⟨q9,c9,W9,hr,o9,b9,kp,kq⟩:=pushW (x:=(x,v)) h9 h3 hS hm hO
 rw [hW7] at hr
 have hty:∀ (b:Nat) (cs:Array Value) (T:TypeId) (fr:Nat×Nat),T≠114→W.heap[b]?=some (.cells cs T fr)→W9.heap[b]?=some (.cells cs T fr):=fun b cs T fr hT hb=>kp b _ hb (own_neT h3 hb (fun e=>hT e.symm))
 have hint:∀ (b:Nat) (cs:Array Value) (fr:Nat×Nat),W.heap[b]?=some (.cells cs 3 fr)→W9.heap[b]?=some (.cells cs 3 fr):=fun b cs fr hb=>hty b cs _ fr (by decide) hb
 refine ⟨q9,c9,W9,hr,⟨V++[(x,v)],by rw [List.map_append,h1];rfl,by rw [List.length_append,h2,List.length_singleton,hm],o9,fun y hy=>?_⟩,b9,fun q1 n1 c1 X ho=>?_,hty⟩
 ·rcases List.mem_append.1 hy with hy | hy
  ·exact (h4 y hy).kp hint
  ·obtain rfl:=List.mem_singleton.1 hy
   exact hx.kp hint
 ·obtain ⟨V1,B1,p1,p2,p3,p4,p5⟩:=ho
  refine ⟨V1,B1,p1,p2,?_,fun y hy=>(p4 y hy).kp hint,fun b hb e=>?_⟩
  ·rcases p3 with ⟨l1,⟨l2,l3⟩ | ⟨g,cap,cur,l2,l3,l4,l5⟩⟩
   ·exact ⟨l1,.inl ⟨l2,l3⟩⟩
   ·exact ⟨l1,.inr ⟨g,cap,cur,l2,l3,kp g _ l4 (p5 g (by rw [l2];rfl)),l5⟩⟩
  ·rcases kq b e with h | h
   ·exact p5 b hb h
   ·have:=(World.ownsRow.lt p3 b hb).2
    omega
theorem src_unf {n:NN} {hops:Int} {goal:WY→Bool} {f:Nat} {C G:List WY} {a:Nat}:src n hops goal (f+1) C G a=(match prc n goal (C.flatMap (stgM n)) G with
  | .go G1=>match G1[a]? with
   | some g=>src n hops goal f (onwM n hops g) G1 (a+1)
   | none=>.go G1
  | .hit w=>.hit w
  | .full=>.full):=by
 rw [src]
 cases prc n goal (C.flatMap (stgM n)) G with
 | go G1=>cases h:G1[a]? <;> simp [h]
 | hit w=>rfl
 | full=>rfl
theorem prc_cons {n:NN} {goal:WY→Bool} {w:WY} {r G:List WY}:prc n goal (w :: r) G=if goal w=true then .hit w else if (portAt n w.last.1).inn=false then prc n goal r G else if G.length=4096 then .full else prc n goal r (G++[w]):=by
 rw [prc]
end Go.Proofs.YtbplhianpelmfaaGreatDoor.Nt

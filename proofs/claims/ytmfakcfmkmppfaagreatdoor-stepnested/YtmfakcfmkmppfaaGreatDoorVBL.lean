import Derived.Test.YtmfakcfmkmppfaaGreatDoorVBK
import Derived.Sort.QuietThIn
import Derived.Sort.CutIn
namespace Go.Proofs.YtmfakcfmkmppfaaGreatDoor.Nt
open Go.RowKit Go.Shelf
set_option maxRecDepth 100000 in
set_option maxHeartbeats 16000000 in
theorem zhs (L:List Int) (p1 p2:Option Addr) (n c1 c2:Nat) (w:World) (hn:L.length=n) (h1:LI w p1 L) (h2:LI w p2 L) (hO:n<=140737488351232) :
  Calls Tryz.prog 32 #[.slice p1 n c1,.slice p2 n c2] w fun e w'=>e=.returned (.bool true)/\Below w.heap.size w w':=by
 have HN:Hid (L.length=n/\(∀ U,Below w.heap.size w U->LI U p1 L)/\∀ U,Below w.heap.size w U->LI U p2 L):=⟨hn,fun U hU=>h1.below hU,fun U hU=>h2.below hU⟩;clear hn h1 h2
 go_enter Tryz.func32,Tryz.ntmps32
 go_wp2_with fail
 go_loopw [5] (fun vk wr=>∃ k:Nat,vk=.int .i64 (k:Int)/\k<=n/\Hid (Below w.heap.size w wr)) (fun vk _=>n - (intOf vk).toNat)
 case atStart=>exact ⟨0,rfl,Nat.zero_le _,Below.refl _ _⟩
 case round=>
  obtain ⟨k,rfl,hk,HB⟩:=hrel
  by_cases hlt:k < n
  ·obtain ⟨x,hx⟩:∃ x,L[k]?=some x:=⟨_,List.getElem?_eq_getElem (by have:=HN.out.1;omega)⟩
   obtain ⟨g1,o1,rfl,a0⟩:=HN.out.2.1 wr HB.out k x hx;obtain ⟨g2,o2,rfl,b0⟩:=HN.out.2.2 wr HB.out k x hx;have j0:(0:Int)<=(k:Int):=by omega
   have j1:(k:Int) < (n:Int):=by omega
   clear hx
   go_wp2_with fail
   go_quiet (fail)
   go_wp2_with fail
   go_roundw
   case rel=>exact ⟨k+1,by go_num,by omega,za1 nq HB.out⟩
   case measure=>simp [intOf];omega
  ·obtain rfl:k=n:=by omega
   have j1:¬(k:Int) < (k:Int):=by omega
   go_wp2_with fail
   go_ret
   exact ⟨rfl,HB.out⟩
set_option maxRecDepth 100000 in
set_option maxHeartbeats 16000000 in
theorem zgr (ps es:List Int) (hd:List UInt8) (p1 p2 e1 e2:Option Addr) (np ne c1 c2 d1 d2:Nat) (w:World) (hn:ps.length=np) (hm:es.length=ne) (h1:LI w p1 ps) (h2:LI w p2 ps) (h3:LI w e1 es) (h4:LI w e2 es) (hO:np<=140737488351232/\ne<=140737488351232) :
  Calls Tryz.prog 10 #[.agg #[.slice p1 np c1,.slice e1 ne d1,.string ⟨hd.toArray⟩],.agg #[.slice p2 np c2,.slice e2 ne d2,.string ⟨hd.toArray⟩]] w fun e w'=>e=.returned (.bool true)/\Below w.heap.size w w':=by
 obtain ⟨B,hB⟩:=ex w.heap.size;obtain ⟨b2,hb2⟩:=ex (w.heap.size+1);obtain ⟨W1,hW1⟩:=ex ((w.alloc (.cells #[.slice p1 np c1,.slice e1 ne d1,.string ⟨hd.toArray⟩] 37)).alloc (.cells #[.slice p2 np c2,.slice e2 ne d2,.string ⟨hd.toArray⟩] 37));have hz2:(w.alloc (.cells #[.slice p1 np c1,.slice e1 ne d1,.string ⟨hd.toArray⟩] 37)).heap.size=w.heap.size+1:=Array.size_push _;have b1:Below w.heap.size w W1:=by rw [<-hW1];exact zah (zah (Below.refl _ _) _) _
 have k1:W1.heap[B]?=some (.cells #[.slice p1 np c1,.slice e1 ne d1,.string ⟨hd.toArray⟩] 37 (0,0)):=by rw [<-hW1,<-hB];exact zae (zah (Below.refl _ _) _) (zaa _ _)
 have k2:W1.heap[b2]?=some (.cells #[.slice p2 np c2,.slice e2 ne d2,.string ⟨hd.toArray⟩] 37 (0,0)):=by rw [<-hW1,<-hb2,<-hz2];exact zaa _ _
 have HC:Hid (∀ U,Below W1.heap.size W1 U->(U.cell? ⟨B,0,none⟩=some (.slice p1 np c1)/\U.cell? ⟨B,1,none⟩=some (.slice e1 ne d1)/\U.cell? ⟨B,2,none⟩=some (.string ⟨hd.toArray⟩))/\(U.cell? ⟨b2,0,none⟩=some (.slice p2 np c2)/\U.cell? ⟨b2,1,none⟩=some (.slice e2 ne d2)/\U.cell? ⟨b2,2,none⟩=some (.string ⟨hd.toArray⟩))):=fun U hU=>by
  have z1:=(zaf (zae hU k1)).1;have z2:=(zaf (zae hU k2)).1;exact ⟨⟨by rw [z1];rfl,by rw [z1];rfl,by rw [z1];rfl⟩,⟨by rw [z2];rfl,by rw [z2];rfl,by rw [z2];rfl⟩⟩
 have HI1:=zab (zhs ps p1 p2 np c1 c2 W1 hn (h1.below b1) (h2.below b1) hO.1);have HI2:Hid (∀ U,Below W1.heap.size W1 U->Calls Tryz.prog 32 #[.slice e1 ne d1,.slice e2 ne d2] U fun e w'=>e=.returned (.bool true)/\Below U.heap.size U w'):=fun U hU=>zhs es e1 e2 ne d1 d2 U hm (h3.below (zac b1 hU)) (h4.below (zac b1 hU)) hO.2;have HF:Hid (∀ U,Below W1.heap.size W1 U->Below w.heap.size w U):=fun U hU=>zac b1 hU;have HB:=zab hB;have HB2:=zab hb2;have HW1:=zab hW1;clear hn hm h1 h2 h3 h4 hO hB hb2 hW1 hz2 b1 k1 k2;obtain ⟨⟨q0,q1,q2⟩,⟨r0,r1,r2⟩⟩:=HC.out W1 (Below.refl _ _)
 go_enter Tryz.func10,Tryz.ntmps10
 go_upto_region 1 with fail
 rw [HW1.out,HB2.out,HB.out]
 go_wp2_with fail
 refine (HI1.out).mono ?_;rintro e W2 ⟨rfl,b2⟩;have HB3:=zab b2;clear b2 q0 q1 q2 r0 r1 r2;obtain ⟨⟨q0,q1,q2⟩,⟨r0,r1,r2⟩⟩:=HC.out W2 HB3.out
 go_wp2_with fail
 refine (HI2.out W2 HB3.out).mono ?_;rintro e W3 ⟨rfl,b3⟩;have HB4:=zab (zac HB3.out b3);clear b3 q0 q1 q2 r0 r1 r2;obtain ⟨⟨q0,q1,q2⟩,⟨r0,r1,r2⟩⟩:=HC.out W3 HB4.out;have HFF:=zab (HF.out W3 HB4.out)
 go_wp2_with fail
 go_ret
 exact ⟨rfl,HFF.out⟩
def zqq (ops:Array Oper):Bool:=ops.toList.all (fun o=>match o.op with | .defer _=>false | _=>true)
theorem zjv {ops:Array Oper} (h:zqq ops=true) {j:Nat} {o:Oper} (ho:ops[j]?=some o):∀ c,o.op≠.defer c:=fun c hc=>by
 have h1:=List.all_eq_true.1 h o (by rw [<-Array.getElem?_toList] at ho;exact List.mem_of_getElem? ho);rw [hc] at h1;cases h1
theorem zfs {F:Fence} {n:Nat} {P:Program} {md:Region.Mode} {ops:Array Oper} {Q:Exit->Act->World->Prop} {l:Nat} (hd:zqq ops=true) :
  ∀ {fuel:Nat} {listed:Array Bool} {a:Act} {w:World},wpAnyIn F n P md ops Q fuel listed a w->wpAnyIn (F.inRound l) n P md ops Q fuel listed a w:=by
 intro fuel
 induction fuel with
 | zero=>intro listed a w h;exact h
 | succ fuel ih=>
  intro listed a w h;refine ⟨h.1,fun i hi=>?_⟩;have h2:wpOpIn F n P ops Q i (wpAnyIn (F.inRound l) n P md ops Q fuel (listed.setIfInBounds i true)) a w:=wpOpIn_mono (fun a' w' h3=>ih h3) (h.2 i hi);unfold wpOpIn at h2 ⊢;cases ho:ops[i]? with
  | none=>rw [ho] at h2;exact h2
  | some o=>
   rw [ho] at h2;simp only at h2 ⊢
   split
   ·rename_i hw
    rw [if_pos hw] at h2;unfold Oper.wpIn at h2 ⊢;refine ⟨h2.1,?_⟩;have h3:=h2.2;rw [Oper.semAt_plain F _ _ (zjv hd ho)] at h3;rw [Oper.semAt_plain (F.inRound l) _ _ (zjv hd ho)];exact h3
   ·rename_i hw
    rw [if_neg hw] at h2;exact h2
theorem zdb {P:Program} {ops:Array Oper} {C:World->Prop} {Q:Act->Prop} {n:Nat}:∀ (l:List Oper) (a:Act),wpQuiet P ops C Q l a->wpQuietIn Fence.wide n P ops C Q l a
 | [],_,h=>h
 | o :: r,a,h=>by
  refine ⟨fun _ _ _ _=>trivial,?_⟩;unfold wpQuiet at h
  split
  ·rename_i hw
   rw [if_pos hw] at h;obtain ⟨v,h1,h2⟩:=h;refine ⟨v,fun w hC=>?_,zdb r _ h2⟩;have h3:=h1 w hC;unfold Oper.quietAtIn;unfold Oper.quietAt at h3;generalize (execOp a.eval o).run P w=x at h3 ⊢;cases x with
   | ok y w'=>
    cases y <;> first | exact h3 | exact ⟨h3.1,(fun h=>by cases h),callsIn_wide.2 h3.2⟩
   | halt y w'=>exact h3
  ·rename_i hw
   rw [if_neg hw] at h;exact zdb r _ h
theorem zgl {P:Program} {id n l0:Nat} {Q:Exit->Act->World->Prop} {a:Act} {w:World} {l:List Oper} {C:World->Prop} (hm:P.follows .mixedOrders=true) (hB:Region.lexB .any l.toArray=true) (hd:zqq l.toArray=true) (hC:C w.drew)
  (h:wpQuiet P l.toArray C (fun a'=>∀ w',C w'->Q .normal a' w') l a):(Code.region id l.toArray true).wpIn (Fence.wide.inRound l0) n P Q a w:=by
 simp only [Region.lexB,Bool.and_eq_true] at hB;refine wpIn_region_any hm (zfs hd (wpAnyIn_of_quiet (C:=C) (Q:=fun a'=>∀ w',C w'->Q .normal a' w') rfl (fun _ w' hw' h=>h w' hw') _ _ _ _ hC ?_));have:=wpAnyQIn_lex (F:=Fence.wide) (n:=n) (C:=C) (md:=.any) hB.1 l 0 (Array.replicate l.toArray.size false) a (by simp) (by simpa using hB.2) (zdb l a h)
 simpa using this
section
variable {F:Fence} {P:Program}
theorem zpy {n id:Nat} {g:Operand} {ps:Array Tmp} {assign body:Code} {Q:Exit->Act->World->Prop} {a:Act} {w:World} {l0:Nat} {r0:Loop}
  (hro:F.round=some l0) (hr0:w.heap[l0]?=some (.loop r0)) (h1:1<=n) {gf:Nat} {lb:Array Value} (hg:a.eval g=.func (.func gf) #[] lb) (hFg:F.fn gf) (eg:∀ args w,(callFunc gf args).run P w=.ok (.enter gf args) w)
  (hx:∀ a w,Q .normal a w->(Code.exit id).wpIn F n P Q a w)
  (h:∀ fn,F.fn fn->CallsIn F (n - 1) P gf (#[.func (.yield w.heap.size) #[] #[]]++lb) (w.alloc (.loop (zb7 fn a.tmps ps assign body r0.defers)))
   fun e W=>(∃ v,e=.returned v)/\∃ r,W.heap[w.heap.size]?=some (.loop r)/\r.state≠.busy/\(r.pending=none∨r.pending=some (.exit id))/\Q .normal a (W.putObj w.heap.size (.loop { r with state:=.exhausted }))) :
  (Code.rangeFunc g ps assign body).wpIn F n P Q a w:=by
 refine range_in hro hr0 h1 hg hFg eg (fun fn hfn=>(h fn hfn).mono ?_);rintro e W ⟨hv,r,hr,hb,hp | hp,hq⟩
 ·exact ⟨hv,r,hr,hb,.inl ⟨hp,hq⟩⟩
 ·exact ⟨hv,r,hr,hb,.inr ⟨_,hp,hx _ _ hq⟩⟩
end
structure NS (X1:World) (bk l D D1:Nat) (R:Loop) (k:Nat) (W:World):Prop where
 bx:W.heap[bk]?=some (.cells #[.int .i64 (k:Int)] 3 (0,0))
 lp:W.heap[l]?=some (.loop R)
 df:W.heap[D]?=some (.deferred (some []))
 d1:W.heap[D1]?=some (.deferred (some []))
 be:Below X1.heap.size X1 W
theorem NS.below {X1:World} {bk l D D1:Nat} {R:Loop} {k:Nat} {W W':World} (h:NS X1 bk l D D1 R k W) (hb:Below W.heap.size W W'):NS X1 bk l D D1 R k W':=
 ⟨zae hb h.bx,zae hb h.lp,zae hb h.df,zae hb h.d1,zac h.be hb⟩
theorem NS.loop {X1:World} {bk l D D1:Nat} {R:Loop} {k:Nat} {W:World} (h:NS X1 bk l D D1 R k W) (R':Loop) (hl:X1.heap.size<=l):NS X1 bk l D D1 R' k (W.putObj l (.loop R')):=
 ⟨zbc h.bx (fun e=>by have:=h.lp;rw [<-e,h.bx] at this;cases this),World.putObj_heap_same (zap h.lp),zbc h.df (fun e=>by have:=h.lp;rw [<-e,h.df] at this;cases this),zbc h.d1 (fun e=>by have:=h.lp;rw [<-e,h.d1] at this;cases this),h.be.grown (grownBy_putObj' W l _) h.be.size (fun x e=>by cases e;exact hl)⟩
theorem NS.set {X1:World} {bk l D D1:Nat} {R:Loop} {k:Nat} {W:World} (h:NS X1 bk l D D1 R k W) (hb:X1.heap.size<=bk) (k1:Nat):NS X1 bk l D D1 R k1 (W.setCell ⟨bk,0,none⟩ (.int .i64 (k1:Int))):=
 ⟨by rw [zag _ h.bx];rfl,(zby _ _ _ _ _ (fun e=>by have:=h.lp;rw [e,h.bx] at this;cases this)).trans h.lp,(zby _ _ _ _ _ (fun e=>by have:=h.df;rw [e,h.bx] at this;cases this)).trans h.df,(zby _ _ _ _ _ (fun e=>by have:=h.d1;rw [e,h.bx] at this;cases this)).trans h.d1,h.be.setCell (p:=⟨bk,0,none⟩) hb _⟩
def NJ (X1:World) (bk l D D1 id m:Nat) (W:World):Prop:=∃ r:Loop,r.state=.done/\r.pending=some (.exit id)/\NS X1 bk l D D1 r m W
def EX (bk l:Nat) (W W':World):Prop:=W.heap.size<=W'.heap.size/\∀ b,b < W.heap.size->b≠bk->b≠l->W'.heap[b]?=W.heap[b]?
theorem EX.trans {bk l:Nat} {W V U:World} (h:EX bk l W V) (g:EX bk l V U):EX bk l W U:=⟨Nat.le_trans h.1 g.1,fun b hb h1 h2=>(g.2 b (Nat.lt_of_lt_of_le hb h.1) h1 h2).trans (h.2 b hb h1 h2)⟩
theorem EX.below (bk l:Nat) {W U:World} (h:Below W.heap.size W U):EX bk l W U:=⟨h.size,fun b hb _ _=>by
 rw [Array.getElem?_eq_getElem hb];exact zae h (Array.getElem?_eq_getElem hb)⟩
theorem EX.put (bk l:Nat) (W:World) (o:Obj):EX bk l W (W.putObj l o):=⟨by simp,fun b _ _ h2=>World.putObj_heap_other h2⟩
theorem EX.set (bk l:Nat) (W:World) (v:Value):EX bk l W (W.setCell ⟨bk,0,none⟩ v):=⟨by simp,fun b _ h1 _=>zby _ _ _ _ _ h1⟩
theorem EX.kqx {bk l:Nat} {W W':World} {R:Loop} {c:Array Value} {fr:Nat×Nat} (h:EX bk l W W') (hl:W.heap[l]?=some (.loop R)) (hb:W.heap[bk]?=some (.cells c 3 fr)):KQX (fun b=>b=bk) KTY W W'/\W.heap.size<=W'.heap.size:=⟨fun b T cur fr' _ hz hc=>(h.2 b (zap hc) (fun e=>by
 subst e;rw [hb] at hc;simp only [Option.some.injEq,Obj.cells.injEq] at hc;exact hz hc.2.1.symm rfl) (fun e=>by rw [e,hl] at hc;cases hc)).trans hc,h.1⟩
structure SQV (A:List WY) (w:World) (gf:Nat) (lb:Array Value):Prop where
 nil:∀ W,(binOp .eql 33 (.func (.func gf) #[] lb) .nilFunc).run Tryz.prog W=.ok (.bool false) W
 en:∀ args W,(callFunc gf args).run Tryz.prog W=.ok (.enter gf args) W
 go:∀ (Z:Nat->Prop) (J:List WY->World->Prop) (Jx:World->Prop) (l m k:Nat) (X:World),Below w.heap.size w X->(∀ b,Z b->w.heap.size<=b)->(∀ b,X.heap.size<=b->¬Z b)->JW J Jx->YLW Z A J Jx l m->J [] X->CallsIn Fence.wide k Tryz.prog gf (#[.func (.yield l) #[] #[]]++lb) X fun e W=>(∃ v,e=.returned v)/\(J A W∨Jx W)
theorem SQV.below {A:List WY} {w W:World} {gf:Nat} {lb:Array Value} (h:SQV A w gf lb) (hb:Below w.heap.size w W):SQV A W gf lb:=⟨h.nil,h.en,fun Z J Jx l m k X hX hZ hZ2=>h.go Z J Jx l m k X (zac hb hX) (fun b hz=>Nat.le_trans hb.size (hZ b hz)) hZ2⟩
theorem il_aw {Z:Nat->Prop} {w:World} {p:Option Addr} {n c:Nat} {L:List Int} (h:IL w p n c L) (hZ:∀ b,Z b->w.heap.size<=b):∀ a,p=some a->¬Z a.block:=fun a e hz=>by
 obtain ⟨cs,fr,hb⟩:=h.2.2.2 a e;have:=zap hb;have:=hZ _ hz;omega
theorem ptq_sqv {n:NN} {np nt ng:Nat} {s:Int×List UInt8} {hops:Int} {w w':World} {e:Ending} (h:PTQ n np nt ng s hops w e w') (hnp:n.ports.length=np) (hnt:n.tabs.length=nt) (hng:n.grds.length=ng):∃ gf lb,e=.returned (.func (.func gf) #[] lb)/\SQV (zie n s hops) w' gf lb/\Below w.heap.size w w':=by
 by_cases hC:(NetP n/\StP n s)/\HOK hops
 ·obtain ⟨b7,b8,b5,p1,c1,p2,c2,p3,c3,wv,he,k7,k8,k5,nk,wl⟩:=h.1 hC
  exact ⟨_,_,he,⟨seq_nil2 _,enters_of Tryz.func30 (by kernel_rfl) rfl,fun Z J Jx l m k X hX hZ hZ2 hJ hY hj=>callsIn_wide.2 (seq2_any n np nt ng s hops b7 b8 b5 p1 p2 p3 c1 c2 c3 wv X hC hJ hY hnp hnt hng hj (zae hX k7) (zae hX k8) (zae hX k5) ((nk.nkx hZ).kx (KQX.below hX)) (wl.below hX) ⟨il_aw wl.1 hZ,il_aw wl.2.1 hZ⟩ hZ2)⟩,h.2.2⟩
 ·refine ⟨_,_,h.2.1 hC,⟨seq_nil1 _,enters_of Tryz.func26 (by kernel_rfl) rfl,fun Z J Jx l m k X hX hZ hZ2 hJ hY hj=>?_⟩,h.2.2⟩
  refine (callsIn_wide.2 (seq1_any l X)).mono ?_;rintro e W ⟨hv,rfl⟩;exact ⟨hv,.inl (by rw [pth_no hC];exact hj)⟩
theorem row_at {A o:List WY} {x:WY} {K:Nat} {V:List (WY×PV)} (h:(o++[x]) <+: A) (hk:o.length < K) (hV:V.map Prod.fst=A.take K):∃ v,V[o.length]?=some (x,v):=by
 obtain ⟨t,rfl⟩:=h;have h1:(V.map Prod.fst)[o.length]?=some x:=by
  rw [hV,List.getElem?_take_of_lt hk];simp
 rw [List.getElem?_map] at h1;cases hx:V[o.length]? with
 | none=>rw [hx] at h1;cases h1
 | some y=>
  obtain ⟨y1,y2⟩:=y;rw [hx] at h1;obtain rfl:y1=x:=by simpa using h1
  exact ⟨y2,rfl⟩
theorem zk2 {A o:List WY} {x:WY} (h:(o++[x]) <+: A):o.length+1<=A.length:=by
 have:=h.length_le
 simpa using this
structure PEQ (A:List WY) (K:Nat) (q:Option Addr) (c mo:Nat) (w:World):Prop where
 at':∀ (o:List WY) (x:WY),(o++[x]) <+: A->o.length < K->o.length < mo/\∃ g ofs p1 c1 e1 d1,q=some ⟨g,ofs,none⟩/\∀ W,Below w.heap.size w W->(W.cell? ⟨g,ofs+o.length*3,none⟩=some (.slice p1 x.ps.length c1)/\W.cell? ⟨g,ofs+o.length*3+1,none⟩=some (.slice e1 x.es.length d1)/\W.cell? ⟨g,ofs+o.length*3+2,none⟩=some (.string ⟨x.hd.toArray⟩))/\LI W p1 x.ps/\LI W e1 x.es
 sz:mo=(A.take K).length
theorem peq_of {A:List WY} {K:Nat} {q:Option Addr} {m c:Nat} {V:List (WY×PV)} {w:World} (hm:V.length=m) (hV:V.map Prod.fst=A.take K) (hr:RowL 3 paC w q V) (hp:∀ y∈V,PL w y):PEQ A K q c m w:=⟨fun o x hx hk=>by
 obtain ⟨⟨p1,c1,e1,d1⟩,hv⟩:=row_at hx hk hV;obtain ⟨g,ofs,e,hc⟩:=hr _ _ hv;have hl:=hp _ (List.mem_of_getElem? hv);refine ⟨by rw [<-hm];exact (List.getElem?_eq_some_iff.1 hv).1,g,ofs,p1,c1,e1,d1,e,fun W hW=>⟨⟨zao hW (hc 0 _ rfl),zao hW (hc 1 _ rfl),zao hW (hc 2 _ rfl)⟩,hl.1.2.1.below hW,hl.2.1.2.1.below hW⟩⟩,by rw [<-hm,<-hV,List.length_map]⟩
theorem PEQ.below {A:List WY} {K:Nat} {q:Option Addr} {c mo:Nat} {w W:World} (h:PEQ A K q c mo w) (hb:Below w.heap.size w W):PEQ A K q c mo W:=⟨fun o x hx hk=>by
 obtain ⟨h1,g,ofs,p1,c1,e1,d1,e,h2⟩:=h.at' o x hx hk;exact ⟨h1,g,ofs,p1,c1,e1,d1,e,fun U hU=>h2 U (zac hb hU)⟩,h.sz⟩
structure NI (K M mo mi:Nat) (qo qi:Option Addr) (co ci gf:Nat) (lb:Array Value) (bK bM br bo bi bF:Nat) (W:World):Prop where
 k:W.heap[bK]?=some (.cells #[.int .i64 (K:Int)] 3 (0,0))
 m:W.heap[bM]?=some (.cells #[.int .i64 (M:Int)] 3 (0,0))
 r:W.heap[br]?=some (.cells #[.bool false] 4 (0,0))
 o:W.heap[bo]?=some (.cells #[.slice qo mo co] 30 (0,0))
 i:W.heap[bi]?=some (.cells #[.slice qi mi ci] 30 (0,0))
 f:W.heap[bF]?=some (.cells #[.func (.func gf) #[] lb] 33 (0,0))
theorem NI.below {K M mo mi:Nat} {qo qi:Option Addr} {co ci gf:Nat} {lb:Array Value} {bK bM br bo bi bF:Nat} {W U:World} (h:NI K M mo mi qo qi co ci gf lb bK bM br bo bi bF W) (hb:Below W.heap.size W U):NI K M mo mi qo qi co ci gf lb bK bM br bo bi bF U:=⟨zae hb h.k,zae hb h.m,zae hb h.r,zae hb h.o,zae hb h.i,zae hb h.f⟩
theorem zpu {fn:Func} {p:Tmp} {m:Nat×Nat} (tmps:Array Value) (W:World) (b:Nat) (v:Bool) (hr:fn.results=#[.cell p 4]) (hp:tmps.getD p undef=.pointer (some ⟨b,0,none⟩)) (h:W.heap[b]?=some (.cells #[.bool v] 4 m)) :
  (results fn tmps).run Tryz.prog W=.ok (.bool v) W:=by
 have hc:∀ j,W.cell? ⟨b,j,none⟩=(#[.bool v]:Array Value)[j]?:=by
  intro j;unfold World.cell?;rw [h];simp
 have hp':tmps[p]?.getD undef=.pointer (some ⟨b,0,none⟩):=by simpa using hp
 simp [results,hr,hp',go_sem,hc]
attribute [local go_sem] Oper.semAt_some
theorem num_any (R:Int) (w:World):Calls Tryz.prog 18 #[.int .i64 R] w fun e w'=>e=.returned (.int .i64 R)/\w'=w:=by
 go_enter Tryz.func18,Tryz.ntmps18
 go_wp2_with fail
 go_ret
 exact ⟨rfl,rfl⟩
def nnT:NN:=⟨1,[⟨[82,46,97],0,true,-1⟩,⟨[82,46,98],0,false,0⟩],[[⟨[101],[0],[[120]],[48],[1]⟩]],[[],[]]⟩
theorem full_ra:zcw [82,46,97]=true:=by decide +kernel
theorem full_rb:zcw [82,46,98]=true:=by decide +kernel
theorem netP_T:NetP nnT:=by
 refine ⟨⟨by decide,by decide,by decide,by decide,rfl⟩,by decide,by decide,⟨fun p hp=>?_,by decide⟩,fun g hg=>?_,fun k t ht=>?_⟩
 ·have hp:p=⟨[82,46,97],0,true,-1⟩∨p=⟨[82,46,98],0,false,0⟩:=by simpa [nnT] using hp
  rcases hp with rfl | rfl
  ·exact ⟨full_ra,by decide,by decide,.inl rfl⟩
  ·exact ⟨full_rb,by decide,by decide,.inr ⟨rfl,by decide,by decide,rfl⟩⟩
 ·have hg:g=[]:=by simpa [nnT] using hg
  subst hg;exact ⟨fun l hl=>by simp at hl,by decide⟩
 ·have hk:k < 1:=(List.getElem?_eq_some_iff.1 ht).1
  obtain rfl:k=0:=by omega
  have ht:t=[⟨[101],[0],[[120]],[48],[1]⟩]:=(Option.some.inj ht).symm;subst ht;refine ⟨fun e he=>?_,by decide⟩;have he:e=⟨[101],[0],[[120]],[48],[1]⟩:=by simpa using he
  subst he;refine ⟨by decide,⟨fun q hq=>?_,by decide⟩,⟨by decide,fun c hc=>?_⟩,⟨rfl,rfl⟩,⟨by decide,fun q hq=>?_,by decide⟩⟩
  ·have hq:q=0:=by simpa using hq
   subst hq;exact ⟨by decide,by decide,rfl,rfl⟩
  ·have hc:c=[120]:=by simpa using hc
   subst hc;exact ⟨rfl,rfl⟩
  ·have hq:q=1:=by simpa using hq
   subst hq;exact ⟨by decide,by decide,rfl,rfl⟩
theorem okT:okN nnT:=by
 refine ⟨by decide,fun p hp=>?_,by decide,fun t ht=>?_,by decide,fun t ht=>?_⟩
 ·have hp:p=⟨[82,46,97],0,true,-1⟩∨p=⟨[82,46,98],0,false,0⟩:=by simpa [nnT] using hp
  rcases hp with rfl | rfl
  ·exact (by decide:(3:Nat)<=140737488351232)
  ·exact (by decide:(3:Nat)<=140737488351232)
 ·have ht:t=[⟨[101],[0],[[120]],[48],[1]⟩]:=by simpa [nnT] using ht
  subst ht;refine ⟨by decide,fun e he=>?_⟩;have he:e=⟨[101],[0],[[120]],[48],[1]⟩:=by simpa using he
  subst he;refine ⟨(by decide:(1:Nat)<=140737488351232),(by decide:(8:Nat)<=140737488351232),⟨by decide,fun x hx=>?_⟩,(by decide:(1:Nat)<=140737488351232),(by decide:(8:Nat)<=140737488351232)⟩;have hx:x=[120]:=by simpa using hx
  subst hx;exact (by decide:(1:Nat)<=140737488351232)
 ·have ht:t=[]:=by simpa [nnT] using ht
  subst ht;exact ⟨by decide,fun l hl=>by simp at hl⟩
theorem stT:StP nnT (0,[49]):=⟨by decide,by decide,rfl,rfl⟩
theorem nxT:zdt nnT (0,[49])=(0,[(1,[48]),(0,[48])]):=by decide +kernel
theorem chkT:zf6 nnT (0,[49])=0:=ziy netP_T stT
theorem lnT {w:World} {a1 a2 a3 a4 a5 a6 a7:Nat} (h1:w.heap[a1]?=some (.cells #[.string ⟨#[82,46,97]⟩,.int .i64 0,.bool true,.int .i64 (-1),.string ⟨#[82,46,98]⟩,.int .i64 0,.bool false,.int .i64 0] 84 (0,0))) (h2:w.heap[a2]?=some (.cells #[.int .i64 0] 3 (0,0))) (h3:w.heap[a3]?=some (.cells #[.string ⟨#[120]⟩] 9 (0,0))) (h4:w.heap[a4]?=some (.cells #[.int .i64 1] 3 (0,0))) (h5:w.heap[a5]?=some (.cells #[.string ⟨#[101]⟩,.slice (some ⟨a2,0,none⟩) 1 1,.slice (some ⟨a3,0,none⟩) 1 1,.string ⟨#[48]⟩,.slice (some ⟨a4,0,none⟩) 1 1] 89 (0,0))) (h6:w.heap[a6]?=some (.cells #[.slice (some ⟨a5,0,none⟩) 1 1] 85 (0,0))) (h7:w.heap[a7]?=some (.cells #[.slice none 0 0,.slice none 0 0] 90 (0,0))) :
  LN w nnT ⟨some ⟨a1,0,none⟩,2,some ⟨a6,0,none⟩,1,some ⟨a7,0,none⟩,2⟩:=by
 have c1:=(zaf h1).1;have c2:=(zaf h2).1;have c3:=(zaf h3).1;have c4:=(zaf h4).1;have c5:=(zaf h5).1;have c6:=(zaf h6).1;have c7:=(zaf h7).1;have li:∀ (a:Nat) (x:Int),(∀ j,w.cell? ⟨a,j,none⟩=(#[Value.int .i64 x])[j]?)->LI w (some ⟨a,0,none⟩) [x]:=fun a x hc k y hy=>by
  have hk:k < 1:=(List.getElem?_eq_some_iff.1 hy).1;obtain rfl:k=0:=by omega
  obtain rfl:x=y:=Option.some.inj hy;exact ⟨a,0,rfl,by rw [hc];rfl⟩
 refine ⟨fun k x hx=>?_,Nat.le_refl 2,fun k x hx=>?_,Nat.le_refl 1,fun k x hx=>?_,Nat.le_refl 2⟩
 ·have hk:k < 2:=(List.getElem?_eq_some_iff.1 hx).1
  rcases (show k=0∨k=1 by omega) with rfl | rfl
  ·have hx:x=⟨[82,46,97],0,true,-1⟩:=(Option.some.inj hx).symm
   subst hx;exact ⟨a1,0,rfl,by rw [c1];rfl,by rw [c1];rfl,by rw [c1];rfl,by rw [c1];rfl⟩
  ·have hx:x=⟨[82,46,98],0,false,0⟩:=(Option.some.inj hx).symm
   subst hx;exact ⟨a1,0,rfl,by rw [c1];rfl,by rw [c1];rfl,by rw [c1];rfl,by rw [c1];rfl⟩
 ·have hk:k < 1:=(List.getElem?_eq_some_iff.1 hx).1
  obtain rfl:k=0:=by omega
  have hx:x=[⟨[101],[0],[[120]],[48],[1]⟩]:=(Option.some.inj hx).symm;subst hx;refine ⟨a6,0,some ⟨a5,0,none⟩,1,rfl,by rw [c6];rfl,fun k x hx=>?_,Nat.le_refl 1⟩;have hk:k < 1:=(List.getElem?_eq_some_iff.1 hx).1;obtain rfl:k=0:=by omega
  have hx:x=⟨[101],[0],[[120]],[48],[1]⟩:=(Option.some.inj hx).symm;subst hx;refine ⟨a5,0,some ⟨a2,0,none⟩,1,some ⟨a3,0,none⟩,1,some ⟨a4,0,none⟩,1,rfl,by rw [c5];rfl,by rw [c5];rfl,by rw [c5];rfl,by rw [c5];rfl,by rw [c5];rfl,li a2 0 c2,Nat.le_refl 1,fun k y hy=>?_,Nat.le_refl 1,li a4 1 c4,Nat.le_refl 1⟩;have hk:k < 1:=(List.getElem?_eq_some_iff.1 hy).1;obtain rfl:k=0:=by omega
  obtain rfl:[120]=y:=Option.some.inj hy;exact ⟨a3,0,rfl,by rw [c3];rfl⟩
 ·have hk:k < 2:=(List.getElem?_eq_some_iff.1 hx).1
  rcases (show k=0∨k=1 by omega) with rfl | rfl
  ·have hx:x=[]:=(Option.some.inj hx).symm
   subst hx;exact ⟨a7,0,none,0,rfl,by rw [c7];rfl,fun k x hx=>by simp at hx,by decide⟩
  ·have hx:x=[]:=(Option.some.inj hx).symm
   subst hx;exact ⟨a7,0,none,0,rfl,by rw [c7];rfl,fun k x hx=>by simp at hx,by decide⟩
theorem res_netT (fn:Func) (tmps:Array Value) (W:World) (b:Nat) (v0 v1 v2 v3:Value) (hfn:fn.results=#[.cell 0 26]) (h:tmps[0]?.getD undef=.pointer (some ⟨b,0,none⟩)) (hb:W.heap[b]?=some (.cells #[v0,v1,v2,v3] 26 (0,0))) :
  (results fn tmps).run Tryz.prog W=.ok (.agg #[v0,v1,v2,v3]) W:=by
 have h1:=(zaf hb).1;have c0:=h1 0;have c1:=h1 1;have c2:=h1 2;have c3:=h1 3;simp at c0 c1 c2 c3;simp [results,hfn,h,c0,c1,c2,c3,go_sem]
set_option maxRecDepth 100000 in
set_option maxHeartbeats 16000000 in
theorem tiny_any (w:World):Calls Tryz.prog 34 #[] w fun e w'=>∃ a1 a2 a3,e=.returned (.agg #[.int .i64 1,.slice (some a1) 2 2,.slice (some a2) 1 1,.slice (some a3) 2 2])/\LN w' nnT ⟨some a1,2,some a2,1,some a3,2⟩/\Below w.heap.size w w':=by
 obtain ⟨B,hB⟩:=ex w.heap.size;obtain ⟨W0,hW0⟩:=ex (w.alloc (.cells #[.int .i64 0,.slice none 0 0,.slice none 0 0,.slice none 0 0] 26));have b0:Below w.heap.size w W0:=by rw [<-hW0];exact zah (Below.refl _ _) _
 have k0:W0.heap[B]?=some (.cells #[.int .i64 0,.slice none 0 0,.slice none 0 0,.slice none 0 0] 26 (0,0)):=by rw [<-hW0,<-hB];exact zaa _ _
 obtain ⟨y1,hy1⟩:=ex W0.heap.size;obtain ⟨y2,hy2⟩:=ex (W0.heap.size+1);obtain ⟨y3,hy3⟩:=ex (W0.heap.size+1+1);obtain ⟨y4,hy4⟩:=ex (W0.heap.size+1+1+1);obtain ⟨y5,hy5⟩:=ex (W0.heap.size+1+1+1+1);obtain ⟨y6,hy6⟩:=ex (W0.heap.size+1+1+1+1+1);obtain ⟨y7,hy7⟩:=ex (W0.heap.size+1+1+1+1+1+1);obtain ⟨X1,hX1⟩:=ex (W0.alloc (.cells #[.string ⟨#[82,46,97]⟩,.int .i64 0,.bool true,.int .i64 (-1),.string ⟨#[82,46,98]⟩,.int .i64 0,.bool false,.int .i64 0] 84));have c1:Below W0.heap.size W0 X1:=by rw [<-hX1];exact zah (Below.refl _ _) _
 have s1:W0.heap.size=y1:=by exact hy1
 have s12:W0.heap.size=W0.heap.size:=by rw [s1,<-hy1]
 have g1:X1.heap[y1]?=some (.cells #[.string ⟨#[82,46,97]⟩,.int .i64 0,.bool true,.int .i64 (-1),.string ⟨#[82,46,98]⟩,.int .i64 0,.bool false,.int .i64 0] 84 (0,0)):=by rw [<-hX1,<-s1];exact zaa _ _
 obtain ⟨X2,hX2⟩:=ex (X1.alloc (.cells #[.int .i64 0] 3));have c2:Below X1.heap.size X1 X2:=by rw [<-hX2];exact zah (Below.refl _ _) _
 have s2:X1.heap.size=y2:=by rw [<-hX1,<-hy2,<-s12];exact Array.size_push _
 have s22:X1.heap.size=W0.heap.size+1:=by rw [s2,<-hy2]
 have g2:X2.heap[y2]?=some (.cells #[.int .i64 0] 3 (0,0)):=by rw [<-hX2,<-s2];exact zaa _ _
 obtain ⟨X3,hX3⟩:=ex (X2.alloc (.cells #[.string ⟨#[120]⟩] 9));have c3:Below X2.heap.size X2 X3:=by rw [<-hX3];exact zah (Below.refl _ _) _
 have s3:X2.heap.size=y3:=by rw [<-hX2,<-hy3,<-s22];exact Array.size_push _
 have s32:X2.heap.size=W0.heap.size+1+1:=by rw [s3,<-hy3]
 have g3:X3.heap[y3]?=some (.cells #[.string ⟨#[120]⟩] 9 (0,0)):=by rw [<-hX3,<-s3];exact zaa _ _
 obtain ⟨X4,hX4⟩:=ex (X3.alloc (.cells #[.int .i64 1] 3));have c4:Below X3.heap.size X3 X4:=by rw [<-hX4];exact zah (Below.refl _ _) _
 have s4:X3.heap.size=y4:=by rw [<-hX3,<-hy4,<-s32];exact Array.size_push _
 have s42:X3.heap.size=W0.heap.size+1+1+1:=by rw [s4,<-hy4]
 have g4:X4.heap[y4]?=some (.cells #[.int .i64 1] 3 (0,0)):=by rw [<-hX4,<-s4];exact zaa _ _
 obtain ⟨X5,hX5⟩:=ex (X4.alloc (.cells #[.string ⟨#[101]⟩,.slice (some ⟨y2,0,none⟩) 1 1,.slice (some ⟨y3,0,none⟩) 1 1,.string ⟨#[48]⟩,.slice (some ⟨y4,0,none⟩) 1 1] 89));have c5:Below X4.heap.size X4 X5:=by rw [<-hX5];exact zah (Below.refl _ _) _
 have s5:X4.heap.size=y5:=by rw [<-hX4,<-hy5,<-s42];exact Array.size_push _
 have s52:X4.heap.size=W0.heap.size+1+1+1+1:=by rw [s5,<-hy5]
 have g5:X5.heap[y5]?=some (.cells #[.string ⟨#[101]⟩,.slice (some ⟨y2,0,none⟩) 1 1,.slice (some ⟨y3,0,none⟩) 1 1,.string ⟨#[48]⟩,.slice (some ⟨y4,0,none⟩) 1 1] 89 (0,0)):=by rw [<-hX5,<-s5];exact zaa _ _
 obtain ⟨X6,hX6⟩:=ex (X5.alloc (.cells #[.slice (some ⟨y5,0,none⟩) 1 1] 85));have c6:Below X5.heap.size X5 X6:=by rw [<-hX6];exact zah (Below.refl _ _) _
 have s6:X5.heap.size=y6:=by rw [<-hX5,<-hy6,<-s52];exact Array.size_push _
 have s62:X5.heap.size=W0.heap.size+1+1+1+1+1:=by rw [s6,<-hy6]
 have g6:X6.heap[y6]?=some (.cells #[.slice (some ⟨y5,0,none⟩) 1 1] 85 (0,0)):=by rw [<-hX6,<-s6];exact zaa _ _
 obtain ⟨X7,hX7⟩:=ex (X6.alloc (.cells #[.slice none 0 0,.slice none 0 0] 90));have c7:Below X6.heap.size X6 X7:=by rw [<-hX7];exact zah (Below.refl _ _) _
 have s7:X6.heap.size=y7:=by rw [<-hX6,<-hy7,<-s62];exact Array.size_push _
 have s72:X6.heap.size=W0.heap.size+1+1+1+1+1+1:=by rw [s7,<-hy7]
 have g7:X7.heap[y7]?=some (.cells #[.slice none 0 0,.slice none 0 0] 90 (0,0)):=by rw [<-hX7,<-s7];exact zaa _ _
 have bb:Below w.heap.size w X7:=zac (zac (zac (zac (zac (zac (zac b0 c1) c2) c3) c4) c5) c6) c7;have hle:w.heap.size<=B:=by omega
 have kB:X7.heap[B]?=some (.cells #[.int .i64 0,.slice none 0 0,.slice none 0 0,.slice none 0 0] 26 (0,0)):=zae c7 (zae c6 (zae c5 (zae c4 (zae c3 (zae c2 (zae c1 k0))))));have hyb:∀ y,y∈[y1,y2,y3,y4,y5,y6,y7]->B < y:=fun y hy=>by
  have h9:W0.heap.size=B+1:=by rw [<-hW0,<-hB];exact Array.size_push _
  simp only [List.mem_cons,List.not_mem_nil,or_false] at hy;omega
 obtain ⟨X9,hX9⟩:=ex (((((X7.setCell ⟨B,0,none⟩ (.int .i64 1)).setCell ⟨B,1,none⟩ (.slice (some ⟨y1,0,none⟩) 2 2)).setCell ⟨B,2,none⟩ (.slice (some ⟨y6,0,none⟩) 1 1)).setCell ⟨B,3,none⟩ (.slice (some ⟨y7,0,none⟩) 2 2)));have hRES:X9.heap[B]?=some (.cells #[.int .i64 1,.slice (some ⟨y1,0,none⟩) 2 2,.slice (some ⟨y6,0,none⟩) 1 1,.slice (some ⟨y7,0,none⟩) 2 2] 26 (0,0)):=by
  rw [<-hX9];exact ((zag _ (zag _ (zag _ (zag _ kB))))).trans (by simp)
 have hbw:Below w.heap.size w X9:=by
  rw [<-hX9];exact ((((bb.setCell hle _).setCell hle _).setCell hle _).setCell hle _)
 have hoth:∀ b,b≠B->X9.heap[b]?=X7.heap[b]?:=fun b hb=>by rw [<-hX9,zby _ _ _ _ _ hb,zby _ _ _ _ _ hb,zby _ _ _ _ _ hb,zby _ _ _ _ _ hb]
 have hln:LN X9 nnT ⟨some ⟨y1,0,none⟩,2,some ⟨y6,0,none⟩,1,some ⟨y7,0,none⟩,2⟩:=by
  have hq:∀ y,y∈[y1,y2,y3,y4,y5,y6,y7]->X9.heap[y]?=X7.heap[y]?:=fun y hy=>hoth y (by have:=hyb y hy;omega);exact lnT ((hq y1 (by simp)).trans (zae c7 (zae c6 (zae c5 (zae c4 (zae c3 (zae c2 g1))))))) ((hq y2 (by simp)).trans (zae c7 (zae c6 (zae c5 (zae c4 (zae c3 g2)))))) ((hq y3 (by simp)).trans (zae c7 (zae c6 (zae c5 (zae c4 g3))))) ((hq y4 (by simp)).trans (zae c7 (zae c6 (zae c5 g4)))) ((hq y5 (by simp)).trans (zae c7 (zae c6 g5))) ((hq y6 (by simp)).trans (zae c7 g6)) ((hq y7 (by simp)).trans g7)
 have hn:(((((((W0.alloc (.cells #[.string ⟨#[82,46,97]⟩,.int .i64 0,.bool true,.int .i64 (-1),.string ⟨#[82,46,98]⟩,.int .i64 0,.bool false,.int .i64 0] 84)).alloc (.cells #[.int .i64 0] 3)).alloc (.cells #[.string ⟨#[120]⟩] 9)).alloc (.cells #[.int .i64 1] 3)).alloc (.cells #[.string ⟨#[101]⟩,.slice (some ⟨W0.heap.size+1,0,none⟩) 1 1,.slice (some ⟨W0.heap.size+1+1,0,none⟩) 1 1,.string ⟨#[48]⟩,.slice (some ⟨W0.heap.size+1+1+1,0,none⟩) 1 1] 89)).alloc (.cells #[.slice (some ⟨W0.heap.size+1+1+1+1,0,none⟩) 1 1] 85)).alloc (.cells #[.slice none 0 0,.slice none 0 0] 90))=X7:=by rw [hX1,hX2,hX3,hX4,hy5,hy4,hy3,hy2,hX5,hX6,hX7]
 have hzz:=zaf kB;have z0:(((((((W0.alloc (.cells #[.string ⟨#[82,46,97]⟩,.int .i64 0,.bool true,.int .i64 (-1),.string ⟨#[82,46,98]⟩,.int .i64 0,.bool false,.int .i64 0] 84)).alloc (.cells #[.int .i64 0] 3)).alloc (.cells #[.string ⟨#[120]⟩] 9)).alloc (.cells #[.int .i64 1] 3)).alloc (.cells #[.string ⟨#[101]⟩,.slice (some ⟨W0.heap.size+1,0,none⟩) 1 1,.slice (some ⟨W0.heap.size+1+1,0,none⟩) 1 1,.string ⟨#[48]⟩,.slice (some ⟨W0.heap.size+1+1+1,0,none⟩) 1 1] 89)).alloc (.cells #[.slice (some ⟨W0.heap.size+1+1+1+1,0,none⟩) 1 1] 85)).alloc (.cells #[.slice none 0 0,.slice none 0 0] 90)).cell? ⟨B,0,none⟩=some (.int .i64 0):=by rw [hn,hzz.1];rfl
 have f0:(((((((W0.alloc (.cells #[.string ⟨#[82,46,97]⟩,.int .i64 0,.bool true,.int .i64 (-1),.string ⟨#[82,46,98]⟩,.int .i64 0,.bool false,.int .i64 0] 84)).alloc (.cells #[.int .i64 0] 3)).alloc (.cells #[.string ⟨#[120]⟩] 9)).alloc (.cells #[.int .i64 1] 3)).alloc (.cells #[.string ⟨#[101]⟩,.slice (some ⟨W0.heap.size+1,0,none⟩) 1 1,.slice (some ⟨W0.heap.size+1+1,0,none⟩) 1 1,.string ⟨#[48]⟩,.slice (some ⟨W0.heap.size+1+1+1,0,none⟩) 1 1] 89)).alloc (.cells #[.slice (some ⟨W0.heap.size+1+1+1+1,0,none⟩) 1 1] 85)).alloc (.cells #[.slice none 0 0,.slice none 0 0] 90)).frozen? ⟨B,0,none⟩=false:=by rw [hn];exact hzz.2 0
 have z1:(((((((W0.alloc (.cells #[.string ⟨#[82,46,97]⟩,.int .i64 0,.bool true,.int .i64 (-1),.string ⟨#[82,46,98]⟩,.int .i64 0,.bool false,.int .i64 0] 84)).alloc (.cells #[.int .i64 0] 3)).alloc (.cells #[.string ⟨#[120]⟩] 9)).alloc (.cells #[.int .i64 1] 3)).alloc (.cells #[.string ⟨#[101]⟩,.slice (some ⟨W0.heap.size+1,0,none⟩) 1 1,.slice (some ⟨W0.heap.size+1+1,0,none⟩) 1 1,.string ⟨#[48]⟩,.slice (some ⟨W0.heap.size+1+1+1,0,none⟩) 1 1] 89)).alloc (.cells #[.slice (some ⟨W0.heap.size+1+1+1+1,0,none⟩) 1 1] 85)).alloc (.cells #[.slice none 0 0,.slice none 0 0] 90)).cell? ⟨B,1,none⟩=some (.slice none 0 0):=by rw [hn,hzz.1];rfl
 have f1:(((((((W0.alloc (.cells #[.string ⟨#[82,46,97]⟩,.int .i64 0,.bool true,.int .i64 (-1),.string ⟨#[82,46,98]⟩,.int .i64 0,.bool false,.int .i64 0] 84)).alloc (.cells #[.int .i64 0] 3)).alloc (.cells #[.string ⟨#[120]⟩] 9)).alloc (.cells #[.int .i64 1] 3)).alloc (.cells #[.string ⟨#[101]⟩,.slice (some ⟨W0.heap.size+1,0,none⟩) 1 1,.slice (some ⟨W0.heap.size+1+1,0,none⟩) 1 1,.string ⟨#[48]⟩,.slice (some ⟨W0.heap.size+1+1+1,0,none⟩) 1 1] 89)).alloc (.cells #[.slice (some ⟨W0.heap.size+1+1+1+1,0,none⟩) 1 1] 85)).alloc (.cells #[.slice none 0 0,.slice none 0 0] 90)).frozen? ⟨B,1,none⟩=false:=by rw [hn];exact hzz.2 1
 have z2:(((((((W0.alloc (.cells #[.string ⟨#[82,46,97]⟩,.int .i64 0,.bool true,.int .i64 (-1),.string ⟨#[82,46,98]⟩,.int .i64 0,.bool false,.int .i64 0] 84)).alloc (.cells #[.int .i64 0] 3)).alloc (.cells #[.string ⟨#[120]⟩] 9)).alloc (.cells #[.int .i64 1] 3)).alloc (.cells #[.string ⟨#[101]⟩,.slice (some ⟨W0.heap.size+1,0,none⟩) 1 1,.slice (some ⟨W0.heap.size+1+1,0,none⟩) 1 1,.string ⟨#[48]⟩,.slice (some ⟨W0.heap.size+1+1+1,0,none⟩) 1 1] 89)).alloc (.cells #[.slice (some ⟨W0.heap.size+1+1+1+1,0,none⟩) 1 1] 85)).alloc (.cells #[.slice none 0 0,.slice none 0 0] 90)).cell? ⟨B,2,none⟩=some (.slice none 0 0):=by rw [hn,hzz.1];rfl
 have f2:(((((((W0.alloc (.cells #[.string ⟨#[82,46,97]⟩,.int .i64 0,.bool true,.int .i64 (-1),.string ⟨#[82,46,98]⟩,.int .i64 0,.bool false,.int .i64 0] 84)).alloc (.cells #[.int .i64 0] 3)).alloc (.cells #[.string ⟨#[120]⟩] 9)).alloc (.cells #[.int .i64 1] 3)).alloc (.cells #[.string ⟨#[101]⟩,.slice (some ⟨W0.heap.size+1,0,none⟩) 1 1,.slice (some ⟨W0.heap.size+1+1,0,none⟩) 1 1,.string ⟨#[48]⟩,.slice (some ⟨W0.heap.size+1+1+1,0,none⟩) 1 1] 89)).alloc (.cells #[.slice (some ⟨W0.heap.size+1+1+1+1,0,none⟩) 1 1] 85)).alloc (.cells #[.slice none 0 0,.slice none 0 0] 90)).frozen? ⟨B,2,none⟩=false:=by rw [hn];exact hzz.2 2
 have z3:(((((((W0.alloc (.cells #[.string ⟨#[82,46,97]⟩,.int .i64 0,.bool true,.int .i64 (-1),.string ⟨#[82,46,98]⟩,.int .i64 0,.bool false,.int .i64 0] 84)).alloc (.cells #[.int .i64 0] 3)).alloc (.cells #[.string ⟨#[120]⟩] 9)).alloc (.cells #[.int .i64 1] 3)).alloc (.cells #[.string ⟨#[101]⟩,.slice (some ⟨W0.heap.size+1,0,none⟩) 1 1,.slice (some ⟨W0.heap.size+1+1,0,none⟩) 1 1,.string ⟨#[48]⟩,.slice (some ⟨W0.heap.size+1+1+1,0,none⟩) 1 1] 89)).alloc (.cells #[.slice (some ⟨W0.heap.size+1+1+1+1,0,none⟩) 1 1] 85)).alloc (.cells #[.slice none 0 0,.slice none 0 0] 90)).cell? ⟨B,3,none⟩=some (.slice none 0 0):=by rw [hn,hzz.1];rfl
 have f3:(((((((W0.alloc (.cells #[.string ⟨#[82,46,97]⟩,.int .i64 0,.bool true,.int .i64 (-1),.string ⟨#[82,46,98]⟩,.int .i64 0,.bool false,.int .i64 0] 84)).alloc (.cells #[.int .i64 0] 3)).alloc (.cells #[.string ⟨#[120]⟩] 9)).alloc (.cells #[.int .i64 1] 3)).alloc (.cells #[.string ⟨#[101]⟩,.slice (some ⟨W0.heap.size+1,0,none⟩) 1 1,.slice (some ⟨W0.heap.size+1+1,0,none⟩) 1 1,.string ⟨#[48]⟩,.slice (some ⟨W0.heap.size+1+1+1,0,none⟩) 1 1] 89)).alloc (.cells #[.slice (some ⟨W0.heap.size+1+1+1+1,0,none⟩) 1 1] 85)).alloc (.cells #[.slice none 0 0,.slice none 0 0] 90)).frozen? ⟨B,3,none⟩=false:=by rw [hn];exact hzz.2 3
 have HN9:Hid ((((((((((((W0.alloc (.cells #[.string ⟨#[82,46,97]⟩,.int .i64 0,.bool true,.int .i64 (-1),.string ⟨#[82,46,98]⟩,.int .i64 0,.bool false,.int .i64 0] 84)).alloc (.cells #[.int .i64 0] 3)).alloc (.cells #[.string ⟨#[120]⟩] 9)).alloc (.cells #[.int .i64 1] 3)).alloc (.cells #[.string ⟨#[101]⟩,.slice (some ⟨W0.heap.size+1,0,none⟩) 1 1,.slice (some ⟨W0.heap.size+1+1,0,none⟩) 1 1,.string ⟨#[48]⟩,.slice (some ⟨W0.heap.size+1+1+1,0,none⟩) 1 1] 89)).alloc (.cells #[.slice (some ⟨W0.heap.size+1+1+1+1,0,none⟩) 1 1] 85)).alloc (.cells #[.slice none 0 0,.slice none 0 0] 90)).setCell ⟨B,0,none⟩ (.int .i64 1)).setCell ⟨B,1,none⟩ (.slice (some ⟨W0.heap.size,0,none⟩) 2 2)).setCell ⟨B,2,none⟩ (.slice (some ⟨W0.heap.size+1+1+1+1+1,0,none⟩) 1 1)).setCell ⟨B,3,none⟩ (.slice (some ⟨W0.heap.size+1+1+1+1+1+1,0,none⟩) 2 2))=X9):=by
  show _=_;rw [hn,hy7,hy6,hy1];exact hX9
 have HRES:=zab hRES;have HFIN:Hid (LN X9 nnT ⟨some ⟨y1,0,none⟩,2,some ⟨y6,0,none⟩,1,some ⟨y7,0,none⟩,2⟩/\Below w.heap.size w X9):=⟨hln,hbw⟩;have HB:=zab hB;have HW0:=zab hW0;clear hB hW0 b0 k0 hy1 hy2 hy3 hy4 hy5 hy6 hy7 hX1 hX2 hX3 hX4 hX5 hX6 hX7 c1 c2 c3 c4 c5 c6 c7 s1 s2 s3 s4 s5 s6 s7 s12 s22 s32 s42 s52 s62 s72 g1 g2 g3 g4 g5 g6 g7 bb hle kB hyb hX9 hRES hbw hoth hln hn hzz
 go_enter Tryz.func34,Tryz.ntmps34
 go_upto_region 1 with fail
 rw [HW0.out,HB.out]
 go_wp2_with fail
 rw [HN9.out];refine bodyPost_ret (res_netT _ _ _ B _ _ _ _ rfl rfl HRES.out) rfl ?_;exact ⟨_,_,_,rfl,HFIN.out.1,HFIN.out.2⟩
set_option maxRecDepth 100000 in
set_option maxHeartbeats 16000000 in
theorem zqw (w:World) (hT:TAB w):Calls Tryz.prog 11 #[] w fun e w'=>e=.returned (.bool true)/\Below w.heap.size w w':=by
 have HT:Hid (Calls Tryz.prog 34 #[] w fun e w'=>∃ a1 a2 a3,e=.returned (.agg #[.int .i64 1,.slice (some a1) 2 2,.slice (some a2) 1 1,.slice (some a3) 2 2])/\LN w' nnT ⟨some a1,2,some a2,1,some a3,2⟩/\Below w.heap.size w w'):=tiny_any w;have HN:Hid (∀ (a1 a2 a3:Addr) (U:World),Below w.heap.size w U->LN U nnT ⟨some a1,2,some a2,1,some a3,2⟩->Calls Tryz.prog 33 #[.agg #[.int .i64 1,.slice (some a1) 2 2,.slice (some a2) 1 1,.slice (some a3) 2 2],.agg #[.int .i64 0,.string ⟨#[49]⟩]] U fun e w'=>∃ q c,e=.returned (.tuple #[.int .i64 0,.slice q 2 c,.int .i64 0])/\RowL 2 asC w' q [((1:Int),([48]:List UInt8)),(0,[48])]/\Below U.heap.size U w'):=fun a1 a2 a3 U hU hl=>by
  have h9:=zpl nnT ⟨some a1,2,some a2,1,some a3,2⟩ 0 [49] U hl okT (hT.at hU) (by unfold okS;decide);refine Calls.mono h9 ?_;rintro e w' ⟨q,c,he,ho,hb⟩;have e1:nxE nnT (0,[49])=0:=by unfold nxE;rw [if_pos chkT,nxT]
  have e2:nxL nnT (0,[49])=[((1:Int),([48]:List UInt8)),(0,[48])]:=by unfold nxL;rw [if_pos chkT,nxT]
  rw [e1,e2,chkT] at he;rw [e2] at ho;exact ⟨q,c,he,zbm zr2 ho rfl,hb⟩
 clear hT
 go_enter Tryz.func11,Tryz.ntmps11
 go_wp2_with fail
 refine (HT.out).mono ?_;rintro e W2 ⟨a1,a2,a3,rfl,hl,b2⟩;have HL:=zab hl;have HB:=zab b2;clear hl b2
 go_wp2_with fail
 refine (HN.out a1 a2 a3 W2 HB.out HL.out).mono ?_;rintro e W3 ⟨q,c,rfl,hr,b3⟩;obtain ⟨g,o,e9,hcx⟩:=hr 0 _ rfl;subst e9;have x0:=hcx 0 _ rfl;have x1:=hcx 1 _ rfl;obtain ⟨g9,o9,e9,hcy⟩:=hr 1 _ rfl;simp only [Option.some.injEq,Addr.mk.injEq] at e9;obtain ⟨rfl,rfl,-⟩:=e9;have y0:=hcy 0 _ rfl;have y1:=hcy 1 _ rfl;simp only [Nat.zero_mul,Nat.one_mul,Nat.add_zero] at x0 x1 y0 y1;have y2:W3.cell? ⟨g,o+3,none⟩=some (.string ⟨#[48]⟩):=y1;have HFF:=zab (zac HB.out b3);clear hr hcx hcy b3
 go_wp2_with fail
 refine (num_any 0 W3).mono ?_;rintro e W4 ⟨rfl,hw⟩;obtain rfl:W3=W4:=hw.symm;clear hw
 go_wp2_with fail
 go_ret
 exact ⟨rfl,HFF.out⟩
def wiM (k most:Int):Int:=if k < 0 then 0 else if k > most then most else k
theorem within_any (k most:Int) (w:World):Calls Tryz.prog 7 #[.int .i64 k,.int .i64 most] w fun e w'=>e=.returned (.int .i64 (wiM k most))/\w'=w:=by
 unfold wiM
 by_cases j1:k < 0
 ·rw [if_pos j1]
  go_enter Tryz.func7,Tryz.ntmps7
  go_wp2_with fail
  go_ret
  exact ⟨rfl,rfl⟩
 ·rw [if_neg j1]
  by_cases j2:k > most
  ·rw [if_pos j2]
   go_enter Tryz.func7,Tryz.ntmps7
   go_wp2_with fail
   go_ret
   exact ⟨rfl,rfl⟩
  ·rw [if_neg j2]
   go_enter Tryz.func7,Tryz.ntmps7
   go_wp2_with fail
   go_ret
   exact ⟨rfl,rfl⟩
end Go.Proofs.YtmfakcfmkmppfaaGreatDoor.Nt

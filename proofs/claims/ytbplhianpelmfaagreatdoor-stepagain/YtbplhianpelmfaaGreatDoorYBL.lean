import Derived.Test.YtbplhianpelmfaaGreatDoorYBK
namespace Go.Proofs.YtbplhianpelmfaaGreatDoor.Nt
open Go.RowKit Go.Shelf
structure WY where
 ps:List Int
 es:List Int
 hd:List UInt8
def WY.last (w:WY):Int×List UInt8:=(w.ps.getLastD 0,w.hd)
def WY.to (w:WY) (s:Int×List UInt8) (e:List Int):WY:=⟨w.ps++[s.1],w.es++e,s.2⟩
def endM (n:NN) (w:WY):WY:=if 0≤(portAt n w.last.1).lk then w.to ((portAt n w.last.1).lk,w.hd) [] else w
def onwM (n:NN) (hops:Int) (w:WY):List WY:=if (portAt n w.last.1).inn=true∧(w.es.length:Int)≠hops then (aplM n w.last).2.map (fun s=>w.to s [(aplM n w.last).1]) else []
def wlkM (n:NN) (hops:Int):Nat→WY→List WY
 | 0,w=>[endM n w]
 | f+1,w=>if (onwM n hops (endM n w)).length=0 then [endM n w] else (onwM n hops (endM n w)).flatMap (wlkM n hops f)
def alnM (s:Int×List UInt8):WY:=⟨[s.1],[],s.2⟩
theorem to_last (w:WY) (s:Int×List UInt8) (e:List Int):(w.to s e).last=s:=by
 unfold WY.last WY.to
 simp
def WYP (n:NN) (hops:Int) (x:Nat) (w:WY):Prop:=w.ps≠[]∧(∀ p∈w.ps,0≤p∧p < (n.ports.length:Int))∧HdP n.bits w.hd∧(w.es.length:Int)≤hops∧w.ps.length≤2*w.es.length+1+x∧∀ e∈w.es,-1≤e∧e≤256
theorem WYP.st {n:NN} {hops:Int} {x:Nat} {w:WY} (h:WYP n hops x w):StP n w.last:=by
 obtain ⟨h1,h2,h3,-⟩:=h
 have:w.last.1∈w.ps:=by
  unfold WY.last
  cases hp:w.ps with
  | nil=>exact absurd hp h1
  | cons a l=>simp only [List.getLastD_cons];rw [←List.getLast_eq_getLastD (h:=by simp)];exact List.getLast_mem _
 exact ⟨(h2 _ this).1,(h2 _ this).2,h3⟩
theorem wyp_aln {n:NN} {hops:Int} {s:Int×List UInt8} (h:StP n s) (h0:0≤hops):WYP n hops 0 (alnM s):=by
 refine ⟨by simp [alnM],?_,h.2.2,by simpa [alnM] using h0,by simp [alnM],by simp [alnM]⟩
 intro p hp
 have:p=s.1:=by simpa [alnM] using hp
 subst this
 exact ⟨h.1,h.2.1⟩
theorem ap_num {n:NN} (hV:NetP n) (s:Int×List UInt8) (hs:StP n s):-1≤(aplM n s).1∧(aplM n s).1≤256:=by
 unfold aplM
 split
 ·rename_i k e he
  unfold appE at he
  split at he
  ·obtain ⟨i,hi,ht,-⟩:=ffst_some he
   obtain ⟨hx1,hx2⟩:=hV.port hs.1 hs.2.1
   obtain ⟨ht1,-⟩:=hV.tab hx2.2.1 hx2.2.2.1
   have h1:=(List.getElem?_eq_some_iff.1 ht).1
   have h2:=offs_le n ((portAt n s.1).bx.toNat+1)
   rw [offs_succ ht1] at h2
   have h3:=hV.2.2.1
   simp only
   omega
  ·cases he
 ·simp
theorem wyp_end {n:NN} {hops:Int} {w:WY} (hV:NetP n) (h:WYP n hops 0 w):WYP n hops 1 (endM n w)∧(endM n w).es=w.es∧(endM n w).hd=w.hd:=by
 unfold endM
 split
 ·rename_i hl
  have hs:=h.st
  obtain ⟨-,hx⟩:=hV.port hs.1 hs.2.1
  have h9:=hx.2.2.2
  obtain ⟨h1,h2,h3,h4,h5,h6⟩:=h
  refine ⟨⟨by simp [WY.to],?_,h3,by simpa [WY.to] using h4,by simp [WY.to];omega,by simpa [WY.to] using h6⟩,by simp [WY.to],rfl⟩
  intro p hp
  rcases List.mem_append.1 hp with hp | hp
  ·exact h2 p hp
  ·have:p=(portAt n w.last.1).lk:=by simpa using hp
   subst this
   rcases h9 with h9 | ⟨-,h9,h10,-⟩
   ·omega
   ·exact ⟨h9,h10⟩
 ·obtain ⟨h1,h2,h3,h4,h5,h6⟩:=h
  exact ⟨⟨h1,h2,h3,h4,by omega,h6⟩,rfl,rfl⟩
theorem wyp_onw {n:NN} {hops:Int} {w x:WY} (hV:NetP n) (h:WYP n hops 1 w) (hx:x∈onwM n hops w):WYP n hops 0 x∧x.es.length=w.es.length+1:=by
 unfold onwM at hx
 split at hx
 ·rename_i hc
  obtain ⟨s,hs,rfl⟩:=List.mem_map.1 hx
  have hst:=h.st
  have h8:=(stp_st hV hst).2
  rw [stp_in hc.1] at h8
  have h9:=h8 s hs
  have h10:=ap_num hV w.last hst
  obtain ⟨h1,h2,h3,h4,h5,h6⟩:=h
  refine ⟨⟨by simp [WY.to],?_,h9.2.2,by simp [WY.to];omega,by simp [WY.to];omega,?_⟩,by simp [WY.to]⟩
  ·intro p hp
   rcases List.mem_append.1 hp with hp | hp
   ·exact h2 p hp
   ·have:p=s.1:=by simpa using hp
    subst this
    exact ⟨h9.1,h9.2.1⟩
  ·intro e he
   rcases List.mem_append.1 he with he | he
   ·exact h6 e he
   ·have:e=(aplM n w.last).1:=by simpa using he
    subst this
    exact h10
 ·cases hx
theorem wlk_all {n:NN} {hops:Int} (P:WY→Prop) (hV:NetP n) (he:∀ w,WYP n hops 0 w→P w→P (endM n w)) (ho:∀ w x,WYP n hops 1 w→P w→x∈onwM n hops w→P x):∀ (f:Nat) (w x:WY),WYP n hops 0 w→P w→x∈wlkM n hops f w→P x
 | 0,w,x,hw,hp,hx=>by
  have:x=endM n w:=by simpa [wlkM] using hx
  subst this
  exact he w hw hp
 | f+1,w,x,hw,hp,hx=>by
  unfold wlkM at hx
  split at hx
  ·have:x=endM n w:=by simpa using hx
   subst this
   exact he w hw hp
  ·obtain ⟨y,hy,hxy⟩:=List.mem_flatMap.1 hx
   have h1:=(wyp_end hV hw).1
   exact wlk_all P hV he ho f y x (wyp_onw hV h1 hy).1 (ho _ y h1 (he w hw hp) hy) hxy
theorem wlk_whole {n:NN} {hops:Int} (hV:NetP n):∀ (f:Nat) (w x:WY),WYP n hops 0 w→hops≤(w.es.length:Int)+f→x∈wlkM n hops f w→WYP n hops 1 x∧onwM n hops x=[]∧∃ y,WYP n hops 0 y∧x=endM n y
 | 0,w,x,hw,hf,hx=>by
  have:x=endM n w:=by simpa [wlkM] using hx
  subst this
  obtain ⟨h1,h2,-⟩:=wyp_end hV hw
  refine ⟨h1,?_,w,hw,rfl⟩
  unfold onwM
  rw [if_neg]
  rintro ⟨-,h9⟩
  have:=hw.2.2.2.1
  rw [h2] at h9
  omega
 | f+1,w,x,hw,hf,hx=>by
  unfold wlkM at hx
  split at hx
  ·rename_i h0
   have:x=endM n w:=by simpa using hx
   subst this
   exact ⟨(wyp_end hV hw).1,List.length_eq_zero_iff.1 h0,w,hw,rfl⟩
  ·obtain ⟨y,hy,hxy⟩:=List.mem_flatMap.1 hx
   obtain ⟨h1,h2,-⟩:=wyp_end hV hw
   obtain ⟨h3,h4⟩:=wyp_onw hV h1 hy
   exact wlk_whole hV f y x h3 (by rw [h4,h2];omega) hxy
theorem folR_cons (n:NN) (q:Int) (r:List Int) (i:Nat) (s:Int×List UInt8) (c:Nat):folR n (q :: r) i s c=(match (stpS n s).find? (fun o=>o.1==q) with | none=>([],(i:Int),101) | some o=>folR n r (i+1) o (if (portAt n s.1).inn=true then c+1 else c)):=rfl
theorem folR_app {n:NN}:∀ (A B:List Int) (i:Nat) (s:Int×List UInt8) (c:Nat) (h:List UInt8) (k:Nat),folR n A i s c=(h,(k:Int),0)→folR n (A++B) i s c=folR n B (i+A.length) (A.getLastD s.1,h) k
 | [],B,i,s,c,h,k,e=>by
  have e1:s.2=h∧(c:Int)=k:=by
   have:=e
   unfold folR at this
   simp only [Prod.mk.injEq] at this
   exact ⟨this.1,this.2.1⟩
  obtain ⟨rfl,e2⟩:=e1
  obtain rfl:c=k:=by omega
  rfl
 | q :: r,B,i,s,c,h,k,e=>by
  rw [List.cons_append,folR_cons]
  rw [folR_cons] at e
  cases hf:(stpS n s).find? (fun o=>o.1==q) with
  | none=>rw [hf] at e;simp at e
  | some o=>
   rw [hf] at e
   simp only at e ⊢
   rw [folR_app r B (i+1) o _ h k e]
   have ho:o.1=q:=by have:=List.find?_some hf;simpa using this
   rw [List.length_cons,List.getLastD_cons,ho,show i+1+r.length=i+(r.length+1) by omega]
theorem folM_app {n:NN} {s:Int×List UInt8} {A B:List Int} {h:List UInt8} {k:Nat} (e:folM n s A=(h,(k:Int),0)):folM n s (A++B)=folR n B A.length (A.getLastD 0,h) k:=by
 cases A with
 | nil=>simp [folM] at e
 | cons q r=>
  unfold folM at e ⊢
  rw [List.cons_append]
  simp only at e ⊢
  by_cases hq:q=s.1
  ·rw [if_pos hq] at e ⊢
   rw [folR_app r B 1 s 0 h k e,List.length_cons,List.getLastD_cons,hq,Nat.add_comm]
  ·rw [if_neg hq] at e;simp at e
def FLD (n:NN) (s:Int×List UInt8) (w:WY):Prop:=folM n s w.ps=(w.hd,(w.es.length:Int),0)
theorem fld_aln (n:NN) (s:Int×List UInt8):FLD n s (alnM s):=by
 unfold FLD alnM folM
 simp [folR]
theorem out_same {n:NN} {s x y:Int×List UInt8} (hx:x∈(aplM n s).2) (hy:y∈(aplM n s).2) (h:x.1=y.1):x=y:=by
 unfold aplM at hx hy
 cases he:appE n s.1 s.2 with
 | some ke=>
  obtain ⟨k,e⟩:=ke
  rw [he] at hx hy
  simp only [outS] at hx hy
  obtain ⟨a,-,rfl⟩:=List.mem_map.1 hx
  obtain ⟨b,-,rfl⟩:=List.mem_map.1 hy
  simp only at h
  rw [h]
 | none=>rw [he] at hx;cases hx
theorem fld_to {n:NN} {s o:Int×List UInt8} {w:WY} {e:List Int} (h:FLD n s w) (ho:o∈stpS n w.last) (hu:∀ x∈stpS n w.last,x.1=o.1→x=o) (he:e.length=if (portAt n w.last.1).inn=true then 1 else 0):FLD n s (w.to o e):=by
 unfold FLD at h ⊢
 have e1:(w.to o e).ps=w.ps++[o.1]:=rfl
 rw [e1,folM_app h]
 unfold folR
 have hf:(stpS n (w.ps.getLastD 0,w.hd)).find? (fun x=>x.1==o.1)=some o:=by
  cases hq:(stpS n (w.ps.getLastD 0,w.hd)).find? (fun x=>x.1==o.1) with
  | none=>
   rw [List.find?_eq_none] at hq
   exact absurd (by simp) (hq o ho)
  | some x=>
   have h1:=List.find?_some hq
   have h2:=List.mem_of_find?_eq_some hq
   rw [hu x h2 (by simpa using h1)]
 rw [hf]
 simp only
 unfold folR
 have e2:(w.to o e).es.length=w.es.length+e.length:=by simp [WY.to]
 have e3:(w.to o e).hd=o.2:=rfl
 rw [e2,e3,he]
 have e4:(w.ps.getLastD 0)=w.last.1:=rfl
 rw [e4]
 split <;> simp
theorem fld_end {n:NN} {hops:Int} {s:Int×List UInt8} {w:WY} (hV:NetP n) (hw:WYP n hops 0 w) (h:FLD n s w):FLD n s (endM n w):=by
 unfold endM
 split
 ·rename_i hl
  have hs:=hw.st
  obtain ⟨-,hx⟩:=hV.port hs.1 hs.2.1
  have hi:(portAt n w.last.1).inn=false:=by
   rcases hx.2.2.2 with h9 | h9
   ·omega
   ·exact h9.1
  have hso:stpS n w.last=[((portAt n w.last.1).lk,w.hd)]:=by
   rw [stp_out hi]
   unfold ovS
   rw [if_pos hl]
   rfl
  refine fld_to h (by rw [hso];exact List.mem_singleton.2 rfl) (fun x hx _=>by rw [hso] at hx;simpa using hx) ?_
  rw [hi]
  rfl
 ·exact h
theorem fld_onw {n:NN} {hops:Int} {s:Int×List UInt8} {w x:WY} (h:FLD n s w) (hx:x∈onwM n hops w):FLD n s x:=by
 unfold onwM at hx
 split at hx
 ·rename_i hc
  obtain ⟨o,ho,rfl⟩:=List.mem_map.1 hx
  refine fld_to h (by rw [stp_in hc.1];exact ho) (fun y hy e=>by rw [stp_in hc.1] at hy;exact out_same hy ho e) ?_
  rw [hc.1]
  rfl
 ·cases hx
theorem fld_wlk {n:NN} {hops:Int} {s:Int×List UInt8} (hV:NetP n) (f:Nat) (w x:WY) (hw:WYP n hops 0 w) (h:FLD n s w) (hx:x∈wlkM n hops f w):FLD n s x:=
 wlk_all (FLD n s) hV (fun _ h1 h2=>fld_end hV h1 h2) (fun _ _ _ h2 h3=>fld_onw h2 h3) f w x hw h hx
noncomputable def pthM (n:NN) (s:Int×List UInt8) (hops:Int):List WY:=if pb (NetP n∧StP n s)=true∧0≤hops∧hops≤64 then wlkM n hops hops.toNat (alnM s) else []
theorem pth_mem {n:NN} {s:Int×List UInt8} {hops:Int} {x:WY} (hx:x∈pthM n s hops):NetP n∧StP n s∧0≤hops∧hops≤64∧WYP n hops 1 x∧onwM n hops x=[]∧FLD n s x∧∃ y,WYP n hops 0 y∧x=endM n y:=by
 unfold pthM at hx
 split at hx
 ·rename_i hc
  obtain ⟨hV,hS⟩:=pb_iff.1 hc.1
  have h0:=wyp_aln hS hc.2.1
  obtain ⟨h1,h2,h3⟩:=wlk_whole hV hops.toNat _ x h0 (by simp [alnM];omega) hx
  exact ⟨hV,hS,hc.2.1,hc.2.2,h1,h2,fld_wlk hV _ _ x h0 (fld_aln n s) hx,h3⟩
 ·cases hx
theorem pth_len {n:NN} {s:Int×List UInt8} {hops:Int} {x:WY} (hx:x∈pthM n s hops):1≤x.ps.length∧x.ps.length≤130∧x.es.length≤64∧(x.es.length:Int)≤hops:=by
 obtain ⟨-,-,h0,h1,h2,-⟩:=pth_mem hx
 have h3:=h2.2.2.2.1
 have h4:=h2.2.2.2.2.1
 have h5:1≤x.ps.length:=by
  cases hp:x.ps with
  | nil=>exact absurd hp h2.1
  | cons a l=>simp
 omega
end Go.Proofs.YtbplhianpelmfaaGreatDoor.Nt

import Derived.Deep.RegionHeld3
import Derived.ProofKit
import Derived.Test.YtmfakcfmkmppfaaGreatDoorChecked
import Derived.WalkKit
import Derived.Below
import Derived.BigQuiet
import Derived.OwnWalk
import Derived.Lib.IndexLaws
import Derived.Deep.DeepCutAuto
import Derived.Deep.RegionWith
import Derived.Deep.QuietTactic
import Derived.Lib.DecodeN
import Derived.Lib.MapLaws
import Derived.Shelf.Strconv.AtoiAll
import Derived.Shelf.Strconv.ErrVarAll
import Derived.Shelf.Strings.Search3
import Derived.Shelf.Strings.Prefix
import Derived.Shelf.Small.Wraps
import Derived.Shelf.Small.Utf8
import Derived.Ground.NamesProg
import Derived.Test.YtmfakcfmkmppfaaGreatDoorProg
import Derived.Deep.AppendLies
import Derived.Lib.OthersKept
import Derived.Laws.IdiomStrings
namespace Go.Proofs.YtmfakcfmkmppfaaGreatDoor
theorem ex{α:Sort _}(a:α):∃ x,a=x:=⟨a,rfl⟩
theorem tk {P:Program} {ops:Array Oper} {Q:Exit->Act->World->Prop} {md:Region.Mode} {S:World->Prop} (i:Nat) (v:Value) {oi:Oper} {fuel:Nat} {listed:Array Bool} {a:Act} {w:World} (hi:ops[i]?=some oi) (hS:S w) (hx:∀ w,S w->(execOp a.eval oi).run P w=.ok (.value v) w) (h:wpAnyH P md ops Q S fuel (listed.setIfInBounds i true) (a.put oi.dst v) w) (hs:Region.noSelect ops=true:=by kernel_rfl) (hf:Region.free md ops listed i=true:=by kernel_rfl) (hr:(Region.ready md ops listed).contains i=true:=by kernel_rfl) (hw:Region.wanted oi (yielded ops a.tmps)=true:=by kernel_rfl) (hQ:∀ c a w,Q (.panic c) (a.put oi.dst v) w->Q (.panic c) a w:=by exact fun _ _ _ h=>h):wpAnyH P md ops Q S (fuel+1) listed a w:=
 wpAnyH_take hi hs hf hr hQ (Or.inl ⟨hw,hx⟩) hS h
theorem tq {P:Program} {ops:Array Oper} {Q:Exit->Act->World->Prop} {md:Region.Mode} {S:World->Prop} (i:Nat) {oi:Oper} {fuel:Nat} {listed:Array Bool} {a:Act} {w:World} (hi:ops[i]?=some oi) (hS:S w) (h:wpAnyH P md ops Q S fuel (listed.setIfInBounds i true) (a.put oi.dst undef) w) (hs:Region.noSelect ops=true:=by kernel_rfl) (hf:Region.free md ops listed i=true:=by kernel_rfl) (hr:(Region.ready md ops listed).contains i=true:=by kernel_rfl) (hw:Region.wanted oi (yielded ops a.tmps)=false:=by kernel_rfl) (hQ:∀ c a w,Q (.panic c) (a.put oi.dst undef) w->Q (.panic c) a w:=by exact fun _ _ _ h=>h):wpAnyH P md ops Q S (fuel+1) listed a w:=
 wpAnyH_take hi hs hf hr hQ (Or.inr ⟨hw,rfl⟩) hS h
theorem rd {P:Program} {ops:Array Oper} {Q:Exit->Act->World->Prop} {md:Region.Mode} {S:World->Prop} (i:Nat) {o:Oper} {fuel:Nat} {listed:Array Bool} {a:Act} {w:World} (ho:ops[i]?=some o) (h:∀ K':Act->World->Prop,Shut (∀ a w,S w->(S w->wpAnyH P md ops Q S fuel (listed.setIfInBounds i true) a w)->K' a w)->if Region.wanted o (yielded ops a.tmps)=true then Oper.wp P o a w K' Q else K' (a.put o.dst undef) w) (hr:Region.ready md ops listed=[i]:=by kernel_rfl):wpAnyH P md ops Q S (fuel+1) listed a w:=
 wpAnyH_ready hr (by simp) (AllReadyH.cons ho h AllReadyH.nil)
end Go.Proofs.YtmfakcfmkmppfaaGreatDoor
namespace Go.Proofs.YtmfakcfmkmppfaaGreatDoor
open Go.RowKit
theorem zcg {P:Program} {id:Nat} {Q:Exit->Act->World->Prop} {a:Act} {w:World} {l:List Oper} {C:World->Prop} (hm:P.follows .mixedOrders=true) (hB:Region.lexB .any l.toArray=true) (hC:C w.drew)
  (h:wpQuiet P l.toArray C (fun a'=>∀ w',C w'->Q .normal a' w') l a):(Code.region id l.toArray true).wp P Q a w:=
 wp_region_quiet (C:=C) hm hB hC (by simpa using h)

theorem zam (w:World) (o:Obj):(w.alloc o).heap[w.heap.size]?=some o:=by
 show (w.heap.push o)[w.heap.size]?=_;simp

theorem zay {w:World} {b:Nat} {o:Obj} (h:w.heap[b]?=some o):b < w.heap.size:=by
 rcases Nat.lt_or_ge b w.heap.size with h1 | h1
 ·exact h1
 ·rw [Array.getElem?_eq_none h1] at h;cases h

theorem zcu {w w':World} (h:Below w.heap.size w w') (row:Option Nat):w.grownBy w' row:=
 ⟨h.os,h.tape,h.output,h.size,fun k hk _=>h.block k hk⟩

theorem zho {w w':World} {base:Nat} {e:TypeId} {size:Nat} {v:Value} {n:Nat} {xs:List Value} (h:w.ownsRow base e size v n xs) (hb:Below w.heap.size w w'):w'.ownsRow base e size v n xs:=by
 refine h.kept (zcu hb none) ?_;cases v.ownBlock <;> simp

theorem zeb {w w1:World} {o:Obj} (h:Below (w.alloc o).heap.size (w.alloc o) w1):Below w.heap.size w w1:=
 ((Below.refl _ _).alloc (Nat.le_refl _) _).trans (h.mono (by simp))
theorem zhx {w w1 w2:World} (h:Below w.heap.size w w1) (h2:Below w1.heap.size w1 w2):Below w.heap.size w w2:=h.trans (h2.mono h.size)
theorem zbi {W w':World} {b:Nat} {o:Obj} (hb:Below W.heap.size W w') (h:W.heap[b]?=some o):w'.heap[b]?=some o:=(hb.block b (zay h)).trans h
theorem zax {W:World} {b:Nat} {o:Obj} (h:W.heap[b]?=some o) (O:Obj):(W.alloc O).heap[b]?=some o:=(Below.heap_alloc _ _ _ (zay h)).trans h

theorem zjk {W:World} {B n:Nat} {e:TypeId} {v:Value} {xs:List Value} {sz:Nat} (h:W.ownsRow B e sz v n xs):∃ p c,v=.slice p n c:=by
 rcases h.2 with ⟨rfl,rfl⟩ | ⟨g,c,_,rfl,_⟩
 ·exact ⟨_,_,rfl⟩
 ·exact ⟨_,_,rfl⟩
theorem zrz {B:Nat} {w W:World} (n:Nat) (h:Below B w W):Below B w (W.drewN n):=h.trans ⟨rfl,rfl,rfl,Nat.le_refl _,fun _ _=>rfl⟩
theorem zf7 (l:List UInt8) (k:Nat) (h:k < l.length):∃ c,(∀ h',(ByteArray.mk l.toArray)[k]'h'=c)/\l[k]?=some c:=⟨l[k],fun _=>rfl,List.getElem?_eq_getElem h⟩
theorem zf2 (l:List UInt8) (i:Nat):(ByteArray.mk l.toArray).extract i l.length=⟨(l.drop i).toArray⟩:=ByteArray.ext (by simp;exact List.take_of_length_le (by simp))
def bt (l:List UInt8) (i:Nat):Nat:=(l.getD i 0).toNat
def dc (l:List UInt8) (i:Nat):Nat×Nat:=Lib.decodeN (l.length - i) (bt l i) (bt l (i+1)) (bt l (i+2)) (bt l (i+3))
theorem zg3 (l:List UInt8) (i:Nat):bt l i < 256:=UInt8.toNat_lt _
theorem zdh {l:List UInt8} {i:Nat} {c:UInt8} (h:l[i]?=some c):bt l i=c.toNat:=by simp [bt,List.getD,h]
theorem zgy (l:List UInt8) (i:Nat):Utf8.decode ⟨l.toArray⟩ i=dc l i:=by
 have hg:∀ j,(ByteArray.mk l.toArray).get! j=l.getD j 0:=by
  intro j;simp [ByteArray.get!,List.getD,Array.getElem!_eq_getD];rfl
 rw [Lib.decode_at,hg,hg,hg,hg];unfold dc bt;rw [show (ByteArray.mk l.toArray).size=l.length by simp [ByteArray.size]]
def lo1 (l:List UInt8) (i:Nat):Bool:=decide (dc l i=(65533,1))
end Go.Proofs.YtmfakcfmkmppfaaGreatDoor
namespace Go.Proofs
open Go.Shelf
def Tryz.l172_ren:Go.Shelf.Ren:=⟨fun | 172=>189 | 244=>194 | 245=>193 | 247=>203 | 279=>199 | 280=>200 | 281=>201 | 282=>202 | 287=>192 | 316=>141 | 171=>190 | 205=>205 | 321=>197 | 322=>198 | 243=>195 | 246=>204 | 283=>206 | 284=>207 | 285=>208 | 286=>209 | 129=>211 | 317=>210 | 318=>212 | 319=>213 | 320=>214 | 337=>215 | 338=>216 | n=>n,fun | 9=>9 | 3=>3 | 75=>242 | 76=>245 | 4=>4 | 5=>5 | 167=>251 | 37=>145 | 0=>0 | 85=>256 | 2=>2 | 168=>253 | 53=>66 | 175=>243 | 46=>214 | 210=>260 | 127=>203 | 145=>269 | 143=>267 | 21=>21 | 171=>262 | 173=>265 | 212=>271 | 51=>232 | 20=>20 | 213=>272 | 232=>275 | 233=>276 | 80=>130 | n=>n,fun | 15=>5 | 16=>6 | 17=>7 | 18=>8 | 19=>9 | n=>n⟩
theorem Tryz.l172:Go.Proofs.LaysC.n172 Tryz.prog Tryz.l172_ren:={
 mixed:=by kernel_rfl
 f129:=Tryz.func211.trans (congrArg some (by kernel_rfl))
 f171:=Tryz.func190.trans (congrArg some (by kernel_rfl))
 f172:=Tryz.func189.trans (congrArg some (by kernel_rfl))
 f205:=Tryz.func205.trans (congrArg some (by kernel_rfl))
 f243:=Tryz.func195.trans (congrArg some (by kernel_rfl))
 f244:=Tryz.func194.trans (congrArg some (by kernel_rfl))
 f245:=Tryz.func193.trans (congrArg some (by kernel_rfl))
 f246:=Tryz.func204.trans (congrArg some (by kernel_rfl))
 f247:=Tryz.func203.trans (congrArg some (by kernel_rfl))
 f279:=Tryz.func199.trans (congrArg some (by kernel_rfl))
 f280:=Tryz.func200.trans (congrArg some (by kernel_rfl))
 f281:=Tryz.func201.trans (congrArg some (by kernel_rfl))
 f282:=Tryz.func202.trans (congrArg some (by kernel_rfl))
 f283:=Tryz.func206.trans (congrArg some (by kernel_rfl))
 f284:=Tryz.func207.trans (congrArg some (by kernel_rfl))
 f285:=Tryz.func208.trans (congrArg some (by kernel_rfl))
 f286:=Tryz.func209.trans (congrArg some (by kernel_rfl))
 f287:=Tryz.func192.trans (congrArg some (by kernel_rfl))
 f316:=Tryz.func141.trans (congrArg some (by kernel_rfl))
 f317:=Tryz.func210.trans (congrArg some (by kernel_rfl))
 f318:=Tryz.func212.trans (congrArg some (by kernel_rfl))
 f319:=Tryz.func213.trans (congrArg some (by kernel_rfl))
 f320:=Tryz.func214.trans (congrArg some (by kernel_rfl))
 f321:=Tryz.func197.trans (congrArg some (by kernel_rfl))
 f322:=Tryz.func198.trans (congrArg some (by kernel_rfl))
 f337:=Tryz.func215.trans (congrArg some (by kernel_rfl))
 f338:=Tryz.func216.trans (congrArg some (by kernel_rfl))
 t0:=Tryz.underlying0
 a0:=Tryz.isAgg0
 z0:=Tryz.sizeOf0
 v0:=Tryz.zeroValue0
 t2:=Tryz.underlying2
 a2:=Tryz.isAgg2
 z2:=Tryz.sizeOf2
 v2:=Tryz.zeroValue2
 t3:=Tryz.underlying3
 a3:=Tryz.isAgg3
 z3:=Tryz.sizeOf3
 v3:=Tryz.zeroValue3
 t4:=Tryz.underlying4
 a4:=Tryz.isAgg4
 z4:=Tryz.sizeOf4
 v4:=Tryz.zeroValue4
 t5:=Tryz.underlying5
 a5:=Tryz.isAgg5
 z5:=Tryz.sizeOf5
 v5:=Tryz.zeroValue5
 t9:=Tryz.underlying9
 a9:=Tryz.isAgg9
 z9:=Tryz.sizeOf9
 v9:=Tryz.zeroValue9
 t20:=Tryz.underlying20
 a20:=Tryz.isAgg20
 z20:=Tryz.sizeOf20
 v20:=Tryz.zeroValue20
 t21:=Tryz.underlying21
 a21:=Tryz.isAgg21
 z21:=Tryz.sizeOf21
 v21:=Tryz.zeroValue21
 t37:=Tryz.underlying145
 a37:=Tryz.isAgg145
 z37:=Tryz.sizeOf145
 v37:=Tryz.zeroValue145
 t46:=Tryz.underlying214
 a46:=Tryz.isAgg214
 z46:=Tryz.sizeOf214
 v46:=Tryz.zeroValue214
 t51:=Tryz.underlying232
 a51:=Tryz.isAgg232
 z51:=Tryz.sizeOf232
 v51:=Tryz.zeroValue232
 t53:=Tryz.underlying66
 a53:=Tryz.isAgg66
 z53:=Tryz.sizeOf66
 v53:=Tryz.zeroValue66
 t75:=Tryz.underlying242
 a75:=Tryz.isAgg242
 z75:=Tryz.sizeOf242
 v75:=Tryz.zeroValue242
 t76:=Tryz.underlying245
 a76:=Tryz.isAgg245
 z76:=Tryz.sizeOf245
 v76:=Tryz.zeroValue245
 t85:=Tryz.underlying256
 a85:=Tryz.isAgg256
 z85:=Tryz.sizeOf256
 v85:=Tryz.zeroValue256
 t127:=Tryz.underlying203
 a127:=Tryz.isAgg203
 z127:=Tryz.sizeOf203
 v127:=Tryz.zeroValue203
 t143:=Tryz.underlying267
 a143:=Tryz.isAgg267
 z143:=Tryz.sizeOf267
 v143:=Tryz.zeroValue267
 t145:=Tryz.underlying269
 a145:=Tryz.isAgg269
 z145:=Tryz.sizeOf269
 v145:=Tryz.zeroValue269
 t167:=Tryz.underlying251
 a167:=Tryz.isAgg251
 z167:=Tryz.sizeOf251
 v167:=Tryz.zeroValue251
 t168:=Tryz.underlying253
 a168:=Tryz.isAgg253
 z168:=Tryz.sizeOf253
 v168:=Tryz.zeroValue253
 t171:=Tryz.underlying262
 a171:=Tryz.isAgg262
 z171:=Tryz.sizeOf262
 v171:=Tryz.zeroValue262
 t173:=Tryz.underlying265
 a173:=Tryz.isAgg265
 z173:=Tryz.sizeOf265
 v173:=Tryz.zeroValue265
 t175:=Tryz.underlying243
 a175:=Tryz.isAgg243
 z175:=Tryz.sizeOf243
 v175:=Tryz.zeroValue243
 t210:=Tryz.underlying260
 a210:=Tryz.isAgg260
 z210:=Tryz.sizeOf260
 v210:=Tryz.zeroValue260
 t212:=Tryz.underlying271
 a212:=Tryz.isAgg271
 z212:=Tryz.sizeOf271
 v212:=Tryz.zeroValue271
 t213:=Tryz.underlying272
 a213:=Tryz.isAgg272
 z213:=Tryz.sizeOf272
 t232:=Tryz.underlying275
 a232:=Tryz.isAgg275
 z232:=Tryz.sizeOf275
 v232:=Tryz.zeroValue275
 t233:=Tryz.underlying276
 a233:=Tryz.isAgg276
 z233:=Tryz.sizeOf276
 v233:=Tryz.zeroValue276
 g15:=by kernel_rfl
 g16:=by kernel_rfl
 g17:=by kernel_rfl
 g18:=by kernel_rfl
 g19:=by kernel_rfl
 t80:=Tryz.underlying130
 a80:=Tryz.isAgg130
 z80:=Tryz.sizeOf130
 v80:=Tryz.zeroValue130
 i0:=by kernel_rfl
 i2:=by kernel_rfl
 i3:=by kernel_rfl
 i4:=by kernel_rfl
 i5:=by kernel_rfl
 i9:=by kernel_rfl
 i20:=by kernel_rfl
 i21:=by kernel_rfl
 i37:=by kernel_rfl
 i46:=by kernel_rfl
 i51:=by kernel_rfl
 i53:=by kernel_rfl
 i75:=by kernel_rfl
 i76:=by kernel_rfl
 i80:=by kernel_rfl
 i85:=by kernel_rfl
 i127:=by kernel_rfl
 i143:=by kernel_rfl
 i145:=by kernel_rfl
 i167:=by kernel_rfl
 i168:=by kernel_rfl
 i171:=by kernel_rfl
 i173:=by kernel_rfl
 i175:=by kernel_rfl
 i210:=by kernel_rfl
 i212:=by kernel_rfl
 i232:=by kernel_rfl
 i233:=by kernel_rfl
 m15:=by kernel_rfl
 m16:=by kernel_rfl
 m17:=by kernel_rfl
 m18:=by kernel_rfl
 m19:=by kernel_rfl
 c0:=by kernel_rfl
 c2:=by kernel_rfl
 c3:=by kernel_rfl
 c4:=by kernel_rfl
 c5:=by kernel_rfl
 c9:=by kernel_rfl
 c20:=by kernel_rfl
 c21:=by kernel_rfl
 c37:=by kernel_rfl
 c46:=by kernel_rfl
 c51:=by kernel_rfl
 c53:=by kernel_rfl
 c75:=by kernel_rfl
 c76:=by kernel_rfl
 c80:=by kernel_rfl
 c85:=by kernel_rfl
 c127:=by kernel_rfl
 c143:=by kernel_rfl
 c145:=by kernel_rfl
 c167:=by kernel_rfl
 c168:=by kernel_rfl
 c171:=by kernel_rfl
 c173:=by kernel_rfl
 c175:=by kernel_rfl
 c210:=by kernel_rfl
 c212:=by kernel_rfl
 c213:=by kernel_rfl
 c232:=by kernel_rfl
 c233:=by kernel_rfl }
def Tryz.l103_ren:Go.Shelf.Ren:=⟨fun | 103=>180 | 210=>187 | 206=>150 | n=>n,fun | 9=>9 | 4=>4 | 24=>236 | 3=>3 | n=>n,fun | n=>n⟩
theorem Tryz.l103:Go.Proofs.Lays.n103 Tryz.prog Tryz.l103_ren:={
 mixed:=by kernel_rfl
 f103:=Tryz.func180.trans (congrArg some (by kernel_rfl))
 f206:=Tryz.func150.trans (congrArg some (by kernel_rfl))
 f210:=Tryz.func187.trans (congrArg some (by kernel_rfl))
 t3:=Tryz.underlying3
 a3:=Tryz.isAgg3
 z3:=Tryz.sizeOf3
 v3:=Tryz.zeroValue3
 t4:=Tryz.underlying4
 a4:=Tryz.isAgg4
 z4:=Tryz.sizeOf4
 v4:=Tryz.zeroValue4
 t9:=Tryz.underlying9
 a9:=Tryz.isAgg9
 z9:=Tryz.sizeOf9
 v9:=Tryz.zeroValue9
 t24:=Tryz.underlying236
 a24:=Tryz.isAgg236
 z24:=Tryz.sizeOf236
 v24:=Tryz.zeroValue236 }
def Tryz.l143_ren:Go.Shelf.Ren:=⟨fun | 143=>179 | 219=>186 | 217=>172 | 225=>166 | 224=>165 | 267=>191 | 266=>177 | 314=>196 | n=>n,fun | 9=>9 | 3=>3 | 4=>4 | 5=>5 | 46=>214 | 146=>249 | 51=>232 | n=>n,fun | 1=>3 | n=>n⟩
theorem Tryz.l143:Go.Proofs.Lays.n143 Tryz.prog Tryz.l143_ren:={
 mixed:=by kernel_rfl
 f143:=Tryz.func179.trans (congrArg some (by kernel_rfl))
 f217:=Tryz.func172.trans (congrArg some (by kernel_rfl))
 f219:=Tryz.func186.trans (congrArg some (by kernel_rfl))
 f224:=Tryz.func165.trans (congrArg some (by kernel_rfl))
 f225:=Tryz.func166.trans (congrArg some (by kernel_rfl))
 f266:=Tryz.func177.trans (congrArg some (by kernel_rfl))
 f267:=Tryz.func191.trans (congrArg some (by kernel_rfl))
 f314:=Tryz.func196.trans (congrArg some (by kernel_rfl))
 t3:=Tryz.underlying3
 a3:=Tryz.isAgg3
 z3:=Tryz.sizeOf3
 v3:=Tryz.zeroValue3
 t4:=Tryz.underlying4
 a4:=Tryz.isAgg4
 z4:=Tryz.sizeOf4
 v4:=Tryz.zeroValue4
 t5:=Tryz.underlying5
 a5:=Tryz.isAgg5
 z5:=Tryz.sizeOf5
 v5:=Tryz.zeroValue5
 t9:=Tryz.underlying9
 a9:=Tryz.isAgg9
 z9:=Tryz.sizeOf9
 v9:=Tryz.zeroValue9
 t46:=Tryz.underlying214
 a46:=Tryz.isAgg214
 z46:=Tryz.sizeOf214
 v46:=Tryz.zeroValue214
 t51:=Tryz.underlying232
 a51:=Tryz.isAgg232
 z51:=Tryz.sizeOf232
 v51:=Tryz.zeroValue232
 t146:=Tryz.underlying249
 a146:=Tryz.isAgg249
 z146:=Tryz.sizeOf249
 v146:=Tryz.zeroValue249
 g1:=by kernel_rfl }
def Tryz.l144_ren:Go.Shelf.Ren:=⟨fun | 144=>182 | 143=>179 | 219=>186 | 217=>172 | 225=>166 | 224=>165 | 267=>191 | 266=>177 | 314=>196 | n=>n,fun | 9=>9 | 4=>4 | 3=>3 | 5=>5 | 46=>214 | 146=>249 | 51=>232 | n=>n,fun | 1=>3 | n=>n⟩
theorem Tryz.l144:Go.Proofs.Lays.n144 Tryz.prog Tryz.l144_ren:={
 mixed:=by kernel_rfl
 f143:=Tryz.func179.trans (congrArg some (by kernel_rfl))
 f144:=Tryz.func182.trans (congrArg some (by kernel_rfl))
 f217:=Tryz.func172.trans (congrArg some (by kernel_rfl))
 f219:=Tryz.func186.trans (congrArg some (by kernel_rfl))
 f224:=Tryz.func165.trans (congrArg some (by kernel_rfl))
 f225:=Tryz.func166.trans (congrArg some (by kernel_rfl))
 f266:=Tryz.func177.trans (congrArg some (by kernel_rfl))
 f267:=Tryz.func191.trans (congrArg some (by kernel_rfl))
 f314:=Tryz.func196.trans (congrArg some (by kernel_rfl))
 t3:=Tryz.underlying3
 a3:=Tryz.isAgg3
 z3:=Tryz.sizeOf3
 v3:=Tryz.zeroValue3
 t4:=Tryz.underlying4
 a4:=Tryz.isAgg4
 z4:=Tryz.sizeOf4
 v4:=Tryz.zeroValue4
 t5:=Tryz.underlying5
 a5:=Tryz.isAgg5
 z5:=Tryz.sizeOf5
 v5:=Tryz.zeroValue5
 t9:=Tryz.underlying9
 a9:=Tryz.isAgg9
 z9:=Tryz.sizeOf9
 v9:=Tryz.zeroValue9
 t46:=Tryz.underlying214
 a46:=Tryz.isAgg214
 z46:=Tryz.sizeOf214
 v46:=Tryz.zeroValue214
 t51:=Tryz.underlying232
 a51:=Tryz.isAgg232
 z51:=Tryz.sizeOf232
 v51:=Tryz.zeroValue232
 t146:=Tryz.underlying249
 a146:=Tryz.isAgg249
 z146:=Tryz.sizeOf249
 v146:=Tryz.zeroValue249
 g1:=by kernel_rfl }
def Tryz.l99_ren:Go.Shelf.Ren:=⟨fun | 99=>142 | 206=>150 | n=>n,fun | 9=>9 | 4=>4 | 3=>3 | n=>n,fun | n=>n⟩
theorem Tryz.l99:Go.Proofs.Lays.n99 Tryz.prog Tryz.l99_ren:={
 mixed:=by kernel_rfl
 f99:=Tryz.func142.trans (congrArg some (by kernel_rfl))
 f206:=Tryz.func150.trans (congrArg some (by kernel_rfl))
 t3:=Tryz.underlying3
 a3:=Tryz.isAgg3
 z3:=Tryz.sizeOf3
 v3:=Tryz.zeroValue3
 t4:=Tryz.underlying4
 a4:=Tryz.isAgg4
 z4:=Tryz.sizeOf4
 v4:=Tryz.zeroValue4
 t9:=Tryz.underlying9
 a9:=Tryz.isAgg9
 z9:=Tryz.sizeOf9
 v9:=Tryz.zeroValue9 }
def Tryz.l119_ren:Go.Shelf.Ren:=⟨fun | 119=>164 | n=>n,fun | 21=>21 | 4=>4 | n=>n,fun | n=>n⟩
theorem Tryz.l119:Go.Proofs.Lays.n119 Tryz.prog Tryz.l119_ren:={
 mixed:=by kernel_rfl
 f119:=Tryz.func164.trans (congrArg some (by kernel_rfl))
 t4:=Tryz.underlying4
 a4:=Tryz.isAgg4
 z4:=Tryz.sizeOf4
 v4:=Tryz.zeroValue4
 t21:=Tryz.underlying21
 a21:=Tryz.isAgg21
 z21:=Tryz.sizeOf21
 v21:=Tryz.zeroValue21 }
end Go.Proofs
namespace Go.Proofs.YtmfakcfmkmppfaaGreatDoor
open Go.RowKit Go.Shelf
theorem zb8 (l:List UInt8) (i:Nat):1<=(dc l i).2:=by
 rw [<-zgy];exact Lib.width_pos _ _
theorem zch {w:World} {k:Nat} {s:ByteArray} {p:Nat} (h:w.heap[k]?=some (.stringIter s p)):w.iterPos k=p:=by simp [World.iterPos,h]
def zak (l:List UInt8) (i:Nat):List (Int×Nat):=
 if i < l.length then ((if lo1 l i then -1 else ((dc l i).1:Int)),i) :: zak l (i+(dc l i).2) else [(-2,l.length)]
termination_by l.length - i
decreasing_by
 have:=zb8 l i;omega
def ccel (c:Int×Nat):List Value:=[.int .i32 c.1,.int .i64 (c.2:Int)]
def ze4 (L:List (Int×Nat)):List Value:=L.flatMap ccel
theorem zq3:(Tryz.prog.info? 196).map (fun i=>(i.zero,i.size,i.bytes))=some (some (.agg #[.int .i32 0,.int .i64 0]),2,16):=by kernel_rfl
theorem zcq {l:List UInt8} {i:Nat} (h:i < l.length):zak l i=((if lo1 l i then -1 else ((dc l i).1:Int)),i) :: zak l (i+(dc l i).2):=by rw [zak,if_pos h]
theorem zco {l:List UInt8} {i:Nat} (h:¬i < l.length):zak l i=[(-2,l.length)]:=by rw [zak,if_neg h]
theorem zd3 (L:List (Int×Nat)) (c:Int×Nat):ze4 (L++[c])=ze4 L++ccel c:=by simp [ze4]
theorem ziw (l:List UInt8) (i:Nat) (h:i < l.length):i+(dc l i).2<=l.length:=by
 unfold dc;rcases Lib.decodeN_shape (l.length - i) (bt l i) (bt l (i+1)) (bt l (i+2)) (bt l (i+3)) with ⟨a1,e⟩ | ⟨a1,a2,a3,a4,e⟩ | ⟨a1,a2,a3,a4,a5,a6,e⟩ | ⟨a1,a2,a3,a4,a5,a6,a7,e⟩ | e
 all_goals rw [e]
 all_goals simp only
 all_goals omega
theorem zrv {l:List UInt8} {i:Nat} (h:i < l.length):l[i]?=some (l.getD i 0):=by simp [List.getD,List.getElem?_eq_getElem h]
theorem u8_of {c:UInt8} {n:Nat} (h:c.toNat=n) (hn:n < 256):c=UInt8.ofNat n:=UInt8.toNat_inj.1 (by rw [h,UInt8.toNat_ofNat'];omega)
theorem pre_fffd (l:List UInt8) (i:Nat) (h:i < l.length) (h1:(dc l i).1=65533):Lib.hasPrefix (l.drop i) [239,191,189]=!lo1 l i:=by
 have hpre:Lib.hasPrefix (l.drop i) [239,191,189]=true↔(i+2 < l.length/\bt l i=239/\bt l (i+1)=191/\bt l (i+2)=189):=by
  unfold Lib.hasPrefix;rw [List.isPrefixOf_iff_prefix,List.prefix_iff_eq_take];constructor
  ·intro e
   have hl:=congrArg List.length e;simp at hl;have g:∀ j,j < 3->l[i+j]?=([239,191,189]:List UInt8)[j]?:=fun j hj=>by
    rw [e];simp [List.getElem?_drop,hj]
   exact ⟨by omega,by rw [zdh (c:=239) (by simpa using g 0 (by decide))];rfl,by rw [zdh (c:=191) (by simpa using g 1 (by decide))];rfl,by rw [zdh (c:=189) (by simpa using g 2 (by decide))];rfl⟩
  ·rintro ⟨h3,e0,e1,e2⟩
   have a0:=zrv h;have a1:=zrv (l:=l) (i:=i+1) (by omega);have a2:=zrv h3;rw [u8_of (c:=l.getD i 0) e0 (by decide)] at a0;rw [u8_of (c:=l.getD (i+1) 0) e1 (by decide)] at a1;rw [u8_of (c:=l.getD (i+2) 0) e2 (by decide)] at a2;refine List.ext_getElem? (fun j=>?_)
   match j with
   | 0=>simp [List.getElem?_drop,a0]
   | 1=>simp [List.getElem?_drop,a1]
   | 2=>simp [List.getElem?_drop,a2]
   | j+3=>rw [List.getElem?_eq_none (by simp),List.getElem?_eq_none (by simp;omega)]
 cases hlo:lo1 l i with
 | true=>
  have hd:dc l i=(65533,1):=of_decide_eq_true hlo;rw [Bool.not_true,Bool.eq_false_iff];intro hp;obtain ⟨h3,e0,e1,e2⟩:=hpre.1 hp;unfold dc at hd;rw [e0,e1,e2] at hd;unfold Lib.decodeN at hd;rw [if_neg (by decide),if_neg (by omega),if_pos ⟨by decide,⟨by omega,by decide⟩,⟨by omega,by decide⟩⟩] at hd;exact absurd hd (by decide)
 | false=>
  have hd:dc l i≠(65533,1):=of_decide_eq_false hlo;rw [Bool.not_false,hpre];have l0:=zg3 l i;have l1:=zg3 l (i+1);have l2:=zg3 l (i+2);rcases Lib.decodeN_shape (l.length - i) (bt l i) (bt l (i+1)) (bt l (i+2)) (bt l (i+3)) with ⟨a1,e⟩ | ⟨a1,a2,a3,a4,e⟩ | ⟨a1,a2,a3,a4,a5,a6,e⟩ | ⟨a1,a2,a3,a4,a5,a6,a7,e⟩ | e
  all_goals unfold dc at h1 hd
  all_goals rw [e] at h1 hd
  ·simp only at h1;omega
  ·simp only at h1;omega
  ·simp only at h1;omega
  ·simp only at h1;omega
  ·exact absurd rfl hd
theorem zoa (r:List UInt8) (w:World):Calls Tryz.prog 142 #[.string ⟨r.toArray⟩,.string ⟨#[239,191,189]⟩] w fun e w'=>e=.returned (.bool (Lib.hasPrefix r [239,191,189]))/\w'=w:=Any.strings_HasPrefix Tryz.l99 ⟨r.toArray⟩ ⟨#[239,191,189]⟩ w
theorem zf0 {W:World} {B n:Nat} {e:TypeId} {sz:Nat} {v:Value} {xs:List Value} {k p:Nat} {s:ByteArray} (h:W.ownsRow B e sz v n xs) (hk:W.heap[k]?=some (.stringIter s p)):v.ownBlock≠some k:=by
 intro hb;rcases h.2 with ⟨rfl,_⟩ | ⟨g,c,cur,rfl,_,hg,_⟩
 ·cases hb
 ·have:g=k:=by injection hb
  subst this;rw [hk] at hg;cases hg
set_option maxRecDepth 100000 in
set_option maxHeartbeats 2000000 in
theorem zlp (l:List UInt8) (w:World) (hs:l.length<=16384) :
  Calls Tryz.prog 131 #[.string ⟨l.toArray⟩] w fun e w'=>∃ v,e=.returned v/\w'.ownsRow w.heap.size 196 2 v (zak l 0).length (ze4 (zak l 0))/\Below w.heap.size w w':=by
 obtain ⟨i0,hi,hz0,hz1,hz2⟩:=info_parts zq3
 go_enter Tryz.func131,Tryz.ntmps131
 go_wp2_with (at_make;refine wpList_make_own _ rfl _ _ 182 rfl w.heap.size 196 i0 (.agg #[.int .i32 0,.int .i64 0]) 2 Tryz.underlying182 hi hz0 hz1 .i64 .i64 _ (l.length+1) rfl rfl (by omega) (by rw [hz2];omega) (by unfold maxLen;omega) (Nat.le_refl _) ?_;intro w1 hown hgrow)
 obtain ⟨KB,hKB⟩:=ex w1.heap.size;have B1:Below w.heap.size w w1:=(Below.refl _ _).grown hgrow (Nat.le_refl _) (fun k e=>by cases e);have hKw:w.heap.size<=KB:=by rw [<-hKB];exact B1.size
 have Hk0:(w1.iter ⟨l.toArray⟩ 0).heap[KB]?=some (.stringIter ⟨l.toArray⟩ 0):=by rw [<-hKB];exact World.iter_heap _ _ _
 have Ho0:(w1.iter ⟨l.toArray⟩ 0).ownsRow w.heap.size 196 2 (.slice (some ⟨w.heap.size,0,none⟩) 0 (l.length+1)) 0 (ze4 []):=hown.alloc _;have Hb0:Below w.heap.size w (w1.iter ⟨l.toArray⟩ 0):=B1.alloc (by omega) _;have HL:Hid (zak l 0=zak l 0):=rfl;clear hown hgrow B1;simp only [hKB]
 go_loopw [3] (fun v wr=>∃ (i:Nat) (D:List (Int×Nat)),i<=l.length/\D.length<=i/\D++zak l i=zak l 0/\wr.ownsRow w.heap.size 196 2 v D.length (ze4 D)/\wr.heap[KB]?=some (.stringIter ⟨l.toArray⟩ i)/\Below w.heap.size w wr) (fun _ wr=>l.length - wr.iterPos KB)
 case atStart=>exact ⟨0,[],Nat.zero_le _,Nat.zero_le _,rfl,Ho0,Hk0,Hb0⟩
 case round=>
  clear Hk0 Ho0 Hb0 HL;obtain ⟨i,D,hi1,hD,hch,hown,hk,hB⟩:=hrel
  by_cases hlt:i < l.length
  ·have hnx0:=fun ty=>Lib.run_next_any_at (P:=Tryz.prog) wr KB ⟨l.toArray⟩ i ty hk (by simpa [ByteArray.size] using hlt)
   have hp:=zb8 l i;have hle:=ziw l i hlt;rw [zgy] at hnx0;have hk2:=Lib.iterAt_heap wr KB ⟨l.toArray⟩ i (i+(dc l i).2) hk;have hb2:=Lib.below_iterAt hB hKw ⟨l.toArray⟩ (i+(dc l i).2);have hsz:(wr.iterAt KB ⟨l.toArray⟩ (i+(dc l i).2)).heap.size=wr.heap.size:=Lib.iterAt_size ..;have ho2:(wr.iterAt KB ⟨l.toArray⟩ (i+(dc l i).2)).ownsRow w.heap.size 196 2 u3 D.length (ze4 D):=hown.kept (row:=some KB) ⟨rfl,rfl,rfl,by rw [hsz];exact Nat.le_refl _,fun j _ hj=>Lib.iterAt_other wr KB j ⟨l.toArray⟩ _ (fun e=>hj (by rw [e]))⟩ (.inr (zf0 hown hk));have hpf:=pre_fffd l i hlt;have hcl:=zcq hlt;have hlo0:(dc l i).1≠65533->lo1 l i=false:=fun h=>decide_eq_false (fun e=>h (by rw [e]));obtain ⟨W2,hW2⟩:=ex (wr.iterAt KB ⟨l.toArray⟩ (i+(dc l i).2));rw [hW2] at hk2 hb2 hsz ho2;have hnx:∀ ty,(Instr.next (.pointer (some ⟨KB,0,none⟩)) true ty).run Tryz.prog wr=.ok (.tuple #[.bool true,.int .i64 (i:Int),.int .i32 ((dc l i).1:Int)]) W2:=fun ty=>by rw [<-hW2];exact hnx0 ty
   clear hnx0 hW2 hsz;obtain ⟨R,hR⟩:=ex ((dc l i).1);obtain ⟨K,hK⟩:=ex ((dc l i).2);obtain ⟨lo,hlo⟩:=ex (lo1 l i);rw [hR] at hpf hcl hlo0 hnx;rw [hK] at hk2 hp hle hcl;rw [hlo] at hpf hcl hlo0;clear hR hK hlo;have hzW:w.heap.size<=W2.heap.size:=hb2.size;have hE:=zf2 l i;have HP:=zoa (l.drop i);have j0:(0:Int)<=(i:Int):=by omega
   have j1:(i:Int)<=(l.length:Int):=by omega
   obtain ⟨qv,cv,rfl⟩:=zjk hown
   by_cases h65:R=65533
   ·subst h65
    rw [hpf rfl] at HP;cases lo with
    | true=>
     have HC:Hid (D++([((-1:Int),i)]++zak l (i+K))=zak l 0):=by unfold Hid;rw [<-hch,hcl];rfl
     clear hcl hpf hlo0 hch
     go_wp2_with fail
     refine (HP _).mono ?_;rintro e w3 ⟨rfl,rfl⟩
     go_wp2_with (at_builtin;refine wpList_append_own _ rfl _ _ 182 rfl w.heap.size 196 i0 _ 2 16 Tryz.underlying182 hi hz0 hz1 hz2 rfl (by decide) _ _ _ rfl (ho2.alloc _) ⟨w3.heap.size,0,none⟩ 1 1 (ccel ((-1:Int),i)) rfl rfl (World.news_of_block (cs:=#[.int .i32 ((-1:Int)),.int .i64 ((i:Nat):Int)]) (t:=196) (fr:=(0,0)) (zam _ _)) (by simp [ccel,Value.oneCell']) (by unfold maxLen;omega) (by omega) (by simp;omega) ?_;intro v5 w5 oB hg5 _)
     have nK:=zf0 ho2 hk2;have k5:w5.heap[KB]?=some (.stringIter ⟨l.toArray⟩ (i+K)):=(hg5.block KB (zay (zax hk2 _)) (fun e=>nK e.symm)).trans (zax hk2 _);have b5:Below w.heap.size w w5:=(hb2.alloc hzW _).grown hg5 (by simp;omega) (fun k e=>(ho2.lt k e).1);have hm5:w5.iterPos KB=i+K:=zch k5;have hm0:wr.iterPos KB=i:=zch hk;have HM:Hid (l.length - w5.iterPos KB < l.length - wr.iterPos KB):=by unfold Hid;rw [hm5,hm0];omega
     have R5:∃ (i':Nat) (D':List (Int×Nat)),i'<=l.length/\D'.length<=i'/\D'++zak l i'=zak l 0/\w5.ownsRow w.heap.size 196 2 v5 D'.length (ze4 D')/\w5.heap[KB]?=some (.stringIter ⟨l.toArray⟩ i')/\Below w.heap.size w w5:=⟨i+K,D++[((-1:Int),i)],by omega,by simp;omega,by rw [List.append_assoc];exact HC.out,by rw [List.length_append,zd3];exact oB,k5,b5⟩
     go_roundw
     case rel=>first | exact R5 | ((repeat apply Exists.intro);exact ⟨R5,rfl⟩)
     case measure=>exact HM.out
    | false=>
     have HC:Hid (D++([((65533:Int),i)]++zak l (i+K))=zak l 0):=by unfold Hid;rw [<-hch,hcl];rfl
     clear hcl hpf hlo0 hch
     go_wp2_with fail
     refine (HP _).mono ?_;rintro e w3 ⟨rfl,rfl⟩
     go_wp2_with (at_builtin;refine wpList_append_own _ rfl _ _ 182 rfl w.heap.size 196 i0 _ 2 16 Tryz.underlying182 hi hz0 hz1 hz2 rfl (by decide) _ _ _ rfl (ho2.alloc _) ⟨w3.heap.size,0,none⟩ 1 1 (ccel ((65533:Int),i)) rfl rfl (World.news_of_block (cs:=#[.int .i32 ((65533:Int)),.int .i64 ((i:Nat):Int)]) (t:=196) (fr:=(0,0)) (zam _ _)) (by simp [ccel,Value.oneCell']) (by unfold maxLen;omega) (by omega) (by simp;omega) ?_;intro v5 w5 oB hg5 _)
     have nK:=zf0 ho2 hk2;have k5:w5.heap[KB]?=some (.stringIter ⟨l.toArray⟩ (i+K)):=(hg5.block KB (zay (zax hk2 _)) (fun e=>nK e.symm)).trans (zax hk2 _);have b5:Below w.heap.size w w5:=(hb2.alloc hzW _).grown hg5 (by simp;omega) (fun k e=>(ho2.lt k e).1);have hm5:w5.iterPos KB=i+K:=zch k5;have hm0:wr.iterPos KB=i:=zch hk;have HM:Hid (l.length - w5.iterPos KB < l.length - wr.iterPos KB):=by unfold Hid;rw [hm5,hm0];omega
     have R5:∃ (i':Nat) (D':List (Int×Nat)),i'<=l.length/\D'.length<=i'/\D'++zak l i'=zak l 0/\w5.ownsRow w.heap.size 196 2 v5 D'.length (ze4 D')/\w5.heap[KB]?=some (.stringIter ⟨l.toArray⟩ i')/\Below w.heap.size w w5:=⟨i+K,D++[((65533:Int),i)],by omega,by simp;omega,by rw [List.append_assoc];exact HC.out,by rw [List.length_append,zd3];exact oB,k5,b5⟩
     go_roundw
     case rel=>first | exact R5 | ((repeat apply Exists.intro);exact ⟨R5,rfl⟩)
     case measure=>exact HM.out
   ·have e0:((R:Int)==65533)=false:=by rw [beq_eq_false_iff_ne];omega
    obtain rfl:lo=false:=hlo0 h65;have HC:Hid (D++([((R:Int),i)]++zak l (i+K))=zak l 0):=by unfold Hid;rw [<-hch,hcl];rfl
    clear hcl hpf hlo0 hch
    go_wp2_with (at_builtin;refine wpList_append_own _ rfl _ _ 182 rfl w.heap.size 196 i0 _ 2 16 Tryz.underlying182 hi hz0 hz1 hz2 rfl (by decide) _ _ _ rfl (ho2.alloc _) ⟨W2.heap.size,0,none⟩ 1 1 (ccel ((R:Int),i)) rfl rfl (World.news_of_block (cs:=#[.int .i32 ((R:Int)),.int .i64 ((i:Nat):Int)]) (t:=196) (fr:=(0,0)) (zam _ _)) (by simp [ccel,Value.oneCell']) (by unfold maxLen;omega) (by omega) (by simp;omega) ?_;intro v5 w5 oB hg5 _)
    have nK:=zf0 ho2 hk2;have k5:w5.heap[KB]?=some (.stringIter ⟨l.toArray⟩ (i+K)):=(hg5.block KB (zay (zax hk2 _)) (fun e=>nK e.symm)).trans (zax hk2 _);have b5:Below w.heap.size w w5:=(hb2.alloc hzW _).grown hg5 (by simp;omega) (fun k e=>(ho2.lt k e).1);have hm5:w5.iterPos KB=i+K:=zch k5;have hm0:wr.iterPos KB=i:=zch hk;have HM:Hid (l.length - w5.iterPos KB < l.length - wr.iterPos KB):=by unfold Hid;rw [hm5,hm0];omega
    have R5:∃ (i':Nat) (D':List (Int×Nat)),i'<=l.length/\D'.length<=i'/\D'++zak l i'=zak l 0/\w5.ownsRow w.heap.size 196 2 v5 D'.length (ze4 D')/\w5.heap[KB]?=some (.stringIter ⟨l.toArray⟩ i')/\Below w.heap.size w w5:=⟨i+K,D++[((R:Int),i)],by omega,by simp;omega,by rw [List.append_assoc];exact HC.out,by rw [List.length_append,zd3];exact oB,k5,b5⟩
    go_roundw
    case rel=>first | exact R5 | ((repeat apply Exists.intro);exact ⟨R5,rfl⟩)
    case measure=>exact HM.out
  ·have hnx:∀ ty,(Instr.next (.pointer (some ⟨KB,0,none⟩)) true ty).run Tryz.prog wr=.ok (.tuple #[.bool false]) wr:=fun ty=>Lib.run_next_end_at (P:=Tryz.prog) wr KB ⟨l.toArray⟩ i ty hk (by simpa [ByteArray.size] using hlt)
   rw [zco hlt] at hch;have HC:Hid (D++[((-2:Int),l.length)]=zak l 0):=hch;have hzW:w.heap.size<=wr.heap.size:=hB.size;clear hch;obtain ⟨qv,cv,rfl⟩:=zjk hown
   go_wp2_with (at_builtin;refine wpList_append_own _ rfl _ _ 182 rfl w.heap.size 196 i0 _ 2 16 Tryz.underlying182 hi hz0 hz1 hz2 rfl (by decide) _ _ _ rfl (hown.alloc _) ⟨wr.heap.size,0,none⟩ 1 1 (ccel ((-2:Int),l.length)) rfl rfl (World.news_of_block (cs:=#[.int .i32 ((-2:Int)),.int .i64 ((l.length:Nat):Int)]) (t:=196) (fr:=(0,0)) (zam _ _)) (by simp [ccel,Value.oneCell']) (by unfold maxLen;omega) (by omega) (by simp;omega) ?_;intro v5 w5 oB hg5 _)
   have b5:Below w.heap.size w w5:=(hB.alloc hzW _).grown hg5 (by simp;omega) (fun k e=>(hown.lt k e).1)
   go_ret
   refine ⟨v5,rfl,?_,b5⟩;rw [<-HC.out,List.length_append,zd3];exact oB
end Go.Proofs.YtmfakcfmkmppfaaGreatDoor
namespace Go.Proofs.YtmfakcfmkmppfaaGreatDoor
open Go.RowKit
def zed (r:Int):Int:=if 48<=r/\r<=57 then r - 48 else if 97<=r/\r<=102 then r - 97+10 else if 65<=r/\r<=70 then r - 65+10 else -1
set_option maxRecDepth 100000 in
theorem zj0 (r:Int) (w:World) (h0:-2<=r) (h1:r<=1114111) :
  Calls Tryz.prog 185 #[.int .i32 r] w fun e w'=>e=.returned (.int .i32 (zed r))/\w'=w:=by
 by_cases a1:48<=r/\r<=57
 ·have hr:Hid (zed r=r - 48):=by unfold Hid zed;rw [if_pos a1]
  have w0:IntKind.i32.wrap (r - 48)=r - 48:=by rw [IntKind.wrap_i32];omega
  have j0:48<=r:=by omega
  have j1:r<=57:=by omega
  go_enter Tryz.func185,Tryz.ntmps185
  go_wp2
  go_ret
  exact ⟨by rw [hr.out];rfl,rfl⟩
 ·by_cases a2:97<=r/\r<=102
  ·have hr:Hid (zed r=r - 97+10):=by unfold Hid zed;rw [if_neg a1,if_pos a2]
   have w0:IntKind.i32.wrap (r - 97)=r - 97:=by rw [IntKind.wrap_i32];omega
   have w1:IntKind.i32.wrap (r - 97+10)=r - 97+10:=by rw [IntKind.wrap_i32];omega
   have j0:48<=r:=by omega
   have j1:¬r<=57:=by omega
   have j2:97<=r:=by omega
   have j3:r<=102:=by omega
   go_enter Tryz.func185,Tryz.ntmps185
   go_wp2
   go_ret
   exact ⟨by rw [hr.out];rfl,rfl⟩
  ·by_cases a3:65<=r/\r<=70
   ·have hr:Hid (zed r=r - 65+10):=by unfold Hid zed;rw [if_neg a1,if_neg a2,if_pos a3]
    have w0:IntKind.i32.wrap (r - 65)=r - 65:=by rw [IntKind.wrap_i32];omega
    have w1:IntKind.i32.wrap (r - 65+10)=r - 65+10:=by rw [IntKind.wrap_i32];omega
    have j0:48<=r:=by omega
    have j1:¬r<=57:=by omega
    have j2:¬97<=r:=by omega
    have j3:65<=r:=by omega
    have j4:r<=70:=by omega
    go_enter Tryz.func185,Tryz.ntmps185
    go_wp2
    go_ret
    exact ⟨by rw [hr.out];rfl,rfl⟩
   ·have hr:Hid (zed r=-1):=by unfold Hid zed;rw [if_neg a1,if_neg a2,if_neg a3]
    by_cases c1:48<=r
    ·have d1:¬r<=57:=by omega
     by_cases c2:97<=r
     ·have d2:¬r<=102:=by omega
      have c3:65<=r:=by omega
      have d3:¬r<=70:=by omega
      go_enter Tryz.func185,Tryz.ntmps185
      go_wp2
      go_ret
      exact ⟨by rw [hr.out];rfl,rfl⟩
     ·by_cases c3:65<=r
      ·have d3:¬r<=70:=by omega
       go_enter Tryz.func185,Tryz.ntmps185
       go_wp2
       go_ret
       exact ⟨by rw [hr.out];rfl,rfl⟩
      ·go_enter Tryz.func185,Tryz.ntmps185
       go_wp2
       go_ret
       exact ⟨by rw [hr.out];rfl,rfl⟩
    ·have c2:¬97<=r:=by omega
     have c3:¬65<=r:=by omega
     go_enter Tryz.func185,Tryz.ntmps185
     go_wp2
     go_ret
     exact ⟨by rw [hr.out];rfl,rfl⟩
def CH (W:World) (ad:Addr) (C:List (Int×Nat)):Prop:=∀ k c,C[k]?=some c->W.cell? (ad.add (k*2))=some (.int .i32 c.1)/\W.cell? (ad.add (k*2+1))=some (.int .i64 (c.2:Int))
theorem CH.below {W X:World} {ad:Addr} {C:List (Int×Nat)} (h:CH W ad C) (hb:Below W.heap.size W X):CH X ad C:=fun k c hc=>
 ⟨(hb.cell (World.block_lt_of_cell? W _ (h k c hc).1)).trans (h k c hc).1,(hb.cell (World.block_lt_of_cell? W _ (h k c hc).2)).trans (h k c hc).2⟩
def zgt:Nat->List (Int×Nat)->Nat->Nat×Nat
 | 0,_,n=>(0,n)
 | _+1,[],n=>(0,n)
 | f+1,c :: r,n=>if 0<=zed c.1 then ((zgt f r (16*n+(zed c.1).toNat)).1+1,(zgt f r (16*n+(zed c.1).toNat)).2) else (0,n)
theorem hexC_no {f:Nat} {C:List (Int×Nat)} {k:Nat} {c:Int×Nat} (h:C[k]?=some c) (hc:¬0<=zed c.1) (n:Nat):zgt f (C.drop k) n=(0,n):=by
 obtain ⟨hk,rfl⟩:=List.getElem?_eq_some_iff.1 h;rw [List.drop_eq_getElem_cons hk];cases f with
 | zero=>rfl
 | succ f=>rw [zgt,if_neg hc]
theorem hexC_yes {f:Nat} {C:List (Int×Nat)} {k:Nat} {c:Int×Nat} (h:C[k]?=some c) (hc:0<=zed c.1) (n:Nat):zgt (f+1) (C.drop k) n=((zgt f (C.drop (k+1)) (16*n+(zed c.1).toNat)).1+1,(zgt f (C.drop (k+1)) (16*n+(zed c.1).toNat)).2):=by
 obtain ⟨hk,rfl⟩:=List.getElem?_eq_some_iff.1 h;rw [List.drop_eq_getElem_cons hk,zgt,if_pos hc]
theorem hexI_lt (r:Int):-1<=zed r/\zed r < 16:=by
 unfold zed
 repeat' split
 all_goals omega
theorem shl_or32 (m d:Nat) (hm:m < 1048576) (hd:d < 16):bits .or .i32 ((m:Int)*16) (d:Int)=((16*m+d:Nat):Int):=by
 have h1:(m:Int)*16=((16*m:Nat):Int):=by omega
 rw [h1];have a1:(BitVec.ofInt 32 ((16*m:Nat):Int)).toNat=16*m:=by
  rw [BitVec.ofInt_natCast,BitVec.toNat_ofNat];exact Nat.mod_eq_of_lt (by omega)
 have a2:(BitVec.ofInt 32 (d:Int)).toNat=d:=by
  rw [BitVec.ofInt_natCast,BitVec.toNat_ofNat];exact Nat.mod_eq_of_lt (by omega)
 have a3:16*m ||| d=16*m+d:=by
  have:=Nat.two_pow_add_eq_or_of_lt (i:=4) (b:=d) (by omega) m;rw [show (16:Nat)=2 ^ 4 by decide];exact this.symm
 show IntKind.i32.wrap ((BitVec.ofInt 32 ((16*m:Nat):Int) ||| BitVec.ofInt 32 (d:Int)).toNat:Int)=_;rw [BitVec.toNat_or,a1,a2,a3,IntKind.wrap_i32];omega
set_option maxRecDepth 100000 in
set_option maxHeartbeats 1000000 in
theorem zj2 (C:List (Int×Nat)) (ad:Addr) (cap most:Nat) (w:World) (hmost:most<=6) (hC0:CH w ad C) (hr0:∀ c∈C,-2<=c.1/\c.1<=1114111) (hend0:∃ (k:Nat) (c:Int×Nat),C[k]?=some c/\¬0<=zed c.1) :
  Calls Tryz.prog 176 #[.slice (some ad) C.length cap,.int .i64 (most:Int)] w fun e w'=>e=.returned (.tuple #[.int .i32 ((zgt most C 0).2:Int),.int .i64 ((zgt most C 0).1:Int)])/\w'=w:=by
 have hC:Hid (CH w ad C):=hC0;have hr:Hid (∀ c∈C,-2<=c.1/\c.1<=1114111):=hr0;obtain ⟨ke,ce,hke,hce0⟩:=hend0;have hce:Hid (¬0<=zed ce.1):=hce0;clear hce0;clear hC0 hr0
 go_enter Tryz.func176,Tryz.ntmps176
 go_wp2_with fail
 go_loop [6,7] (fun vv vn=>∃ (n f m:Nat),vv=.int .i32 m/\vn=.int .i64 n/\Hid (n+f=most/\n<=ke/\m < 16 ^ n/\zgt most C 0=((zgt f (C.drop n) m).1+n,(zgt f (C.drop n) m).2))) (fun _ vn=>most - (intOf vn).toNat)
 case atStart=>exact ⟨0,most,0,rfl,rfl,by omega,Nat.zero_le _,by decide,by simp⟩
 case round=>
  obtain ⟨n,f,m,rfl,rfl,hh⟩:=hrel;obtain ⟨hnf,hnk,hm,hq⟩:=hh.out;have hke2:=(List.getElem?_eq_some_iff.1 hke).1;cases f with
  | zero=>
   have i1:¬(n:Int) < (most:Int):=by omega
   have h0:zgt 0 (C.drop n) m=(0,m):=rfl;rw [h0,Nat.zero_add] at hq;have HQ:Hid (zgt most C 0=(n,m)):=hq;clear hq h0 hh hnf hm
   go_wp2_with fail
   go_ret2
   exact ⟨by rw [HQ.out];rfl,rfl⟩
  | succ f=>
   have i1:(n:Int) < (most:Int):=by omega
   have hnl:n < C.length:=by omega
   have i2:(n:Int) < (C.length:Int):=by omega
   have i0:(0:Int)<=(n:Int):=by omega
   obtain ⟨c,hc⟩:∃ c,C[n]?=some c:=⟨_,List.getElem?_eq_getElem hnl⟩;obtain ⟨x0,x1⟩:=hC.out n c hc;obtain ⟨r0,r1⟩:=hr.out c (List.mem_of_getElem? hc);have HV:=fun W=>zj0 c.1 W r0 r1;obtain ⟨q0,q1⟩:=hexI_lt c.1
   by_cases hp:0<=zed c.1
   ·obtain ⟨d,hd⟩:∃ d:Nat,zed c.1=d:=⟨(zed c.1).toNat,by omega⟩
    rw [hexC_yes hc hp,hd,show ((d:Int)).toNat=d from Int.toNat_natCast d] at hq;have hm2:m < 1048576:=Nat.lt_of_lt_of_le hm (Nat.pow_le_pow_right (j:=5) (show 16 > 0 by decide) (by omega));have hne:n≠ke:=fun e=>by
     have h1:=hce.out;rw [e,hke] at hc;rw [<-Option.some.inj hc] at hp;omega
    have HH:Hid (n+1+f=most/\n+1<=ke/\16*m+d < 16 ^ (n+1)/\zgt most C 0=((zgt f (C.drop (n+1)) (16*m+d)).1+(n+1),(zgt f (C.drop (n+1)) (16*m+d)).2)):=⟨by omega,by omega,by rw [Nat.pow_succ];omega,by rw [hq];simp;omega⟩;have hb:=shl_or32 m d hm2 (by omega);have jd:(0:Int)<=(d:Int):=by omega
    rw [hd] at HV;obtain ⟨c0,hc0⟩:=ex c.1;rw [hc0] at x0 HV;have hcast:((16*m+d:Nat):Int)=16*(m:Int)+(d:Int):=by omega
    have HZ:Hid (n+(f+1)=most):=hnf;clear hq hh hp hd hm hne hnf hc0 r0 r1 q0 q1 hcast
    go_wp2_with fail
    refine (HV _).mono ?_;rintro e w2 ⟨rfl,rfl⟩
    go_wp2_with fail
    refine (HV _).mono ?_;rintro e w3 ⟨rfl,rfl⟩
    go_wp2_with fail
    go_round
    case rel=>exact ⟨n+1,f,16*m+d,by go_num,by go_num,HH⟩
    case measure=>have:=HZ.out;simp [intOf];omega
   ·rw [hexC_no hc hp,Nat.zero_add] at hq
    have HQ:Hid (zgt most C 0=(n,m)):=hq;obtain ⟨z,hz⟩:=ex (zed c.1);rw [hz] at HV hp;have jz:¬(0:Int)<=z:=hp;obtain ⟨c0,hc0⟩:=ex c.1;rw [hc0] at x0 HV;clear hq hh hm hnf hc0 r0 r1 q0 q1 hz hp
    go_wp2_with fail
    refine (HV _).mono ?_;rintro e w2 ⟨rfl,rfl⟩
    go_wp2_with fail
    go_ret2
    exact ⟨by rw [HQ.out];rfl,rfl⟩
def zbu (c:UInt8):Option Nat:=
 if 48<=c.toNat/\c.toNat<=57 then some (c.toNat - 48) else if 97<=c.toNat/\c.toNat<=102 then some (c.toNat - 87) else if 65<=c.toNat/\c.toNat<=70 then some (c.toNat - 55) else none
def zcr (c:UInt8):Option Nat:=if c=48 then some 0 else if c=49 then some 1 else none
def zaw (b:Nat) (D:UInt8->Option Nat):List UInt8->Nat->Option Nat
 | [],n=>some n
 | c :: r,n=>match D c with
  | some d=>zaw b D r (b*n+d)
  | none=>none
theorem zik {c:UInt8} {d:Nat} (h:zbu c=some d):d < 16:=by
 unfold zbu at h
 split at h
 ·obtain rfl:=Option.some.inj h;omega
 ·split at h
  ·obtain rfl:=Option.some.inj h;omega
  ·split at h
   ·obtain rfl:=Option.some.inj h;omega
   ·cases h
def zan:Nat->List UInt8->Nat->Nat×Nat
 | 0,_,n=>(0,n)
 | _+1,[],n=>(0,n)
 | f+1,c :: r,n=>match zbu c with
  | some d=>((zan f r (16*n+d)).1+1,(zan f r (16*n+d)).2)
  | none=>(0,n)
def brS (l:List UInt8) (i:Nat):Nat×Nat:=
 if l.length < i+3∨bt l (i+2)≠123 then (0,0) else
  if (zan 6 (l.drop (i+3)) 0).1=0∨l.length<=i+3+(zan 6 (l.drop (i+3)) 0).1∨bt l (i+3+(zan 6 (l.drop (i+3)) 0).1)≠125∨1114111 < (zan 6 (l.drop (i+3)) 0).2∨(55296<=(zan 6 (l.drop (i+3)) 0).2/\(zan 6 (l.drop (i+3)) 0).2<=57343) then (0,0)
  else (4+(zan 6 (l.drop (i+3)) 0).1,(zan 6 (l.drop (i+3)) 0).2)
def utfL (n:Nat):List UInt8:=
 if n < 128 then [UInt8.ofNat n] else if n < 2048 then [UInt8.ofNat (192+n / 64),UInt8.ofNat (128+n % 64)]
 else if n < 65536 then [UInt8.ofNat (224+n / 4096),UInt8.ofNat (128+n / 64 % 64),UInt8.ofNat (128+n % 64)]
 else [UInt8.ofNat (240+n / 262144),UInt8.ofNat (128+n / 4096 % 64),UInt8.ofNat (128+n / 64 % 64),UInt8.ofNat (128+n % 64)]
theorem ofN (n:Nat) (h:n < 256):((UInt8.ofNat n).toNat:Int)=(n:Int):=by rw [UInt8.toNat_ofNat'];omega
def zbj (l:List UInt8) (i:Nat):Nat×List UInt8:=
 if l.length<=i+1 then (0,[])
 else if bt l (i+1)=34 then (2,[34])
 else if bt l (i+1)=92 then (2,[92])
 else if bt l (i+1)=110 then (2,[10])
 else if bt l (i+1)=114 then (2,[13])
 else if bt l (i+1)=116 then (2,[9])
 else if bt l (i+1)=120 then (if i+3 < l.length then match zbu (l.getD (i+2) 0),zbu (l.getD (i+3) 0) with
  | some a,some b=>(4,[UInt8.ofNat (16*a+b)])
  | _,_=>(0,[]) else (0,[]))
 else if bt l (i+1)=117 then (if 0 < (brS l i).1 then ((brS l i).1,utfL (brS l i).2) else (0,[]))
 else (0,[])
theorem zl0 (n:Nat):(utfL n).length<=4:=by
 unfold utfL
 repeat' split
 all_goals simp
theorem zrw (l:List UInt8) (i:Nat) (h:0 < (brS l i).1):5<=(brS l i).1/\i+(brS l i).1<=l.length:=by
 unfold brS at h ⊢
 split at h
 ·simp at h
 ·split at h
  ·simp at h
  ·rename_i h1 h2
   rw [if_neg h1,if_neg h2];show 5<=4+(zan 6 (l.drop (i+3)) 0).1/\i+(4+(zan 6 (l.drop (i+3)) 0).1)<=l.length;omega
theorem zez (l:List UInt8) (i:Nat) (h:0 < (zbj l i).1):i+(zbj l i).1<=l.length/\(zbj l i).2.length<=(zbj l i).1:=by
 unfold zbj at h ⊢
 split at h
 ·simp at h
 rename_i g0
 rw [if_neg g0]
 repeat' split
 all_goals first
  | (simp;omega)
  | (rename_i g;have hb1:=zrw l i g;have hu:=zl0 (brS l i).2;exact ⟨hb1.2,by omega⟩)
  | skip
 all_goals simp_all
 have hb1:=zrw l i (by assumption);have hu:=zl0 (brS l i).2;exact ⟨hb1.2,by omega⟩
end Go.Proofs.YtmfakcfmkmppfaaGreatDoor

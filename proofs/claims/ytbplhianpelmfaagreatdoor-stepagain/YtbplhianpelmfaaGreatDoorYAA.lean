import Derived.Deep.RegionHeld3
import Derived.ProofKit
import Derived.Test.YtbplhianpelmfaaGreatDoorChecked
import Derived.WalkKit
import Derived.Below
import Derived.BigQuiet
import Derived.OwnWalk
import Derived.Lib.IndexLaws
import Derived.Deep.DeepCutAuto
import Derived.Deep.RegionWith
import Derived.Deep.QuietTactic
import Derived.Lib.DecodeN
import Derived.Lib.MapLaws
import Derived.Shelf.Strconv.AtoiAll
import Derived.Shelf.Strconv.ErrVarAll
import Derived.Shelf.Strings.Search3
import Derived.Shelf.Strings.Prefix
import Derived.Shelf.Small.Wraps
import Derived.Shelf.Small.Utf8
import Derived.Ground.NamesProg
import Derived.Test.YtbplhianpelmfaaGreatDoorProg
import Derived.Deep.AppendLies
import Derived.Lib.OthersKept
import Derived.Laws.IdiomStrings
namespace Go.Proofs.YtbplhianpelmfaaGreatDoor
theorem tk {P:Program} {ops:Array Oper} {Q:Exit→Act→World→Prop} {md:Region.Mode} {S:World→Prop} (i:Nat) (v:Value) {oi:Oper} {fuel:Nat} {listed:Array Bool} {a:Act} {w:World} (hi:ops[i]?=some oi) (hS:S w) (hx:∀ w,S w→(execOp a.eval oi).run P w=.ok (.value v) w) (h:wpAnyH P md ops Q S fuel (listed.setIfInBounds i true) (a.put oi.dst v) w) (hs:Region.noSelect ops=true:=by kernel_rfl) (hf:Region.free md ops listed i=true:=by kernel_rfl) (hr:(Region.ready md ops listed).contains i=true:=by kernel_rfl) (hw:Region.wanted oi (yielded ops a.tmps)=true:=by kernel_rfl) (hQ:∀ c a w,Q (.panic c) (a.put oi.dst v) w→Q (.panic c) a w:=by exact fun _ _ _ h=>h):wpAnyH P md ops Q S (fuel+1) listed a w:=
 wpAnyH_take hi hs hf hr hQ (Or.inl ⟨hw,hx⟩) hS h
theorem tq {P:Program} {ops:Array Oper} {Q:Exit→Act→World→Prop} {md:Region.Mode} {S:World→Prop} (i:Nat) {oi:Oper} {fuel:Nat} {listed:Array Bool} {a:Act} {w:World} (hi:ops[i]?=some oi) (hS:S w) (h:wpAnyH P md ops Q S fuel (listed.setIfInBounds i true) (a.put oi.dst undef) w) (hs:Region.noSelect ops=true:=by kernel_rfl) (hf:Region.free md ops listed i=true:=by kernel_rfl) (hr:(Region.ready md ops listed).contains i=true:=by kernel_rfl) (hw:Region.wanted oi (yielded ops a.tmps)=false:=by kernel_rfl) (hQ:∀ c a w,Q (.panic c) (a.put oi.dst undef) w→Q (.panic c) a w:=by exact fun _ _ _ h=>h):wpAnyH P md ops Q S (fuel+1) listed a w:=
 wpAnyH_take hi hs hf hr hQ (Or.inr ⟨hw,rfl⟩) hS h
theorem rd {P:Program} {ops:Array Oper} {Q:Exit→Act→World→Prop} {md:Region.Mode} {S:World→Prop} (i:Nat) {o:Oper} {fuel:Nat} {listed:Array Bool} {a:Act} {w:World} (ho:ops[i]?=some o) (h:∀ K':Act→World→Prop,Shut (∀ a w,S w→(S w→wpAnyH P md ops Q S fuel (listed.setIfInBounds i true) a w)→K' a w)→if Region.wanted o (yielded ops a.tmps)=true then Oper.wp P o a w K' Q else K' (a.put o.dst undef) w) (hr:Region.ready md ops listed=[i]:=by kernel_rfl):wpAnyH P md ops Q S (fuel+1) listed a w:=
 wpAnyH_ready hr (by simp) (AllReadyH.cons ho h AllReadyH.nil)
end Go.Proofs.YtbplhianpelmfaaGreatDoor
namespace Go.Proofs.YtbplhianpelmfaaGreatDoor
open Go.RowKit
theorem quiet_lit3 {P:Program} {id:Nat} {Q:Exit→Act→World→Prop} {a:Act} {w:World} {l:List Oper} {C:World→Prop} (hm:P.follows .mixedOrders=true) (hB:Region.lexB .any l.toArray=true) (hC:C w.drew)
  (h:wpQuiet P l.toArray C (fun a'=>∀ w',C w'→Q .normal a' w') l a):(Code.region id l.toArray true).wp P Q a w:=
 wp_region_quiet (C:=C) hm hB hC (by simpa using h)

theorem alloc_get (w:World) (o:Obj):(w.alloc o).heap[w.heap.size]?=some o:=by
 show (w.heap.push o)[w.heap.size]?=_
 simp

theorem lt_of_get {w:World} {b:Nat} {o:Obj} (h:w.heap[b]?=some o):b < w.heap.size:=by
 rcases Nat.lt_or_ge b w.heap.size with h1 | h1
 ·exact h1
 ·rw [Array.getElem?_eq_none h1] at h;cases h

theorem grown_of_below {w w':World} (h:Below w.heap.size w w') (row:Option Nat):w.grownBy w' row:=
 ⟨h.os,h.tape,h.output,h.size,fun k hk _=>h.block k hk⟩

theorem owns_below {w w':World} {base:Nat} {e:TypeId} {size:Nat} {v:Value} {n:Nat} {xs:List Value} (h:w.ownsRow base e size v n xs) (hb:Below w.heap.size w w'):w'.ownsRow base e size v n xs:=by
 refine h.kept (grown_of_below hb none) ?_
 cases v.ownBlock <;> simp

theorem bel1 {w w1:World} {o:Obj} (h:Below (w.alloc o).heap.size (w.alloc o) w1):Below w.heap.size w w1:=
 ((Below.refl _ _).alloc (Nat.le_refl _) _).trans (h.mono (by simp))
theorem bel0 {w w1 w2:World} (h:Below w.heap.size w w1) (h2:Below w1.heap.size w1 w2):Below w.heap.size w w2:=h.trans (h2.mono h.size)
theorem keepblk {W w':World} {b:Nat} {o:Obj} (hb:Below W.heap.size W w') (h:W.heap[b]?=some o):w'.heap[b]?=some o:=(hb.block b (lt_of_get h)).trans h
theorem allocblk {W:World} {b:Nat} {o:Obj} (h:W.heap[b]?=some o) (O:Obj):(W.alloc O).heap[b]?=some o:=(Below.heap_alloc _ _ _ (lt_of_get h)).trans h

theorem shapeP {W:World} {B n:Nat} {e:TypeId} {v:Value} {xs:List Value} {sz:Nat} (h:W.ownsRow B e sz v n xs):∃ p c,v=.slice p n c:=by
 rcases h.2 with ⟨rfl,rfl⟩ | ⟨g,c,_,rfl,_⟩
 ·exact ⟨_,_,rfl⟩
 ·exact ⟨_,_,rfl⟩
theorem bel_drewN {B:Nat} {w W:World} (n:Nat) (h:Below B w W):Below B w (W.drewN n):=h.trans ⟨rfl,rfl,rfl,Nat.le_refl _,fun _ _=>rfl⟩
theorem ext_drop (l:List UInt8) (i:Nat):(ByteArray.mk l.toArray).extract i l.length=⟨(l.drop i).toArray⟩:=ByteArray.ext (by simp;exact List.take_of_length_le (by simp))
def bt (l:List UInt8) (i:Nat):Nat:=(l.getD i 0).toNat
def dc (l:List UInt8) (i:Nat):Nat×Nat:=Lib.decodeN (l.length - i) (bt l i) (bt l (i+1)) (bt l (i+2)) (bt l (i+3))
theorem bt_lt (l:List UInt8) (i:Nat):bt l i < 256:=UInt8.toNat_lt _
theorem bt_of {l:List UInt8} {i:Nat} {c:UInt8} (h:l[i]?=some c):bt l i=c.toNat:=by simp [bt,List.getD,h]
theorem dc_decode (l:List UInt8) (i:Nat):Utf8.decode ⟨l.toArray⟩ i=dc l i:=by
 have hg:∀ j,(ByteArray.mk l.toArray).get! j=l.getD j 0:=by
  intro j
  simp [ByteArray.get!,List.getD,Array.getElem!_eq_getD]
  rfl
 rw [Lib.decode_at,hg,hg,hg,hg]
 unfold dc bt
 rw [show (ByteArray.mk l.toArray).size=l.length by simp [ByteArray.size]]
def lo1 (l:List UInt8) (i:Nat):Bool:=decide (dc l i=(65533,1))
end Go.Proofs.YtbplhianpelmfaaGreatDoor
namespace Go.Proofs
open Go.Shelf
def Tryz.l172_ren:Go.Shelf.Ren:=⟨fun | 172=>156 | 244=>161 | 245=>160 | 247=>170 | 279=>166 | 280=>167 | 281=>168 | 282=>169 | 287=>159 | 316=>108 | 171=>157 | 205=>172 | 321=>164 | 322=>165 | 243=>162 | 246=>171 | 283=>173 | 284=>174 | 285=>175 | 286=>176 | 129=>178 | 317=>177 | 318=>179 | 319=>180 | 320=>181 | 337=>182 | 338=>183 | n=>n,fun | 9=>9 | 3=>3 | 75=>220 | 76=>223 | 4=>4 | 5=>5 | 167=>229 | 37=>87 | 0=>0 | 85=>234 | 2=>2 | 168=>231 | 53=>75 | 175=>221 | 46=>192 | 210=>238 | 127=>181 | 145=>247 | 143=>245 | 21=>21 | 171=>240 | 173=>243 | 212=>249 | 51=>210 | 20=>20 | 213=>250 | 232=>253 | 233=>254 | 80=>83 | n=>n,fun | 15=>5 | 16=>6 | 17=>7 | 18=>8 | 19=>9 | n=>n⟩
theorem Tryz.l172:Go.Proofs.LaysC.n172 Tryz.prog Tryz.l172_ren:={
 mixed:=by kernel_rfl
 f129:=Tryz.func178.trans (congrArg some (by kernel_rfl))
 f171:=Tryz.func157.trans (congrArg some (by kernel_rfl))
 f172:=Tryz.func156.trans (congrArg some (by kernel_rfl))
 f205:=Tryz.func172.trans (congrArg some (by kernel_rfl))
 f243:=Tryz.func162.trans (congrArg some (by kernel_rfl))
 f244:=Tryz.func161.trans (congrArg some (by kernel_rfl))
 f245:=Tryz.func160.trans (congrArg some (by kernel_rfl))
 f246:=Tryz.func171.trans (congrArg some (by kernel_rfl))
 f247:=Tryz.func170.trans (congrArg some (by kernel_rfl))
 f279:=Tryz.func166.trans (congrArg some (by kernel_rfl))
 f280:=Tryz.func167.trans (congrArg some (by kernel_rfl))
 f281:=Tryz.func168.trans (congrArg some (by kernel_rfl))
 f282:=Tryz.func169.trans (congrArg some (by kernel_rfl))
 f283:=Tryz.func173.trans (congrArg some (by kernel_rfl))
 f284:=Tryz.func174.trans (congrArg some (by kernel_rfl))
 f285:=Tryz.func175.trans (congrArg some (by kernel_rfl))
 f286:=Tryz.func176.trans (congrArg some (by kernel_rfl))
 f287:=Tryz.func159.trans (congrArg some (by kernel_rfl))
 f316:=Tryz.func108.trans (congrArg some (by kernel_rfl))
 f317:=Tryz.func177.trans (congrArg some (by kernel_rfl))
 f318:=Tryz.func179.trans (congrArg some (by kernel_rfl))
 f319:=Tryz.func180.trans (congrArg some (by kernel_rfl))
 f320:=Tryz.func181.trans (congrArg some (by kernel_rfl))
 f321:=Tryz.func164.trans (congrArg some (by kernel_rfl))
 f322:=Tryz.func165.trans (congrArg some (by kernel_rfl))
 f337:=Tryz.func182.trans (congrArg some (by kernel_rfl))
 f338:=Tryz.func183.trans (congrArg some (by kernel_rfl))
 t0:=Tryz.underlying0
 a0:=Tryz.isAgg0
 z0:=Tryz.sizeOf0
 v0:=Tryz.zeroValue0
 t2:=Tryz.underlying2
 a2:=Tryz.isAgg2
 z2:=Tryz.sizeOf2
 v2:=Tryz.zeroValue2
 t3:=Tryz.underlying3
 a3:=Tryz.isAgg3
 z3:=Tryz.sizeOf3
 v3:=Tryz.zeroValue3
 t4:=Tryz.underlying4
 a4:=Tryz.isAgg4
 z4:=Tryz.sizeOf4
 v4:=Tryz.zeroValue4
 t5:=Tryz.underlying5
 a5:=Tryz.isAgg5
 z5:=Tryz.sizeOf5
 v5:=Tryz.zeroValue5
 t9:=Tryz.underlying9
 a9:=Tryz.isAgg9
 z9:=Tryz.sizeOf9
 v9:=Tryz.zeroValue9
 t20:=Tryz.underlying20
 a20:=Tryz.isAgg20
 z20:=Tryz.sizeOf20
 v20:=Tryz.zeroValue20
 t21:=Tryz.underlying21
 a21:=Tryz.isAgg21
 z21:=Tryz.sizeOf21
 v21:=Tryz.zeroValue21
 t37:=Tryz.underlying87
 a37:=Tryz.isAgg87
 z37:=Tryz.sizeOf87
 v37:=Tryz.zeroValue87
 t46:=Tryz.underlying192
 a46:=Tryz.isAgg192
 z46:=Tryz.sizeOf192
 v46:=Tryz.zeroValue192
 t51:=Tryz.underlying210
 a51:=Tryz.isAgg210
 z51:=Tryz.sizeOf210
 v51:=Tryz.zeroValue210
 t53:=Tryz.underlying75
 a53:=Tryz.isAgg75
 z53:=Tryz.sizeOf75
 v53:=Tryz.zeroValue75
 t75:=Tryz.underlying220
 a75:=Tryz.isAgg220
 z75:=Tryz.sizeOf220
 v75:=Tryz.zeroValue220
 t76:=Tryz.underlying223
 a76:=Tryz.isAgg223
 z76:=Tryz.sizeOf223
 v76:=Tryz.zeroValue223
 t85:=Tryz.underlying234
 a85:=Tryz.isAgg234
 z85:=Tryz.sizeOf234
 v85:=Tryz.zeroValue234
 t127:=Tryz.underlying181
 a127:=Tryz.isAgg181
 z127:=Tryz.sizeOf181
 v127:=Tryz.zeroValue181
 t143:=Tryz.underlying245
 a143:=Tryz.isAgg245
 z143:=Tryz.sizeOf245
 v143:=Tryz.zeroValue245
 t145:=Tryz.underlying247
 a145:=Tryz.isAgg247
 z145:=Tryz.sizeOf247
 v145:=Tryz.zeroValue247
 t167:=Tryz.underlying229
 a167:=Tryz.isAgg229
 z167:=Tryz.sizeOf229
 v167:=Tryz.zeroValue229
 t168:=Tryz.underlying231
 a168:=Tryz.isAgg231
 z168:=Tryz.sizeOf231
 v168:=Tryz.zeroValue231
 t171:=Tryz.underlying240
 a171:=Tryz.isAgg240
 z171:=Tryz.sizeOf240
 v171:=Tryz.zeroValue240
 t173:=Tryz.underlying243
 a173:=Tryz.isAgg243
 z173:=Tryz.sizeOf243
 v173:=Tryz.zeroValue243
 t175:=Tryz.underlying221
 a175:=Tryz.isAgg221
 z175:=Tryz.sizeOf221
 v175:=Tryz.zeroValue221
 t210:=Tryz.underlying238
 a210:=Tryz.isAgg238
 z210:=Tryz.sizeOf238
 v210:=Tryz.zeroValue238
 t212:=Tryz.underlying249
 a212:=Tryz.isAgg249
 z212:=Tryz.sizeOf249
 v212:=Tryz.zeroValue249
 t213:=Tryz.underlying250
 a213:=Tryz.isAgg250
 z213:=Tryz.sizeOf250
 t232:=Tryz.underlying253
 a232:=Tryz.isAgg253
 z232:=Tryz.sizeOf253
 v232:=Tryz.zeroValue253
 t233:=Tryz.underlying254
 a233:=Tryz.isAgg254
 z233:=Tryz.sizeOf254
 v233:=Tryz.zeroValue254
 g15:=by kernel_rfl
 g16:=by kernel_rfl
 g17:=by kernel_rfl
 g18:=by kernel_rfl
 g19:=by kernel_rfl
 t80:=Tryz.underlying83
 a80:=Tryz.isAgg83
 z80:=Tryz.sizeOf83
 v80:=Tryz.zeroValue83
 i0:=by kernel_rfl
 i2:=by kernel_rfl
 i3:=by kernel_rfl
 i4:=by kernel_rfl
 i5:=by kernel_rfl
 i9:=by kernel_rfl
 i20:=by kernel_rfl
 i21:=by kernel_rfl
 i37:=by kernel_rfl
 i46:=by kernel_rfl
 i51:=by kernel_rfl
 i53:=by kernel_rfl
 i75:=by kernel_rfl
 i76:=by kernel_rfl
 i80:=by kernel_rfl
 i85:=by kernel_rfl
 i127:=by kernel_rfl
 i143:=by kernel_rfl
 i145:=by kernel_rfl
 i167:=by kernel_rfl
 i168:=by kernel_rfl
 i171:=by kernel_rfl
 i173:=by kernel_rfl
 i175:=by kernel_rfl
 i210:=by kernel_rfl
 i212:=by kernel_rfl
 i232:=by kernel_rfl
 i233:=by kernel_rfl
 m15:=by kernel_rfl
 m16:=by kernel_rfl
 m17:=by kernel_rfl
 m18:=by kernel_rfl
 m19:=by kernel_rfl
 c0:=by kernel_rfl
 c2:=by kernel_rfl
 c3:=by kernel_rfl
 c4:=by kernel_rfl
 c5:=by kernel_rfl
 c9:=by kernel_rfl
 c20:=by kernel_rfl
 c21:=by kernel_rfl
 c37:=by kernel_rfl
 c46:=by kernel_rfl
 c51:=by kernel_rfl
 c53:=by kernel_rfl
 c75:=by kernel_rfl
 c76:=by kernel_rfl
 c80:=by kernel_rfl
 c85:=by kernel_rfl
 c127:=by kernel_rfl
 c143:=by kernel_rfl
 c145:=by kernel_rfl
 c167:=by kernel_rfl
 c168:=by kernel_rfl
 c171:=by kernel_rfl
 c173:=by kernel_rfl
 c175:=by kernel_rfl
 c210:=by kernel_rfl
 c212:=by kernel_rfl
 c213:=by kernel_rfl
 c232:=by kernel_rfl
 c233:=by kernel_rfl }
def Tryz.l103_ren:Go.Shelf.Ren:=⟨fun | 103=>147 | 210=>154 | 206=>117 | n=>n,fun | 9=>9 | 4=>4 | 24=>214 | 3=>3 | n=>n,fun | n=>n⟩
theorem Tryz.l103:Go.Proofs.Lays.n103 Tryz.prog Tryz.l103_ren:={
 mixed:=by kernel_rfl
 f103:=Tryz.func147.trans (congrArg some (by kernel_rfl))
 f206:=Tryz.func117.trans (congrArg some (by kernel_rfl))
 f210:=Tryz.func154.trans (congrArg some (by kernel_rfl))
 t3:=Tryz.underlying3
 a3:=Tryz.isAgg3
 z3:=Tryz.sizeOf3
 v3:=Tryz.zeroValue3
 t4:=Tryz.underlying4
 a4:=Tryz.isAgg4
 z4:=Tryz.sizeOf4
 v4:=Tryz.zeroValue4
 t9:=Tryz.underlying9
 a9:=Tryz.isAgg9
 z9:=Tryz.sizeOf9
 v9:=Tryz.zeroValue9
 t24:=Tryz.underlying214
 a24:=Tryz.isAgg214
 z24:=Tryz.sizeOf214
 v24:=Tryz.zeroValue214 }
def Tryz.l143_ren:Go.Shelf.Ren:=⟨fun | 143=>146 | 219=>153 | 217=>139 | 225=>133 | 224=>132 | 267=>158 | 266=>144 | 314=>163 | n=>n,fun | 9=>9 | 3=>3 | 4=>4 | 5=>5 | 46=>192 | 146=>227 | 51=>210 | n=>n,fun | 1=>3 | n=>n⟩
theorem Tryz.l143:Go.Proofs.Lays.n143 Tryz.prog Tryz.l143_ren:={
 mixed:=by kernel_rfl
 f143:=Tryz.func146.trans (congrArg some (by kernel_rfl))
 f217:=Tryz.func139.trans (congrArg some (by kernel_rfl))
 f219:=Tryz.func153.trans (congrArg some (by kernel_rfl))
 f224:=Tryz.func132.trans (congrArg some (by kernel_rfl))
 f225:=Tryz.func133.trans (congrArg some (by kernel_rfl))
 f266:=Tryz.func144.trans (congrArg some (by kernel_rfl))
 f267:=Tryz.func158.trans (congrArg some (by kernel_rfl))
 f314:=Tryz.func163.trans (congrArg some (by kernel_rfl))
 t3:=Tryz.underlying3
 a3:=Tryz.isAgg3
 z3:=Tryz.sizeOf3
 v3:=Tryz.zeroValue3
 t4:=Tryz.underlying4
 a4:=Tryz.isAgg4
 z4:=Tryz.sizeOf4
 v4:=Tryz.zeroValue4
 t5:=Tryz.underlying5
 a5:=Tryz.isAgg5
 z5:=Tryz.sizeOf5
 v5:=Tryz.zeroValue5
 t9:=Tryz.underlying9
 a9:=Tryz.isAgg9
 z9:=Tryz.sizeOf9
 v9:=Tryz.zeroValue9
 t46:=Tryz.underlying192
 a46:=Tryz.isAgg192
 z46:=Tryz.sizeOf192
 v46:=Tryz.zeroValue192
 t51:=Tryz.underlying210
 a51:=Tryz.isAgg210
 z51:=Tryz.sizeOf210
 v51:=Tryz.zeroValue210
 t146:=Tryz.underlying227
 a146:=Tryz.isAgg227
 z146:=Tryz.sizeOf227
 v146:=Tryz.zeroValue227
 g1:=by kernel_rfl }
def Tryz.l144_ren:Go.Shelf.Ren:=⟨fun | 144=>149 | 143=>146 | 219=>153 | 217=>139 | 225=>133 | 224=>132 | 267=>158 | 266=>144 | 314=>163 | n=>n,fun | 9=>9 | 4=>4 | 3=>3 | 5=>5 | 46=>192 | 146=>227 | 51=>210 | n=>n,fun | 1=>3 | n=>n⟩
theorem Tryz.l144:Go.Proofs.Lays.n144 Tryz.prog Tryz.l144_ren:={
 mixed:=by kernel_rfl
 f143:=Tryz.func146.trans (congrArg some (by kernel_rfl))
 f144:=Tryz.func149.trans (congrArg some (by kernel_rfl))
 f217:=Tryz.func139.trans (congrArg some (by kernel_rfl))
 f219:=Tryz.func153.trans (congrArg some (by kernel_rfl))
 f224:=Tryz.func132.trans (congrArg some (by kernel_rfl))
 f225:=Tryz.func133.trans (congrArg some (by kernel_rfl))
 f266:=Tryz.func144.trans (congrArg some (by kernel_rfl))
 f267:=Tryz.func158.trans (congrArg some (by kernel_rfl))
 f314:=Tryz.func163.trans (congrArg some (by kernel_rfl))
 t3:=Tryz.underlying3
 a3:=Tryz.isAgg3
 z3:=Tryz.sizeOf3
 v3:=Tryz.zeroValue3
 t4:=Tryz.underlying4
 a4:=Tryz.isAgg4
 z4:=Tryz.sizeOf4
 v4:=Tryz.zeroValue4
 t5:=Tryz.underlying5
 a5:=Tryz.isAgg5
 z5:=Tryz.sizeOf5
 v5:=Tryz.zeroValue5
 t9:=Tryz.underlying9
 a9:=Tryz.isAgg9
 z9:=Tryz.sizeOf9
 v9:=Tryz.zeroValue9
 t46:=Tryz.underlying192
 a46:=Tryz.isAgg192
 z46:=Tryz.sizeOf192
 v46:=Tryz.zeroValue192
 t51:=Tryz.underlying210
 a51:=Tryz.isAgg210
 z51:=Tryz.sizeOf210
 v51:=Tryz.zeroValue210
 t146:=Tryz.underlying227
 a146:=Tryz.isAgg227
 z146:=Tryz.sizeOf227
 v146:=Tryz.zeroValue227
 g1:=by kernel_rfl }
def Tryz.l99_ren:Go.Shelf.Ren:=⟨fun | 99=>109 | 206=>117 | n=>n,fun | 9=>9 | 4=>4 | 3=>3 | n=>n,fun | n=>n⟩
theorem Tryz.l99:Go.Proofs.Lays.n99 Tryz.prog Tryz.l99_ren:={
 mixed:=by kernel_rfl
 f99:=Tryz.func109.trans (congrArg some (by kernel_rfl))
 f206:=Tryz.func117.trans (congrArg some (by kernel_rfl))
 t3:=Tryz.underlying3
 a3:=Tryz.isAgg3
 z3:=Tryz.sizeOf3
 v3:=Tryz.zeroValue3
 t4:=Tryz.underlying4
 a4:=Tryz.isAgg4
 z4:=Tryz.sizeOf4
 v4:=Tryz.zeroValue4
 t9:=Tryz.underlying9
 a9:=Tryz.isAgg9
 z9:=Tryz.sizeOf9
 v9:=Tryz.zeroValue9 }
def Tryz.l119_ren:Go.Shelf.Ren:=⟨fun | 119=>131 | n=>n,fun | 21=>21 | 4=>4 | n=>n,fun | n=>n⟩
theorem Tryz.l119:Go.Proofs.Lays.n119 Tryz.prog Tryz.l119_ren:={
 mixed:=by kernel_rfl
 f119:=Tryz.func131.trans (congrArg some (by kernel_rfl))
 t4:=Tryz.underlying4
 a4:=Tryz.isAgg4
 z4:=Tryz.sizeOf4
 v4:=Tryz.zeroValue4
 t21:=Tryz.underlying21
 a21:=Tryz.isAgg21
 z21:=Tryz.sizeOf21
 v21:=Tryz.zeroValue21 }
end Go.Proofs
namespace Go.Proofs.YtbplhianpelmfaaGreatDoor
open Go.RowKit Go.Shelf
theorem dc_pos (l:List UInt8) (i:Nat):1≤(dc l i).2:=by
 rw [←dc_decode]
 exact Lib.width_pos _ _
theorem iterPos_of {w:World} {k:Nat} {s:ByteArray} {p:Nat} (h:w.heap[k]?=some (.stringIter s p)):w.iterPos k=p:=by simp [World.iterPos,h]
def chars (l:List UInt8) (i:Nat):List (Int×Nat):=
 if i < l.length then ((if lo1 l i then -1 else ((dc l i).1:Int)),i) :: chars l (i+(dc l i).2) else [(-2,l.length)]
termination_by l.length - i
decreasing_by
 have:=dc_pos l i
 omega
def ccel (c:Int×Nat):List Value:=[.int .i32 c.1,.int .i64 (c.2:Int)]
def ccels (L:List (Int×Nat)):List Value:=L.flatMap ccel
theorem info_char:(Tryz.prog.info? 174).map (fun i=>(i.zero,i.size,i.bytes))=some (some (.agg #[.int .i32 0,.int .i64 0]),2,16):=by kernel_rfl
theorem chars_lt {l:List UInt8} {i:Nat} (h:i < l.length):chars l i=((if lo1 l i then -1 else ((dc l i).1:Int)),i) :: chars l (i+(dc l i).2):=by rw [chars,if_pos h]
theorem chars_end {l:List UInt8} {i:Nat} (h:¬i < l.length):chars l i=[(-2,l.length)]:=by rw [chars,if_neg h]
theorem ccels_snoc (L:List (Int×Nat)) (c:Int×Nat):ccels (L++[c])=ccels L++ccel c:=by simp [ccels]
theorem dc_le (l:List UInt8) (i:Nat) (h:i < l.length):i+(dc l i).2≤l.length:=by
 unfold dc
 rcases Lib.decodeN_shape (l.length - i) (bt l i) (bt l (i+1)) (bt l (i+2)) (bt l (i+3)) with ⟨a1,e⟩ | ⟨a1,a2,a3,a4,e⟩ | ⟨a1,a2,a3,a4,a5,a6,e⟩ | ⟨a1,a2,a3,a4,a5,a6,a7,e⟩ | e
 all_goals rw [e]
 all_goals simp only
 all_goals omega
theorem bt_get {l:List UInt8} {i:Nat} (h:i < l.length):l[i]?=some (l.getD i 0):=by simp [List.getD,List.getElem?_eq_getElem h]
theorem u8_of {c:UInt8} {n:Nat} (h:c.toNat=n) (hn:n < 256):c=UInt8.ofNat n:=UInt8.toNat_inj.1 (by rw [h,UInt8.toNat_ofNat'];omega)
theorem pre_fffd (l:List UInt8) (i:Nat) (h:i < l.length) (h1:(dc l i).1=65533):Lib.hasPrefix (l.drop i) [239,191,189]=!lo1 l i:=by
 have hpre:Lib.hasPrefix (l.drop i) [239,191,189]=true↔(i+2 < l.length∧bt l i=239∧bt l (i+1)=191∧bt l (i+2)=189):=by
  unfold Lib.hasPrefix
  rw [List.isPrefixOf_iff_prefix,List.prefix_iff_eq_take]
  constructor
  ·intro e
   have hl:=congrArg List.length e
   simp at hl
   have g:∀ j,j < 3→l[i+j]?=([239,191,189]:List UInt8)[j]?:=fun j hj=>by
    rw [e];simp [List.getElem?_drop,hj]
   exact ⟨by omega,by rw [bt_of (c:=239) (by simpa using g 0 (by decide))];rfl,by rw [bt_of (c:=191) (by simpa using g 1 (by decide))];rfl,by rw [bt_of (c:=189) (by simpa using g 2 (by decide))];rfl⟩
  ·rintro ⟨h3,e0,e1,e2⟩
   have a0:=bt_get h
   have a1:=bt_get (l:=l) (i:=i+1) (by omega)
   have a2:=bt_get h3
   rw [u8_of (c:=l.getD i 0) e0 (by decide)] at a0
   rw [u8_of (c:=l.getD (i+1) 0) e1 (by decide)] at a1
   rw [u8_of (c:=l.getD (i+2) 0) e2 (by decide)] at a2
   refine List.ext_getElem? (fun j=>?_)
   match j with
   | 0=>simp [List.getElem?_drop,a0]
   | 1=>simp [List.getElem?_drop,a1]
   | 2=>simp [List.getElem?_drop,a2]
   | j+3=>rw [List.getElem?_eq_none (by simp),List.getElem?_eq_none (by simp;omega)]
 cases hlo:lo1 l i with
 | true=>
  have hd:dc l i=(65533,1):=of_decide_eq_true hlo
  rw [Bool.not_true,Bool.eq_false_iff]
  intro hp
  obtain ⟨h3,e0,e1,e2⟩:=hpre.1 hp
  unfold dc at hd
  rw [e0,e1,e2] at hd
  unfold Lib.decodeN at hd
  rw [if_neg (by decide),if_neg (by omega),if_pos ⟨by decide,⟨by omega,by decide⟩,⟨by omega,by decide⟩⟩] at hd
  exact absurd hd (by decide)
 | false=>
  have hd:dc l i≠(65533,1):=of_decide_eq_false hlo
  rw [Bool.not_false,hpre]
  have l0:=bt_lt l i
  have l1:=bt_lt l (i+1)
  have l2:=bt_lt l (i+2)
  rcases Lib.decodeN_shape (l.length - i) (bt l i) (bt l (i+1)) (bt l (i+2)) (bt l (i+3)) with ⟨a1,e⟩ | ⟨a1,a2,a3,a4,e⟩ | ⟨a1,a2,a3,a4,a5,a6,e⟩ | ⟨a1,a2,a3,a4,a5,a6,a7,e⟩ | e
  all_goals unfold dc at h1 hd
  all_goals rw [e] at h1 hd
  ·simp only at h1;omega
  ·simp only at h1;omega
  ·simp only at h1;omega
  ·simp only at h1;omega
  ·exact absurd rfl hd
theorem hasPre_any (r:List UInt8) (w:World):Calls Tryz.prog 109 #[.string ⟨r.toArray⟩,.string ⟨#[239,191,189]⟩] w fun e w'=>e=.returned (.bool (Lib.hasPrefix r [239,191,189]))∧w'=w:=Any.strings_HasPrefix Tryz.l99 ⟨r.toArray⟩ ⟨#[239,191,189]⟩ w
theorem own_iter {W:World} {B n:Nat} {e:TypeId} {sz:Nat} {v:Value} {xs:List Value} {k p:Nat} {s:ByteArray} (h:W.ownsRow B e sz v n xs) (hk:W.heap[k]?=some (.stringIter s p)):v.ownBlock≠some k:=by
 intro hb
 rcases h.2 with ⟨rfl,_⟩ | ⟨g,c,cur,rfl,_,hg,_⟩
 ·cases hb
 ·have:g=k:=by injection hb
  subst this
  rw [hk] at hg
  cases hg
set_option maxRecDepth 100000 in
set_option maxHeartbeats 2000000 in
theorem charsOf_any (l:List UInt8) (w:World) (hs:l.length≤16384) :
  Calls Tryz.prog 98 #[.string ⟨l.toArray⟩] w fun e w'=>∃ v,e=.returned v∧w'.ownsRow w.heap.size 174 2 v (chars l 0).length (ccels (chars l 0))∧Below w.heap.size w w':=by
 obtain ⟨i0,hi,hz0,hz1,hz2⟩:=info_parts info_char
 go_enter Tryz.func98,Tryz.ntmps98
 go_wp2_with (at_make;refine wpList_make_own _ rfl _ _ 159 rfl w.heap.size 174 i0 (.agg #[.int .i32 0,.int .i64 0]) 2 Tryz.underlying159 hi hz0 hz1 .i64 .i64 _ (l.length+1) rfl rfl (by omega) (by rw [hz2];omega) (by unfold maxLen;omega) (Nat.le_refl _) ?_;intro w1 hown hgrow)
 obtain ⟨KB,hKB⟩:∃ KB,w1.heap.size=KB:=⟨_,rfl⟩
 have B1:Below w.heap.size w w1:=(Below.refl _ _).grown hgrow (Nat.le_refl _) (fun k e=>by cases e)
 have hKw:w.heap.size≤KB:=by rw [←hKB];exact B1.size
 have Hk0:(w1.iter ⟨l.toArray⟩ 0).heap[KB]?=some (.stringIter ⟨l.toArray⟩ 0):=by rw [←hKB];exact World.iter_heap _ _ _
 have Ho0:(w1.iter ⟨l.toArray⟩ 0).ownsRow w.heap.size 174 2 (.slice (some ⟨w.heap.size,0,none⟩) 0 (l.length+1)) 0 (ccels []):=hown.alloc _
 have Hb0:Below w.heap.size w (w1.iter ⟨l.toArray⟩ 0):=B1.alloc (by omega) _
 have HL:Hid (chars l 0=chars l 0):=rfl
 clear hown hgrow B1
 simp only [hKB]
 go_loopw [3] (fun v wr=>∃ (i:Nat) (D:List (Int×Nat)),i≤l.length∧D.length≤i∧D++chars l i=chars l 0∧wr.ownsRow w.heap.size 174 2 v D.length (ccels D)∧wr.heap[KB]?=some (.stringIter ⟨l.toArray⟩ i)∧Below w.heap.size w wr) (fun _ wr=>l.length - wr.iterPos KB)
 case atStart=>exact ⟨0,[],Nat.zero_le _,Nat.zero_le _,rfl,Ho0,Hk0,Hb0⟩
 case round=>
  clear Hk0 Ho0 Hb0 HL
  obtain ⟨i,D,hi1,hD,hch,hown,hk,hB⟩:=hrel
  by_cases hlt:i < l.length
  ·have hnx0:=fun ty=>Lib.run_next_any_at (P:=Tryz.prog) wr KB ⟨l.toArray⟩ i ty hk (by simpa [ByteArray.size] using hlt)
   have hp:=dc_pos l i
   have hle:=dc_le l i hlt
   rw [dc_decode] at hnx0
   have hk2:=Lib.iterAt_heap wr KB ⟨l.toArray⟩ i (i+(dc l i).2) hk
   have hb2:=Lib.below_iterAt hB hKw ⟨l.toArray⟩ (i+(dc l i).2)
   have hsz:(wr.iterAt KB ⟨l.toArray⟩ (i+(dc l i).2)).heap.size=wr.heap.size:=Lib.iterAt_size ..
   have ho2:(wr.iterAt KB ⟨l.toArray⟩ (i+(dc l i).2)).ownsRow w.heap.size 174 2 u3 D.length (ccels D):=hown.kept (row:=some KB) ⟨rfl,rfl,rfl,by rw [hsz];exact Nat.le_refl _,fun j _ hj=>Lib.iterAt_other wr KB j ⟨l.toArray⟩ _ (fun e=>hj (by rw [e]))⟩ (.inr (own_iter hown hk))
   have hpf:=pre_fffd l i hlt
   have hcl:=chars_lt hlt
   have hlo0:(dc l i).1≠65533→lo1 l i=false:=fun h=>decide_eq_false (fun e=>h (by rw [e]))
   obtain ⟨W2,hW2⟩:∃ W2,wr.iterAt KB ⟨l.toArray⟩ (i+(dc l i).2)=W2:=⟨_,rfl⟩
   rw [hW2] at hk2 hb2 hsz ho2
   have hnx:∀ ty,(Instr.next (.pointer (some ⟨KB,0,none⟩)) true ty).run Tryz.prog wr=.ok (.tuple #[.bool true,.int .i64 (i:Int),.int .i32 ((dc l i).1:Int)]) W2:=fun ty=>by rw [←hW2];exact hnx0 ty
   clear hnx0 hW2 hsz
   obtain ⟨R,hR⟩:∃ R,(dc l i).1=R:=⟨_,rfl⟩
   obtain ⟨K,hK⟩:∃ K,(dc l i).2=K:=⟨_,rfl⟩
   obtain ⟨lo,hlo⟩:∃ lo,lo1 l i=lo:=⟨_,rfl⟩
   rw [hR] at hpf hcl hlo0 hnx
   rw [hK] at hk2 hp hle hcl
   rw [hlo] at hpf hcl hlo0
   clear hR hK hlo
   have hzW:w.heap.size≤W2.heap.size:=hb2.size
   have hE:=ext_drop l i
   have HP:=hasPre_any (l.drop i)
   have j0:(0:Int)≤(i:Int):=by omega
   have j1:(i:Int)≤(l.length:Int):=by omega
   obtain ⟨qv,cv,rfl⟩:=shapeP hown
   by_cases h65:R=65533
   ·subst h65
    rw [hpf rfl] at HP
    cases lo with
    | true=>
     have HC:Hid (D++([((-1:Int),i)]++chars l (i+K))=chars l 0):=by unfold Hid;rw [←hch,hcl];rfl
     clear hcl hpf hlo0 hch
     go_wp2_with fail
     refine (HP _).mono ?_
     rintro e w3 ⟨rfl,rfl⟩
     go_wp2_with (at_builtin;refine wpList_append_own _ rfl _ _ 159 rfl w.heap.size 174 i0 _ 2 16 Tryz.underlying159 hi hz0 hz1 hz2 rfl (by decide) _ _ _ rfl (ho2.alloc _) ⟨w3.heap.size,0,none⟩ 1 1 (ccel ((-1:Int),i)) rfl rfl (World.news_of_block (cs:=#[.int .i32 ((-1:Int)),.int .i64 ((i:Nat):Int)]) (t:=174) (fr:=(0,0)) (alloc_get _ _)) (by simp [ccel,Value.oneCell']) (by unfold maxLen;omega) (by omega) (by simp;omega) ?_;intro v5 w5 oB hg5 _)
     have nK:=own_iter ho2 hk2
     have k5:w5.heap[KB]?=some (.stringIter ⟨l.toArray⟩ (i+K)):=(hg5.block KB (lt_of_get (allocblk hk2 _)) (fun e=>nK e.symm)).trans (allocblk hk2 _)
     have b5:Below w.heap.size w w5:=(hb2.alloc hzW _).grown hg5 (by simp;omega) (fun k e=>(ho2.lt k e).1)
     have hm5:w5.iterPos KB=i+K:=iterPos_of k5
     have hm0:wr.iterPos KB=i:=iterPos_of hk
     have HM:Hid (l.length - w5.iterPos KB < l.length - wr.iterPos KB):=by unfold Hid;rw [hm5,hm0];omega
     have R5:∃ (i':Nat) (D':List (Int×Nat)),i'≤l.length∧D'.length≤i'∧D'++chars l i'=chars l 0∧w5.ownsRow w.heap.size 174 2 v5 D'.length (ccels D')∧w5.heap[KB]?=some (.stringIter ⟨l.toArray⟩ i')∧Below w.heap.size w w5:=⟨i+K,D++[((-1:Int),i)],by omega,by simp;omega,by rw [List.append_assoc];exact HC.out,by rw [List.length_append,ccels_snoc];exact oB,k5,b5⟩
     go_roundw
     case rel=>first | exact R5 | ((repeat apply Exists.intro);exact ⟨R5,rfl⟩)
     case measure=>exact HM.out
    | false=>
     have HC:Hid (D++([((65533:Int),i)]++chars l (i+K))=chars l 0):=by unfold Hid;rw [←hch,hcl];rfl
     clear hcl hpf hlo0 hch
     go_wp2_with fail
     refine (HP _).mono ?_
     rintro e w3 ⟨rfl,rfl⟩
     go_wp2_with (at_builtin;refine wpList_append_own _ rfl _ _ 159 rfl w.heap.size 174 i0 _ 2 16 Tryz.underlying159 hi hz0 hz1 hz2 rfl (by decide) _ _ _ rfl (ho2.alloc _) ⟨w3.heap.size,0,none⟩ 1 1 (ccel ((65533:Int),i)) rfl rfl (World.news_of_block (cs:=#[.int .i32 ((65533:Int)),.int .i64 ((i:Nat):Int)]) (t:=174) (fr:=(0,0)) (alloc_get _ _)) (by simp [ccel,Value.oneCell']) (by unfold maxLen;omega) (by omega) (by simp;omega) ?_;intro v5 w5 oB hg5 _)
     have nK:=own_iter ho2 hk2
     have k5:w5.heap[KB]?=some (.stringIter ⟨l.toArray⟩ (i+K)):=(hg5.block KB (lt_of_get (allocblk hk2 _)) (fun e=>nK e.symm)).trans (allocblk hk2 _)
     have b5:Below w.heap.size w w5:=(hb2.alloc hzW _).grown hg5 (by simp;omega) (fun k e=>(ho2.lt k e).1)
     have hm5:w5.iterPos KB=i+K:=iterPos_of k5
     have hm0:wr.iterPos KB=i:=iterPos_of hk
     have HM:Hid (l.length - w5.iterPos KB < l.length - wr.iterPos KB):=by unfold Hid;rw [hm5,hm0];omega
     have R5:∃ (i':Nat) (D':List (Int×Nat)),i'≤l.length∧D'.length≤i'∧D'++chars l i'=chars l 0∧w5.ownsRow w.heap.size 174 2 v5 D'.length (ccels D')∧w5.heap[KB]?=some (.stringIter ⟨l.toArray⟩ i')∧Below w.heap.size w w5:=⟨i+K,D++[((65533:Int),i)],by omega,by simp;omega,by rw [List.append_assoc];exact HC.out,by rw [List.length_append,ccels_snoc];exact oB,k5,b5⟩
     go_roundw
     case rel=>first | exact R5 | ((repeat apply Exists.intro);exact ⟨R5,rfl⟩)
     case measure=>exact HM.out
   ·have e0:((R:Int)==65533)=false:=by rw [beq_eq_false_iff_ne];omega
    obtain rfl:lo=false:=hlo0 h65
    have HC:Hid (D++([((R:Int),i)]++chars l (i+K))=chars l 0):=by unfold Hid;rw [←hch,hcl];rfl
    clear hcl hpf hlo0 hch
    go_wp2_with (at_builtin;refine wpList_append_own _ rfl _ _ 159 rfl w.heap.size 174 i0 _ 2 16 Tryz.underlying159 hi hz0 hz1 hz2 rfl (by decide) _ _ _ rfl (ho2.alloc _) ⟨W2.heap.size,0,none⟩ 1 1 (ccel ((R:Int),i)) rfl rfl (World.news_of_block (cs:=#[.int .i32 ((R:Int)),.int .i64 ((i:Nat):Int)]) (t:=174) (fr:=(0,0)) (alloc_get _ _)) (by simp [ccel,Value.oneCell']) (by unfold maxLen;omega) (by omega) (by simp;omega) ?_;intro v5 w5 oB hg5 _)
    have nK:=own_iter ho2 hk2
    have k5:w5.heap[KB]?=some (.stringIter ⟨l.toArray⟩ (i+K)):=(hg5.block KB (lt_of_get (allocblk hk2 _)) (fun e=>nK e.symm)).trans (allocblk hk2 _)
    have b5:Below w.heap.size w w5:=(hb2.alloc hzW _).grown hg5 (by simp;omega) (fun k e=>(ho2.lt k e).1)
    have hm5:w5.iterPos KB=i+K:=iterPos_of k5
    have hm0:wr.iterPos KB=i:=iterPos_of hk
    have HM:Hid (l.length - w5.iterPos KB < l.length - wr.iterPos KB):=by unfold Hid;rw [hm5,hm0];omega
    have R5:∃ (i':Nat) (D':List (Int×Nat)),i'≤l.length∧D'.length≤i'∧D'++chars l i'=chars l 0∧w5.ownsRow w.heap.size 174 2 v5 D'.length (ccels D')∧w5.heap[KB]?=some (.stringIter ⟨l.toArray⟩ i')∧Below w.heap.size w w5:=⟨i+K,D++[((R:Int),i)],by omega,by simp;omega,by rw [List.append_assoc];exact HC.out,by rw [List.length_append,ccels_snoc];exact oB,k5,b5⟩
    go_roundw
    case rel=>first | exact R5 | ((repeat apply Exists.intro);exact ⟨R5,rfl⟩)
    case measure=>exact HM.out
  ·have hnx:∀ ty,(Instr.next (.pointer (some ⟨KB,0,none⟩)) true ty).run Tryz.prog wr=.ok (.tuple #[.bool false]) wr:=fun ty=>Lib.run_next_end_at (P:=Tryz.prog) wr KB ⟨l.toArray⟩ i ty hk (by simpa [ByteArray.size] using hlt)
   rw [chars_end hlt] at hch
   have HC:Hid (D++[((-2:Int),l.length)]=chars l 0):=hch
   have hzW:w.heap.size≤wr.heap.size:=hB.size
   clear hch
   obtain ⟨qv,cv,rfl⟩:=shapeP hown
   go_wp2_with (at_builtin;refine wpList_append_own _ rfl _ _ 159 rfl w.heap.size 174 i0 _ 2 16 Tryz.underlying159 hi hz0 hz1 hz2 rfl (by decide) _ _ _ rfl (hown.alloc _) ⟨wr.heap.size,0,none⟩ 1 1 (ccel ((-2:Int),l.length)) rfl rfl (World.news_of_block (cs:=#[.int .i32 ((-2:Int)),.int .i64 ((l.length:Nat):Int)]) (t:=174) (fr:=(0,0)) (alloc_get _ _)) (by simp [ccel,Value.oneCell']) (by unfold maxLen;omega) (by omega) (by simp;omega) ?_;intro v5 w5 oB hg5 _)
   have b5:Below w.heap.size w w5:=(hB.alloc hzW _).grown hg5 (by simp;omega) (fun k e=>(hown.lt k e).1)
   go_ret
   refine ⟨v5,rfl,?_,b5⟩
   rw [←HC.out,List.length_append,ccels_snoc]
   exact oB
end Go.Proofs.YtbplhianpelmfaaGreatDoor
namespace Go.Proofs.YtbplhianpelmfaaGreatDoor
open Go.RowKit
def hexI (r:Int):Int:=if 48≤r∧r≤57 then r - 48 else if 97≤r∧r≤102 then r - 97+10 else if 65≤r∧r≤70 then r - 65+10 else -1
set_option maxRecDepth 100000 in
theorem hexValue_any (r:Int) (w:World) (h0:-2≤r) (h1:r≤1114111) :
  Calls Tryz.prog 152 #[.int .i32 r] w fun e w'=>e=.returned (.int .i32 (hexI r))∧w'=w:=by
 by_cases a1:48≤r∧r≤57
 ·have hr:Hid (hexI r=r - 48):=by unfold Hid hexI;rw [if_pos a1]
  have w0:IntKind.i32.wrap (r - 48)=r - 48:=by rw [IntKind.wrap_i32];omega
  have j0:48≤r:=by omega
  have j1:r≤57:=by omega
  go_enter Tryz.func152,Tryz.ntmps152
  go_wp2
  go_ret
  exact ⟨by rw [hr.out];rfl,rfl⟩
 ·by_cases a2:97≤r∧r≤102
  ·have hr:Hid (hexI r=r - 97+10):=by unfold Hid hexI;rw [if_neg a1,if_pos a2]
   have w0:IntKind.i32.wrap (r - 97)=r - 97:=by rw [IntKind.wrap_i32];omega
   have w1:IntKind.i32.wrap (r - 97+10)=r - 97+10:=by rw [IntKind.wrap_i32];omega
   have j0:48≤r:=by omega
   have j1:¬r≤57:=by omega
   have j2:97≤r:=by omega
   have j3:r≤102:=by omega
   go_enter Tryz.func152,Tryz.ntmps152
   go_wp2
   go_ret
   exact ⟨by rw [hr.out];rfl,rfl⟩
  ·by_cases a3:65≤r∧r≤70
   ·have hr:Hid (hexI r=r - 65+10):=by unfold Hid hexI;rw [if_neg a1,if_neg a2,if_pos a3]
    have w0:IntKind.i32.wrap (r - 65)=r - 65:=by rw [IntKind.wrap_i32];omega
    have w1:IntKind.i32.wrap (r - 65+10)=r - 65+10:=by rw [IntKind.wrap_i32];omega
    have j0:48≤r:=by omega
    have j1:¬r≤57:=by omega
    have j2:¬97≤r:=by omega
    have j3:65≤r:=by omega
    have j4:r≤70:=by omega
    go_enter Tryz.func152,Tryz.ntmps152
    go_wp2
    go_ret
    exact ⟨by rw [hr.out];rfl,rfl⟩
   ·have hr:Hid (hexI r=-1):=by unfold Hid hexI;rw [if_neg a1,if_neg a2,if_neg a3]
    by_cases c1:48≤r
    ·have d1:¬r≤57:=by omega
     by_cases c2:97≤r
     ·have d2:¬r≤102:=by omega
      have c3:65≤r:=by omega
      have d3:¬r≤70:=by omega
      go_enter Tryz.func152,Tryz.ntmps152
      go_wp2
      go_ret
      exact ⟨by rw [hr.out];rfl,rfl⟩
     ·by_cases c3:65≤r
      ·have d3:¬r≤70:=by omega
       go_enter Tryz.func152,Tryz.ntmps152
       go_wp2
       go_ret
       exact ⟨by rw [hr.out];rfl,rfl⟩
      ·go_enter Tryz.func152,Tryz.ntmps152
       go_wp2
       go_ret
       exact ⟨by rw [hr.out];rfl,rfl⟩
    ·have c2:¬97≤r:=by omega
     have c3:¬65≤r:=by omega
     go_enter Tryz.func152,Tryz.ntmps152
     go_wp2
     go_ret
     exact ⟨by rw [hr.out];rfl,rfl⟩
def CH (W:World) (ad:Addr) (C:List (Int×Nat)):Prop:=∀ k c,C[k]?=some c→W.cell? (ad.add (k*2))=some (.int .i32 c.1)∧W.cell? (ad.add (k*2+1))=some (.int .i64 (c.2:Int))
theorem CH.below {W X:World} {ad:Addr} {C:List (Int×Nat)} (h:CH W ad C) (hb:Below W.heap.size W X):CH X ad C:=fun k c hc=>
 ⟨(hb.cell (World.block_lt_of_cell? W _ (h k c hc).1)).trans (h k c hc).1,(hb.cell (World.block_lt_of_cell? W _ (h k c hc).2)).trans (h k c hc).2⟩
def hexC:Nat→List (Int×Nat)→Nat→Nat×Nat
 | 0,_,n=>(0,n)
 | _+1,[],n=>(0,n)
 | f+1,c :: r,n=>if 0≤hexI c.1 then ((hexC f r (16*n+(hexI c.1).toNat)).1+1,(hexC f r (16*n+(hexI c.1).toNat)).2) else (0,n)
theorem hexC_no {f:Nat} {C:List (Int×Nat)} {k:Nat} {c:Int×Nat} (h:C[k]?=some c) (hc:¬0≤hexI c.1) (n:Nat):hexC f (C.drop k) n=(0,n):=by
 obtain ⟨hk,rfl⟩:=List.getElem?_eq_some_iff.1 h
 rw [List.drop_eq_getElem_cons hk]
 cases f with
 | zero=>rfl
 | succ f=>rw [hexC,if_neg hc]
theorem hexC_yes {f:Nat} {C:List (Int×Nat)} {k:Nat} {c:Int×Nat} (h:C[k]?=some c) (hc:0≤hexI c.1) (n:Nat):hexC (f+1) (C.drop k) n=((hexC f (C.drop (k+1)) (16*n+(hexI c.1).toNat)).1+1,(hexC f (C.drop (k+1)) (16*n+(hexI c.1).toNat)).2):=by
 obtain ⟨hk,rfl⟩:=List.getElem?_eq_some_iff.1 h
 rw [List.drop_eq_getElem_cons hk,hexC,if_pos hc]
theorem hexI_lt (r:Int):-1≤hexI r∧hexI r < 16:=by
 unfold hexI
 repeat' split
 all_goals omega
theorem shl_or32 (m d:Nat) (hm:m < 1048576) (hd:d < 16):bits .or .i32 ((m:Int)*16) (d:Int)=((16*m+d:Nat):Int):=by
 have h1:(m:Int)*16=((16*m:Nat):Int):=by omega
 rw [h1]
 have a1:(BitVec.ofInt 32 ((16*m:Nat):Int)).toNat=16*m:=by
  rw [BitVec.ofInt_natCast,BitVec.toNat_ofNat];exact Nat.mod_eq_of_lt (by omega)
 have a2:(BitVec.ofInt 32 (d:Int)).toNat=d:=by
  rw [BitVec.ofInt_natCast,BitVec.toNat_ofNat];exact Nat.mod_eq_of_lt (by omega)
 have a3:16*m ||| d=16*m+d:=by
  have:=Nat.two_pow_add_eq_or_of_lt (i:=4) (b:=d) (by omega) m
  rw [show (16:Nat)=2 ^ 4 by decide]
  exact this.symm
 show IntKind.i32.wrap ((BitVec.ofInt 32 ((16*m:Nat):Int) ||| BitVec.ofInt 32 (d:Int)).toNat:Int)=_
 rw [BitVec.toNat_or,a1,a2,a3,IntKind.wrap_i32]
 omega
set_option maxRecDepth 100000 in
set_option maxHeartbeats 1000000 in
theorem hexAt_any (C:List (Int×Nat)) (ad:Addr) (cap most:Nat) (w:World) (hmost:most≤6) (hC0:CH w ad C) (hr0:∀ c∈C,-2≤c.1∧c.1≤1114111) (hend0:∃ (k:Nat) (c:Int×Nat),C[k]?=some c∧¬0≤hexI c.1) :
  Calls Tryz.prog 143 #[.slice (some ad) C.length cap,.int .i64 (most:Int)] w fun e w'=>e=.returned (.tuple #[.int .i32 ((hexC most C 0).2:Int),.int .i64 ((hexC most C 0).1:Int)])∧w'=w:=by
 have hC:Hid (CH w ad C):=hC0
 have hr:Hid (∀ c∈C,-2≤c.1∧c.1≤1114111):=hr0
 obtain ⟨ke,ce,hke,hce0⟩:=hend0
 have hce:Hid (¬0≤hexI ce.1):=hce0
 clear hce0
 clear hC0 hr0
 go_enter Tryz.func143,Tryz.ntmps143
 go_wp2_with fail
 go_loop [6,7] (fun vv vn=>∃ (n f m:Nat),vv=.int .i32 m∧vn=.int .i64 n∧Hid (n+f=most∧n≤ke∧m < 16 ^ n∧hexC most C 0=((hexC f (C.drop n) m).1+n,(hexC f (C.drop n) m).2))) (fun _ vn=>most - (intOf vn).toNat)
 case atStart=>exact ⟨0,most,0,rfl,rfl,by omega,Nat.zero_le _,by decide,by simp⟩
 case round=>
  obtain ⟨n,f,m,rfl,rfl,hh⟩:=hrel
  obtain ⟨hnf,hnk,hm,hq⟩:=hh.out
  have hke2:=(List.getElem?_eq_some_iff.1 hke).1
  cases f with
  | zero=>
   have i1:¬(n:Int) < (most:Int):=by omega
   have h0:hexC 0 (C.drop n) m=(0,m):=rfl
   rw [h0,Nat.zero_add] at hq
   have HQ:Hid (hexC most C 0=(n,m)):=hq
   clear hq h0 hh hnf hm
   go_wp2_with fail
   go_ret2
   exact ⟨by rw [HQ.out];rfl,rfl⟩
  | succ f=>
   have i1:(n:Int) < (most:Int):=by omega
   have hnl:n < C.length:=by omega
   have i2:(n:Int) < (C.length:Int):=by omega
   have i0:(0:Int)≤(n:Int):=by omega
   obtain ⟨c,hc⟩:∃ c,C[n]?=some c:=⟨_,List.getElem?_eq_getElem hnl⟩
   obtain ⟨x0,x1⟩:=hC.out n c hc
   obtain ⟨r0,r1⟩:=hr.out c (List.mem_of_getElem? hc)
   have HV:=fun W=>hexValue_any c.1 W r0 r1
   obtain ⟨q0,q1⟩:=hexI_lt c.1
   by_cases hp:0≤hexI c.1
   ·obtain ⟨d,hd⟩:∃ d:Nat,hexI c.1=d:=⟨(hexI c.1).toNat,by omega⟩
    rw [hexC_yes hc hp,hd,show ((d:Int)).toNat=d from Int.toNat_natCast d] at hq
    have hm2:m < 1048576:=Nat.lt_of_lt_of_le hm (Nat.pow_le_pow_right (j:=5) (show 16 > 0 by decide) (by omega))
    have hne:n≠ke:=fun e=>by
     have h1:=hce.out
     rw [e,hke] at hc
     rw [←Option.some.inj hc] at hp
     omega
    have HH:Hid (n+1+f=most∧n+1≤ke∧16*m+d < 16 ^ (n+1)∧hexC most C 0=((hexC f (C.drop (n+1)) (16*m+d)).1+(n+1),(hexC f (C.drop (n+1)) (16*m+d)).2)):=⟨by omega,by omega,by rw [Nat.pow_succ];omega,by rw [hq];simp;omega⟩
    have hb:=shl_or32 m d hm2 (by omega)
    have jd:(0:Int)≤(d:Int):=by omega
    rw [hd] at HV
    obtain ⟨c0,hc0⟩:∃ z,c.1=z:=⟨_,rfl⟩
    rw [hc0] at x0 HV
    have hcast:((16*m+d:Nat):Int)=16*(m:Int)+(d:Int):=by omega
    have HZ:Hid (n+(f+1)=most):=hnf
    clear hq hh hp hd hm hne hnf hc0 r0 r1 q0 q1 hcast
    go_wp2_with fail
    refine (HV _).mono ?_
    rintro e w2 ⟨rfl,rfl⟩
    go_wp2_with fail
    refine (HV _).mono ?_
    rintro e w3 ⟨rfl,rfl⟩
    go_wp2_with fail
    go_round
    case rel=>exact ⟨n+1,f,16*m+d,by go_num,by go_num,HH⟩
    case measure=>have:=HZ.out;simp [intOf];omega
   ·rw [hexC_no hc hp,Nat.zero_add] at hq
    have HQ:Hid (hexC most C 0=(n,m)):=hq
    obtain ⟨z,hz⟩:∃ z,hexI c.1=z:=⟨_,rfl⟩
    rw [hz] at HV hp
    have jz:¬(0:Int)≤z:=hp
    obtain ⟨c0,hc0⟩:∃ z,c.1=z:=⟨_,rfl⟩
    rw [hc0] at x0 HV
    clear hq hh hm hnf hc0 r0 r1 q0 q1 hz hp
    go_wp2_with fail
    refine (HV _).mono ?_
    rintro e w2 ⟨rfl,rfl⟩
    go_wp2_with fail
    go_ret2
    exact ⟨by rw [HQ.out];rfl,rfl⟩
def hexD (c:UInt8):Option Nat:=
 if 48≤c.toNat∧c.toNat≤57 then some (c.toNat - 48) else if 97≤c.toNat∧c.toNat≤102 then some (c.toNat - 87) else if 65≤c.toNat∧c.toNat≤70 then some (c.toNat - 55) else none
def binD (c:UInt8):Option Nat:=if c=48 then some 0 else if c=49 then some 1 else none
def foldN (b:Nat) (D:UInt8→Option Nat):List UInt8→Nat→Option Nat
 | [],n=>some n
 | c :: r,n=>match D c with
  | some d=>foldN b D r (b*n+d)
  | none=>none
theorem hexD_lt {c:UInt8} {d:Nat} (h:hexD c=some d):d < 16:=by
 unfold hexD at h
 split at h
 ·obtain rfl:=Option.some.inj h;omega
 ·split at h
  ·obtain rfl:=Option.some.inj h;omega
  ·split at h
   ·obtain rfl:=Option.some.inj h;omega
   ·cases h
def hexRun:Nat→List UInt8→Nat→Nat×Nat
 | 0,_,n=>(0,n)
 | _+1,[],n=>(0,n)
 | f+1,c :: r,n=>match hexD c with
  | some d=>((hexRun f r (16*n+d)).1+1,(hexRun f r (16*n+d)).2)
  | none=>(0,n)
def brS (l:List UInt8) (i:Nat):Nat×Nat:=
 if l.length < i+3∨bt l (i+2)≠123 then (0,0) else
  if (hexRun 6 (l.drop (i+3)) 0).1=0∨l.length≤i+3+(hexRun 6 (l.drop (i+3)) 0).1∨bt l (i+3+(hexRun 6 (l.drop (i+3)) 0).1)≠125∨1114111 < (hexRun 6 (l.drop (i+3)) 0).2∨(55296≤(hexRun 6 (l.drop (i+3)) 0).2∧(hexRun 6 (l.drop (i+3)) 0).2≤57343) then (0,0)
  else (4+(hexRun 6 (l.drop (i+3)) 0).1,(hexRun 6 (l.drop (i+3)) 0).2)
def utfL (n:Nat):List UInt8:=
 if n < 128 then [UInt8.ofNat n] else if n < 2048 then [UInt8.ofNat (192+n / 64),UInt8.ofNat (128+n % 64)]
 else if n < 65536 then [UInt8.ofNat (224+n / 4096),UInt8.ofNat (128+n / 64 % 64),UInt8.ofNat (128+n % 64)]
 else [UInt8.ofNat (240+n / 262144),UInt8.ofNat (128+n / 4096 % 64),UInt8.ofNat (128+n / 64 % 64),UInt8.ofNat (128+n % 64)]
theorem ofN (n:Nat) (h:n < 256):((UInt8.ofNat n).toNat:Int)=(n:Int):=by rw [UInt8.toNat_ofNat'];omega
def escS (l:List UInt8) (i:Nat):Nat×List UInt8:=
 if l.length≤i+1 then (0,[])
 else if bt l (i+1)=34 then (2,[34])
 else if bt l (i+1)=92 then (2,[92])
 else if bt l (i+1)=110 then (2,[10])
 else if bt l (i+1)=114 then (2,[13])
 else if bt l (i+1)=116 then (2,[9])
 else if bt l (i+1)=120 then (if i+3 < l.length then match hexD (l.getD (i+2) 0),hexD (l.getD (i+3) 0) with
  | some a,some b=>(4,[UInt8.ofNat (16*a+b)])
  | _,_=>(0,[]) else (0,[]))
 else if bt l (i+1)=117 then (if 0 < (brS l i).1 then ((brS l i).1,utfL (brS l i).2) else (0,[]))
 else (0,[])
theorem utfL_len (n:Nat):(utfL n).length≤4:=by
 unfold utfL
 repeat' split
 all_goals simp
theorem brS_end (l:List UInt8) (i:Nat) (h:0 < (brS l i).1):5≤(brS l i).1∧i+(brS l i).1≤l.length:=by
 unfold brS at h ⊢
 split at h
 ·simp at h
 ·split at h
  ·simp at h
  ·rename_i h1 h2
   rw [if_neg h1,if_neg h2]
   show 5≤4+(hexRun 6 (l.drop (i+3)) 0).1∧i+(4+(hexRun 6 (l.drop (i+3)) 0).1)≤l.length
   omega
theorem escS_end (l:List UInt8) (i:Nat) (h:0 < (escS l i).1):i+(escS l i).1≤l.length∧(escS l i).2.length≤(escS l i).1:=by
 unfold escS at h ⊢
 split at h
 ·simp at h
 rename_i g0
 rw [if_neg g0]
 repeat' split
 all_goals first
  | (simp;omega)
  | (rename_i g;have hb1:=brS_end l i g;have hu:=utfL_len (brS l i).2;exact ⟨hb1.2,by omega⟩)
  | skip
 all_goals simp_all
 have hb1:=brS_end l i (by assumption)
 have hu:=utfL_len (brS l i).2
 exact ⟨hb1.2,by omega⟩
end Go.Proofs.YtbplhianpelmfaaGreatDoor

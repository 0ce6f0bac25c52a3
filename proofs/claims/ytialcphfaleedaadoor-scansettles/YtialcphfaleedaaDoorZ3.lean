import Derived.Shelf.Strconv.AtoiAll
import Derived.Shelf.Strconv.ErrVarAll
import Derived.Shelf.Strings.Search3
import Derived.Shelf.Strings.Prefix
import Derived.Shelf.Small.Wraps
import Derived.Shelf.Small.Utf8
import Derived.Ground.NamesProg
import Derived.Test.YtialcphfaleedaaDoorProg
import Derived.Test.YtialcphfaleedaaDoorZ2
import Derived.OwnWalk
import Derived.Deep.AppendLies
import Derived.Lib.OthersKept
import Derived.Test.YtialcphfaleedaaDoorZ1
namespace Go.Proofs
open Go.Shelf
def Tryd.l172_ren : Go.Shelf.Ren := ⟨fun | 172 => 74 | 244 => 84 | 245 => 83 | 247 => 95 | 279 => 91 | 280 => 92 | 281 => 93 | 282 => 94 | 287 => 82 | 316 => 23 | 171 => 75 | 205 => 97 | 321 => 89 | 322 => 90 | 243 => 85 | 246 => 96 | 283 => 98 | 284 => 99 | 285 => 100 | 286 => 101 | 129 => 103 | 317 => 102 | 318 => 104 | 319 => 105 | 320 => 106 | 337 => 107 | 338 => 108 | n => n, fun | 9 => 9 | 3 => 3 | 75 => 107 | 76 => 110 | 4 => 4 | 5 => 5 | 167 => 122 | 37 => 52 | 0 => 0 | 85 => 127 | 2 => 2 | 168 => 124 | 53 => 105 | 175 => 108 | 46 => 103 | 210 => 131 | 127 => 60 | 145 => 140 | 143 => 138 | 21 => 21 | 171 => 133 | 173 => 136 | 212 => 142 | 51 => 90 | 20 => 20 | 213 => 143 | 232 => 146 | 233 => 147 | 80 => 148 | n => n, fun | 15 => 6 | 16 => 7 | 17 => 8 | 18 => 9 | 19 => 10 | n => n⟩
theorem Tryd.l172 : Go.Proofs.LaysC.n172 Tryd.prog Tryd.l172_ren := {
  mixed := by kernel_rfl
  f129 := Tryd.func103.trans (congrArg some (by kernel_rfl))
  f171 := Tryd.func75.trans (congrArg some (by kernel_rfl))
  f172 := Tryd.func74.trans (congrArg some (by kernel_rfl))
  f205 := Tryd.func97.trans (congrArg some (by kernel_rfl))
  f243 := Tryd.func85.trans (congrArg some (by kernel_rfl))
  f244 := Tryd.func84.trans (congrArg some (by kernel_rfl))
  f245 := Tryd.func83.trans (congrArg some (by kernel_rfl))
  f246 := Tryd.func96.trans (congrArg some (by kernel_rfl))
  f247 := Tryd.func95.trans (congrArg some (by kernel_rfl))
  f279 := Tryd.func91.trans (congrArg some (by kernel_rfl))
  f280 := Tryd.func92.trans (congrArg some (by kernel_rfl))
  f281 := Tryd.func93.trans (congrArg some (by kernel_rfl))
  f282 := Tryd.func94.trans (congrArg some (by kernel_rfl))
  f283 := Tryd.func98.trans (congrArg some (by kernel_rfl))
  f284 := Tryd.func99.trans (congrArg some (by kernel_rfl))
  f285 := Tryd.func100.trans (congrArg some (by kernel_rfl))
  f286 := Tryd.func101.trans (congrArg some (by kernel_rfl))
  f287 := Tryd.func82.trans (congrArg some (by kernel_rfl))
  f316 := Tryd.func23.trans (congrArg some (by kernel_rfl))
  f317 := Tryd.func102.trans (congrArg some (by kernel_rfl))
  f318 := Tryd.func104.trans (congrArg some (by kernel_rfl))
  f319 := Tryd.func105.trans (congrArg some (by kernel_rfl))
  f320 := Tryd.func106.trans (congrArg some (by kernel_rfl))
  f321 := Tryd.func89.trans (congrArg some (by kernel_rfl))
  f322 := Tryd.func90.trans (congrArg some (by kernel_rfl))
  f337 := Tryd.func107.trans (congrArg some (by kernel_rfl))
  f338 := Tryd.func108.trans (congrArg some (by kernel_rfl))
  t0 := Tryd.underlying0
  a0 := Tryd.isAgg0
  z0 := Tryd.sizeOf0
  v0 := Tryd.zeroValue0
  t2 := Tryd.underlying2
  a2 := Tryd.isAgg2
  z2 := Tryd.sizeOf2
  v2 := Tryd.zeroValue2
  t3 := Tryd.underlying3
  a3 := Tryd.isAgg3
  z3 := Tryd.sizeOf3
  v3 := Tryd.zeroValue3
  t4 := Tryd.underlying4
  a4 := Tryd.isAgg4
  z4 := Tryd.sizeOf4
  v4 := Tryd.zeroValue4
  t5 := Tryd.underlying5
  a5 := Tryd.isAgg5
  z5 := Tryd.sizeOf5
  v5 := Tryd.zeroValue5
  t9 := Tryd.underlying9
  a9 := Tryd.isAgg9
  z9 := Tryd.sizeOf9
  v9 := Tryd.zeroValue9
  t20 := Tryd.underlying20
  a20 := Tryd.isAgg20
  z20 := Tryd.sizeOf20
  v20 := Tryd.zeroValue20
  t21 := Tryd.underlying21
  a21 := Tryd.isAgg21
  z21 := Tryd.sizeOf21
  v21 := Tryd.zeroValue21
  t37 := Tryd.underlying52
  a37 := Tryd.isAgg52
  z37 := Tryd.sizeOf52
  v37 := Tryd.zeroValue52
  t46 := Tryd.underlying103
  a46 := Tryd.isAgg103
  z46 := Tryd.sizeOf103
  v46 := Tryd.zeroValue103
  t51 := Tryd.underlying90
  a51 := Tryd.isAgg90
  z51 := Tryd.sizeOf90
  v51 := Tryd.zeroValue90
  t53 := Tryd.underlying105
  a53 := Tryd.isAgg105
  z53 := Tryd.sizeOf105
  v53 := Tryd.zeroValue105
  t75 := Tryd.underlying107
  a75 := Tryd.isAgg107
  z75 := Tryd.sizeOf107
  v75 := Tryd.zeroValue107
  t76 := Tryd.underlying110
  a76 := Tryd.isAgg110
  z76 := Tryd.sizeOf110
  v76 := Tryd.zeroValue110
  t85 := Tryd.underlying127
  a85 := Tryd.isAgg127
  z85 := Tryd.sizeOf127
  v85 := Tryd.zeroValue127
  t127 := Tryd.underlying60
  a127 := Tryd.isAgg60
  z127 := Tryd.sizeOf60
  v127 := Tryd.zeroValue60
  t143 := Tryd.underlying138
  a143 := Tryd.isAgg138
  z143 := Tryd.sizeOf138
  v143 := Tryd.zeroValue138
  t145 := Tryd.underlying140
  a145 := Tryd.isAgg140
  z145 := Tryd.sizeOf140
  v145 := Tryd.zeroValue140
  t167 := Tryd.underlying122
  a167 := Tryd.isAgg122
  z167 := Tryd.sizeOf122
  v167 := Tryd.zeroValue122
  t168 := Tryd.underlying124
  a168 := Tryd.isAgg124
  z168 := Tryd.sizeOf124
  v168 := Tryd.zeroValue124
  t171 := Tryd.underlying133
  a171 := Tryd.isAgg133
  z171 := Tryd.sizeOf133
  v171 := Tryd.zeroValue133
  t173 := Tryd.underlying136
  a173 := Tryd.isAgg136
  z173 := Tryd.sizeOf136
  v173 := Tryd.zeroValue136
  t175 := Tryd.underlying108
  a175 := Tryd.isAgg108
  z175 := Tryd.sizeOf108
  v175 := Tryd.zeroValue108
  t210 := Tryd.underlying131
  a210 := Tryd.isAgg131
  z210 := Tryd.sizeOf131
  v210 := Tryd.zeroValue131
  t212 := Tryd.underlying142
  a212 := Tryd.isAgg142
  z212 := Tryd.sizeOf142
  v212 := Tryd.zeroValue142
  t213 := Tryd.underlying143
  a213 := Tryd.isAgg143
  z213 := Tryd.sizeOf143
  t232 := Tryd.underlying146
  a232 := Tryd.isAgg146
  z232 := Tryd.sizeOf146
  v232 := Tryd.zeroValue146
  t233 := Tryd.underlying147
  a233 := Tryd.isAgg147
  z233 := Tryd.sizeOf147
  v233 := Tryd.zeroValue147
  g15 := by kernel_rfl
  g16 := by kernel_rfl
  g17 := by kernel_rfl
  g18 := by kernel_rfl
  g19 := by kernel_rfl
  t80 := Tryd.underlying148
  a80 := Tryd.isAgg148
  z80 := Tryd.sizeOf148
  v80 := Tryd.zeroValue148
  i0 := by kernel_rfl
  i2 := by kernel_rfl
  i3 := by kernel_rfl
  i4 := by kernel_rfl
  i5 := by kernel_rfl
  i9 := by kernel_rfl
  i20 := by kernel_rfl
  i21 := by kernel_rfl
  i37 := by kernel_rfl
  i46 := by kernel_rfl
  i51 := by kernel_rfl
  i53 := by kernel_rfl
  i75 := by kernel_rfl
  i76 := by kernel_rfl
  i80 := by kernel_rfl
  i85 := by kernel_rfl
  i127 := by kernel_rfl
  i143 := by kernel_rfl
  i145 := by kernel_rfl
  i167 := by kernel_rfl
  i168 := by kernel_rfl
  i171 := by kernel_rfl
  i173 := by kernel_rfl
  i175 := by kernel_rfl
  i210 := by kernel_rfl
  i212 := by kernel_rfl
  i232 := by kernel_rfl
  i233 := by kernel_rfl
  m15 := by kernel_rfl
  m16 := by kernel_rfl
  m17 := by kernel_rfl
  m18 := by kernel_rfl
  m19 := by kernel_rfl
  c0 := by kernel_rfl
  c2 := by kernel_rfl
  c3 := by kernel_rfl
  c4 := by kernel_rfl
  c5 := by kernel_rfl
  c9 := by kernel_rfl
  c20 := by kernel_rfl
  c21 := by kernel_rfl
  c37 := by kernel_rfl
  c46 := by kernel_rfl
  c51 := by kernel_rfl
  c53 := by kernel_rfl
  c75 := by kernel_rfl
  c76 := by kernel_rfl
  c80 := by kernel_rfl
  c85 := by kernel_rfl
  c127 := by kernel_rfl
  c143 := by kernel_rfl
  c145 := by kernel_rfl
  c167 := by kernel_rfl
  c168 := by kernel_rfl
  c171 := by kernel_rfl
  c173 := by kernel_rfl
  c175 := by kernel_rfl
  c210 := by kernel_rfl
  c212 := by kernel_rfl
  c213 := by kernel_rfl
  c232 := by kernel_rfl
  c233 := by kernel_rfl }
def Tryd.l103_ren : Go.Shelf.Ren := ⟨fun | 103 => 61 | 210 => 72 | 206 => 30 | n => n, fun | 9 => 9 | 4 => 4 | 24 => 97 | 3 => 3 | n => n, fun | n => n⟩
theorem Tryd.l103 : Go.Proofs.Lays.n103 Tryd.prog Tryd.l103_ren := {
  mixed := by kernel_rfl
  f103 := Tryd.func61.trans (congrArg some (by kernel_rfl))
  f206 := Tryd.func30.trans (congrArg some (by kernel_rfl))
  f210 := Tryd.func72.trans (congrArg some (by kernel_rfl))
  t3 := Tryd.underlying3
  a3 := Tryd.isAgg3
  z3 := Tryd.sizeOf3
  v3 := Tryd.zeroValue3
  t4 := Tryd.underlying4
  a4 := Tryd.isAgg4
  z4 := Tryd.sizeOf4
  v4 := Tryd.zeroValue4
  t9 := Tryd.underlying9
  a9 := Tryd.isAgg9
  z9 := Tryd.sizeOf9
  v9 := Tryd.zeroValue9
  t24 := Tryd.underlying97
  a24 := Tryd.isAgg97
  z24 := Tryd.sizeOf97
  v24 := Tryd.zeroValue97 }
def Tryd.l143_ren : Go.Shelf.Ren := ⟨fun | 143 => 60 | 219 => 71 | 217 => 78 | 225 => 79 | 224 => 80 | 267 => 81 | 266 => 87 | 314 => 88 | n => n, fun | 9 => 9 | 3 => 3 | 4 => 4 | 5 => 5 | 46 => 103 | 146 => 120 | 51 => 90 | n => n, fun | 1 => 5 | n => n⟩
theorem Tryd.l143 : Go.Proofs.Lays.n143 Tryd.prog Tryd.l143_ren := {
  mixed := by kernel_rfl
  f143 := Tryd.func60.trans (congrArg some (by kernel_rfl))
  f217 := Tryd.func78.trans (congrArg some (by kernel_rfl))
  f219 := Tryd.func71.trans (congrArg some (by kernel_rfl))
  f224 := Tryd.func80.trans (congrArg some (by kernel_rfl))
  f225 := Tryd.func79.trans (congrArg some (by kernel_rfl))
  f266 := Tryd.func87.trans (congrArg some (by kernel_rfl))
  f267 := Tryd.func81.trans (congrArg some (by kernel_rfl))
  f314 := Tryd.func88.trans (congrArg some (by kernel_rfl))
  t3 := Tryd.underlying3
  a3 := Tryd.isAgg3
  z3 := Tryd.sizeOf3
  v3 := Tryd.zeroValue3
  t4 := Tryd.underlying4
  a4 := Tryd.isAgg4
  z4 := Tryd.sizeOf4
  v4 := Tryd.zeroValue4
  t5 := Tryd.underlying5
  a5 := Tryd.isAgg5
  z5 := Tryd.sizeOf5
  v5 := Tryd.zeroValue5
  t9 := Tryd.underlying9
  a9 := Tryd.isAgg9
  z9 := Tryd.sizeOf9
  v9 := Tryd.zeroValue9
  t46 := Tryd.underlying103
  a46 := Tryd.isAgg103
  z46 := Tryd.sizeOf103
  v46 := Tryd.zeroValue103
  t51 := Tryd.underlying90
  a51 := Tryd.isAgg90
  z51 := Tryd.sizeOf90
  v51 := Tryd.zeroValue90
  t146 := Tryd.underlying120
  a146 := Tryd.isAgg120
  z146 := Tryd.sizeOf120
  v146 := Tryd.zeroValue120
  g1 := by kernel_rfl }
def Tryd.l144_ren : Go.Shelf.Ren := ⟨fun | 144 => 63 | 143 => 60 | 219 => 71 | 217 => 78 | 225 => 79 | 224 => 80 | 267 => 81 | 266 => 87 | 314 => 88 | n => n, fun | 9 => 9 | 4 => 4 | 3 => 3 | 5 => 5 | 46 => 103 | 146 => 120 | 51 => 90 | n => n, fun | 1 => 5 | n => n⟩
theorem Tryd.l144 : Go.Proofs.Lays.n144 Tryd.prog Tryd.l144_ren := {
  mixed := by kernel_rfl
  f143 := Tryd.func60.trans (congrArg some (by kernel_rfl))
  f144 := Tryd.func63.trans (congrArg some (by kernel_rfl))
  f217 := Tryd.func78.trans (congrArg some (by kernel_rfl))
  f219 := Tryd.func71.trans (congrArg some (by kernel_rfl))
  f224 := Tryd.func80.trans (congrArg some (by kernel_rfl))
  f225 := Tryd.func79.trans (congrArg some (by kernel_rfl))
  f266 := Tryd.func87.trans (congrArg some (by kernel_rfl))
  f267 := Tryd.func81.trans (congrArg some (by kernel_rfl))
  f314 := Tryd.func88.trans (congrArg some (by kernel_rfl))
  t3 := Tryd.underlying3
  a3 := Tryd.isAgg3
  z3 := Tryd.sizeOf3
  v3 := Tryd.zeroValue3
  t4 := Tryd.underlying4
  a4 := Tryd.isAgg4
  z4 := Tryd.sizeOf4
  v4 := Tryd.zeroValue4
  t5 := Tryd.underlying5
  a5 := Tryd.isAgg5
  z5 := Tryd.sizeOf5
  v5 := Tryd.zeroValue5
  t9 := Tryd.underlying9
  a9 := Tryd.isAgg9
  z9 := Tryd.sizeOf9
  v9 := Tryd.zeroValue9
  t46 := Tryd.underlying103
  a46 := Tryd.isAgg103
  z46 := Tryd.sizeOf103
  v46 := Tryd.zeroValue103
  t51 := Tryd.underlying90
  a51 := Tryd.isAgg90
  z51 := Tryd.sizeOf90
  v51 := Tryd.zeroValue90
  t146 := Tryd.underlying120
  a146 := Tryd.isAgg120
  z146 := Tryd.sizeOf120
  v146 := Tryd.zeroValue120
  g1 := by kernel_rfl }
def Tryd.l99_ren : Go.Shelf.Ren := ⟨fun | 99 => 24 | 206 => 30 | n => n, fun | 9 => 9 | 4 => 4 | 3 => 3 | n => n, fun | n => n⟩
theorem Tryd.l99 : Go.Proofs.Lays.n99 Tryd.prog Tryd.l99_ren := {
  mixed := by kernel_rfl
  f99 := Tryd.func24.trans (congrArg some (by kernel_rfl))
  f206 := Tryd.func30.trans (congrArg some (by kernel_rfl))
  t3 := Tryd.underlying3
  a3 := Tryd.isAgg3
  z3 := Tryd.sizeOf3
  v3 := Tryd.zeroValue3
  t4 := Tryd.underlying4
  a4 := Tryd.isAgg4
  z4 := Tryd.sizeOf4
  v4 := Tryd.zeroValue4
  t9 := Tryd.underlying9
  a9 := Tryd.isAgg9
  z9 := Tryd.sizeOf9
  v9 := Tryd.zeroValue9 }
def Tryd.l119_ren : Go.Shelf.Ren := ⟨fun | 119 => 57 | n => n, fun | 21 => 21 | 4 => 4 | n => n, fun | n => n⟩
theorem Tryd.l119 : Go.Proofs.Lays.n119 Tryd.prog Tryd.l119_ren := {
  mixed := by kernel_rfl
  f119 := Tryd.func57.trans (congrArg some (by kernel_rfl))
  t4 := Tryd.underlying4
  a4 := Tryd.isAgg4
  z4 := Tryd.sizeOf4
  v4 := Tryd.zeroValue4
  t21 := Tryd.underlying21
  a21 := Tryd.isAgg21
  z21 := Tryd.sizeOf21
  v21 := Tryd.zeroValue21 }
end Go.Proofs
namespace Go.Proofs.YtialcphfaleedaaDoor
open Go.RowKit Go.Shelf
theorem dc_pos (l : List UInt8) (i : Nat) : 1 ≤ (dc l i).2 := by
  rw [← dc_decode]
  exact Lib.width_pos _ _
theorem iterPos_of {w : World} {k : Nat} {s : ByteArray} {p : Nat} (h : w.heap[k]? = some (.stringIter s p)) : w.iterPos k = p := by simp [World.iterPos, h]
/-- a character: its number (-1: a loose byte; -2: behind the end) and the bytes ahead of it -/
def chars (l : List UInt8) (i : Nat) : List (Int × Nat) :=
  if i < l.length then ((if lo1 l i then -1 else ((dc l i).1 : Int)), i) :: chars l (i + (dc l i).2) else [(-2, l.length)]
termination_by l.length - i
decreasing_by
  have := dc_pos l i
  omega
def ccel (c : Int × Nat) : List Value := [.int .i32 c.1, .int .i64 (c.2 : Int)]
def ccels (L : List (Int × Nat)) : List Value := L.flatMap ccel
theorem info_char : (Tryd.prog.info? 54).map (fun i => (i.zero, i.size, i.bytes)) = some (some (.agg #[.int .i32 0, .int .i64 0]), 2, 16) := by kernel_rfl
theorem chars_lt {l : List UInt8} {i : Nat} (h : i < l.length) : chars l i = ((if lo1 l i then -1 else ((dc l i).1 : Int)), i) :: chars l (i + (dc l i).2) := by rw [chars, if_pos h]
theorem chars_end {l : List UInt8} {i : Nat} (h : ¬ i < l.length) : chars l i = [(-2, l.length)] := by rw [chars, if_neg h]
theorem ccels_snoc (L : List (Int × Nat)) (c : Int × Nat) : ccels (L ++ [c]) = ccels L ++ ccel c := by simp [ccels]
theorem dc_le (l : List UInt8) (i : Nat) (h : i < l.length) : i + (dc l i).2 ≤ l.length := by
  unfold dc
  rcases Lib.decodeN_shape (l.length - i) (bt l i) (bt l (i + 1)) (bt l (i + 2)) (bt l (i + 3)) with ⟨a1, e⟩ | ⟨a1, a2, a3, a4, e⟩ | ⟨a1, a2, a3, a4, a5, a6, e⟩ | ⟨a1, a2, a3, a4, a5, a6, a7, e⟩ | e
  all_goals rw [e]
  all_goals simp only
  all_goals omega
theorem bt_get {l : List UInt8} {i : Nat} (h : i < l.length) : l[i]? = some (l.getD i 0) := by simp [List.getD, List.getElem?_eq_getElem h]
theorem u8_of {c : UInt8} {n : Nat} (h : c.toNat = n) (hn : n < 256) : c = UInt8.ofNat n := UInt8.toNat_inj.1 (by rw [h, UInt8.toNat_ofNat']; omega)
/-- the replacement character stands there, or a loose byte -/
theorem pre_fffd (l : List UInt8) (i : Nat) (h : i < l.length) (h1 : (dc l i).1 = 65533) : Lib.hasPrefix (l.drop i) [239, 191, 189] = !lo1 l i := by
  have hpre : Lib.hasPrefix (l.drop i) [239, 191, 189] = true ↔ (i + 2 < l.length ∧ bt l i = 239 ∧ bt l (i + 1) = 191 ∧ bt l (i + 2) = 189) := by
    unfold Lib.hasPrefix
    rw [List.isPrefixOf_iff_prefix, List.prefix_iff_eq_take]
    constructor
    · intro e
      have hl := congrArg List.length e
      simp at hl
      have g : ∀ j, j < 3 → l[i + j]? = ([239, 191, 189] : List UInt8)[j]? := fun j hj => by
        rw [e]; simp [List.getElem?_drop, hj]
      exact ⟨by omega, by rw [bt_of (c := 239) (by simpa using g 0 (by decide))]; rfl, by rw [bt_of (c := 191) (by simpa using g 1 (by decide))]; rfl, by rw [bt_of (c := 189) (by simpa using g 2 (by decide))]; rfl⟩
    · rintro ⟨h3, e0, e1, e2⟩
      have a0 := bt_get h
      have a1 := bt_get (l := l) (i := i + 1) (by omega)
      have a2 := bt_get h3
      rw [u8_of (c := l.getD i 0) e0 (by decide)] at a0
      rw [u8_of (c := l.getD (i + 1) 0) e1 (by decide)] at a1
      rw [u8_of (c := l.getD (i + 2) 0) e2 (by decide)] at a2
      refine List.ext_getElem? (fun j => ?_)
      match j with
      | 0 => simp [List.getElem?_drop, a0]
      | 1 => simp [List.getElem?_drop, a1]
      | 2 => simp [List.getElem?_drop, a2]
      | j + 3 => rw [List.getElem?_eq_none (by simp), List.getElem?_eq_none (by simp; omega)]
  cases hlo : lo1 l i with
  | true =>
    have hd : dc l i = (65533, 1) := of_decide_eq_true hlo
    rw [Bool.not_true, Bool.eq_false_iff]
    intro hp
    obtain ⟨h3, e0, e1, e2⟩ := hpre.1 hp
    unfold dc at hd
    rw [e0, e1, e2] at hd
    unfold Lib.decodeN at hd
    rw [if_neg (by decide), if_neg (by omega), if_pos ⟨by decide, ⟨by omega, by decide⟩, ⟨by omega, by decide⟩⟩] at hd
    exact absurd hd (by decide)
  | false =>
    have hd : dc l i ≠ (65533, 1) := of_decide_eq_false hlo
    rw [Bool.not_false, hpre]
    have l0 := bt_lt l i
    have l1 := bt_lt l (i + 1)
    have l2 := bt_lt l (i + 2)
    rcases Lib.decodeN_shape (l.length - i) (bt l i) (bt l (i + 1)) (bt l (i + 2)) (bt l (i + 3)) with ⟨a1, e⟩ | ⟨a1, a2, a3, a4, e⟩ | ⟨a1, a2, a3, a4, a5, a6, e⟩ | ⟨a1, a2, a3, a4, a5, a6, a7, e⟩ | e
    all_goals unfold dc at h1 hd
    all_goals rw [e] at h1 hd
    · simp only at h1; omega
    · simp only at h1; omega
    · simp only at h1; omega
    · simp only at h1; omega
    · exact absurd rfl hd
theorem hasPre_any (r : List UInt8) (w : World) : Calls Tryd.prog 24 #[.string ⟨r.toArray⟩, .string ⟨#[239, 191, 189]⟩] w fun e w' => e = .returned (.bool (Lib.hasPrefix r [239, 191, 189])) ∧ w' = w := Any.strings_HasPrefix Tryd.l99 ⟨r.toArray⟩ ⟨#[239, 191, 189]⟩ w
theorem own_iter {W : World} {B n : Nat} {e : TypeId} {sz : Nat} {v : Value} {xs : List Value} {k p : Nat} {s : ByteArray} (h : W.ownsRow B e sz v n xs) (hk : W.heap[k]? = some (.stringIter s p)) : v.ownBlock ≠ some k := by
  intro hb
  rcases h.2 with ⟨rfl, _⟩ | ⟨g, c, cur, rfl, _, hg, _⟩
  · cases hb
  · have : g = k := by injection hb
    subst this
    rw [hk] at hg
    cases hg
set_option maxRecDepth 100000 in
set_option maxHeartbeats 2000000 in
theorem charsOf_any (l : List UInt8) (w : World) (hs : l.length ≤ 16384) :
    Calls Tryd.prog 16 #[.string ⟨l.toArray⟩] w fun e w' => ∃ v, e = .returned v ∧ w'.ownsRow w.heap.size 54 2 v (chars l 0).length (ccels (chars l 0)) ∧ Below w.heap.size w w' := by
  obtain ⟨i0, hi, hz0, hz1, hz2⟩ := info_parts info_char
  go_enter Tryd.func16, Tryd.ntmps16
  go_wp2_with (at_make; refine wpList_make_own _ rfl _ _ 41 rfl w.heap.size 54 i0 (.agg #[.int .i32 0, .int .i64 0]) 2 Tryd.underlying41 hi hz0 hz1 .i64 .i64 _ (l.length + 1) rfl rfl (by omega) (by rw [hz2]; omega) (by unfold maxLen; omega) (Nat.le_refl _) ?_; intro w1 hown hgrow)
  obtain ⟨KB, hKB⟩ : ∃ KB, w1.heap.size = KB := ⟨_, rfl⟩
  have B1 : Below w.heap.size w w1 := (Below.refl _ _).grown hgrow (Nat.le_refl _) (fun k e => by cases e)
  have hKw : w.heap.size ≤ KB := by rw [← hKB]; exact B1.size
  have Hk0 : (w1.iter ⟨l.toArray⟩ 0).heap[KB]? = some (.stringIter ⟨l.toArray⟩ 0) := by rw [← hKB]; exact World.iter_heap _ _ _
  have Ho0 : (w1.iter ⟨l.toArray⟩ 0).ownsRow w.heap.size 54 2 (.slice (some ⟨w.heap.size, 0, none⟩) 0 (l.length + 1)) 0 (ccels []) := hown.alloc _
  have Hb0 : Below w.heap.size w (w1.iter ⟨l.toArray⟩ 0) := B1.alloc (by omega) _
  have HL : Hid (chars l 0 = chars l 0) := rfl
  clear hown hgrow B1
  simp only [hKB]
  go_loopw [3] (fun v wr => ∃ (i : Nat) (D : List (Int × Nat)), i ≤ l.length ∧ D.length ≤ i ∧ D ++ chars l i = chars l 0 ∧ wr.ownsRow w.heap.size 54 2 v D.length (ccels D) ∧ wr.heap[KB]? = some (.stringIter ⟨l.toArray⟩ i) ∧ Below w.heap.size w wr) (fun _ wr => l.length - wr.iterPos KB)
  case atStart => exact ⟨0, [], Nat.zero_le _, Nat.zero_le _, rfl, Ho0, Hk0, Hb0⟩
  case round =>
    clear Hk0 Ho0 Hb0 HL
    obtain ⟨i, D, hi1, hD, hch, hown, hk, hB⟩ := hrel
    by_cases hlt : i < l.length
    · have hnx0 := fun ty => Lib.run_next_any_at (P := Tryd.prog) wr KB ⟨l.toArray⟩ i ty hk (by simpa [ByteArray.size] using hlt)
      have hp := dc_pos l i
      have hle := dc_le l i hlt
      rw [dc_decode] at hnx0
      have hk2 := Lib.iterAt_heap wr KB ⟨l.toArray⟩ i (i + (dc l i).2) hk
      have hb2 := Lib.below_iterAt hB hKw ⟨l.toArray⟩ (i + (dc l i).2)
      have hsz : (wr.iterAt KB ⟨l.toArray⟩ (i + (dc l i).2)).heap.size = wr.heap.size := Lib.iterAt_size ..
      have ho2 : (wr.iterAt KB ⟨l.toArray⟩ (i + (dc l i).2)).ownsRow w.heap.size 54 2 u3 D.length (ccels D) := hown.kept (row := some KB) ⟨rfl, rfl, rfl, by rw [hsz]; exact Nat.le_refl _, fun j _ hj => Lib.iterAt_other wr KB j ⟨l.toArray⟩ _ (fun e => hj (by rw [e]))⟩ (.inr (own_iter hown hk))
      have hpf := pre_fffd l i hlt
      have hcl := chars_lt hlt
      have hlo0 : (dc l i).1 ≠ 65533 → lo1 l i = false := fun h => decide_eq_false (fun e => h (by rw [e]))
      obtain ⟨W2, hW2⟩ : ∃ W2, wr.iterAt KB ⟨l.toArray⟩ (i + (dc l i).2) = W2 := ⟨_, rfl⟩
      rw [hW2] at hk2 hb2 hsz ho2
      have hnx : ∀ ty, (Instr.next (.pointer (some ⟨KB, 0, none⟩)) true ty).run Tryd.prog wr = .ok (.tuple #[.bool true, .int .i64 (i : Int), .int .i32 ((dc l i).1 : Int)]) W2 := fun ty => by rw [← hW2]; exact hnx0 ty
      clear hnx0 hW2 hsz
      obtain ⟨R, hR⟩ : ∃ R, (dc l i).1 = R := ⟨_, rfl⟩
      obtain ⟨K, hK⟩ : ∃ K, (dc l i).2 = K := ⟨_, rfl⟩
      obtain ⟨lo, hlo⟩ : ∃ lo, lo1 l i = lo := ⟨_, rfl⟩
      rw [hR] at hpf hcl hlo0 hnx
      rw [hK] at hk2 hp hle hcl
      rw [hlo] at hpf hcl hlo0
      clear hR hK hlo
      have hzW : w.heap.size ≤ W2.heap.size := hb2.size
      have hE := ext_drop l i
      have HP := hasPre_any (l.drop i)
      have j0 : (0 : Int) ≤ (i : Int) := by omega
      have j1 : (i : Int) ≤ (l.length : Int) := by omega
      obtain ⟨qv, cv, rfl⟩ := shapeP hown
      by_cases h65 : R = 65533
      · subst h65
        rw [hpf rfl] at HP
        cases lo with
        | true =>
          have HC : Hid (D ++ ([((-1 : Int), i)] ++ chars l (i + K)) = chars l 0) := by unfold Hid; rw [← hch, hcl]; rfl
          clear hcl hpf hlo0 hch
          go_wp2_with fail
          refine (HP _).mono ?_
          rintro e w3 ⟨rfl, rfl⟩
          go_wp2_with (at_builtin; refine wpList_append_own _ rfl _ _ 41 rfl w.heap.size 54 i0 _ 2 16 Tryd.underlying41 hi hz0 hz1 hz2 rfl (by decide) _ _ _ rfl (ho2.alloc _) ⟨w3.heap.size, 0, none⟩ 1 1 (ccel ((-1 : Int), i)) rfl rfl (World.news_of_block (cs := #[.int .i32 ((-1 : Int)), .int .i64 ((i : Nat) : Int)]) (t := 54) (fr := (0, 0)) (alloc_get _ _)) (by simp [ccel, Value.oneCell']) (by unfold maxLen; omega) (by omega) (by simp; omega) ?_; intro v5 w5 oB hg5 _)
          have nK := own_iter ho2 hk2
          have k5 : w5.heap[KB]? = some (.stringIter ⟨l.toArray⟩ (i + K)) := (hg5.block KB (lt_of_get (allocblk hk2 _)) (fun e => nK e.symm)).trans (allocblk hk2 _)
          have b5 : Below w.heap.size w w5 := (hb2.alloc hzW _).grown hg5 (by simp; omega) (fun k e => (ho2.lt k e).1)
          have hm5 : w5.iterPos KB = i + K := iterPos_of k5
          have hm0 : wr.iterPos KB = i := iterPos_of hk
          have HM : Hid (l.length - w5.iterPos KB < l.length - wr.iterPos KB) := by unfold Hid; rw [hm5, hm0]; omega
          have R5 : ∃ (i' : Nat) (D' : List (Int × Nat)), i' ≤ l.length ∧ D'.length ≤ i' ∧ D' ++ chars l i' = chars l 0 ∧ w5.ownsRow w.heap.size 54 2 v5 D'.length (ccels D') ∧ w5.heap[KB]? = some (.stringIter ⟨l.toArray⟩ i') ∧ Below w.heap.size w w5 := ⟨i + K, D ++ [((-1 : Int), i)], by omega, by simp; omega, by rw [List.append_assoc]; exact HC.out, by rw [List.length_append, ccels_snoc]; exact oB, k5, b5⟩
          go_roundw
          case rel => first | exact R5 | ((repeat apply Exists.intro); exact ⟨R5, rfl⟩)
          case measure => exact HM.out
        | false =>
          have HC : Hid (D ++ ([((65533 : Int), i)] ++ chars l (i + K)) = chars l 0) := by unfold Hid; rw [← hch, hcl]; rfl
          clear hcl hpf hlo0 hch
          go_wp2_with fail
          refine (HP _).mono ?_
          rintro e w3 ⟨rfl, rfl⟩
          go_wp2_with (at_builtin; refine wpList_append_own _ rfl _ _ 41 rfl w.heap.size 54 i0 _ 2 16 Tryd.underlying41 hi hz0 hz1 hz2 rfl (by decide) _ _ _ rfl (ho2.alloc _) ⟨w3.heap.size, 0, none⟩ 1 1 (ccel ((65533 : Int), i)) rfl rfl (World.news_of_block (cs := #[.int .i32 ((65533 : Int)), .int .i64 ((i : Nat) : Int)]) (t := 54) (fr := (0, 0)) (alloc_get _ _)) (by simp [ccel, Value.oneCell']) (by unfold maxLen; omega) (by omega) (by simp; omega) ?_; intro v5 w5 oB hg5 _)
          have nK := own_iter ho2 hk2
          have k5 : w5.heap[KB]? = some (.stringIter ⟨l.toArray⟩ (i + K)) := (hg5.block KB (lt_of_get (allocblk hk2 _)) (fun e => nK e.symm)).trans (allocblk hk2 _)
          have b5 : Below w.heap.size w w5 := (hb2.alloc hzW _).grown hg5 (by simp; omega) (fun k e => (ho2.lt k e).1)
          have hm5 : w5.iterPos KB = i + K := iterPos_of k5
          have hm0 : wr.iterPos KB = i := iterPos_of hk
          have HM : Hid (l.length - w5.iterPos KB < l.length - wr.iterPos KB) := by unfold Hid; rw [hm5, hm0]; omega
          have R5 : ∃ (i' : Nat) (D' : List (Int × Nat)), i' ≤ l.length ∧ D'.length ≤ i' ∧ D' ++ chars l i' = chars l 0 ∧ w5.ownsRow w.heap.size 54 2 v5 D'.length (ccels D') ∧ w5.heap[KB]? = some (.stringIter ⟨l.toArray⟩ i') ∧ Below w.heap.size w w5 := ⟨i + K, D ++ [((65533 : Int), i)], by omega, by simp; omega, by rw [List.append_assoc]; exact HC.out, by rw [List.length_append, ccels_snoc]; exact oB, k5, b5⟩
          go_roundw
          case rel => first | exact R5 | ((repeat apply Exists.intro); exact ⟨R5, rfl⟩)
          case measure => exact HM.out
      · have e0 : ((R : Int) == 65533) = false := by rw [beq_eq_false_iff_ne]; omega
        obtain rfl : lo = false := hlo0 h65
        have HC : Hid (D ++ ([((R : Int), i)] ++ chars l (i + K)) = chars l 0) := by unfold Hid; rw [← hch, hcl]; rfl
        clear hcl hpf hlo0 hch
        go_wp2_with (at_builtin; refine wpList_append_own _ rfl _ _ 41 rfl w.heap.size 54 i0 _ 2 16 Tryd.underlying41 hi hz0 hz1 hz2 rfl (by decide) _ _ _ rfl (ho2.alloc _) ⟨W2.heap.size, 0, none⟩ 1 1 (ccel ((R : Int), i)) rfl rfl (World.news_of_block (cs := #[.int .i32 ((R : Int)), .int .i64 ((i : Nat) : Int)]) (t := 54) (fr := (0, 0)) (alloc_get _ _)) (by simp [ccel, Value.oneCell']) (by unfold maxLen; omega) (by omega) (by simp; omega) ?_; intro v5 w5 oB hg5 _)
        have nK := own_iter ho2 hk2
        have k5 : w5.heap[KB]? = some (.stringIter ⟨l.toArray⟩ (i + K)) := (hg5.block KB (lt_of_get (allocblk hk2 _)) (fun e => nK e.symm)).trans (allocblk hk2 _)
        have b5 : Below w.heap.size w w5 := (hb2.alloc hzW _).grown hg5 (by simp; omega) (fun k e => (ho2.lt k e).1)
        have hm5 : w5.iterPos KB = i + K := iterPos_of k5
        have hm0 : wr.iterPos KB = i := iterPos_of hk
        have HM : Hid (l.length - w5.iterPos KB < l.length - wr.iterPos KB) := by unfold Hid; rw [hm5, hm0]; omega
        have R5 : ∃ (i' : Nat) (D' : List (Int × Nat)), i' ≤ l.length ∧ D'.length ≤ i' ∧ D' ++ chars l i' = chars l 0 ∧ w5.ownsRow w.heap.size 54 2 v5 D'.length (ccels D') ∧ w5.heap[KB]? = some (.stringIter ⟨l.toArray⟩ i') ∧ Below w.heap.size w w5 := ⟨i + K, D ++ [((R : Int), i)], by omega, by simp; omega, by rw [List.append_assoc]; exact HC.out, by rw [List.length_append, ccels_snoc]; exact oB, k5, b5⟩
        go_roundw
        case rel => first | exact R5 | ((repeat apply Exists.intro); exact ⟨R5, rfl⟩)
        case measure => exact HM.out
    · have hnx : ∀ ty, (Instr.next (.pointer (some ⟨KB, 0, none⟩)) true ty).run Tryd.prog wr = .ok (.tuple #[.bool false]) wr := fun ty => Lib.run_next_end_at (P := Tryd.prog) wr KB ⟨l.toArray⟩ i ty hk (by simpa [ByteArray.size] using hlt)
      rw [chars_end hlt] at hch
      have HC : Hid (D ++ [((-2 : Int), l.length)] = chars l 0) := hch
      have hzW : w.heap.size ≤ wr.heap.size := hB.size
      clear hch
      obtain ⟨qv, cv, rfl⟩ := shapeP hown
      go_wp2_with (at_builtin; refine wpList_append_own _ rfl _ _ 41 rfl w.heap.size 54 i0 _ 2 16 Tryd.underlying41 hi hz0 hz1 hz2 rfl (by decide) _ _ _ rfl (hown.alloc _) ⟨wr.heap.size, 0, none⟩ 1 1 (ccel ((-2 : Int), l.length)) rfl rfl (World.news_of_block (cs := #[.int .i32 ((-2 : Int)), .int .i64 ((l.length : Nat) : Int)]) (t := 54) (fr := (0, 0)) (alloc_get _ _)) (by simp [ccel, Value.oneCell']) (by unfold maxLen; omega) (by omega) (by simp; omega) ?_; intro v5 w5 oB hg5 _)
      have b5 : Below w.heap.size w w5 := (hB.alloc hzW _).grown hg5 (by simp; omega) (fun k e => (hown.lt k e).1)
      go_ret
      refine ⟨v5, rfl, ?_, b5⟩
      rw [← HC.out, List.length_append, ccels_snoc]
      exact oB
end Go.Proofs.YtialcphfaleedaaDoor
namespace Go.Proofs.YtialcphfaleedaaDoor
open Go.RowKit
def hexI (r : Int) : Int := if 48 ≤ r ∧ r ≤ 57 then r - 48 else if 97 ≤ r ∧ r ≤ 102 then r - 97 + 10 else if 65 ≤ r ∧ r ≤ 70 then r - 65 + 10 else -1
set_option maxRecDepth 100000 in
theorem hexValue_any (r : Int) (w : World) (h0 : -2 ≤ r) (h1 : r ≤ 1114111) :
    Calls Tryd.prog 69 #[.int .i32 r] w fun e w' => e = .returned (.int .i32 (hexI r)) ∧ w' = w := by
  by_cases a1 : 48 ≤ r ∧ r ≤ 57
  · have hr : Hid (hexI r = r - 48) := by unfold Hid hexI; rw [if_pos a1]
    have w0 : IntKind.i32.wrap (r - 48) = r - 48 := by rw [IntKind.wrap_i32]; omega
    have j0 : 48 ≤ r := by omega
    have j1 : r ≤ 57 := by omega
    go_enter Tryd.func69, Tryd.ntmps69
    go_wp2
    go_ret
    exact ⟨by rw [hr.out]; rfl, rfl⟩
  · by_cases a2 : 97 ≤ r ∧ r ≤ 102
    · have hr : Hid (hexI r = r - 97 + 10) := by unfold Hid hexI; rw [if_neg a1, if_pos a2]
      have w0 : IntKind.i32.wrap (r - 97) = r - 97 := by rw [IntKind.wrap_i32]; omega
      have w1 : IntKind.i32.wrap (r - 97 + 10) = r - 97 + 10 := by rw [IntKind.wrap_i32]; omega
      have j0 : 48 ≤ r := by omega
      have j1 : ¬ r ≤ 57 := by omega
      have j2 : 97 ≤ r := by omega
      have j3 : r ≤ 102 := by omega
      go_enter Tryd.func69, Tryd.ntmps69
      go_wp2
      go_ret
      exact ⟨by rw [hr.out]; rfl, rfl⟩
    · by_cases a3 : 65 ≤ r ∧ r ≤ 70
      · have hr : Hid (hexI r = r - 65 + 10) := by unfold Hid hexI; rw [if_neg a1, if_neg a2, if_pos a3]
        have w0 : IntKind.i32.wrap (r - 65) = r - 65 := by rw [IntKind.wrap_i32]; omega
        have w1 : IntKind.i32.wrap (r - 65 + 10) = r - 65 + 10 := by rw [IntKind.wrap_i32]; omega
        have j0 : 48 ≤ r := by omega
        have j1 : ¬ r ≤ 57 := by omega
        have j2 : ¬ 97 ≤ r := by omega
        have j3 : 65 ≤ r := by omega
        have j4 : r ≤ 70 := by omega
        go_enter Tryd.func69, Tryd.ntmps69
        go_wp2
        go_ret
        exact ⟨by rw [hr.out]; rfl, rfl⟩
      · have hr : Hid (hexI r = -1) := by unfold Hid hexI; rw [if_neg a1, if_neg a2, if_neg a3]
        by_cases c1 : 48 ≤ r
        · have d1 : ¬ r ≤ 57 := by omega
          by_cases c2 : 97 ≤ r
          · have d2 : ¬ r ≤ 102 := by omega
            have c3 : 65 ≤ r := by omega
            have d3 : ¬ r ≤ 70 := by omega
            go_enter Tryd.func69, Tryd.ntmps69
            go_wp2
            go_ret
            exact ⟨by rw [hr.out]; rfl, rfl⟩
          · by_cases c3 : 65 ≤ r
            · have d3 : ¬ r ≤ 70 := by omega
              go_enter Tryd.func69, Tryd.ntmps69
              go_wp2
              go_ret
              exact ⟨by rw [hr.out]; rfl, rfl⟩
            · go_enter Tryd.func69, Tryd.ntmps69
              go_wp2
              go_ret
              exact ⟨by rw [hr.out]; rfl, rfl⟩
        · have c2 : ¬ 97 ≤ r := by omega
          have c3 : ¬ 65 ≤ r := by omega
          go_enter Tryd.func69, Tryd.ntmps69
          go_wp2
          go_ret
          exact ⟨by rw [hr.out]; rfl, rfl⟩
/-- a run of characters lies there -/
def CH (W : World) (ad : Addr) (C : List (Int × Nat)) : Prop := ∀ k c, C[k]? = some c → W.cell? (ad.add (k * 2)) = some (.int .i32 c.1) ∧ W.cell? (ad.add (k * 2 + 1)) = some (.int .i64 (c.2 : Int))
theorem CH.below {W X : World} {ad : Addr} {C : List (Int × Nat)} (h : CH W ad C) (hb : Below W.heap.size W X) : CH X ad C := fun k c hc =>
  ⟨(hb.cell (World.block_lt_of_cell? W _ (h k c hc).1)).trans (h k c hc).1, (hb.cell (World.block_lt_of_cell? W _ (h k c hc).2)).trans (h k c hc).2⟩
end Go.Proofs.YtialcphfaleedaaDoor
namespace Go.Proofs.YtialcphfaleedaaDoor
open Go.RowKit
/-- how many characters at the beginning are hexadecimal digits (no more than so many are read), and their number -/
def hexC : Nat → List (Int × Nat) → Nat → Nat × Nat
  | 0, _, n => (0, n)
  | _ + 1, [], n => (0, n)
  | f + 1, c :: r, n => if 0 ≤ hexI c.1 then ((hexC f r (16 * n + (hexI c.1).toNat)).1 + 1, (hexC f r (16 * n + (hexI c.1).toNat)).2) else (0, n)
theorem hexC_no {f : Nat} {C : List (Int × Nat)} {k : Nat} {c : Int × Nat} (h : C[k]? = some c) (hc : ¬ 0 ≤ hexI c.1) (n : Nat) : hexC f (C.drop k) n = (0, n) := by
  obtain ⟨hk, rfl⟩ := List.getElem?_eq_some_iff.1 h
  rw [List.drop_eq_getElem_cons hk]
  cases f with
  | zero => rfl
  | succ f => rw [hexC, if_neg hc]
theorem hexC_yes {f : Nat} {C : List (Int × Nat)} {k : Nat} {c : Int × Nat} (h : C[k]? = some c) (hc : 0 ≤ hexI c.1) (n : Nat) : hexC (f + 1) (C.drop k) n = ((hexC f (C.drop (k + 1)) (16 * n + (hexI c.1).toNat)).1 + 1, (hexC f (C.drop (k + 1)) (16 * n + (hexI c.1).toNat)).2) := by
  obtain ⟨hk, rfl⟩ := List.getElem?_eq_some_iff.1 h
  rw [List.drop_eq_getElem_cons hk, hexC, if_pos hc]
theorem hexI_lt (r : Int) : -1 ≤ hexI r ∧ hexI r < 16 := by
  unfold hexI
  repeat' split
  all_goals omega
theorem shl_or32 (m d : Nat) (hm : m < 1048576) (hd : d < 16) : bits .or .i32 ((m : Int) * 16) (d : Int) = ((16 * m + d : Nat) : Int) := by
  have h1 : (m : Int) * 16 = ((16 * m : Nat) : Int) := by omega
  rw [h1]
  have a1 : (BitVec.ofInt 32 ((16 * m : Nat) : Int)).toNat = 16 * m := by
    rw [BitVec.ofInt_natCast, BitVec.toNat_ofNat]; exact Nat.mod_eq_of_lt (by omega)
  have a2 : (BitVec.ofInt 32 (d : Int)).toNat = d := by
    rw [BitVec.ofInt_natCast, BitVec.toNat_ofNat]; exact Nat.mod_eq_of_lt (by omega)
  have a3 : 16 * m ||| d = 16 * m + d := by
    have := Nat.two_pow_add_eq_or_of_lt (i := 4) (b := d) (by omega) m
    rw [show (16 : Nat) = 2 ^ 4 by decide]
    exact this.symm
  show IntKind.i32.wrap ((BitVec.ofInt 32 ((16 * m : Nat) : Int) ||| BitVec.ofInt 32 (d : Int)).toNat : Int) = _
  rw [BitVec.toNat_or, a1, a2, a3, IntKind.wrap_i32]
  omega
set_option maxRecDepth 100000 in
set_option maxHeartbeats 1000000 in
theorem hexAt_any (C : List (Int × Nat)) (ad : Addr) (cap most : Nat) (w : World) (hmost : most ≤ 6) (hC0 : CH w ad C) (hr0 : ∀ c ∈ C, -2 ≤ c.1 ∧ c.1 ≤ 1114111) (hend0 : ∃ (k : Nat) (c : Int × Nat), C[k]? = some c ∧ ¬ 0 ≤ hexI c.1) :
    Calls Tryd.prog 56 #[.slice (some ad) C.length cap, .int .i64 (most : Int)] w fun e w' => e = .returned (.tuple #[.int .i32 ((hexC most C 0).2 : Int), .int .i64 ((hexC most C 0).1 : Int)]) ∧ w' = w := by
  have hC : Hid (CH w ad C) := hC0
  have hr : Hid (∀ c ∈ C, -2 ≤ c.1 ∧ c.1 ≤ 1114111) := hr0
  obtain ⟨ke, ce, hke, hce0⟩ := hend0
  have hce : Hid (¬ 0 ≤ hexI ce.1) := hce0
  clear hce0
  clear hC0 hr0
  go_enter Tryd.func56, Tryd.ntmps56
  go_wp2_with fail
  go_loop [6, 7] (fun vv vn => ∃ (n f m : Nat), vv = .int .i32 m ∧ vn = .int .i64 n ∧ Hid (n + f = most ∧ n ≤ ke ∧ m < 16 ^ n ∧ hexC most C 0 = ((hexC f (C.drop n) m).1 + n, (hexC f (C.drop n) m).2))) (fun _ vn => most - (intOf vn).toNat)
  case atStart => exact ⟨0, most, 0, rfl, rfl, by omega, Nat.zero_le _, by decide, by simp⟩
  case round =>
    obtain ⟨n, f, m, rfl, rfl, hh⟩ := hrel
    obtain ⟨hnf, hnk, hm, hq⟩ := hh.out
    have hke2 := (List.getElem?_eq_some_iff.1 hke).1
    cases f with
    | zero =>
      have i1 : ¬ (n : Int) < (most : Int) := by omega
      have h0 : hexC 0 (C.drop n) m = (0, m) := rfl
      rw [h0, Nat.zero_add] at hq
      have HQ : Hid (hexC most C 0 = (n, m)) := hq
      clear hq h0 hh hnf hm
      go_wp2_with fail
      go_ret2
      exact ⟨by rw [HQ.out]; rfl, rfl⟩
    | succ f =>
      have i1 : (n : Int) < (most : Int) := by omega
      have hnl : n < C.length := by omega
      have i2 : (n : Int) < (C.length : Int) := by omega
      have i0 : (0 : Int) ≤ (n : Int) := by omega
      obtain ⟨c, hc⟩ : ∃ c, C[n]? = some c := ⟨_, List.getElem?_eq_getElem hnl⟩
      obtain ⟨x0, x1⟩ := hC.out n c hc
      obtain ⟨r0, r1⟩ := hr.out c (List.mem_of_getElem? hc)
      have HV := fun W => hexValue_any c.1 W r0 r1
      obtain ⟨q0, q1⟩ := hexI_lt c.1
      by_cases hp : 0 ≤ hexI c.1
      · obtain ⟨d, hd⟩ : ∃ d : Nat, hexI c.1 = d := ⟨(hexI c.1).toNat, by omega⟩
        rw [hexC_yes hc hp, hd, show ((d : Int)).toNat = d from Int.toNat_natCast d] at hq
        have hm2 : m < 1048576 := Nat.lt_of_lt_of_le hm (Nat.pow_le_pow_right (j := 5) (show 16 > 0 by decide) (by omega))
        have hne : n ≠ ke := fun e => by
          have h1 := hce.out
          rw [e, hke] at hc
          rw [← Option.some.inj hc] at hp
          omega
        have HH : Hid (n + 1 + f = most ∧ n + 1 ≤ ke ∧ 16 * m + d < 16 ^ (n + 1) ∧ hexC most C 0 = ((hexC f (C.drop (n + 1)) (16 * m + d)).1 + (n + 1), (hexC f (C.drop (n + 1)) (16 * m + d)).2)) := ⟨by omega, by omega, by rw [Nat.pow_succ]; omega, by rw [hq]; simp; omega⟩
        have hb := shl_or32 m d hm2 (by omega)
        have jd : (0 : Int) ≤ (d : Int) := by omega
        rw [hd] at HV
        obtain ⟨c0, hc0⟩ : ∃ z, c.1 = z := ⟨_, rfl⟩
        rw [hc0] at x0 HV
        have hcast : ((16 * m + d : Nat) : Int) = 16 * (m : Int) + (d : Int) := by omega
        have HZ : Hid (n + (f + 1) = most) := hnf
        clear hq hh hp hd hm hne hnf hc0 r0 r1 q0 q1 hcast
        go_wp2_with fail
        refine (HV _).mono ?_
        rintro e w2 ⟨rfl, rfl⟩
        go_wp2_with fail
        refine (HV _).mono ?_
        rintro e w3 ⟨rfl, rfl⟩
        go_wp2_with fail
        go_round
        case rel => exact ⟨n + 1, f, 16 * m + d, by go_num, by go_num, HH⟩
        case measure => have := HZ.out; simp [intOf]; omega
      · rw [hexC_no hc hp, Nat.zero_add] at hq
        have HQ : Hid (hexC most C 0 = (n, m)) := hq
        obtain ⟨z, hz⟩ : ∃ z, hexI c.1 = z := ⟨_, rfl⟩
        rw [hz] at HV hp
        have jz : ¬ (0 : Int) ≤ z := hp
        obtain ⟨c0, hc0⟩ : ∃ z, c.1 = z := ⟨_, rfl⟩
        rw [hc0] at x0 HV
        clear hq hh hm hnf hc0 r0 r1 q0 q1 hz hp
        go_wp2_with fail
        refine (HV _).mono ?_
        rintro e w2 ⟨rfl, rfl⟩
        go_wp2_with fail
        go_ret2
        exact ⟨by rw [HQ.out]; rfl, rfl⟩
end Go.Proofs.YtialcphfaleedaaDoor
namespace Go.Proofs.YtialcphfaleedaaDoor
open Go.RowKit
def hexD (c : UInt8) : Option Nat :=
  if 48 ≤ c.toNat ∧ c.toNat ≤ 57 then some (c.toNat - 48) else if 97 ≤ c.toNat ∧ c.toNat ≤ 102 then some (c.toNat - 87) else if 65 ≤ c.toNat ∧ c.toNat ≤ 70 then some (c.toNat - 55) else none
def binD (c : UInt8) : Option Nat := if c = 48 then some 0 else if c = 49 then some 1 else none
def foldN (b : Nat) (D : UInt8 → Option Nat) : List UInt8 → Nat → Option Nat
  | [], n => some n
  | c :: r, n => match D c with
    | some d => foldN b D r (b * n + d)
    | none => none
theorem hexD_lt {c : UInt8} {d : Nat} (h : hexD c = some d) : d < 16 := by
  unfold hexD at h
  split at h
  · obtain rfl := Option.some.inj h; omega
  · split at h
    · obtain rfl := Option.some.inj h; omega
    · split at h
      · obtain rfl := Option.some.inj h; omega
      · cases h
theorem u8_sub (c : UInt8) (k : Nat) (h : k ≤ c.toNat) : IntKind.u8.wrap ((c.toNat : Int) - (k : Int)) = ((c.toNat - k : Nat) : Int) := by
  have := c.toNat_lt
  rw [IntKind.wrap_u8]
  omega
end Go.Proofs.YtialcphfaleedaaDoor

import Derived.Test.YtmblloddhpcdeacY5
import Derived.Test.YtmblloddhpcdeacZ1
namespace Go.Proofs.Ytmblloddhpcdeac
open Go.RowKit Go.Shelf

attribute [local go_sem] Oper.semAt_some

def cnt : List UInt8 → Nat
  | [] => 0
  | c :: t => (if c == 120 then 1 else 0) + cnt t
/-- how many headers are still to come -/
def rk : List UInt8 → List UInt8 → Nat
  | c :: t, d :: h => (if c == 120 && d == 48 then 2 ^ cnt t else 0) + rk t h
  | _, _ => 0
theorem rk_lt (t h : List UInt8) : rk t h < 2 ^ cnt t := by
  induction t generalizing h with
  | nil => cases h <;> simp [rk, cnt]
  | cons c t ih =>
    cases h with
    | nil =>
      show 0 < _
      exact Nat.pow_pos (by decide)
    | cons d h =>
      have := ih h
      simp only [rk, cnt]
      by_cases hc : c = 120
      · subst hc
        have e : 2 ^ (1 + cnt t) = 2 ^ cnt t + 2 ^ cnt t := by rw [Nat.add_comm, Nat.pow_succ]; omega
        simp only [beq_self_eq_true, if_true, Bool.true_and, e]
        split <;> omega
      · have hcf : (c == 120) = false := by simpa using hc
        simp only [hcf, Bool.false_and, Bool.false_eq_true, if_false, Nat.zero_add]
        exact this
theorem rk_nx (t h : List UInt8) (hn : (nx t h).2 = true) : rk t (nx t h).1 < rk t h := by
  induction t generalizing h with
  | nil => cases h <;> simp [nx] at hn
  | cons c t ih =>
    cases h with
    | nil => simp [nx] at hn
    | cons d h =>
      by_cases h2 : (nx t h).2 = true
      · have := ih h h2
        simp only [nx, h2, if_true, rk]
        omega
      · have hf : (nx t h).2 = false := by simpa using h2
        by_cases hc : c = 120
        · by_cases hd : d = 48
          · subst hc hd
            have := rk_lt t (nx t h).1
            simp only [nx, hf, Bool.false_eq_true, if_false, beq_self_eq_true, if_true, rk, Bool.and_self]
            have e : ((49 : UInt8) == 48) = false := by decide
            simp only [e, Bool.and_false, Bool.false_eq_true, if_false]
            omega
          · simp [nx, hf, hc, hd] at hn
        · simp [nx, hf, hc] at hn
/-- the k-th header -/
def ms (t : List UInt8) : Nat → List UInt8
  | 0 => lst t
  | k + 1 => (nx t (ms t k)).1
theorem ms_len (t : List UInt8) (k : Nat) : (ms t k).length = t.length := by
  induction k with
  | zero => exact lst_len t
  | succ k ih => show ((nx t (ms t k)).1).length = _; rw [nx_len]; exact ih
/-- there is a k-th header -/
def lv (t : List UInt8) : Nat → Prop
  | 0 => True
  | k + 1 => lv t k ∧ (nx t (ms t k)).2 = true

theorem bys_inj {a b : List UInt8} (h : bys a = bys b) : a = b := by
  induction a generalizing b with
  | nil => cases b with
    | nil => rfl
    | cons y b => simp [bys] at h
  | cons x a ih =>
    cases b with
    | nil => simp [bys] at h
    | cons y b =>
      simp only [bys, List.map_cons, List.cons.injEq] at h
      have h1 : x = y := by
        have := h.1
        injection this with _ h1
        exact UInt8.toNat.inj (by omega)
      rw [h1, ih h.2]
theorem hdr_uniq {W : World} {g : Nat} {z : List Value} {a b : List UInt8} (h1 : hdr W g z a) (h2 : hdr W g z b) : a = b := by
  unfold hdr at h1 h2
  rw [h1] at h2
  injection h2 with h
  injection h with h _ _
  have h' := congrArg Array.toList h
  simp only at h'
  exact bys_inj (List.append_cancel_right h')
open Classical in
/-- read off the world -/
noncomputable def rkW (t : List UInt8) (g : Nat) (z : List Value) (W : World) : Nat := if h : ∃ a, hdr W g z a then rk t (Classical.choose h) else 0
theorem rkW_eq {t : List UInt8} {g : Nat} {z : List Value} {W : World} {a : List UInt8} (h : hdr W g z a) : rkW t g z W = rk t a := by
  unfold rkW
  have hex : ∃ a, hdr W g z a := ⟨a, h⟩
  rw [dif_pos hex, hdr_uniq (Classical.choose_spec hex) h]

/-- what a round keeps: the cells of bytes and of numbers -/
def KT (W W' : World) : Prop := ∀ (b : Nat) (cs : Array Value) (T : TypeId) (m : Nat × Nat), W.heap[b]? = some (Obj.cells cs T m) → (T = 5 ∨ T = 3) → W'.heap[b]? = W.heap[b]?
/-- what the iterator itself turns: new memory; cells of bytes that it made -/
def StI (S0 : Nat) (J : Nat → World → Prop) : Prop := ∀ (k : Nat) (W W' : World) (row : Option Nat), J k W → W.grownBy W' row → (∀ r, row = some r → S0 ≤ r ∧ ∃ cs m, W.heap[r]? = some (Obj.cells cs 5 m)) → J k W'

theorem own_KT {W W' : World} {B n : Nat} {v : Value} {xs : List Value} (h : W.ownsRow B 3 1 v n xs) (hK : KT W W') : W'.ownsRow B 3 1 v n xs := by
  refine ⟨h.1, ?_⟩
  rcases h.2 with h | ⟨g, c, cu, rfl, h1, h2, h3⟩
  · exact .inl h
  · exact .inr ⟨g, c, cu, rfl, h1, (hK g _ _ _ h2 (.inr rfl)).trans h2, h3⟩

set_option maxRecDepth 100000 in
set_option maxHeartbeats 2000000 in
theorem mem_in (n : Nat) (hn : 1 ≤ n) (l Bc : Nat) (t : List UInt8) (gt : good t = true) (h1 : 1 ≤ t.length) (J : Nat → World → Prop) (Jx : World → Prop) (W0 : World) (hJ : StI W0.heap.size J)
    (hY : ∀ k W, lv t k → J k W → YieldAt Fence.wide (n - 1) Try.prog l #[.string ⟨(ms t k).toArray⟩] W fun e W' => (e = .returned (.bool true) ∧ J (k + 1) W' ∧ KT W W') ∨ (e = .returned (.bool false) ∧ Jx W'))
    (hc : W0.heap[Bc]? = some (.cells (#[.int .i64 (t.length : Int), .int .u64 (FW t 0 : Int), .int .u64 (FW t 1 : Int), .int .u64 (FW t 2 : Int), .int .u64 (FW t 3 : Int), .int .u64 (OW t 0 : Int), .int .u64 (OW t 1 : Int), .int .u64 (OW t 2 : Int), .int .u64 (OW t 3 : Int)]) 26 (0, 0))) (h0 : J 0 W0) :
    CallsIn Fence.wide n Try.prog 48 #[.func (.yield l) #[] #[], .pointer (some ⟨Bc, 0, none⟩)] W0 fun e W' => (∃ v, e = .returned v) ∧ ((∃ k, lv t k ∧ (nx t (ms t k)).2 = false ∧ J (k + 1) W') ∨ Jx W') := by
  have hl := good_len gt
  have hcc := (cells_block hc).1
  have hw : ((t.length : Int) == 0) = false := beq_false_of_ne (by omega)
  refine callsIn_of_wp Try.func48 rfl trivial ?_ rfl
  simp only [Try.ntmps48, List.size_toArray, List.length_cons, List.length_nil, Nat.reduceAdd, Nat.reduceSub, Array.replicate_succ, Array.replicate_zero, List.push_toArray, List.append_toArray, List.nil_append, List.cons_append]
  gi_wp2_with (refine ⟨trivial, ?_⟩; gi_at_call 49; refine (callsIn_wide.2 (least_any t _ gt h1)).mono ?_; rintro e w1 ⟨gh, ch, z, v, rfl, hgh, hH, hown, hB⟩)
  have hls : Hid (∀ k, (ms t k).length = t.length) := ms_len t
  gi_loopw [21] (fun _ wr => ∃ k, lv t k ∧ hdr wr gh z (ms t k) ∧ wr.ownsRow W0.heap.size 3 1 v (fr t t.length).length (ints (fr t t.length)) ∧ J k wr) (fun _ wr => rkW t gh z wr)
  case atStart => exact ⟨0, trivial, hH, hown, hJ 0 W0 w1 none h0 (grown_of_below hB none) (fun r e => by cases e)⟩
  case round =>
    clear hH hown hB
    obtain ⟨k, hlv, hHk, hownk, hJk⟩ := hrel
    obtain ⟨fn, tmps, assign, body, hy, hR⟩ := hY k wr hlv hJk
    have hconv : (convert 39 9 (.slice (some ⟨gh, 0, none⟩) t.length ch)).run Try.prog wr = .ok (.string ⟨(ms t k).toArray⟩) wr := by
      have q := run_convert_bytes_back (P := Try.prog) wr 39 9 5 ⟨gh, 0, none⟩ ch (ms t k) Try.underlying39 Try.underlying5 Try.underlying9 (fun j hj => by rw [add_plain]; simpa using hdr_cell hHk hj)
      rw [hls.out k] at q
      exact q
    obtain ⟨H, hHm⟩ : ∃ H, ms t k = H := ⟨_, rfl⟩
    have HN : Hid (ms t (k + 1) = (nx t H).1) := by unfold Hid; rw [← hHm]; rfl
    have hlH : t.length = H.length := by rw [← hHm, hls.out k]
    have HL : Hid (t.length = H.length) := hlH
    have Hm : Hid (ms t k = H) := hHm
    rw [hHm] at hy hconv hHk
    clear hHm hlH
    have hHk0 : Hid (hdr wr gh z H) := hHk
    gi_wp2
    refine hR.mono ?_
    rintro e W3 (⟨rfl, hJ3, hK3⟩ | ⟨rfl, hJx3⟩)
    · have hH3 : hdr W3 gh z H := (hK3 gh _ _ _ hHk (.inl rfl)).trans hHk
      have hown3 := own_KT hownk hK3
      have hadv := advance_any t H gh ch W0.heap.size z v W3 HL.out hl hH3 hown3
      rw [← HL.out] at hadv
      obtain ⟨b, hb⟩ : ∃ b, (nx t H).2 = b := ⟨_, rfl⟩
      rw [hb] at hadv
      have HB : Hid ((nx t H).2 = b) := hb
      clear hb
      have HA : Hid (Calls Try.prog 50 #[.slice (some ⟨gh, 0, none⟩) t.length ch, v] W3 fun e w' => e = .returned (.bool b) ∧ W3.grownBy w' (some gh) ∧ (b = true → hdr w' gh z (nx t H).1)) := hadv
      clear hadv hownk hHk hy hR
      have hrk := rkW_eq (t := t) hHk0.out
      cases b
      · gi_wp2_with (refine ⟨trivial, ?_⟩; gi_at_call 50; refine (callsIn_wide.2 HA.out).mono ?_; rintro e W4 ⟨rfl, hg4, hh4⟩)
        go_end0
        exact ⟨⟨_, rfl⟩, .inl ⟨k, hlv, by rw [Hm.out]; exact HB.out, hJ (k + 1) W3 W4 (some gh) hJ3 hg4 (fun r e => by cases e; exact ⟨hgh, _, _, hH3⟩)⟩⟩
      · gi_wp2_with (refine ⟨trivial, ?_⟩; gi_at_call 50; refine (callsIn_wide.2 HA.out).mono ?_; rintro e W4 ⟨rfl, hg4, hh4⟩)
        go_roundw
        case rel => exact ⟨k + 1, ⟨hlv, by rw [Hm.out]; exact HB.out⟩, by rw [HN.out]; exact hh4 (by trivial), hown3.kept hg4 (.inr (own_not hown3 hH3 (by decide))), hJ (k + 1) W3 W4 (some gh) hJ3 hg4 (fun r e => by cases e; exact ⟨hgh, _, _, hH3⟩)⟩
        case measure => rw [rkW_eq (hh4 (by trivial)), hrk]; exact rk_nx t H HB.out
    · gi_wp2
      refine ⟨trivial, ?_⟩
      gi_wp2
      go_end0
      exact ⟨⟨_, rfl⟩, .inr hJx3⟩
end Go.Proofs.Ytmblloddhpcdeac

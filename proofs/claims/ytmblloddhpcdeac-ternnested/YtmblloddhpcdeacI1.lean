import Derived.Test.YtmblloddhpcdeacYD
namespace Go.Proofs.Ytmblloddhpcdeac
open Go.RowKit Go.Shelf

attribute [local go_sem] Oper.semAt_some

/-- what a round keeps of what the iterator made -/
def KTb (S0 : Nat) (W W' : World) : Prop := ∀ (b : Nat) (cs : Array Value) (T : TypeId) (m : Nat × Nat), S0 ≤ b → W.heap[b]? = some (Obj.cells cs T m) → (T = 5 ∨ T = 3) → W'.heap[b]? = W.heap[b]?
theorem own_KTb {W W' : World} {B n : Nat} {v : Value} {xs : List Value} (h : W.ownsRow B 3 1 v n xs) (hK : KTb B W W') : W'.ownsRow B 3 1 v n xs := by
  refine ⟨h.1, ?_⟩
  rcases h.2 with h | ⟨g, c, cu, rfl, h1, h2, h3⟩
  · exact .inl h
  · exact .inr ⟨g, c, cu, rfl, h1, (hK g _ _ _ h1 h2 (.inr rfl)).trans h2, h3⟩

set_option maxRecDepth 100000 in
set_option maxHeartbeats 2000000 in
theorem mem_inb (n : Nat) (hn : 1 ≤ n) (l Bc : Nat) (t : List UInt8) (gt : good t = true) (h1 : 1 ≤ t.length) (J : Nat → World → Prop) (Jx : World → Prop) (W0 : World) (hJ : StI W0.heap.size J)
    (hY : ∀ k W, lv t k → J k W → YieldAt Fence.wide (n - 1) Try.prog l #[.string ⟨(ms t k).toArray⟩] W fun e W' => (e = .returned (.bool true) ∧ J (k + 1) W' ∧ KTb W0.heap.size W W') ∨ (e = .returned (.bool false) ∧ Jx W'))
    (hc : W0.heap[Bc]? = some (.cells (#[.int .i64 (t.length : Int), .int .u64 (FW t 0 : Int), .int .u64 (FW t 1 : Int), .int .u64 (FW t 2 : Int), .int .u64 (FW t 3 : Int), .int .u64 (OW t 0 : Int), .int .u64 (OW t 1 : Int), .int .u64 (OW t 2 : Int), .int .u64 (OW t 3 : Int)]) 26 (0, 0))) (h0 : J 0 W0) :
    CallsIn Fence.wide n Try.prog 48 #[.func (.yield l) #[] #[], .pointer (some ⟨Bc, 0, none⟩)] W0 fun e W' => (∃ v, e = .returned v) ∧ ((∃ k, lv t k ∧ (nx t (ms t k)).2 = false ∧ J (k + 1) W') ∨ Jx W') := by
  have hl := good_len gt
  have hcc := (cells_block hc).1
  have hw : ((t.length : Int) == 0) = false := beq_false_of_ne (by omega)
  refine callsIn_of_wp Try.func48 rfl trivial ?_ rfl
  simp only [Try.ntmps48, List.size_toArray, List.length_cons, List.length_nil, Nat.reduceAdd, Nat.reduceSub, Array.replicate_succ, Array.replicate_zero, List.push_toArray, List.append_toArray, List.nil_append, List.cons_append]
  gi_wp2_with (refine ⟨trivial, ?_⟩; gi_at_call 49; refine (callsIn_wide.2 (least_any t _ gt h1)).mono ?_; rintro e w1 ⟨gh, ch, z, v, rfl, hgh, hH, hown, hB⟩)
  have hls : Hid (∀ k, (ms t k).length = t.length) := ms_len t
  gi_loopw [21] (fun _ wr => ∃ k, lv t k ∧ hdr wr gh z (ms t k) ∧ wr.ownsRow W0.heap.size 3 1 v (fr t t.length).length (ints (fr t t.length)) ∧ J k wr) (fun _ wr => rkW t gh z wr)
  case atStart => exact ⟨0, trivial, hH, hown, hJ 0 W0 w1 none h0 (grown_of_below hB none) (fun r e => by cases e)⟩
  case round =>
    clear hH hown hB
    obtain ⟨k, hlv, hHk, hownk, hJk⟩ := hrel
    obtain ⟨fn, tmps, assign, body, hy, hR⟩ := hY k wr hlv hJk
    have hconv : (convert 39 9 (.slice (some ⟨gh, 0, none⟩) t.length ch)).run Try.prog wr = .ok (.string ⟨(ms t k).toArray⟩) wr := by
      have q := run_convert_bytes_back (P := Try.prog) wr 39 9 5 ⟨gh, 0, none⟩ ch (ms t k) Try.underlying39 Try.underlying5 Try.underlying9 (fun j hj => by rw [add_plain]; simpa using hdr_cell hHk hj)
      rw [hls.out k] at q
      exact q
    obtain ⟨H, hHm⟩ : ∃ H, ms t k = H := ⟨_, rfl⟩
    have HN : Hid (ms t (k + 1) = (nx t H).1) := by unfold Hid; rw [← hHm]; rfl
    have hlH : t.length = H.length := by rw [← hHm, hls.out k]
    have HL : Hid (t.length = H.length) := hlH
    have Hm : Hid (ms t k = H) := hHm
    rw [hHm] at hy hconv hHk
    clear hHm hlH
    have hHk0 : Hid (hdr wr gh z H) := hHk
    gi_wp2
    refine hR.mono ?_
    rintro e W3 (⟨rfl, hJ3, hK3⟩ | ⟨rfl, hJx3⟩)
    · have hH3 : hdr W3 gh z H := (hK3 gh _ _ _ hgh hHk (.inl rfl)).trans hHk
      have hown3 := own_KTb hownk hK3
      have hadv := advance_any t H gh ch W0.heap.size z v W3 HL.out hl hH3 hown3
      rw [← HL.out] at hadv
      obtain ⟨b, hb⟩ : ∃ b, (nx t H).2 = b := ⟨_, rfl⟩
      rw [hb] at hadv
      have HB : Hid ((nx t H).2 = b) := hb
      clear hb
      have HA : Hid (Calls Try.prog 50 #[.slice (some ⟨gh, 0, none⟩) t.length ch, v] W3 fun e w' => e = .returned (.bool b) ∧ W3.grownBy w' (some gh) ∧ (b = true → hdr w' gh z (nx t H).1)) := hadv
      clear hadv hownk hHk hy hR
      have hrk := rkW_eq (t := t) hHk0.out
      cases b
      · gi_wp2_with (refine ⟨trivial, ?_⟩; gi_at_call 50; refine (callsIn_wide.2 HA.out).mono ?_; rintro e W4 ⟨rfl, hg4, hh4⟩)
        go_end0
        exact ⟨⟨_, rfl⟩, .inl ⟨k, hlv, by rw [Hm.out]; exact HB.out, hJ (k + 1) W3 W4 (some gh) hJ3 hg4 (fun r e => by cases e; exact ⟨hgh, _, _, hH3⟩)⟩⟩
      · gi_wp2_with (refine ⟨trivial, ?_⟩; gi_at_call 50; refine (callsIn_wide.2 HA.out).mono ?_; rintro e W4 ⟨rfl, hg4, hh4⟩)
        go_roundw
        case rel => exact ⟨k + 1, ⟨hlv, by rw [Hm.out]; exact HB.out⟩, by rw [HN.out]; exact hh4 (by trivial), hown3.kept hg4 (.inr (own_not hown3 hH3 (by decide))), hJ (k + 1) W3 W4 (some gh) hJ3 hg4 (fun r e => by cases e; exact ⟨hgh, _, _, hH3⟩)⟩
        case measure => rw [rkW_eq (hh4 (by trivial)), hrk]; exact rk_nx t H HB.out
    · gi_wp2
      refine ⟨trivial, ?_⟩
      gi_wp2
      go_end0
      exact ⟨⟨_, rfl⟩, .inr hJx3⟩

/-- k are all -/
def finT (t : List UInt8) (k : Nat) : Prop := (t = [] ∧ k = 0) ∨ (t ≠ [] ∧ 1 ≤ k ∧ lv t (k - 1) ∧ (nx t (ms t (k - 1))).2 = false)
/-- m of the first N -/
def cntN (t : List UInt8) (N m : Nat) : Prop := (t = [] ∧ m = 0) ∨ (t ≠ [] ∧ upTo t N m)
theorem cnt_ex (t : List UInt8) (N : Nat) (h : 1 ≤ N) : ∃ m, cntN t N m := by
  by_cases e : t = []
  · exact ⟨0, .inl ⟨e, rfl⟩⟩
  · obtain ⟨m, hm⟩ := upTo_ex t N h
    exact ⟨m, .inr ⟨e, hm⟩⟩
theorem cnt_le {t : List UInt8} {N m : Nat} (h : cntN t N m) : m ≤ N := by
  rcases h with ⟨_, rfl⟩ | ⟨_, h⟩
  · omega
  · exact h.2.1
theorem cnt_lt {t : List UInt8} {N m k : Nat} (hc : cntN t N m) (ht : t ≠ []) (hl : lv t k) (hk : k < N) : k < m := by
  rcases hc with ⟨e, _⟩ | ⟨_, h1, h2, h3, h4⟩
  · exact absurd e ht
  · rcases Nat.lt_or_ge k m with h | h
    · exact h
    · exfalso
      rcases h4 with e | hf
      · omega
      · have := upTo_lv t m k hl h
        obtain ⟨m', rfl⟩ : ∃ m', m = m' + 1 := ⟨m - 1, by omega⟩
        have h2 := this.2
        rw [show m' + 1 - 1 = m' by omega] at hf
        rw [hf] at h2
        cases h2
theorem cnt_fin {t : List UInt8} {N m k : Nat} (hc : cntN t N m) (hf : finT t k) (hk : k ≤ N) : m = k := by
  rcases hc with ⟨e, rfl⟩ | ⟨e, h⟩
  · rcases hf with ⟨_, rfl⟩ | ⟨e2, _⟩
    · rfl
    · exact absurd e e2
  · rcases hf with ⟨e2, _⟩ | ⟨_, h1, h2, h3⟩
    · exact absurd e2 e
    · exact upTo_uniq t N m k h ⟨h1, hk, h2, .inr h3⟩
theorem cnt_stop {t : List UInt8} {N m k : Nat} (hc : cntN t N m) (ht : t ≠ []) (hl : lv t k) (hk : k + 1 = N) : m = N := by
  rcases hc with ⟨e, _⟩ | ⟨_, h⟩
  · exact absurd e ht
  · exact upTo_uniq t N m N h ⟨by omega, Nat.le_refl _, by rw [show N - 1 = k by omega]; exact hl, .inl rfl⟩

theorem mem_allb (n : Nat) (hn : 1 ≤ n) (l Bc : Nat) (t : List UInt8) (gt : good t = true) (J : Nat → World → Prop) (Jx : World → Prop) (W0 : World) (hJ : StI W0.heap.size J)
    (hY : ∀ k W, t ≠ [] → lv t k → J k W → YieldAt Fence.wide (n - 1) Try.prog l #[.string ⟨(ms t k).toArray⟩] W fun e W' => (e = .returned (.bool true) ∧ J (k + 1) W' ∧ KTb W0.heap.size W W') ∨ (e = .returned (.bool false) ∧ Jx W'))
    (hc : W0.heap[Bc]? = some (.cells (#[.int .i64 (t.length : Int), .int .u64 (FW t 0 : Int), .int .u64 (FW t 1 : Int), .int .u64 (FW t 2 : Int), .int .u64 (FW t 3 : Int), .int .u64 (OW t 0 : Int), .int .u64 (OW t 1 : Int), .int .u64 (OW t 2 : Int), .int .u64 (OW t 3 : Int)]) 26 (0, 0))) (h0 : J 0 W0) :
    CallsIn Fence.wide n Try.prog 48 #[.func (.yield l) #[] #[], .pointer (some ⟨Bc, 0, none⟩)] W0 fun e W' => (∃ v, e = .returned v) ∧ ((∃ k, finT t k ∧ J k W') ∨ Jx W') := by
  by_cases ht : t = []
  · subst ht
    have hz : W0.heap[Bc]? = some zC := by
      rw [hc]
      have := cubeV_nil
      unfold cubeV cv at this
      simp only [Value.agg.injEq] at this
      unfold zC
      rw [this]
    refine (zero_calls Fence.wide n Bc l trivial rfl W0 hz).mono ?_
    rintro e W' ⟨hv, rfl⟩
    exact ⟨hv, .inl ⟨0, .inl ⟨rfl, rfl⟩, h0⟩⟩
  · have h1 : 1 ≤ t.length := by
      cases t with
      | nil => exact absurd rfl ht
      | cons x l => simp
    refine (mem_inb n hn l Bc t gt h1 J Jx W0 hJ (fun k W hl hj => hY k W ht hl hj) hc h0).mono ?_
    rintro e W' ⟨hv, ⟨k, hl, hf, hj⟩ | hx⟩
    · exact ⟨hv, .inl ⟨k + 1, .inr ⟨ht, by omega, hl, hf⟩, hj⟩⟩
    · exact ⟨hv, .inr hx⟩

theorem rMem_D (T : List UInt8) (N m : Nat) (w : World) (gT : good T = true) (h1 : 1 ≤ N) (h2 : N ≤ 10000) (hc : cntN T N m) :
    Calls Try.prog 22 #[.string ⟨T.toArray⟩, .int .i64 (N : Int)] w fun e w' => ∃ v, e = .returned v ∧ w'.ownsRow w.heap.size 9 1 v m (mL T m) ∧ Below w.heap.size w w' := by
  rcases hc with ⟨rfl, rfl⟩ | ⟨ht, hu⟩
  · refine (rMembers_nil _ N w (.inl (by rw [ByteArray.toList_eq]; rfl))).mono ?_
    rintro e w' ⟨rfl, hb⟩
    exact ⟨_, rfl, World.ownsRow_nil _ _ _ _, hb⟩
  · have hl : 1 ≤ T.length := by
      cases T with
      | nil => exact absurd rfl ht
      | cons x l => simp
    refine (rMembers_any ⟨T.toArray⟩ T N w (by simp) gT hl h1 h2).mono ?_
    rintro e w' ⟨m', v, rfl, hu', ho, hb⟩
    obtain rfl := upTo_uniq T N m' m hu' hu
    exact ⟨_, rfl, ho, hb⟩
theorem mL_atI (t : List UInt8) (m i : Nat) (h : i < m) : (mL t m)[i]? = some (.string ⟨(ms t i).toArray⟩) := by
  induction m with
  | zero => omega
  | succ m ih =>
    simp only [mL]
    by_cases e : i = m
    · subst e
      rw [List.getElem?_append_right (by rw [mL_len]; omega), mL_len]
      simp
    · rw [List.getElem?_append_left (by rw [mL_len]; omega)]
      exact ih (by omega)
end Go.Proofs.Ytmblloddhpcdeac

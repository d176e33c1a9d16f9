import Derived.Test.YtflienghgobmoaaGreatDoorKFrame
import Derived.OwnWalk
import Derived.Deep.OwnRows
import Derived.WalkSpells
import Derived.Lib.BufferMore
import Derived.Laws.StructEq
namespace Go.Proofs.YtflienghgobmoaaGreatDoor
open Go.RowKit Rec

theorem Ints.cell {w : World} {b off i : Nat} {l : List Int} (h : Ints w (some ⟨b, off, none⟩) l) (hi : i < l.length) : w.cell? ⟨b, off + i, none⟩ = some (.int .i64 (nth l i)) := by
  rcases h.at_ with e | ⟨b', off', e, hc⟩
  · subst e; exact absurd hi (by simp)
  · cases e; exact hc i hi
theorem may_false {ns : List Int} {n : Int} (k : Nat) (hk : k < ns.length) (h : ¬ (pre ns k < nth ns k ∧ nth ns k < n)) : may ns n = false := decide_eq_false (fun e => h (e k hk))
theorem may_true {ns : List Int} {n : Int} (h : ∀ i, i < ns.length → pre ns i < nth ns i ∧ nth ns i < n) : may ns n = true := decide_eq_true h

set_option maxRecDepth 100000 in
set_option maxHeartbeats 800000 in
theorem idx_some (w : World) (b off k c p q : Nat) (ns : List Int) (n : Int) (hn : ns.length = k) (hI : Ints w (some ⟨b, off, none⟩) ns) (hp : Box w p 97) (hq : Box w q n) (hpq : p ≠ q) (hbp : k = 0 ∨ b ≠ p) :
    Calls Tryz.prog 202 #[.slice (some ⟨b, off, none⟩) k c, .func (.func 203) #[] #[.pointer (some ⟨p, 0, none⟩), .pointer (some ⟨q, 0, none⟩)]] w fun e w' => ∃ r : Int, (decide (0 ≤ r)) = (!(may ns n)) ∧ e = .returned (.int .i64 r) ∧ Fr (fun i => i = p) w w' := by
  have hlen := hI.len
  rw [hn] at hlen
  have HC : Hid (∀ wr : World, Fr (fun i => i = p) w wr → ∀ i, i < k → wr.cell? ⟨b, off + i, none⟩ = some (.int .i64 (nth ns i))) := fun wr hf i hi => hf.cell (hI.cell (by omega)) (by intro e; change b = p at e; omega)
  have HQ : Hid (∀ wr : World, Fr (fun i => i = p) w wr → Box wr q n) := fun wr hf => hq.fr hf (fun e => hpq e.symm)
  have HP : Hid (Box w p 97) := hp
  have HN : Hid (ns.length = k) := hn
  clear hI hp hq hn hpq hbp
  go_enter Tryz.func202, Tryz.ntmps202
  go_wp2
  go_loopw [8] (fun i wr => ∃ j : Nat, j ≤ k ∧ i = .int .i64 j ∧ (∀ i, i < j → pre ns i < nth ns i ∧ nth ns i < n) ∧ Box wr p (pre ns j) ∧ Fr (fun i => i = p) w wr) (fun i _ => k - (intOf i).toNat)
  case atStart => exact ⟨0, Nat.zero_le _, rfl, fun j hj => absurd hj (by omega), HP.out, Fr.refl _ _⟩
  case round =>
    obtain ⟨j, hj, rfl, hz, hb, hf⟩ := hrel
    have HZ : Hid (∀ i, i < j → pre ns i < nth ns i ∧ nth ns i < n) := hz
    have HB : Hid (Box wr p (pre ns j)) := hb
    have HF : Hid (Fr (fun i => i = p) w wr) := hf
    clear hz hb hf
    by_cases hlt : j < k
    · have d1 := HC.out _ HF.out j hlt
      by_cases h0 : pre ns j < nth ns j ∧ nth ns j < n
      · have H0 : Hid (pre ns j < nth ns j ∧ nth ns j < n) := h0
        clear h0
        go_wp2_with (go_at_call 203; refine (wrong_any _ p q (pre ns j) n (nth ns j) HB.out (HQ.out _ HF.out)).mono ?_; rintro e w' ⟨rfl, rfl⟩; rw [decide_eq_true H0.out])
        go_round
        case rel =>
          refine ⟨j + 1, by omega, by go_num, fun i hi => (Nat.lt_succ_iff_lt_or_eq.1 hi).elim (fun h => HZ.out i h) (fun h => by subst h; exact H0.out), ?_, HF.out.trans Fr.set (fun i h => .inl h)⟩
          have := HB.out.set (nth ns j)
          exact this
        case measure => simp [intOf]; omega
      · have H0 : Hid (¬ (pre ns j < nth ns j ∧ nth ns j < n)) := h0
        clear h0
        go_wp2_with (go_at_call 203; refine (wrong_any _ p q (pre ns j) n (nth ns j) HB.out (HQ.out _ HF.out)).mono ?_; rintro e w' ⟨rfl, rfl⟩; rw [decide_eq_false H0.out])
        go_ret
        refine ⟨j, ?_, rfl, HF.out.trans Fr.set (fun i h => .inl h)⟩
        rw [may_false j (by rw [HN.out]; exact hlt) H0.out]
        exact decide_eq_true (by omega)
    · go_wp2
      go_ret
      refine ⟨-1, ?_, rfl, HF.out⟩
      rw [may_true (fun i hi => HZ.out i (by rw [HN.out] at hi; omega))]
      rfl
set_option maxRecDepth 100000 in
theorem idx_none (w : World) (a : Option Addr) (c : Nat) (f : Value) :
    Calls Tryz.prog 202 #[.slice a 0 c, f] w fun e w' => e = .returned (.int .i64 (-1)) ∧ w = w' := by
  go_enter Tryz.func202, Tryz.ntmps202
  go_wp2
  go_loop [8] (fun i => i = .int .i64 0) (fun _ => 0)
  case atStart => exact rfl
  case round =>
    obtain rfl := hrel
    go_wp2
    go_ret
    exact ⟨rfl, rfl⟩
theorem idx_any (w : World) (a : Option Addr) (k c p q : Nat) (ns : List Int) (n : Int) (hn : ns.length = k) (hI : Ints w a ns) (hp : Box w p 97) (hq : Box w q n) (hpq : p ≠ q) (hbp : ∀ x, a = some x → k = 0 ∨ x.block ≠ p) :
    Calls Tryz.prog 202 #[.slice a k c, .func (.func 203) #[] #[.pointer (some ⟨p, 0, none⟩), .pointer (some ⟨q, 0, none⟩)]] w fun e w' => ∃ r : Int, (decide (0 ≤ r)) = (!(may ns n)) ∧ e = .returned (.int .i64 r) ∧ Fr (fun i => i = p) w w' := by
  rcases hI.at_ with h | ⟨b, off, rfl, hc⟩
  · subst h; simp at hn; subst hn
    refine (idx_none w a c _).mono ?_
    rintro e w' ⟨rfl, rfl⟩
    exact ⟨-1, by rw [may_true (fun i hi => absurd hi (by simp))]; rfl, rfl, Fr.refl _ _⟩
  · exact idx_some w b off k c p q ns n hn hI hp hq hpq (hbp _ rfl)
set_option maxRecDepth 100000 in
set_option maxHeartbeats 800000 in
theorem cont_any (w : World) (a : Option Addr) (k c p q : Nat) (ns : List Int) (n : Int) (hn : ns.length = k) (hI : Ints w a ns) (hp : Box w p 97) (hq : Box w q n) (hpq : p ≠ q) (hbp : ∀ x, a = some x → k = 0 ∨ x.block ≠ p) :
    Calls Tryz.prog 194 #[.slice a k c, .func (.func 203) #[] #[.pointer (some ⟨p, 0, none⟩), .pointer (some ⟨q, 0, none⟩)]] w fun e w' => e = .returned (.bool (!(may ns n))) ∧ Fr (fun i => i = p) w w' := by
  have HC := idx_any w a k c p q ns n hn hI hp hq hpq hbp
  have HC : Hid (Calls Tryz.prog 202 #[.slice a k c, .func (.func 203) #[] #[.pointer (some ⟨p, 0, none⟩), .pointer (some ⟨q, 0, none⟩)]] w fun e w' => ∃ r : Int, (decide (0 ≤ r)) = (!(may ns n)) ∧ e = .returned (.int .i64 r) ∧ Fr (fun i => i = p) w w') := HC
  clear hn hI hp hq hpq hbp
  go_enter Tryz.func194, Tryz.ntmps194
  go_wp2_with (go_at_call 202; refine HC.out.mono ?_; rintro e w' ⟨r, hr, rfl, hf⟩; have HR : Hid (decide (0 ≤ r) = (!(may ns n)) ∧ Fr (fun i => i = p) w w') := ⟨hr, hf⟩; clear hr hf)
  go_ret
  refine ⟨?_, HR.out.2⟩
  rw [← HR.out.1]; rfl
set_option maxRecDepth 100000 in
set_option maxHeartbeats 800000 in
theorem wrongOn_any (w : World) (n : Int) :
    Calls Tryz.prog 195 #[.int .i64 n] w fun e w' => ∃ p q, e = .returned (.func (.func 203) #[] #[.pointer (some ⟨p, 0, none⟩), .pointer (some ⟨q, 0, none⟩)]) ∧ Box w' p 97 ∧ Box w' q n ∧ p ≠ q ∧ w.heap.size ≤ p ∧ w.heap.size ≤ q ∧ Below w.heap.size w w' := by
  have hmf : ∀ (fn : Fn) (first cap : Array Value) (w : World), (Instr.makeFunc fn first cap).run Tryz.prog w = .ok (.func fn first cap) w := fun _ _ _ _ => rfl
  go_enter Tryz.func195, Tryz.ntmps195
  go_wp2
  go_ret
  have s1 : (w.alloc (.cells #[.int .i64 n] 3)).heap.size = w.heap.size + 1 := by show (w.heap.push _).size = _; exact Array.size_push ..
  have b1 : Below (w.heap.size + 1) (w.alloc (.cells #[.int .i64 n] 3)) ((w.alloc (.cells #[.int .i64 n] 3)).alloc (.cells #[.int .i64 97] 3)) := (Below.refl _ _).alloc (by omega) _
  refine ⟨w.heap.size + 1, w.heap.size, rfl, ?_, ?_, by omega, by omega, Nat.le_refl _, ((Below.refl _ _).alloc (Nat.le_refl _) _).alloc (by omega) _⟩
  · rw [← s1]; exact heap_alloc_new _ _
  · unfold Box
    rw [b1.block _ (by omega)]; exact heap_alloc_new _ _
theorem Ints.far {w : World} {a : Option Addr} {ns : List Int} {k p : Nat} (h : Ints w a ns) (hn : ns.length = k) (hp : w.heap.size ≤ p) : ∀ x, a = some x → k = 0 ∨ x.block ≠ p := by
  intro x hx
  rcases h.at_ with e | ⟨b, off, e, hc⟩
  · subst e; simp at hn; omega
  · subst e
    cases hx
    by_cases h0 : k = 0
    · exact .inl h0
    · have := block_lt_of_cell (hc 0 (by omega))
      have t : b < w.heap.size := this
      exact .inr (fun e => by change b = p at e; omega)
set_option maxRecDepth 100000 in
set_option maxHeartbeats 800000 in
/-- the numbers are asked -/
theorem mayBe_any (w : World) (a : Option Addr) (k c : Nat) (ns : List Int) (n : Int) (hn : ns.length = k) (hI : Ints w a ns) :
    Calls Tryz.prog 179 #[.slice a k c, .int .i64 n] w fun e w' => e = .returned (.bool (may ns n)) ∧ Below w.heap.size w w' := by
  have HI : Hid (Ints w a ns) := hI
  have HN : Hid (ns.length = k) := hn
  clear hI hn
  go_enter Tryz.func179, Tryz.ntmps179
  go_wp2_with (first
    | (go_at_call 195; refine (wrongOn_any _ _).mono ?_; rintro e w1 ⟨p, q, rfl, hp, hq, hpq, hp1, hq1, hb⟩; have H1 : Hid (Box w1 p 97 ∧ Box w1 q n ∧ p ≠ q ∧ w.heap.size ≤ p ∧ w.heap.size ≤ q ∧ Below w.heap.size w w1) := ⟨hp, hq, hpq, hp1, hq1, hb⟩; clear hp hq hpq hp1 hq1 hb)
    | (go_at_call 194; refine (cont_any w1 a k c p q ns n HN.out (HI.out.on H1.out.2.2.2.2.2) H1.out.1 H1.out.2.1 H1.out.2.2.1 (HI.out.far HN.out H1.out.2.2.2.1)).mono ?_; rintro e w2 ⟨rfl, hf⟩; have H2 : Hid (Fr (fun i => i = p) w1 w2) := hf; clear hf))
  go_ret
  refine ⟨?_, H1.out.2.2.2.2.2.trans (H2.out.below _ (fun k hk => by rw [hk]; exact H1.out.2.2.2.1) H1.out.2.2.2.2.2.size)⟩
  rfl

/-- blocks -/
theorem mem_row (ds : List (List Int)) : (∀ b, b ∈ ds → b.length = 512) ↔ ∀ i, i < ds.length → (row ds i).length = 512 := by
  constructor
  · intro h i hi
    have e : row ds i = ds[i] := by simp [row, List.getD, hi]
    rw [e]; exact h _ (List.getElem_mem hi)
  · intro h b hb
    obtain ⟨i, hi, rfl⟩ := List.mem_iff_getElem.1 hb
    have e : row ds i = ds[i] := by simp [row, List.getD, hi]
    rw [← e]; exact h i hi
set_option maxRecDepth 100000 in
set_option maxHeartbeats 800000 in
theorem idb_some (w : World) (b off k c : Nat) (ds : List (List Int)) (hn : ds.length = k) (hk : k ≤ 1000000000000000) (hc : ∀ i, i < ds.length → ∃ a' c, w.cell? ⟨b, off + i, none⟩ = some (.slice a' (row ds i).length c)) :
    Calls Tryz.prog 204 #[.slice (some ⟨b, off, none⟩) k c, .func (.func 197) #[] #[]] w fun e w' => ∃ r : Int, decide (0 ≤ r) = (!(decide (∀ b, b ∈ ds → b.length = 512))) ∧ e = .returned (.int .i64 r) ∧ w = w' := by
  have HC : Hid (∀ i, i < ds.length → ∃ a' c, w.cell? ⟨b, off + i, none⟩ = some (.slice a' (row ds i).length c)) := hc
  have HN : Hid (ds.length = k) := hn
  clear hc hn
  go_enter Tryz.func204, Tryz.ntmps204
  go_wp2
  go_loop [8] (fun i => ∃ j : Nat, j ≤ k ∧ i = .int .i64 j ∧ (∀ i, i < j → (row ds i).length = 512)) (fun i => k - (intOf i).toNat)
  case atStart => exact ⟨0, Nat.zero_le _, rfl, fun j hj => absurd hj (by omega)⟩
  case round =>
    obtain ⟨j, hj, rfl, hz⟩ := hrel
    have HZ : Hid (∀ i, i < j → (row ds i).length = 512) := hz
    clear hz
    by_cases hlt : j < k
    · obtain ⟨a', c', d1⟩ := HC.out j (by rw [HN.out]; exact hlt)
      by_cases h0 : (row ds j).length = 512
      · have H0 : Hid ((row ds j).length = 512) := h0
        rw [h0] at d1
        clear h0
        go_wp2_with (go_at_call 197; refine (notBlock_any _ _ _ _).mono ?_; rintro e w' ⟨rfl, rfl⟩)
        go_round
        case rel => exact ⟨j + 1, by omega, by go_num, fun i hi => (Nat.lt_succ_iff_lt_or_eq.1 hi).elim (fun h => HZ.out i h) (fun h => by subst h; exact H0.out)⟩
        case measure => simp [intOf]; omega
      · have H0 : Hid (¬ (row ds j).length = 512) := h0
        clear h0
        go_wp2_with (go_at_call 197; refine (notBlock_any _ _ _ _).mono ?_; rintro e w' ⟨rfl, rfl⟩; rw [decide_eq_true H0.out])
        go_ret
        refine ⟨j, ?_, rfl, rfl⟩
        rw [decide_eq_false (fun h => H0.out ((mem_row ds).1 h j (by rw [HN.out]; exact hlt)))]
        exact decide_eq_true (by omega)
    · go_wp2
      go_ret
      refine ⟨-1, ?_, rfl, rfl⟩
      rw [decide_eq_true ((mem_row ds).2 (fun i hi => HZ.out i (by rw [HN.out] at hi; omega)))]
      rfl
set_option maxRecDepth 100000 in
theorem idb_none (w : World) (a : Option Addr) (c : Nat) (f : Value) :
    Calls Tryz.prog 204 #[.slice a 0 c, f] w fun e w' => e = .returned (.int .i64 (-1)) ∧ w = w' := by
  go_enter Tryz.func204, Tryz.ntmps204
  go_wp2
  go_loop [8] (fun i => i = .int .i64 0) (fun _ => 0)
  case atStart => exact rfl
  case round =>
    obtain rfl := hrel
    go_wp2
    go_ret
    exact ⟨rfl, rfl⟩
theorem idb_any (w : World) (a : Option Addr) (k c : Nat) (ds : List (List Int)) (hn : ds.length = k) (hD : Data w a ds) :
    Calls Tryz.prog 204 #[.slice a k c, .func (.func 197) #[] #[]] w fun e w' => ∃ r : Int, decide (0 ≤ r) = (!(decide (∀ b, b ∈ ds → b.length = 512))) ∧ e = .returned (.int .i64 r) ∧ w = w' := by
  rcases hD.at_ with h | ⟨b, off, rfl, hc⟩
  · subst h; simp at hn; subst hn
    refine (idb_none w a c _).mono ?_
    rintro e w' ⟨rfl, rfl⟩
    exact ⟨-1, by simp, rfl, rfl⟩
  · exact idb_some w b off k c ds hn (by have := hD.len; omega) (fun i hi => by obtain ⟨a', c, h1, _⟩ := hc i hi; exact ⟨a', c, h1⟩)
set_option maxRecDepth 100000 in
set_option maxHeartbeats 800000 in
theorem conb_any (w : World) (a : Option Addr) (k c : Nat) (ds : List (List Int)) (hn : ds.length = k) (hD : Data w a ds) :
    Calls Tryz.prog 196 #[.slice a k c, .func (.func 197) #[] #[]] w fun e w' => e = .returned (.bool (!(decide (∀ b, b ∈ ds → b.length = 512)))) ∧ w = w' := by
  have HC : Hid (Calls Tryz.prog 204 #[.slice a k c, .func (.func 197) #[] #[]] w fun e w' => ∃ r : Int, decide (0 ≤ r) = (!(decide (∀ b, b ∈ ds → b.length = 512))) ∧ e = .returned (.int .i64 r) ∧ w = w') := idb_any w a k c ds hn hD
  clear hn hD
  go_enter Tryz.func196, Tryz.ntmps196
  go_wp2_with (go_at_call 204; refine HC.out.mono ?_; rintro e w' ⟨r, hr, rfl, rfl⟩; have HR : Hid (decide (0 ≤ r) = (!(decide (∀ b, b ∈ ds → b.length = 512)))) := hr; clear hr)
  go_ret
  refine ⟨?_, rfl⟩
  rw [← HR.out]; rfl
set_option maxRecDepth 100000 in
set_option maxHeartbeats 800000 in
theorem areBlocks_any (w : World) (a : Option Addr) (k c m : Nat) (ds : List (List Int)) (hn : ds.length = k) (hD : Data w a ds) :
    Calls Tryz.prog 180 #[.slice a k c, .int .i64 m] w fun e w' => e = .returned (.bool (blk ds m)) ∧ w = w' := by
  have HC : Hid (Calls Tryz.prog 196 #[.slice a k c, .func (.func 197) #[] #[]] w fun e w' => e = .returned (.bool (!(decide (∀ b, b ∈ ds → b.length = 512)))) ∧ w = w') := conb_any w a k c ds hn hD
  have HN : Hid (ds.length = k) := hn
  clear hn hD
  by_cases h : k = m
  · subst h
    go_enter Tryz.func180, Tryz.ntmps180
    go_wp2_with (go_at_call 196; refine HC.out.mono ?_; rintro e w' ⟨rfl, rfl⟩)
    go_ret
    refine ⟨?_, rfl⟩
    unfold blk
    rw [decide_eq_true HN.out, Bool.true_and]
    rfl
  · have h' : ¬ (k : Int) = (m : Int) := by omega
    go_enter Tryz.func180, Tryz.ntmps180
    go_wp2
    go_ret
    refine ⟨?_, rfl⟩
    unfold blk
    rw [decide_eq_false (fun e => h (by rw [← HN.out, e])), Bool.false_and]; rfl
end Go.Proofs.YtflienghgobmoaaGreatDoor

namespace Go.Proofs.YtflienghgobmoaaGreatDoor
open Go.RowKit Rec

def zn (m : Nat) : List Int := List.replicate m 0
theorem zn_length (m : Nat) : (zn m).length = m := by simp [zn]
theorem nth_rep (m : Nat) (x : Int) (i : Nat) (h : i < m) : nth (List.replicate m x) i = x := by simp [nth, List.getD, h]
theorem wf_rep (m : Nat) (x : Int) (hx : 0 ≤ x ∧ x < 256) : ∀ i, 0 ≤ nth (List.replicate m x) i ∧ nth (List.replicate m x) i < 256 := fun i => by
  by_cases h : i < m
  · rw [nth_rep m x i h]; exact hx
  · rw [nth_out _ _ (by simp; omega)]; omega
theorem made_list (z : Value) (n : Nat) : (madeCells #[z] n).toList = List.replicate n z := toList_madeCells_one z n
/-- 'make([]byte, n)' -/
theorem wp_makeB {ops : Array Oper} {rest : List Oper} {o : Oper} {a : Act} {Q : Exit → Act → World → Prop} {w : World} (hg : o.guard = none) (l c : Operand) (hop : o.op = Op.makeSlice 22 l c)
    (kl kc : IntKind) (L C : Int) (n : Nat) (hl : a.eval l = .int kl L) (hc : a.eval c = .int kc C) (hL : L = (n : Int)) (hC : C = (n : Int)) (hn : n ≤ 281474976710656)
    (hK : ∀ w', OwnB w' w.heap.size n (zn n) → Below w.heap.size w w' → wpList Tryz.prog ops Q rest (a.put o.dst (.slice (some ⟨w.heap.size, 0, none⟩) n n)) w') :
    wpList Tryz.prog ops Q (o :: rest) a w := by
  obtain ⟨i0, hi, hz0, hz1, hz2⟩ := info_parts info5
  subst hL hC
  refine wpList_make_row w hg l c 22 hop 5 i0 _ Tryz.underlying22 hi hz0 hz1 rfl kl kc n hl hc (by rw [hz2]; omega) (by omega) ?_
  refine hK _ ⟨⟨_, heap_alloc_new _ _, ?_, ?_⟩, ?_, ?_, ?_, wf_rep n 0 (by omega)⟩ ((Below.refl _ _).alloc (Nat.le_refl _) _)
  · rw [← Array.length_toList, made_list, List.length_replicate]
  · rw [made_list, zn_length, zn, List.map_replicate, List.take_replicate, Nat.min_self]
  · rw [zn_length]; omega
  · rw [zn_length]; omega
  · unfold maxLen; omega
theorem info3 : (Tryz.prog.info? 3).map (fun i => (i.zero, i.size, i.bytes)) = some (some (.int .i64 0), 1, 8) := by kernel_rfl
/-- 'make([]int, n)' -/
theorem wp_makeI {ops : Array Oper} {rest : List Oper} {o : Oper} {a : Act} {Q : Exit → Act → World → Prop} {w : World} (hg : o.guard = none) (l c : Operand) (hop : o.op = Op.makeSlice 82 l c)
    (kl kc : IntKind) (L C : Int) (n : Nat) (hl : a.eval l = .int kl L) (hc : a.eval c = .int kc C) (hL : L = (n : Int)) (hC : C = (n : Int)) (hn : n ≤ 4294967296)
    (hK : ∀ w', w'.ownsRow 0 3 1 (.slice (some ⟨w.heap.size, 0, none⟩) n n) n ((zn n).map (Value.int .i64)) → Below w.heap.size w w' → wpList Tryz.prog ops Q rest (a.put o.dst (.slice (some ⟨w.heap.size, 0, none⟩) n n)) w') :
    wpList Tryz.prog ops Q (o :: rest) a w := by
  obtain ⟨i0, hi, hz0, hz1, hz2⟩ := info_parts info3
  subst hL hC
  refine wpList_make_row w hg l c 82 hop 3 i0 _ Tryz.underlying82 hi hz0 hz1 rfl kl kc n hl hc (by rw [hz2]; omega) (by omega) ?_
  refine hK _ ⟨by simp [zn], .inr ⟨_, _, _, rfl, Nat.zero_le _, heap_alloc_new _ _, Nat.le_refl _, by unfold maxLen; omega, ?_, ?_⟩⟩ ((Below.refl _ _).alloc (Nat.le_refl _) _)
  · rw [← Array.length_toList, made_list, List.length_replicate, Nat.mul_one]
  · rw [made_list, zn, List.map_replicate, List.take_replicate, Nat.mul_one, Nat.min_self]

theorem nth_app {a b : List Int} (i : Nat) : nth (a ++ b) i = if i < a.length then nth a i else nth b (i - a.length) := by
  unfold nth
  by_cases h : i < a.length
  · rw [if_pos h]; simp [List.getD, List.getElem?_append, h]
  · rw [if_neg h]; simp [List.getD, List.getElem?_append, h]
theorem ownB_of {w : World} {g n cap : Nat} {l : List Int} (h : w.ownsRow 0 5 1 (.slice (some ⟨g, 0, none⟩) n cap) n (l.map (Value.int .u8))) (hl : l.length = n) (hn : n ≤ 1000000000000000) (hw : ∀ i, 0 ≤ nth l i ∧ nth l i < 256) : OwnB w g cap l := by
  subst hl
  rcases h.2 with ⟨hv, _⟩ | ⟨g', cap', cur, hv, h1, hg, h2, h3, h4, h5⟩
  · cases hv
  · cases hv
    exact ⟨⟨cur, hg, by omega, by simpa using h5⟩, hn, h2, h3, hw⟩
/-- append of bytes to nil or one's own -/
theorem wp_bown {ops : Array Oper} {rest : List Oper} {o : Oper} {a : Act} {Q : Exit → Act → World → Prop} {w : World} (hgd : o.guard = none) (s x : Operand)
    (ho : o.op = .call { callee := .builtin .append, args := #[s, x], argTypes := #[22, 22] }) (v : Value) (k : Nat) (l : List Int) (hs : a.eval s = v) (hown : w.ownsRow 0 5 1 v k (l.map (Value.int .u8)))
    (ad : Addr) (m c : Nat) (y : List Int) (hx : a.eval x = .slice (some ad) m c) (hm : 0 < m) (hl : y.length = m) (hb : Bytes w (some ad) y) (h47 : k + m ≤ 140737488355328)
    (h : ∀ g cap w', w'.ownsRow 0 5 1 (.slice (some ⟨g, 0, none⟩) (k + m) cap) (k + m) ((l ++ y).map (Value.int .u8)) → Fr (fun k => v.ownBlock = some k) w w' → (v.ownBlock = some g ∨ w.heap.size ≤ g) → wpList Tryz.prog ops Q rest (a.put o.dst (.slice (some ⟨g, 0, none⟩) (k + m) cap)) w') :
    wpList Tryz.prog ops Q (o :: rest) a w := by
  obtain ⟨i0, hi, hz0, hz1, hz2⟩ := info_parts info5
  refine wp_own hgd s x 22 ho 5 i0 _ 1 1 Tryz.underlying22 hi hz0 hz1 hz2 rfl (by decide) v k _ hs hown ad m c (y.map (Value.int .u8)) hx hm (by rw [List.length_map, hl, Nat.mul_one]) hb.news (cells_u8 y) (by unfold maxLen; omega) (by omega) ?_
  intro g cap w' h1 h2 h3
  rw [← List.map_append] at h1
  exact h g cap w' h1 h2 h3
theorem str_opt {w : World} {a : Option Addr} {n c : Nat} {l : List Int} (hB : Bytes w a l) (hn : l.length = n) : (convert 22 9 (.slice a n c)).run Tryz.prog w = .ok (.string (strOfNums l)) w := by
  cases a with
  | none =>
    have hl := hB.nil
    subst hl
    simp at hn
    subst hn
    exact run_convert_bytes_nil (P := Tryz.prog) w 22 5 Tryz.underlying22 Tryz.underlying5 0 c 9 Tryz.underlying9
  | some p =>
    rcases hB.at_ with e | ⟨b, off, e, hc⟩
    · subst e
      simp at hn
      subst hn
      rw [run_convert_bytes_string w 22 9 5 _ 0 c Tryz.underlying22 Tryz.underlying5 Tryz.underlying9]
      have hl : (loadCells p 0).run Tryz.prog w = .ok ((([] : List Int).map (Value.int .u8)).toArray) w := by
        have := run_loadCells_list (P := Tryz.prog) w p [] (fun j v h => by simp at h)
        simpa using this
      rw [run_bytesToString w p 0 c [] hl]
      rfl
    · cases e
      exact run_convert_bytes_arg (P := Tryz.prog) w 22 5 Tryz.underlying22 Tryz.underlying5 b off n c l hn (fun i hi => hc i (by omega)) 9 Tryz.underlying9
theorem owns_set {w : World} {g n cap e : Nat} {xs : List Value} (h : w.ownsRow 0 e 1 (.slice (some ⟨g, 0, none⟩) n cap) n xs) (k : Nat) (v : Value) : (w.setCell ⟨g, k, none⟩ v).ownsRow 0 e 1 (.slice (some ⟨g, 0, none⟩) n cap) n (xs.set k v) := by
  refine ⟨by rw [List.length_set]; exact h.1, ?_⟩
  rcases h.2 with ⟨h1, _⟩ | ⟨g', cap', cur, h1, h2, h3, h4, h5, h6, h7⟩
  · cases h1
  · cases h1
    exact .inr ⟨_, _, _, rfl, h2, heap_setCell_same _ _ _ _ _ _ h3, h4, h5, by simpa using h6, by rw [Array.toList_setIfInBounds, List.take_set, h7]⟩

set_option maxRecDepth 100000 in
set_option maxHeartbeats 800000 in
theorem clone_any (w : World) (p : Addr) (n c : Nat) (l : List Int) (hb : Bytes w (some p) l) (hn : l.length = n) (h47 : n ≤ 140737488355328) :
    Calls Tryz.prog 199 #[.slice (some p) n c] w fun e w' => ∃ g cap, e = .returned (.slice (some ⟨g, 0, none⟩) n cap) ∧ w.heap.size ≤ g ∧ OwnB w' g cap l ∧ Below w.heap.size w w' := by
  have HB : Hid (Bytes w (some p) l) := hb
  have HN : Hid (l.length = n) := hn
  clear hb hn
  go_enter Tryz.func199, Tryz.ntmps199
  have E1 : ∀ w : World, (binOp .eql 22 (.slice (some p) n c) (.slice none 0 0)).run Tryz.prog w = .ok (.bool false) w := fun w => Go.Lib.run_eql_slice_some_nil w p n c Tryz.underlying22
  have HA : Hid (Below w.heap.size w (w.alloc (.cells #[] 5))) := (Below.refl _ _).alloc (Nat.le_refl _) _
  have HE : Hid (OwnB (w.alloc (.cells #[] 5)) w.heap.size 0 []) := own_empty (heap_alloc_new _ _)
  go_wp2_with (at_builtin; refine wp_app rfl (.tmp 5) (.tmp 6) rfl w.heap.size w.heap.size 0 0 [] l rfl rfl HE.out (Nat.le_refl _) HA.out.size (some p) n c rfl HN.out (HB.out.on HA.out) (fun h => by cases h) (by omega) ?_; intro g cap w2 hg ho hgr; have HG : Hid (w.heap.size ≤ g ∧ OwnB w2 g cap l ∧ Below w.heap.size w w2) := ⟨hg, ho, HA.out.grown hgr HA.out.size (by intro k hk; cases hk; exact Nat.le_refl _)⟩; clear hg ho hgr)
  go_ret
  exact ⟨_, _, rfl, HG.out.1, HG.out.2.1, HG.out.2.2⟩
theorem make512 : ∃ o : Obj, (∀ w : World, (Instr.makeSlice 22 (.int .i64 512) (.int .i64 512)).run Tryz.prog w = .ok (.slice (some ⟨w.heap.size, 0, none⟩) 512 512) (w.alloc o)) ∧ ∀ w : World, OwnB (w.alloc o) w.heap.size 512 (zn 512) := by
  obtain ⟨i0, hi, hz0, hz1, hz2⟩ := info_parts info5
  refine ⟨.cells (madeCells #[.int .u8 0] 512) 5, fun w => run_make_row (P := Tryz.prog) 22 5 i0 _ Tryz.underlying22 hi hz0 hz1 rfl .i64 .i64 512 (by rw [hz2]; omega) (by omega) w, fun w => ?_⟩
  refine ⟨⟨_, heap_alloc_new _ _, ?_, ?_⟩, ?_, ?_, ?_, wf_rep 512 0 (by omega)⟩
  · rw [← Array.length_toList, made_list, List.length_replicate]
  · rw [made_list, zn_length, zn, List.map_replicate, List.take_replicate, Nat.min_self]
  · rw [zn_length]; omega
  · rw [zn_length]; omega
  · unfold maxLen; omega
end Go.Proofs.YtflienghgobmoaaGreatDoor

namespace Go.Proofs.YtflienghgobmoaaGreatDoor
open Go.RowKit Rec

/-- the text of the first eight bytes -/
def magS : ByteArray := { data := #[66, 79, 76, 69, 76, 79, 71, 49] }
theorem magS_nums : sb magS = mag := by decide
end Go.Proofs.YtflienghgobmoaaGreatDoor

namespace Go.Proofs.YtflienghgobmoaaGreatDoor
open Go.RowKit Rec

theorem nth_cellI (l : List Int) (k : Nat) (h : k < l.length) : ((l.map (Value.int .i64)).toArray)[k]? = some (.int .i64 (nth l k)) := by
  simp [nth, List.getD, h]
/-- numbers in a row of one's own -/
structure OwnI (w : World) (g cap : Nat) (l : List Int) : Prop where
  row : ∃ cur : Array Value, w.heap[g]? = some (.cells cur 3 (0, 0)) ∧ cur.size = cap ∧ cur.toList.take l.length = l.map (Value.int .i64)
  len : l.length ≤ 1000000000000000
  room : l.length ≤ cap
  top : cap ≤ maxLen
theorem OwnI.cell {w : World} {g cap : Nat} {l : List Int} (h : OwnI w g cap l) (i : Nat) (hi : i < l.length) : w.cell? ⟨g, i, none⟩ = some (.int .i64 (nth l i)) := by
  obtain ⟨cur, hg, _, ht⟩ := h.row
  rw [cell_of_row _ _ _ _ _ _ hg, ← nth_cellI l i hi, ← ht]
  simp [hi]
theorem OwnI.frozen {w : World} {g cap : Nat} {l : List Int} (h : OwnI w g cap l) (i : Nat) : w.frozen? ⟨g, i, none⟩ = false := by
  obtain ⟨cur, hg, _, _⟩ := h.row
  exact frozen_of_row _ _ _ _ _ hg
theorem OwnI.ints {w : World} {g cap : Nat} {l : List Int} (h : OwnI w g cap l) : Ints w (some ⟨g, 0, none⟩) l :=
  ⟨h.len, .inr ⟨g, 0, rfl, fun i hi => by rw [Nat.zero_add]; exact h.cell i hi⟩⟩
theorem OwnI.lt {w : World} {g cap : Nat} {l : List Int} (h : OwnI w g cap l) : g < w.heap.size := by
  obtain ⟨cur, hg, _, _⟩ := h.row
  exact heap_lt hg
theorem OwnI.fr {S : Nat → Prop} {w w' : World} {g cap : Nat} {l : List Int} (h : OwnI w g cap l) (x : Fr S w w') (hr : ¬ S g) : OwnI w' g cap l := by
  obtain ⟨cur, hg, h2, h3⟩ := h.row
  exact ⟨⟨cur, x.heap hg hr, h2, h3⟩, h.len, h.room, h.top⟩
theorem OwnI.on {w w' : World} {g cap : Nat} {l : List Int} (h : OwnI w g cap l) (hb : Below w.heap.size w w') : OwnI w' g cap l := h.fr (below_fr hb (fun _ => False)) (fun e => e)
theorem OwnB.fr {S : Nat → Prop} {w w' : World} {g cap : Nat} {l : List Int} (h : OwnB w g cap l) (x : Fr S w w') (hr : ¬ S g) : OwnB w' g cap l := by
  obtain ⟨cur, hg, h2, h3⟩ := h.row
  exact ⟨⟨cur, x.heap hg hr, h2, h3⟩, h.len, h.room, h.top, h.wf⟩
theorem OwnI.set {w : World} {g cap : Nat} {l : List Int} (h : OwnI w g cap l) (k : Nat) (c : Int) :
    OwnI (w.setCell ⟨g, k, none⟩ (.int .i64 c)) g cap (l.set k c) := by
  obtain ⟨cur, hg, h2, h3⟩ := h.row
  refine ⟨⟨cur.setIfInBounds k (.int .i64 c), heap_setCell_same _ _ _ _ _ _ hg, by simp [h2], ?_⟩, by simpa using h.len, by simpa using h.room, h.top⟩
  rw [List.length_set, Array.toList_setIfInBounds, List.take_set, h3, List.map_set]
theorem OwnI.of {w : World} {g n cap : Nat} {l : List Int} (h : w.ownsRow 0 3 1 (.slice (some ⟨g, 0, none⟩) n cap) n (l.map (Value.int .i64))) (hl : l.length = n) (hn : n ≤ 1000000000000000) : OwnI w g cap l := by
  subst hl
  rcases h.2 with ⟨hv, _⟩ | ⟨g', cap', cur, hv, h1, hg, h2, h3, h4, h5⟩
  · cases hv
  · cases hv
    exact ⟨⟨cur, hg, by omega, by simpa using h5⟩, hn, h2, h3⟩
theorem flat_succ (ds : List (List Int)) (j : Nat) (h : j < ds.length) : (ds.take (j + 1)).flatten = (ds.take j).flatten ++ row ds j := by
  rw [List.take_succ_eq_append_getElem h, List.flatten_append]
  simp [row, List.getD, h]
theorem flat_len (ds : List (List Int)) (hb : ∀ i, i < ds.length → (row ds i).length = 512) : ∀ j, j ≤ ds.length → (ds.take j).flatten.length = 512 * j
  | 0, _ => by simp
  | j + 1, h => by
    rw [flat_succ ds j h, List.length_append, flat_len ds hb j (by omega), hb j h]; omega
theorem Data.cell {w : World} {b off i : Nat} {ds : List (List Int)} (h : Data w (some ⟨b, off, none⟩) ds) (hi : i < ds.length) : ∃ a' c, w.cell? ⟨b, off + i, none⟩ = some (.slice a' (row ds i).length c) ∧ Bytes w a' (row ds i) ∧ (a' = none → c = 0) := by
  rcases h.at_ with e | ⟨b', off', e, hc⟩
  · subst e; exact absurd hi (by simp)
  · cases e; exact hc i hi
set_option maxRecDepth 100000 in
set_option maxHeartbeats 1600000 in
theorem sumOf_some (w : World) (b off c db doff k dc : Nat) (h : List Int) (ds : List (List Int)) (hn : h.length = 512) (hO : Bytes w (some ⟨b, off, none⟩) h) (hT : TabAt w) (hD : Data w (some ⟨db, doff, none⟩) ds) (hk : ds.length = k) (hk96 : k ≤ 96) (hbl : ∀ i, i < k → (row ds i).length = 512) :
    Calls Tryz.prog 183 #[.slice (some ⟨b, off, none⟩) 512 c, .slice (some ⟨db, doff, none⟩) k dc] w fun e w' => e = .returned (.int .u32 (sumV h ds)) ∧ Below w.heap.size w w' := by
  have HH : Hid (Bytes w (some ⟨b, off, none⟩) h) := hO
  have HL : Hid (h.length = 512) := hn
  have HT : Hid (∀ wx, Below w.heap.size w wx → TabAt wx) := fun wx hx => hT.on hx
  have HD : Hid (∀ wx, Below w.heap.size w wx → ∀ j, j < k → ∃ b' o' c', wx.cell? ⟨db, doff + j, none⟩ = some (.slice (some ⟨b', o', none⟩) 512 c') ∧ Bytes wx (some ⟨b', o', none⟩) (row ds j)) := fun wx hx j hj => by
    obtain ⟨a', c', h1, h2, h3⟩ := (hD.on hx).cell (i := j) (by omega)
    have hr := hbl j hj
    rw [hr] at h1
    rcases h2.at_ with e | ⟨b', o', rfl, _⟩
    · rw [e] at hr; simp at hr
    · exact ⟨b', o', c', h1, h2⟩
  have HK : Hid (ds.length = k) := hk
  have HR : Hid (∀ i, i < k → (row ds i).length = 512) := hbl
  have HFl : Hid (∀ j, j ≤ k → (ds.take j).flatten.length = 512 * j) := fun j hj => flat_len ds (fun i hi => hbl i (by omega)) j (by omega)
  clear hO hn hT hD hk hbl
  go_enter Tryz.func183, Tryz.ntmps183
  go_wp2_with (go_at_call 199; refine (clone_any _ _ _ _ h HH.out HL.out (by omega)).mono ?_; rintro e w1 ⟨g, cap, rfl, hg, ho, hb⟩; have H1 : Hid (w.heap.size ≤ g ∧ OwnB w1 g cap h ∧ Below w.heap.size w w1) := ⟨hg, ho, hb⟩; have hcp : 512 ≤ cap := (by have := ho.room; rw [HL.out] at this; exact this); clear hg ho hb)
  obtain ⟨w2, hr2, ho2, hg2⟩ := clear_run (off := 12) (B := 12) (k := 4) (c := cap - 12) 0 H1.out.2.1 (by omega) (by rw [HL.out]; omega)
  have H2 : Hid (OwnB w2 g cap (ov h 12 4 (fun _ => 0)) ∧ Below w.heap.size w w2) := ⟨ho2, H1.out.2.2.grown hg2 H1.out.2.2.size (by intro k hk; cases hk; exact H1.out.1)⟩
  rw [hr2, Result.andThen_ok, Oper.upon_value]
  clear ho2 hg2 hr2
  go_wp2
  go_loopw [5, 14] (fun s i wr => ∃ (j g' cap' : Nat), j ≤ k ∧ i = .int .i64 j ∧ s = .slice (some ⟨g', 0, none⟩) (512 + 512 * j) cap' ∧ OwnB wr g' cap' (ov h 12 4 (fun _ => 0) ++ (ds.take j).flatten) ∧ w.heap.size ≤ g' ∧ Below w.heap.size w wr) (fun _ i _ => k - (intOf i).toNat)
  case atStart => exact ⟨0, g, cap, Nat.zero_le _, rfl, rfl, by simpa using H2.out.1, H1.out.1, H2.out.2⟩
  case round =>
    obtain ⟨j, g', cap', hj, rfl, rfl, ho, hg, hb⟩ := hrel
    have H3 : Hid (OwnB wr g' cap' (ov h 12 4 (fun _ => 0) ++ (ds.take j).flatten) ∧ w.heap.size ≤ g' ∧ Below w.heap.size w wr) := ⟨ho, hg, hb⟩
    have HL3 : Hid ((ov h 12 4 (fun _ => 0) ++ (ds.take j).flatten).length = 512 + 512 * j) := by show _ = _; rw [List.length_append, ov_length, HL.out, HFl.out j hj]
    clear ho hg hb
    by_cases hlt : j < k
    · obtain ⟨b', o', c', d1, d2⟩ := HD.out _ H3.out.2.2 j hlt
      have HB : Hid (Bytes wr (some ⟨b', o', none⟩) (row ds j)) := d2
      clear d2
      go_wp2_with (at_builtin; refine wp_app rfl (.tmp 18) (.tmp 19) rfl w.heap.size g' (512 + 512 * j) cap' _ (row ds j) HL3.out rfl H3.out.1 H3.out.2.1 H3.out.2.2.size (some ⟨b', o', none⟩) 512 c' rfl (HR.out j hlt) HB.out (fun h => by cases h) (by omega) ?_; intro g4 cap4 w4 hg4 ho4 hgr; have H4 : Hid (w.heap.size ≤ g4 ∧ OwnB w4 g4 cap4 (ov h 12 4 (fun _ => 0) ++ (ds.take (j + 1)).flatten) ∧ Below w.heap.size w w4) := ⟨hg4, by rw [flat_succ ds j (by rw [HK.out]; exact hlt), ← List.append_assoc]; exact ho4, H3.out.2.2.grown hgr H3.out.2.2.size (by intro k hk; cases hk; exact H3.out.2.1)⟩; clear hg4 ho4 hgr)
      go_round
      case rel => exact ⟨j + 1, g4, cap4, by omega, by go_num, by congr 1, H4.out.2.1, H4.out.1, H4.out.2.2⟩
      case measure => simp [intOf]; omega
    · obtain rfl : j = k := by omega
      go_wp2_with (go_at_call 200; refine (of_any _ _ (512 + 512 * j) cap' _ HL3.out (HT.out _ H3.out.2.2) H3.out.1.bytes).mono ?_; rintro e w' ⟨rfl, rfl⟩)
      go_ret
      refine ⟨?_, H3.out.2.2⟩
      have e : ds.take j = ds := List.take_of_length_le (by rw [HK.out]; omega)
      rw [e]; rfl
/-- Empty -/
theorem zs_zn : zn 512 = zs := rfl
set_option maxRecDepth 100000 in
theorem empty_any (w : World) : Calls Tryz.prog 156 #[] w fun e w' => ∃ g, e = .returned (.slice (some ⟨g, 0, none⟩) 512 512) ∧ OwnB w' g 512 zs ∧ w.heap.size ≤ g ∧ Below w.heap.size w w' := by
  go_enter Tryz.func156, Tryz.ntmps156
  go_wp2_with (at_make; refine wp_makeB rfl _ _ rfl _ _ _ _ 512 rfl rfl (by omega) (by omega) (by omega) ?_; intro w1 ho hb; have HO : Hid (OwnB w1 w.heap.size 512 (zn 512)) := ho; have HB : Hid (Below w.heap.size w w1) := hb; clear ho hb)
  go_ret
  exact ⟨_, rfl, by rw [← zs_zn]; exact HO.out, Nat.le_refl _, HB.out⟩
end Go.Proofs.YtflienghgobmoaaGreatDoor

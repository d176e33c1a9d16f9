import Derived.Test.YtamlbpbhlgmcoaaGreatDoorKPTxt
import Derived.OwnWalk
import Derived.Deep.OwnRows
import Derived.WalkSpells
import Derived.Lib.BufferMore
import Derived.Laws.StructEq
namespace Go.Proofs.YtamlbpbhlgmcoaaGreatDoor
open Go.RowKit Rec

theorem Ints.cell {w : World} {b off i : Nat} {l : List Int} (h : Ints w (some ⟨b, off, none⟩) l) (hi : i < l.length) : w.cell? ⟨b, off + i, none⟩ = some (.int .i64 (nth l i)) := by
  rcases h.at_ with e | ⟨b', off', e, hc⟩
  · subst e; exact absurd hi (by simp)
  · cases e; exact hc i hi
theorem may_false {ns : List Int} {n : Int} (k : Nat) (hk : k < ns.length) (h : ¬ (pre ns k < nth ns k ∧ nth ns k < n)) : may ns n = false := decide_eq_false (fun e => h (e k hk))
theorem may_true {ns : List Int} {n : Int} (h : ∀ i, i < ns.length → pre ns i < nth ns i ∧ nth ns i < n) : may ns n = true := decide_eq_true h

set_option maxRecDepth 100000 in
set_option maxHeartbeats 800000 in
theorem idx_some (w : World) (b off k c p q : Nat) (ns : List Int) (n : Int) (hn : ns.length = k) (hI : Ints w (some ⟨b, off, none⟩) ns) (hp : Box w p 97) (hq : Box w q n) (hpq : p ≠ q) (hbp : k = 0 ∨ b ≠ p) :
    Calls Tryz.prog 126 #[.slice (some ⟨b, off, none⟩) k c, .func (.func 127) #[] #[.pointer (some ⟨p, 0, none⟩), .pointer (some ⟨q, 0, none⟩)]] w fun e w' => ∃ r : Int, (decide (0 ≤ r)) = (!(may ns n)) ∧ e = .returned (.int .i64 r) ∧ Fr (fun i => i = p) w w' := by
  have hlen := hI.len
  rw [hn] at hlen
  have HC : Hid (∀ wr : World, Fr (fun i => i = p) w wr → ∀ i, i < k → wr.cell? ⟨b, off + i, none⟩ = some (.int .i64 (nth ns i))) := fun wr hf i hi => hf.cell (hI.cell (by omega)) (by intro e; change b = p at e; omega)
  have HQ : Hid (∀ wr : World, Fr (fun i => i = p) w wr → Box wr q n) := fun wr hf => hq.fr hf (fun e => hpq e.symm)
  have HP : Hid (Box w p 97) := hp
  have HN : Hid (ns.length = k) := hn
  clear hI hp hq hn hpq hbp
  go_enter Tryz.func126, Tryz.ntmps126
  go_wp2
  go_loopw [8] (fun i wr => ∃ j : Nat, j ≤ k ∧ i = .int .i64 j ∧ (∀ i, i < j → pre ns i < nth ns i ∧ nth ns i < n) ∧ Box wr p (pre ns j) ∧ Fr (fun i => i = p) w wr) (fun i _ => k - (intOf i).toNat)
  case atStart => exact ⟨0, Nat.zero_le _, rfl, fun j hj => absurd hj (by omega), HP.out, Fr.refl _ _⟩
  case round =>
    obtain ⟨j, hj, rfl, hz, hb, hf⟩ := hrel
    have HZ : Hid (∀ i, i < j → pre ns i < nth ns i ∧ nth ns i < n) := hz
    have HB : Hid (Box wr p (pre ns j)) := hb
    have HF : Hid (Fr (fun i => i = p) w wr) := hf
    clear hz hb hf
    by_cases hlt : j < k
    · have d1 := HC.out _ HF.out j hlt
      by_cases h0 : pre ns j < nth ns j ∧ nth ns j < n
      · have H0 : Hid (pre ns j < nth ns j ∧ nth ns j < n) := h0
        clear h0
        go_wp2_with (go_at_call 127; refine (wrong_any _ p q (pre ns j) n (nth ns j) HB.out (HQ.out _ HF.out)).mono ?_; rintro e w' ⟨rfl, rfl⟩; rw [decide_eq_true H0.out])
        go_round
        case rel =>
          refine ⟨j + 1, by omega, by go_num, fun i hi => (Nat.lt_succ_iff_lt_or_eq.1 hi).elim (fun h => HZ.out i h) (fun h => by subst h; exact H0.out), ?_, HF.out.trans Fr.set (fun i h => .inl h)⟩
          have := HB.out.set (nth ns j)
          exact this
        case measure => simp [intOf]; omega
      · have H0 : Hid (¬ (pre ns j < nth ns j ∧ nth ns j < n)) := h0
        clear h0
        go_wp2_with (go_at_call 127; refine (wrong_any _ p q (pre ns j) n (nth ns j) HB.out (HQ.out _ HF.out)).mono ?_; rintro e w' ⟨rfl, rfl⟩; rw [decide_eq_false H0.out])
        go_ret
        refine ⟨j, ?_, rfl, HF.out.trans Fr.set (fun i h => .inl h)⟩
        rw [may_false j (by rw [HN.out]; exact hlt) H0.out]
        exact decide_eq_true (by omega)
    · go_wp2
      go_ret
      refine ⟨-1, ?_, rfl, HF.out⟩
      rw [may_true (fun i hi => HZ.out i (by rw [HN.out] at hi; omega))]
      rfl
set_option maxRecDepth 100000 in
theorem idx_none (w : World) (a : Option Addr) (c : Nat) (f : Value) :
    Calls Tryz.prog 126 #[.slice a 0 c, f] w fun e w' => e = .returned (.int .i64 (-1)) ∧ w = w' := by
  go_enter Tryz.func126, Tryz.ntmps126
  go_wp2
  go_loop [8] (fun i => i = .int .i64 0) (fun _ => 0)
  case atStart => exact rfl
  case round =>
    obtain rfl := hrel
    go_wp2
    go_ret
    exact ⟨rfl, rfl⟩
theorem idx_any (w : World) (a : Option Addr) (k c p q : Nat) (ns : List Int) (n : Int) (hn : ns.length = k) (hI : Ints w a ns) (hp : Box w p 97) (hq : Box w q n) (hpq : p ≠ q) (hbp : ∀ x, a = some x → k = 0 ∨ x.block ≠ p) :
    Calls Tryz.prog 126 #[.slice a k c, .func (.func 127) #[] #[.pointer (some ⟨p, 0, none⟩), .pointer (some ⟨q, 0, none⟩)]] w fun e w' => ∃ r : Int, (decide (0 ≤ r)) = (!(may ns n)) ∧ e = .returned (.int .i64 r) ∧ Fr (fun i => i = p) w w' := by
  rcases hI.at_ with h | ⟨b, off, rfl, hc⟩
  · subst h; simp at hn; subst hn
    refine (idx_none w a c _).mono ?_
    rintro e w' ⟨rfl, rfl⟩
    exact ⟨-1, by rw [may_true (fun i hi => absurd hi (by simp))]; rfl, rfl, Fr.refl _ _⟩
  · exact idx_some w b off k c p q ns n hn hI hp hq hpq (hbp _ rfl)
set_option maxRecDepth 100000 in
set_option maxHeartbeats 800000 in
theorem cont_any (w : World) (a : Option Addr) (k c p q : Nat) (ns : List Int) (n : Int) (hn : ns.length = k) (hI : Ints w a ns) (hp : Box w p 97) (hq : Box w q n) (hpq : p ≠ q) (hbp : ∀ x, a = some x → k = 0 ∨ x.block ≠ p) :
    Calls Tryz.prog 114 #[.slice a k c, .func (.func 127) #[] #[.pointer (some ⟨p, 0, none⟩), .pointer (some ⟨q, 0, none⟩)]] w fun e w' => e = .returned (.bool (!(may ns n))) ∧ Fr (fun i => i = p) w w' := by
  have HC := idx_any w a k c p q ns n hn hI hp hq hpq hbp
  have HC : Hid (Calls Tryz.prog 126 #[.slice a k c, .func (.func 127) #[] #[.pointer (some ⟨p, 0, none⟩), .pointer (some ⟨q, 0, none⟩)]] w fun e w' => ∃ r : Int, (decide (0 ≤ r)) = (!(may ns n)) ∧ e = .returned (.int .i64 r) ∧ Fr (fun i => i = p) w w') := HC
  clear hn hI hp hq hpq hbp
  go_enter Tryz.func114, Tryz.ntmps114
  go_wp2_with (go_at_call 126; refine HC.out.mono ?_; rintro e w' ⟨r, hr, rfl, hf⟩; have HR : Hid (decide (0 ≤ r) = (!(may ns n)) ∧ Fr (fun i => i = p) w w') := ⟨hr, hf⟩; clear hr hf)
  go_ret
  refine ⟨?_, HR.out.2⟩
  rw [← HR.out.1]; rfl
set_option maxRecDepth 100000 in
set_option maxHeartbeats 800000 in
theorem wrongOn_any (w : World) (n : Int) :
    Calls Tryz.prog 115 #[.int .i64 n] w fun e w' => ∃ p q, e = .returned (.func (.func 127) #[] #[.pointer (some ⟨p, 0, none⟩), .pointer (some ⟨q, 0, none⟩)]) ∧ Box w' p 97 ∧ Box w' q n ∧ p ≠ q ∧ w.heap.size ≤ p ∧ w.heap.size ≤ q ∧ Below w.heap.size w w' := by
  have hmf : ∀ (fn : Fn) (first cap : Array Value) (w : World), (Instr.makeFunc fn first cap).run Tryz.prog w = .ok (.func fn first cap) w := fun _ _ _ _ => rfl
  go_enter Tryz.func115, Tryz.ntmps115
  go_wp2
  go_ret
  have s1 : (w.alloc (.cells #[.int .i64 n] 3)).heap.size = w.heap.size + 1 := by show (w.heap.push _).size = _; exact Array.size_push ..
  have b1 : Below (w.heap.size + 1) (w.alloc (.cells #[.int .i64 n] 3)) ((w.alloc (.cells #[.int .i64 n] 3)).alloc (.cells #[.int .i64 97] 3)) := (Below.refl _ _).alloc (by omega) _
  refine ⟨w.heap.size + 1, w.heap.size, rfl, ?_, ?_, by omega, by omega, Nat.le_refl _, ((Below.refl _ _).alloc (Nat.le_refl _) _).alloc (by omega) _⟩
  · rw [← s1]; exact heap_alloc_new _ _
  · unfold Box
    rw [b1.block _ (by omega)]; exact heap_alloc_new _ _
theorem Ints.far {w : World} {a : Option Addr} {ns : List Int} {k p : Nat} (h : Ints w a ns) (hn : ns.length = k) (hp : w.heap.size ≤ p) : ∀ x, a = some x → k = 0 ∨ x.block ≠ p := by
  intro x hx
  rcases h.at_ with e | ⟨b, off, e, hc⟩
  · subst e; simp at hn; omega
  · subst e
    cases hx
    by_cases h0 : k = 0
    · exact .inl h0
    · have := block_lt_of_cell (hc 0 (by omega))
      have t : b < w.heap.size := this
      exact .inr (fun e => by change b = p at e; omega)
set_option maxRecDepth 100000 in
set_option maxHeartbeats 800000 in
/-- the numbers are asked -/
theorem mayBe_any (w : World) (a : Option Addr) (k c : Nat) (ns : List Int) (n : Int) (hn : ns.length = k) (hI : Ints w a ns) :
    Calls Tryz.prog 98 #[.slice a k c, .int .i64 n] w fun e w' => e = .returned (.bool (may ns n)) ∧ Below w.heap.size w w' := by
  have HI : Hid (Ints w a ns) := hI
  have HN : Hid (ns.length = k) := hn
  clear hI hn
  go_enter Tryz.func98, Tryz.ntmps98
  go_wp2_with (first
    | (go_at_call 115; refine (wrongOn_any _ _).mono ?_; rintro e w1 ⟨p, q, rfl, hp, hq, hpq, hp1, hq1, hb⟩; have H1 : Hid (Box w1 p 97 ∧ Box w1 q n ∧ p ≠ q ∧ w.heap.size ≤ p ∧ w.heap.size ≤ q ∧ Below w.heap.size w w1) := ⟨hp, hq, hpq, hp1, hq1, hb⟩; clear hp hq hpq hp1 hq1 hb)
    | (go_at_call 114; refine (cont_any w1 a k c p q ns n HN.out (HI.out.on H1.out.2.2.2.2.2) H1.out.1 H1.out.2.1 H1.out.2.2.1 (HI.out.far HN.out H1.out.2.2.2.1)).mono ?_; rintro e w2 ⟨rfl, hf⟩; have H2 : Hid (Fr (fun i => i = p) w1 w2) := hf; clear hf))
  go_ret
  refine ⟨?_, H1.out.2.2.2.2.2.trans (H2.out.below _ (fun k hk => by rw [hk]; exact H1.out.2.2.2.1) H1.out.2.2.2.2.2.size)⟩
  rfl

/-- blocks -/
theorem mem_row (ds : List (List Int)) : (∀ b, b ∈ ds → b.length = 512) ↔ ∀ i, i < ds.length → (row ds i).length = 512 := by
  constructor
  · intro h i hi
    have e : row ds i = ds[i] := by simp [row, List.getD, hi]
    rw [e]; exact h _ (List.getElem_mem hi)
  · intro h b hb
    obtain ⟨i, hi, rfl⟩ := List.mem_iff_getElem.1 hb
    have e : row ds i = ds[i] := by simp [row, List.getD, hi]
    rw [← e]; exact h i hi
set_option maxRecDepth 100000 in
set_option maxHeartbeats 800000 in
theorem idb_some (w : World) (b off k c : Nat) (ds : List (List Int)) (hn : ds.length = k) (hk : k ≤ 1000000000000000) (hc : ∀ i, i < ds.length → ∃ a' c, w.cell? ⟨b, off + i, none⟩ = some (.slice a' (row ds i).length c)) :
    Calls Tryz.prog 128 #[.slice (some ⟨b, off, none⟩) k c, .func (.func 104) #[] #[]] w fun e w' => ∃ r : Int, decide (0 ≤ r) = (!(decide (∀ b, b ∈ ds → b.length = 512))) ∧ e = .returned (.int .i64 r) ∧ w = w' := by
  have HC : Hid (∀ i, i < ds.length → ∃ a' c, w.cell? ⟨b, off + i, none⟩ = some (.slice a' (row ds i).length c)) := hc
  have HN : Hid (ds.length = k) := hn
  clear hc hn
  go_enter Tryz.func128, Tryz.ntmps128
  go_wp2
  go_loop [8] (fun i => ∃ j : Nat, j ≤ k ∧ i = .int .i64 j ∧ (∀ i, i < j → (row ds i).length = 512)) (fun i => k - (intOf i).toNat)
  case atStart => exact ⟨0, Nat.zero_le _, rfl, fun j hj => absurd hj (by omega)⟩
  case round =>
    obtain ⟨j, hj, rfl, hz⟩ := hrel
    have HZ : Hid (∀ i, i < j → (row ds i).length = 512) := hz
    clear hz
    by_cases hlt : j < k
    · obtain ⟨a', c', d1⟩ := HC.out j (by rw [HN.out]; exact hlt)
      by_cases h0 : (row ds j).length = 512
      · have H0 : Hid ((row ds j).length = 512) := h0
        rw [h0] at d1
        clear h0
        go_wp2_with (go_at_call 104; refine (notBlock_any _ _ _ _).mono ?_; rintro e w' ⟨rfl, rfl⟩)
        go_round
        case rel => exact ⟨j + 1, by omega, by go_num, fun i hi => (Nat.lt_succ_iff_lt_or_eq.1 hi).elim (fun h => HZ.out i h) (fun h => by subst h; exact H0.out)⟩
        case measure => simp [intOf]; omega
      · have H0 : Hid (¬ (row ds j).length = 512) := h0
        clear h0
        go_wp2_with (go_at_call 104; refine (notBlock_any _ _ _ _).mono ?_; rintro e w' ⟨rfl, rfl⟩; rw [decide_eq_true H0.out])
        go_ret
        refine ⟨j, ?_, rfl, rfl⟩
        rw [decide_eq_false (fun h => H0.out ((mem_row ds).1 h j (by rw [HN.out]; exact hlt)))]
        exact decide_eq_true (by omega)
    · go_wp2
      go_ret
      refine ⟨-1, ?_, rfl, rfl⟩
      rw [decide_eq_true ((mem_row ds).2 (fun i hi => HZ.out i (by rw [HN.out] at hi; omega)))]
      rfl
set_option maxRecDepth 100000 in
theorem idb_none (w : World) (a : Option Addr) (c : Nat) (f : Value) :
    Calls Tryz.prog 128 #[.slice a 0 c, f] w fun e w' => e = .returned (.int .i64 (-1)) ∧ w = w' := by
  go_enter Tryz.func128, Tryz.ntmps128
  go_wp2
  go_loop [8] (fun i => i = .int .i64 0) (fun _ => 0)
  case atStart => exact rfl
  case round =>
    obtain rfl := hrel
    go_wp2
    go_ret
    exact ⟨rfl, rfl⟩
theorem idb_any (w : World) (a : Option Addr) (k c : Nat) (ds : List (List Int)) (hn : ds.length = k) (hD : Data w a ds) :
    Calls Tryz.prog 128 #[.slice a k c, .func (.func 104) #[] #[]] w fun e w' => ∃ r : Int, decide (0 ≤ r) = (!(decide (∀ b, b ∈ ds → b.length = 512))) ∧ e = .returned (.int .i64 r) ∧ w = w' := by
  rcases hD.at_ with h | ⟨b, off, rfl, hc⟩
  · subst h; simp at hn; subst hn
    refine (idb_none w a c _).mono ?_
    rintro e w' ⟨rfl, rfl⟩
    exact ⟨-1, by simp, rfl, rfl⟩
  · exact idb_some w b off k c ds hn (by have := hD.len; omega) (fun i hi => by obtain ⟨a', c, h1, _⟩ := hc i hi; exact ⟨a', c, h1⟩)
set_option maxRecDepth 100000 in
set_option maxHeartbeats 800000 in
theorem conb_any (w : World) (a : Option Addr) (k c : Nat) (ds : List (List Int)) (hn : ds.length = k) (hD : Data w a ds) :
    Calls Tryz.prog 116 #[.slice a k c, .func (.func 104) #[] #[]] w fun e w' => e = .returned (.bool (!(decide (∀ b, b ∈ ds → b.length = 512)))) ∧ w = w' := by
  have HC : Hid (Calls Tryz.prog 128 #[.slice a k c, .func (.func 104) #[] #[]] w fun e w' => ∃ r : Int, decide (0 ≤ r) = (!(decide (∀ b, b ∈ ds → b.length = 512))) ∧ e = .returned (.int .i64 r) ∧ w = w') := idb_any w a k c ds hn hD
  clear hn hD
  go_enter Tryz.func116, Tryz.ntmps116
  go_wp2_with (go_at_call 128; refine HC.out.mono ?_; rintro e w' ⟨r, hr, rfl, rfl⟩; have HR : Hid (decide (0 ≤ r) = (!(decide (∀ b, b ∈ ds → b.length = 512)))) := hr; clear hr)
  go_ret
  refine ⟨?_, rfl⟩
  rw [← HR.out]; rfl
set_option maxRecDepth 100000 in
set_option maxHeartbeats 800000 in
theorem areBlocks_any (w : World) (a : Option Addr) (k c m : Nat) (ds : List (List Int)) (hn : ds.length = k) (hD : Data w a ds) :
    Calls Tryz.prog 99 #[.slice a k c, .int .i64 m] w fun e w' => e = .returned (.bool (blk ds m)) ∧ w = w' := by
  have HC : Hid (Calls Tryz.prog 116 #[.slice a k c, .func (.func 104) #[] #[]] w fun e w' => e = .returned (.bool (!(decide (∀ b, b ∈ ds → b.length = 512)))) ∧ w = w') := conb_any w a k c ds hn hD
  have HN : Hid (ds.length = k) := hn
  clear hn hD
  by_cases h : k = m
  · subst h
    go_enter Tryz.func99, Tryz.ntmps99
    go_wp2_with (go_at_call 116; refine HC.out.mono ?_; rintro e w' ⟨rfl, rfl⟩)
    go_ret
    refine ⟨?_, rfl⟩
    unfold blk
    rw [decide_eq_true HN.out, Bool.true_and]
    rfl
  · have h' : ¬ (k : Int) = (m : Int) := by omega
    go_enter Tryz.func99, Tryz.ntmps99
    go_wp2
    go_ret
    refine ⟨?_, rfl⟩
    unfold blk
    rw [decide_eq_false (fun e => h (by rw [← HN.out, e])), Bool.false_and]; rfl
end Go.Proofs.YtamlbpbhlgmcoaaGreatDoor

namespace Go.Proofs.YtamlbpbhlgmcoaaGreatDoor
open Go.RowKit Rec

def zn (m : Nat) : List Int := List.replicate m 0
theorem zn_length (m : Nat) : (zn m).length = m := by simp [zn]
theorem nth_rep (m : Nat) (x : Int) (i : Nat) (h : i < m) : nth (List.replicate m x) i = x := by simp [nth, List.getD, h]
theorem wf_rep (m : Nat) (x : Int) (hx : 0 ≤ x ∧ x < 256) : ∀ i, 0 ≤ nth (List.replicate m x) i ∧ nth (List.replicate m x) i < 256 := fun i => by
  by_cases h : i < m
  · rw [nth_rep m x i h]; exact hx
  · rw [nth_out _ _ (by simp; omega)]; omega
theorem made_list (z : Value) (n : Nat) : (madeCells #[z] n).toList = List.replicate n z := toList_madeCells_one z n
/-- 'make([]byte, n)' -/
theorem wp_makeB {ops : Array Oper} {rest : List Oper} {o : Oper} {a : Act} {Q : Exit → Act → World → Prop} {w : World} (hg : o.guard = none) (l c : Operand) (hop : o.op = Op.makeSlice 37 l c)
    (kl kc : IntKind) (L C : Int) (n : Nat) (hl : a.eval l = .int kl L) (hc : a.eval c = .int kc C) (hL : L = (n : Int)) (hC : C = (n : Int)) (hn : n ≤ 281474976710656)
    (hK : ∀ w', OwnB w' w.heap.size n (zn n) → Below w.heap.size w w' → wpList Tryz.prog ops Q rest (a.put o.dst (.slice (some ⟨w.heap.size, 0, none⟩) n n)) w') :
    wpList Tryz.prog ops Q (o :: rest) a w := by
  obtain ⟨i0, hi, hz0, hz1, hz2⟩ := info_parts info5
  subst hL hC
  refine wpList_make_row w hg l c 37 hop 5 i0 _ Tryz.underlying37 hi hz0 hz1 rfl kl kc n hl hc (by rw [hz2]; omega) (by omega) ?_
  refine hK _ ⟨⟨_, heap_alloc_new _ _, ?_, ?_⟩, ?_, ?_, ?_, wf_rep n 0 (by omega)⟩ ((Below.refl _ _).alloc (Nat.le_refl _) _)
  · rw [← Array.length_toList, made_list, List.length_replicate]
  · rw [made_list, zn_length, zn, List.map_replicate, List.take_replicate, Nat.min_self]
  · rw [zn_length]; omega
  · rw [zn_length]; omega
  · unfold maxLen; omega
theorem info3 : (Tryz.prog.info? 3).map (fun i => (i.zero, i.size, i.bytes)) = some (some (.int .i64 0), 1, 8) := by kernel_rfl
/-- 'make([]int, n)' -/
theorem wp_makeI {ops : Array Oper} {rest : List Oper} {o : Oper} {a : Act} {Q : Exit → Act → World → Prop} {w : World} (hg : o.guard = none) (l c : Operand) (hop : o.op = Op.makeSlice 75 l c)
    (kl kc : IntKind) (L C : Int) (n : Nat) (hl : a.eval l = .int kl L) (hc : a.eval c = .int kc C) (hL : L = (n : Int)) (hC : C = (n : Int)) (hn : n ≤ 4294967296)
    (hK : ∀ w', w'.ownsRow 0 3 1 (.slice (some ⟨w.heap.size, 0, none⟩) n n) n ((zn n).map (Value.int .i64)) → Below w.heap.size w w' → wpList Tryz.prog ops Q rest (a.put o.dst (.slice (some ⟨w.heap.size, 0, none⟩) n n)) w') :
    wpList Tryz.prog ops Q (o :: rest) a w := by
  obtain ⟨i0, hi, hz0, hz1, hz2⟩ := info_parts info3
  subst hL hC
  refine wpList_make_row w hg l c 75 hop 3 i0 _ Tryz.underlying75 hi hz0 hz1 rfl kl kc n hl hc (by rw [hz2]; omega) (by omega) ?_
  refine hK _ ⟨by simp [zn], .inr ⟨_, _, _, rfl, Nat.zero_le _, heap_alloc_new _ _, Nat.le_refl _, by unfold maxLen; omega, ?_, ?_⟩⟩ ((Below.refl _ _).alloc (Nat.le_refl _) _)
  · rw [← Array.length_toList, made_list, List.length_replicate, Nat.mul_one]
  · rw [made_list, zn, List.map_replicate, List.take_replicate, Nat.mul_one, Nat.min_self]

theorem nth_app {a b : List Int} (i : Nat) : nth (a ++ b) i = if i < a.length then nth a i else nth b (i - a.length) := by
  unfold nth
  by_cases h : i < a.length
  · rw [if_pos h]; simp [List.getD, List.getElem?_append, h]
  · rw [if_neg h]; simp [List.getD, List.getElem?_append, h]
theorem ownB_of {w : World} {g n cap : Nat} {l : List Int} (h : w.ownsRow 0 5 1 (.slice (some ⟨g, 0, none⟩) n cap) n (l.map (Value.int .u8))) (hl : l.length = n) (hn : n ≤ 1000000000000000) (hw : ∀ i, 0 ≤ nth l i ∧ nth l i < 256) : OwnB w g cap l := by
  subst hl
  rcases h.2 with ⟨hv, _⟩ | ⟨g', cap', cur, hv, h1, hg, h2, h3, h4, h5⟩
  · cases hv
  · cases hv
    exact ⟨⟨cur, hg, by omega, by simpa using h5⟩, hn, h2, h3, hw⟩
/-- append of bytes to nil or one's own -/
theorem wp_bown {ops : Array Oper} {rest : List Oper} {o : Oper} {a : Act} {Q : Exit → Act → World → Prop} {w : World} (hgd : o.guard = none) (s x : Operand)
    (ho : o.op = .call { callee := .builtin .append, args := #[s, x], argTypes := #[37, 37] }) (v : Value) (k : Nat) (l : List Int) (hs : a.eval s = v) (hown : w.ownsRow 0 5 1 v k (l.map (Value.int .u8)))
    (ad : Addr) (m c : Nat) (y : List Int) (hx : a.eval x = .slice (some ad) m c) (hm : 0 < m) (hl : y.length = m) (hb : Bytes w (some ad) y) (h47 : k + m ≤ 140737488355328)
    (h : ∀ g cap w', w'.ownsRow 0 5 1 (.slice (some ⟨g, 0, none⟩) (k + m) cap) (k + m) ((l ++ y).map (Value.int .u8)) → Fr (fun k => v.ownBlock = some k) w w' → (v.ownBlock = some g ∨ w.heap.size ≤ g) → wpList Tryz.prog ops Q rest (a.put o.dst (.slice (some ⟨g, 0, none⟩) (k + m) cap)) w') :
    wpList Tryz.prog ops Q (o :: rest) a w := by
  obtain ⟨i0, hi, hz0, hz1, hz2⟩ := info_parts info5
  refine wp_own hgd s x 37 ho 5 i0 _ 1 1 Tryz.underlying37 hi hz0 hz1 hz2 rfl (by decide) v k _ hs hown ad m c (y.map (Value.int .u8)) hx hm (by rw [List.length_map, hl, Nat.mul_one]) hb.news (cells_u8 y) (by unfold maxLen; omega) (by omega) ?_
  intro g cap w' h1 h2 h3
  rw [← List.map_append] at h1
  exact h g cap w' h1 h2 h3
theorem str_opt {w : World} {a : Option Addr} {n c : Nat} {l : List Int} (hB : Bytes w a l) (hn : l.length = n) : (convert 37 9 (.slice a n c)).run Tryz.prog w = .ok (.string (strOfNums l)) w := by
  cases a with
  | none =>
    have hl := hB.nil
    subst hl
    simp at hn
    subst hn
    exact run_convert_bytes_nil (P := Tryz.prog) w 37 5 Tryz.underlying37 Tryz.underlying5 0 c 9 Tryz.underlying9
  | some p =>
    rcases hB.at_ with e | ⟨b, off, e, hc⟩
    · subst e
      simp at hn
      subst hn
      rw [run_convert_bytes_string w 37 9 5 _ 0 c Tryz.underlying37 Tryz.underlying5 Tryz.underlying9]
      have hl : (loadCells p 0).run Tryz.prog w = .ok ((([] : List Int).map (Value.int .u8)).toArray) w := by
        have := run_loadCells_list (P := Tryz.prog) w p [] (fun j v h => by simp at h)
        simpa using this
      rw [run_bytesToString w p 0 c [] hl]
      rfl
    · cases e
      exact run_convert_bytes_arg (P := Tryz.prog) w 37 5 Tryz.underlying37 Tryz.underlying5 b off n c l hn (fun i hi => hc i (by omega)) 9 Tryz.underlying9
theorem owns_set {w : World} {g n cap e : Nat} {xs : List Value} (h : w.ownsRow 0 e 1 (.slice (some ⟨g, 0, none⟩) n cap) n xs) (k : Nat) (v : Value) : (w.setCell ⟨g, k, none⟩ v).ownsRow 0 e 1 (.slice (some ⟨g, 0, none⟩) n cap) n (xs.set k v) := by
  refine ⟨by rw [List.length_set]; exact h.1, ?_⟩
  rcases h.2 with ⟨h1, _⟩ | ⟨g', cap', cur, h1, h2, h3, h4, h5, h6, h7⟩
  · cases h1
  · cases h1
    exact .inr ⟨_, _, _, rfl, h2, heap_setCell_same _ _ _ _ _ _ h3, h4, h5, by simpa using h6, by rw [Array.toList_setIfInBounds, List.take_set, h7]⟩

set_option maxRecDepth 100000 in
set_option maxHeartbeats 800000 in
theorem clone_any (w : World) (p : Addr) (n c : Nat) (l : List Int) (hb : Bytes w (some p) l) (hn : l.length = n) (h47 : n ≤ 140737488355328) :
    Calls Tryz.prog 121 #[.slice (some p) n c] w fun e w' => ∃ g cap, e = .returned (.slice (some ⟨g, 0, none⟩) n cap) ∧ w.heap.size ≤ g ∧ OwnB w' g cap l ∧ Below w.heap.size w w' := by
  have HB : Hid (Bytes w (some p) l) := hb
  have HN : Hid (l.length = n) := hn
  clear hb hn
  go_enter Tryz.func121, Tryz.ntmps121
  have E1 : ∀ w : World, (binOp .eql 37 (.slice (some p) n c) (.slice none 0 0)).run Tryz.prog w = .ok (.bool false) w := fun w => Go.Lib.run_eql_slice_some_nil w p n c Tryz.underlying37
  have HA : Hid (Below w.heap.size w (w.alloc (.cells #[] 5))) := (Below.refl _ _).alloc (Nat.le_refl _) _
  have HE : Hid (OwnB (w.alloc (.cells #[] 5)) w.heap.size 0 []) := own_empty (heap_alloc_new _ _)
  go_wp2_with (at_builtin; refine wp_app rfl (.tmp 5) (.tmp 6) rfl w.heap.size w.heap.size 0 0 [] l rfl rfl HE.out (Nat.le_refl _) HA.out.size (some p) n c rfl HN.out (HB.out.on HA.out) (fun h => by cases h) (by omega) ?_; intro g cap w2 hg ho hgr; have HG : Hid (w.heap.size ≤ g ∧ OwnB w2 g cap l ∧ Below w.heap.size w w2) := ⟨hg, ho, HA.out.grown hgr HA.out.size (by intro k hk; cases hk; exact Nat.le_refl _)⟩; clear hg ho hgr)
  go_ret
  exact ⟨_, _, rfl, HG.out.1, HG.out.2.1, HG.out.2.2⟩
theorem sb_str {l : List Int} (h : ∀ i, 0 ≤ nth l i ∧ nth l i < 256) : sb (strOfNums l) = l := by
  have e : sb (strOfNums l) = l.map fun n => ((UInt8.ofNat n.toNat).toNat : Int) := by
    unfold sb
    rw [strOfNums_data, List.map_map]; rfl
  rw [e]
  refine ext_nth (by simp) fun i hi => ?_
  have hi' : i < l.length := by simpa using hi
  have h1 : nth (l.map fun n => ((UInt8.ofNat n.toNat).toNat : Int)) i = ((UInt8.ofNat (nth l i).toNat).toNat : Int) := by
    simp [nth, List.getD, hi']
  rw [h1]
  have := h i
  rw [UInt8.toNat_ofNat']
  omega
end Go.Proofs.YtamlbpbhlgmcoaaGreatDoor

namespace Go.Proofs.YtamlbpbhlgmcoaaGreatDoor
open Go.RowKit Rec

theorem bytes_of_list {a b : ByteArray} (h : a.toList = b.toList) : a = b := by
  rw [ByteArray.toList_eq, ByteArray.toList_eq] at h
  obtain ⟨⟨x⟩⟩ := a
  obtain ⟨⟨y⟩⟩ := b
  cases h; rfl
/-- the text of the first eight bytes -/
def magS : ByteArray := { data := #[66, 79, 76, 69, 76, 79, 71, 49] }
theorem magS_nums : sb magS = mag := by decide
theorem str_mag : strOfNums mag = magS := by decide +kernel
theorem fld8 (h : List Int) : fld h 0 8 = h.take 8 := by unfold fld; rfl
/-- what is read there -/
theorem text8 (h : List Int) (hn : h.length = 512) (hw : ∀ i, 0 ≤ nth h i ∧ nth h i < 256) :
    ∃ (S : ByteArray) (E : Int), ((cl h 0 8 = true ∧ S = strOfNums (fld h 0 (fz h 0 8)) ∧ E = 0) ∨ (cl h 0 8 = false ∧ S = strOfNums [] ∧ E = 1)) ∧ (S = magS ↔ h.take 8 = mag) := by
  have back : ∀ x : List Int, (∀ i, 0 ≤ nth x i ∧ nth x i < 256) → strOfNums x = magS → x = mag := fun x hx e => by
    rw [← sb_str hx, e, magS_nums]
  by_cases hc : cl h 0 8 = true
  · refine ⟨_, _, .inl ⟨hc, rfl, rfl⟩, ?_⟩
    obtain ⟨z1, z2, z3⟩ := fz_spec h 0 8
    constructor
    · intro e
      have e2 := back _ (wf_fld hw _ _) e
      have hl := congrArg List.length e2
      rw [fld_length h 0 _ (by omega), mag_len] at hl
      rw [hl, fld8] at e2
      exact e2
    · intro e
      have hz : fz h 0 8 = 8 := by
        refine fz_eq _ _ _ _ (Nat.le_refl _) (fun i hi => ?_) (fun h => absurd h (by omega))
        rw [Nat.zero_add, ((take8 h hn).1 e) i hi]
        have : i = 0 ∨ i = 1 ∨ i = 2 ∨ i = 3 ∨ i = 4 ∨ i = 5 ∨ i = 6 ∨ i = 7 := by omega
        rcases this with rfl | rfl | rfl | rfl | rfl | rfl | rfl | rfl <;> decide
      rw [hz, fld8, e, str_mag]
  · have hc : cl h 0 8 = false := by simpa using hc
    refine ⟨_, _, .inr ⟨hc, rfl, rfl⟩, ?_⟩
    constructor
    · intro e
      have := back [] (fun i => by simp [nth]) e
      exact absurd this (by decide)
    · intro e
      have hz : fz h 0 8 = 8 := by
        refine fz_eq _ _ _ _ (Nat.le_refl _) (fun i hi => ?_) (fun h => absurd h (by omega))
        rw [Nat.zero_add, ((take8 h hn).1 e) i hi]
        have : i = 0 ∨ i = 1 ∨ i = 2 ∨ i = 3 ∨ i = 4 ∨ i = 5 ∨ i = 6 ∨ i = 7 := by omega
        rcases this with rfl | rfl | rfl | rfl | rfl | rfl | rfl | rfl <;> decide
      unfold cl at hc
      rw [hz, zr_true _ _ _ (fun i hi => absurd hi (by omega))] at hc
      cases hc
set_option maxRecDepth 100000 in
set_option maxHeartbeats 1600000 in
theorem countOf_any (w : World) (b off c : Nat) (h : List Int) (hn : h.length = 512) (hO : Bytes w (some ⟨b, off, none⟩) h) (hc : 512 ≤ c) (hT : TabAt w) :
    Calls Tryz.prog 106 #[.slice (some ⟨b, off, none⟩) 512 c] w fun e w' => e = .returned (.tuple #[.int .i64 (cnt h), .bool (form h)]) ∧ w = w' := by
  obtain ⟨S, E, hR, hS⟩ := text8 h hn hO.wf
  have H1 : Hid (Calls Tryz.prog 124 #[.slice (some ⟨b, off, none⟩) 512 c, .int .i64 (0 : Nat), .int .i64 (8 : Nat)] w fun e w' => e = .returned (.tuple #[.string S, .int .i64 E]) ∧ w = w') := text_in w b off 512 c 0 8 h S E hn hO hc (by omega) hR
  have H2 : Hid (Calls Tryz.prog 123 #[.slice (some ⟨b, off, none⟩) 512 c, .int .i64 (10 : Nat), .int .i64 (2 : Nat)] w fun e w' => e = .returned (.tuple #[.bool (zr h 10 2), .int .i64 0]) ∧ w = w') := zero_in w b off 512 c 10 2 h hn hO hc (by omega)
  have H3 : Hid (Calls Tryz.prog 108 #[.slice (some ⟨b, off, none⟩) 512 c, .int .i64 (8 : Nat), .int .i64 (2 : Nat)] w fun e w' => e = .returned (.tuple #[.int .u64 (num h 8 2), .int .i64 0]) ∧ w = w') := get_in w b off 512 c 8 2 h hn hO hc hT rfl (by omega)
  have hb := num_bd h 8 2 hO.wf
  have e2 : (256 : Int) ^ 2 = 65536 := rfl
  rw [e2] at hb
  have HF : Hid (form h = (decide (S = magS) && zr h 10 2 && (decide (1 ≤ num h 8 2) && decide (num h 8 2 ≤ 96)))) := by
    show form h = _
    unfold form cnt
    have a1 : decide (h.take 8 = mag) = decide (S = magS) := decide_eq_decide.2 hS.symm
    have a2 : (nth h 10 == 0 && nth h 11 == 0) = zr h 10 2 := by
      rw [Bool.eq_iff_iff]
      simp only [zr, Bool.and_eq_true, beq_iff_eq, decide_eq_true_eq]
      constructor
      · rintro ⟨x, y⟩ i hi
        have : i = 0 ∨ i = 1 := by omega
        rcases this with rfl | rfl
        · exact x
        · exact y
      · intro x; exact ⟨x 0 (by omega), x 1 (by omega)⟩
    have a3 : decide (1 ≤ (num h 8 2).toNat) = decide (1 ≤ num h 8 2) := decide_eq_decide.2 (by omega)
    have a4 : decide ((num h 8 2).toNat ≤ 96) = decide (num h 8 2 ≤ 96) := decide_eq_decide.2 (by omega)
    rw [a1, a2, a3, a4]
  have HV : Hid (((cnt h : Nat) : Int) = num h 8 2) := by show _ = _; unfold cnt; omega
  generalize num h 8 2 = v at *
  generalize zr h 10 2 = z at *
  clear hn hO hT hR hS e2
  by_cases hs : S = magS
  · subst hs
    have HF : Hid (form h = (z && (decide (1 ≤ v) && decide (v ≤ 96)))) := by show _ = _; rw [HF.out]; simp
    cases z with
    | true =>
      go_enter Tryz.func106, Tryz.ntmps106
      go_wp2_with (first
        | (go_at_call 124; refine H1.out.mono ?_; rintro e w' ⟨rfl, rfl⟩; unfold magS)
        | (go_at_call 123; refine H2.out.mono ?_; rintro e w' ⟨rfl, rfl⟩)
        | (go_at_call 108; refine H3.out.mono ?_; rintro e w' ⟨rfl, rfl⟩)
        | (go_at_call 97; refine (isCount_any _ _).mono ?_; rintro e w' ⟨rfl, rfl⟩))
      go_ret2
      exact ⟨by rw [HF.out, HV.out]; rfl, rfl⟩
    | false =>
      go_enter Tryz.func106, Tryz.ntmps106
      go_wp2_with (first
        | (go_at_call 124; refine H1.out.mono ?_; rintro e w' ⟨rfl, rfl⟩; unfold magS)
        | (go_at_call 123; refine H2.out.mono ?_; rintro e w' ⟨rfl, rfl⟩)
        | (go_at_call 108; refine H3.out.mono ?_; rintro e w' ⟨rfl, rfl⟩)
        | (go_at_call 97; refine (isCount_any _ _).mono ?_; rintro e w' ⟨rfl, rfl⟩))
      go_ret2
      exact ⟨by rw [HF.out, HV.out]; rfl, rfl⟩
  · have HF : Hid (form h = false) := by show _ = _; rw [HF.out]; simp [hs]
    have HS : Hid (¬ S = magS) := hs
    have hs' : ¬ S.toList = [66, 79, 76, 69, 76, 79, 71, 49] := fun e => hs (bytes_of_list (e.trans (by decide +kernel)))
    clear hs
    go_enter Tryz.func106, Tryz.ntmps106
    go_wp2_with (first
      | (go_at_call 124; refine H1.out.mono ?_; rintro e w' ⟨rfl, rfl⟩)
      | (go_at_call 123; refine H2.out.mono ?_; rintro e w' ⟨rfl, rfl⟩)
      | (go_at_call 108; refine H3.out.mono ?_; rintro e w' ⟨rfl, rfl⟩)
      | (go_at_call 97; refine (isCount_any _ _).mono ?_; rintro e w' ⟨rfl, rfl⟩))
    go_ret2
    exact ⟨by rw [HF.out, HV.out]; rfl, rfl⟩
end Go.Proofs.YtamlbpbhlgmcoaaGreatDoor

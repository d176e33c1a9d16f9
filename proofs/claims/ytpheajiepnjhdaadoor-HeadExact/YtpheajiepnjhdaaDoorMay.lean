import Derived.Test.YtpheajiepnjhdaaDoorAsk
namespace Go.Proofs.YtpheajiepnjhdaaDoor
open Go.RowKit Rec

theorem Ints.cell {w : World} {b off i : Nat} {l : List Int} (h : Ints w (some ⟨b, off, none⟩) l) (hi : i < l.length) : w.cell? ⟨b, off + i, none⟩ = some (.int .i64 (nth l i)) := by
  rcases h.at_ with e | ⟨b', off', e, hc⟩
  · subst e; exact absurd hi (by simp)
  · cases e; exact hc i hi
theorem may_false {ns : List Int} {n : Int} (k : Nat) (hk : k < ns.length) (h : ¬ (pre ns k < nth ns k ∧ nth ns k < n)) : may ns n = false := decide_eq_false (fun e => h (e k hk))
theorem may_true {ns : List Int} {n : Int} (h : ∀ i, i < ns.length → pre ns i < nth ns i ∧ nth ns i < n) : may ns n = true := decide_eq_true h

set_option maxRecDepth 100000 in
set_option maxHeartbeats 800000 in
theorem idx_some (w : World) (b off k c p q : Nat) (ns : List Int) (n : Int) (hn : ns.length = k) (hI : Ints w (some ⟨b, off, none⟩) ns) (hp : Box w p 97) (hq : Box w q n) (hpq : p ≠ q) (hbp : k = 0 ∨ b ≠ p) :
    Calls Tryd.prog 97 #[.slice (some ⟨b, off, none⟩) k c, .func (.func 98) #[] #[.pointer (some ⟨p, 0, none⟩), .pointer (some ⟨q, 0, none⟩)]] w fun e w' => ∃ r : Int, (decide (0 ≤ r)) = (!(may ns n)) ∧ e = .returned (.int .i64 r) ∧ Fr (fun i => i = p) w w' := by
  have hlen := hI.len
  rw [hn] at hlen
  have HC : Hid (∀ wr : World, Fr (fun i => i = p) w wr → ∀ i, i < k → wr.cell? ⟨b, off + i, none⟩ = some (.int .i64 (nth ns i))) := fun wr hf i hi => hf.cell (hI.cell (by omega)) (by intro e; change b = p at e; omega)
  have HQ : Hid (∀ wr : World, Fr (fun i => i = p) w wr → Box wr q n) := fun wr hf => hq.fr hf (fun e => hpq e.symm)
  have HP : Hid (Box w p 97) := hp
  have HN : Hid (ns.length = k) := hn
  clear hI hp hq hn hpq hbp
  go_enter Tryd.func97, Tryd.ntmps97
  go_wp2
  go_loopw [8] (fun i wr => ∃ j : Nat, j ≤ k ∧ i = .int .i64 j ∧ (∀ i, i < j → pre ns i < nth ns i ∧ nth ns i < n) ∧ Box wr p (pre ns j) ∧ Fr (fun i => i = p) w wr) (fun i _ => k - (intOf i).toNat)
  case atStart => exact ⟨0, Nat.zero_le _, rfl, fun j hj => absurd hj (by omega), HP.out, Fr.refl _ _⟩
  case round =>
    obtain ⟨j, hj, rfl, hz, hb, hf⟩ := hrel
    have HZ : Hid (∀ i, i < j → pre ns i < nth ns i ∧ nth ns i < n) := hz
    have HB : Hid (Box wr p (pre ns j)) := hb
    have HF : Hid (Fr (fun i => i = p) w wr) := hf
    clear hz hb hf
    by_cases hlt : j < k
    · have d1 := HC.out _ HF.out j hlt
      by_cases h0 : pre ns j < nth ns j ∧ nth ns j < n
      · have H0 : Hid (pre ns j < nth ns j ∧ nth ns j < n) := h0
        clear h0
        go_wp2_with (go_at_call 98; refine (wrong_any _ p q (pre ns j) n (nth ns j) HB.out (HQ.out _ HF.out)).mono ?_; rintro e w' ⟨rfl, rfl⟩; rw [decide_eq_true H0.out])
        go_round
        case rel =>
          refine ⟨j + 1, by omega, by go_num, fun i hi => (Nat.lt_succ_iff_lt_or_eq.1 hi).elim (fun h => HZ.out i h) (fun h => by subst h; exact H0.out), ?_, HF.out.trans Fr.set (fun i h => .inl h)⟩
          have := HB.out.set (nth ns j)
          exact this
        case measure => simp [intOf]; omega
      · have H0 : Hid (¬ (pre ns j < nth ns j ∧ nth ns j < n)) := h0
        clear h0
        go_wp2_with (go_at_call 98; refine (wrong_any _ p q (pre ns j) n (nth ns j) HB.out (HQ.out _ HF.out)).mono ?_; rintro e w' ⟨rfl, rfl⟩; rw [decide_eq_false H0.out])
        go_ret
        refine ⟨j, ?_, rfl, HF.out.trans Fr.set (fun i h => .inl h)⟩
        rw [may_false j (by rw [HN.out]; exact hlt) H0.out]
        exact decide_eq_true (by omega)
    · go_wp2
      go_ret
      refine ⟨-1, ?_, rfl, HF.out⟩
      rw [may_true (fun i hi => HZ.out i (by rw [HN.out] at hi; omega))]
      rfl
set_option maxRecDepth 100000 in
theorem idx_none (w : World) (a : Option Addr) (c : Nat) (f : Value) :
    Calls Tryd.prog 97 #[.slice a 0 c, f] w fun e w' => e = .returned (.int .i64 (-1)) ∧ w = w' := by
  go_enter Tryd.func97, Tryd.ntmps97
  go_wp2
  go_loop [8] (fun i => i = .int .i64 0) (fun _ => 0)
  case atStart => exact rfl
  case round =>
    obtain rfl := hrel
    go_wp2
    go_ret
    exact ⟨rfl, rfl⟩
theorem idx_any (w : World) (a : Option Addr) (k c p q : Nat) (ns : List Int) (n : Int) (hn : ns.length = k) (hI : Ints w a ns) (hp : Box w p 97) (hq : Box w q n) (hpq : p ≠ q) (hbp : ∀ x, a = some x → k = 0 ∨ x.block ≠ p) :
    Calls Tryd.prog 97 #[.slice a k c, .func (.func 98) #[] #[.pointer (some ⟨p, 0, none⟩), .pointer (some ⟨q, 0, none⟩)]] w fun e w' => ∃ r : Int, (decide (0 ≤ r)) = (!(may ns n)) ∧ e = .returned (.int .i64 r) ∧ Fr (fun i => i = p) w w' := by
  rcases hI.at_ with h | ⟨b, off, rfl, hc⟩
  · subst h; simp at hn; subst hn
    refine (idx_none w a c _).mono ?_
    rintro e w' ⟨rfl, rfl⟩
    exact ⟨-1, by rw [may_true (fun i hi => absurd hi (by simp))]; rfl, rfl, Fr.refl _ _⟩
  · exact idx_some w b off k c p q ns n hn hI hp hq hpq (hbp _ rfl)
set_option maxRecDepth 100000 in
set_option maxHeartbeats 800000 in
theorem cont_any (w : World) (a : Option Addr) (k c p q : Nat) (ns : List Int) (n : Int) (hn : ns.length = k) (hI : Ints w a ns) (hp : Box w p 97) (hq : Box w q n) (hpq : p ≠ q) (hbp : ∀ x, a = some x → k = 0 ∨ x.block ≠ p) :
    Calls Tryd.prog 76 #[.slice a k c, .func (.func 98) #[] #[.pointer (some ⟨p, 0, none⟩), .pointer (some ⟨q, 0, none⟩)]] w fun e w' => e = .returned (.bool (!(may ns n))) ∧ Fr (fun i => i = p) w w' := by
  have HC := idx_any w a k c p q ns n hn hI hp hq hpq hbp
  have HC : Hid (Calls Tryd.prog 97 #[.slice a k c, .func (.func 98) #[] #[.pointer (some ⟨p, 0, none⟩), .pointer (some ⟨q, 0, none⟩)]] w fun e w' => ∃ r : Int, (decide (0 ≤ r)) = (!(may ns n)) ∧ e = .returned (.int .i64 r) ∧ Fr (fun i => i = p) w w') := HC
  clear hn hI hp hq hpq hbp
  go_enter Tryd.func76, Tryd.ntmps76
  go_wp2_with (go_at_call 97; refine HC.out.mono ?_; rintro e w' ⟨r, hr, rfl, hf⟩; have HR : Hid (decide (0 ≤ r) = (!(may ns n)) ∧ Fr (fun i => i = p) w w') := ⟨hr, hf⟩; clear hr hf)
  go_ret
  refine ⟨?_, HR.out.2⟩
  rw [← HR.out.1]; rfl
set_option maxRecDepth 100000 in
set_option maxHeartbeats 800000 in
theorem wrongOn_any (w : World) (n : Int) :
    Calls Tryd.prog 77 #[.int .i64 n] w fun e w' => ∃ p q, e = .returned (.func (.func 98) #[] #[.pointer (some ⟨p, 0, none⟩), .pointer (some ⟨q, 0, none⟩)]) ∧ Box w' p 97 ∧ Box w' q n ∧ p ≠ q ∧ w.heap.size ≤ p ∧ w.heap.size ≤ q ∧ Below w.heap.size w w' := by
  have hmf : ∀ (fn : Fn) (first cap : Array Value) (w : World), (Instr.makeFunc fn first cap).run Tryd.prog w = .ok (.func fn first cap) w := fun _ _ _ _ => rfl
  go_enter Tryd.func77, Tryd.ntmps77
  go_wp2
  go_ret
  have s1 : (w.alloc (.cells #[.int .i64 n] 3)).heap.size = w.heap.size + 1 := by show (w.heap.push _).size = _; exact Array.size_push ..
  have b1 : Below (w.heap.size + 1) (w.alloc (.cells #[.int .i64 n] 3)) ((w.alloc (.cells #[.int .i64 n] 3)).alloc (.cells #[.int .i64 97] 3)) := (Below.refl _ _).alloc (by omega) _
  refine ⟨w.heap.size + 1, w.heap.size, rfl, ?_, ?_, by omega, by omega, Nat.le_refl _, ((Below.refl _ _).alloc (Nat.le_refl _) _).alloc (by omega) _⟩
  · rw [← s1]; exact heap_alloc_new _ _
  · unfold Box
    rw [b1.block _ (by omega)]; exact heap_alloc_new _ _
theorem Ints.far {w : World} {a : Option Addr} {ns : List Int} {k p : Nat} (h : Ints w a ns) (hn : ns.length = k) (hp : w.heap.size ≤ p) : ∀ x, a = some x → k = 0 ∨ x.block ≠ p := by
  intro x hx
  rcases h.at_ with e | ⟨b, off, e, hc⟩
  · subst e; simp at hn; omega
  · subst e
    cases hx
    by_cases h0 : k = 0
    · exact .inl h0
    · have := block_lt_of_cell (hc 0 (by omega))
      have t : b < w.heap.size := this
      exact .inr (fun e => by change b = p at e; omega)
set_option maxRecDepth 100000 in
set_option maxHeartbeats 800000 in
/-- the numbers are asked -/
theorem mayBe_any (w : World) (a : Option Addr) (k c : Nat) (ns : List Int) (n : Int) (hn : ns.length = k) (hI : Ints w a ns) :
    Calls Tryd.prog 39 #[.slice a k c, .int .i64 n] w fun e w' => e = .returned (.bool (may ns n)) ∧ Below w.heap.size w w' := by
  have HI : Hid (Ints w a ns) := hI
  have HN : Hid (ns.length = k) := hn
  clear hI hn
  go_enter Tryd.func39, Tryd.ntmps39
  go_wp2_with (first
    | (go_at_call 77; refine (wrongOn_any _ _).mono ?_; rintro e w1 ⟨p, q, rfl, hp, hq, hpq, hp1, hq1, hb⟩; have H1 : Hid (Box w1 p 97 ∧ Box w1 q n ∧ p ≠ q ∧ w.heap.size ≤ p ∧ w.heap.size ≤ q ∧ Below w.heap.size w w1) := ⟨hp, hq, hpq, hp1, hq1, hb⟩; clear hp hq hpq hp1 hq1 hb)
    | (go_at_call 76; refine (cont_any w1 a k c p q ns n HN.out (HI.out.on H1.out.2.2.2.2.2) H1.out.1 H1.out.2.1 H1.out.2.2.1 (HI.out.far HN.out H1.out.2.2.2.1)).mono ?_; rintro e w2 ⟨rfl, hf⟩; have H2 : Hid (Fr (fun i => i = p) w1 w2) := hf; clear hf))
  go_ret
  refine ⟨?_, H1.out.2.2.2.2.2.trans (H2.out.below _ (fun k hk => by rw [hk]; exact H1.out.2.2.2.1) H1.out.2.2.2.2.2.size)⟩
  rfl

/-- blocks -/
theorem mem_row (ds : List (List Int)) : (∀ b, b ∈ ds → b.length = 512) ↔ ∀ i, i < ds.length → (row ds i).length = 512 := by
  constructor
  · intro h i hi
    have e : row ds i = ds[i] := by simp [row, List.getD, hi]
    rw [e]; exact h _ (List.getElem_mem hi)
  · intro h b hb
    obtain ⟨i, hi, rfl⟩ := List.mem_iff_getElem.1 hb
    have e : row ds i = ds[i] := by simp [row, List.getD, hi]
    rw [← e]; exact h i hi
set_option maxRecDepth 100000 in
set_option maxHeartbeats 800000 in
theorem idb_some (w : World) (b off k c : Nat) (ds : List (List Int)) (hn : ds.length = k) (hk : k ≤ 1000000000000000) (hc : ∀ i, i < ds.length → ∃ a' c, w.cell? ⟨b, off + i, none⟩ = some (.slice a' (row ds i).length c)) :
    Calls Tryd.prog 99 #[.slice (some ⟨b, off, none⟩) k c, .func (.func 45) #[] #[]] w fun e w' => ∃ r : Int, decide (0 ≤ r) = (!(decide (∀ b, b ∈ ds → b.length = 512))) ∧ e = .returned (.int .i64 r) ∧ w = w' := by
  have HC : Hid (∀ i, i < ds.length → ∃ a' c, w.cell? ⟨b, off + i, none⟩ = some (.slice a' (row ds i).length c)) := hc
  have HN : Hid (ds.length = k) := hn
  clear hc hn
  go_enter Tryd.func99, Tryd.ntmps99
  go_wp2
  go_loop [8] (fun i => ∃ j : Nat, j ≤ k ∧ i = .int .i64 j ∧ (∀ i, i < j → (row ds i).length = 512)) (fun i => k - (intOf i).toNat)
  case atStart => exact ⟨0, Nat.zero_le _, rfl, fun j hj => absurd hj (by omega)⟩
  case round =>
    obtain ⟨j, hj, rfl, hz⟩ := hrel
    have HZ : Hid (∀ i, i < j → (row ds i).length = 512) := hz
    clear hz
    by_cases hlt : j < k
    · obtain ⟨a', c', d1⟩ := HC.out j (by rw [HN.out]; exact hlt)
      by_cases h0 : (row ds j).length = 512
      · have H0 : Hid ((row ds j).length = 512) := h0
        rw [h0] at d1
        clear h0
        go_wp2_with (go_at_call 45; refine (notBlock_any _ _ _ _).mono ?_; rintro e w' ⟨rfl, rfl⟩)
        go_round
        case rel => exact ⟨j + 1, by omega, by go_num, fun i hi => (Nat.lt_succ_iff_lt_or_eq.1 hi).elim (fun h => HZ.out i h) (fun h => by subst h; exact H0.out)⟩
        case measure => simp [intOf]; omega
      · have H0 : Hid (¬ (row ds j).length = 512) := h0
        clear h0
        go_wp2_with (go_at_call 45; refine (notBlock_any _ _ _ _).mono ?_; rintro e w' ⟨rfl, rfl⟩; rw [decide_eq_true H0.out])
        go_ret
        refine ⟨j, ?_, rfl, rfl⟩
        rw [decide_eq_false (fun h => H0.out ((mem_row ds).1 h j (by rw [HN.out]; exact hlt)))]
        exact decide_eq_true (by omega)
    · go_wp2
      go_ret
      refine ⟨-1, ?_, rfl, rfl⟩
      rw [decide_eq_true ((mem_row ds).2 (fun i hi => HZ.out i (by rw [HN.out] at hi; omega)))]
      rfl
set_option maxRecDepth 100000 in
theorem idb_none (w : World) (a : Option Addr) (c : Nat) (f : Value) :
    Calls Tryd.prog 99 #[.slice a 0 c, f] w fun e w' => e = .returned (.int .i64 (-1)) ∧ w = w' := by
  go_enter Tryd.func99, Tryd.ntmps99
  go_wp2
  go_loop [8] (fun i => i = .int .i64 0) (fun _ => 0)
  case atStart => exact rfl
  case round =>
    obtain rfl := hrel
    go_wp2
    go_ret
    exact ⟨rfl, rfl⟩
theorem idb_any (w : World) (a : Option Addr) (k c : Nat) (ds : List (List Int)) (hn : ds.length = k) (hD : Data w a ds) :
    Calls Tryd.prog 99 #[.slice a k c, .func (.func 45) #[] #[]] w fun e w' => ∃ r : Int, decide (0 ≤ r) = (!(decide (∀ b, b ∈ ds → b.length = 512))) ∧ e = .returned (.int .i64 r) ∧ w = w' := by
  rcases hD.at_ with h | ⟨b, off, rfl, hc⟩
  · subst h; simp at hn; subst hn
    refine (idb_none w a c _).mono ?_
    rintro e w' ⟨rfl, rfl⟩
    exact ⟨-1, by simp, rfl, rfl⟩
  · exact idb_some w b off k c ds hn (by have := hD.len; omega) (fun i hi => by obtain ⟨a', c, h1, _⟩ := hc i hi; exact ⟨a', c, h1⟩)
set_option maxRecDepth 100000 in
set_option maxHeartbeats 800000 in
theorem conb_any (w : World) (a : Option Addr) (k c : Nat) (ds : List (List Int)) (hn : ds.length = k) (hD : Data w a ds) :
    Calls Tryd.prog 78 #[.slice a k c, .func (.func 45) #[] #[]] w fun e w' => e = .returned (.bool (!(decide (∀ b, b ∈ ds → b.length = 512)))) ∧ w = w' := by
  have HC : Hid (Calls Tryd.prog 99 #[.slice a k c, .func (.func 45) #[] #[]] w fun e w' => ∃ r : Int, decide (0 ≤ r) = (!(decide (∀ b, b ∈ ds → b.length = 512))) ∧ e = .returned (.int .i64 r) ∧ w = w') := idb_any w a k c ds hn hD
  clear hn hD
  go_enter Tryd.func78, Tryd.ntmps78
  go_wp2_with (go_at_call 99; refine HC.out.mono ?_; rintro e w' ⟨r, hr, rfl, rfl⟩; have HR : Hid (decide (0 ≤ r) = (!(decide (∀ b, b ∈ ds → b.length = 512)))) := hr; clear hr)
  go_ret
  refine ⟨?_, rfl⟩
  rw [← HR.out]; rfl
set_option maxRecDepth 100000 in
set_option maxHeartbeats 800000 in
theorem areBlocks_any (w : World) (a : Option Addr) (k c m : Nat) (ds : List (List Int)) (hn : ds.length = k) (hD : Data w a ds) :
    Calls Tryd.prog 40 #[.slice a k c, .int .i64 m] w fun e w' => e = .returned (.bool (blk ds m)) ∧ w = w' := by
  have HC : Hid (Calls Tryd.prog 78 #[.slice a k c, .func (.func 45) #[] #[]] w fun e w' => e = .returned (.bool (!(decide (∀ b, b ∈ ds → b.length = 512)))) ∧ w = w') := conb_any w a k c ds hn hD
  have HN : Hid (ds.length = k) := hn
  clear hn hD
  by_cases h : k = m
  · subst h
    go_enter Tryd.func40, Tryd.ntmps40
    go_wp2_with (go_at_call 78; refine HC.out.mono ?_; rintro e w' ⟨rfl, rfl⟩)
    go_ret
    refine ⟨?_, rfl⟩
    unfold blk
    rw [decide_eq_true HN.out, Bool.true_and]
    rfl
  · have h' : ¬ (k : Int) = (m : Int) := by omega
    go_enter Tryd.func40, Tryd.ntmps40
    go_wp2
    go_ret
    refine ⟨?_, rfl⟩
    unfold blk
    rw [decide_eq_false (fun e => h (by rw [← HN.out, e])), Bool.false_and]; rfl
end Go.Proofs.YtpheajiepnjhdaaDoor

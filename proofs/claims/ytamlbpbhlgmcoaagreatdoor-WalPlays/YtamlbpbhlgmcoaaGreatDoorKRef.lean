import Derived.Test.YtamlbpbhlgmcoaaGreatDoorKWpA
import Derived.Test.YtamlbpbhlgmcoaaGreatDoorKNums
namespace Go.Proofs.YtamlbpbhlgmcoaaGreatDoor
open Go.RowKit Rec
open Crc (W)

/-- the reference's: are these numbers that may be? -/
def rmay (ns : List Int) (n : Int) : Bool := decide (1 ≤ ns.length) && decide (ns.length ≤ 96) && may ns n
set_option maxRecDepth 100000 in
set_option maxHeartbeats 800000 in
theorem rmay_out (w : World) (a : Option Addr) (k c : Nat) (n : Int) (h : k < 1 ∨ 96 < k) : Calls Tryz.prog 109 #[.slice a k c, .int .i64 n] w fun e w' => e = .returned (.bool false) ∧ w = w' := by
  by_cases h1 : k < 1
  · obtain rfl : k = 0 := by omega
    clear h h1
    go_enter Tryz.func109, Tryz.ntmps109
    go_wp2
    go_ret
    exact ⟨rfl, rfl⟩
  · have h2 : 96 < (k : Int) := by omega
    have h3 : ¬ (k : Int) < 1 := by omega
    clear h h1
    go_enter Tryz.func109, Tryz.ntmps109
    go_wp2
    go_ret
    exact ⟨rfl, rfl⟩
set_option maxRecDepth 100000 in
set_option maxHeartbeats 800000 in
theorem rmay_in (w : World) (b off k c : Nat) (ns : List Int) (n : Int) (hn : ns.length = k) (hI : Ints w (some ⟨b, off, none⟩) ns) (h1 : 1 ≤ k) (h96 : k ≤ 96) :
    Calls Tryz.prog 109 #[.slice (some ⟨b, off, none⟩) k c, .int .i64 n] w fun e w' => e = .returned (.bool (may ns n)) ∧ w = w' := by
  have HC : Hid (∀ i, i < k → w.cell? ⟨b, off + i, none⟩ = some (.int .i64 (nth ns i))) := fun i hi => hI.cell (by omega)
  have HN : Hid (ns.length = k) := hn
  clear hI hn
  go_enter Tryz.func109, Tryz.ntmps109
  go_wp2
  go_loop [5, 6] (fun s5 s6 => ∃ j : Nat, j ≤ k ∧ s6 = .int .i64 j ∧ s5 = .int .i64 (pre ns j) ∧ (∀ i, i < j → pre ns i < nth ns i ∧ nth ns i < n)) (fun _ s6 => k - (intOf s6).toNat)
  case atStart => exact ⟨0, Nat.zero_le _, rfl, rfl, fun j hj => absurd hj (by omega)⟩
  case round =>
    obtain ⟨j, hj, rfl, rfl, hz⟩ := hrel
    have HZ : Hid (∀ i, i < j → pre ns i < nth ns i ∧ nth ns i < n) := hz
    clear hz
    by_cases hlt : j < k
    · have d1 := HC.out j hlt
      have HP : Hid (pre ns (j + 1) = nth ns j) := rfl
      by_cases h0 : pre ns j < nth ns j
      · by_cases h2 : nth ns j < n
        · have H0 : Hid (pre ns j < nth ns j ∧ nth ns j < n) := ⟨h0, h2⟩
          go_wp2
          go_round
          case rel => exact ⟨j + 1, by omega, by go_num, by rw [HP.out], fun i hi => (Nat.lt_succ_iff_lt_or_eq.1 hi).elim (fun h => HZ.out i h) (fun h => by subst h; exact H0.out)⟩
          case measure => simp [intOf]; omega
        · have H0 : Hid (¬ (pre ns j < nth ns j ∧ nth ns j < n)) := fun e => h2 e.2
          go_wp2
          go_ret
          exact ⟨by rw [may_false j (by rw [HN.out]; exact hlt) H0.out]; rfl, rfl⟩
      · have H0 : Hid (¬ (pre ns j < nth ns j ∧ nth ns j < n)) := fun e => h0 e.1
        go_wp2
        go_ret
        exact ⟨by rw [may_false j (by rw [HN.out]; exact hlt) H0.out]; rfl, rfl⟩
    · go_wp2
      go_ret
      exact ⟨by rw [may_true (fun i hi => HZ.out i (by rw [HN.out] at hi; omega))]; rfl, rfl⟩
theorem rmay_any (w : World) (a : Option Addr) (k c : Nat) (ns : List Int) (n : Int) (hn : ns.length = k) (hI : Ints w a ns) :
    Calls Tryz.prog 109 #[.slice a k c, .int .i64 n] w fun e w' => e = .returned (.bool (rmay ns n)) ∧ w = w' := by
  by_cases h : 1 ≤ k ∧ k ≤ 96
  · obtain ⟨b, off, rfl⟩ := hI.some (by omega)
    have e : rmay ns n = may ns n := by unfold rmay; rw [hn, decide_eq_true h.1, decide_eq_true h.2]; rfl
    rw [e]
    exact rmay_in w b off k c ns n hn hI h.1 h.2
  · have e : rmay ns n = false := by
      unfold rmay
      rw [hn]
      by_cases h1 : 1 ≤ k
      · rw [decide_eq_false (fun h2 => h ⟨h1, h2⟩), Bool.and_false, Bool.false_and]
      · rw [decide_eq_false h1, Bool.false_and, Bool.false_and]
    rw [e]
    exact rmay_out w a k c n (by omega)
set_option maxRecDepth 100000 in
set_option maxHeartbeats 800000 in
theorem rblocks_some (w : World) (b off k c : Nat) (ds : List (List Int)) (hn : ds.length = k) (hk : k ≤ 1000000000000000) (hc : ∀ i, i < ds.length → ∃ a' c, w.cell? ⟨b, off + i, none⟩ = some (.slice a' (row ds i).length c)) :
    Calls Tryz.prog 110 #[.slice (some ⟨b, off, none⟩) k c, .int .i64 k] w fun e w' => e = .returned (.bool (decide (∀ b, b ∈ ds → b.length = 512))) ∧ w = w' := by
  have HC : Hid (∀ i, i < ds.length → ∃ a' c, w.cell? ⟨b, off + i, none⟩ = some (.slice a' (row ds i).length c)) := hc
  have HN : Hid (ds.length = k) := hn
  clear hc hn
  go_enter Tryz.func110, Tryz.ntmps110
  go_wp2
  go_loop [5] (fun i => ∃ j : Nat, j ≤ k ∧ i = .int .i64 j ∧ (∀ i, i < j → (row ds i).length = 512)) (fun i => k - (intOf i).toNat)
  case atStart => exact ⟨0, Nat.zero_le _, rfl, fun j hj => absurd hj (by omega)⟩
  case round =>
    obtain ⟨j, hj, rfl, hz⟩ := hrel
    have HZ : Hid (∀ i, i < j → (row ds i).length = 512) := hz
    clear hz
    by_cases hlt : j < k
    · obtain ⟨a', c', d1⟩ := HC.out j (by rw [HN.out]; exact hlt)
      by_cases h0 : (row ds j).length = 512
      · have H0 : Hid ((row ds j).length = 512) := h0
        rw [h0] at d1
        clear h0
        go_wp2
        go_round
        case rel => exact ⟨j + 1, by omega, by go_num, fun i hi => (Nat.lt_succ_iff_lt_or_eq.1 hi).elim (fun h => HZ.out i h) (fun h => by subst h; exact H0.out)⟩
        case measure => simp [intOf]; omega
      · have H0 : Hid (¬ (row ds j).length = 512) := h0
        obtain ⟨m, hm⟩ : ∃ m, (row ds j).length = m := ⟨_, rfl⟩
        rw [hm] at d1 h0
        have h0' : ¬ (m : Int) = 512 := by omega
        clear h0 hm
        go_wp2
        go_ret
        exact ⟨by rw [decide_eq_false (fun h => H0.out ((mem_row ds).1 h j (by rw [HN.out]; exact hlt)))]; rfl, rfl⟩
    · go_wp2
      go_ret
      exact ⟨by rw [decide_eq_true ((mem_row ds).2 (fun i hi => HZ.out i (by rw [HN.out] at hi; omega)))]; rfl, rfl⟩
set_option maxRecDepth 100000 in
theorem rblocks_none (w : World) (a : Option Addr) (c : Nat) : Calls Tryz.prog 110 #[.slice a 0 c, .int .i64 0] w fun e w' => e = .returned (.bool true) ∧ w = w' := by
  go_enter Tryz.func110, Tryz.ntmps110
  go_wp2
  go_loop [5] (fun i => i = .int .i64 0) (fun _ => 0)
  case atStart => exact rfl
  case round =>
    obtain rfl := hrel
    go_wp2
    go_ret
    exact ⟨rfl, rfl⟩
set_option maxRecDepth 100000 in
theorem rblocks_len (w : World) (a : Option Addr) (k c m : Nat) (h : k ≠ m) : Calls Tryz.prog 110 #[.slice a k c, .int .i64 m] w fun e w' => e = .returned (.bool false) ∧ w = w' := by
  have h' : ¬ (k : Int) = (m : Int) := by omega
  go_enter Tryz.func110, Tryz.ntmps110
  go_wp2
  go_ret
  exact ⟨rfl, rfl⟩
theorem rblocks_any (w : World) (a : Option Addr) (k c m : Nat) (ds : List (List Int)) (hn : ds.length = k) (hD : Data w a ds) :
    Calls Tryz.prog 110 #[.slice a k c, .int .i64 m] w fun e w' => e = .returned (.bool (blk ds m)) ∧ w = w' := by
  by_cases h : k = m
  · subst h
    unfold blk
    rw [decide_eq_true hn, Bool.true_and]
    rcases hD.at_ with e | ⟨b, off, rfl, hc⟩
    · subst e; simp at hn; subst hn
      rw [decide_eq_true (by simp)]
      exact rblocks_none w a c
    · exact rblocks_some w b off k c ds hn (by have := hD.len; omega) (fun i hi => by obtain ⟨a', c, h1, _⟩ := hc i hi; exact ⟨a', c, h1⟩)
  · have e : blk ds m = false := by unfold blk; rw [decide_eq_false (fun e => h (by rw [← hn, e])), Bool.false_and]
    rw [e]
    exact rblocks_len w a k c m h
end Go.Proofs.YtamlbpbhlgmcoaaGreatDoor

namespace Go.Proofs.YtamlbpbhlgmcoaaGreatDoor
open Go.RowKit Rec
open Crc (W)

theorem take4 (l : List Int) (m : Nat) (h : m + 4 ≤ l.length) : l.take (m + 4) = l.take m ++ [nth l m, nth l (m + 1), nth l (m + 2), nth l (m + 3)] := by
  rw [show m + 4 = m + 3 + 1 from rfl, take_snoc l (m + 3) (by omega), take_snoc l (m + 2) (by omega), take_snoc l (m + 1) (by omega), take_snoc l m (by omega)]
  simp
theorem hd_take8 (ns : List Int) (s : Int) : (hd ns s).take 8 = mag := by
  rw [take8 _ (hd_length _ _)]
  intro i hi
  rw [nth_hd _ _ _ (by omega)]; unfold hb; rw [if_pos hi]
theorem hd_take12 (ns : List Int) (s : Int) : (hd ns s).take 12 = (hd ns s).take 8 ++ [dig ns.length 0, dig ns.length 1, 0, 0] := by
  rw [take4 (hd ns s) 8 (by rw [hd_length]; omega), nth_hd _ _ _ (by omega), nth_hd _ _ _ (by omega), nth_hd _ _ _ (by omega), nth_hd _ _ _ (by omega)]; rfl
theorem hd_take16 (ns : List Int) (s : Int) : (hd ns s).take 16 = (hd ns s).take 12 ++ [dig s 0, dig s 1, dig s 2, dig s 3] := by
  rw [take4 (hd ns s) 12 (by rw [hd_length]; omega), nth_hd _ _ _ (by omega), nth_hd _ _ _ (by omega), nth_hd _ _ _ (by omega), nth_hd _ _ _ (by omega)]; rfl
theorem hb_num (ns : List Int) (s : Int) (j k : Nat) (hj : j < ns.length) (hk : k < 4) : hb ns s (16 + 4 * j + k) = dig (nth ns j) k := by
  unfold hb
  rw [if_neg (by omega), if_neg (by omega), if_neg (by omega), if_neg (by omega), if_pos (by omega)]
  have e1 : (16 + 4 * j + k - 16) / 4 = j := by omega
  have e2 : (16 + 4 * j + k - 16) % 4 = k := by omega
  rw [e1, e2]
theorem hd_takeN (ns : List Int) (s : Int) (j : Nat) (hj : j < ns.length) (h96 : ns.length ≤ 96) : (hd ns s).take (16 + 4 * (j + 1)) = (hd ns s).take (16 + 4 * j) ++ [dig (nth ns j) 0, dig (nth ns j) 1, dig (nth ns j) 2, dig (nth ns j) 3] := by
  rw [show 16 + 4 * (j + 1) = 16 + 4 * j + 4 by omega, take4 (hd ns s) (16 + 4 * j) (by rw [hd_length]; omega), nth_hd _ _ _ (by omega), nth_hd _ _ _ (by omega), nth_hd _ _ _ (by omega), nth_hd _ _ _ (by omega)]
  rw [← hb_num ns s j 0 hj (by omega), ← hb_num ns s j 1 hj (by omega), ← hb_num ns s j 2 hj (by omega), ← hb_num ns s j 3 hj (by omega)]; rfl
theorem hd_takeZ (ns : List Int) (s : Int) (m : Nat) (hm : 16 + 4 * ns.length ≤ m) (h5 : m < 512) : (hd ns s).take (m + 1) = (hd ns s).take m ++ [0] := by
  rw [take_snoc _ m (by rw [hd_length]; exact h5), nth_hd _ _ _ h5]
  unfold hb
  rw [if_neg (by omega), if_neg (by omega), if_neg (by omega), if_neg (by omega), if_neg (by omega)]
theorem hd_tl (ns : List Int) (s : Int) (m : Nat) (h : m ≤ 512) : ((hd ns s).take m).length = m := by rw [List.length_take, hd_length]; omega
theorem dig0 (v : Int) : dig v 0 = v % 256 := by unfold dig; rw [Int.pow_zero, Int.ediv_one]
theorem dig1 (v : Int) : dig v 1 = v / 256 % 256 := by unfold dig; rfl
theorem dig2 (v : Int) : dig v 2 = v / 65536 % 256 := by unfold dig; rfl
theorem dig3 (v : Int) : dig v 3 = v / 16777216 % 256 := by unfold dig; rfl
/-- a row of bytes laid anew -/
theorem bytesL (w : World) (l : List Int) (hl : l.length ≤ 100) (hw : ∀ i, 0 ≤ nth l i ∧ nth l i < 256) : OwnB (w.alloc (.cells (l.map (Value.int .u8)).toArray 5)) w.heap.size l.length l :=
  ⟨⟨_, heap_alloc_new _ _, by simp, List.take_of_length_le (by simp)⟩, by omega, Nat.le_refl _, by unfold maxLen; omega, hw⟩
/-- '[]byte{..}' of a text: its row is marked, its cells are as they were -/
theorem conv_text (w : World) (C : Array Value) (n : Nat) (hn : C.size = n) :
    (convert 37 37 (.slice (some ⟨w.heap.size, 0, none⟩) n n)).run Tryz.prog (w.alloc (.cells C 5)) = .ok (.slice (some ⟨w.heap.size, 0, none⟩) n n) (w.alloc (.cells C 5 (n, n + 1))) := by
  subst hn
  have hsh : (w.alloc (.cells C 5)).shape? w.heap.size = some (5, C.size) := by
    unfold World.shape?
    rw [heap_alloc_new]
  have hfr : (w.alloc (.cells C 5)).freeze ⟨w.heap.size, C.size, none⟩ 1 = w.alloc (.cells C 5 (C.size, C.size + 1)) := by
    have hm : ∀ (a : Array Obj) (x : Obj) (f : Obj → Obj), (a.push x).modify a.size f = a.push (f x) := by
      intro a x f
      apply Array.ext
      · simp
      · intro i h1 h2
        simp only [Array.getElem_modify, Array.getElem_push]
        by_cases h : a.size = i
        · subst h
          simp
        · have hi : i < a.size := by simp at h1; omega
          simp [h, hi]
    unfold World.freeze
    rw [if_neg (by decide)]
    show ({ w.alloc (.cells C 5) with heap := (w.heap.push (.cells C 5)).modify w.heap.size _ } : World) = _
    rw [hm]
    rfl
  simp [convert, run_underlying Tryz.underlying37, run_underlying Tryz.underlying5, markStringish, hsh, hfr]
theorem wf4 {a b c d : Int} (ha : 0 ≤ a ∧ a < 256) (hb : 0 ≤ b ∧ b < 256) (hc : 0 ≤ c ∧ c < 256) (hd : 0 ≤ d ∧ d < 256) : ∀ i, 0 ≤ nth [a, b, c, d] i ∧ nth [a, b, c, d] i < 256 := fun i => by
  by_cases h : i < 4
  · have : i = 0 ∨ i = 1 ∨ i = 2 ∨ i = 3 := by omega
    rcases this with rfl | rfl | rfl | rfl
    · exact ha
    · exact hb
    · exact hc
    · exact hd
  · rw [nth_out _ _ (by simp; omega)]; omega
/-- append of four new bytes -/
theorem wp_new4 {ops : Array Oper} {rest : List Oper} {o : Oper} {act : Act} {Q : Exit → Act → World → Prop} {w1 : World} (hgd : o.guard = none) (s x : Operand)
    (ho : o.op = .call { callee := .builtin .append, args := #[s, x], argTypes := #[37, 37] }) (B g n cap : Nat) (l : List Int) (a b c d : Int) (hw : ∀ i, 0 ≤ nth [a, b, c, d] i ∧ nth [a, b, c, d] i < 256) (hs : act.eval s = .slice (some ⟨g, 0, none⟩) n cap) (hx : act.eval x = .slice (some ⟨w1.heap.size, 0, none⟩) 4 4)
    (hown : OwnB w1 g cap l) (hn : l.length = n) (hBg : B ≤ g) (hB : B ≤ w1.heap.size) (hn5 : n ≤ 1000)
    (h : ∀ g' cap' w', B ≤ g' → OwnB w' g' cap' (l ++ [a, b, c, d]) → Below B w1 w' → wpList Tryz.prog ops Q rest (act.put o.dst (.slice (some ⟨g', 0, none⟩) (n + 4) cap')) w') :
    wpList Tryz.prog ops Q (o :: rest) act (w1.alloc (.cells #[.int .u8 a, .int .u8 b, .int .u8 c, .int .u8 d] 5)) := by
  have hA : Below w1.heap.size w1 (w1.alloc (.cells #[.int .u8 a, .int .u8 b, .int .u8 c, .int .u8 d] 5)) := (Below.refl _ _).alloc (Nat.le_refl _) _
  have hO : OwnB (w1.alloc (.cells #[.int .u8 a, .int .u8 b, .int .u8 c, .int .u8 d] 5)) w1.heap.size 4 [a, b, c, d] := bytesL w1 [a, b, c, d] (by simp) hw
  refine wp_app hgd s x ho B g n cap l [a, b, c, d] hn hs (hown.on hA) hBg (Nat.le_trans hB hA.size) (some ⟨w1.heap.size, 0, none⟩) 4 4 hx rfl hO.bytes (fun e => by cases e) (by omega) ?_
  intro g' cap' w' hg ho' hgr
  have b1 : Below B w1 (w1.alloc (.cells #[.int .u8 a, .int .u8 b, .int .u8 c, .int .u8 d] 5)) := hA.mono hB
  exact h g' cap' w' hg ho' (b1.trans (below_of hgr hBg (Nat.le_trans hB hA.size)))
/-- append of four new bytes to a text's eight -/
theorem wp_grow4 {ops : Array Oper} {rest : List Oper} {o : Oper} {act : Act} {Q : Exit → Act → World → Prop} {w1 : World} (hgd : o.guard = none) (s x : Operand)
    (ho : o.op = .call { callee := .builtin .append, args := #[s, x], argTypes := #[37, 37] }) (B g : Nat) (a b c d : Int) (hw : ∀ i, 0 ≤ nth [a, b, c, d] i ∧ nth [a, b, c, d] i < 256) (hs : act.eval s = .slice (some ⟨g, 0, none⟩) 8 8) (hx : act.eval x = .slice (some ⟨w1.heap.size, 0, none⟩) 4 4)
    (hc : ∀ i, i < 8 → w1.cell? ⟨g, i, none⟩ = some (.int .u8 (nth mag i))) (hB : B ≤ w1.heap.size)
    (h : ∀ g' cap' w', B ≤ g' → OwnB w' g' cap' (mag ++ [a, b, c, d]) → Below B w1 w' → wpList Tryz.prog ops Q rest (act.put o.dst (.slice (some ⟨g', 0, none⟩) 12 cap')) w') :
    wpList Tryz.prog ops Q (o :: rest) act (w1.alloc (.cells #[.int .u8 a, .int .u8 b, .int .u8 c, .int .u8 d] 5)) := by
  have hA : Below w1.heap.size w1 (w1.alloc (.cells #[.int .u8 a, .int .u8 b, .int .u8 c, .int .u8 d] 5)) := (Below.refl _ _).alloc (Nat.le_refl _) _
  have hO : OwnB (w1.alloc (.cells #[.int .u8 a, .int .u8 b, .int .u8 c, .int .u8 d] 5)) w1.heap.size 4 [a, b, c, d] := bytesL w1 [a, b, c, d] (by simp) hw
  obtain ⟨i0, hi, hz0, hz1, hz2⟩ := info_parts info5
  have hr := run_append_grow (P := Tryz.prog) (w1.alloc (.cells #[.int .u8 a, .int .u8 b, .int .u8 c, .int .u8 d] 5)) 37 o.type 5 i0 (.int .u8 0) Tryz.underlying37 hi hz0 ⟨g, 0, none⟩ 8 8 (mag.map (Value.int .u8)) (by rw [hz1]; rfl) (fun j v hj => by
    have hlt : j < 8 := by
      by_cases hlt : j < 8
      · exact hlt
      · rw [List.getElem?_eq_none (by rw [List.length_map, mag_len]; omega)] at hj; cases hj
    rw [nth_cellL mag j (by rw [mag_len]; exact hlt)] at hj
    cases hj
    rw [Addr.add_lit, Nat.zero_add]
    exact (hA.cell (block_lt_of_cell (hc j hlt))).trans (hc j hlt)) ⟨w1.heap.size, 0, none⟩ 4 4 ([a, b, c, d].map (Value.int .u8)) (by rw [hz1]; rfl) (hO.bytes.news) (by omega) (by decide) (by rw [hz2]; exact growslice_fits (bytes := 1) (by omega) (by omega))
  refine wpList_plain hgd fun K hK => ?_
  unfold Oper.wp execOp
  simp only [ho, resolve, invoke, builtin, Sem.run_bind, Sem.run_pure, Result.andThen_ok, List.map_toArray, List.map_cons, List.map_nil, hs, hx] at hr ⊢
  rw [hr]
  refine hK _ _ (h _ _ _ (Nat.le_trans hB hA.size) ?_ ((hA.mono hB).trans (((Below.refl _ _).drew.alloc (Nat.le_refl _) _).mono (Nat.le_trans hB hA.size))))
  have h1 := grownCap_ge (w1.alloc (.cells #[.int .u8 a, .int .u8 b, .int .u8 c, .int .u8 d] 5)) (8 + 4) 8 5
  have h2 := grownCap_le_maxLen (w1.alloc (.cells #[.int .u8 a, .int .u8 b, .int .u8 c, .int .u8 d] 5)) (8 + 4) 8 5 (by decide)
  generalize grownCap (w1.alloc (.cells #[.int .u8 a, .int .u8 b, .int .u8 c, .int .u8 d] 5)) (8 + 4) 8 5 = C at h1 h2 ⊢
  refine ⟨⟨_, heap_alloc_new _ _, ?_, ?_⟩, by simp [mag_len], by simp [mag_len]; omega, h2, wf_two mag_bd hw⟩
  · rw [Array.size_append, Array.size_append, size_zeroCells]
    show (mag.map (Value.int .u8)).toArray.size + 4 + (C - (8 + 4)) * 1 = C
    rw [List.size_toArray, List.length_map, mag_len]; omega
  · rw [Array.toList_append, Array.toList_append, List.take_append_of_le_length (by simp [mag_len])]
    simp [mag_len, List.take_of_length_le]
/-- the same, as a step of a region that draws -/
theorem step_new4 {ops : Array Oper} {o : Oper} {act : Act} {K : Act → World → Prop} {Q : Exit → Act → World → Prop} {E : Prop} {w1 : World} (hgd : o.guard = none) (s x : Operand)
    (ho : o.op = .call { callee := .builtin .append, args := #[s, x], argTypes := #[37, 37] }) (B g n cap : Nat) (l : List Int) (a b c d : Int) (hw : ∀ i, 0 ≤ nth [a, b, c, d] i ∧ nth [a, b, c, d] i < 256) (hs : act.eval s = .slice (some ⟨g, 0, none⟩) n cap) (hx : act.eval x = .slice (some ⟨w1.heap.size, 0, none⟩) 4 4)
    (hown : OwnB w1 g cap l) (hn : l.length = n) (hBg : B ≤ g) (hB : B ≤ w1.heap.size) (hn5 : n ≤ 1000)
    (h : ∀ g' cap' w', B ≤ g' → OwnB w' g' cap' (l ++ [a, b, c, d]) → Below B w1 w' → K (act.put o.dst (.slice (some ⟨g', 0, none⟩) (n + 4) cap')) w') :
    if Region.wanted o (yielded ops act.tmps) = true then Oper.wp Tryz.prog o act (w1.alloc (.cells #[.int .u8 a, .int .u8 b, .int .u8 c, .int .u8 d] 5)) K Q else E := by
  have hA : Below w1.heap.size w1 (w1.alloc (.cells #[.int .u8 a, .int .u8 b, .int .u8 c, .int .u8 d] 5)) := (Below.refl _ _).alloc (Nat.le_refl _) _
  have hO : OwnB (w1.alloc (.cells #[.int .u8 a, .int .u8 b, .int .u8 c, .int .u8 d] 5)) w1.heap.size 4 [a, b, c, d] := bytesL w1 [a, b, c, d] (by simp) hw
  obtain ⟨i0, hi, hz0, hz1, hz2⟩ := info_parts info5
  subst hn
  refine step_own hgd s x 37 ho 5 i0 _ 1 1 Tryz.underlying37 hi hz0 hz1 hz2 rfl (by decide) _ l.length _ hs (owns_of (B := 0) (hown.on hA) (Nat.zero_le _)) ⟨w1.heap.size, 0, none⟩ 4 4 ([a, b, c, d].map (Value.int .u8)) hx (by omega) rfl hO.bytes.news (cells_u8 _) (by unfold maxLen; omega) (by omega) ?_
  intro g' cap' w' h1 h2 h3
  rw [← List.map_append] at h1
  refine h g' cap' w' ?_ (ownB_of h1 (by simp) (by omega) (wf_two hown.wf hw)) ((hA.mono hB).trans (h2.below B (fun k hk => by cases hk; exact hBg) (Nat.le_trans hB hA.size)))
  rcases h3 with e | e
  · cases e; exact hBg
  · exact Nat.le_trans (Nat.le_trans hB hA.size) e
theorem wp_new1 {ops : Array Oper} {rest : List Oper} {o : Oper} {act : Act} {Q : Exit → Act → World → Prop} {w1 : World} (hgd : o.guard = none) (s x : Operand)
    (ho : o.op = .call { callee := .builtin .append, args := #[s, x], argTypes := #[37, 37] }) (B g n cap : Nat) (l : List Int) (a : Int) (hw : 0 ≤ a ∧ a < 256) (hs : act.eval s = .slice (some ⟨g, 0, none⟩) n cap) (hx : act.eval x = .slice (some ⟨w1.heap.size, 0, none⟩) 1 1)
    (hown : OwnB w1 g cap l) (hn : l.length = n) (hBg : B ≤ g) (hB : B ≤ w1.heap.size) (hn5 : n ≤ 1000)
    (h : ∀ g' cap' w', B ≤ g' → OwnB w' g' cap' (l ++ [a]) → Below B w1 w' → wpList Tryz.prog ops Q rest (act.put o.dst (.slice (some ⟨g', 0, none⟩) (n + 1) cap')) w') :
    wpList Tryz.prog ops Q (o :: rest) act (w1.alloc (.cells #[.int .u8 a] 5)) := by
  have hA : Below w1.heap.size w1 (w1.alloc (.cells #[.int .u8 a] 5)) := (Below.refl _ _).alloc (Nat.le_refl _) _
  have hO : OwnB (w1.alloc (.cells #[.int .u8 a] 5)) w1.heap.size 1 [a] := bytesL w1 [a] (by simp) (fun i => by
    by_cases h : i < 1
    · have : i = 0 := by omega
      subst this; exact hw
    · rw [nth_out _ _ (by simp; omega)]; omega)
  refine wp_app hgd s x ho B g n cap l [a] hn hs (hown.on hA) hBg (Nat.le_trans hB hA.size) (some ⟨w1.heap.size, 0, none⟩) 1 1 hx rfl hO.bytes (fun e => by cases e) (by omega) ?_
  intro g' cap' w' hg ho' hgr
  have b1 : Below B w1 (w1.alloc (.cells #[.int .u8 a] 5)) := hA.mono hB
  exact h g' cap' w' hg ho' (b1.trans (below_of hgr hBg (Nat.le_trans hB hA.size)))
/-- a slice's length -/
def lenOf : Value → Nat
  | .slice _ n _ => n
  | _ => 0
set_option maxRecDepth 100000 in
set_option maxHeartbeats 8000000 in
theorem laid_ok (w : World) (nb noff k c : Nat) (ns : List Int) (s : Int) (hn : ns.length = k) (hI : Ints w (some ⟨nb, noff, none⟩) ns) (hk96 : k ≤ 96) (hb0 : ∀ i, i < k → 0 ≤ nth ns i ∧ nth ns i < 4294967296) (hs : 0 ≤ s ∧ s < 4294967296) :
    Calls Tryz.prog 111 #[.slice (some ⟨nb, noff, none⟩) k c, .int .u32 s] w fun e w' => ∃ g cap, e = .returned (.slice (some ⟨g, 0, none⟩) 512 cap) ∧ OwnB w' g cap (hd ns s) ∧ w.heap.size ≤ g ∧ Below w.heap.size w w' := by
  have HC : Hid (∀ wx, Below w.heap.size w wx → ∀ i, i < k → wx.cell? ⟨nb, noff + i, none⟩ = some (.int .i64 (nth ns i))) := fun wx hx i hi => (hI.on hx).cell (by omega)
  have HN : Hid (ns.length = k) := hn
  have HB : Hid (∀ i, i < k → 0 ≤ nth ns i ∧ nth ns i < 4294967296) := hb0
  have HA : Hid (Below w.heap.size w (w.alloc (.cells #[.int .u8 66, .int .u8 79, .int .u8 76, .int .u8 69, .int .u8 76, .int .u8 79, .int .u8 71, .int .u8 49] 5 (8, 9)))) := (Below.refl _ _).alloc (Nat.le_refl _) _
  have HO : Hid (∀ i, i < 8 → (w.alloc (.cells #[.int .u8 66, .int .u8 79, .int .u8 76, .int .u8 69, .int .u8 76, .int .u8 79, .int .u8 71, .int .u8 49] 5 (8, 9))).cell? ⟨w.heap.size, i, none⟩ = some (.int .u8 (nth mag i))) := fun i hi => by
    rw [cell_of_row _ _ _ _ _ _ (heap_alloc_new _ _)]
    have : i = 0 ∨ i = 1 ∨ i = 2 ∨ i = 3 ∨ i = 4 ∨ i = 5 ∨ i = 6 ∨ i = 7 := by omega
    rcases this with rfl | rfl | rfl | rfl | rfl | rfl | rfl | rfl <;> rfl
  have HAl : Hid (∀ (w : World) (o : Obj), Below w.heap.size w (w.alloc o)) := fun w o => (Below.refl _ _).alloc (Nat.le_refl _) _
  clear hI hn hb0
  have HL12 : Hid (mag ++ [(k : Int), 0, 0, 0] = (hd ns s).take 12) := by
    show _ = _
    rw [hd_take12, hd_take8, HN.out, dig0, dig1, Int.emod_eq_of_lt (by omega) (by omega), Int.ediv_eq_zero_of_lt (by omega) (by omega)]; rfl
  have HL16 : Hid ((hd ns s).take 12 ++ [s % 256, s / 256 % 256, s / 65536 % 256, s / 16777216] = (hd ns s).take 16) := by
    show _ = _
    rw [hd_take16, dig0, dig1, dig2, dig3, Int.emod_eq_of_lt (a := s / 16777216) (by omega) (by omega)]
  have HTl : Hid (∀ m, m ≤ 512 → ((hd ns s).take m).length = m) := fun m hm => hd_tl ns s m hm
  have hk0 : (k : Int) / 256 = 0 := Int.ediv_eq_zero_of_lt (by omega) (by omega)
  have hcv := conv_text w #[.int .u8 66, .int .u8 79, .int .u8 76, .int .u8 69, .int .u8 76, .int .u8 79, .int .u8 71, .int .u8 49] 8 rfl
  go_enter Tryz.func111, Tryz.ntmps111
  go_upto_region 2 with fail
  generalize w.alloc (.cells #[.int .u8 66, .int .u8 79, .int .u8 76, .int .u8 69, .int .u8 76, .int .u8 79, .int .u8 71, .int .u8 49] 5 (8, 9)) = w1 at HA HO hcv ⊢
  clear hcv
  go_upto_region 4 with (first
    | (at_builtin; have hh := H2.out.1; clear hh; refine wp_new4 (w1 := w2) rfl (.tmp 19) (.tmp 31) rfl w.heap.size g2 12 cap2 _ _ _ _ _ (wf4 (by omega) (by omega) (by omega) (by omega)) rfl rfl H2.out.1 (HTl.out 12 (by omega)) H2.out.2.1 H2.out.2.2.size (by omega) ?_; intro g3 cap3 w3 hg ho hb; have H3 : Hid (OwnB w3 g3 cap3 ((hd ns s).take 16) ∧ w.heap.size ≤ g3 ∧ Below w.heap.size w w3) := ⟨by rw [← HL16.out]; exact ho, hg, H2.out.2.2.trans hb⟩; clear hg ho hb)
    | (at_builtin; refine wp_grow4 (w1 := w1) rfl (.tmp 9) (.tmp 17) rfl w.heap.size w.heap.size _ _ _ _ (wf4 (by omega) (by omega) (by omega) (by omega)) rfl rfl HO.out HA.out.size ?_; intro g2 cap2 w2 hg ho hb; have H2 : Hid (OwnB w2 g2 cap2 ((hd ns s).take 12) ∧ w.heap.size ≤ g2 ∧ Below w.heap.size w w2) := ⟨by rw [← HL12.out]; exact ho, hg, HA.out.trans hb⟩; clear hg ho hb))
  go_wp2
  go_loopw [5, 6] (fun s5 s6 wr => ∃ (j g' cap' : Nat), j ≤ k ∧ s6 = .int .i64 j ∧ s5 = .slice (some ⟨g', 0, none⟩) (16 + 4 * j) cap' ∧ OwnB wr g' cap' ((hd ns s).take (16 + 4 * j)) ∧ w.heap.size ≤ g' ∧ Below w.heap.size w wr) (fun _ s6 _ => k - (intOf s6).toNat)
  case atStart => exact ⟨0, g3, cap3, Nat.zero_le _, rfl, rfl, H3.out.1, H3.out.2.1, H3.out.2.2⟩
  case round =>
    obtain ⟨j, g4, cap4, hj, rfl, rfl, ho, hg, hb⟩ := hrel
    have H4 : Hid (OwnB wr g4 cap4 ((hd ns s).take (16 + 4 * j)) ∧ w.heap.size ≤ g4 ∧ Below w.heap.size w wr) := ⟨ho, hg, hb⟩
    clear ho hg hb
    by_cases hlt : j < k
    · have d1 := HC.out _ H4.out.2.2 j hlt
      have b1 := HB.out j hlt
      obtain ⟨v, hv⟩ : ∃ v, nth ns j = v := ⟨_, rfl⟩
      rw [hv] at d1 b1
      have HLN : Hid ((hd ns s).take (16 + 4 * j) ++ [IntKind.u8.wrap v, IntKind.u8.wrap (v / 256), IntKind.u8.wrap (v / 65536), IntKind.u8.wrap (v / 16777216)] = (hd ns s).take (16 + 4 * (j + 1))) := by
        show _ = _
        rw [hd_takeN ns s j (by rw [HN.out]; exact hlt) (by rw [HN.out]; exact hk96), hv, dig0, dig1, dig2, dig3]; rfl
      have HWf : Hid (∀ i, 0 ≤ nth [IntKind.u8.wrap v, IntKind.u8.wrap (v / 256), IntKind.u8.wrap (v / 65536), IntKind.u8.wrap (v / 16777216)] i ∧ nth [IntKind.u8.wrap v, IntKind.u8.wrap (v / 256), IntKind.u8.wrap (v / 65536), IntKind.u8.wrap (v / 16777216)] i < 256) := by
        have ew : ∀ x : Int, 0 ≤ IntKind.u8.wrap x ∧ IntKind.u8.wrap x < 256 := fun x => by
          show 0 ≤ x % 256 ∧ x % 256 < 256
          omega
        exact wf4 (ew _) (ew _) (ew _) (ew _)
      clear hv
      have HDr : Hid (Below wr.heap.size wr wr.drew) := (Below.refl _ _).drew
      go_wp2
      go_region_law (refine step_new4 (w1 := wr.drew) rfl (.tmp 39) (.tmp 63) rfl w.heap.size g4 (16 + 4 * j) cap4 ((hd ns s).take (16 + 4 * j)) (IntKind.u8.wrap v) (IntKind.u8.wrap (v / 256)) (IntKind.u8.wrap (v / 65536)) (IntKind.u8.wrap (v / 16777216)) HWf.out (by simp [Act.eval]) (by simp [Act.eval]) (H4.out.1.on HDr.out) (HTl.out _ (by omega)) H4.out.2.1 (Nat.le_trans H4.out.2.2.size HDr.out.size) (by omega) ?_; intro g5 cap5 w5 hg ho hb; have H5 : Hid (OwnB w5 g5 cap5 ((hd ns s).take (16 + 4 * (j + 1))) ∧ w.heap.size ≤ g5 ∧ Below w.heap.size w w5) := ⟨by rw [← HLN.out]; exact ho, hg, (H4.out.2.2.trans (HDr.out.mono H4.out.2.2.size)).trans hb⟩; clear hg ho hb)
      all_goals
        go_wp2
        go_round
        case rel => exact ⟨j + 1, g5, cap5, by omega, by go_num, by congr 1, H5.out.1, H5.out.2.1, H5.out.2.2⟩
        case measure => simp [intOf]; omega
    · obtain rfl : j = k := by omega
      go_wp2
      go_loopw [5] (fun s5 wx => ∃ (m g' cap' : Nat), 16 + 4 * j ≤ m ∧ m ≤ 512 ∧ s5 = .slice (some ⟨g', 0, none⟩) m cap' ∧ OwnB wx g' cap' ((hd ns s).take m) ∧ w.heap.size ≤ g' ∧ Below w.heap.size w wx) (fun s5 _ => 512 - lenOf s5)
      case atStart => exact ⟨16 + 4 * j, g4, cap4, Nat.le_refl _, by omega, rfl, H4.out.1, H4.out.2.1, H4.out.2.2⟩
      case round =>
        obtain ⟨m, g5, cap5, hm1, hm2, rfl, ho, hg, hb⟩ := hrel
        have H5 : Hid (OwnB wr g5 cap5 ((hd ns s).take m) ∧ w.heap.size ≤ g5 ∧ Below w.heap.size w wr) := ⟨ho, hg, hb⟩
        clear ho hg hb
        by_cases h5 : m < 512
        · have HZ : Hid ((hd ns s).take m ++ [0] = (hd ns s).take (m + 1)) := (hd_takeZ ns s m (by rw [HN.out]; exact hm1) h5).symm
          go_wp2_with (at_builtin; refine wp_new1 (w1 := wr) rfl (.tmp 68) (.tmp 69) rfl w.heap.size g5 m cap5 ((hd ns s).take m) 0 (by omega) rfl rfl H5.out.1 (HTl.out m hm2) H5.out.2.1 H5.out.2.2.size (by omega) ?_; intro g6 cap6 w6 hg ho hb; have H6 : Hid (OwnB w6 g6 cap6 ((hd ns s).take (m + 1)) ∧ w.heap.size ≤ g6 ∧ Below w.heap.size w w6) := ⟨by rw [← HZ.out]; exact ho, hg, H5.out.2.2.trans hb⟩; clear hg ho hb)
          go_round
          case rel => exact ⟨m + 1, g6, cap6, by omega, by omega, rfl, H6.out.1, H6.out.2.1, H6.out.2.2⟩
          case measure => simp [lenOf]; omega
        · obtain rfl : m = 512 := by omega
          have HF : Hid ((hd ns s).take 512 = hd ns s) := List.take_of_length_le (by rw [hd_length]; omega)
          go_wp2
          go_ret
          exact ⟨g5, cap5, rfl, by rw [← HF.out]; exact H5.out.1, H5.out.2.1, H5.out.2.2⟩
end Go.Proofs.YtamlbpbhlgmcoaaGreatDoor

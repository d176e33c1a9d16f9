import Derived.Test.YtpbpblpbjkegfaaSpI
namespace Go.Proofs.Ytpbpblpbjkegfaa
open Go.RowKit Go.Maps Rec

theorem makeN (m : Nat) (hm : m ≤ 100000000) : ∃ o : Obj, (∀ w : World, (Instr.makeSlice 22 (.int .i64 (m : Int)) (.int .i64 (m : Int))).run Try.prog w = .ok (.slice (some ⟨w.heap.size, 0, none⟩) m m) (w.alloc o)) ∧ ∀ w : World, OwnB (w.alloc o) w.heap.size m (zn m) := by
  obtain ⟨i0, hi, hz0, hz1, hz2⟩ := info_parts info5
  refine ⟨.cells (madeCells #[.int .u8 0] m) 5, fun w => run_make_row (P := Try.prog) 22 5 i0 _ Try.underlying22 hi hz0 hz1 rfl .i64 .i64 m (by rw [hz2]; omega) (by omega) w, fun w => ?_⟩
  refine ⟨⟨_, heap_alloc_new _ _, ?_, ?_⟩, ?_, ?_, ?_, wf_rep m 0 (by omega)⟩
  · rw [← Array.length_toList, made_list, List.length_replicate]
  · rw [made_list, zn_length, zn, List.map_replicate, List.take_replicate, Nat.min_self]
  · rw [zn_length]; omega
  · rw [zn_length]; omega
  · unfold maxLen; omega
/-- how many blocks a case has -/
def nBl (N : Int) : Nat := if N % 200 < 180 then 128 + (N % 200).toNat else if N % 200 < 190 then 4096 + (N % 200).toNat - 185 else 8192 + (N % 200).toNat - 195
theorem nBl_bd (N : Int) : 128 ≤ nBl N ∧ nBl N ≤ 8197 := by unfold nBl; split <;> (try split) <;> omega
/-- a case -/
def csV (N : Int) (bits : Value) (rest : Int) (sc : Value) : Value := .agg #[.int .i64 N, bits, .int .u8 rest, sc]
set_option maxRecDepth 100000 in
set_option maxHeartbeats 4000000 in
theorem blocks9 (w : World) (N : Int) (_ : -9223372036854775808 ≤ N ∧ N ≤ 9223372036854775807) (ba : Option Addr) (bl bc : Nat) (rest : Int) (sa : Option Addr) (sl sc : Nat) :
    Calls Try.prog 19 #[csV N (.slice ba bl bc) rest (.slice sa sl sc)] w fun e w' => e = .returned (.int .i64 (nBl N : Nat)) ∧ Below w.heap.size w w' := by
  have HM : Hid (∀ wx, Calls Try.prog 15 #[.int .i64 N, .int .i64 200] wx fun e w' => e = .returned (.int .i64 (N % 200)) ∧ wx = w') := fun wx => mod_any wx N 200 (by omega) (by omega)
  have HA : Hid (∀ o, Below w.heap.size w (w.alloc o)) := fun o => (Below.refl _ _).alloc (Nat.le_refl _) o
  obtain ⟨r, hr⟩ : ∃ r : Nat, N % 200 = (r : Int) := ⟨(N % 200).toNat, by omega⟩
  have hrb : r < 200 := by omega
  have hnb : nBl N = if r < 180 then 128 + r else if r < 190 then 4096 + r - 185 else 8192 + r - 195 := by
    unfold nBl
    rw [hr]
    simp only [Int.toNat_natCast]
    by_cases h1 : r < 180
    · rw [if_pos h1, if_pos (by omega)]
    · rw [if_neg h1, if_neg (by omega)]
      by_cases h2 : r < 190
      · rw [if_pos h2, if_pos (by omega)]
      · rw [if_neg h2, if_neg (by omega)]
  rw [hr] at HM
  rw [hnb]
  clear hr hnb
  unfold csV
  go_enter Try.func19, Try.ntmps19
  by_cases h1 : r < 180
  · rw [if_pos h1]
    go_wp2_with (go_at_call 15; refine (HM.out _).mono ?_; rintro e w' ⟨rfl, rfl⟩; clear HM)
    go_ret
    exact ⟨by simp, HA.out _⟩
  · rw [if_neg h1]
    by_cases h2 : r < 190
    · rw [if_pos h2]
      go_wp2_with (go_at_call 15; refine (HM.out _).mono ?_; rintro e w' ⟨rfl, rfl⟩; clear HM)
      go_ret
      exact ⟨by congr 2; simp; omega, HA.out _⟩
    · rw [if_neg h2]
      go_wp2_with (go_at_call 15; refine (HM.out _).mono ?_; rintro e w' ⟨rfl, rfl⟩; clear HM)
      go_ret
      exact ⟨by congr 2; simp; omega, HA.out _⟩
theorem res_row9 {fn : Func} {p : Tmp} {ty : TypeId} (h : fn.results = #[.cell p ty]) (tmps : Array Value) (w : World) (g : Nat) (cs : Array Value)
    (hp : tmps.getD p undef = .pointer (some ⟨g, 0, none⟩)) (hl : (loadVar ty ⟨g, 0, none⟩).run Try.prog w = .ok (.agg cs) w) :
    (results fn tmps).run Try.prog w = .ok (.agg cs) w := by
  have e : (results fn tmps).run Try.prog w = ((asAddr (tmps.getD p undef)).run Try.prog w).andThen fun a w₁ => (loadVar ty a).run Try.prog w₁ := by
    simp only [results, h]
    simp [Sem.run_bind, Result.andThen]
  rw [e, hp]
  simp [asAddr, hl]
set_option maxRecDepth 100000 in
set_option maxHeartbeats 4000000 in
theorem geo9 (w : World) (n : Nat) (h0 : 128 ≤ n) (h1 : n ≤ 16384) :
    Calls Try.prog 18 #[.int .i64 (n : Int)] w fun e w' => e = .returned (geoV n) ∧ Below w.heap.size w w' := by
  have e1 : (n : Int) + 4096 - 1 = ((n + 4095 : Nat) : Int) := by omega
  go_enter Try.func18, Try.ntmps18
  go_wp2
  refine bodyPost_ret (v := geoV n) (res_row9 rfl _ _ w.heap.size #[.int .i64 (n : Int), .int .i64 98, .int .i64 (gI n), .int .i64 (gD n), .int .i64 (gC n)] rfl (by simp [go_sem, gI, gD, gC, Int.mul_comm])) rfl ?_
  exact ⟨rfl, (Below.refl _ _).alloc (Nat.le_refl _) _⟩
/-- is bit i of a case's bitmap on? -/
def fB (n : Nat) (bits : List Int) (rest : Int) (i : Nat) : Bool := decide (i < nD n ∨ n ≤ i) || ((if (i - nD n) / 8 < bits.length then nth bits ((i - nD n) / 8) else rest) / 2 ^ ((i - nD n) % 8) % 2 == 1)
/-- a case's image -/
structure Img (l : List Int) (n : Nat) (f : Nat → Bool) : Prop where
  len : l.length = 512 * n
  wf : ∀ j, 0 ≤ nth l j ∧ nth l j < 256
  top : ∀ p, 512 * nD n ≤ p → p < 512 * n → nth l p = 7
  bit : ∀ i, i < 4096 * nM n → bn l (401408 + i) = if f i then 1 else 0
/-- between the rounds of the second loop -/
structure Im2 (l : List Int) (n : Nat) (f : Nat → Bool) (i : Nat) : Prop where
  len : l.length = 512 * n
  top : ∀ p, 512 * nD n ≤ p → p < 512 * n → nth l p = 7
  bit : ∀ j, j < 4096 * nM n → bn l (401408 + j) = if j < i ∧ f j = true then 1 else 0
theorem Im2.skip {l : List Int} {n : Nat} {f : Nat → Bool} {i : Nat} (h : Im2 l n f i) (hf : f i = false) : Im2 l n f (i + 1) := by
  refine ⟨h.len, h.top, fun j hj => ?_⟩
  rw [h.bit j hj]
  by_cases e : j = i
  · subst e; simp [hf]
  · by_cases e2 : j < i
    · simp [e2, Nat.lt_succ_of_lt e2]
    · rw [if_neg (fun x => e2 x.1), if_neg (fun x => by omega)]
theorem Im2.put {l : List Int} {n : Nat} {f : Nat → Bool} {i : Nat} (h : Im2 l n f i) (hl : ∀ i, 0 ≤ nth l i ∧ nth l i < 256) (hf : f i = true) (h0 : 128 ≤ n) (h1 : n ≤ 16384) (hi : i < 4096 * nM n) : Im2 (bput l (401408 + i) true) n f (i + 1) := by
  have hN := nM_bd h0 h1
  have hlen := h.len
  refine ⟨by rw [bput_length, h.len], fun p h2 h3 => ?_, fun j hj => ?_⟩
  · rw [bput, nth_set _ _ _ _ (by omega), if_neg (by omega), h.top p h2 h3]
  · rw [bn_bput l _ _ true hl (by omega), h.bit j hj]
    by_cases e : j = i
    · subst e; simp [hf]
    · rw [if_neg (by omega)]
      by_cases e2 : j < i
      · simp [e2, Nat.lt_succ_of_lt e2]
      · rw [if_neg (fun x => e2 x.1), if_neg (fun x => by omega)]
theorem im2_start {l : List Int} {n : Nat} (f : Nat → Bool) (h0 : 128 ≤ n) (h1 : n ≤ 16384) (hl : l.length = 512 * n) (hv : ∀ p, p < 512 * n → nth l p = if 512 * nD n ≤ p then 7 else 0) : Im2 l n f 0 := by
  have hN := nM_bd h0 h1
  refine ⟨hl, fun p h2 h3 => by rw [hv p h3, if_pos h2], fun j hj => ?_⟩
  rw [if_neg (fun x => by omega), bn, hv _ (by omega), if_neg (by omega)]
  simp
end Go.Proofs.Ytpbpblpbjkegfaa

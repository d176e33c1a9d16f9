import Derived.Test.YtamlbpbhlgmcoaaGreatDoorKWSt
namespace Go.Proofs.YtamlbpbhlgmcoaaGreatDoor
open Go.RowKit Rec

set_option maxRecDepth 100000 in
set_option maxHeartbeats 1600000 in
theorem log_no1 (w : World) (D : Dk) (h : Disk w D) (ht : touchE D 97 ≠ 0) :
    Calls Tryz.prog 54 #[.pointer (some ⟨D.d, 0, none⟩)] w fun e w' => e = gave (touchE D 97) ∧ Below w.heap.size w w' := by
  have HR : Hid (Calls Tryz.prog 83 #[.pointer (some ⟨D.d, 0, none⟩), .int .i64 97] w fun e w' => e = gave (touchE D 97) ∧ w = w') := wread_no w D h 97 ht
  clear h ht
  go_enter Tryz.func54, Tryz.ntmps54
  go_wp2_with (go_at_call 83; refine HR.out.mono ?_; rintro e w1 ⟨rfl, rfl⟩)
  exact ⟨rfl, rfl, Below.refl _ _⟩
set_option maxRecDepth 100000 in
set_option maxHeartbeats 4000000 in
theorem log_no2 (w : World) (D : Dk) (h : Disk w D) (hT : TabAt w) (hd : D.down = false) (hnb : 98 ≤ D.nb) (he : logE D.full D.nb ≠ 0) :
    Calls Tryz.prog 54 #[.pointer (some ⟨D.d, 0, none⟩)] w fun e w' => e = gave (logE D.full D.nb) ∧ Below w.heap.size w w' := by
  have HD : Hid (∀ wx, Below w.heap.size w wx → Disk wx D ∧ TabAt wx) := fun wx hb => ⟨h.on hb, hT.on hb⟩
  have HFl : Hid (D.full.length = 512 * D.nb) := h.full_length
  have hkl := logN_len D.full D.nb
  obtain ⟨k, hk⟩ : ∃ k, (logN D.full D.nb).length = k := ⟨_, rfl⟩
  have HK : Hid ((logN D.full D.nb).length = k) := hk
  rw [hk] at hkl
  have HR1 : Hid (∀ w0, Below w.heap.size w w0 → Calls Tryz.prog 83 #[.pointer (some ⟨D.d, 0, none⟩), .int .i64 97] w0 fun e w' => ∃ v, e = .returned v ∧ Below w.heap.size w w') := fun w0 hb0 => by
    refine (wread_yes w0 D (h.on hb0) 97 (by omega) hd).mono ?_
    rintro e w' ⟨g, cap, rfl, h1, h2, h3⟩
    exact ⟨_, rfl, hb0.trans (h3.mono hb0.size)⟩
  have HR2 : Hid (∀ w0, Below w.heap.size w w0 → Calls Tryz.prog 83 #[.pointer (some ⟨D.d, 0, none⟩), .int .i64 1] w0 fun e w' => ∃ g cap, e = .returned (.slice (some ⟨g, 0, none⟩) 512 cap) ∧ OwnB w' g cap (bck D.full 1) ∧ Below w.heap.size w w') := fun w0 hb0 => read_head w D hd hnb w0 hb0 h
  have HN : Hid (∀ w0 g cap, Below w.heap.size w w0 → OwnB w0 g cap (bck D.full 1) → Calls Tryz.prog 84 #[.slice (some ⟨g, 0, none⟩) 512 cap, .int .i64 D.nb] w0 fun e w' => ∃ a c, e = .returned (.tuple #[.slice a k c, .int .i64 (numsE (bck D.full 1) D.nb)]) ∧ NumsAt w w' (.slice a k c) (logN D.full D.nb) ∧ OwnB w' g cap (bck D.full 1) ∧ Below w.heap.size w w') := fun w0 g cap hb0 ho => by
    refine (nums_any w0 (some ⟨g, 0, none⟩) 512 cap _ D.nb (bck_length _ _ _ HFl.out (by omega)) ho.bytes (by have := ho.room; rw [bck_length _ _ _ HFl.out (by omega)] at this; exact this) (hT.on hb0)).mono ?_
    rintro e w' ⟨v, rfl, hv, hb⟩
    obtain ⟨a, c, rfl⟩ := hv.form
    have hkk : (numsL (bck D.full 1) D.nb).length = k := hk
    rw [hkk] at hv ⊢
    exact ⟨a, c, rfl, hv.from hb0, ho.on hb, hb0.trans (hb.mono hb0.size)⟩
  have hB0 : Hid (Below w.heap.size w w) := Below.refl _ _
  by_cases hE : numsE (bck D.full 1) D.nb = 0
  · have e0 : logE D.full D.nb = if logN D.full D.nb = [] ∨ good (bck D.full 1) D.nb (logD D.full (logN D.full D.nb).length) = true then 0 else 41 := by
      unfold logE
      rw [if_neg (by omega), if_pos hE]
    have c : ¬ (logN D.full D.nb = [] ∨ good (bck D.full 1) D.nb (logD D.full (logN D.full D.nb).length) = true) := fun c => by
      rw [if_pos c] at e0; exact he e0
    rw [if_neg c] at e0
    rw [e0]
    have h0 : 0 < k := by
      rcases Nat.eq_zero_or_pos k with h0 | h0
      · exact absurd (.inl (List.length_eq_zero_iff.1 (by rw [hk, h0]))) c
      · exact h0
    have hg : good (bck D.full 1) D.nb (logD D.full k) = false := by
      rw [hk] at c
      cases hg : good (bck D.full 1) D.nb (logD D.full k) with
      | false => rfl
      | true => exact absurd (.inr hg) c
    have HF : Hid (∀ w0, Below w.heap.size w w0 → Calls Tryz.prog 57 #[.pointer (some ⟨D.d, 0, none⟩), .int .i64 2, .int .i64 k] w0 fun e w' => ∃ a c L, e = .returned (.slice a k c) ∧ ReadAt w w' D.full 2 k (.slice a k c) L ∧ Below w0.heap.size w0 w') := fun w0 hb0 => by
      refine (readFrom_any w0 D (h.on hb0) hd 2 k (by omega)).mono ?_
      rintro e w' ⟨v, L, rfl, hr⟩
      obtain ⟨a, c, rfl⟩ := own_form hr.row
      exact ⟨a, c, L, rfl, hr.from hb0, hr.bel⟩
    have HG : Hid (∀ w0 g cap a c L, Below w.heap.size w w0 → OwnB w0 g cap (bck D.full 1) → ReadAt w w0 D.full 2 k (.slice a k c) L → Calls Tryz.prog 86 #[.slice (some ⟨g, 0, none⟩) 512 cap, .int .i64 D.nb, .slice a k c] w0 fun e w' => e = .returned (.bool false) ∧ Below w0.heap.size w0 w') := fun w0 g cap a c L hb0 ho hr => by
      obtain ⟨g2, c2, e, hd2, _⟩ := hr.data HFl.out hnb hkl h0
      cases e
      refine (good_any w0 (some ⟨g, 0, none⟩) (some ⟨g2, 0, none⟩) 512 cap k c _ (logD D.full k) D.nb (bck_length _ _ _ HFl.out (by omega)) (logD_length _ _) ho.bytes (by have := ho.room; rw [bck_length _ _ _ HFl.out (by omega)] at this; exact this) hd2 (hT.on hb0)).mono ?_
      rintro e w' ⟨rfl, hb⟩
      exact ⟨by rw [hg], hb⟩
    rw [hE] at HN
    have hz' : ((k : Int) == 0) = false := by simp; omega
    clear h hT he hd hE hk HFl e0 c h0 hg
    go_enter Tryz.func54, Tryz.ntmps54
    go_wp2_with (first
      | (go_at_call 83; refine (HR1.out _ hB0.out).mono ?_; rintro e w1 ⟨v, rfl, hb⟩; have H1 : Hid (Below w.heap.size w w1) := hb; clear hb HR1)
      | (go_at_call 83; have hh := H1.out; clear hh; refine (HR2.out _ H1.out).mono ?_; rintro e w2 ⟨g, cap, rfl, ho, hb⟩; have H2 : Hid (OwnB w2 g cap (bck D.full 1) ∧ Below w.heap.size w w2) := ⟨ho, hb⟩; clear ho hb)
      | (go_at_call 44; have hh := H2.out; clear hh; refine (blocks_any _ D (HD.out _ H2.out.2).1).mono ?_; rintro e w' ⟨rfl, rfl⟩)
      | (go_at_call 84; refine (HN.out _ _ _ H2.out.2 H2.out.1).mono ?_; rintro e w3 ⟨a, c, rfl, hn, ho, hb⟩; have H3 : Hid (NumsAt w w3 (.slice a k c) (logN D.full D.nb) ∧ OwnB w3 g cap (bck D.full 1) ∧ Below w.heap.size w w3) := ⟨hn, ho, hb⟩; clear hn ho hb HN)
      | (go_at_call 57; refine (HF.out _ H3.out.2.2).mono ?_; rintro e w4 ⟨a4, c4, L, rfl, hr, hb⟩; have H4 : Hid (ReadAt w w4 D.full 2 k (.slice a4 k c4) L ∧ Below w3.heap.size w3 w4) := ⟨hr, hb⟩; clear hr hb HF)
      | (go_at_call 44; have hh := H4.out; clear hh; refine (blocks_any _ D (HD.out _ H4.out.1.bel).1).mono ?_; rintro e w' ⟨rfl, rfl⟩)
      | (go_at_call 86; refine (HG.out _ _ _ _ _ _ H4.out.1.bel (H3.out.2.1.on H4.out.2) H4.out.1).mono ?_; rintro e w5 ⟨rfl, hb⟩; have H5 : Hid (Below w4.heap.size w4 w5) := hb; clear hb HG)
      | (go_at_call 85; have hh := HG.out; clear hh; refine (must_yes _ _).mono ?_; rintro e w' ⟨rfl, rfl⟩)
      | (go_at_call 85; refine (must_no _ _).mono ?_; rintro e w' ⟨rfl, rfl⟩))
    exact ⟨rfl, rfl, (H4.out.1.on H5.out).bel⟩
  · have e0 : logE D.full D.nb = numsE (bck D.full 1) D.nb := by
      unfold logE
      rw [if_neg (by omega), if_neg hE]
    rw [e0]
    have hz' : (numsE (bck D.full 1) D.nb == 0) = false := by simpa using hE
    clear h hT he hd hE hk HFl e0
    go_enter Tryz.func54, Tryz.ntmps54
    go_wp2_with (first
      | (go_at_call 83; refine (HR1.out _ hB0.out).mono ?_; rintro e w1 ⟨v, rfl, hb⟩; have H1 : Hid (Below w.heap.size w w1) := hb; clear hb HR1)
      | (go_at_call 83; have hh := H1.out; clear hh; refine (HR2.out _ H1.out).mono ?_; rintro e w2 ⟨g, cap, rfl, ho, hb⟩; have H2 : Hid (OwnB w2 g cap (bck D.full 1) ∧ Below w.heap.size w w2) := ⟨ho, hb⟩; clear ho hb)
      | (go_at_call 44; have hh := H2.out; clear hh; refine (blocks_any _ D (HD.out _ H2.out.2).1).mono ?_; rintro e w' ⟨rfl, rfl⟩)
      | (go_at_call 84; refine (HN.out _ _ _ H2.out.2 H2.out.1).mono ?_; rintro e w3 ⟨a, c, rfl, hn, ho, hb⟩; have H3 : Hid (NumsAt w w3 (.slice a k c) (logN D.full D.nb) ∧ OwnB w3 g cap (bck D.full 1) ∧ Below w.heap.size w w3) := ⟨hn, ho, hb⟩; clear hn ho hb HN)
      | (go_at_call 85; refine (must_no _ _).mono ?_; rintro e w' ⟨rfl, rfl⟩))
    exact ⟨rfl, rfl, H3.out.2.2⟩
theorem log_no (w : World) (D : Dk) (h : Disk w D) (hT : TabAt w) (he : openE D ≠ 0) :
    Calls Tryz.prog 54 #[.pointer (some ⟨D.d, 0, none⟩)] w fun e w' => e = gave (openE D) ∧ Below w.heap.size w w' := by
  cases hd : D.down with
  | true =>
    have e1 : openE D = 30 := by unfold openE; rw [hd]; rfl
    have e2 : touchE D 97 = 30 := by unfold touchE; rw [hd]; rfl
    rw [e1, ← e2]
    exact log_no1 w D h (by rw [e2]; decide)
  | false =>
    have e1 : openE D = logE D.full D.nb := by unfold openE; rw [hd]; rfl
    rw [e1] at he ⊢
    by_cases c : D.nb < 98
    · have e2 : touchE D 97 = 31 := by rw [touch_97 D hd, if_pos c]
      have e3 : logE D.full D.nb = 31 := by unfold logE; rw [if_pos c]
      rw [e3, ← e2]
      exact log_no1 w D h (by rw [e2]; decide)
    · exact log_no2 w D h hT hd (by omega) he
end Go.Proofs.YtamlbpbhlgmcoaaGreatDoor

namespace Go.Proofs.YtamlbpbhlgmcoaaGreatDoor
open Go.RowKit Rec

theorem assert_errno (e : Int) (w : World) : (Instr.typeAssert (.iface 26 (.int .i64 e)) 20 26 false).run Tryz.prog w = .ok (.int .i64 e) w := by
  simp [Instr.typeAssert, run_underlying Tryz.underlying26]
set_option maxRecDepth 100000 in
theorem why_any (w : World) (e : Int) : Calls Tryz.prog 53 #[gaveV e] w fun r w' => r = .returned (.int .i64 e) ∧ w = w' := by
  have ha := assert_errno e
  go_enter Tryz.func53, Tryz.ntmps53
  go_wp2
  go_ret
  exact ⟨rfl, rfl⟩
set_option maxRecDepth 100000 in
set_option maxHeartbeats 1600000 in
theorem catchB_panicking (p : Addr) (x e : Int) (older : List PanicEntry) (w : World) (hc : w.cell? p = some (.int .i64 x)) (hz : w.frozen? p = false) :
    CallsD Tryz.prog 55 #[.pointer (some p)] (.panicking ({ v := gaveV e, recovered := false } :: older)) w fun r u' w' =>
      r = .returned (.tuple #[]) ∧ u' = .panicking ({ v := gaveV e, recovered := true } :: older) ∧ w' = w.setCell p (.int .i64 e) := by
  refine callsD_of_wpS Tryz.func55 rfl fun c₀ cs hu => ?_
  apply wpS_seq
  apply wpS_region
  simp [wpOpsS, go_sem, recoverD, hu, Tryz.ntmps55, Exit.thenS]
  have et : (#[Value.pointer (some p)] ++ ((Array.replicate 6 undef).setIfInBounds 1 (gaveV e)).setIfInBounds 0 (gaveV e)) = #[.pointer (some p), gaveV e, gaveV e, undef, undef, undef, undef] := rfl
  rw [et]
  clear et
  refine wpS_of_wp ?_
  go_wp2_with (go_at_call 53; refine (why_any _ _).mono ?_; rintro r w' ⟨rfl, rfl⟩)
  simp [bodyPostS, results, Tryz.results55]
set_option maxRecDepth 100000 in
set_option maxHeartbeats 1600000 in
theorem catchB_idle (p : Addr) (w : World) :
    CallsD Tryz.prog 55 #[.pointer (some p)] .returning w fun r u' w' => r = .returned (.tuple #[]) ∧ u' = .returning ∧ w' = w := by
  refine callsD_of_wpS Tryz.func55 rfl fun c₀ cs hu => ?_
  apply wpS_seq
  apply wpS_region
  simp [wpOpsS, go_sem, recoverD, hu, Tryz.ntmps55, Exit.thenS]
  have et : (#[Value.pointer (some p)] ++ ((Array.replicate 6 undef).setIfInBounds 1 Value.nilIface).setIfInBounds 0 Value.nilIface) = #[.pointer (some p), .nilIface, .nilIface, undef, undef, undef, undef] := rfl
  rw [et]
  clear et
  refine wpS_of_wp ?_
  go_wp2
  cases c₀
  simp_all [bodyPostS, results, Tryz.results55]
set_option maxRecDepth 100000 in
set_option maxHeartbeats 1600000 in
theorem catchR_panicking (p : Addr) (x e : Int) (older : List PanicEntry) (w : World) (hc : w.cell? p = some (.int .i64 x)) (hz : w.frozen? p = false) :
    CallsD Tryz.prog 52 #[.pointer (some p)] (.panicking ({ v := gaveV e, recovered := false } :: older)) w fun r u' w' =>
      r = .returned (.tuple #[]) ∧ u' = .panicking ({ v := gaveV e, recovered := true } :: older) ∧ w' = w.setCell p (.int .i64 e) := by
  refine callsD_of_wpS Tryz.func52 rfl fun c₀ cs hu => ?_
  apply wpS_seq
  apply wpS_region
  simp [wpOpsS, go_sem, recoverD, hu, Tryz.ntmps52, Exit.thenS]
  have et : (#[Value.pointer (some p)] ++ ((Array.replicate 6 undef).setIfInBounds 1 (gaveV e)).setIfInBounds 0 (gaveV e)) = #[.pointer (some p), gaveV e, gaveV e, undef, undef, undef, undef] := rfl
  rw [et]
  clear et
  refine wpS_of_wp ?_
  go_wp2_with (go_at_call 53; refine (why_any _ _).mono ?_; rintro r w' ⟨rfl, rfl⟩)
  simp [bodyPostS, results, Tryz.results52]
set_option maxRecDepth 100000 in
set_option maxHeartbeats 1600000 in
theorem catchR_idle (p : Addr) (w : World) :
    CallsD Tryz.prog 52 #[.pointer (some p)] .returning w fun r u' w' => r = .returned (.tuple #[]) ∧ u' = .returning ∧ w' = w := by
  refine callsD_of_wpS Tryz.func52 rfl fun c₀ cs hu => ?_
  apply wpS_seq
  apply wpS_region
  simp [wpOpsS, go_sem, recoverD, hu, Tryz.ntmps52, Exit.thenS]
  have et : (#[Value.pointer (some p)] ++ ((Array.replicate 6 undef).setIfInBounds 1 Value.nilIface).setIfInBounds 0 Value.nilIface) = #[.pointer (some p), .nilIface, .nilIface, undef, undef, undef, undef] := rfl
  rw [et]
  clear et
  refine wpS_of_wp ?_
  go_wp2
  cases c₀
  simp_all [bodyPostS, results, Tryz.results52]
end Go.Proofs.YtamlbpbhlgmcoaaGreatDoor

namespace Go.Proofs.YtamlbpbhlgmcoaaGreatDoor
open Go.RowKit Rec

theorem zn_cells (m : Nat) : Builtin.zeroCells (Value.int .u8 0).cells m = ((zn m).map (Value.int .u8)).toArray := by
  apply Array.ext'
  apply List.ext_getElem
  · simp [Builtin.zeroCells, zn, Value.cells]
  · intro i h1 h2
    simp [Builtin.zeroCells, zn, Value.cells, Nat.mod_one]
theorem run_zeros_nil {w : World} {m : Nat} (ty : TypeId) (h0 : 0 < m) (h47 : m ≤ 140737488355328) :
    (Builtin.append_ #[37, 3] ty #[.slice none 0 0, .int .i64 m]).run Tryz.prog w =
      .ok (.slice (some ⟨w.heap.size, 0, none⟩) m (grownCap w m 0 5)) (w.drew.alloc (.cells (((zn m).map (Value.int .u8)).toArray ++ Builtin.zeroCells (Value.int .u8 0).cells (grownCap w m 0 5 - m)) 5)) := by
  obtain ⟨i0, hi, hz0, hz1, hz2⟩ := info_parts info5
  have hw : IntKind.i64.wrap (m : Int) = (m : Int) := by rw [IntKind.wrap_i64]; omega
  have c1 : ¬ ((m : Int) < 0) := by omega
  have c2 : ¬ ((281474976710656 : Int) < m) := by omega
  have c3 : ¬ m = 0 := by omega
  have h63' : ¬ (9223372036854775807 < (m : Int)) := by omega
  have h48 := growslice_fits (need := m) (old := 0) (bytes := 1) (by omega) (by omega)
  have h48' : ¬ (281474976710656 < Builtin.nextslicecap m 0) := by omega
  simp [Builtin.append_, run_underlying Tryz.underlying37, run_underlying Tryz.underlying3, sizeOf, typeInfo, zeroValue, hi, hz0, hz1, hz2, asInt, asIntOf, hw, Builtin.lenOf, zn_cells, c1, c2, c3, h63', h48', Question.forced, run_firstCells_none, newRow, grownCap]
/-- 'append(nil, make([]byte, m)...)' -/
theorem wp_zeros_nil {ops : Array Oper} {rest : List Oper} {o : Oper} {a : Act} {Q : Exit → Act → World → Prop} {w : World} (hgd : o.guard = none) (s x : Operand)
    (ho : o.op = .call { callee := .builtin .append, args := #[s, x], argTypes := #[37, 3] }) (m : Nat) (hs : a.eval s = .slice none 0 0) (hx : a.eval x = .int .i64 m) (h0 : 0 < m) (h47 : m ≤ 140737488355328)
    (h : ∀ cap w', OwnB w' w.heap.size cap [] → Below w.heap.size w w' → wpList Tryz.prog ops Q rest (a.put o.dst (.slice (some ⟨w.heap.size, 0, none⟩) m cap)) w') :
    wpList Tryz.prog ops Q (o :: rest) a w := by
  have hrun := run_zeros_nil (w := w) (m := m) o.type h0 h47
  refine wpList_plain hgd fun K hK => ?_
  unfold Oper.wp execOp
  simp only [ho, resolve, invoke, builtin, Sem.run_bind, Sem.run_pure, Result.andThen_ok, List.map_toArray, List.map_cons, List.map_nil, hs, hx, hrun]
  have hge := grownCap_ge w m 0 5
  refine hK _ _ (h _ _ ⟨⟨_, heap_alloc_new w.drew _, ?_, rfl⟩, by simp, by simp, grownCap_le_maxLen w _ _ _ (by unfold maxLen; omega), by intro i; simp [nth]⟩ (((Below.refl _ _).drew).alloc (Nat.le_refl _) _))
  have e1 : (Value.int .u8 0).cells.size = 1 := rfl
  simp only [Array.size_append, List.size_toArray, List.length_map, zn_length, size_zeroCells, e1]; omega
set_option maxRecDepth 100000 in
set_option maxHeartbeats 1600000 in
theorem grow_any (w : World) (n : Nat) (h0 : 0 < n) (h47 : n ≤ 1000000000) :
    Calls Tryz.prog 87 #[.slice none 0 0, .int .i64 n] w fun e w' => ∃ g cap, e = .returned (.slice (some ⟨g, 0, none⟩) 0 cap) ∧ OwnB w' g cap [] ∧ w.heap.size ≤ g ∧ Below w.heap.size w w' := by
  go_enter Tryz.func87, Tryz.ntmps87
  go_wp2_with (at_builtin; refine wp_zeros_nil rfl (.tmp 20) (.tmp 21) rfl n rfl rfl h0 (by omega) ?_; intro cap w1 ho hb; have H1 : Hid (OwnB w1 w.heap.size cap [] ∧ Below w.heap.size w w1) := ⟨ho, hb⟩; clear ho hb)
  go_ret
  exact ⟨_, _, rfl, H1.out.1, Nat.le_refl _, H1.out.2⟩
end Go.Proofs.YtamlbpbhlgmcoaaGreatDoor

namespace Go.Proofs.YtamlbpbhlgmcoaaGreatDoor
open Go.RowKit Rec

theorem take_bck (F : List Int) (j : Nat) : F.take (512 * (j + 1)) = F.take (512 * j) ++ bck F j := by
  rw [Nat.mul_add, Nat.mul_one, List.take_add]; rfl
theorem ReadAt.cell {w0 w : World} {F : List Int} {f k g c : Nat} {L : List Rb} (h : ReadAt w0 w F f k (.slice (some ⟨g, 0, none⟩) k c) L) (i : Nat) (q : Rb) (hq : L[i]? = some q) : w.cell? ⟨g, i, none⟩ = some (.slice (some ⟨q.g, 0, none⟩) 512 q.c) := by
  have hc := h.row.cells (g := g) rfl i q.v (by simp [hq])
  rw [Addr.add_lit] at hc
  rw [Nat.zero_add] at hc
  exact hc
set_option maxRecDepth 100000 in
set_option maxHeartbeats 4000000 in
theorem concat_any (w0 w : World) (F : List Int) (nb : Nat) (v : Value) (L : List Rb) (h : ReadAt w0 w F 0 nb v L) (h0 : 0 < nb) (h1 : nb ≤ 16384) (hl : F.length = 512 * nb) :
    Calls Tryz.prog 56 #[v] w fun e w' => ∃ g cap, e = .returned (.slice (some ⟨g, 0, none⟩) (512 * nb : Nat) cap) ∧ OwnB w' g cap F ∧ w.heap.size ≤ g ∧ Below w.heap.size w w' := by
  obtain ⟨g, c, rfl⟩ := own_some h.row h0
  have HR : Hid (ReadAt w0 w F 0 nb (.slice (some ⟨g, 0, none⟩) nb c) L) := h
  have HL : Hid (F.length = 512 * nb) := hl
  clear h hl
  go_enter Tryz.func56, Tryz.ntmps56
  go_wp2
  go_loop [3, 11] (fun s3 s11 => ∃ j : Nat, j ≤ nb ∧ s3 = .int .i64 (512 * j : Nat) ∧ s11 = .int .i64 j) (fun _ s => nb - (intOf s).toNat)
  case atStart => exact ⟨0, Nat.zero_le _, rfl, rfl⟩
  case round =>
    obtain ⟨j, hj, rfl, rfl⟩ := hrel
    by_cases hlt : j < nb
    · obtain ⟨q, hq⟩ : ∃ q, L[j]? = some q := ⟨L[j]'(by rw [HR.out.len]; exact hlt), List.getElem?_eq_getElem _⟩
      have c1 := HR.out.cell j q hq
      clear hq
      go_wp2
      go_round
      case rel => exact ⟨j + 1, by omega, by go_num, by go_num⟩
      case measure => simp [intOf]; omega
    · have e : j = nb := by omega
      subst e
      go_wp2_with (go_at_call 87; refine (grow_any _ (512 * j) (by omega) (by omega)).mono ?_; rintro e w1 ⟨g1, cap1, rfl, ho, hg, hb⟩; have H1 : Hid (OwnB w1 g1 cap1 (F.take (512 * 0)) ∧ w.heap.size ≤ g1 ∧ Below w.heap.size w w1) := ⟨ho, hg, hb⟩; clear ho hg hb)
      go_loopw [6, 27] (fun s6 s27 wr => ∃ (i g2 cap2 : Nat), i ≤ j ∧ s27 = .int .i64 i ∧ s6 = .slice (some ⟨g2, 0, none⟩) (512 * i : Nat) cap2 ∧ OwnB wr g2 cap2 (F.take (512 * i)) ∧ w.heap.size ≤ g2 ∧ Below w.heap.size w wr) (fun _ s _ => j - (intOf s).toNat)
      case atStart => exact ⟨0, g1, cap1, Nat.zero_le _, rfl, rfl, H1.out⟩
      case round =>
        obtain ⟨i, g2, cap2, hi, rfl, rfl, ho, hg, hb⟩ := hrel
        have H2 : Hid (OwnB wr g2 cap2 (F.take (512 * i)) ∧ w.heap.size ≤ g2 ∧ Below w.heap.size w wr) := ⟨ho, hg, hb⟩
        clear ho hg hb
        by_cases hlt : i < j
        · obtain ⟨q, hq⟩ : ∃ q, L[i]? = some q := ⟨L[i]'(by rw [HR.out.len]; exact hlt), List.getElem?_eq_getElem _⟩
          have c1 := (HR.out.on H2.out.2.2).cell i q hq
          have HQ : Hid (Bytes wr (some ⟨q.g, 0, none⟩) (bck F i) ∧ (bck F i).length = 512 ∧ (F.take (512 * i)).length = 512 * i) := by
            obtain ⟨e1, e2, _⟩ := (HR.out.on H2.out.2.2).at_ i q hq
            rw [Nat.zero_add] at e1
            have e3 := e2.bytes
            rw [e1] at e3
            exact ⟨e3, bck_length F i j HL.out hlt, by rw [List.length_take, HL.out]; omega⟩
          clear hq
          go_wp2_with (at_builtin; refine wp_app rfl (.tmp 31) (.tmp 32) rfl w.heap.size g2 (512 * i) cap2 (F.take (512 * i)) (bck F i) HQ.out.2.2 rfl H2.out.1 H2.out.2.1 H2.out.2.2.size (some ⟨q.g, 0, none⟩) 512 q.c rfl HQ.out.2.1 HQ.out.1 (fun e => by cases e) (by omega) ?_; intro g3 cap3 w3 hg ho hb; have H3 : Hid (OwnB w3 g3 cap3 (F.take (512 * (i + 1))) ∧ w.heap.size ≤ g3 ∧ Below w.heap.size w w3) := ⟨(by rw [take_bck]; exact ho), hg, H2.out.2.2.trans (below_of hb H2.out.2.1 H2.out.2.2.size)⟩; clear ho hg hb)
          go_round
          case rel => exact ⟨i + 1, g3, cap3, by omega, by go_num, by go_num, H3.out⟩
          case measure => simp [intOf]; omega
        · have e : i = j := by omega
          subst e
          go_wp2
          go_ret
          have := H2.out
          rw [List.take_of_length_le (by rw [HL.out]; omega)] at this
          exact ⟨g2, cap2, rfl, this⟩
end Go.Proofs.YtamlbpbhlgmcoaaGreatDoor

namespace Go.Proofs.YtamlbpbhlgmcoaaGreatDoor
open Go.RowKit Rec

set_option maxRecDepth 100000 in
set_option maxHeartbeats 1600000 in
theorem lay_any (w : World) (g cap nb num : Nat) (l x : List Int) (ad : Addr) (c : Nat) (hO : OwnB w g cap l) (hl : l.length = 512 * nb) (hn : num < nb) (hnb : nb ≤ 16384) (hb : Bytes w (some ad) x) (hx : x.length = 512) :
    Calls Tryz.prog 58 #[.slice (some ⟨g, 0, none⟩) (512 * nb : Nat) cap, .int .i64 num, .slice (some ad) 512 c] w fun e w' => e = .returned (.tuple #[]) ∧ OwnB w' g cap (wr l num x) ∧ Fr (fun k => k = g) w w' := by
  have hroom := hO.room
  rw [hl] at hroom
  have HC : Hid (∀ ty dLen dCap, 512 ≤ dLen → ∃ w', (Builtin.copy_ #[37, 37] ty #[.slice (some ⟨g, num * 512, none⟩) dLen dCap, .slice (some ad) 512 c]).run Tryz.prog w = .ok (.int .i64 512) w' ∧ OwnB w' g cap (wr l num x) ∧ Fr (fun k => k = g) w w') := fun ty dLen dCap hd => by
    have := copyB_run (off := num * 512) (dLen := dLen) (dCap := dCap) ty ad 512 c x hO hb hx hd (by omega)
    unfold wr
    rw [Nat.mul_comm 512 num]
    exact this
  have htop := hO.top
  unfold maxLen at htop
  clear hO hl hb
  go_enter Tryz.func58, Tryz.ntmps58
  go_wp2
  obtain ⟨w', hrun, h1, h2⟩ := HC.out 3 (512 * nb - num * 512) (cap - num * 512) (by omega)
  have H1 : Hid (OwnB w' g cap (wr l num x) ∧ Fr (fun k => k = g) w w') := ⟨h1, h2⟩
  clear HC h1 h2
  rw [hrun, Result.andThen_ok, Oper.upon_value]
  clear hrun
  go_wp2
  go_end0
  exact ⟨rfl, H1.out⟩
end Go.Proofs.YtamlbpbhlgmcoaaGreatDoor

namespace Go.Proofs.YtamlbpbhlgmcoaaGreatDoor
open Go.RowKit Rec

theorem LogAt.on {w0 w w' : World} {F : List Int} {nb : Nat} {v1 v2 : Value} {L : List Rb} (h : LogAt w0 w F nb v1 v2 L) (hb : Below w.heap.size w w') : LogAt w0 w' F nb v1 v2 L :=
  ⟨h.nums.on hb, h.data.on hb, h.bel.trans (hb.mono h.bel.size)⟩
/-- a number and its block -/
theorem LogAt.at_ {w0 w : World} {F : List Int} {nb k : Nat} {v1 v2 : Value} {L : List Rb} (h : LogAt w0 w F nb v1 v2 L) (hk : (logN F nb).length = k) (h0 : 0 < k) :
    ∃ gn cn gd cd, v1 = .slice (some ⟨gn, 0, none⟩) k cn ∧ v2 = .slice (some ⟨gd, 0, none⟩) k cd ∧ w0.heap.size ≤ gn ∧ w0.heap.size ≤ gd ∧ ∀ i, i < k → w.cell? ⟨gn, i, none⟩ = some (.int .i64 (nth (logN F nb) i)) ∧ ∃ g c, w.cell? ⟨gd, i, none⟩ = some (.slice (some ⟨g, 0, none⟩) 512 c) ∧ OwnB w g c (bck F (2 + i)) ∧ w0.heap.size ≤ g := by
  have hd := h.data
  rw [hk] at hd
  obtain ⟨gd, cd, rfl⟩ := own_some hd.row h0
  rcases h.nums with ⟨e, _⟩ | ⟨gn, cn, e, ho, hg⟩
  · rw [e] at hk; simp at hk; omega
  · rw [hk] at e
    refine ⟨gn, cn, gd, cd, e, rfl, hg, hd.far gd rfl, fun i hi => ⟨ho.cell i (by rw [hk]; exact hi), ?_⟩⟩
    obtain ⟨q, hq⟩ : ∃ q, L[i]? = some q := ⟨L[i]'(by rw [hd.len]; exact hi), List.getElem?_eq_getElem _⟩
    obtain ⟨e1, e2, e3⟩ := hd.at_ i q hq
    rw [e1] at e2
    exact ⟨q.g, q.c, hd.cell i q hq, e2, e3⟩
theorem logH_take (F : List Int) (nb j : Nat) (hj : j < (logN F nb).length) (m : Nat) (hm : nth (logN F nb) j = (m : Int)) : (logH F nb).take (j + 1) = (logH F nb).take j ++ [(m, bck F (2 + j))] := by
  have hl : (logH F nb).length = (logN F nb).length := homes_length _ _ (logD_length _ _)
  rw [List.take_add_one, List.getElem?_eq_getElem (by rw [hl]; exact hj)]
  have e := homes_get (logN F nb) (logD F (logN F nb).length) j (by rw [← hl] at hj; exact hj)
  rw [row_logD F _ j hj, hm] at e
  have e2 : (logH F nb)[j]'(by rw [hl]; exact hj) = (m, bck F (2 + j)) := e
  rw [e2]; rfl
set_option maxRecDepth 100000 in
set_option maxHeartbeats 1600000 in
theorem behind_no (w : World) (D : Dk) (h : Disk w D) (hT : TabAt w) (he : openE D ≠ 0) :
    Calls Tryz.prog 22 #[.pointer (some ⟨D.d, 0, none⟩)] w fun e w' => e = .returned (.tuple #[.slice none 0 0, .int .i64 (openE D)]) ∧ Below w.heap.size w w' := by
  have hmf : ∀ (fn : Fn) (first cap : Array Value) (w : World), (Instr.makeFunc fn first cap).run Tryz.prog w = .ok (.func fn first cap) w := fun _ _ _ _ => rfl
  have HB : Hid (Below w.heap.size w (w.alloc (.cells #[.int .i64 0] 26))) := (Below.refl _ _).alloc (Nat.le_refl _) _
  have HL : Hid (Calls Tryz.prog 54 #[.pointer (some ⟨D.d, 0, none⟩)] (w.alloc (.cells #[.int .i64 0] 26)) fun e w' => e = gave (openE D) ∧ Below (w.alloc (.cells #[.int .i64 0] 26)).heap.size (w.alloc (.cells #[.int .i64 0] 26)) w') := log_no _ D (h.on HB.out) (hT.on HB.out) he
  clear h hT he
  go_enter_defers Tryz.func22, Tryz.ntmps22
  go_wp2_with (go_at_call 54; refine HL.out.mono ?_; rintro e w1 ⟨rfl, hb⟩; have H1 : Hid (Below (w.alloc (.cells #[.int .i64 0] 26)).heap.size (w.alloc (.cells #[.int .i64 0] 26)) w1) := hb; clear hb)
  have hr : w1.heap[w.heap.size]? = some (.cells #[.int .i64 0] 26 (0, 0)) := (H1.out.block _ (heap_lt (heap_alloc_new w _))).trans (heap_alloc_new w _)
  refine leaves_cons (f := 55) (args := #[.pointer (some ⟨w.heap.size, 0, none⟩)]) (by simp) (by simp [go_sem]) ?_
  refine (catchB_panicking ⟨w.heap.size, 0, none⟩ 0 _ [] _ (by rw [cell_of_row _ _ _ _ _ _ hr]; rfl) (frozen_of_row _ _ _ _ _ hr)).mono ?_
  rintro e u' w'' ⟨rfl, rfl, rfl⟩
  have hc : (w1.setCell ⟨w.heap.size, 0, none⟩ (.int .i64 (openE D))).cell? ⟨w.heap.size, 0, none⟩ = some (.int .i64 (openE D)) := by rw [cell_of_row _ _ _ _ _ _ (heap_setCell_same _ _ _ _ _ _ hr)]; rfl
  have hbel : Below w.heap.size w (w1.setCell ⟨w.heap.size, 0, none⟩ (.int .i64 (openE D))) := (HB.out.trans (H1.out.mono HB.out.size)).trans (Fr.below Fr.set _ (fun k hk => by rw [hk]; exact Nat.le_refl _) (Nat.le_trans HB.out.size H1.out.size))
  simp [Leaves, settle, results, Tryz.results22, go_sem, hc]
  exact hbel
end Go.Proofs.YtamlbpbhlgmcoaaGreatDoor

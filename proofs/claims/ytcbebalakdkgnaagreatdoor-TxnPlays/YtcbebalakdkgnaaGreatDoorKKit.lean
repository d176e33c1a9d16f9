import Derived.Test.YtcbebalakdkgnaaGreatDoorKEight
import Derived.OwnWalk
import Derived.Deep.OwnRows
import Derived.WalkSpells
import Derived.Lib.BufferMore
import Derived.Laws.StructEq
import Derived.Test.YtcbebalakdkgnaaGreatDoorKMem
import Derived.SizedLaws
import Derived.Lib.SmallJoins
import Derived.Deep.Slices
namespace Go.Proofs.YtcbebalakdkgnaaGreatDoor
open Go.RowKit Rec

def zn (m : Nat) : List Int := List.replicate m 0
theorem zn_length (m : Nat) : (zn m).length = m := by simp [zn]
theorem nth_rep (m : Nat) (x : Int) (i : Nat) (h : i < m) : nth (List.replicate m x) i = x := by simp [nth, List.getD, h]
theorem wf_rep (m : Nat) (x : Int) (hx : 0 ≤ x ∧ x < 256) : ∀ i, 0 ≤ nth (List.replicate m x) i ∧ nth (List.replicate m x) i < 256 := fun i => by
  by_cases h : i < m
  · rw [nth_rep m x i h]; exact hx
  · rw [nth_out _ _ (by simp; omega)]; omega
theorem made_list (z : Value) (n : Nat) : (madeCells #[z] n).toList = List.replicate n z := toList_madeCells_one z n
/-- 'make([]byte, n)' -/
theorem wp_makeB {ops : Array Oper} {rest : List Oper} {o : Oper} {a : Act} {Q : Exit → Act → World → Prop} {w : World} (hg : o.guard = none) (l c : Operand) (hop : o.op = Op.makeSlice 42 l c)
    (kl kc : IntKind) (L C : Int) (n : Nat) (hl : a.eval l = .int kl L) (hc : a.eval c = .int kc C) (hL : L = (n : Int)) (hC : C = (n : Int)) (hn : n ≤ 281474976710656)
    (hK : ∀ w', OwnB w' w.heap.size n (zn n) → Below w.heap.size w w' → wpList Tryz.prog ops Q rest (a.put o.dst (.slice (some ⟨w.heap.size, 0, none⟩) n n)) w') :
    wpList Tryz.prog ops Q (o :: rest) a w := by
  obtain ⟨i0, hi, hz0, hz1, hz2⟩ := info_parts info5
  subst hL hC
  refine wpList_make_row w hg l c 42 hop 5 i0 _ Tryz.underlying42 hi hz0 hz1 rfl kl kc n hl hc (by rw [hz2]; omega) (by omega) ?_
  refine hK _ ⟨⟨_, heap_alloc_new _ _, ?_, ?_⟩, ?_, ?_, ?_, wf_rep n 0 (by omega)⟩ ((Below.refl _ _).alloc (Nat.le_refl _) _)
  · rw [← Array.length_toList, made_list, List.length_replicate]
  · rw [made_list, zn_length, zn, List.map_replicate, List.take_replicate, Nat.min_self]
  · rw [zn_length]; omega
  · rw [zn_length]; omega
  · unfold maxLen; omega
theorem info3 : (Tryz.prog.info? 3).map (fun i => (i.zero, i.size, i.bytes)) = some (some (.int .i64 0), 1, 8) := by kernel_rfl
/-- 'make([]int, n)' -/
theorem wp_makeI {ops : Array Oper} {rest : List Oper} {o : Oper} {a : Act} {Q : Exit → Act → World → Prop} {w : World} (hg : o.guard = none) (l c : Operand) (hop : o.op = Op.makeSlice 70 l c)
    (kl kc : IntKind) (L C : Int) (n : Nat) (hl : a.eval l = .int kl L) (hc : a.eval c = .int kc C) (hL : L = (n : Int)) (hC : C = (n : Int)) (hn : n ≤ 4294967296)
    (hK : ∀ w', w'.ownsRow 0 3 1 (.slice (some ⟨w.heap.size, 0, none⟩) n n) n ((zn n).map (Value.int .i64)) → Below w.heap.size w w' → wpList Tryz.prog ops Q rest (a.put o.dst (.slice (some ⟨w.heap.size, 0, none⟩) n n)) w') :
    wpList Tryz.prog ops Q (o :: rest) a w := by
  obtain ⟨i0, hi, hz0, hz1, hz2⟩ := info_parts info3
  subst hL hC
  refine wpList_make_row w hg l c 70 hop 3 i0 _ Tryz.underlying70 hi hz0 hz1 rfl kl kc n hl hc (by rw [hz2]; omega) (by omega) ?_
  refine hK _ ⟨by simp [zn], .inr ⟨_, _, _, rfl, Nat.zero_le _, heap_alloc_new _ _, Nat.le_refl _, by unfold maxLen; omega, ?_, ?_⟩⟩ ((Below.refl _ _).alloc (Nat.le_refl _) _)
  · rw [← Array.length_toList, made_list, List.length_replicate, Nat.mul_one]
  · rw [made_list, zn, List.map_replicate, List.take_replicate, Nat.mul_one, Nat.min_self]

theorem nth_app {a b : List Int} (i : Nat) : nth (a ++ b) i = if i < a.length then nth a i else nth b (i - a.length) := by
  unfold nth
  by_cases h : i < a.length
  · rw [if_pos h]; simp [List.getD, List.getElem?_append, h]
  · rw [if_neg h]; simp [List.getD, List.getElem?_append, h]
theorem ownB_of {w : World} {g n cap : Nat} {l : List Int} (h : w.ownsRow 0 5 1 (.slice (some ⟨g, 0, none⟩) n cap) n (l.map (Value.int .u8))) (hl : l.length = n) (hn : n ≤ 1000000000000000) (hw : ∀ i, 0 ≤ nth l i ∧ nth l i < 256) : OwnB w g cap l := by
  subst hl
  rcases h.2 with ⟨hv, _⟩ | ⟨g', cap', cur, hv, h1, hg, h2, h3, h4, h5⟩
  · cases hv
  · cases hv
    exact ⟨⟨cur, hg, by omega, by simpa using h5⟩, hn, h2, h3, hw⟩
/-- append of bytes to nil or one's own -/
theorem wp_bown {ops : Array Oper} {rest : List Oper} {o : Oper} {a : Act} {Q : Exit → Act → World → Prop} {w : World} (hgd : o.guard = none) (s x : Operand)
    (ho : o.op = .call { callee := .builtin .append, args := #[s, x], argTypes := #[42, 42] }) (v : Value) (k : Nat) (l : List Int) (hs : a.eval s = v) (hown : w.ownsRow 0 5 1 v k (l.map (Value.int .u8)))
    (ad : Addr) (m c : Nat) (y : List Int) (hx : a.eval x = .slice (some ad) m c) (hm : 0 < m) (hl : y.length = m) (hb : Bytes w (some ad) y) (h47 : k + m ≤ 140737488355328)
    (h : ∀ g cap w', w'.ownsRow 0 5 1 (.slice (some ⟨g, 0, none⟩) (k + m) cap) (k + m) ((l ++ y).map (Value.int .u8)) → Fr (fun k => v.ownBlock = some k) w w' → (v.ownBlock = some g ∨ w.heap.size ≤ g) → wpList Tryz.prog ops Q rest (a.put o.dst (.slice (some ⟨g, 0, none⟩) (k + m) cap)) w') :
    wpList Tryz.prog ops Q (o :: rest) a w := by
  obtain ⟨i0, hi, hz0, hz1, hz2⟩ := info_parts info5
  refine wp_own hgd s x 42 ho 5 i0 _ 1 1 Tryz.underlying42 hi hz0 hz1 hz2 rfl (by decide) v k _ hs hown ad m c (y.map (Value.int .u8)) hx hm (by rw [List.length_map, hl, Nat.mul_one]) hb.news (cells_u8 y) (by unfold maxLen; omega) (by omega) ?_
  intro g cap w' h1 h2 h3
  rw [← List.map_append] at h1
  exact h g cap w' h1 h2 h3
theorem str_opt {w : World} {a : Option Addr} {n c : Nat} {l : List Int} (hB : Bytes w a l) (hn : l.length = n) : (convert 42 9 (.slice a n c)).run Tryz.prog w = .ok (.string (strOfNums l)) w := by
  cases a with
  | none =>
    have hl := hB.nil
    subst hl
    simp at hn
    subst hn
    exact run_convert_bytes_nil (P := Tryz.prog) w 42 5 Tryz.underlying42 Tryz.underlying5 0 c 9 Tryz.underlying9
  | some p =>
    rcases hB.at_ with e | ⟨b, off, e, hc⟩
    · subst e
      simp at hn
      subst hn
      rw [run_convert_bytes_string w 42 9 5 _ 0 c Tryz.underlying42 Tryz.underlying5 Tryz.underlying9]
      have hl : (loadCells p 0).run Tryz.prog w = .ok ((([] : List Int).map (Value.int .u8)).toArray) w := by
        have := run_loadCells_list (P := Tryz.prog) w p [] (fun j v h => by simp at h)
        simpa using this
      rw [run_bytesToString w p 0 c [] hl]
      rfl
    · cases e
      exact run_convert_bytes_arg (P := Tryz.prog) w 42 5 Tryz.underlying42 Tryz.underlying5 b off n c l hn (fun i hi => hc i (by omega)) 9 Tryz.underlying9
theorem owns_set {w : World} {g n cap e : Nat} {xs : List Value} (h : w.ownsRow 0 e 1 (.slice (some ⟨g, 0, none⟩) n cap) n xs) (k : Nat) (v : Value) : (w.setCell ⟨g, k, none⟩ v).ownsRow 0 e 1 (.slice (some ⟨g, 0, none⟩) n cap) n (xs.set k v) := by
  refine ⟨by rw [List.length_set]; exact h.1, ?_⟩
  rcases h.2 with ⟨h1, _⟩ | ⟨g', cap', cur, h1, h2, h3, h4, h5, h6, h7⟩
  · cases h1
  · cases h1
    exact .inr ⟨_, _, _, rfl, h2, heap_setCell_same _ _ _ _ _ _ h3, h4, h5, by simpa using h6, by rw [Array.toList_setIfInBounds, List.take_set, h7]⟩

set_option maxRecDepth 100000 in
set_option maxHeartbeats 800000 in
theorem clone_any (w : World) (p : Addr) (n c : Nat) (l : List Int) (hb : Bytes w (some p) l) (hn : l.length = n) (h47 : n ≤ 140737488355328) :
    Calls Tryz.prog 139 #[.slice (some p) n c] w fun e w' => ∃ g cap, e = .returned (.slice (some ⟨g, 0, none⟩) n cap) ∧ w.heap.size ≤ g ∧ OwnB w' g cap l ∧ Below w.heap.size w w' := by
  have HB : Hid (Bytes w (some p) l) := hb
  have HN : Hid (l.length = n) := hn
  clear hb hn
  go_enter Tryz.func139, Tryz.ntmps139
  have E1 : ∀ w : World, (binOp .eql 42 (.slice (some p) n c) (.slice none 0 0)).run Tryz.prog w = .ok (.bool false) w := fun w => Go.Lib.run_eql_slice_some_nil w p n c Tryz.underlying42
  have HA : Hid (Below w.heap.size w (w.alloc (.cells #[] 5))) := (Below.refl _ _).alloc (Nat.le_refl _) _
  have HE : Hid (OwnB (w.alloc (.cells #[] 5)) w.heap.size 0 []) := own_empty (heap_alloc_new _ _)
  go_wp2_with (at_builtin; refine wp_app rfl (.tmp 5) (.tmp 6) rfl w.heap.size w.heap.size 0 0 [] l rfl rfl HE.out (Nat.le_refl _) HA.out.size (some p) n c rfl HN.out (HB.out.on HA.out) (fun h => by cases h) (by omega) ?_; intro g cap w2 hg ho hgr; have HG : Hid (w.heap.size ≤ g ∧ OwnB w2 g cap l ∧ Below w.heap.size w w2) := ⟨hg, ho, HA.out.grown hgr HA.out.size (by intro k hk; cases hk; exact Nat.le_refl _)⟩; clear hg ho hgr)
  go_ret
  exact ⟨_, _, rfl, HG.out.1, HG.out.2.1, HG.out.2.2⟩
theorem make512 : ∃ o : Obj, (∀ w : World, (Instr.makeSlice 42 (.int .i64 512) (.int .i64 512)).run Tryz.prog w = .ok (.slice (some ⟨w.heap.size, 0, none⟩) 512 512) (w.alloc o)) ∧ ∀ w : World, OwnB (w.alloc o) w.heap.size 512 (zn 512) := by
  obtain ⟨i0, hi, hz0, hz1, hz2⟩ := info_parts info5
  refine ⟨.cells (madeCells #[.int .u8 0] 512) 5, fun w => run_make_row (P := Tryz.prog) 42 5 i0 _ Tryz.underlying42 hi hz0 hz1 rfl .i64 .i64 512 (by rw [hz2]; omega) (by omega) w, fun w => ?_⟩
  refine ⟨⟨_, heap_alloc_new _ _, ?_, ?_⟩, ?_, ?_, ?_, wf_rep 512 0 (by omega)⟩
  · rw [← Array.length_toList, made_list, List.length_replicate]
  · rw [made_list, zn_length, zn, List.map_replicate, List.take_replicate, Nat.min_self]
  · rw [zn_length]; omega
  · rw [zn_length]; omega
  · unfold maxLen; omega
theorem sb_str {l : List Int} (h : ∀ i, 0 ≤ nth l i ∧ nth l i < 256) : sb (strOfNums l) = l := by
  have e : sb (strOfNums l) = l.map fun n => ((UInt8.ofNat n.toNat).toNat : Int) := by
    unfold sb
    rw [strOfNums_data, List.map_map]; rfl
  rw [e]
  refine ext_nth (by simp) fun i hi => ?_
  have hi' : i < l.length := by simpa using hi
  have h1 : nth (l.map fun n => ((UInt8.ofNat n.toNat).toNat : Int)) i = ((UInt8.ofNat (nth l i).toNat).toNat : Int) := by
    simp [nth, List.getD, hi']
  rw [h1]
  have := h i
  rw [UInt8.toNat_ofNat']
  omega
end Go.Proofs.YtcbebalakdkgnaaGreatDoor

namespace Go.Proofs.YtcbebalakdkgnaaGreatDoor
open Go.RowKit Rec

theorem bytes_of_list {a b : ByteArray} (h : a.toList = b.toList) : a = b := by
  rw [ByteArray.toList_eq, ByteArray.toList_eq] at h
  obtain ⟨⟨x⟩⟩ := a
  obtain ⟨⟨y⟩⟩ := b
  cases h; rfl
/-- the text of the first eight bytes -/
def magS : ByteArray := { data := #[66, 79, 76, 69, 76, 79, 71, 49] }
theorem magS_nums : sb magS = mag := by decide
theorem str_mag : strOfNums mag = magS := by decide +kernel
theorem fld8 (h : List Int) : fld h 0 8 = h.take 8 := by unfold fld; rfl
/-- what is read there -/
theorem text8 (h : List Int) (hn : h.length = 512) (hw : ∀ i, 0 ≤ nth h i ∧ nth h i < 256) :
    ∃ (S : ByteArray) (E : Int), ((cl h 0 8 = true ∧ S = strOfNums (fld h 0 (fz h 0 8)) ∧ E = 0) ∨ (cl h 0 8 = false ∧ S = strOfNums [] ∧ E = 1)) ∧ (S = magS ↔ h.take 8 = mag) := by
  have back : ∀ x : List Int, (∀ i, 0 ≤ nth x i ∧ nth x i < 256) → strOfNums x = magS → x = mag := fun x hx e => by
    rw [← sb_str hx, e, magS_nums]
  by_cases hc : cl h 0 8 = true
  · refine ⟨_, _, .inl ⟨hc, rfl, rfl⟩, ?_⟩
    obtain ⟨z1, z2, z3⟩ := fz_spec h 0 8
    constructor
    · intro e
      have e2 := back _ (wf_fld hw _ _) e
      have hl := congrArg List.length e2
      rw [fld_length h 0 _ (by omega), mag_len] at hl
      rw [hl, fld8] at e2
      exact e2
    · intro e
      have hz : fz h 0 8 = 8 := by
        refine fz_eq _ _ _ _ (Nat.le_refl _) (fun i hi => ?_) (fun h => absurd h (by omega))
        rw [Nat.zero_add, ((take8 h hn).1 e) i hi]
        have : i = 0 ∨ i = 1 ∨ i = 2 ∨ i = 3 ∨ i = 4 ∨ i = 5 ∨ i = 6 ∨ i = 7 := by omega
        rcases this with rfl | rfl | rfl | rfl | rfl | rfl | rfl | rfl <;> decide
      rw [hz, fld8, e, str_mag]
  · have hc : cl h 0 8 = false := by simpa using hc
    refine ⟨_, _, .inr ⟨hc, rfl, rfl⟩, ?_⟩
    constructor
    · intro e
      have := back [] (fun i => by simp [nth]) e
      exact absurd this (by decide)
    · intro e
      have hz : fz h 0 8 = 8 := by
        refine fz_eq _ _ _ _ (Nat.le_refl _) (fun i hi => ?_) (fun h => absurd h (by omega))
        rw [Nat.zero_add, ((take8 h hn).1 e) i hi]
        have : i = 0 ∨ i = 1 ∨ i = 2 ∨ i = 3 ∨ i = 4 ∨ i = 5 ∨ i = 6 ∨ i = 7 := by omega
        rcases this with rfl | rfl | rfl | rfl | rfl | rfl | rfl | rfl <;> decide
      unfold cl at hc
      rw [hz, zr_true _ _ _ (fun i hi => absurd hi (by omega))] at hc
      cases hc
set_option maxRecDepth 100000 in
set_option maxHeartbeats 1600000 in
theorem countOf_any (w : World) (b off c : Nat) (h : List Int) (hn : h.length = 512) (hO : Bytes w (some ⟨b, off, none⟩) h) (hc : 512 ≤ c) (hT : TabAt w) :
    Calls Tryz.prog 118 #[.slice (some ⟨b, off, none⟩) 512 c] w fun e w' => e = .returned (.tuple #[.int .i64 (cnt h), .bool (form h)]) ∧ w = w' := by
  obtain ⟨S, E, hR, hS⟩ := text8 h hn hO.wf
  have H1 : Hid (Calls Tryz.prog 143 #[.slice (some ⟨b, off, none⟩) 512 c, .int .i64 (0 : Nat), .int .i64 (8 : Nat)] w fun e w' => e = .returned (.tuple #[.string S, .int .i64 E]) ∧ w = w') := text_in w b off 512 c 0 8 h S E hn hO hc (by omega) hR
  have H2 : Hid (Calls Tryz.prog 142 #[.slice (some ⟨b, off, none⟩) 512 c, .int .i64 (10 : Nat), .int .i64 (2 : Nat)] w fun e w' => e = .returned (.tuple #[.bool (zr h 10 2), .int .i64 0]) ∧ w = w') := zero_in w b off 512 c 10 2 h hn hO hc (by omega)
  have H3 : Hid (Calls Tryz.prog 120 #[.slice (some ⟨b, off, none⟩) 512 c, .int .i64 (8 : Nat), .int .i64 (2 : Nat)] w fun e w' => e = .returned (.tuple #[.int .u64 (num h 8 2), .int .i64 0]) ∧ w = w') := get_in w b off 512 c 8 2 h hn hO hc hT rfl (by omega)
  have hb := num_bd h 8 2 hO.wf
  have e2 : (256 : Int) ^ 2 = 65536 := rfl
  rw [e2] at hb
  have HF : Hid (form h = (decide (S = magS) && zr h 10 2 && (decide (1 ≤ num h 8 2) && decide (num h 8 2 ≤ 96)))) := by
    show form h = _
    unfold form cnt
    have a1 : decide (h.take 8 = mag) = decide (S = magS) := decide_eq_decide.2 hS.symm
    have a2 : (nth h 10 == 0 && nth h 11 == 0) = zr h 10 2 := by
      rw [Bool.eq_iff_iff]
      simp only [zr, Bool.and_eq_true, beq_iff_eq, decide_eq_true_eq]
      constructor
      · rintro ⟨x, y⟩ i hi
        have : i = 0 ∨ i = 1 := by omega
        rcases this with rfl | rfl
        · exact x
        · exact y
      · intro x; exact ⟨x 0 (by omega), x 1 (by omega)⟩
    have a3 : decide (1 ≤ (num h 8 2).toNat) = decide (1 ≤ num h 8 2) := decide_eq_decide.2 (by omega)
    have a4 : decide ((num h 8 2).toNat ≤ 96) = decide (num h 8 2 ≤ 96) := decide_eq_decide.2 (by omega)
    rw [a1, a2, a3, a4]
  have HV : Hid (((cnt h : Nat) : Int) = num h 8 2) := by show _ = _; unfold cnt; omega
  generalize num h 8 2 = v at *
  generalize zr h 10 2 = z at *
  clear hn hO hT hR hS e2
  by_cases hs : S = magS
  · subst hs
    have HF : Hid (form h = (z && (decide (1 ≤ v) && decide (v ≤ 96)))) := by show _ = _; rw [HF.out]; simp
    cases z with
    | true =>
      go_enter Tryz.func118, Tryz.ntmps118
      go_wp2_with (first
        | (go_at_call 143; refine H1.out.mono ?_; rintro e w' ⟨rfl, rfl⟩; unfold magS)
        | (go_at_call 142; refine H2.out.mono ?_; rintro e w' ⟨rfl, rfl⟩)
        | (go_at_call 120; refine H3.out.mono ?_; rintro e w' ⟨rfl, rfl⟩)
        | (go_at_call 104; refine (isCount_any _ _).mono ?_; rintro e w' ⟨rfl, rfl⟩))
      go_ret2
      exact ⟨by rw [HF.out, HV.out]; rfl, rfl⟩
    | false =>
      go_enter Tryz.func118, Tryz.ntmps118
      go_wp2_with (first
        | (go_at_call 143; refine H1.out.mono ?_; rintro e w' ⟨rfl, rfl⟩; unfold magS)
        | (go_at_call 142; refine H2.out.mono ?_; rintro e w' ⟨rfl, rfl⟩)
        | (go_at_call 120; refine H3.out.mono ?_; rintro e w' ⟨rfl, rfl⟩)
        | (go_at_call 104; refine (isCount_any _ _).mono ?_; rintro e w' ⟨rfl, rfl⟩))
      go_ret2
      exact ⟨by rw [HF.out, HV.out]; rfl, rfl⟩
  · have HF : Hid (form h = false) := by show _ = _; rw [HF.out]; simp [hs]
    have HS : Hid (¬ S = magS) := hs
    have hs' : ¬ S.toList = [66, 79, 76, 69, 76, 79, 71, 49] := fun e => hs (bytes_of_list (e.trans (by decide +kernel)))
    clear hs
    go_enter Tryz.func118, Tryz.ntmps118
    go_wp2_with (first
      | (go_at_call 143; refine H1.out.mono ?_; rintro e w' ⟨rfl, rfl⟩)
      | (go_at_call 142; refine H2.out.mono ?_; rintro e w' ⟨rfl, rfl⟩)
      | (go_at_call 120; refine H3.out.mono ?_; rintro e w' ⟨rfl, rfl⟩)
      | (go_at_call 104; refine (isCount_any _ _).mono ?_; rintro e w' ⟨rfl, rfl⟩))
    go_ret2
    exact ⟨by rw [HF.out, HV.out]; rfl, rfl⟩
end Go.Proofs.YtcbebalakdkgnaaGreatDoor

namespace Go.Proofs.YtcbebalakdkgnaaGreatDoor
open Go.RowKit Rec

theorem nth_cellI (l : List Int) (k : Nat) (h : k < l.length) : ((l.map (Value.int .i64)).toArray)[k]? = some (.int .i64 (nth l k)) := by
  simp [nth, List.getD, h]
/-- numbers in a row of one's own -/
structure OwnI (w : World) (g cap : Nat) (l : List Int) : Prop where
  row : ∃ cur : Array Value, w.heap[g]? = some (.cells cur 3 (0, 0)) ∧ cur.size = cap ∧ cur.toList.take l.length = l.map (Value.int .i64)
  len : l.length ≤ 1000000000000000
  room : l.length ≤ cap
  top : cap ≤ maxLen
theorem OwnI.cell {w : World} {g cap : Nat} {l : List Int} (h : OwnI w g cap l) (i : Nat) (hi : i < l.length) : w.cell? ⟨g, i, none⟩ = some (.int .i64 (nth l i)) := by
  obtain ⟨cur, hg, _, ht⟩ := h.row
  rw [cell_of_row _ _ _ _ _ _ hg, ← nth_cellI l i hi, ← ht]
  simp [hi]
theorem OwnI.frozen {w : World} {g cap : Nat} {l : List Int} (h : OwnI w g cap l) (i : Nat) : w.frozen? ⟨g, i, none⟩ = false := by
  obtain ⟨cur, hg, _, _⟩ := h.row
  exact frozen_of_row _ _ _ _ _ hg
theorem OwnI.ints {w : World} {g cap : Nat} {l : List Int} (h : OwnI w g cap l) : Ints w (some ⟨g, 0, none⟩) l :=
  ⟨h.len, .inr ⟨g, 0, rfl, fun i hi => by rw [Nat.zero_add]; exact h.cell i hi⟩⟩
theorem OwnI.lt {w : World} {g cap : Nat} {l : List Int} (h : OwnI w g cap l) : g < w.heap.size := by
  obtain ⟨cur, hg, _, _⟩ := h.row
  exact heap_lt hg
theorem OwnI.fr {S : Nat → Prop} {w w' : World} {g cap : Nat} {l : List Int} (h : OwnI w g cap l) (x : Fr S w w') (hr : ¬ S g) : OwnI w' g cap l := by
  obtain ⟨cur, hg, h2, h3⟩ := h.row
  exact ⟨⟨cur, x.heap hg hr, h2, h3⟩, h.len, h.room, h.top⟩
theorem OwnI.on {w w' : World} {g cap : Nat} {l : List Int} (h : OwnI w g cap l) (hb : Below w.heap.size w w') : OwnI w' g cap l := h.fr (below_fr hb (fun _ => False)) (fun e => e)
theorem OwnB.fr {S : Nat → Prop} {w w' : World} {g cap : Nat} {l : List Int} (h : OwnB w g cap l) (x : Fr S w w') (hr : ¬ S g) : OwnB w' g cap l := by
  obtain ⟨cur, hg, h2, h3⟩ := h.row
  exact ⟨⟨cur, x.heap hg hr, h2, h3⟩, h.len, h.room, h.top, h.wf⟩
theorem OwnI.set {w : World} {g cap : Nat} {l : List Int} (h : OwnI w g cap l) (k : Nat) (c : Int) :
    OwnI (w.setCell ⟨g, k, none⟩ (.int .i64 c)) g cap (l.set k c) := by
  obtain ⟨cur, hg, h2, h3⟩ := h.row
  refine ⟨⟨cur.setIfInBounds k (.int .i64 c), heap_setCell_same _ _ _ _ _ _ hg, by simp [h2], ?_⟩, by simpa using h.len, by simpa using h.room, h.top⟩
  rw [List.length_set, Array.toList_setIfInBounds, List.take_set, h3, List.map_set]
theorem OwnI.of {w : World} {g n cap : Nat} {l : List Int} (h : w.ownsRow 0 3 1 (.slice (some ⟨g, 0, none⟩) n cap) n (l.map (Value.int .i64))) (hl : l.length = n) (hn : n ≤ 1000000000000000) : OwnI w g cap l := by
  subst hl
  rcases h.2 with ⟨hv, _⟩ | ⟨g', cap', cur, hv, h1, hg, h2, h3, h4, h5⟩
  · cases hv
  · cases hv
    exact ⟨⟨cur, hg, by omega, by simpa using h5⟩, hn, h2, h3⟩
/-- some of the numbers -/
def upd (h : List Int) (K j : Nat) : List Int := (List.range K).map fun i => if i < j then num h (16 + 4 * i) 4 else 0
theorem upd_length (h : List Int) (K j : Nat) : (upd h K j).length = K := by simp [upd]
theorem upd_zero (h : List Int) (K : Nat) : upd h K 0 = zn K := by
  refine ext_nth (by rw [upd_length, zn_length]) fun i hi => ?_
  rw [upd_length] at hi
  rw [upd, nth_map _ _ _ hi, if_neg (by omega), zn, nth_rep _ _ _ hi]
theorem upd_succ (h : List Int) (K j : Nat) (hj : j < K) : (upd h K j).set j (num h (16 + 4 * j) 4) = upd h K (j + 1) := by
  refine ext_nth (by rw [List.length_set, upd_length, upd_length]) fun i hi => ?_
  rw [List.length_set, upd_length] at hi
  rw [nth_set _ _ _ _ (by rw [upd_length]; exact hj), upd, upd, nth_map _ _ _ hi, nth_map _ _ _ hi]
  by_cases e : i = j
  · subst e; rw [if_pos rfl, if_pos (by omega)]
  · rw [if_neg e]
    by_cases e2 : i < j
    · rw [if_pos e2, if_pos (by omega)]
    · rw [if_neg e2, if_neg (by omega)]
theorem upd_all (h : List Int) : upd h (cnt h) (cnt h) = nsOf h := by
  refine ext_nth (by rw [upd_length]; simp [nsOf]) fun i hi => ?_
  rw [upd_length] at hi
  rw [upd, nth_map _ _ _ hi, if_pos hi, nsOf, nth_map _ _ _ hi]

set_option maxRecDepth 100000 in
set_option maxHeartbeats 1600000 in
theorem numsOf_any (w : World) (b off c K : Nat) (h : List Int) (hn : h.length = 512) (hO : Bytes w (some ⟨b, off, none⟩) h) (hc : 512 ≤ c) (hT : TabAt w) (hK : K ≤ 96) :
    Calls Tryz.prog 119 #[.slice (some ⟨b, off, none⟩) 512 c, .int .i64 K] w fun e w' => ∃ g cap, e = .returned (.slice (some ⟨g, 0, none⟩) K cap) ∧ OwnI w' g cap (upd h K K) ∧ w.heap.size ≤ g ∧ Below w.heap.size w w' := by
  have HG : Hid (∀ wx, Below w.heap.size w wx → ∀ j : Nat, j < K → Calls Tryz.prog 120 #[.slice (some ⟨b, off, none⟩) 512 c, .int .i64 ((16 + 4 * j : Nat) : Int), .int .i64 (4 : Nat)] wx fun e w' => e = .returned (.tuple #[.int .u64 (num h (16 + 4 * j) 4), .int .i64 0]) ∧ wx = w') := fun wx hx j hj => get_in wx b off 512 c (16 + 4 * j) 4 h hn (hO.on hx) hc (hT.on hx) rfl (by omega)
  have HW : Hid (∀ j : Nat, 0 ≤ num h (16 + 4 * j) 4 ∧ num h (16 + 4 * j) 4 < 4294967296) := fun j => num_bd h _ 4 hO.wf
  clear hn hO hT
  go_enter Tryz.func119, Tryz.ntmps119
  go_wp2_with (at_make; refine wp_makeI rfl _ _ rfl _ _ _ _ K rfl rfl (by omega) (by omega) (by omega) ?_; intro w1 ho hb; have HO : Hid (OwnI w1 w.heap.size K (zn K)) := OwnI.of ho (zn_length K) (by omega); have HB : Hid (Below w.heap.size w w1) := hb; clear ho hb)
  go_loopw [13] (fun i wr => ∃ j : Nat, j ≤ K ∧ i = .int .i64 j ∧ OwnI wr w.heap.size K (upd h K j) ∧ Below w.heap.size w wr) (fun i _ => K - (intOf i).toNat)
  case atStart => exact ⟨0, Nat.zero_le _, rfl, by rw [upd_zero]; exact HO.out, HB.out⟩
  case round =>
    obtain ⟨j, hj, rfl, ho, hb⟩ := hrel
    have HO2 : Hid (OwnI wr w.heap.size K (upd h K j)) := ho
    have HB2 : Hid (Below w.heap.size w wr) := hb
    clear ho hb
    by_cases hlt : j < K
    · have c1 := HO2.out.cell j (by rw [upd_length]; exact hlt)
      have f1 := HO2.out.frozen j
      have b1 := HW.out j
      obtain ⟨v, hv⟩ : ∃ v, num h (16 + 4 * j) 4 = v := ⟨_, rfl⟩
      have HV : Hid (num h (16 + 4 * j) 4 = v) := hv
      rw [hv] at b1
      clear hv
      go_wp2_with (first
        | (go_at_call 109; refine (numAt_any _ j (by omega)).mono ?_; rintro e w' ⟨rfl, rfl⟩)
        | (go_at_call 120; refine (HG.out _ HB2.out j hlt).mono ?_; rintro e w' ⟨rfl, rfl⟩; rw [HV.out]))
      go_round
      case rel =>
        refine ⟨j + 1, by omega, by go_num, ?_, HB2.out.trans (Fr.below Fr.set _ (fun k hk => by rw [hk]; exact Nat.le_refl _) HB2.out.size)⟩
        have := HO2.out.set j v
        rw [← HV.out, upd_succ h K j hlt, HV.out] at this
        exact this
      case measure => simp [intOf]; omega
    · obtain rfl : j = K := by omega
      go_wp2
      go_ret
      exact ⟨_, _, rfl, HO2.out, Nat.le_refl _, HB2.out⟩

theorem flat_succ (ds : List (List Int)) (j : Nat) (h : j < ds.length) : (ds.take (j + 1)).flatten = (ds.take j).flatten ++ row ds j := by
  rw [List.take_succ_eq_append_getElem h, List.flatten_append]
  simp [row, List.getD, h]
theorem flat_len (ds : List (List Int)) (hb : ∀ i, i < ds.length → (row ds i).length = 512) : ∀ j, j ≤ ds.length → (ds.take j).flatten.length = 512 * j
  | 0, _ => by simp
  | j + 1, h => by
    rw [flat_succ ds j h, List.length_append, flat_len ds hb j (by omega), hb j h]; omega
theorem Data.cell {w : World} {b off i : Nat} {ds : List (List Int)} (h : Data w (some ⟨b, off, none⟩) ds) (hi : i < ds.length) : ∃ a' c, w.cell? ⟨b, off + i, none⟩ = some (.slice a' (row ds i).length c) ∧ Bytes w a' (row ds i) ∧ (a' = none → c = 0) := by
  rcases h.at_ with e | ⟨b', off', e, hc⟩
  · subst e; exact absurd hi (by simp)
  · cases e; exact hc i hi
set_option maxRecDepth 100000 in
set_option maxHeartbeats 1600000 in
theorem sumOf_some (w : World) (b off c db doff k dc : Nat) (h : List Int) (ds : List (List Int)) (hn : h.length = 512) (hO : Bytes w (some ⟨b, off, none⟩) h) (hT : TabAt w) (hD : Data w (some ⟨db, doff, none⟩) ds) (hk : ds.length = k) (hk96 : k ≤ 96) (hbl : ∀ i, i < k → (row ds i).length = 512) :
    Calls Tryz.prog 110 #[.slice (some ⟨b, off, none⟩) 512 c, .slice (some ⟨db, doff, none⟩) k dc] w fun e w' => e = .returned (.int .u32 (sumV h ds)) ∧ Below w.heap.size w w' := by
  have HH : Hid (Bytes w (some ⟨b, off, none⟩) h) := hO
  have HL : Hid (h.length = 512) := hn
  have HT : Hid (∀ wx, Below w.heap.size w wx → TabAt wx) := fun wx hx => hT.on hx
  have HD : Hid (∀ wx, Below w.heap.size w wx → ∀ j, j < k → ∃ b' o' c', wx.cell? ⟨db, doff + j, none⟩ = some (.slice (some ⟨b', o', none⟩) 512 c') ∧ Bytes wx (some ⟨b', o', none⟩) (row ds j)) := fun wx hx j hj => by
    obtain ⟨a', c', h1, h2, h3⟩ := (hD.on hx).cell (i := j) (by omega)
    have hr := hbl j hj
    rw [hr] at h1
    rcases h2.at_ with e | ⟨b', o', rfl, _⟩
    · rw [e] at hr; simp at hr
    · exact ⟨b', o', c', h1, h2⟩
  have HK : Hid (ds.length = k) := hk
  have HR : Hid (∀ i, i < k → (row ds i).length = 512) := hbl
  have HFl : Hid (∀ j, j ≤ k → (ds.take j).flatten.length = 512 * j) := fun j hj => flat_len ds (fun i hi => hbl i (by omega)) j (by omega)
  clear hO hn hT hD hk hbl
  go_enter Tryz.func110, Tryz.ntmps110
  go_wp2_with (go_at_call 139; refine (clone_any _ _ _ _ h HH.out HL.out (by omega)).mono ?_; rintro e w1 ⟨g, cap, rfl, hg, ho, hb⟩; have H1 : Hid (w.heap.size ≤ g ∧ OwnB w1 g cap h ∧ Below w.heap.size w w1) := ⟨hg, ho, hb⟩; have hcp : 512 ≤ cap := (by have := ho.room; rw [HL.out] at this; exact this); clear hg ho hb)
  obtain ⟨w2, hr2, ho2, hg2⟩ := clear_run (off := 12) (B := 12) (k := 4) (c := cap - 12) 0 H1.out.2.1 (by omega) (by rw [HL.out]; omega)
  have H2 : Hid (OwnB w2 g cap (ov h 12 4 (fun _ => 0)) ∧ Below w.heap.size w w2) := ⟨ho2, H1.out.2.2.grown hg2 H1.out.2.2.size (by intro k hk; cases hk; exact H1.out.1)⟩
  rw [hr2, Result.andThen_ok, Oper.upon_value]
  clear ho2 hg2 hr2
  go_wp2
  go_loopw [5, 14] (fun s i wr => ∃ (j g' cap' : Nat), j ≤ k ∧ i = .int .i64 j ∧ s = .slice (some ⟨g', 0, none⟩) (512 + 512 * j) cap' ∧ OwnB wr g' cap' (ov h 12 4 (fun _ => 0) ++ (ds.take j).flatten) ∧ w.heap.size ≤ g' ∧ Below w.heap.size w wr) (fun _ i _ => k - (intOf i).toNat)
  case atStart => exact ⟨0, g, cap, Nat.zero_le _, rfl, rfl, by simpa using H2.out.1, H1.out.1, H2.out.2⟩
  case round =>
    obtain ⟨j, g', cap', hj, rfl, rfl, ho, hg, hb⟩ := hrel
    have H3 : Hid (OwnB wr g' cap' (ov h 12 4 (fun _ => 0) ++ (ds.take j).flatten) ∧ w.heap.size ≤ g' ∧ Below w.heap.size w wr) := ⟨ho, hg, hb⟩
    have HL3 : Hid ((ov h 12 4 (fun _ => 0) ++ (ds.take j).flatten).length = 512 + 512 * j) := by show _ = _; rw [List.length_append, ov_length, HL.out, HFl.out j hj]
    clear ho hg hb
    by_cases hlt : j < k
    · obtain ⟨b', o', c', d1, d2⟩ := HD.out _ H3.out.2.2 j hlt
      have HB : Hid (Bytes wr (some ⟨b', o', none⟩) (row ds j)) := d2
      clear d2
      go_wp2_with (at_builtin; refine wp_app rfl (.tmp 18) (.tmp 19) rfl w.heap.size g' (512 + 512 * j) cap' _ (row ds j) HL3.out rfl H3.out.1 H3.out.2.1 H3.out.2.2.size (some ⟨b', o', none⟩) 512 c' rfl (HR.out j hlt) HB.out (fun h => by cases h) (by omega) ?_; intro g4 cap4 w4 hg4 ho4 hgr; have H4 : Hid (w.heap.size ≤ g4 ∧ OwnB w4 g4 cap4 (ov h 12 4 (fun _ => 0) ++ (ds.take (j + 1)).flatten) ∧ Below w.heap.size w w4) := ⟨hg4, by rw [flat_succ ds j (by rw [HK.out]; exact hlt), ← List.append_assoc]; exact ho4, H3.out.2.2.grown hgr H3.out.2.2.size (by intro k hk; cases hk; exact H3.out.2.1)⟩; clear hg4 ho4 hgr)
      go_round
      case rel => exact ⟨j + 1, g4, cap4, by omega, by go_num, by congr 1, H4.out.2.1, H4.out.1, H4.out.2.2⟩
      case measure => simp [intOf]; omega
    · obtain rfl : j = k := by omega
      go_wp2_with (go_at_call 140; refine (of_any _ _ (512 + 512 * j) cap' _ HL3.out (HT.out _ H3.out.2.2) H3.out.1.bytes).mono ?_; rintro e w' ⟨rfl, rfl⟩)
      go_ret
      refine ⟨?_, H3.out.2.2⟩
      have e : ds.take j = ds := List.take_of_length_le (by rw [HK.out]; omega)
      rw [e]; rfl
/-- Empty -/
theorem zs_zn : zn 512 = zs := rfl
set_option maxRecDepth 100000 in
theorem empty_any (w : World) : Calls Tryz.prog 91 #[] w fun e w' => ∃ g, e = .returned (.slice (some ⟨g, 0, none⟩) 512 512) ∧ OwnB w' g 512 zs ∧ w.heap.size ≤ g ∧ Below w.heap.size w w' := by
  go_enter Tryz.func91, Tryz.ntmps91
  go_wp2_with (at_make; refine wp_makeB rfl _ _ rfl _ _ _ _ 512 rfl rfl (by omega) (by omega) (by omega) ?_; intro w1 ho hb; have HO : Hid (OwnB w1 w.heap.size 512 (zn 512)) := ho; have HB : Hid (Below w.heap.size w w1) := hb; clear ho hb)
  go_ret
  exact ⟨_, rfl, by rw [← zs_zn]; exact HO.out, Nat.le_refl _, HB.out⟩
end Go.Proofs.YtcbebalakdkgnaaGreatDoor

namespace Go.Proofs.YtcbebalakdkgnaaGreatDoor
open Rec Go.ChangeShapes Go.WideShapes Go.ChangeAt Go.RowKit

theorem nth_wf {l : List Int} (h : ∀ c ∈ l, 0 ≤ c ∧ c < 256) (i : Nat) : 0 ≤ nth l i ∧ nth l i < 256 := by
  unfold nth
  by_cases hi : i < l.length
  · have : l.getD i 0 = l[i] := by simp [List.getD, hi]
    rw [this]; exact h _ (List.getElem_mem hi)
  · have : l.getD i 0 = 0 := by simp [List.getD, hi]
    rw [this]; omega
theorem cells5 : Tryz.prog.cellsOf 5 = 1 := by kernel_rfl
theorem bytes5 : Tryz.prog.bytesOf 5 = 1 := by kernel_rfl
theorem wf_u8 {x : Int} (h : (Lit.int .u8 x).wf = true) : 0 ≤ x ∧ x < 256 := by
  have hmin : IntKind.u8.min = 0 := rfl
  have hmax : IntKind.u8.max = 255 := rfl
  simp only [Lit.wf, Bool.and_eq_true, decide_eq_true_eq] at h
  omega
/-- a []byte among the arguments -/
theorem open_bytes {H : Type} {enc : TypeId × Value → H} {W : World} {a : Option Addr} {len cap : Nat} {d : DataW H} {p : List MemPlace} {fuel : Nat}
    (hf : DataW.trod enc Tryz.prog W 0 (fun _ => true) true fuel 42 [.slice a len cap] = some (d, p)) (hz : ∀ n ∈ d.weights Tryz.prog 42, n ≤ reachBytes) :
    ∃ l : List Int, l.length = len ∧ Bytes W a l ∧ (a = none → cap = 0) ∧ len ≤ 140737488351232 := by
  rcases open_ints Tryz.underlying42 Tryz.underlying5 cells5 hf with ⟨hcs, _⟩ | ⟨x, l, c, zs, hcs, _, hl, hm, hlen, hx, hcell, hwz⟩
  · simp at hcs
    obtain ⟨rfl, rfl, rfl⟩ := hcs
    exact ⟨[], rfl, ⟨by simp, fun i => by simp [nth], .inl rfl⟩, fun _ => rfl, by omega⟩
  · simp only [List.cons.injEq, Value.slice.injEq, and_true] at hcs
    obtain ⟨rfl, rfl, rfl⟩ := hcs
    simp only [Prod.mk.injEq] at hx
    obtain ⟨rfl, _⟩ := hx
    simp only [if_true] at hlen
    have hb : cap ≤ 140737488351232 := by
      have h1 := hz ((lits (H := H) .u8 (zs.take len)).length + (lits (H := H) .u8 (zs.drop len)).length) (by simp [DataW.weights, Tryz.underlying42, bytes5])
      simp [lits, reachBytes] at h1
      omega
    refine ⟨zs.take len, by simp; omega, ⟨by simp; omega, nth_wf fun n hn => wf_u8 (hwz n (List.mem_of_mem_take hn)), ?_⟩, fun h => (nomatch h), by omega⟩
    by_cases h0 : len = 0
    · exact .inl (by simp [h0])
    · obtain ⟨b, off, rfl, hc⟩ := ints_at hcell (by omega)
      refine .inr ⟨b, off, rfl, fun i hi => ?_⟩
      have hi' : i < len := by simp at hi; omega
      rw [hc i (by omega)]
      have e : nth (zs.take len) i = zs.getD i 0 := by simp [nth, List.getD, hi']
      rw [e]
theorem bulk_pos {H : Type} (d : DataW H) : 0 < Rows.uptoBulk d := by
  cases d with
  | lit l => cases l <;> simp [Rows.uptoBulk]
  | nil => simp [Rows.uptoBulk]
  | ptr d => simp [Rows.uptoBulk]
  | slice elems spare => simp [Rows.uptoBulk]
  | agg parts => simp [Rows.uptoBulk]
  | iface t d => simp [Rows.uptoBulk]
  | map entries => simp [Rows.uptoBulk]
  | held h => simp [Rows.uptoBulk]
theorem bulk_many {H : Type} : ∀ l : List (DataW H), l.length ≤ Rows.uptoBulkAll l
  | [] => by simp [Rows.uptoBulkAll]
  | d :: r => by
    have h1 := bulk_pos d
    have h2 := bulk_many r
    simp only [Rows.uptoBulkAll, List.length_cons]; omega
theorem small_le {H : Type} {l : List (DataW H)} (h : Rows.uptoSmall H l = true) : Rows.uptoBulkAll l ≤ 1048576 := of_decide_eq_true h
theorem wf_i64 {x : Int} (h : (Lit.int .i64 x).wf = true) : -9223372036854775808 ≤ x ∧ x ≤ 9223372036854775807 := by
  have hmin : IntKind.i64.min = -9223372036854775808 := rfl
  have hmax : IntKind.i64.max = 9223372036854775807 := rfl
  simp only [Lit.wf, Bool.and_eq_true, decide_eq_true_eq] at h
  omega

theorem weightsAll_mem {H : Type} (P : Program) (e : TypeId) : ∀ (l : List (DataW H)) (d : DataW H), d ∈ l → ∀ n ∈ d.weights P e, n ∈ DataW.weightsAll P e l
  | x :: r, d, hd, n, hn => by
    rw [DataW.weightsAll]
    rcases List.mem_cons.1 hd with rfl | h
    · exact List.mem_append_left _ hn
    · exact List.mem_append_right _ (weightsAll_mem P e r d h n hn)
theorem recs_list {R : Type} (sz : Nat) (cells : R → List Value) (ok : R → Prop) (W : World) (x : Addr) (len : Nat) (hex : ∀ i, i < len → ∃ q : R, ok q ∧ ∀ j, j < sz → W.cell? ((x.add (i * sz)).add j) = (cells q)[j]?) :
    ∀ k, k ≤ len → ∃ L : List R, L.length = k ∧ (∀ q ∈ L, ok q) ∧ ∀ i q, L[i]? = some q → ∀ j, j < sz → W.cell? ((x.add (i * sz)).add j) = (cells q)[j]?
  | 0, _ => ⟨[], rfl, fun q h => by simp at h, fun i q h => by simp at h⟩
  | k + 1, hk => by
    obtain ⟨L, hl, h1, h2⟩ := recs_list sz cells ok W x len hex k (by omega)
    obtain ⟨q, q1, q2⟩ := hex k (by omega)
    refine ⟨L ++ [q], by simp [hl], fun r hr => ?_, fun i r hr => ?_⟩
    · rcases List.mem_append.1 hr with h | h
      · exact h1 r h
      · simp at h; subst h; exact q1
    · by_cases hi : i < L.length
      · rw [List.getElem?_append_left hi] at hr; exact h2 i r hr
      · rw [List.getElem?_append_right (by omega)] at hr
        have : i - L.length = 0 := by
          by_cases h : i - L.length = 0
          · exact h
          · rw [List.getElem?_eq_none (by simp; omega)] at hr; cases hr
        rw [this] at hr
        simp at hr
        subst hr
        have e : i = k := by omega
        rw [e]; exact q2
end Go.Proofs.YtcbebalakdkgnaaGreatDoor

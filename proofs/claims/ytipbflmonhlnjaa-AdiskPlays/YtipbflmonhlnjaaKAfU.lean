import Derived.Test.YtipbflmonhlnjaaKAfR
namespace Go.Proofs.Ytipbflmonhlnjaa
open Go.RowKit Rec

theorem infoBo : (Try.prog.info? 4).map (fun i => (i.zero, i.size, i.bytes)) = some (some (.bool false), 1, 1) := by kernel_rfl
/-- bools in a row of one's own -/
def OwnZ (w : World) (g cap : Nat) (l : List Bool) : Prop := w.ownsRow 0 4 1 (.slice (some ⟨g, 0, none⟩) l.length cap) l.length (l.map Value.bool)
theorem OwnZ.cell {w : World} {g cap : Nat} {l : List Bool} (h : OwnZ w g cap l) (i : Nat) (hi : i < l.length) : w.cell? ⟨g, i, none⟩ = some (.bool (l.getD i false)) := by
  rcases h.2 with ⟨e, _⟩ | ⟨g', cap', cur, e, _, hg, _, _, _, h5⟩
  · cases e
  · cases e
    rw [cell_of_row _ _ _ _ _ _ hg]
    have h6 : (l.map Value.bool)[i]? = cur.toList[i]? := by rw [← h5, List.getElem?_take, if_pos (by omega)]
    have h7 : cur[i]? = cur.toList[i]? := by simp
    rw [h7, ← h6]
    simp [List.getD, hi]
theorem OwnZ.on {w w' : World} {g cap : Nat} {l : List Bool} (h : OwnZ w g cap l) (hb : Below w.heap.size w w') : OwnZ w' g cap l := owns_fr h (below_fr hb (fun _ => False)) (fun _ _ h => h)
set_option maxRecDepth 100000 in
set_option maxHeartbeats 800000 in
theorem marks_any (w : World) (ka : Option Addr) (kn kc : Nat) (keep : List Bool) (hk : Bools w (.slice ka kn kc) keep) (hkn : keep.length = kn) (hz : ka = none → kc = 0) (h47 : kn ≤ 140737488351232) :
    Calls Try.prog 23 #[.slice ka kn kc] w fun e w' => ∃ g cap, e = .returned (.tuple #[.slice (some ⟨g, 0, none⟩) kn cap, .slice (some ⟨g, 0, none⟩) (kn + 1) cap]) ∧ kn + 1 ≤ cap ∧ w.heap.size ≤ g ∧ OwnZ w' g cap (keep ++ [true]) ∧ Below w.heap.size w w' := by
  obtain ⟨i0, hi, hz0, hz1, hz2⟩ := info_parts infoBo
  have hroom : ∀ (w' : World) (g cap : Nat), OwnZ w' g cap (keep ++ [true]) → kn + 1 ≤ cap := fun w' g cap h => by
    rcases h.2 with ⟨e, _⟩ | ⟨g', cap', cur, e, _, hg, hcap, _⟩
    · cases e
    · cases e
      rw [List.length_append, hkn] at hcap
      exact hcap
  have HK : Hid (Bools w (.slice ka kn kc) keep ∧ keep.length = kn) := ⟨hk, hkn⟩
  have HRo : Hid (∀ (w' : World) (g cap : Nat), OwnZ w' g cap (keep ++ [true]) → kn + 1 ≤ cap) := hroom
  clear hk hkn hroom
  go_enter Try.func23, Try.ntmps23
  by_cases h0 : kn = 0
  · subst h0
    have he : keep = [] := List.eq_nil_of_length_eq_zero HK.out.2
    subst he
    have HE : Hid (w.ownsRow 0 4 1 (.slice none 0 0) 0 []) := ⟨rfl, .inl ⟨rfl, rfl⟩⟩
    have HE2 : Hid (w.ownsRow w.heap.size 4 1 (.slice none 0 0) 0 []) := ⟨rfl, .inl ⟨rfl, rfl⟩⟩
    cases ka with
    | none =>
      have hc0 := hz rfl
      subst hc0
      go_upto_region 3 with (at_builtin; refine wpList_append_own_none rfl (.tmp 5) (.tmp 6) 42 rfl w.heap.size 4 i0 1 Try.underlying42 hi (.slice none 0 0) 0 [] rfl HE2.out rfl ?_)
      go_upto_region 4 with (at_builtin; refine wp_own rfl (.tmp 8) (.tmp 9) 42 rfl 4 i0 _ 1 1 Try.underlying42 hi hz0 hz1 hz2 rfl (by decide) (.slice none 0 0) 0 [] rfl (owns_fr HE.out (fr_alloc (fun _ => False) w _) (fun _ _ h => h)) ⟨w.heap.size, 0, none⟩ 1 1 [.bool true] rfl (by decide) rfl (fun i u hu => by match i, hu with | 0, hu => (cases hu; show World.cell? _ ⟨w.heap.size, 0 + 0, none⟩ = _; rw [cell_of_row _ _ _ _ _ _ (heap_alloc_new w _)]; rfl)) (by simp [Value.oneCell']) (by unfold maxLen; omega) (by omega) ?_; intro g3 cap3 w3 ho hf hg; have H3 : Hid (w.heap.size ≤ g3 ∧ OwnZ w3 g3 cap3 ([] ++ [true]) ∧ Below w.heap.size w w3) := ⟨(by rcases hg with h | h; (cases h); (simp at h; omega)), (by unfold OwnZ; simpa using ho), ((Below.refl _ _).alloc (Nat.le_refl _) _).trans (hf.below _ (fun k e => by cases e) (by simp))⟩; clear ho hf hg)
      have hr := HRo.out _ _ _ H3.out.2.1
      go_wp2
      go_ret2
      exact ⟨_, _, rfl, hr, H3.out⟩
    | some p =>
      go_upto_region 3 with (at_builtin; refine wpList_append_own _ rfl (.tmp 5) (.tmp 6) 42 rfl w.heap.size 4 i0 _ 1 1 Try.underlying42 hi hz0 hz1 hz2 rfl (by decide) (.slice none 0 0) 0 [] rfl HE2.out p 0 kc [] rfl rfl (fun j u hj => by simp at hj) (fun u hu => by cases hu) (by unfold maxLen; omega) (by omega) (Nat.le_refl _) ?_; intro v1 w2 ho hg hnil; obtain rfl := hnil.2 ⟨rfl, rfl⟩; have H2 : Hid (w2.ownsRow 0 4 1 (.slice none 0 0) 0 [] ∧ Below w.heap.size w w2) := ⟨⟨rfl, .inl ⟨rfl, rfl⟩⟩, ⟨hg.os, hg.tape, hg.output, hg.size, fun k hk => hg.block k hk (by simp [Value.ownBlock])⟩⟩; clear ho hg hnil)
      go_upto_region 4 with (at_builtin; refine wp_own rfl (.tmp 8) (.tmp 9) 42 rfl 4 i0 _ 1 1 Try.underlying42 hi hz0 hz1 hz2 rfl (by decide) (.slice none 0 0) 0 [] rfl (owns_fr H2.out.1 (fr_alloc (fun _ => False) w2 _) (fun _ _ h => h)) ⟨w2.heap.size, 0, none⟩ 1 1 [.bool true] rfl (by decide) rfl (fun i u hu => by match i, hu with | 0, hu => (cases hu; show World.cell? _ ⟨w2.heap.size, 0 + 0, none⟩ = _; rw [cell_of_row _ _ _ _ _ _ (heap_alloc_new w2 _)]; rfl)) (by simp [Value.oneCell']) (by unfold maxLen; omega) (by omega) ?_; intro g3 cap3 w3 ho hf hg; have H3 : Hid (w.heap.size ≤ g3 ∧ OwnZ w3 g3 cap3 ([] ++ [true]) ∧ Below w.heap.size w w3) := ⟨(by rcases hg with h | h; (cases h); (have := H2.out.2.size; simp at h; omega)), (by unfold OwnZ; simpa using ho), (H2.out.2.alloc H2.out.2.size _).trans (hf.below _ (fun k e => by cases e) (Nat.le_trans H2.out.2.size (by simp)))⟩; clear ho hf hg)
      have hr := HRo.out _ _ _ H3.out.2.1
      go_wp2
      go_ret2
      exact ⟨_, _, rfl, hr, H3.out⟩
  · obtain ⟨kb, ko, rfl, hc⟩ : ∃ kb ko, ka = some ⟨kb, ko, none⟩ ∧ ∀ i x, keep[i]? = some x → w.cell? ⟨kb, ko + i, none⟩ = some (.bool x) := by
      obtain ⟨a', c', e, h | ⟨kb, ko, e2, hc⟩⟩ := HK.out.1
      · have := HK.out.2; rw [h] at this; simp at this; omega
      · cases e; exact ⟨kb, ko, e2, hc⟩
    have HN : Hid (∀ j u, (keep.map Value.bool)[j]? = some u → w.cell? ((⟨kb, ko, none⟩ : Addr).add j) = some u) := fun j u hj => by
      rw [List.getElem?_map] at hj
      rw [Addr.add_lit]
      cases hq : keep[j]? with
      | none => rw [hq] at hj; cases hj
      | some x => rw [hq] at hj; cases hj; exact hc j x hq
    clear hc
    go_upto_region 3 with (at_builtin; refine wp_own rfl (.tmp 5) (.tmp 6) 42 rfl 4 i0 _ 1 1 Try.underlying42 hi hz0 hz1 hz2 rfl (by decide) (.slice none 0 0) 0 [] rfl ⟨rfl, .inl ⟨rfl, rfl⟩⟩ ⟨kb, ko, none⟩ kn kc (keep.map Value.bool) rfl (by omega) (by rw [List.length_map, HK.out.2, Nat.mul_one]) HN.out (by intro u hu; obtain ⟨x, _, rfl⟩ := List.mem_map.1 hu; rfl) (by unfold maxLen; omega) (by omega) ?_; intro g cap w2 ho hf hg; have H2 : Hid (w.heap.size ≤ g ∧ w2.ownsRow 0 4 1 (.slice (some ⟨g, 0, none⟩) kn cap) kn (keep.map Value.bool) ∧ Below w.heap.size w w2) := ⟨hg.elim (fun e => by cases e) id, (by simpa using ho), hf.below _ (fun k e => by cases e) (Nat.le_refl _)⟩; clear ho hf hg)
    go_upto_region 4 with (at_builtin; refine wp_own rfl (.tmp 8) (.tmp 9) 42 rfl 4 i0 _ 1 1 Try.underlying42 hi hz0 hz1 hz2 rfl (by decide) (.slice (some ⟨g, 0, none⟩) kn cap) kn (keep.map Value.bool) rfl (owns_fr H2.out.2.1 (fr_alloc (fun _ => False) w2 _) (fun _ _ h => h)) ⟨w2.heap.size, 0, none⟩ 1 1 [.bool true] rfl (by decide) rfl (fun i u hu => by match i, hu with | 0, hu => (cases hu; show World.cell? _ ⟨w2.heap.size, 0 + 0, none⟩ = _; rw [cell_of_row _ _ _ _ _ _ (heap_alloc_new w2 _)]; rfl)) (by simp [Value.oneCell']) (by unfold maxLen; omega) (by omega) ?_; intro g3 cap3 w3 ho hf hg; have H3 : Hid (w.heap.size ≤ g3 ∧ OwnZ w3 g3 cap3 (keep ++ [true]) ∧ Below w.heap.size w w3) := ⟨(by rcases hg with h | h; (cases h; exact H2.out.1); (have := H2.out.2.2.size; simp at h; omega)), (by unfold OwnZ; rw [List.length_append, HK.out.2, List.map_append]; exact ho), (H2.out.2.2.alloc H2.out.2.2.size _).trans (hf.below _ (fun k e => by cases e; exact H2.out.1) (Nat.le_trans H2.out.2.2.size (by simp)))⟩; clear ho hf hg)
    have hr := HRo.out _ _ _ H3.out.2.1
    have hr' : kn ≤ cap3 := by omega
    go_wp2
    go_ret2
    exact ⟨_, _, rfl, hr, H3.out⟩
theorem OwnZ.frozen {w : World} {g cap : Nat} {l : List Bool} (h : OwnZ w g cap l) (i : Nat) : w.frozen? ⟨g, i, none⟩ = false := by
  rcases h.2 with ⟨e, _⟩ | ⟨g', cap', cur, e, _, hg, _⟩
  · cases e
  · cases e; exact frozen_of_row _ _ _ _ _ hg
theorem OwnZ.set {w : World} {g cap : Nat} {l : List Bool} (h : OwnZ w g cap l) (i : Nat) (b : Bool) : OwnZ (w.setCell ⟨g, i, none⟩ (.bool b)) g cap (l.set i b) := by
  have h1 := owns_set h i (.bool b)
  unfold OwnZ
  rw [List.length_set, List.map_set]
  exact h1
set_option maxRecDepth 100000 in
set_option maxHeartbeats 1600000 in
theorem unmarked_any (w : World) (g cap : Nat) (ka : Option Addr) (kn kc : Nat) (keep : List Bool) (hO : OwnZ w g cap (keep ++ [true])) (hk : Bools w (.slice ka kn kc) keep) (hkn : keep.length = kn) (h47 : kn ≤ 140737488351232) :
    Calls Try.prog 26 #[.slice (some ⟨g, 0, none⟩) (kn + 1) cap, .slice ka kn kc] w fun e w' => e = .returned (.bool true) ∧ ∃ m : List Bool, m.length = kn + 1 ∧ OwnZ w' g cap m ∧ Fr (fun k => k = g) w w' := by
  have hlen : (keep ++ [true]).length = kn + 1 := by rw [List.length_append, hkn]; rfl
  have hlast : w.cell? ⟨g, kn, none⟩ = some (.bool true) := by
    rw [hO.cell kn (by omega), ← hkn]; simp [List.getD]
  have HO : Hid (OwnZ w g cap (keep ++ [true]) ∧ Bools w (.slice ka kn kc) keep ∧ keep.length = kn ∧ (keep ++ [true]).length = kn + 1) := ⟨hO, hk, hkn, hlen⟩
  clear hO hk hkn hlen
  go_enter Try.func26, Try.ntmps26
  go_wp2
  go_loopw [5, 15] (fun s5 s15 wr => ∃ j : Nat, s5 = .bool true ∧ s15 = .int .i64 (j : Int) ∧ j ≤ kn ∧ ∃ m, wr = w.drewN m) (fun _ s _ => kn - (intOf s).toNat)
  case atStart => exact ⟨0, rfl, rfl, Nat.zero_le _, 0, rfl⟩
  case round =>
    obtain ⟨j, rfl, rfl, hj, m, rfl⟩ := hrel
    by_cases hlt : j < kn
    · have hlt' : (j : Int) < (kn : Int) := by omega
      have hlt2 : (j : Int) < (kn : Int) + 1 := by omega
      obtain ⟨kb, ko, rfl, hc⟩ : ∃ kb ko, ka = some ⟨kb, ko, none⟩ ∧ w.cell? ⟨kb, ko + j, none⟩ = some (.bool (keep.getD j false)) := by
        obtain ⟨a', c', e, h | ⟨kb, ko, e2, hc⟩⟩ := HO.out.2.1
        · have := HO.out.2.2.1; rw [h] at this; simp at this; omega
        · cases e
          refine ⟨kb, ko, e2, hc j _ ?_⟩
          have hl : j < keep.length := by rw [HO.out.2.2.1]; exact hlt
          simp [List.getD, hl]
      have hcg := HO.out.1.cell j (by rw [HO.out.2.2.2]; omega)
      rw [show (keep ++ [true]).getD j false = keep.getD j false by
        have hl : j < keep.length := by rw [HO.out.2.2.1]; exact hlt
        simp [List.getD, List.getElem?_append, hl]] at hcg
      obtain ⟨bb, hbb⟩ : ∃ bb, keep.getD j false = bb := ⟨_, rfl⟩
      rw [hbb] at hc hcg
      clear hbb
      have hjk : j < kn + 1 := by omega
      go_upto_region 5 with (fail)
      go_quiet (fail)
      (try go_wp2)
      go_round
      case rel => exact ⟨j + 1, rfl, by go_num, by omega, _, rfl⟩
      case measure => simp [intOf]; omega
    · have hlt' : ¬ ((j : Int) < (kn : Int)) := by omega
      go_wp2
      go_loopw [33] (fun s wr => ∃ (q : Nat) (b : List Bool), s = .int .i64 (q : Int) ∧ q ≤ kn + 1 ∧ b.length = kn + 1 ∧ OwnZ wr g cap b ∧ Fr (fun k => k = g) w wr) (fun s _ => kn + 1 - (intOf s).toNat)
      case atStart => exact ⟨0, keep ++ [true], rfl, by omega, HO.out.2.2.2, HO.out.1.on ⟨rfl, rfl, rfl, Nat.le_refl _, fun _ _ => rfl⟩, ⟨rfl, rfl, rfl, Nat.le_refl _, fun _ _ _ => rfl⟩⟩
      case round =>
        obtain ⟨q, b, rfl, hq, hbl, hob, hfb⟩ := hrel
        have HI : Hid (b.length = kn + 1 ∧ OwnZ wr g cap b ∧ Fr (fun k => k = g) w wr) := ⟨hbl, hob, hfb⟩
        clear hbl hob hfb
        by_cases hq2 : q < kn + 1
        · have hq3 : (q : Int) < (kn : Int) + 1 := by omega
          have hc := HI.out.2.1.cell q (by rw [HI.out.1]; exact hq2)
          have hf := HI.out.2.1.frozen q
          obtain ⟨bb, hbb⟩ : ∃ bb, b.getD q false = bb := ⟨_, rfl⟩
          rw [hbb] at hc
          clear hbb
          go_wp2
          go_round
          case rel => exact ⟨q + 1, b.set q (!bb), by go_num, by omega, by rw [List.length_set]; exact HI.out.1, HI.out.2.1.set q _, HI.out.2.2.trans Fr.set (fun _ h => .inl h)⟩
          case measure => simp [intOf]; omega
        · have hq3 : ¬ ((q : Int) < (kn : Int) + 1) := by omega
          go_wp2
          go_ret
          exact ⟨rfl, b, HI.out⟩
end Go.Proofs.Ytipbflmonhlnjaa

namespace Go.Proofs.Ytipbflmonhlnjaa
open Go.RowKit Rec

/-- a function with another value at one place -/
def up {α : Type} (f : Nat → α) (n : Nat) (v : α) : Nat → α := fun i => if i = n then v else f i
theorem up_at {α : Type} (f : Nat → α) (n : Nat) (v : α) : up f n v n = v := if_pos rfl
theorem up_off {α : Type} (f : Nat → α) {n i : Nat} (v : α) (h : i ≠ n) : up f n v i = f i := if_neg h
/-- the slices of a row of rows -/
def hdrs (n : Nat) (g c : Nat → Nat) (C : Nat → List Int) : List Value := (List.range n).map fun i => .slice (some ⟨g i, 0, none⟩) (C i).length (c i)
theorem hdrs_at (n : Nat) (g c : Nat → Nat) (C : Nat → List Int) (i : Nat) (h : i < n) : (hdrs n g c C)[i]? = some (.slice (some ⟨g i, 0, none⟩) (C i).length (c i)) := by
  simp [hdrs, h]
theorem hdrs_set (n : Nat) (g c : Nat → Nat) (C : Nat → List Int) (k : Nat) (l : List Int) (h : l.length = (C k).length) : hdrs n g c (up C k l) = hdrs n g c C := by
  unfold hdrs
  refine List.map_congr_left fun i _ => ?_
  by_cases e : i = k
  · subst e; rw [up_at, h]
  · rw [up_off C l e]
/-- a row of rows of bytes, all one's own -/
structure RowsAt (w0 wr : World) (s : Value) (n : Nat) (g c : Nat → Nat) (C : Nat → List Int) : Prop where
  own : wr.ownsRow 0 22 1 s n (hdrs n g c C)
  top : ∀ k, s.ownBlock = some k → w0.heap.size ≤ k
  els : ∀ i, i < n → OwnB wr (g i) (c i) (C i) ∧ w0.heap.size ≤ g i
  apart : ∀ i j, i < n → j < n → g i = g j → i = j
theorem ownB_fr {S : Nat → Prop} {w w' : World} {g cap : Nat} {l : List Int} (h : OwnB w g cap l) (x : Fr S w w') (hg : ¬ S g) : OwnB w' g cap l := by
  obtain ⟨cur, h1, h2⟩ := h.row
  exact ⟨⟨cur, x.heap h1 hg, h2⟩, h.len, h.room, h.top, h.wf⟩
theorem own_apart7 {w : World} {B e size n g cap : Nat} {v : Value} {xs : List Value} {l : List Int} (h : w.ownsRow B e size v n xs) (h' : OwnB w g cap l) (hne : e ≠ 5) : ¬ v.ownBlock = some g := by
  intro hk
  rcases h.2 with ⟨hv, _⟩ | ⟨g', cap', cur, hv, _, hg, _⟩
  · rw [hv] at hk; cases hk
  · rw [hv] at hk
    have e1 : g' = g := Option.some.inj hk
    subst e1
    obtain ⟨cur', h1, _⟩ := h'.row
    rw [hg] at h1
    injection h1 with h1
    injection h1 with _ h2 _
    exact hne h2
theorem RowsAt.fr {w0 wr wq : World} {s : Value} {n : Nat} {g c : Nat → Nat} {C : Nat → List Int} {S : Nat → Prop} (h : RowsAt w0 wr s n g c C) (x : Fr S wr wq) (h1 : ∀ k, s.ownBlock = some k → ¬ S k) (h2 : ∀ i, i < n → ¬ S (g i)) : RowsAt w0 wq s n g c C :=
  ⟨owns_fr h.own x h1, h.top, fun i hi => ⟨ownB_fr (h.els i hi).1 x (h2 i hi), (h.els i hi).2⟩, h.apart⟩
theorem RowsAt.on {w0 wr wq : World} {s : Value} {n : Nat} {g c : Nat → Nat} {C : Nat → List Int} (h : RowsAt w0 wr s n g c C) (hb : Below wr.heap.size wr wq) : RowsAt w0 wq s n g c C :=
  h.fr (below_fr hb (fun _ => False)) (fun _ _ e => e) (fun _ _ e => e)
/-- one byte of one row is written -/
theorem RowsAt.set {w0 wr : World} {s : Value} {n : Nat} {g c : Nat → Nat} {C : Nat → List Int} (h : RowsAt w0 wr s n g c C) (i : Nat) (hi : i < n) (k : Nat) (v : Int) (hk : k < (C i).length) (hv : 0 ≤ v ∧ v < 256) :
    RowsAt w0 (wr.setCell ⟨g i, k, none⟩ (.int .u8 v)) s n g c (up C i ((C i).set k v)) := by
  refine ⟨?_, h.top, fun j hj => ?_, h.apart⟩
  · rw [hdrs_set _ _ _ _ _ _ (by rw [List.length_set])]
    exact owns_fr h.own Fr.set fun q hq e => own_apart7 h.own (h.els i hi).1 (by decide) (e ▸ hq)
  · by_cases e : j = i
    · subst e
      rw [up_at]
      exact ⟨(h.els j hj).1.set k v hk hv, (h.els j hj).2⟩
    · rw [up_off C _ e]
      exact ⟨ownB_fr (h.els j hj).1 Fr.set (fun e' => e (h.apart j i hj hi e')), (h.els j hj).2⟩
theorem RowsAt.is {w0 wr : World} {b n cap : Nat} {g c : Nat → Nat} {C : Nat → List Int} (h : RowsAt w0 wr (.slice (some ⟨b, 0, none⟩) n cap) n g c C) (i : Nat) (hi : i < n) : wr.cell? ⟨b, i, none⟩ = some (.slice (some ⟨g i, 0, none⟩) (C i).length (c i)) := by
  rcases h.own.2 with ⟨hv, _⟩ | ⟨g', cap', cur, hv, _, hg, _, _, _, h5⟩
  · cases hv
  · cases hv
    rw [cell_of_row _ _ _ _ _ _ hg]
    have := hdrs_at n g c C i hi
    rw [Nat.mul_one] at h5
    rw [← h5, List.getElem?_take, if_pos hi] at this
    simpa using this
theorem own_apartX {w : World} {B e size n p : Nat} {v : Value} {xs : List Value} {cs : Array Value} {t : Nat} {f : Nat × Nat} (h : w.ownsRow B e size v n xs) (h' : w.heap[p]? = some (.cells cs t f)) (hne : e ≠ t) : ¬ v.ownBlock = some p := by
  intro hk
  rcases h.2 with ⟨hv, _⟩ | ⟨g', cap', cur, hv, _, hg, _⟩
  · rw [hv] at hk; cases hk
  · rw [hv] at hk
    have e1 : g' = p := Option.some.inj hk
    subst e1
    rw [hg] at h'
    injection h' with h1
    injection h1 with _ h2 _
    exact hne h2
theorem own_apartO {w : World} {B B' e e' size size' n n' : Nat} {v v' : Value} {xs xs' : List Value} (h : w.ownsRow B e size v n xs) (h' : w.ownsRow B' e' size' v' n' xs') (hne : e ≠ e') (k : Nat) (hk : v.ownBlock = some k) : ¬ v'.ownBlock = some k := by
  rcases h.2 with ⟨hv, _⟩ | ⟨g', cap', cur, hv, _, hg, _⟩
  · rw [hv] at hk; cases hk
  · rw [hv] at hk
    have e1 : g' = k := Option.some.inj hk
    subst e1
    exact own_apartX h' hg (fun e => hne e.symm)
theorem info36 : (Try.prog.info? 86).map (fun i => (i.zero, i.size, i.bytes)) = some (some (.agg #[.int .i64 0, .int .i64 0, .slice none 0 0]), 3, 40) := by kernel_rfl
end Go.Proofs.Ytipbflmonhlnjaa

namespace Go.Proofs.Ytipbflmonhlnjaa
open Go.RowKit Rec
/-- bytes in a row of one's own, or none -/
def RwA (B : Nat) (w : World) (a : Option Addr) (cap : Nat) (R : List Int) : Prop := (R = [] ∧ a = none ∧ cap = 0) ∨ ∃ g, a = some ⟨g, 0, none⟩ ∧ OwnB w g cap R ∧ B ≤ g
theorem RwA.bytes {B : Nat} {w : World} {a : Option Addr} {cap : Nat} {R : List Int} (h : RwA B w a cap R) : Bytes w a R := by
  rcases h with ⟨rfl, rfl, _⟩ | ⟨g, rfl, h, _⟩
  · exact ⟨by simp, fun i => by simp [nth], .inl rfl⟩
  · exact h.bytes
theorem RwA.on {B : Nat} {w w' : World} {a : Option Addr} {cap : Nat} {R : List Int} (h : RwA B w a cap R) (hb : Below w.heap.size w w') : RwA B w' a cap R := by
  rcases h with h | ⟨g, e, h, hB⟩
  · exact .inl h
  · exact .inr ⟨g, e, h.on hb, hB⟩
theorem RwA.owns {B : Nat} {w : World} {a : Option Addr} {cap : Nat} {R : List Int} (h : RwA B w a cap R) : w.ownsRow 0 5 1 (.slice a R.length cap) R.length (R.map (Value.int .u8)) := by
  rcases h with ⟨rfl, rfl, rfl⟩ | ⟨g, rfl, h, _⟩
  · exact ⟨rfl, .inl ⟨rfl, rfl⟩⟩
  · exact owns_of (B := 0) h (Nat.zero_le _)
end Go.Proofs.Ytipbflmonhlnjaa

namespace Go.Proofs.Ytipbflmonhlnjaa
open Go.RowKit Rec
/-- the cells of the copies -/
structure CpC (w : World) (L : List ActR) (n b4 : Nat) (g c : Nat → Nat) : Prop where
  act : ∀ i, i < n → w.cell? ⟨b4, i * 3, none⟩ = some (.int .i64 (actN L i).kind) ∧ w.cell? ⟨b4, i * 3 + 1, none⟩ = some (.int .i64 (actN L i).b) ∧ w.cell? ⟨b4, i * 3 + 2, none⟩ = some (.slice (some ⟨g i, 0, none⟩) (actN L i).x.length (c i))
  last : w.cell? ⟨b4, n * 3, none⟩ = some (.int .i64 (-99))
theorem CpC.fr {S : Nat → Prop} {w w' : World} {L : List ActR} {n b4 : Nat} {g c : Nat → Nat} (h : CpC w L n b4 g c) (x : Fr S w w') (hS : ¬ S b4) : CpC w' L n b4 g c :=
  ⟨fun i hi => ⟨x.cell (h.act i hi).1 hS, x.cell (h.act i hi).2.1 hS, x.cell (h.act i hi).2.2 hS⟩, x.cell h.last hS⟩
end Go.Proofs.Ytipbflmonhlnjaa

import Derived.Test.YtaaeahpmnfifiaaDoorSnG
namespace Go.Proofs.YtaaeahpmnfifiaaDoor
open Go.RowKit Rec Sc
theorem ba_inj {s t : ByteArray} (h : s.toList = t.toList) : s = t := tx_inj (by rw [← toList_tx, ← toList_tx]; exact h)
theorem neqE_no (w : World) (a : ET) : (binOp .neq 27 (eV a.1 a.2.1 a.2.2) (eV a.1 a.2.1 a.2.2)).run Tryd.prog w = .ok (.bool false) w := by
  go_simp
theorem neqE_yes (w : World) (a b : ET) (h : a ≠ b) : (binOp .neq 27 (eV a.1 a.2.1 a.2.2) (eV b.1 b.2.1 b.2.2)).run Tryd.prog w = .ok (.bool true) w := by
  go_simp
  intro h1 h2 h3
  exact h (Prod.ext h1 (Prod.ext (ba_inj h2) h3))
/-- told cells in memory -/
def EntAt (w : World) (a : Option Addr) (xs : List ET) : Prop := xs = [] ∨ ∃ b, a = some ⟨b, 0, none⟩ ∧ ∀ k q, xs[k]? = some q → w.cell? ⟨b, k * 3, none⟩ = some (.int .i64 q.1) ∧ w.cell? ⟨b, k * 3 + 1, none⟩ = some (.string q.2.1) ∧ w.cell? ⟨b, k * 3 + 2, none⟩ = some (.int .i64 q.2.2)
theorem OwnE.ents {w : World} {g cap : Nat} {xs : List ET} (h : OwnE w g cap xs) : EntAt w (some ⟨g, 0, none⟩) xs := .inr ⟨g, rfl, fun _ _ hq => h.cell hq⟩
theorem EntAt.at {w : World} {a : Option Addr} {xs : List ET} (h : EntAt w a xs) {k : Nat} (hk : k < xs.length) : ∃ b q, a = some ⟨b, 0, none⟩ ∧ xs[k]? = some q ∧ w.cell? ⟨b, k * 3, none⟩ = some (.int .i64 q.1) ∧ w.cell? ⟨b, k * 3 + 1, none⟩ = some (.string q.2.1) ∧ w.cell? ⟨b, k * 3 + 2, none⟩ = some (.int .i64 q.2.2) := by
  rcases h with h | ⟨b, e, hc⟩
  · subst h; cases hk
  · exact ⟨b, xs[k], e, List.getElem?_eq_getElem hk, hc k _ (List.getElem?_eq_getElem hk)⟩
theorem EntAt.on {w w' : World} {a : Option Addr} {xs : List ET} (h : EntAt w a xs) (hb : Below w.heap.size w w') : EntAt w' a xs := by
  rcases h with h | ⟨b, e, hc⟩
  · exact .inl h
  · refine .inr ⟨b, e, fun k q hq => ?_⟩
    obtain ⟨c0, c1, c2⟩ := hc k q hq
    exact ⟨(hb.cell (block_lt_of_cell c0)).trans c0, (hb.cell (block_lt_of_cell c1)).trans c1, (hb.cell (block_lt_of_cell c2)).trans c2⟩
set_option maxHeartbeats 4000000 in
theorem sameE_any (w : World) (a b : Option Addr) (n c m d : Nat) (xs ys : List ET) (hxs : EntAt w a xs) (hys : EntAt w b ys) (hn : xs.length = n) (hm : ys.length = m) (hb : n ≤ 1000000) :
    Calls Tryd.prog 15 #[.slice a n c, .slice b m d] w fun e w' => e = .returned (.bool (decide (xs = ys))) ∧ ∃ q, w' = w.drewN q := by
  by_cases hnm : n = m
  · subst hnm
    go_enter Tryd.func15, Tryd.ntmps15
    go_wp2
    go_loopw [5] (fun s5 wr => ∃ k q : Nat, k ≤ n ∧ s5 = .int .i64 (k : Int) ∧ xs.take k = ys.take k ∧ wr = w.drewN q) (fun s5 _ => n - (intOf s5).toNat)
    case atStart => exact ⟨0, 0, Nat.zero_le _, rfl, rfl, rfl⟩
    case round =>
      obtain ⟨k, q, hk, rfl, hno, rfl⟩ := hrel
      have HN : Hid (xs.take k = ys.take k) := hno
      clear hno
      by_cases hlt : k < n
      · have hlt' : (k : Int) < (n : Int) := by omega
        obtain ⟨b1, x, rfl, hx, c0, c1, c2⟩ := hxs.at (k := k) (by omega)
        obtain ⟨b2, y, rfl, hy, d0, d1, d2⟩ := hys.at (k := k) (by omega)
        have HX : Hid (xs[k]? = some x ∧ ys[k]? = some y) := ⟨hx, hy⟩
        have c0' : (w.drewN q).cell? ⟨b1, k * 3, none⟩ = some (.int .i64 x.1) := c0
        have c1' : (w.drewN q).cell? ⟨b1, k * 3 + 1, none⟩ = some (.string x.2.1) := c1
        have c2' : (w.drewN q).cell? ⟨b1, k * 3 + 2, none⟩ = some (.int .i64 x.2.2) := c2
        have d0' : (w.drewN q).cell? ⟨b2, k * 3, none⟩ = some (.int .i64 y.1) := d0
        have d1' : (w.drewN q).cell? ⟨b2, k * 3 + 1, none⟩ = some (.string y.2.1) := d1
        have d2' : (w.drewN q).cell? ⟨b2, k * 3 + 2, none⟩ = some (.int .i64 y.2.2) := d2
        clear hx hy
        by_cases he : x = y
        · subst he
          have E := neqE_no (w.drewN q).drew x
          go_wp2
          go_region
          go_wp2
          go_roundw
          case rel => exact ⟨k + 1, q + 1, by omega, by go_num, by rw [List.take_add_one, List.take_add_one, HX.out.1, HX.out.2, HN.out], rfl⟩
          case measure => simp [intOf]; omega
        · have HD : Hid (decide (xs = ys) = false) := decide_eq_false fun e => by
            have := HX.out
            rw [e] at this
            rw [this.1] at this
            exact absurd (Option.some.inj this.2) he
          by_cases h1 : x.1 = y.1
          · by_cases h2 : x.2.1.toList = y.2.1.toList
            · by_cases h3 : x.2.2 = y.2.2
              · exact absurd (Prod.ext h1 (Prod.ext (ba_inj h2) h3)) he
              · go_wp2
                go_region
                go_wp2
                go_ret
                exact ⟨by rw [HD.out]; rfl, q + 1, rfl⟩
            · go_wp2
              go_region
              go_wp2
              go_ret
              exact ⟨by rw [HD.out]; rfl, q + 1, rfl⟩
          · go_wp2
            go_region
            go_wp2
            go_ret
            exact ⟨by rw [HD.out]; rfl, q + 1, rfl⟩
      · have hlt' : ¬ (k : Int) < (n : Int) := by omega
        go_wp2
        go_ret
        refine ⟨?_, q, rfl⟩
        have := HN.out
        rw [List.take_of_length_le (by omega), List.take_of_length_le (by omega)] at this
        rw [decide_eq_true this]; rfl
  · have hnm' : ¬ (n : Int) = m := by omega
    go_enter Tryd.func15, Tryd.ntmps15
    go_wp2
    go_ret
    refine ⟨?_, 0, rfl⟩
    rw [decide_eq_false fun e => by rw [e] at hn; omega]; rfl
set_option maxHeartbeats 4000000 in
theorem sameB_any (w : World) (a b : Option Addr) (n c m d : Nat) (xs ys : List Int) (hxs : Bytes w a xs) (hys : Bytes w b ys) (hn : xs.length = n) (hm : ys.length = m) :
    Calls Tryd.prog 16 #[.slice a n c, .slice b m d] w fun e w' => e = .returned (.bool (decide (xs = ys))) ∧ ∃ q, w' = w.drewN q := by
  have hl := hxs.len
  by_cases hnm : n = m
  · subst hnm
    go_enter Tryd.func16, Tryd.ntmps16
    go_wp2
    go_loopw [5] (fun s5 wr => ∃ k q : Nat, k ≤ n ∧ s5 = .int .i64 (k : Int) ∧ (∀ i, i < k → nth xs i = nth ys i) ∧ wr = w.drewN q) (fun s5 _ => n - (intOf s5).toNat)
    case atStart => exact ⟨0, 0, Nat.zero_le _, rfl, fun i h => absurd h (by omega), rfl⟩
    case round =>
      obtain ⟨k, q, hk, rfl, hno, rfl⟩ := hrel
      have HN : Hid (∀ i, i < k → nth xs i = nth ys i) := hno
      clear hno
      by_cases hlt : k < n
      · have hlt' : (k : Int) < (n : Int) := by omega
        obtain ⟨b1, o1, rfl, h1⟩ : ∃ b o, a = some ⟨b, o, none⟩ ∧ w.cell? ⟨b, o + k, none⟩ = some (.int .u8 (nth xs k)) := by
          rcases hxs.at_ with e | ⟨b, o, e, hc⟩
          · subst e; simp at hn; omega
          · exact ⟨b, o, e, hc k (by omega)⟩
        obtain ⟨b2, o2, rfl, h2⟩ : ∃ b' o, b = some ⟨b', o, none⟩ ∧ w.cell? ⟨b', o + k, none⟩ = some (.int .u8 (nth ys k)) := by
          rcases hys.at_ with e | ⟨b, o, e, hc⟩
          · subst e; simp at hm; omega
          · exact ⟨b, o, e, hc k (by omega)⟩
        have h1' : (w.drewN q).cell? ⟨b1, o1 + k, none⟩ = some (.int .u8 (nth xs k)) := h1
        have h2' : (w.drewN q).cell? ⟨b2, o2 + k, none⟩ = some (.int .u8 (nth ys k)) := h2
        by_cases he : nth xs k = nth ys k
        · go_wp2
          go_region
          go_wp2
          go_roundw
          case rel =>
            refine ⟨k + 1, q + 1, by omega, by go_num, fun i hi => ?_, rfl⟩
            by_cases e : i = k
            · subst e; exact he
            · exact HN.out i (by omega)
          case measure => simp [intOf]; omega
        · go_wp2
          go_region
          go_wp2
          go_ret
          exact ⟨by rw [decide_eq_false fun e => absurd (by rw [e]) he]; rfl, q + 1, rfl⟩
      · have hlt' : ¬ (k : Int) < (n : Int) := by omega
        go_wp2
        go_ret
        refine ⟨?_, q, rfl⟩
        rw [decide_eq_true (ext_nth (by omega) (fun i hi => HN.out i (by omega)))]; rfl
  · have hnm' : ¬ (n : Int) = m := by omega
    go_enter Tryd.func16, Tryd.ntmps16
    go_wp2
    go_ret
    refine ⟨?_, 0, rfl⟩
    rw [decide_eq_false fun e => by rw [e] at hn; omega]; rfl
end Go.Proofs.YtaaeahpmnfifiaaDoor

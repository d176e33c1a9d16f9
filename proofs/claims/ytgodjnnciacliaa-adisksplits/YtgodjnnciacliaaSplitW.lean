import Derived.Test.YtgodjnnciacliaaSplitA
namespace Go.Proofs.Ytgodjnnciacliaa
open Go.RowKit Adk

theorem ownB_ne {w : World} {g cap : Nat} {x : List Int} {v : Value} {n : Nat} {xs : List Value} (hO : OwnB w g cap x) (h : w.ownsRow 0 54 3 v n xs) : ¬ v.ownBlock = some g := fun e => by
  obtain ⟨cur, hg, _⟩ := hO.row
  rcases h.2 with ⟨rfl, _⟩ | ⟨g', cap', cur', rfl, _, hg', _⟩
  · cases e
  · cases e
    rw [hg] at hg'
    cases hg'
theorem AcR.app {w w1 w2 : World} {m : Nat} {v v' : Value} {L M : List ActR} (h : AcR w m v L) (hb : Below w.heap.size w w1) (hr : ∀ r ∈ M, OkAct w1 m r)
    (ho : w2.ownsRow 0 54 3 v' (L.length + M.length) (L.flatMap ActR.cells ++ M.flatMap ActR.cells)) (hf : Fr (fun k => v.ownBlock = some k) w1 w2) : AcR w2 m v' (L ++ M) := by
  refine ⟨by rw [List.length_append, List.flatMap_append]; exact ho, fun q hq => ?_⟩
  have hno : ∀ g cap x, OwnB w1 g cap x → ¬ v.ownBlock = some g := fun g cap x hO e => by
    obtain ⟨cur, hg, _⟩ := hO.row
    rcases (h.on hb).row.2 with ⟨rfl, _⟩ | ⟨g', cap', cur', rfl, _, hg', _⟩
    · cases e
    · cases e
      rw [hg] at hg'
      cases hg'
  rcases List.mem_append.1 hq with hq | hq
  · exact ((h.each q hq).on hb).fr hf (fun g cap hO => hno g cap _ hO)
  · exact (hr q hq).fr hf (fun g cap hO => hno g cap _ hO)
theorem after_ok' (w : World) (p : Addr) (c nb : Nat) (l : List Int) (a0 : Option Addr) (n ac : Nat) (L : List ActR) (kv : Value) (keep : List Bool) (hb : Bytes w (some p) l) (hl : l.length = 512 * nb) (h0 : 1 ≤ nb) (h1 : nb ≤ 16384)
    (hA : Acts w a0 L) (hE : ∀ q ∈ L, actE nb q = 0) (hK : Bools w kv keep) (hkl : keep.length ≤ 9223372036854775807) (hn : n = L.length) :
    Calls Try.prog 23 #[.slice (some p) (512 * nb : Nat) c, .slice a0 n ac, kv] w fun e w' => ∃ g cap, e = .returned (.tuple #[.slice (some ⟨g, 0, none⟩) (512 * nb : Nat) cap, .int .i64 0]) ∧ w.heap.size ≤ g ∧ OwnB w' g cap (aft nb l L keep) ∧ Below w.heap.size w w' := by
  subst hn
  exact after_ok w p c nb l a0 ac L kv keep hb hl h0 h1 hA hE hK hkl
/-- within Splits' loops -/
structure SpW (w1 wr : World) (m : Nat) (v : Value) (P : List PutR) (k : Nat) (L : List ActR) : Prop where
  row : AcR wr m v L
  len : L.length = k
  ab : L.map ActR.abs = (P.take k).map (putA m)
  own : ∀ j, v.ownBlock = some j → w1.heap.size ≤ j
  bel : Below w1.heap.size w1 wr
theorem SpW.zero (w : World) (m : Nat) (P : List PutR) : SpW w w m (.slice none 0 0) P 0 [] :=
  ⟨⟨⟨rfl, .inl ⟨rfl, rfl⟩⟩, fun q hq => by cases hq⟩, rfl, rfl, (fun j hj => by cases hj), Below.refl _ _⟩
theorem SpW.next {w1 wr wa wb : World} {m g cap k : Nat} {v : Value} {P : List PutR} {L : List ActR} {q : PutR} {r : ActR} (h : SpW w1 wr m v P k L) (hq : P[k]? = some q) (ha : Below wr.heap.size wr wa) (hr : OkAct wa m r) (hab : r.abs = putA m q)
    (ho : wb.ownsRow 0 54 3 (.slice (some ⟨g, 0, none⟩) (k + 1) cap) (k + 1) (L.flatMap ActR.cells ++ r.cells)) (hf : Fr (fun j => v.ownBlock = some j) wa wb) (hg : v.ownBlock = some g ∨ wa.heap.size ≤ g) : SpW w1 wb m (.slice (some ⟨g, 0, none⟩) (k + 1) cap) P (k + 1) (L ++ [r]) := by
  refine ⟨h.row.app ha (M := [r]) (fun x hx => by rw [List.mem_singleton] at hx; subst hx; exact hr) (by rw [h.len]; simpa using ho) hf, by rw [List.length_append, h.len]; rfl, ?_, fun j hj => ?_, ?_⟩
  · rw [List.map_append, h.ab, List.take_add_one, hq, List.map_append]
    show _ ++ [r.abs] = _ ++ [putA m q]
    rw [hab]
  · cases hj
    exact hg.elim (h.own g) (fun e => Nat.le_trans h.bel.size (Nat.le_trans ha.size e))
  · exact (h.bel.trans (ha.mono h.bel.size)).trans (hf.below _ h.own (Nat.le_trans h.bel.size ha.size))
/-- the first row, closed by a flush -/
structure SpX (w1 wr : World) (m gA cA k : Nat) (L : List ActR) : Prop where
  row : AcR wr m (.slice (some ⟨gA, 0, none⟩) (k + 1) cA) (L ++ [⟨2, 0, none, 0, []⟩])
  len : L.length = k
  own : w1.heap.size ≤ gA
  bel : Below w1.heap.size w1 wr
theorem SpX.mk' {w1 wr wa wb : World} {m g cap k : Nat} {v : Value} {P : List PutR} {L : List ActR} (h : SpW w1 wr m v P k L) (ha : Below wr.heap.size wr wa)
    (ho : wb.ownsRow 0 54 3 (.slice (some ⟨g, 0, none⟩) (k + 1) cap) (k + 1) (L.flatMap ActR.cells ++ ActR.cells ⟨2, 0, none, 0, []⟩)) (hf : Fr (fun j => v.ownBlock = some j) wa wb) (hg : v.ownBlock = some g ∨ wa.heap.size ≤ g) : SpX w1 wb m g cap k L := by
  refine ⟨h.row.app ha (M := [⟨2, 0, none, 0, []⟩]) (fun x hx => by rw [List.mem_singleton] at hx; subst hx; exact .inl ⟨rfl, rfl, rfl, rfl⟩) (by rw [h.len]; simpa using ho) hf, h.len, hg.elim (h.own g) (fun e => Nat.le_trans h.bel.size (Nat.le_trans ha.size e)), ?_⟩
  exact (h.bel.trans (ha.mono h.bel.size)).trans (hf.below _ h.own (Nat.le_trans h.bel.size ha.size))
set_option maxRecDepth 100000 in
set_option maxHeartbeats 8000000 in
theorem splits_any (w : World) (n : Int) (a1 a2 : Option Addr) (c1 c2 : Nat) (kv : Value) (P1 P2 : List PutR) (keep : List Bool) (hP1 : Puts w a1 P1) (hP2 : Puts w a2 P2) (hK : Bools w kv keep) (hkl : keep.length ≤ 9223372036854775807) :
    Calls Try.prog 6 #[.int .i64 n, .slice a1 P1.length c1, .slice a2 P2.length c2, kv] w fun e w' => e = .returned (.bool true) ∧ Below w.heap.size w w' := by
  have hl1 := hP1.len
  have hl2 := hP2.len
  have HP1 : Hid (Puts w a1 P1) := hP1
  have HP2 : Hid (Puts w a2 P2) := hP2
  have HK : Hid (Bools w kv keep) := hK
  obtain ⟨ka, kc, rfl, hkk⟩ := hK
  clear hP1 hP2 hkk
  obtain ⟨i1, j1, j2, j3, j4⟩ := info_parts infoAct
  go_enter Try.func6, Try.ntmps6
  go_upto_region 7 with (go_at_call 15; refine (fresh_any _ n).mono ?_; rintro e w1 ⟨d, L0, nw, capL, g, cap, m, rfl, hm, hm1, hm9, q1, q2, q3, q4, q5, hD, hO, hb⟩; have H1 : Hid (Disk w1 (newDk d L0 nw capL m (frs m)) ∧ OwnB w1 g cap (frs m) ∧ Below w.heap.size w w1) := ⟨hD, hO, hb⟩; clear hD hO hb q5 hm)
  go_loopw [11, 13, 28, 29, 30, 31, 32, 33, 34, 35, 36, 37, 38, 39, 40, 41, 42, 43, 44, 45, 46, 47] (fun v i _ _ _ _ _ _ _ _ _ _ _ _ _ _ _ _ _ _ _ _ wr => ∃ k : Nat, k ≤ P1.length ∧ k ≤ 60 ∧ i = .int .i64 k ∧ ∃ L, SpW w1 wr m v P1 k L) (fun _ i _ _ _ _ _ _ _ _ _ _ _ _ _ _ _ _ _ _ _ _ _ => P1.length - (intOf i).toNat)
  case atStart => exact ⟨0, Nat.zero_le _, Nat.zero_le _, rfl, _, SpW.zero w1 m P1⟩
  case round =>
    obtain ⟨k, hk, hk2, rfl, L, hS⟩ := hrel
    have HS : Hid (SpW w1 wr m u11 P1 k L) := hS
    clear hS
    by_cases hgo : k < P1.length ∧ k < 60
    · obtain ⟨hlt, hbr⟩ := hgo
      have hPr := (HP1.out.on H1.out.2.2).on HS.out.bel
      obtain ⟨b, off, rfl, hc⟩ := hPr.at_.resolve_left (by intro e; rw [e] at hlt; simp at hlt)
      obtain ⟨q, hq⟩ : ∃ q, P1[k]? = some q := ⟨P1[k], by simp [hlt]⟩
      have hqx := hPr.each q (List.mem_of_getElem? hq)
      obtain ⟨c0, c1, c2⟩ := hc k q hq
      have HQ : Hid (P1[k]? = some q ∧ (0 ≤ q.x ∧ q.x < 256)) := ⟨hq, hqx⟩
      have HD : Hid (Disk wr.drew (newDk d L0 nw capL m (frs m)) ∧ Below wr.heap.size wr wr.drew) := ⟨(H1.out.1.on HS.out.bel).on (Below.refl _ wr).drew, (Below.refl _ wr).drew⟩
      clear hPr hc hq hqx
      go_wp2
      go_region_law (first
        | (refine step_own rfl (.tmp 38) (.tmp 46) 52 rfl 54 i1 _ 3 40 Try.underlying52 j1 j2 j3 j4 rfl (by decide) u11 k (L.flatMap ActR.cells) (by simp [Act.eval]) HW3.out ⟨w2.heap.size, 0, none⟩ 1 1 r.cells (by simp [Act.eval]) (by decide) rfl HN3.out (by intro u hu; simp [ActR.cells] at hu; rcases hu with rfl | rfl | rfl <;> rfl) (by unfold maxLen; omega) (by omega) ?_; intro g' c' w4 ho hf hg; have H4 : Hid (SpW w1 w4 m (.slice (some ⟨g', 0, none⟩) (k + 1) c') P1 (k + 1) (L ++ [r])) := HS.out.next HQ.out.1 HB3.out (H2.out.2.1.on HA3.out) H2.out.1 ho hf hg; clear ho hf hg)
        | (go_simp; go_at_call 11; refine (blocks_any _ (newDk d L0 nw capL m (frs m)) HD.out.1).mono ?_; rintro e w' ⟨rfl, rfl⟩; rw [show ((newDk d L0 nw capL m (frs m)).nb : Int) = (m : Int) from rfl])
        | (go_simp; go_at_call 22; refine (act_any _ q m (by omega) (by omega) HQ.out.2).mono ?_; rintro e w2 ⟨r, rfl, hab, hok, hb2⟩; have H2 : Hid (r.abs = putA m q ∧ OkAct w2 m r ∧ Below wr.heap.size wr w2) := ⟨hab, hok, HD.out.2.trans hb2⟩; have HA3 : Hid (Below w2.heap.size w2 (w2.alloc (.cells #[.int .i64 r.kind, .int .i64 r.b, .slice r.a r.x.length r.c] 54))) := (Below.refl _ _).alloc (Nat.le_refl _) _; have HB3 : Hid (Below wr.heap.size wr (w2.alloc (.cells #[.int .i64 r.kind, .int .i64 r.b, .slice r.a r.x.length r.c] 54))) := H2.out.2.2.trans (HA3.out.mono H2.out.2.2.size); have HN3 : Hid (∀ j u, r.cells[j]? = some u → (w2.alloc (.cells #[.int .i64 r.kind, .int .i64 r.b, .slice r.a r.x.length r.c] 54)).cell? ((⟨w2.heap.size, 0, none⟩ : Addr).add j) = some u) := news_of (heap_alloc_new w2 _) _ rfl; have HW3 : Hid ((w2.alloc (.cells #[.int .i64 r.kind, .int .i64 r.b, .slice r.a r.x.length r.c] 54)).ownsRow 0 54 3 u11 k (L.flatMap ActR.cells)) := (by have e := (HS.out.row.on HB3.out).row; rw [HS.out.len] at e; exact e); clear hab hok hb2))
      all_goals
        go_wp2
        exact ⟨⟨k + 1, hlt, hbr, rfl, _, H4.out⟩, by simp [intOf]; omega⟩
    · by_cases hlt : k < P1.length
      case' pos =>
        have h60 : decide ((k : Int) < 60) = false := by rw [decide_eq_false_iff_not]; omega
        have hltd : decide ((k : Int) < (P1.length : Int)) = true := by rw [decide_eq_true_eq]; omega
      case' neg =>
        have hltd : decide ((k : Int) < (P1.length : Int)) = false := by rw [decide_eq_false_iff_not]; omega
      all_goals
        have HA : Hid (Below wr.heap.size wr (wr.alloc (.cells #[.int .i64 2, .int .i64 0, .slice none 0 0] 54))) := (Below.refl _ _).alloc (Nat.le_refl _) _
        have HN : Hid (∀ j u, (ActR.cells ⟨2, 0, none, 0, []⟩)[j]? = some u → (wr.alloc (.cells #[.int .i64 2, .int .i64 0, .slice none 0 0] 54)).cell? ((⟨wr.heap.size, 0, none⟩ : Addr).add j) = some u) := news_of (heap_alloc_new wr _) _ rfl
        have HW : Hid ((wr.alloc (.cells #[.int .i64 2, .int .i64 0, .slice none 0 0] 54)).ownsRow 0 54 3 u11 k (L.flatMap ActR.cells)) := by
          have e := (HS.out.row.on HA.out).row
          rw [HS.out.len] at e; exact e
        clear hgo
        go_upto_region 12 with (at_builtin; refine wp_own rfl (.tmp 48) (.tmp 50) 52 rfl 54 i1 _ 3 40 Try.underlying52 j1 j2 j3 j4 rfl (by decide) u11 k (L.flatMap ActR.cells) rfl HW.out ⟨wr.heap.size, 0, none⟩ 1 1 (ActR.cells ⟨2, 0, none, 0, []⟩) rfl (by decide) rfl HN.out (by intro u hu; simp [ActR.cells] at hu; rcases hu with rfl | rfl | rfl <;> rfl) (by unfold maxLen; omega) (by omega) ?_; intro gA cA w6 ho hf hg; have HX : Hid (SpX w1 w6 m gA cA k L) := SpX.mk' HS.out HA.out ho hf hg; clear ho hf hg)
        clear HA HN HW HS
        go_loopw [12, 14, 52, 53, 54, 55, 56, 57, 58, 59, 60, 61, 62, 63, 64, 65, 66, 67, 68, 69, 70, 71] (fun v i _ _ _ _ _ _ _ _ _ _ _ _ _ _ _ _ _ _ _ _ wr => ∃ t : Nat, t ≤ P2.length ∧ t ≤ 60 ∧ i = .int .i64 t ∧ ∃ M, SpW w6 wr m v P2 t M) (fun _ i _ _ _ _ _ _ _ _ _ _ _ _ _ _ _ _ _ _ _ _ _ => P2.length - (intOf i).toNat)
        case atStart => exact ⟨0, Nat.zero_le _, Nat.zero_le _, rfl, _, SpW.zero w6 m P2⟩
        case round =>
          obtain ⟨t, ht, ht2, rfl, M, hS2⟩ := hrel
          have HS2 : Hid (SpW w6 wr m u12 P2 t M) := hS2
          clear hS2
          by_cases hgo2 : t < P2.length ∧ t < 60
          · obtain ⟨hlt, hbr⟩ := hgo2
            have hPr := ((HP2.out.on H1.out.2.2).on HX.out.bel).on HS2.out.bel
            obtain ⟨b, off, rfl, hc⟩ := hPr.at_.resolve_left (by intro e; rw [e] at hlt; simp at hlt)
            obtain ⟨q, hq⟩ : ∃ q, P2[t]? = some q := ⟨P2[t], by simp [hlt]⟩
            have hqx := hPr.each q (List.mem_of_getElem? hq)
            obtain ⟨c0, c1, c2⟩ := hc t q hq
            have HQ : Hid (P2[t]? = some q ∧ (0 ≤ q.x ∧ q.x < 256)) := ⟨hq, hqx⟩
            have HD : Hid (Disk wr.drew (newDk d L0 nw capL m (frs m)) ∧ Below wr.heap.size wr wr.drew) := ⟨((H1.out.1.on HX.out.bel).on HS2.out.bel).on (Below.refl _ wr).drew, (Below.refl _ wr).drew⟩
            clear hPr hc hq hqx
            go_wp2
            go_region_law (first
              | (refine step_own rfl (.tmp 62) (.tmp 70) 52 rfl 54 i1 _ 3 40 Try.underlying52 j1 j2 j3 j4 rfl (by decide) u12 t (M.flatMap ActR.cells) (by simp [Act.eval]) HW3.out ⟨w2.heap.size, 0, none⟩ 1 1 r.cells (by simp [Act.eval]) (by decide) rfl HN3.out (by intro u hu; simp [ActR.cells] at hu; rcases hu with rfl | rfl | rfl <;> rfl) (by unfold maxLen; omega) (by omega) ?_; intro g' c' w4 ho hf hg; have H4 : Hid (SpW w6 w4 m (.slice (some ⟨g', 0, none⟩) (t + 1) c') P2 (t + 1) (M ++ [r])) := HS2.out.next HQ.out.1 HB3.out (H2.out.2.1.on HA3.out) H2.out.1 ho hf hg; clear ho hf hg)
              | (go_simp; go_at_call 11; refine (blocks_any _ (newDk d L0 nw capL m (frs m)) HD.out.1).mono ?_; rintro e w' ⟨rfl, rfl⟩; rw [show ((newDk d L0 nw capL m (frs m)).nb : Int) = (m : Int) from rfl])
              | (go_simp; go_at_call 22; refine (act_any _ q m (by omega) (by omega) HQ.out.2).mono ?_; rintro e w2 ⟨r, rfl, hab, hok, hb2⟩; have H2 : Hid (r.abs = putA m q ∧ OkAct w2 m r ∧ Below wr.heap.size wr w2) := ⟨hab, hok, HD.out.2.trans hb2⟩; have HA3 : Hid (Below w2.heap.size w2 (w2.alloc (.cells #[.int .i64 r.kind, .int .i64 r.b, .slice r.a r.x.length r.c] 54))) := (Below.refl _ _).alloc (Nat.le_refl _) _; have HB3 : Hid (Below wr.heap.size wr (w2.alloc (.cells #[.int .i64 r.kind, .int .i64 r.b, .slice r.a r.x.length r.c] 54))) := H2.out.2.2.trans (HA3.out.mono H2.out.2.2.size); have HN3 : Hid (∀ j u, r.cells[j]? = some u → (w2.alloc (.cells #[.int .i64 r.kind, .int .i64 r.b, .slice r.a r.x.length r.c] 54)).cell? ((⟨w2.heap.size, 0, none⟩ : Addr).add j) = some u) := news_of (heap_alloc_new w2 _) _ rfl; have HW3 : Hid ((w2.alloc (.cells #[.int .i64 r.kind, .int .i64 r.b, .slice r.a r.x.length r.c] 54)).ownsRow 0 54 3 u12 t (M.flatMap ActR.cells)) := (by have e := (HS2.out.row.on HB3.out).row; rw [HS2.out.len] at e; exact e); clear hab hok hb2))
            all_goals
              go_wp2
              first
                  | exact ⟨⟨t + 1, hlt, hbr, rfl, _, H4.out⟩, by simp [intOf]; omega⟩
                  | (refine ⟨?_, by simp [intOf]; omega⟩; (repeat apply Exists.intro); exact ⟨⟨t + 1, hlt, hbr, rfl, _, H4.out⟩, rfl⟩)
          · by_cases hlt2 : t < P2.length
            case' pos =>
              have h60b : decide ((t : Int) < 60) = false := by rw [decide_eq_false_iff_not]; omega
              have hltdb : decide ((t : Int) < (P2.length : Int)) = true := by rw [decide_eq_true_eq]; omega
            case' neg =>
              have hltdb : decide ((t : Int) < (P2.length : Int)) = false := by rw [decide_eq_false_iff_not]; omega
            all_goals
              have hu : ∃ a12 c12, u12 = .slice a12 t c12 := by
                obtain ⟨a, c, hv, _⟩ := owns_slice HS2.out.row.row
                rw [HS2.out.len] at hv
                exact ⟨a, c, hv⟩
              have HU : Hid ((u12 = .slice none 0 0 ∧ t = 0) ∨ ∃ g2 cap2, u12 = .slice (some ⟨g2, 0, none⟩) t cap2) := by
                have hlen := HS2.out.len
                rcases HS2.out.row.row.2 with ⟨hv, h0⟩ | ⟨g2, cap2, cur, hv, _⟩
                · exact .inl ⟨hv, by omega⟩
                · exact .inr ⟨g2, cap2, by rw [hv, hlen]⟩
              obtain ⟨a12, c12, rfl⟩ := hu
              have HIm : Hid (OwnB wr g cap (frs m) ∧ Below w.heap.size w wr) := ⟨(H1.out.2.1.on HX.out.bel).on HS2.out.bel, (H1.out.2.2.trans (HX.out.bel.mono H1.out.2.2.size)).trans (HS2.out.bel.mono (Nat.le_trans H1.out.2.2.size HX.out.bel.size))⟩
              have HRa : Hid (AcR wr m (.slice (some ⟨gA, 0, none⟩) (k + 1) cA) (L ++ [⟨2, 0, none, 0, []⟩]) ∧ AcR wr m (.slice a12 t c12) M ∧ L.length = k ∧ M.length = t) := ⟨HX.out.row.on HS2.out.bel, HS2.out.row, HX.out.len, HS2.out.len⟩
              have hgA : w.heap.size ≤ gA := Nat.le_trans H1.out.2.2.size HX.out.own
              clear HX HS2 hgo2
              obtain ⟨A, hA⟩ : ∃ A, A = L ++ [⟨2, 0, none, 0, []⟩] := ⟨_, rfl⟩
              have hAl : A.length = k + 1 := by rw [hA, List.length_append, HRa.out.2.2.1]; rfl
              have HAA : Hid (A = L ++ [⟨2, 0, none, 0, []⟩] ∧ A.length = k + 1 ∧ AcR wr m (.slice (some ⟨gA, 0, none⟩) (k + 1) cA) A ∧ AcR wr m (.slice a12 t c12) M ∧ M.length = t) := ⟨hA, hAl, by rw [hA]; exact HRa.out.1, HRa.out.2.1, HRa.out.2.2.2⟩
              have hA4 : A.length ≤ 4000000 := by omega
              have hMt : M.length = t := HRa.out.2.2.2
              have hM4 : M.length ≤ 4000000 := by omega
              have HC1 : Hid (Calls Try.prog 23 #[.slice (some ⟨g, 0, none⟩) (512 * m : Nat) cap, .slice (some ⟨gA, 0, none⟩) (k + 1) cA, .slice ka keep.length kc] wr fun e w' => ∃ g' cap', e = .returned (.tuple #[.slice (some ⟨g', 0, none⟩) (512 * m : Nat) cap', .int .i64 0]) ∧ OwnB w' g' cap' (aft m (frs m) A keep) ∧ Below wr.heap.size wr w') := by
                have z := HAA.out.2.2.1.acts hA4
                refine (after_ok' wr ⟨g, 0, none⟩ cap m (frs m) (some ⟨gA, 0, none⟩) (k + 1) cA A _ keep HIm.out.1.bytes (frs_length m) (by omega) (by omega) z.2.1 z.2.2 (HK.out.on HIm.out.2) hkl z.1).mono ?_
                rintro e w' ⟨g', c', h1, _, h2, h3⟩
                exact ⟨g', c', h1, h2, h3⟩
              have hHl : (aft m (frs m) A keep).length = 512 * m := by rw [aft_length, frs_length]
              have HC2 : Hid (∀ w7 g7 c7, OwnB w7 g7 c7 (aft m (frs m) A keep) → Below wr.heap.size wr w7 → Calls Try.prog 23 #[.slice (some ⟨g7, 0, none⟩) (512 * m : Nat) c7, .slice a12 t c12, .slice ka keep.length kc] w7 fun e w' => ∃ g' cap', e = .returned (.tuple #[.slice (some ⟨g', 0, none⟩) (512 * m : Nat) cap', .int .i64 0]) ∧ OwnB w' g' cap' (aft m (aft m (frs m) A keep) M keep) ∧ Below wr.heap.size wr w') := by
                intro w7 g7 c7 ho hb
                have z := (HAA.out.2.2.2.1.on hb).acts hM4
                refine (after_ok' w7 ⟨g7, 0, none⟩ c7 m _ a12 t c12 M _ keep ho.bytes hHl (by omega) (by omega) z.2.1 z.2.2 (HK.out.on (HIm.out.2.trans (hb.mono HIm.out.2.size))) hkl z.1).mono ?_
                rintro e w' ⟨g', c', h1, _, h2, h3⟩
                exact ⟨g', c', h1, h2, hb.trans (h3.mono hb.size)⟩
              have HC3 : Hid (∀ w9 v9 c9, AcR w9 m (.slice v9 (k + 1 + t) c9) (A ++ M) → OwnB w9 g cap (frs m) → Below w.heap.size w w9 → Calls Try.prog 23 #[.slice (some ⟨g, 0, none⟩) (512 * m : Nat) cap, .slice v9 (k + 1 + t) c9, .slice ka keep.length kc] w9 fun e w' => ∃ g' cap', e = .returned (.tuple #[.slice (some ⟨g', 0, none⟩) (512 * m : Nat) cap', .int .i64 0]) ∧ OwnB w' g' cap' (aft m (aft m (frs m) A keep) M keep) ∧ Below w9.heap.size w9 w') := by
                intro w9 v9 c9 hr hoi hb
                have z := hr.acts (by rw [List.length_append]; omega)
                refine (after_ok' w9 ⟨g, 0, none⟩ cap m (frs m) v9 (k + 1 + t) c9 (A ++ M) _ keep hoi.bytes (frs_length m) (by omega) (by omega) z.2.1 z.2.2 (HK.out.on hb) hkl z.1).mono ?_
                rintro e w' ⟨g', c', h1, _, h2, h3⟩
                refine ⟨g', c', h1, ?_, h3⟩
                rw [split_math m (frs m) (aft m (frs m) A keep) L M M (A ++ M) keep ⟨2, 0, none, 0, []⟩ rfl rfl (by rw [List.map_append, HAA.out.1]) (by rw [HAA.out.1])]
                exact h2
              have HXl : Hid ((aft m (aft m (frs m) A keep) M keep).length = 512 * m) := by rw [aft_length]; exact hHl
              clear HRa hA hAl hA4 hHl hMt
              generalize hX : aft m (aft m (frs m) A keep) M keep = X at *
              generalize aft m (frs m) A keep = Y at *
              clear hX
              go_upto_region 16 with (go_at_call 23; refine HC1.out.mono ?_; rintro e w7 ⟨g7, c7, rfl, ho7, hb7⟩; have H7 : Hid (OwnB w7 g7 c7 Y ∧ Below wr.heap.size wr w7) := ⟨ho7, hb7⟩; clear ho7 hb7)
              go_upto_region 19 with (go_at_call 23; refine (HC2.out _ _ _ H7.out.1 H7.out.2).mono ?_; rintro e w8 ⟨g8, c8, rfl, ho8, hb8⟩; have H8 : Hid (OwnB w8 g8 c8 X ∧ Below wr.heap.size wr w8) := ⟨ho8, hb8⟩; clear ho8 hb8)
              rcases HU.out with ⟨hv, h0⟩ | ⟨g2, cap2, hv⟩
              case' inl =>
                have ht0 : t = 0 := h0
                subst ht0
                cases hv
                have hM0 : M = [] := List.eq_nil_of_length_eq_zero HAA.out.2.2.2.2
                have HR8 : Hid (AcR w8 m (.slice (some ⟨gA, 0, none⟩) (k + 1 + 0) cA) (A ++ M)) := by
                  have z := HAA.out.2.2.1.on H8.out.2
                  rw [hM0, List.append_nil]; exact z
                have HO8 : Hid (w8.ownsRow 0 54 3 (.slice (some ⟨gA, 0, none⟩) (k + 1) cA) (k + 1) (A.flatMap ActR.cells)) := by
                  have z := (HAA.out.2.2.1.on H8.out.2).row
                  rw [HAA.out.2.1] at z; exact z
                clear hM0
                go_upto_region 20 with (first
                  | (at_builtin; refine wpList_append_own_none rfl (.tmp 90) (.tmp 91) 52 rfl 0 54 i1 3 Try.underlying52 j1 (.slice (some ⟨gA, 0, none⟩) (k + 1) cA) (k + 1) (A.flatMap ActR.cells) rfl HO8.out rfl ?_; have HR9 : Hid (OwnB w8 g cap (frs m) ∧ Below w.heap.size w w8 ∧ OwnB w8 g8 c8 X) := ⟨HIm.out.1.on H8.out.2, HIm.out.2.trans (H8.out.2.mono HIm.out.2.size), H8.out.1⟩)
                  | (go_at_call 23; refine (HC3.out w8 _ _ HR8.out HR9.out.1 HR9.out.2.1).mono ?_; rintro e w10 ⟨g10, c10, rfl, ho10, hb10⟩; have H10 : Hid (OwnB w10 g10 c10 X ∧ OwnB w10 g8 c8 X ∧ Below w.heap.size w w10) := ⟨ho10, HR9.out.2.2.on hb10, HR9.out.2.1.trans (hb10.mono HR9.out.2.1.size)⟩; clear ho10 hb10))
              case' inr =>
                cases hv
                have HO8 : Hid (w8.ownsRow 0 54 3 (.slice (some ⟨gA, 0, none⟩) (k + 1) cA) (k + 1) (A.flatMap ActR.cells)) := by
                  have z := (HAA.out.2.2.1.on H8.out.2).row
                  rw [HAA.out.2.1] at z; exact z
                have HM8 : Hid (w8.ownsRow 0 54 3 (.slice (some ⟨g2, 0, none⟩) t c12) t (M.flatMap ActR.cells)) := by
                  have z := (HAA.out.2.2.2.1.on H8.out.2).row
                  rw [HAA.out.2.2.2.2] at z; exact z
                have HN8 : Hid (∀ j u, (M.flatMap ActR.cells)[j]? = some u → w8.cell? ((⟨g2, 0, none⟩ : Addr).add j) = some u) := HM8.out.cells (g := g2) rfl
                have HO1 : Hid (∀ u ∈ M.flatMap ActR.cells, u.oneCell' = true) := by
                  intro u hu
                  obtain ⟨q, _, hq⟩ := List.mem_flatMap.1 hu
                  simp [ActR.cells] at hq
                  rcases hq with rfl | rfl | rfl <;> rfl
                go_upto_region 20 with (first
                  | (at_builtin; refine wpList_append_own _ rfl (.tmp 90) (.tmp 91) 52 rfl 0 54 i1 _ 3 40 Try.underlying52 j1 j2 j3 j4 rfl (by decide) (.slice (some ⟨gA, 0, none⟩) (k + 1) cA) (k + 1) (A.flatMap ActR.cells) rfl HO8.out ⟨g2, 0, none⟩ t c12 (M.flatMap ActR.cells) rfl HM8.out.1 HN8.out HO1.out (by unfold maxLen; omega) (by omega) (Nat.zero_le _) ?_; intro v' w9 ho9 hg9 hn9; obtain ⟨a9, c9, hv9, hx9⟩ := owns_slice ho9; clear hx9 hn9; subst hv9; have HR8 : Hid (AcR w9 m (.slice a9 (k + 1 + t) c9) (A ++ M)) := (HAA.out.2.2.1.on H8.out.2).app (Below.refl _ _) ((HAA.out.2.2.2.1.on H8.out.2).each) (by rw [HAA.out.2.1, HAA.out.2.2.2.2]; exact ho9) (grown_fr hg9); have HR9 : Hid (OwnB w9 g cap (frs m) ∧ Below w.heap.size w w9 ∧ OwnB w9 g8 c8 X) := ⟨(HIm.out.1.on H8.out.2).fr (grown_fr hg9) (ownB_ne (HIm.out.1.on H8.out.2) HO8.out), (HIm.out.2.trans (H8.out.2.mono HIm.out.2.size)).trans ((grown_fr hg9).below _ (fun j hj => by cases hj; exact hgA) (Nat.le_trans HIm.out.2.size H8.out.2.size)), H8.out.1.fr (grown_fr hg9) (ownB_ne H8.out.1 HO8.out)⟩; clear ho9 hg9)
                  | (go_at_call 23; refine (HC3.out w9 _ _ HR8.out HR9.out.1 HR9.out.2.1).mono ?_; rintro e w10 ⟨g10, c10, rfl, ho10, hb10⟩; have H10 : Hid (OwnB w10 g10 c10 X ∧ OwnB w10 g8 c8 X ∧ Below w.heap.size w w10) := ⟨ho10, HR9.out.2.2.on hb10, HR9.out.2.1.trans (hb10.mono HR9.out.2.1.size)⟩; clear ho10 hb10))
              all_goals
                have e1 : (convert 22 9 (.slice (some ⟨g8, 0, none⟩) (512 * m) c8)).run Try.prog w10 = .ok (.string (strOfNums X)) w10 := str_opt H10.out.2.1.bytes HXl.out
                have e2 : (convert 22 9 (.slice (some ⟨g10, 0, none⟩) (512 * m) c10)).run Try.prog w10 = .ok (.string (strOfNums X)) w10 := str_opt H10.out.1.bytes HXl.out
                go_wp2
                go_ret
                exact ⟨rfl, H10.out.2.2⟩
end Go.Proofs.Ytgodjnnciacliaa
